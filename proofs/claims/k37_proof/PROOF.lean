import PyProof.Rows.All
import Wide.All
import OpenK.AllK
import Wide.FinOn
import KE.KStateDown
import KE.SortData
import HandS.ForMost
import HandS.More
import HandS.Walk
import HandS.Zip
import HandS.Style
import HandS.TupAny
import HandS.IsInst
import HandS.Wide
import HandS.Flow
import HandS.WordsExc
import HandS.Defaults
import HandS.Head0
import HandS.Head1
import HandS.Head2
import HandS.HeadEnd
import HandS.HeadHook1
import HandS.HeadHook2
import HandS.HeadNt
import KE.DataCmp
import HandS.SortKw
import PyProof.TupleOfSeq
import HandS.NoneIn
import HandS.ExcIs
import HandS.RevRange
import KE.GoesEnum
import KE.DataAny
import HandS.Conv
import HandS.SortInts
import HandS.FStr
import HandS.Strs
import HandS.TupSets
import HandS.DictComp
import HandS.ExcInit
import HandS.SetKeys
import HandS.SetTxt0
import HandS.SetBool
import HandS.SetFor
import KE.GoesEnumKw
import PyProof.Rows.CallKwBuiltin
import KE.DatumOrd
import HandS.ExcField
import HandS.HotCalls
import HandS.Replace
import HandS.TupLe
import KE.DataMinMax
import PyProof.StrBlock2
import HandS.WordsDict
import HandS.TupMul
import HandS.TryOnly
import PyProof.MaxThree
import PyProof.NeKinds
import HandS.Deep
import HandS.Dict
import KE.GoesMore
import PyProof.EqKinds
import HandS.Hot
import HandS.ExcCtx
import PySem.Challenge.RW_felltimber_k37_plays
set_option Elab.async false
set_option linter.all false
set_option maxRecDepth 100000
set_option maxHeartbeats 16000000
namespace FT
open PySem PySem.W PySem.Spec PyProof.Rows L2
theorem hunT {A : Around} {e : Env} {k : Nat} (hr : Room k (A.deeper e)) : A.units + 3 + 200 < cLine := by
 have := hr.un
 have h3 : (A.deeper e).units = A.units + 3 := rfl
 omega
theorem nmn {α : Type} {a : α} : ¬ a ∈ ([] : List α) := List.not_mem_nil
theorem mcs {α : Type} {a : α} {l : List α} : a ∈ a :: l := List.mem_cons_self
theorem mcm {α : Type} (y : α) {a : α} {l : List α} (h : a ∈ l) : a ∈ y :: l := List.mem_cons_of_mem y h
theorem small1000 {n : Nat} (h : n <= 10000000) : n < sizeLine := Nat.lt_of_le_of_lt h (by decide)
structure SB (ps : List Addr) (H H' : Hp) : Prop where
 keep : ∀ b o, H b = some o -> b ∉ ps -> H' b = some o
 tups : ∀ b xs, H b = some (.tup xs) -> H' b = some (.tup xs)
 frzs : ∀ b o u, H b = some (.frz o u) -> H' b = some (.frz o u)
 dom : ∀ b, H' b = none -> H b = none
section
variable {K : PySem.W.Frag} {ps qs : List Addr} {H H' H1 H2 : Hp} {a p : Addr} {xs : List V}
theorem SB.refl : SB ps H H := ⟨fun _ _ h _ => h, fun _ _ h => h, fun _ _ _ h => h, fun _ h => h⟩
theorem SB.trans (a : SB ps H H1) (b : SB ps H1 H2) : SB ps H H2 :=
 ⟨fun c o h n => b.keep c o (a.keep c o h n) n, fun c x h => b.tups c x (a.tups c x h), fun c o u h => b.frzs c o u (a.frzs c o u h), fun c h => a.dom c (b.dom c h)⟩
theorem SB.mono (h : SB ps H H') (hs : ∀ b ∈ ps, b ∈ qs) : SB qs H H' := ⟨fun c o e n => h.keep c o e fun z => n (hs c z), h.tups, h.frzs, h.dom⟩
theorem SB.nil (h : SB [] H H') : SB ps H H' := h.mono fun _ z => absurd z (nmn)
theorem SB.new (h : H p = none) (o : HO) : SB ps H (upd H p o) := by
 refine ⟨fun b u e _ => ?_, fun b u e => ?_, fun b v u e => ?_, fun b e => ?_⟩
 ·rw [upd_ne (ne_of_none e h)]; exact e
 ·rw [upd_ne (ne_of_none e h)]; exact e
 ·rw [upd_ne (ne_of_none e h)]; exact e
 ·by_cases q : b = p
  ·subst q; exact h
  ·rw [upd_ne q] at e; exact e
theorem SB.set (h : H p = some (.lst xs)) (hp : p ∈ ps) (o : HO) : SB ps H (upd H p o) := by
 refine ⟨fun b u e n => ?_, fun b u e => ?_, fun b v u e => ?_, fun b e => ?_⟩
 ·rw [upd_ne (fun (z : b = p) => n (by rw [z]; exact hp))]; exact e
 ·rw [upd_ne (fun (z : b = p) => by subst z; rw [h] at e; cases e)]; exact e
 ·rw [upd_ne (fun (z : b = p) => by subst z; rw [h] at e; cases e)]; exact e
 ·by_cases q : b = p
  ·subst q; rw [upd_same] at e; cases e
  ·rw [upd_ne q] at e; exact e
theorem SB.drop (h : SB (p :: ps) H H') (n : H p = none) : SB ps H H' := by
 refine ⟨fun b o e m => h.keep b o e fun z => ?_, h.tups, h.frzs, h.dom⟩
 rcases List.mem_cons.mp z with z | z
 ·subst z; rw [n] at e; cases e
 ·exact m z
theorem SB.sqT (e : SB ps H H') (h : SqT K H a xs) : SqT K H' a xs := by
 rcases h with (h | ⟨o, h⟩) | h
 ·exact .inl (.inl (e.tups _ _ h))
 ·exact .inl (.inr ⟨o, e.frzs _ _ _ h⟩)
 ·exact .inr h
theorem SB.sqL (e : SB ps H H') (n : a ∉ ps) (h : SqL K H a xs) : SqL K H' a xs := by
 rcases h with (h | ⟨o, h⟩) | h
 ·exact .inl (.inl (e.keep _ _ h n))
 ·exact .inl (.inr ⟨o, e.frzs _ _ _ h⟩)
 ·exact .inr h
end
inductive Lad where
 | nil
 | cons (e : Lad) (m : Int) (r : Lad)
 deriving DecidableEq
def rLtD (K : PySem.W.Frag) : R2 := fun x y H Q => ∃ d e, Dp K H x d /\ Dp K H y e /\ alike d e = true /\ d ≠ .none /\ d.depth <= 100 /\ Q (.bl (dataLt d e)) H
section
variable {X : Cx}
theorem op_ltD (hu : X.A.units + 100 < cLine) : OpR X (compareOp .Lt) (rLtD X.K) := by
 intro pins s σ H x y v u Q I rx ry h
 obtain ⟨d, e, hd, he, al, hn, hdp, q⟩ := h
 obtain ⟨as, r1⟩ := Dp.reads I d x v hd rx
 obtain ⟨bs, r2⟩ := Dp.reads I e y u he ry
 exact rcLt_alike d e X.A s v u as bs r1 r2 al hn (by have := Nat.min_le_left d.depth e.depth; omega) X.prog X.w X.xe _ ⟨.bl _, H, I, rfl, q⟩
end
mutual
def noList : PyData -> Bool
 | .list _ => false
 | .dict _ => false
 | .tuple ds => noLists ds
 | _ => true
def noLists : List PyData -> Bool
 | [] => true
 | d :: ds => noList d && noLists ds
end
section
variable {K : PySem.W.Frag} {ps : List Addr} {H H' : Hp}
mutual
theorem Dp_sb (e : SB ps H H') : ∀ (d : PyData) (v : V), noList d = true -> Dp K H v d -> Dp K H' v d
 | .none, _, _, h => by cases h; exact .non
 | .bool b, _, _, h => by cases h; exact .bl b
 | .int i, _, _, h => by cases h; exact .int i
 | .str x, _, _, h => by cases h; exact .str x
 | .list ds, _, n, _ => by simp [noList] at n
 | .dict ds, _, n, _ => by simp [noList] at n
 | .tuple ds, _, n, h => by
  cases h with
  | tup hs ha => exact .tup (e.sqT hs) (DpAll_sb e ds _ (by simpa [noList] using n) ha)
theorem DpAll_sb (e : SB ps H H') : ∀ (ds : List PyData) (vs : List V), noLists ds = true -> DpAll K H vs ds -> DpAll K H' vs ds
 | [], _, _, h => by cases h; exact .nil
 | d :: ds, _, n, h => by
  cases h with
  | cons h1 h2 =>
   simp [noLists] at n
   exact .cons (Dp_sb e d _ n.1 h1) (DpAll_sb e ds _ n.2 h2)
end
end
section
variable {K : PySem.W.Frag} {ps : List Addr} {H H' : Hp} {v : V} {l : Lad}
theorem DpAll.length : ∀ {vs : List V} {ds : List PyData}, DpAll K H vs ds -> vs.length = ds.length
 | _, _, .nil => rfl
 | _, _, .cons _ t => by rw [List.length_cons, List.length_cons, DpAll.length t]
theorem DpAll.get : ∀ {vs : List V} {ds : List PyData} {i : Nat} {v : V}, DpAll K H vs ds -> vs[i]? = some v -> ∃ d, ds[i]? = some d /\ Dp K H v d
 | _, _, _, _, .nil, e => by simp at e
 | _, _, 0, _, .cons h t, e => by simp at e; subst e; exact ⟨_, rfl, h⟩
 | _, _, i + 1, v, .cons h t, e => by
  obtain ⟨d, h1, h2⟩ := DpAll.get (i := i) (v := v) t (by simpa using e)
  exact ⟨d, by simpa using h1, h2⟩
end
structure BI (mg : Str -> Option Value) : Prop where
 len : mg "len" = none
 isinstance : mg "isinstance" = none
 int : mg "int" = none
 bool : mg "bool" = none
 str : mg "str" = none
 tuple : mg "tuple" = none
 list : mg "list" = none
 all : mg "all" = none
 zip : mg "zip" = none
 sum : mg "sum" = none
 max : mg "max" = none
 range : mg "range" = none
 enumerate : mg "enumerate" = none
 abs : mg "abs" = none
 sorted : mg "sorted" = none
 min : mg "min" = none
 reversed : mg "reversed" = none
 any : mg "any" = none
 set : mg "set" = none
 dict : mg "dict" = none
 repr : mg "repr" = none
structure Got (P : Program) (w : World) (K : PySem.W.Frag) (mg : Str -> Option Value) (base : Heap) (x : Str) (ps : List Str) (k : Nat) (sp : Sp) : Prop where
 ex : ∃ (f : Addr) (fd : FuncData), FnOk P w K mg base CX0 k f fd ps sp /\ PySem.W.keepIn K (.ref f) = true /\ Binds K fd ps [] /\ mg x = some (.ref f)
section
variable {X : Cx} {x : Str} {ps : List Str} {k : Nat} {sp : Sp} {e : Expr} {es : List Expr} {t : TA} {p pos : Pos}
theorem pe_got (G : Got X.prog X.w X.K X.mg X.base x ps k sp) (hr : Room k X.A) (hg : Gl X x) (ha : PA X (e :: es) t) (hdb : (x == ("__debug__" : Str)) = false := by decide) (he : starEach (e :: es) X.env = (false, eval e X.env) :: starEach es X.env := by rfl) (hpl : (backTo pos (starEach es X.env)).any (·.1) = false := by rfl) :
  PE X (.Call (.Name x p) (e :: es) [] pos) (tCall sp [] E0 t) := by
 obtain ⟨f, fd, h1, h2, h3, h4⟩ := G.ex
 exact pe_call h1 hr hg h4 h2 h3 .nil pass0 ha hdb he hpl
end
def rIsiN (K : PySem.W.Frag) : List V -> Hp -> VK -> Prop := fun xs H Q => ∃ (x : V) (T n : String) (b : Bool), xs = [x, .ty T] /\ TyX K H x (.type n) /\ kitB n T = some b /\ Q (.bl b) H
section
variable {X : Cx}
theorem call_isiN : CallR X (.builtin "isinstance") (rIsiN X.K) := by
 intro pins s σ H xs us Q I r h
 obtain ⟨x, T, n, b, rfl, ty, e, q⟩ := h
 exact call_isi pins s σ H _ us Q I r ⟨x, .ty T, .type n, .type T, b, rfl, .ty T, ty, kit_ty e, q⟩
theorem pe_ty {T : Str} {T' : String} {pos : Pos} (hg : Gl X T) (hm : X.mg T = none) (hv : bootBuiltins T = some (.type T')) (hn : T ≠ "__name__" := by decide) (hd : (T == ("__debug__" : Str)) = false := by decide) : PE X (.Name T pos) (tC (.ty T')) := pe_bltn hg hm hv rfl hn hd
theorem pe_isi {e : Expr} {te : TE} {T : Str} {T' : String} {p p2 pos : Pos} (B : BI X.mg) (he : PE X e te) (hm : X.mg T = none) (hv : bootBuiltins T = some (.type T')) (hg : Gl X "isinstance" := by rfl) (hg2 : Gl X T := by rfl) (hn : T ≠ "__name__" := by decide) (hd : (T == ("__debug__" : Str)) = false := by decide)
  (hs : starEach [e, .Name T p2] X.env = (false, eval e X.env) :: starEach [.Name T p2] X.env := by rfl) (hpl : (backTo pos (starEach [.Name T p2] X.env)).any (·.1) = false := by rfl) :
  PE X (.Call (.Name "isinstance" p) [e, .Name T p2] [] pos) (tCB (rIsiN X.K) (tCons te (tCons (tC (.ty T')) tNil))) :=
 pe_callB call_isiN hg B.isinstance boot_isinstance (pa_cons he (pa_cons (pe_ty hg2 hm hv hn hd) pa_nil) hs) (by decide) (by decide) hs hpl
end
mutual
inductive Th (K : PySem.W.Frag) (ps : List Addr) (H : Hp) : V -> PyData -> Prop
 | int (i : Int) : Th K ps H (.int i) (.int i)
 | tup {a : Addr} {xs : List V} {ds : List PyData} : SqT K H a xs -> ThAll K ps H xs ds -> Th K ps H (.ref a) (.tuple ds)
 | oth {v : V} {n : String} : TyX K H v (.type n) -> kitB n "tuple" = some false -> (kitB n "int" = some false \/ n = "bool") -> (∀ a, v = .ref a -> a ∉ ps) -> Th K ps H v .none
inductive ThAll (K : PySem.W.Frag) (ps : List Addr) (H : Hp) : List V -> List PyData -> Prop
 | nil : ThAll K ps H [] []
 | cons {v : V} {vs : List V} {d : PyData} {ds : List PyData} : Th K ps H v d -> ThAll K ps H vs ds -> ThAll K ps H (v :: vs) (d :: ds)
end
def manyD : PyData -> Bool
 | .int i => decide (1 <= i)
 | _ => false
section
variable {K : PySem.W.Frag} {ps : List Addr} {H H' : Hp}
theorem SqT_ty {a : Addr} {xs : List V} (h : SqT K H a xs) : TyX K H (.ref a) (.type "tuple") := by
 rcases h with (h | ⟨o, h⟩) | ⟨o, its, n, h, c, _⟩
 ·exact .base (.tup h)
 ·exact .fTuple h
 ·exact .kTuple h c
theorem Th.whole {v : V} {d : PyData} (h : Th K ps H v d) : ∃ n b1 b2, TyX K H v (.type n) /\ kitB n "int" = some b1 /\ (b1 = true -> kitB n "bool" = some b2) /\ ((b1 && !b2) = true -> ∃ i, v = .int i /\ d = .int i) /\ ((b1 && !b2) = false -> manyD d = false) := by
 cases h with
 | int i => exact ⟨"int", true, false, .base (.int i), by decide +kernel, fun _ => by decide +kernel, fun _ => ⟨i, rfl, rfl⟩, fun z => (nomatch z)⟩
 | tup hs ha => exact ⟨"tuple", false, false, (SqT_ty hs), by decide +kernel, fun z => (nomatch z), fun z => (nomatch z), fun _ => rfl⟩
 | @oth v n ty k1 k2 _ =>
  rcases k2 with k2 | k2
  ·exact ⟨n, false, false, ty, k2, fun z => (nomatch z), fun z => (nomatch z), fun _ => rfl⟩
  ·subst k2
   exact ⟨"bool", true, true, ty, by decide +kernel, fun _ => by decide +kernel, fun z => (nomatch z), fun _ => rfl⟩
theorem TyX_sb {v : V} {n : String} (e : SB ps H H') (hn : ∀ a, v = .ref a -> a ∉ ps) (h : TyX K H v (.type n)) : TyX K H' v (.type n) := by
 cases h with
 | base h =>
  cases h with
  | non => exact .base .non
  | bl x => exact .base (.bl x)
  | int i => exact .base (.int i)
  | str x => exact .base (.str x)
  | flt x => exact .base (.flt x)
  | lst h => exact .base (.lst (e.keep _ _ h (hn _ rfl)))
  | frz h => exact .base (.frz (e.frzs _ _ _ h))
  | tup h => exact .base (.tup (e.tups _ _ h))
  | dK h => exact .base (.dK (e.keep _ _ h (hn _ rfl)))
  | dT h => exact .base (.dT (e.keep _ _ h (hn _ rfl)))
 | byt b => exact .byt b
 | set h => exact .set (e.keep _ _ h (hn _ rfl))
 | kList h c => exact .kList h c
 | kTuple h c => exact .kTuple h c
 | kDict h c => exact .kDict h c
 | fTuple h => exact .fTuple (e.frzs _ _ _ h)
 | fDict h => exact .fDict (e.frzs _ _ _ h)
end
inductive Bears (K : PySem.W.Frag) (H : Hp) {β : Type} (enc : β -> PyData) : List V -> List β -> Prop
 | nil : Bears K H enc [] []
 | cons {v : V} {vs : List V} {b : β} {bs : List β} : Dp K H v (enc b) -> Bears K H enc vs bs -> Bears K H enc (v :: vs) (b :: bs)
section
variable {K : PySem.W.Frag} {H H' : Hp} {β : Type} {enc : β -> PyData} {ps : List Addr}
theorem Bears.length : ∀ {vs : List V} {bs : List β}, Bears K H enc vs bs -> vs.length = bs.length
 | _, _, .nil => rfl
 | _, _, .cons _ t => by rw [List.length_cons, List.length_cons, Bears.length t]
theorem Bears.dp : ∀ {vs : List V} {bs : List β}, Bears K H enc vs bs -> DpAll K H vs (bs.map enc)
 | _, _, .nil => .nil
 | _, _, .cons h t => .cons h (Bears.dp t)
theorem Bears.of : ∀ {vs : List V} {bs : List β}, DpAll K H vs (bs.map enc) -> Bears K H enc vs bs
 | [], [], _ => .nil
 | _ :: _, [], h => by cases h
 | [], _ :: _, h => by cases h
 | v :: vs, b :: bs, h => by
  cases h with
  | cons h1 h2 => exact .cons h1 (Bears.of h2)
theorem Bears.get : ∀ {vs : List V} {bs : List β} {i : Nat} {v : V}, Bears K H enc vs bs -> vs[i]? = some v -> ∃ b, bs[i]? = some b /\ Dp K H v (enc b)
 | _, _, _, _, .nil, e => by simp at e
 | _, _, 0, _, .cons h t, e => by simp at e; subst e; exact ⟨_, rfl, h⟩
 | _, _, i + 1, v, .cons h t, e => by
  obtain ⟨d, h1, h2⟩ := Bears.get (i := i) (v := v) t (by simpa using e)
  exact ⟨d, by simpa using h1, h2⟩
theorem Bears.append : ∀ {xs ys : List V} {bs cs : List β}, Bears K H enc xs bs -> Bears K H enc ys cs -> Bears K H enc (xs ++ ys) (bs ++ cs)
 | _, _, _, _, .nil, h => h
 | _, _, _, _, .cons a b, h => .cons a (Bears.append b h)
theorem Bears.sb (e : SB ps H H') (hn : ∀ b, noList (enc b) = true) : ∀ {xs : List V} {bs : List β}, Bears K H enc xs bs -> Bears K H' enc xs bs
 | _, _, .nil => .nil
 | _, _, .cons a b => .cons (Dp_sb e _ _ (hn _) a) (Bears.sb e hn b)
end
section
variable {X : Cx} {pins : List (Addr × Obj)} {σ : L2.St} {H : Hp} {s : Shared} {β : Type} {enc : β -> PyData}
theorem each_of (I : Inv X pins σ H s) : ∀ {vs : List V} {us : List Value} {bs : List β}, Bears X.K H enc vs bs -> Vals vs us ->
  EachIs (fun u b => ∃ v, RelV v u /\ Dp X.K H v (enc b)) us bs /\ EachIs (fun u b => ∃ as, Reads s.heap u (enc b) as) us bs
 | _, _, _, .nil, .nil => ⟨.nil, .nil⟩
 | _, _, _, .cons h t, .cons r u => by
  obtain ⟨h1, h2⟩ := each_of I t u
  exact ⟨.cons ⟨_, r, h⟩ h1, .cons (Dp.reads I _ _ _ h r) h2⟩
theorem of_each {K : PySem.W.Frag} : ∀ {us : List Value} {bs : List β}, EachIs (fun u b => ∃ v, RelV v u /\ Dp K H v (enc b)) us bs -> ∃ vs, Vals vs us /\ Bears K H enc vs bs
 | _, _, .nil => ⟨[], .nil, .nil⟩
 | _, _, .cons ⟨v, r, h⟩ t => by
  obtain ⟨vs, h1, h2⟩ := of_each t
  exact ⟨v :: vs, .cons r h1, .cons h h2⟩
end
section
variable {P : Program} {w : World} {K : PySem.W.Frag} {mg : Str -> Option Value} {base : Heap} {f : Addr} {fd : FuncData}
def spWhole (K : PySem.W.Frag) : Sp := fun vs H Q _ => ∃ (v : V) (n : String) (b1 b2 : Bool), vs = [v] /\ TyX K H v (.type n) /\ kitB n "int" = some b1 /\ (b1 = true -> kitB n "bool" = some b2) /\ Q (.bl (b1 && !b2)) H
def spMany (K : PySem.W.Frag) (ps : List Addr) : Sp := fun vs H Q _ => ∃ (v : V) (d : PyData), vs = [v] /\ Th K ps H v d /\ Q (.bl (manyD d)) H
end
def ltsD : List PyData -> List Bool
 | [] => []
 | [_] => []
 | a :: b :: r => dataLt a b :: ltsD (b :: r)
def risingD (ds : List PyData) : Bool := (ltsD ds).all id
theorem ltsD_length : ∀ ds : List PyData, (ltsD ds).length = ds.length - 1
 | [] => rfl
 | [_] => rfl
 | a :: b :: r => by
  have h := ltsD_length (b :: r)
  show (ltsD (b :: r)).length + 1 = _
  rw [h]; simp
theorem ltsD_get : ∀ (ds : List PyData) (i : Nat) (d e : PyData), ds[i]? = some d -> ds[i + 1]? = some e -> (ltsD ds)[i]? = some (dataLt d e)
 | [], _, _, _, h, _ => by simp at h
 | [_], _, _, _, _, h => by simp at h
 | a :: b :: r, 0, d, e, h1, h2 => by simp at h1 h2; subst h1 h2; rfl
 | a :: b :: r, i + 1, d, e, h1, h2 => by
  have := ltsD_get (b :: r) i d e (by simpa using h1) (by simpa using h2)
  simpa [ltsD] using this
theorem cut1 (xs : List V) : cutV xs (some 1) none = xs.drop 1 := by
 unfold cutV
 have h1 : HT.sIx xs.length 0 (some 1) = min 1 xs.length := HT.sIx_nat xs.length 0 1
 have h2 : HT.sIx xs.length xs.length none = xs.length := rfl
 rw [h1, h2]
 cases xs with
 | nil => rfl
 | cons x r =>
  have : min 1 (x :: r).length = 1 := by simp
  rw [this]
  simp
section
variable {P : Program} {w : World} {K : PySem.W.Frag} {mg : Str -> Option Value} {base : Heap} {f : Addr} {fd : FuncData}
def OkD (d : PyData) : Prop := noList d = true /\ d ≠ .none /\ d.depth <= 100
def spRising (K : PySem.W.Frag) : Sp := fun vs H Q _ => ∃ (a : Addr) (xs : List V) (ds : List PyData), vs = [.ref a] /\ SqL K H a xs /\ DpAll K H xs ds /\ (∀ d ∈ ds, OkD d) /\ AllAlike ds /\ xs.length <= 1000 /\
 ∀ H', SB [] H H' -> Q (.bl (risingD ds)) H'
abbrev N_rising : List Str := ["things", "low", "high"]
abbrev gPair (K : PySem.W.Frag) : TG := gTup K 2 (gCons (gName 1) (gCons (gName 2) gNil))
end
def exp0 : PyData -> PyData
 | .tuple (e :: _) => e
 | _ => .none
mutual
def ladD : PyData -> Bool
 | .tuple ds => ladPs ds && risingD (ds.map exp0).reverse
 | _ => false
def ladPs : List PyData -> Bool
 | [] => true
 | d :: ds => ladP d && ladPs ds
def ladP : PyData -> Bool
 | .tuple ds => ladP2 ds
 | _ => false
def ladP2 : List PyData -> Bool
 | [] => false
 | e :: r => ladD e && ladP3 r
def ladP3 : List PyData -> Bool
 | [] => false
 | m :: r => manyD m && r.isEmpty
end
theorem depthAll_get {ds : List PyData} {i : Nat} {d : PyData} (h : ds[i]? = some d) : d.depth <= PyData.depthAll ds := PyData.depth_le_depthAll ds d (List.mem_of_getElem? h)
section
variable {P : Program} {w : World} {K : PySem.W.Frag} {mg : Str -> Option Value} {base : Heap} {f : Addr} {fd : FuncData} {ps : List Addr}
mutual
def wide : PyData -> Nat
 | .tuple ds => max ds.length (wides ds)
 | _ => 0
def wides : List PyData -> Nat
 | [] => 0
 | d :: ds => max (wide d) (wides ds)
end
theorem wide_mem : ∀ (ds : List PyData) (d : PyData), d ∈ ds -> wide d <= wides ds
 | [], _, h => by simp at h
 | e :: ds, d, h => by
  rw [wides]
  rcases List.mem_cons.mp h with h | h
  ·subst h; omega
  ·have := wide_mem ds d h; omega
theorem wide_tuple (ds : List PyData) : wide (.tuple ds) = max ds.length (wides ds) := by rw [wide]
end
section
variable {K : PySem.W.Frag} {H : Hp}
theorem DpAll.append : ∀ {xs ys : List V} {ds es : List PyData}, DpAll K H xs ds -> DpAll K H ys es -> DpAll K H (xs ++ ys) (ds ++ es)
 | _, _, _, _, .nil, h => h
 | _, _, _, _, .cons a b, h => .cons a (DpAll.append b h)
end
section
variable {P : Program} {w : World} {K : PySem.W.Frag} {mg : Str -> Option Value} {base : Heap} {f : Addr} {fd : FuncData}
theorem ix0 {x y : V} : atI [x, y] 0 = some x := rfl
theorem ix1 {x y : V} : atI [x, y] 1 = some y := rfl
end
theorem ib (m m' : Int) : (m == m') = decide (m = m') := by by_cases h : m = m' <;> simp [h]
section
variable {P : Program} {w : World} {K : PySem.W.Frag} {mg : Str -> Option Value} {base : Heap} {f : Addr} {fd : FuncData}
def spLaw (K : PySem.W.Frag) : Sp := fun vs H Q _ => ∃ (a : Addr) (ns : List Int), vs = [.ref a] /\ SqL K H a (ns.map V.int) /\ ns.length <= 63 /\ ∀ H', Q (.bl true) H'
theorem none_sp {ps : List Str} {k : Nat} {sp : Sp} (no : ∀ vs H Q E, ¬ sp vs H Q E) : FnOk P w K mg base CX0 k f fd ps sp :=
 ⟨fun vs H Q E h => absurd h (no vs H Q E), fun A outer s H args us vs Q E _ _ _ _ h => absurd h (no vs H Q E)⟩
end
def rCatB (K : PySem.W.Frag) : R2 := fun x y H Q => ∃ a b xs ys, x = .ref a /\ y = .ref b /\ SqT K H a xs /\ SqT K H b ys /\ xs.length + ys.length <= 10000000 /\ ∀ c H', SB [] H H' -> SqT K H' c (xs ++ ys) -> Q (.ref c) H'
def rSlB (K : PySem.W.Frag) : V -> Option Int -> Option Int -> Hp -> VK -> Prop := fun x lo hi H Q => ∃ a xs, x = .ref a /\ SqT K H a xs /\ ∀ c H', SB [] H H' -> SqT K H' c (cutV xs lo hi) -> Q (.ref c) H'
section
variable {X : Cx}
theorem op_catB : OpR X (binaryOp .Add) (rCatB X.K) := by
 intro pins s σ H x y v u Q I rx ry h
 obtain ⟨a, b, xs, ys, rfl, rfl, ha, hb, hz, q⟩ := h
 refine op_catA pins s σ H _ _ v u Q I rx ry ⟨a, b, xs, ys, rfl, rfl, ha, hb, by rw [sizeLine_eq]; omega, fun e => ?_, fun e1 e2 => ?_, fun e1 e2 p hp => ?_⟩
 ·subst e; exact q b H SB.refl hb
 ·subst e2; exact q a H SB.refl (by rw [List.append_nil]; exact ha)
 ·exact q p _ (SB.new hp _) (SqT.of upd_same)
theorem sl_tupB : SlR X (rSlB X.K) := by
 intro pins s σ H x v vl vu lo hi sl Q I rx hs pl pu h
 obtain ⟨a, xs, rfl, hx, q⟩ := h
 refine sl_tupA pins s σ H _ v vl vu lo hi sl Q I rx hs pl pu ⟨a, xs, rfl, hx, fun e => ?_, fun e p hp => ?_⟩
 ·refine q a H SB.refl ?_
  have : cutV xs lo hi = xs := by
   unfold cutV
   rw [e.1, e.2]
   simp
  rw [this]; exact hx
 ·exact q p _ (SB.new hp _) (SqT.of upd_same)
end
theorem cutDrop (xs : List V) (k : Nat) : cutV xs (some (k : Int)) none = xs.drop k := by
 unfold cutV
 have h1 : HT.sIx xs.length 0 (some (k : Int)) = min k xs.length := HT.sIx_nat xs.length 0 k
 have h2 : HT.sIx xs.length xs.length none = xs.length := rfl
 rw [h1, h2]
 by_cases h : k <= xs.length
 ·rw [Nat.min_eq_left h, List.take_of_length_le (by rw [List.length_drop]; omega)]
 ·rw [Nat.min_eq_right (by omega), List.drop_eq_nil_of_le (Nat.le_refl _), List.drop_eq_nil_of_le (by omega)]
  simp
theorem SB.drop2 {p q : Addr} {H H' : Hp} (h : SB [p, q] H H') (n : H q = none) : SB [p] H H' := by
 refine ⟨fun b o e m => h.keep b o e fun z => ?_, h.tups, h.frzs, h.dom⟩
 have z' : b = p \/ b = q := by simpa using z
 rcases z' with z | z
 ·exact m (by simp [z])
 ·subst z; rw [n] at e; cases e
theorem Bears.at {K : PySem.W.Frag} {H : Hp} {β : Type} {enc : β -> PyData} : ∀ {vs : List V} {bs : List β} {i : Nat} {b : β}, Bears K H enc vs bs -> bs[i]? = some b -> ∃ v, vs[i]? = some v /\ Dp K H v (enc b)
 | _, _, _, _, .nil, e => by simp at e
 | _, _, 0, _, .cons h t, e => by simp at e; subst e; exact ⟨_, rfl, h⟩
 | _, _, i + 1, b, .cons h t, e => by
  obtain ⟨d, h1, h2⟩ := Bears.at (i := i) (b := b) t (by simpa using e)
  exact ⟨d, by simpa using h1, h2⟩
section
variable {prog : Program} {w : World} {A : Around} {E : Value -> Shared -> Prop} {s : Shared} {β : Type} {vs : List Value} {bs : List β} {enc : β -> PyData} {R : Value -> β -> Prop}
theorem sorted_tupK {t : Addr} {kw : List (Str × Value)} {b : Bool} {Q : Value -> Shared -> Prop} (hkw : ∀ a, Builtin.«list.sort» ⟨[.ref a], kw⟩ = Builtin.«list.sort» ⟨[.ref a], [(Str.ofString "reverse", .bool b)]⟩) (ha1 : argsOk "sorted" ⟨[.ref t], kw⟩) (ha2 : ∀ x, argsOk "list.sort" ⟨[.ref x], kw⟩)
  (ht : IsTup s.heap t vs.toArray) (e : EachIs R vs bs) (er : EachIs (fun v b => ∃ as, Reads s.heap v (enc b) as) vs bs) (hal : AllAlike (bs.map enc)) (hk : Sortable (bs.map enc)) (hL : bs.length <= sizeLine)
  (hu : ∀ b, b ∈ bs -> A.units + 2 + (enc b).depth < cLine)
  (h : ∀ (out : List Value) (h' h2 : Heap) (n : Nat), (∀ b o, s.heap.get? b = some o -> h'.get? b = some o) -> (∀ b o, h'.get? b = some o -> h2.get? b = some o) -> h2.get? h'.objs.size = some (seqObj "list" out.toArray n) -> out.length = bs.length -> EachIs R out (bs.mergeSort (dataLe b enc)) -> Q (.ref h'.objs.size) { s with heap := h2 }) :
  wpAny (model prog w) A (call (.builtin "sorted") [.ref t] kw) Q E s := by
 have hlen : vs.length <= sizeLine := by rw [e.length]; exact hL
 obtain ⟨o, ho, hc, n0, hd⟩ := id ht
 refine call_function_entry_kw kind_sorted plain_sorted entry_sorted ha1 ?_
 unfold Builtin.«sorted»
 refine wpAny_bind (m := checkCount "sorted" 1 1 _) (wpAny_pure ?_)
 refine wpAny_bind (wpAny_collect_seq t (.inr rfl) ho hc hd (fun h' hk' => ?_) (by rw [List.size_toArray]; exact hlen))
 refine wpAny_bind (wpAny_newList ?_ hlen)
 show wpAny _ _ _ _ _ { s with heap := h'.push (seqObj "list" vs.toArray 0) }
 have hat : (h'.push (seqObj "list" vs.toArray 0)).get? h'.objs.size = some (seqObj "list" vs.toArray 0) := Heap.get?_push_size _ rfl
 refine wpAny_bind (wpAny_holding (wpAny_call_entry_kw slot_list_sort ⟨_, hat, rfl⟩ entry_list_sort ?body (ha2 _)))
 case body =>
  rw [hkw]
  have old : ∀ b o, h'.get? b = some o -> (sortingHeap (h'.push (seqObj "list" vs.toArray 0)) h'.objs.size vs).get? b = some o := fun b o q => sortingHeap_old (Nat.ne_of_lt (Heap.lt_size q)) (Heap.get?_push_of_some _ q)
  have er' : EachIs (fun v b => ∃ as, Reads (sortingHeap (h'.push (seqObj "list" vs.toArray 0)) h'.objs.size vs) v (enc b) as) vs bs := er.mono fun _ _ ⟨as, r⟩ => ⟨as, PyProof.Rows.Reads.keeps (fun b o q => old b o (hk' b o q)) r⟩
  refine list_sort_rev_vals (s := { s with heap := h'.push (seqObj "list" vs.toArray 0) }) (κ := dataKind (sortingHeap (h'.push (seqObj "list" vs.toArray 0)) h'.objs.size vs) (bs.map enc)) hat (SortsAt.data (s := { s with heap := sortingHeap (h'.push (seqObj "list" vs.toArray 0)) h'.objs.size vs }) (each_map (R := fun v d => ∃ as, Reads (sortingHeap (h'.push (seqObj "list" vs.toArray 0)) h'.objs.size vs) v d as) enc er') hal hk (bound_map hu)) hlen ?_
  refine ⟨_, rfl, wpAny_pure ⟨_, rfl, ?_⟩⟩
  obtain ⟨n2, hn2⟩ := sortedHeap_at (out := (sortVals (dataKind (sortingHeap (h'.push (seqObj "list" vs.toArray 0)) h'.objs.size vs) (bs.map enc)) b vs vs).toArray) hat
  refine h _ h' _ n2 hk' (fun b o q => ?_) hn2 (by rw [sortVals_length b rfl]; exact e.length) (sortVals_data b e er' hal)
  rw [sortedHeap_old (Nat.ne_of_lt (Heap.lt_size q)) (by rw [size_push']; exact Nat.lt_succ_of_lt (Heap.lt_size q))]
  exact Heap.get?_push_of_some _ q
end
def rSortedT (K : PySem.W.Frag) {β : Type} (enc : β -> PyData) (b : Bool) (vs : List V) (H : Hp) (Q : VK) : Prop := ∃ (a : Addr) (xs : List V) (bs : List β), vs = [V.ref a] /\ SqT K H a xs /\ Bears K H enc xs bs /\ AllAlike (bs.map enc) /\ Sortable (bs.map enc) /\ bs.length <= 10000000 /\ (∀ b ∈ bs, (enc b).depth <= 100) /\
 ∀ (p : Addr) (ys : List V), H p = none -> Bears K H enc ys (bs.mergeSort (dataLe b enc)) -> Q (.ref p) (upd H p (.lst ys))
section
variable {X : Cx}
theorem sortedT_run {β : Type} {enc : β -> PyData} {b : Bool} {kw : List (Str × Value)} (hu : X.A.units + 110 < cLine) (hkw : ∀ a, Builtin.«list.sort» ⟨[.ref a], kw⟩ = Builtin.«list.sort» ⟨[.ref a], [(Str.ofString "reverse", .bool b)]⟩) (ha1 : ∀ t, argsOk "sorted" ⟨[.ref t], kw⟩) (ha2 : ∀ x, argsOk "list.sort" ⟨[.ref x], kw⟩)
  {pins : List (Addr × Obj)} {s : Shared} {σ : L2.St} {H : Hp} {vs : List V} {us : List Value} {Q : VK} (I : Inv X pins σ H s) (r : Vals vs us) (h : rSortedT X.K enc b vs H Q) : wpAny (model X.prog X.w) X.A (call (.builtin "sorted") us kw) (EP X pins σ Q) X.xe s := by
 obtain ⟨a, xs, bs, rfl, hs, hb, hal, hsr, hl, hd, q⟩ := h
 obtain ⟨its, rv, hli, _⟩ := I.tuple hs
 rw [Vals.ref1 r]
 obtain ⟨e1, e2⟩ := each_of I hb rv
 refine sorted_tupK (vs := its) (bs := bs) (enc := enc) (R := fun u b => ∃ v, RelV v u /\ Dp X.K H v (enc b)) hkw (ha1 _) ha2 hli e1 e2 hal hsr (by rw [sizeLine_eq]; omega) (fun b m => by have := hd b m; omega) fun out h' h2 n k1 k2 hat ho h1 => ?_
 obtain ⟨ys, g2, g3⟩ := of_each h1
 have I' : Inv X pins σ H { s with heap := h' } := I.kept (t' := s.toks) k1
 have hlen : ys.length <= sizeLine := by rw [g2.length, ho, sizeLine_eq]; omega
 exact ⟨.ref _, upd H h'.objs.size (.lst ys), I'.laid (t' := s.toks) (fun b o e => k2 b o e) (Nat.le_refl _) ⟨hlen, out, n, g2, hat⟩, rfl, q _ ys (I'.hok.fresh (Nat.le_refl _)) g3⟩
theorem cr_sortedT {β : Type} (enc : β -> PyData) (hu : X.A.units + 110 < cLine) : CallR X (.builtin "sorted") (rSortedT X.K enc false) := by
 intro pins s σ H vs us Q I r h
 exact sortedT_run (kw := []) hu plain_is_rev (fun _ => args_sorted1 _) (fun _ => args_list_sort _) I r h
end
section
variable {γ : Type} [DecidableEq γ]
def pairE (enc : γ -> PyData) (p : γ × Int) : PyData := .tuple [enc p.1, .int p.2]
def jstep (acc : List (γ × Int)) (p : γ × Int) : List (γ × Int) := match acc.getLast? with
 | some q => if q.1 = p.1 then acc.dropLast ++ [(p.1, q.2 + p.2)] else acc ++ [p]
 | none => [p]
def jn (bs : List (γ × Int)) : List (γ × Int) := bs.foldl jstep []
theorem jstep_nil (p : γ × Int) : jstep [] p = [p] := rfl
theorem jstep_snoc (acc : List (γ × Int)) (q p : γ × Int) : jstep (acc ++ [q]) p = if q.1 = p.1 then acc ++ [(p.1, q.2 + p.2)] else acc ++ [q] ++ [p] := by
 unfold jstep
 rw [List.getLast?_append]
 simp
theorem jstep_length (acc : List (γ × Int)) (p : γ × Int) : (jstep acc p).length <= acc.length + 1 := by
 rcases List.eq_nil_or_concat acc with h | ⟨a, q, h⟩
 ·subst h; simp [jstep]
 ·subst h
  rw [List.concat_eq_append, jstep_snoc]
  split <;> simp
theorem jn_take (bs : List (γ × Int)) (i : Nat) (p : γ × Int) (h : bs[i]? = some p) : jn (bs.take (i + 1)) = jstep (jn (bs.take i)) p := by
 unfold jn
 rw [List.take_add_one, h, List.foldl_append]
 rfl
theorem jn_length (bs : List (γ × Int)) : (jn bs).length <= bs.length := by
 have key : ∀ (bs acc : List (γ × Int)), (bs.foldl jstep acc).length <= acc.length + bs.length := by
  intro bs
  induction bs with
  | nil => intro acc; simp
  | cons p r ih =>
   intro acc
   have h1 := ih (jstep acc p)
   have h2 := jstep_length acc p
   show (r.foldl jstep (jstep acc p)).length <= _
   rw [List.length_cons]
   omega
 have := key bs []
 simpa [jn] using this
theorem jn_keys (bs : List (γ × Int)) : ∀ p ∈ jn bs, ∃ q ∈ bs, q.1 = p.1 := by
 have key : ∀ (bs acc : List (γ × Int)), ∀ p ∈ bs.foldl jstep acc, (∃ q ∈ acc, q.1 = p.1) \/ ∃ q ∈ bs, q.1 = p.1 := by
  intro bs
  induction bs with
  | nil => intro acc p hp; exact .inl ⟨p, hp, rfl⟩
  | cons x r ih =>
   intro acc p hp
   rcases ih (jstep acc x) p hp with ⟨q, hq, e⟩ | ⟨q, hq, e⟩
   ·rcases List.eq_nil_or_concat acc with h | ⟨a, z, h⟩
    ·subst h
     rw [jstep_nil] at hq
     have : q = x := by simpa using hq
     subst this
     exact .inr ⟨q, mcs .., e⟩
    ·subst h
     rw [List.concat_eq_append] at hq ⊢
     rw [jstep_snoc] at hq
     by_cases hz : z.1 = x.1
     ·rw [if_pos hz] at hq
      rcases List.mem_append.mp hq with hq | hq
      ·exact .inl ⟨q, List.mem_append_left _ hq, e⟩
      ·have : q = (x.1, z.2 + x.2) := by simpa using hq
       subst this
       exact .inr ⟨x, mcs .., e⟩
     ·rw [if_neg hz] at hq
      rcases List.mem_append.mp hq with hq | hq
      ·exact .inl ⟨q, hq, e⟩
      ·have : q = x := by simpa using hq
       subst this
       exact .inr ⟨q, mcs .., e⟩
   ·exact .inr ⟨q, mcm _ hq, e⟩
 intro p hp
 rcases key bs [] p hp with ⟨q, hq, _⟩ | h
 ·cases hq
 ·exact h
end
theorem pair_at {K : PySem.W.Frag} {H : Hp} {γ : Type} {enc : γ -> PyData} {v : V} {p : γ × Int} (h : Dp K H v (pairE enc p)) : ∃ a u, v = .ref a /\ SqT K H a [u, .int p.2] /\ Dp K H u (enc p.1) := by
 have h' : Dp K H v (.tuple [enc p.1, .int p.2]) := h
 cases h' with
 | tup hs ha =>
  cases ha with
  | cons a1 a2 =>
   cases a2 with
   | cons b1 b2 =>
    cases b2
    cases b1
    exact ⟨_, _, rfl, hs, a1⟩
theorem pairE_noList {γ : Type} {enc : γ -> PyData} (hn : ∀ g, noList (enc g) = true) (p : γ × Int) : noList (pairE enc p) = true := by simp [pairE, noList, noLists, hn]
theorem pair_mk {K : PySem.W.Frag} {H : Hp} {γ : Type} {enc : γ -> PyData} {a : Addr} {u : V} {g : γ} {m : Int} (h : SqT K H a [u, .int m]) (h2 : Dp K H u (enc g)) : Dp K H (.ref a) (pairE enc (g, m)) := Dp.tup h (.cons h2 (.cons (.int m) .nil))
theorem Bears.snoc {K : PySem.W.Frag} {H : Hp} {β : Type} {enc : β -> PyData} {vs : List V} {bs : List β} {b : β} (h : Bears K H enc vs (bs ++ [b])) : ∃ us u, vs = us ++ [u] /\ Bears K H enc us bs /\ Dp K H u (enc b) := by
 induction bs generalizing vs with
 | nil =>
  cases h with
  | cons h1 h2 => cases h2; exact ⟨[], _, rfl, .nil, h1⟩
 | cons c r ih =>
  cases h with
  | cons h1 h2 =>
   obtain ⟨us, u, e, h3, h4⟩ := ih h2
   exact ⟨_ :: us, u, by rw [e]; rfl, .cons h1 h3, h4⟩
theorem at_last {xs : List V} {x : V} : atI (xs ++ [x]) (-1) = some x := by
 unfold atI ixN
 rw [if_neg (by decide), if_pos (by rw [List.length_append, List.length_singleton]; omega)]
 simp only [List.length_append, List.length_singleton, Option.bind_some]
 have : ((-1 : Int) + ((xs.length + 1 : Nat) : Int)).toNat = xs.length := by omega
 rw [this]
 simp
theorem ixN_last {xs : List V} {x : V} : ixN (xs ++ [x]).length (-1) = some xs.length := by
 unfold ixN
 rw [if_neg (by decide), if_pos (by rw [List.length_append, List.length_singleton]; omega), List.length_append, List.length_singleton]
 congr 1; omega
theorem set_last {xs : List V} {x y : V} : (xs ++ [x]).set xs.length y = xs ++ [y] := by simp
structure Own (K : PySem.W.Frag) (mg : Str -> Option Value) (x : Str) (C : Addr) : Prop where
 gC : mg x = some (.ref C)
 q : PySem.W.excIn K C He.veBase "ValueError.__new__" = true
 k : PySem.W.keepIn K (.ref C) = true
 s : PySem.W.subIn K (.ref C) (.type "BaseException") = some true
 t : PySem.W.typeIn K (.ref C) = some (.type "type")
abbrev AlE : Type := He.AlD × Bool
def obsE (n : Nat) (fa : List He.Fa) (fn : List He.DefD) (ex : PySem.W.Frag -> Bool) (g : Addr -> Option Obj) : AlE := (He.obsD fa fn (He.frG g (He.asD g n)), ex (He.frG g (He.asD g n)))
def hookE (n : Nat) (fa : List He.Fa) (fn : List He.DefD) (ex : PySem.W.Frag -> Bool) : PySem.W.Hook where
 α := AlE
 obs := fun s => obsE n fa fn ex s.heap.get?
 val := fun _ => (He.valD fn, true)
 says := fun _ h => ∃ K : PySem.W.Frag, K.In h /\ He.SaysD fa fn K /\ ex K = true
 of := fun _ _ e => ⟨_, He.frG_in, congrArg (fun z : AlE => z.1) e, congrArg (fun z : AlE => z.2) e⟩
 keeps := fun _ _ _ ⟨K, hK, c⟩ k => ⟨K, PySem.W.Frag.In.keeps hK k, c⟩
theorem obsE_eq {n : Nat} {fa : List He.Fa} {fn : List He.DefD} {ex : PySem.W.Frag -> Bool} {g : Addr -> Option Obj} {s : Shared} (h : ∀ a, g a = s.heap.get? a) : obsE n fa fn ex g = (hookE n fa fn ex).obs s := by
 have e : g = s.heap.get? := funext h
 rw [e] <;> rfl
def excCB (K : PySem.W.Frag) (D : Addr) : Bool :=
 He.eqO (PySem.W.findIn K (.ref D) "__getattribute__") (some (some (.builtin "BaseException.__getattribute__"))) && (He.eqO (PySem.W.findIn K (.ref D) "__getattr__") (some none) && (decide (PySem.W.subIn K (.ref D) (.type "BaseException") = some true) && (PySem.W.hasDictIn K D && (He.eqO (PySem.W.findIn K (.ref D) "__class__") (some (some (.builtin "object.__class__"))) &&
 (He.eqO (PySem.W.specialIn K (.builtin "object.__class__") "__get__") (some (some (.builtin "getset_descriptor.__get__"))) && (decide (PySem.W.takesIn K (.builtin "object.__class__") = some true) && decide (PySem.W.mroIn K D (.type "object") = some true)))))))
theorem excCB_ok {K : PySem.W.Frag} {D : Addr} (h : excCB K D = true) : ExcC K D := by
 obtain ⟨h1, h⟩ := He.ba h
 obtain ⟨h2, h⟩ := He.ba h
 obtain ⟨h3, h⟩ := He.ba h
 obtain ⟨h4, h⟩ := He.ba h
 obtain ⟨h5, h⟩ := He.ba h
 obtain ⟨h6, h⟩ := He.ba h
 obtain ⟨h7, h8⟩ := He.ba h
 exact ⟨He.eqO_ok h1, He.eqO_ok h2, of_decide_eq_true h3, h4, He.eqO_ok h5, He.eqO_ok h6, of_decide_eq_true h7, of_decide_eq_true h8⟩
section
variable {J : It} {n : Nat} {G : Hp -> Prop} {Y : Nat -> Hp -> V -> Hp -> Prop}
theorem lcG (w : Walk J n G Y) {H0 : Hp} {Qd : Hp -> Prop} {body : (Hp -> Prop) -> V -> Hp -> Prop} (Pv : Nat -> Hp -> Prop) (h0 : Pv 0 H0) (hG : ∀ i H, i <= n -> Pv i H -> G H)
  (hs : ∀ i x H H', i < n -> Pv i H -> Y i H x H' -> body (Pv (i + 1)) x H') (hd : ∀ H, Pv n H -> Qd H) :
  ∃ W : Nat -> Nat -> Hp -> Prop, (∃ m, W 0 m H0) /\ ∀ i m H, W i m H ->
   (J.stop i H /\ Qd H) \/ (J.go i H /\ ∃ Nx : Hp -> Prop, (∀ H', Nx H' -> ∃ m', m' < m /\ W (i + 1) m' H') /\ ∀ x H', J.yld i H x H' -> body Nx x H') := by
 refine ⟨fun i m H => m = n - i /\ i <= n /\ Pv i H, ⟨n, by simp, Nat.zero_le _, h0⟩, ?_⟩
 rintro i m H ⟨rfl, hi, p⟩
 have q := hG i H hi p
 by_cases hlt : i < n
 ·exact .inr ⟨w.goes i H hlt q, Pv (i + 1), fun H' p' => ⟨n - (i + 1), by omega, rfl, hlt, p'⟩, fun x H' y => hs i x H H' hlt p (w.yields i H x H' hlt q y)⟩
 ·have e : i = n := by omega
  subst e
  exact .inl ⟨w.stops H q, hd H p⟩
end
section
variable {prog : Program} {w : World} {A : Around} {E : Value -> Shared -> Prop} {s : Shared} {β : Type} {vs : List Value} {bs : List β} {enc : β -> PyData} {R : Value -> β -> Prop}
theorem sorted_lstK {t : Addr} {kw : List (Str × Value)} {b : Bool} {Q : Value -> Shared -> Prop} (hkw : ∀ a, Builtin.«list.sort» ⟨[.ref a], kw⟩ = Builtin.«list.sort» ⟨[.ref a], [(Str.ofString "reverse", .bool b)]⟩) (ha1 : argsOk "sorted" ⟨[.ref t], kw⟩) (ha2 : ∀ x, argsOk "list.sort" ⟨[.ref x], kw⟩)
  (ht : PlainL s.heap t vs.toArray) (e : EachIs R vs bs) (er : EachIs (fun v b => ∃ as, Reads s.heap v (enc b) as) vs bs) (hal : AllAlike (bs.map enc)) (hk : Sortable (bs.map enc)) (hL : bs.length <= sizeLine)
  (hu : ∀ b, b ∈ bs -> A.units + 2 + (enc b).depth < cLine)
  (h : ∀ (out : List Value) (h' h2 : Heap) (n : Nat), (∀ b o, s.heap.get? b = some o -> h'.get? b = some o) -> (∀ b o, h'.get? b = some o -> h2.get? b = some o) -> h2.get? h'.objs.size = some (seqObj "list" out.toArray n) -> out.length = bs.length -> EachIs R out (bs.mergeSort (dataLe b enc)) -> Q (.ref h'.objs.size) { s with heap := h2 }) :
  wpAny (model prog w) A (call (.builtin "sorted") [.ref t] kw) Q E s := by
 have hlen : vs.length <= sizeLine := by rw [e.length]; exact hL
 obtain ⟨o, n0, ho, hc, _, hd⟩ := id ht
 refine call_function_entry_kw kind_sorted plain_sorted entry_sorted ha1 ?_
 unfold Builtin.«sorted»
 refine wpAny_bind (m := checkCount "sorted" 1 1 _) (wpAny_pure ?_)
 refine wpAny_bind (wpAny_collect_seq t (.inl rfl) ho hc hd (fun h' hk' => ?_) (by rw [List.size_toArray]; exact hlen))
 refine wpAny_bind (wpAny_newList ?_ hlen)
 show wpAny _ _ _ _ _ { s with heap := h'.push (seqObj "list" vs.toArray 0) }
 have hat : (h'.push (seqObj "list" vs.toArray 0)).get? h'.objs.size = some (seqObj "list" vs.toArray 0) := Heap.get?_push_size _ rfl
 refine wpAny_bind (wpAny_holding (wpAny_call_entry_kw slot_list_sort ⟨_, hat, rfl⟩ entry_list_sort ?body (ha2 _)))
 case body =>
  rw [hkw]
  have old : ∀ b o, h'.get? b = some o -> (sortingHeap (h'.push (seqObj "list" vs.toArray 0)) h'.objs.size vs).get? b = some o := fun b o q => sortingHeap_old (Nat.ne_of_lt (Heap.lt_size q)) (Heap.get?_push_of_some _ q)
  have er' : EachIs (fun v b => ∃ as, Reads (sortingHeap (h'.push (seqObj "list" vs.toArray 0)) h'.objs.size vs) v (enc b) as) vs bs := er.mono fun _ _ ⟨as, r⟩ => ⟨as, PyProof.Rows.Reads.keeps (fun b o q => old b o (hk' b o q)) r⟩
  refine list_sort_rev_vals (s := { s with heap := h'.push (seqObj "list" vs.toArray 0) }) (κ := dataKind (sortingHeap (h'.push (seqObj "list" vs.toArray 0)) h'.objs.size vs) (bs.map enc)) hat (SortsAt.data (s := { s with heap := sortingHeap (h'.push (seqObj "list" vs.toArray 0)) h'.objs.size vs }) (each_map (R := fun v d => ∃ as, Reads (sortingHeap (h'.push (seqObj "list" vs.toArray 0)) h'.objs.size vs) v d as) enc er') hal hk (bound_map hu)) hlen ?_
  refine ⟨_, rfl, wpAny_pure ⟨_, rfl, ?_⟩⟩
  obtain ⟨n2, hn2⟩ := sortedHeap_at (out := (sortVals (dataKind (sortingHeap (h'.push (seqObj "list" vs.toArray 0)) h'.objs.size vs) (bs.map enc)) b vs vs).toArray) hat
  refine h _ h' _ n2 hk' (fun b o q => ?_) hn2 (by rw [sortVals_length b rfl]; exact e.length) (sortVals_data b e er' hal)
  rw [sortedHeap_old (Nat.ne_of_lt (Heap.lt_size q)) (by rw [size_push']; exact Nat.lt_succ_of_lt (Heap.lt_size q))]
  exact Heap.get?_push_of_some _ q
end
def rSortedL (K : PySem.W.Frag) {β : Type} (enc : β -> PyData) (b : Bool) (vs : List V) (H : Hp) (Q : VK) : Prop := ∃ (a : Addr) (xs : List V) (bs : List β), vs = [V.ref a] /\ SqL K H a xs /\ Bears K H enc xs bs /\ AllAlike (bs.map enc) /\ Sortable (bs.map enc) /\ bs.length <= 10000000 /\ (∀ b ∈ bs, (enc b).depth <= 100) /\
 ∀ (p : Addr) (ys : List V), H p = none -> Bears K H enc ys (bs.mergeSort (dataLe b enc)) -> Q (.ref p) (upd H p (.lst ys))
section
variable {X : Cx}
theorem sortedL_run {β : Type} {enc : β -> PyData} {b : Bool} {kw : List (Str × Value)} (hu : X.A.units + 110 < cLine) (hkw : ∀ a, Builtin.«list.sort» ⟨[.ref a], kw⟩ = Builtin.«list.sort» ⟨[.ref a], [(Str.ofString "reverse", .bool b)]⟩) (ha1 : ∀ t, argsOk "sorted" ⟨[.ref t], kw⟩) (ha2 : ∀ x, argsOk "list.sort" ⟨[.ref x], kw⟩)
  {pins : List (Addr × Obj)} {s : Shared} {σ : L2.St} {H : Hp} {vs : List V} {us : List Value} {Q : VK} (I : Inv X pins σ H s) (r : Vals vs us) (h : rSortedL X.K enc b vs H Q) : wpAny (model X.prog X.w) X.A (call (.builtin "sorted") us kw) (EP X pins σ Q) X.xe s := by
 obtain ⟨a, xs, bs, rfl, hs, hb, hal, hsr, hl, hd, q⟩ := h
 obtain ⟨its, rv, hli, _⟩ := I.list hs
 rw [Vals.ref1 r]
 obtain ⟨e1, e2⟩ := each_of I hb rv
 refine sorted_lstK (vs := its) (bs := bs) (enc := enc) (R := fun u b => ∃ v, RelV v u /\ Dp X.K H v (enc b)) hkw (ha1 _) ha2 hli e1 e2 hal hsr (by rw [sizeLine_eq]; omega) (fun b m => by have := hd b m; omega) fun out h' h2 n k1 k2 hat ho h1 => ?_
 obtain ⟨ys, g2, g3⟩ := of_each h1
 have I' : Inv X pins σ H { s with heap := h' } := I.kept (t' := s.toks) k1
 have hlen : ys.length <= sizeLine := by rw [g2.length, ho, sizeLine_eq]; omega
 exact ⟨.ref _, upd H h'.objs.size (.lst ys), I'.laid (t' := s.toks) (fun b o e => k2 b o e) (Nat.le_refl _) ⟨hlen, out, n, g2, hat⟩, rfl, q _ ys (I'.hok.fresh (Nat.le_refl _)) g3⟩
theorem cr_sortedL {β : Type} (enc : β -> PyData) (hu : X.A.units + 110 < cLine) : CallR X (.builtin "sorted") (rSortedL X.K enc false) := by
 intro pins s σ H vs us Q I r h
 exact sortedL_run (kw := []) hu plain_is_rev (fun _ => args_sorted1 _) (fun _ => args_list_sort _) I r h
end
theorem dl_irrefl (x : PyData) : dataLt x x = false := lex_irrefl (O := itemOrd) _
theorem dl_trans {x y z : PyData} (h : dataLt x y = true) (h2 : dataLt y z = true) : dataLt x z = true := lex_trans (O := itemOrd) _ _ _ h h2
theorem dl_total {x y : PyData} (al : alike x y = true) (h : dataLt x y = false) (h2 : dataLt y x = false) : PyData.eqv x y = true := by
 have e : keyToks x = keyToks y := lex_total (O := itemOrd) _ _ h h2
 cases hq : PyData.eqv x y with
 | true => rfl
 | false =>
  have t := (toks_eqv x y al).2 hq [.inl 0] [.inl 1]
  rw [e] at t
  have t2 : PyProof.Rows.lexLt itemOrd (keyToks y ++ [.inl 0]) (keyToks y ++ [.inl 1]) = PyProof.Rows.lexLt itemOrd [.inl 0] [.inl 1] := lex_pre _ _ _
  have t3 : PyProof.Rows.lexLt itemOrd (keyToks y) (keyToks y) = false := lex_irrefl (O := itemOrd) _
  rw [t2, t3, lex_one] at t
  revert t
  decide
theorem dl_asymm {x y : PyData} (h : dataLt x y = true) : dataLt y x = false := by
 cases e : dataLt y x with
 | false => rfl
 | true => have := dl_trans h e; rw [dl_irrefl] at this; cases this
class Orderly {γ : Type} [DecidableEq γ] (enc : γ -> PyData) : Prop where
 al : ∀ a b, alike (enc a) (enc b) = true
 eq : ∀ a b, PyData.eqv (enc a) (enc b) = decide (a = b)
section
variable {γ : Type} [DecidableEq γ] {enc : γ -> PyData} [O : Orderly enc]
theorem ol_tri {a b : γ} (hne : a ≠ b) (h : dataLt (enc a) (enc b) = false) : dataLt (enc b) (enc a) = true := by
 cases e : dataLt (enc b) (enc a) with
 | true => rfl
 | false =>
  have := dl_total (O.al a b) h e
  rw [O.eq] at this
  exact absurd (of_decide_eq_true this) hne
theorem ol_ne {a b : γ} (h : dataLt (enc a) (enc b) = true) : a ≠ b := fun z => by subst z; rw [dl_irrefl] at h; cases h
instance : Orderly (pairE enc) where
 al a b := by simp [pairE, alike, alikeAll, O.al a.1 b.1]
 eq a b := by
  simp only [pairE, PyData.eqv, PyData.eqvAll, O.eq, Bool.and_true, ib]
  by_cases h : a = b
  ·subst h; simp
  ·rw [decide_eq_false h]
   rw [Bool.and_eq_false_iff]
   by_cases h1 : a.1 = b.1
   ·exact .inr (decide_eq_false fun h2 => h (Prod.ext h1 h2))
   ·exact .inl (decide_eq_false h1)
theorem pairE_lt (p q : γ × Int) : dataLt (pairE enc p) (pairE enc q) = if p.1 = q.1 then decide (p.2 < q.2) else dataLt (enc p.1) (enc q.1) := by
 unfold pairE
 rw [dataLt_pair (O.al p.1 q.1) (by simp [alike]), O.eq]
 by_cases h : p.1 = q.1
 ·rw [if_pos (by simp [h]), if_pos h, dataLt_int]
  by_cases h2 : p.2 = q.2
  ·simp [PyData.eqv, h2]
  ·simp [PyData.eqv, h2]
 ·rw [if_neg (by simp [h]), if_neg h]
def srtE (enc : γ -> PyData) (bs : List γ) : List γ := bs.mergeSort (dataLe false enc)
theorem srtE_perm (bs : List γ) : (srtE enc bs).Perm bs := List.mergeSort_perm _ _
theorem srtE_le (bs : List γ) : (srtE enc bs).Pairwise (fun a b => dataLt (enc b) (enc a) = false) := by
 have h := List.pairwise_mergeSort (le := dataLe false enc) (fun a b c h1 h2 => ?_) (fun a b => ?_) bs
 ·refine h.imp fun {a b} hab => ?_
  rw [dataLe_eq] at hab
  simpa using hab
 ·rw [dataLe_eq] at h1 h2 ⊢
  simp only [cond_false, Bool.not_eq_true'] at h1 h2 ⊢
  by_cases hab : a = b
  ·subst hab; exact h2
  ·by_cases hbc : b = c
   ·subst hbc; exact h1
   ·exact dl_asymm (dl_trans (ol_tri (fun z => hab z.symm) h1) (ol_tri (fun z => hbc z.symm) h2))
 ·rw [dataLe_eq]
  simp only [cond_false]
  cases e : dataLt (enc b) (enc a) with
  | false => rfl
  | true => rw [dl_asymm e]; rfl
def sumE (ps : List (γ × Int)) (x : γ) : Int := match ps with
 | [] => 0
 | p :: r => (if p.1 = x then p.2 else 0) + sumE r x
theorem sumE_append (x : γ) : ∀ (as bs : List (γ × Int)), sumE (as ++ bs) x = sumE as x + sumE bs x
 | [], bs => by simp [sumE]
 | p :: r, bs => by show _ + sumE (r ++ bs) x = _; rw [sumE_append x r bs, sumE]; omega
theorem sumE_perm {as bs : List (γ × Int)} (h : as.Perm bs) (x : γ) : sumE as x = sumE bs x := by
 induction h with
 | nil => rfl
 | cons y _ ih => simp only [sumE]; omega
 | swap y z l => simp only [sumE]; omega
 | trans _ _ h1 h2 => omega
theorem sumE_jstep (acc : List (γ × Int)) (p : γ × Int) (x : γ) : sumE (jstep acc p) x = sumE acc x + (if p.1 = x then p.2 else 0) := by
 rcases List.eq_nil_or_concat acc with h | ⟨a, z, h⟩
 ·subst h; rw [jstep_nil]; simp [sumE]
 ·subst h
  rw [List.concat_eq_append, jstep_snoc]
  by_cases hz : z.1 = p.1
  ·rw [if_pos hz, sumE_append, sumE_append]
   simp only [sumE, hz]
   by_cases hx : p.1 = x
   ·simp only [if_pos hx]; omega
   ·simp only [if_neg hx]; omega
  ·rw [if_neg hz, sumE_append]; simp only [sumE]; omega
theorem sumE_jn (bs : List (γ × Int)) (x : γ) : sumE (jn bs) x = sumE bs x := by
 have key : ∀ (bs acc : List (γ × Int)), sumE (bs.foldl jstep acc) x = sumE acc x + sumE bs x := by
  intro bs
  induction bs with
  | nil => intro acc; simp [sumE]
  | cons p r ih =>
   intro acc
   show sumE (r.foldl jstep (jstep acc p)) x = _
   rw [ih, sumE_jstep, sumE]; omega
 have := key bs []
 simpa [jn, sumE] using this
theorem jn_rise {bs : List (γ × Int)} (h : bs.Pairwise (fun a b => dataLt (enc b.1) (enc a.1) = false)) : (jn bs).Pairwise (fun p q => dataLt (enc p.1) (enc q.1) = true) := by
 have key : ∀ (bs acc : List (γ × Int)), acc.Pairwise (fun p q => dataLt (enc p.1) (enc q.1) = true) -> (∀ a ∈ acc, ∀ b ∈ bs, dataLt (enc b.1) (enc a.1) = false) -> bs.Pairwise (fun a b => dataLt (enc b.1) (enc a.1) = false) -> (bs.foldl jstep acc).Pairwise (fun p q => dataLt (enc p.1) (enc q.1) = true) := by
  intro bs
  induction bs with
  | nil => intro acc h _ _; exact h
  | cons p r ih =>
   intro acc h1 h2 h3
   obtain ⟨h31, h32⟩ := List.pairwise_cons.mp h3
   refine ih (jstep acc p) ?_ ?_ h32
   ·rcases List.eq_nil_or_concat acc with h | ⟨a, z, h⟩
    ·subst h; rw [jstep_nil]; exact List.pairwise_singleton _ _
    ·subst h
     rw [List.concat_eq_append] at h1 h2 ⊢
     rw [jstep_snoc]
     obtain ⟨a1, _, a3⟩ := List.pairwise_append.mp h1
     by_cases hz : z.1 = p.1
     ·rw [if_pos hz, List.pairwise_append]
      refine ⟨a1, List.pairwise_singleton _ _, fun x hx y hy => ?_⟩
      have hy' : y = (p.1, z.2 + p.2) := by simpa using hy
      subst hy'
      show dataLt (enc x.1) (enc p.1) = true
      rw [<- hz]; exact a3 x hx z (by simp)
     ·rw [if_neg hz, List.pairwise_append]
      refine ⟨h1, List.pairwise_singleton _ _, fun x hx y hy => ?_⟩
      have hy' : y = p := by simpa using hy
      subst hy'
      have hzp : dataLt (enc z.1) (enc y.1) = true := ol_tri (fun q => hz q.symm) (h2 z (by simp) y (mcs ..))
      rcases List.mem_append.mp hx with hx | hx
      ·exact dl_trans (a3 x hx z (by simp)) hzp
      ·have hx' : x = z := by simpa using hx
       subst hx'; exact hzp
   ·intro a ha b hb
    have hpb := h31 b hb
    rcases List.eq_nil_or_concat acc with h | ⟨c, z, h⟩
    ·subst h
     rw [jstep_nil] at ha
     have : a = p := by simpa using ha
     subst this; exact hpb
    ·subst h
     rw [List.concat_eq_append] at ha h2
     rw [jstep_snoc] at ha
     by_cases hz : z.1 = p.1
     ·rw [if_pos hz] at ha
      rcases List.mem_append.mp ha with ha | ha
      ·exact h2 a (List.mem_append_left _ ha) b (mcm _ hb)
      ·have : a = (p.1, z.2 + p.2) := by simpa using ha
       subst this; exact hpb
     ·rw [if_neg hz] at ha
      rcases List.mem_append.mp ha with ha | ha
      ·exact h2 a ha b (mcm _ hb)
      ·have : a = p := by simpa using ha
       subst this; exact hpb
 exact key bs [] List.Pairwise.nil (by simp) h
theorem srt_keys (bs : List (γ × Int)) : (srtE (pairE enc) bs).Pairwise (fun a b => dataLt (enc b.1) (enc a.1) = false) := by
 refine (srtE_le (enc := pairE enc) bs).imp fun {a b} hab => ?_
 rw [pairE_lt] at hab
 by_cases h : b.1 = a.1
 ·rw [h]; exact dl_irrefl _
 ·rw [if_neg h] at hab; exact hab
def tdy (enc : γ -> PyData) (bs : List (γ × Int)) : List (γ × Int) := jn (srtE (pairE enc) bs)
theorem tdy_rise (bs : List (γ × Int)) : (tdy enc bs).Pairwise (fun p q => dataLt (enc p.1) (enc q.1) = true) := jn_rise (srt_keys bs)
theorem tdy_sum (bs : List (γ × Int)) (x : γ) : sumE (tdy enc bs) x = sumE bs x := by
 unfold tdy
 rw [sumE_jn, sumE_perm (srtE_perm bs)]
theorem tdy_keys (bs : List (γ × Int)) : ∀ p ∈ tdy enc bs, ∃ q ∈ bs, q.1 = p.1 := fun p hp => by
 obtain ⟨q, hq, e⟩ := jn_keys _ p hp
 exact ⟨q, (srtE_perm bs).mem_iff.mp hq, e⟩
def allE : List (γ × Int) -> Int
 | [] => 0
 | p :: r => p.2 + allE r
theorem allE_append : ∀ as bs : List (γ × Int), allE (as ++ bs) = allE as + allE bs
 | [], bs => by simp [allE]
 | p :: r, bs => by show _ + allE (r ++ bs) = _; rw [allE_append r bs, allE]; omega
theorem allE_perm {as bs : List (γ × Int)} (h : as.Perm bs) : allE as = allE bs := by
 induction h with
 | nil => rfl
 | cons y _ ih => simp only [allE]; omega
 | swap y z l => simp only [allE]; omega
 | trans _ _ h1 h2 => omega
theorem jn_all (bs : List (γ × Int)) : allE (jn bs) = allE bs := by
 have key : ∀ (bs acc : List (γ × Int)), allE (bs.foldl jstep acc) = allE acc + allE bs := by
  intro bs
  induction bs with
  | nil => intro acc; simp [allE]
  | cons p r ih =>
   intro acc
   show allE (r.foldl jstep (jstep acc p)) = _
   rw [ih]
   have e : allE (jstep acc p) = allE acc + p.2 := by
    rcases List.eq_nil_or_concat acc with h | ⟨a, z, h⟩
    ·subst h; rw [jstep_nil]; simp [allE]
    ·subst h
     rw [List.concat_eq_append, jstep_snoc]
     split
     ·rw [allE_append, allE_append]; simp only [allE]; omega
     ·rw [allE_append]; simp only [allE]; omega
   rw [e, allE]; omega
 have := key bs []
 simpa [jn, allE] using this
theorem jn_pos {bs : List (γ × Int)} (h : ∀ p ∈ bs, 1 <= p.2) : ∀ p ∈ jn bs, 1 <= p.2 := by
 have key : ∀ (bs acc : List (γ × Int)), (∀ p ∈ acc, 1 <= p.2) -> (∀ p ∈ bs, 1 <= p.2) -> ∀ p ∈ bs.foldl jstep acc, 1 <= p.2 := by
  intro bs
  induction bs with
  | nil => intro acc h _; exact h
  | cons p r ih =>
   intro acc h1 h2
   refine ih (jstep acc p) (fun q hq => ?_) fun q hq => h2 q (mcm _ hq)
   have hp := h2 p (mcs ..)
   rcases List.eq_nil_or_concat acc with h | ⟨a, z, h⟩
   ·subst h
    rw [jstep_nil] at hq
    have : q = p := by simpa using hq
    subst this; exact hp
   ·subst h
    rw [List.concat_eq_append] at h1 hq
    rw [jstep_snoc] at hq
    have hz := h1 z (by simp)
    by_cases e : z.1 = p.1
    ·rw [if_pos e] at hq
     rcases List.mem_append.mp hq with hq | hq
     ·exact h1 q (List.mem_append_left _ hq)
     ·have : q = (p.1, z.2 + p.2) := by simpa using hq
      subst this; show 1 <= z.2 + p.2; omega
    ·rw [if_neg e] at hq
     rcases List.mem_append.mp hq with hq | hq
     ·exact h1 q hq
     ·have : q = p := by simpa using hq
      subst this; exact hp
 exact key bs [] (by simp) h
theorem le_all {bs : List (γ × Int)} (h : ∀ p ∈ bs, 1 <= p.2) : ∀ p ∈ bs, p.2 <= allE bs := by
 induction bs with
 | nil => intro p hp; cases hp
 | cons a r ih =>
  intro p hp
  have hr : 0 <= allE r := by
   clear ih hp
   have : ∀ p ∈ r, 1 <= p.2 := fun p hp => h p (mcm _ hp)
   clear h
   induction r with
   | nil => exact Int.le_refl _
   | cons b r ih2 =>
    have h1 := this b (mcs ..)
    have h2 := ih2 fun p hp => this p (mcm _ hp)
    show 0 <= b.2 + allE r; omega
  have ha := h a (mcs ..)
  rcases List.mem_cons.mp hp with hp | hp
  ·subst hp; show p.2 <= p.2 + allE r; omega
  ·have := ih (fun p hp => h p (mcm _ hp)) p hp
   show p.2 <= a.2 + allE r; omega
theorem tdy_pos {bs : List (γ × Int)} (h : ∀ p ∈ bs, 1 <= p.2) : ∀ p ∈ tdy enc bs, 1 <= p.2 /\ p.2 <= allE bs := fun p hp => by
 have h0 : ∀ p ∈ srtE (pairE enc) bs, 1 <= p.2 := fun p hp => h p ((srtE_perm bs).mem_iff.mp hp)
 have h1 := jn_pos h0
 refine ⟨h1 p hp, ?_⟩
 have h2 := le_all h1 p hp
 rw [jn_all, allE_perm (srtE_perm bs)] at h2
 exact h2
end
inductive Gr where
 | nil
 | cons (k : Str) (g : Gr) (m : Int) (r : Gr)
 deriving DecidableEq
abbrev Tr := Str × Gr
def NameOk (k : Str) : Prop := 1 <= k.cps.toList.length /\ k.cps.toList.length <= 8 /\ ∀ c ∈ k.cps.toList, 97 <= c /\ c <= 122
namespace Gr
def encs : Gr -> List PyData
 | .nil => []
 | .cons k g m r => .tuple [.tuple [.str k, .tuple g.encs], .int m] :: r.encs
def enc (g : Gr) : PyData := .tuple g.encs
def tEnc (t : Tr) : PyData := .tuple [.str t.1, t.2.enc]
abbrev pEnc : Tr × Int -> PyData := pairE tEnc
def ps : Gr -> List (Tr × Int)
 | .nil => []
 | .cons k g m r => ((k, g), m) :: r.ps
def ofPs : List (Tr × Int) -> Gr
 | [] => .nil
 | p :: r => .cons p.1.1 p.1.2 p.2 (ofPs r)
theorem ofPs_ps : ∀ g : Gr, ofPs g.ps = g
 | .nil => rfl
 | .cons k g m r => by show Gr.cons k g m (ofPs r.ps) = _; rw [ofPs_ps r]
theorem ps_ofPs : ∀ bs : List (Tr × Int), (ofPs bs).ps = bs
 | [] => rfl
 | p :: r => by show ((p.1.1, p.1.2), p.2) :: (ofPs r).ps = _; rw [ps_ofPs r]
theorem encs_ps : ∀ g : Gr, g.encs = g.ps.map pEnc
 | .nil => rfl
 | .cons k g m r => by show _ :: r.encs = _ :: r.ps.map pEnc; rw [encs_ps r]; rfl
def parts : Gr -> Nat
 | .nil => 0
 | .cons _ g _ r => 1 + g.parts + r.parts
def deep : Gr -> Nat
 | .nil => 0
 | .cons _ g _ r => max (1 + g.deep) r.deep
def tot : List (Tr × Int) -> Nat
 | [] => 0
 | p :: r => 1 + p.1.2.parts + tot r
theorem parts_ofPs : ∀ bs : List (Tr × Int), (ofPs bs).parts = tot bs
 | [] => rfl
 | p :: r => by show 1 + p.1.2.parts + (ofPs r).parts = 1 + p.1.2.parts + tot r; rw [parts_ofPs r]
theorem tot_ps (g : Gr) : tot g.ps = g.parts := by rw [<- parts_ofPs, ofPs_ps]
theorem tot_append : ∀ bs cs : List (Tr × Int), tot (bs ++ cs) = tot bs + tot cs
 | [], cs => by simp [tot]
 | p :: r, cs => by show 1 + p.1.2.parts + tot (r ++ cs) = _; rw [tot_append r cs, tot]; omega
theorem tot_perm {bs cs : List (Tr × Int)} (h : bs.Perm cs) : tot bs = tot cs := by
 induction h with
 | nil => rfl
 | cons x _ ih => simp only [tot]; omega
 | swap x y l => simp only [tot]; omega
 | trans _ _ h1 h2 => omega
theorem len_tot : ∀ bs : List (Tr × Int), bs.length <= tot bs
 | [] => Nat.le_refl _
 | p :: r => by have := len_tot r; show r.length + 1 <= 1 + p.1.2.parts + tot r; omega
theorem tot_jn (bs : List (Tr × Int)) : tot (jn bs) <= tot bs := by
 have key : ∀ (bs acc : List (Tr × Int)), tot (bs.foldl jstep acc) <= tot acc + tot bs := by
  intro bs
  induction bs with
  | nil => intro acc; simp [tot]
  | cons x r ih =>
   intro acc
   have h1 := ih (jstep acc x)
   have h2 : tot (jstep acc x) <= tot acc + (1 + x.1.2.parts) := by
    rcases List.eq_nil_or_concat acc with h | ⟨a, z, h⟩
    ·subst h; simp [jstep_nil, tot]
    ·subst h
     rw [List.concat_eq_append, jstep_snoc]
     by_cases hz : z.1 = x.1
     ·rw [if_pos hz, tot_append, tot_append]; simp only [tot]; rw [hz]; omega
     ·rw [if_neg hz, tot_append, tot_append]; simp only [tot]; omega
   show tot (r.foldl jstep (jstep acc x)) <= tot acc + (1 + x.1.2.parts + tot r)
   omega
 have := key bs []
 simpa [jn, tot] using this
theorem mem_deep : ∀ (g : Gr) (p : Tr × Int), p ∈ g.ps -> p.1.2.deep < g.deep
 | .nil, p, h => by cases h
 | .cons k g m r, p, h => by
  rcases List.mem_cons.mp h with h | h
  ·subst h; show g.deep < max (1 + g.deep) r.deep; omega
  ·have := mem_deep r p h; show _ < max (1 + g.deep) r.deep; omega
theorem mem_parts : ∀ (g : Gr) (p : Tr × Int), p ∈ g.ps -> p.1.2.parts < g.parts
 | .nil, p, h => by cases h
 | .cons k g m r, p, h => by
  rcases List.mem_cons.mp h with h | h
  ·subst h; show g.parts < 1 + g.parts + r.parts; omega
  ·have := mem_parts r p h; show _ < 1 + g.parts + r.parts; omega
theorem deep_le {n : Nat} : ∀ {g : Gr}, (∀ p ∈ g.ps, p.1.2.deep < n) -> g.deep <= n
 | .nil, _ => Nat.zero_le _
 | .cons k g m r, h => by
  have h1 := h ((k, g), m) (mcs ..)
  have h2 := deep_le (g := r) fun p hp => h p (mcm _ hp)
  show max (1 + g.deep) r.deep <= n
  have : g.deep < n := h1
  omega
theorem len_parts (g : Gr) : g.ps.length <= g.parts := by have := len_tot g.ps; rw [tot_ps] at this; exact this
theorem alikes : ∀ g h : Gr, alikeAll g.encs h.encs = true
 | .nil, _ => by simp [encs, alikeAll]
 | .cons _ _ _ _, .nil => by simp [encs, alikeAll]
 | .cons k g m r, .cons k' g' m' r' => by
  have h1 := alikes g g'
  have h2 := alikes r r'
  simp [encs, alikeAll, alike, h1, h2]
theorem alike_enc (g h : Gr) : alike g.enc h.enc = true := by
 show alike (.tuple g.encs) (.tuple h.encs) = true
 rw [alike]; exact alikes g h
theorem sb (a b : Str) : (a == b) = decide (a = b) := by by_cases h : a = b <;> simp [h]
theorem eqvs : ∀ g h : Gr, PyData.eqvAll g.encs h.encs = decide (g = h)
 | .nil, .nil => by simp [encs, PyData.eqvAll]
 | .nil, .cons _ _ _ _ => by simp [encs, PyData.eqvAll]
 | .cons _ _ _ _, .nil => by simp [encs, PyData.eqvAll]
 | .cons k g m r, .cons k' g' m' r' => by
  have h1 := eqvs g g'
  have h2 := eqvs r r'
  simp [encs, PyData.eqvAll, PyData.eqv, h1, h2, Bool.and_assoc, ib, sb]
theorem eqv_enc (g h : Gr) : PyData.eqv g.enc h.enc = decide (g = h) := by
 rw [enc, enc, PyData.eqv]; exact eqvs g h
instance : Orderly tEnc where
 al a b := by simp [tEnc, alike, alikeAll, alike_enc]
 eq a b := by
  simp only [tEnc, PyData.eqv, PyData.eqvAll, eqv_enc, Bool.and_true, sb]
  by_cases h : a = b
  ·subst h; simp
  ·rw [decide_eq_false h, Bool.and_eq_false_iff]
   by_cases h1 : a.1 = b.1
   ·exact .inr (decide_eq_false fun h2 => h (Prod.ext h1 h2))
   ·exact .inl (decide_eq_false h1)
theorem noLists_encs : ∀ g : Gr, noLists g.encs = true
 | .nil => by simp [encs, noLists]
 | .cons k g m r => by simp [encs, noLists, noList, noLists_encs g, noLists_encs r]
theorem noList_enc (g : Gr) : noList g.enc = true := by simp [enc, noList, noLists_encs g]
theorem noList_tEnc (t : Tr) : noList (tEnc t) = true := by simp [tEnc, noList, noLists, noList_enc]
theorem noList_pEnc (p : Tr × Int) : noList (pEnc p) = true := by simp [pEnc, pairE, noList, noLists, noList_tEnc]
theorem encs_depth : ∀ g : Gr, PyData.depthAll g.encs <= 3 * g.deep
 | .nil => by simp [encs, PyData.depthAll, deep]
 | .cons k g m r => by
  have h1 := encs_depth g
  have h2 := encs_depth r
  simp only [encs, PyData.depthAll, PyData.depth, deep]
  omega
theorem enc_depth (g : Gr) : g.enc.depth <= 3 * g.deep + 1 := by
 have := encs_depth g
 simp only [enc, PyData.depth]
 omega
theorem tEnc_depth (t : Tr) : (tEnc t).depth <= 3 * t.2.deep + 2 := by
 have := enc_depth t.2
 simp only [tEnc, PyData.depth, PyData.depthAll]; omega
theorem pEnc_depth (p : Tr × Int) : (pEnc p).depth <= 3 * p.1.2.deep + 3 := by
 have := tEnc_depth p.1
 simp only [pEnc, pairE, PyData.depth, PyData.depthAll]; omega
def Ok (C : Int) : Gr -> Prop
 | .nil => True
 | .cons k g m r => NameOk k /\ g.Ok C /\ 1 <= m /\ m < C /\ r.Ok C /\ ∀ p ∈ r.ps, dataLt (tEnc (k, g)) (tEnc p.1) = true
theorem Ok.mono {B C : Int} (h : B <= C) : ∀ {g : Gr}, g.Ok B -> g.Ok C
 | .nil, _ => trivial
 | .cons k g m r, ⟨h0, h1, h2, h3, h4, h5⟩ => ⟨h0, Ok.mono h h1, h2, by omega, Ok.mono h h4, h5⟩
theorem ok_ps {C : Int} : ∀ {bs : List (Tr × Int)}, (ofPs bs).Ok C ↔ (∀ p ∈ bs, NameOk p.1.1 /\ p.1.2.Ok C /\ 1 <= p.2 /\ p.2 < C) /\ bs.Pairwise (fun p q => dataLt (tEnc p.1) (tEnc q.1) = true)
 | [] => by simp [ofPs, Ok]
 | x :: r => by
  have ih := ok_ps (C := C) (bs := r)
  show (NameOk x.1.1 /\ x.1.2.Ok C /\ 1 <= x.2 /\ x.2 < C /\ (ofPs r).Ok C /\ ∀ p ∈ (ofPs r).ps, dataLt (tEnc x.1) (tEnc p.1) = true) ↔ _
  rw [ps_ofPs, List.pairwise_cons, ih]
  constructor
  ·rintro ⟨h0, h1, h2, h3, ⟨h4, h5⟩, h6⟩
   refine ⟨fun p hp => ?_, h6, h5⟩
   rcases List.mem_cons.mp hp with hp | hp
   ·subst hp; exact ⟨h0, h1, h2, h3⟩
   ·exact h4 p hp
  ·rintro ⟨h1, h2, h3⟩
   have h4 := h1 x (mcs ..)
   exact ⟨h4.1, h4.2.1, h4.2.2.1, h4.2.2.2, ⟨fun p hp => h1 p (mcm _ hp), h3⟩, h2⟩
theorem ok_iff {C : Int} {g : Gr} : g.Ok C ↔ (∀ p ∈ g.ps, NameOk p.1.1 /\ p.1.2.Ok C /\ 1 <= p.2 /\ p.2 < C) /\ g.ps.Pairwise (fun p q => dataLt (tEnc p.1) (tEnc q.1) = true) := by
 have := ok_ps (C := C) (bs := g.ps)
 rw [ofPs_ps] at this
 exact this
theorem strOk_name {k : Str} (h : NameOk k) : PySem.PyData.strOk k = true := by
 show k.cps.all (· < 0x110000) = true
 rw [Array.all_eq_true']
 intro c hc
 have := h.2.2 c (by simpa using hc)
 simp; omega
theorem lays {C : Int} : ∀ {g : Gr}, g.Ok C -> PyData.canLayAll0 g.encs = true
 | .nil, _ => by simp [encs, PyData.canLayAll0]
 | .cons k g m r, ⟨h0, h1, _, _, h4, _⟩ => by
  have e1 := lays h1
  have e2 := lays h4
  simp [encs, PyData.canLayAll0, PyData.canLay0, e1, e2, strOk_name h0]
theorem shaped_tEnc {C : Int} {t : Tr} (h0 : NameOk t.1) (h : t.2.Ok C) (hd : t.2.deep <= 20) : SeqAt.shaped (tEnc t) = true := by
 have := tEnc_depth t
 unfold SeqAt.shaped
 rw [show (tEnc t).canLay0 = true by simp [tEnc, PyData.canLay0, PyData.canLayAll0, strOk_name h0, enc, lays h]]
 simp; omega
theorem pEnc_all (bs : List (Tr × Int)) : AllAlike (bs.map pEnc) := AllAlike.of fun a b => Orderly.al (enc := pEnc) a b
theorem pEnc_sortable (bs : List (Tr × Int)) : Sortable (bs.map pEnc) := Sortable.tuples fun b => ⟨_, _, rfl⟩
def tidy (bs : List (Tr × Int)) : Gr := ofPs (tdy tEnc bs)
theorem tidy_parts (bs : List (Tr × Int)) : (tidy bs).parts <= tot bs := by
 unfold tidy
 rw [parts_ofPs]
 have h1 := tot_jn (srtE (pairE tEnc) bs)
 rw [tot_perm (srtE_perm bs)] at h1
 exact h1
theorem tidy_deep {n : Nat} {bs : List (Tr × Int)} (h : ∀ p ∈ bs, p.1.2.deep < n) : (tidy bs).deep <= n := by
 refine deep_le fun p hp => ?_
 unfold tidy at hp
 rw [ps_ofPs] at hp
 obtain ⟨q, hq, e⟩ := tdy_keys bs p hp
 rw [<- e]; exact h q hq
end Gr
def GA (K : PySem.W.Frag) (H : Hp) (v : V) (g : Gr) : Prop := Dp K H v g.enc
section
variable {K : PySem.W.Frag} {ps : List Addr} {H H' : Hp} {v : V} {g : Gr}
theorem GA.sb (h : GA K H v g) (e : SB ps H H') : GA K H' v g := Dp_sb e _ _ g.noList_enc h
theorem GA_bears (h : GA K H v g) : ∃ a xs, v = .ref a /\ SqT K H a xs /\ Bears K H Gr.pEnc xs g.ps := by
 have h' : Dp K H v (.tuple g.encs) := h
 cases h' with
 | tup hs ha =>
  rw [Gr.encs_ps] at ha
  exact ⟨_, _, rfl, hs, Bears.of ha⟩
theorem Bears_ga {a : Addr} {xs : List V} {bs : List (Tr × Int)} (h : SqT K H a xs) (hb : Bears K H Gr.pEnc xs bs) : GA K H (.ref a) (Gr.ofPs bs) := by
 refine Dp.tup h ?_
 rw [Gr.encs_ps, Gr.ps_ofPs]
 exact hb.dp
theorem GA_nil {p : Addr} (h : SqT K H p []) : GA K H (.ref p) .nil := Dp.tup h .nil
theorem TA_parts {t : Tr} (h : Dp K H v (Gr.tEnc t)) : ∃ a u, v = .ref a /\ SqT K H a [.str t.1, u] /\ GA K H u t.2 := by
 cases h with
 | tup hs ha =>
  cases ha with
  | cons h1 h2 =>
   cases h2 with
   | cons h3 h4 =>
    cases h4
    cases h1
    exact ⟨_, _, rfl, hs, h3⟩
theorem PA_parts {p : Tr × Int} (h : Dp K H v (Gr.pEnc p)) : ∃ a b u, v = .ref a /\ SqT K H a [.ref b, .int p.2] /\ SqT K H b [.str p.1.1, u] /\ GA K H u p.1.2 /\ Dp K H (.ref b) (Gr.tEnc p.1) := by
 cases h with
 | tup hs ha =>
  cases ha with
  | cons h1 h2 =>
   cases h2 with
   | cons h3 h4 =>
    cases h4
    cases h3
    obtain ⟨b, u, rfl, hb, hg⟩ := TA_parts h1
    exact ⟨_, b, u, rfl, hs, hb, hg, h1⟩
end
def Ltr (z : Str) (n : Nat) : Prop := z.cps.toList.length = n /\ ∀ c ∈ z.cps.toList, 97 <= c /\ c <= 122
theorem Ltr.name {z : Str} {n : Nat} (h : Ltr z n) (h1 : 1 <= n) (h8 : n <= 8) : NameOk z := ⟨by have := h.1; omega, by have := h.1; omega, h.2⟩
theorem Ltr.len {z : Str} {n : Nat} (h : Ltr z n) : z.length = n := by have := h.1; simpa [Str.length] using this
theorem Ltr.one {c : Nat} (h : 97 <= c /\ c <= 122) : Ltr ⟨#[c]⟩ 1 := ⟨rfl, fun x hx => by simp at hx; subst hx; exact h⟩
theorem Ltr.append {a b : Str} {n m : Nat} (ha : Ltr a n) (hb : Ltr b m) : Ltr (a ++ b) (n + m) := by
 have e : (a ++ b).cps.toList = a.cps.toList ++ b.cps.toList := by show (a.cps ++ b.cps).toList = _; simp
 unfold Ltr
 rw [e, List.length_append, ha.1, hb.1]
 refine ⟨rfl, fun c hc => ?_⟩
 rcases List.mem_append.mp hc with hc | hc
 ·exact ha.2 c hc
 ·exact hb.2 c hc
theorem Ltr.take {z : Str} {n : Nat} (h : Ltr z n) (k : Nat) : Ltr (cutS z none (some (k : Int))) (min k n) := by
 have hl := h.len
 have e : (cutS z none (some (k : Int))).cps.toList = z.cps.toList.take (min k n) := by
  unfold cutS
  rw [HT.sIx_none, HT.sIx_nat, hl]
  simp
 unfold Ltr
 rw [e, List.length_take, h.1]
 exact ⟨by omega, fun c hc => h.2 c (List.mem_of_mem_take hc)⟩
theorem Ltr.cut {z : Str} {n : Nat} (h : Ltr z n) (a b : Nat) : Ltr (cutS z (some (a : Int)) (some (b : Int))) (min b n - min a n) := by
 have hl := h.len
 have e : (cutS z (some (a : Int)) (some (b : Int))).cps.toList = (z.cps.toList.drop (min a n)).take (min b n - min a n) := by
  unfold cutS
  rw [HT.sIx_nat, HT.sIx_nat, hl]
 unfold Ltr
 rw [e, List.length_take, List.length_drop, h.1]
 exact ⟨by omega, fun c hc => h.2 c (List.mem_of_mem_drop (List.mem_of_mem_take hc))⟩
theorem glue_ones : ∀ (cs : List Nat) (acc : Array Nat), ((cs.map fun c => (⟨#[c]⟩ : Str)).foldl (fun acc p => acc ++ (Str.ofString "").cps ++ p.cps) acc).toList = acc.toList ++ cs
 | [], acc => by simp
 | c :: cs, acc => by
  have e0 : (Str.ofString "").cps = #[] := by decide +kernel
  rw [List.map_cons, List.foldl_cons, glue_ones cs]
  simp [e0]
theorem join_ltrs (cs : List Nat) (h : ∀ c ∈ cs, 97 <= c /\ c <= 122) : Ltr (Txt.join (Str.ofString "") (cs.map fun c => ⟨#[c]⟩)) cs.length := by
 have e : (Txt.join (Str.ofString "") (cs.map fun c => (⟨#[c]⟩ : Str))).cps.toList = cs := by
  show (Builtin.Str.glued (Str.ofString "") (cs.map fun c => (⟨#[c]⟩ : Str))).cps.toList = cs
  unfold Builtin.Str.glued
  cases cs with
  | nil => rfl
  | cons c r =>
   show ((r.map fun c => (⟨#[c]⟩ : Str)).foldl (fun acc p => acc ++ (Str.ofString "").cps ++ p.cps) #[c]).toList = c :: r
   rw [glue_ones]
   rfl
 unfold Ltr
 rw [e]
 exact ⟨rfl, h⟩
abbrev abc : Str := Str.ofString "abcdefghijklmnopqrstuvwxyz"
theorem abc_at : ∀ r : Nat, r < 26 -> ∃ c, abc.cps.toList[r]? = some c /\ 97 <= c /\ c <= 122 := by
 have : ∀ r : Fin 26, ∃ c : Fin 200, abc.cps.toList[r.val]? = some c.val /\ 97 <= c.val /\ c.val <= 122 := by decide +kernel
 intro r hr
 obtain ⟨c, h⟩ := this ⟨r, hr⟩
 exact ⟨c.val, h⟩
theorem abc_len : abc.length <= sizeLine := by decide +kernel
theorem atI_natN {xs : List Nat} {j : Nat} {c : Nat} (h : xs[j]? = some c) : atI xs (j : Int) = some c := by
 have hj : j < xs.length := (List.getElem?_eq_some_iff.mp h).1
 unfold atI ixN
 rw [if_pos (by omega), if_pos (by omega)]
 simpa using h
theorem cutDropS (ks : List Str) (k : Nat) : cutV (ks.map V.str) (some (k : Int)) none = (ks.drop k).map V.str := by rw [cutDrop, List.map_drop]
def rSortedB (K : PySem.W.Frag) {β : Type} (enc : β -> PyData) (vs : List V) (H : Hp) (Q : VK) : Prop := ∃ (a : Addr) (xs : List V) (bs : List β), vs = [V.ref a] /\ (SqL K H a xs \/ SqT K H a xs) /\ Bears K H enc xs bs /\ AllAlike (bs.map enc) /\ Sortable (bs.map enc) /\ bs.length <= 10000000 /\ (∀ b ∈ bs, (enc b).depth <= 100) /\
 ∀ (p : Addr) (ys : List V), H p = none -> Bears K H enc ys (bs.mergeSort (dataLe false enc)) -> Q (.ref p) (upd H p (.lst ys))
theorem cr_sortedB {X : Cx} {β : Type} (enc : β -> PyData) (hu : X.A.units + 110 < cLine) : CallR X (.builtin "sorted") (rSortedB X.K enc) := by
 intro pins s σ H vs us Q I r h
 obtain ⟨a, xs, bs, h1, h2, h3⟩ := h
 rcases h2 with h2 | h2
 ·exact cr_sortedL enc hu pins s σ H vs us Q I r ⟨a, xs, bs, h1, h2, h3⟩
 ·exact cr_sortedT enc hu pins s σ H vs us Q I r ⟨a, xs, bs, h1, h2, h3⟩
namespace Gr
def within : Gr -> List (Tr × Int)
 | .nil => []
 | .cons k g m r => ((k, g), m) :: (g.within ++ r.within)
theorem within_ps : ∀ g : Gr, g.within = g.ps.flatMap fun p => p :: p.1.2.within
 | .nil => rfl
 | .cons k g m r => by show ((k, g), m) :: (g.within ++ r.within) = _; rw [within_ps r]; rfl
theorem within_length : ∀ g : Gr, g.within.length = g.parts
 | .nil => rfl
 | .cons k g m r => by show (g.within ++ r.within).length + 1 = 1 + g.parts + r.parts; rw [List.length_append, within_length g, within_length r]; omega
theorem deep_at : ∀ h : Gr, 0 < h.deep -> ∃ p ∈ h.ps, p.1.2.deep + 1 = h.deep
 | .nil, h => by simp [deep] at h
 | .cons k g m r, _ => by
  by_cases hr : r.deep <= 1 + g.deep
  ·exact ⟨((k, g), m), mcs .., by show g.deep + 1 = max (1 + g.deep) r.deep; omega⟩
  ·obtain ⟨p, hp, e2⟩ := deep_at r (by omega)
   exact ⟨p, mcm _ hp, by show p.1.2.deep + 1 = max (1 + g.deep) r.deep; omega⟩
theorem deep_max (g : Gr) (m : Int) (hm : m ∈ (g.ps.map fun p => (p.1.2.deep : Int))) (hy : ∀ a, a ∈ (g.ps.map fun p => (p.1.2.deep : Int)) -> a <= m) : (1 : Int) + m = (g.deep : Int) := by
 obtain ⟨p, hp, rfl⟩ := List.mem_map.mp hm
 have h1 := g.mem_deep p hp
 obtain ⟨q, hq, e⟩ := g.deep_at (by omega)
 have := hy _ (List.mem_map.mpr ⟨q, hq, rfl⟩)
 omega
theorem natAbs_lt {x : Int} {n : Nat} (h0 : 0 <= x) (h : x < 2 ^ n) : x.natAbs < 2 ^ n := by
 have h2 : ((x.natAbs : Nat) : Int) = x := Int.natAbs_of_nonneg h0
 have h3 : ((2 ^ n : Nat) : Int) = (2 : Int) ^ n := by rw [Int.natCast_pow]; rfl
 exact Int.ofNat_lt.mp (by rw [h2, h3]; exact h)
end Gr
def spPairsW (K : PySem.W.Frag) (n : Nat) : Sp := fun vs H Q _ => ∃ (v : V) (g : Gr), vs = [v] /\ GA K H v g /\ g.deep < n /\ g.parts <= 200000 /\ ∀ (D : Addr) (us : List V) (H' : Hp), SB [] H H' -> H D = none -> H' D = some (.lst us) -> Bears K H' Gr.pEnc us g.within -> Q (.ref D) H'
def spPartsOf (K : PySem.W.Frag) (n : Nat) : Sp := fun vs H Q _ => ∃ (v : V) (g : Gr), vs = [v] /\ GA K H v g /\ g.deep < n /\ g.parts <= 200000 /\ ∀ H', SB [] H H' -> Q (.int (g.parts : Nat)) H'
def spDeepOf (K : PySem.W.Frag) (n : Nat) : Sp := fun vs H Q _ => ∃ (v : V) (g : Gr), vs = [v] /\ GA K H v g /\ g.deep < n /\ g.parts <= 200000 /\ ∀ H', SB [] H H' -> Q (.int (g.deep : Nat)) H'
section
variable {P : Program} {w : World} {K : PySem.W.Frag} {mg : Str -> Option Value} {base : Heap} {f : Addr} {fd : FuncData}
theorem none_pairs_within {ps : List Str} {k : Nat} : FnOk P w K mg base CX0 k f fd ps (spPairsW K 0) := none_sp fun vs H Q E ⟨v, l, _, _, h, _⟩ => by omega
theorem none_deep_of {ps : List Str} {k : Nat} : FnOk P w K mg base CX0 k f fd ps (spDeepOf K 0) := none_sp fun vs H Q E ⟨v, l, _, _, h, _⟩ => by omega
end
mutual
def plS : PyData -> Bool
 | .int _ => true
 | .str x => PyData.strOk x
 | .tuple ds => plSs ds
 | _ => false
def plSs : List PyData -> Bool
 | [] => true
 | d :: ds => plS d && plSs ds
end
theorem plSs_mem : ∀ {ds : List PyData}, plSs ds = true -> ∀ d ∈ ds, plS d = true
 | [], _, d, h => by cases h
 | e :: r, hp, d, h => by
  rw [plSs, Bool.and_eq_true] at hp
  rcases List.mem_cons.mp h with h | h
  ·subst h; exact hp.1
  ·exact plSs_mem hp.2 d h
mutual
theorem plS_noList : ∀ d : PyData, plS d = true -> noList d = true
 | .int _, _ => by simp [noList]
 | .str _, _ => by simp [noList]
 | .tuple ds, h => by rw [plS] at h; rw [noList]; exact plSs_noList ds h
 | .none, h => by simp [plS] at h
 | .bool _, h => by simp [plS] at h
 | .list _, h => by simp [plS] at h
 | .dict _, h => by simp [plS] at h
theorem plSs_noList : ∀ ds : List PyData, plSs ds = true -> noLists ds = true
 | [], _ => by simp [noLists]
 | d :: ds, h => by
  rw [plSs, Bool.and_eq_true] at h
  rw [noLists, plS_noList d h.1, plSs_noList ds h.2]; rfl
end
mutual
theorem plS_lay : ∀ d : PyData, plS d = true -> d.canLay0 = true
 | .int _, _ => by simp [PyData.canLay0]
 | .str _, h => by rw [plS] at h; rw [PyData.canLay0]; exact h
 | .tuple ds, h => by rw [plS] at h; rw [PyData.canLay0]; exact plSs_lay ds h
 | .none, h => by simp [plS] at h
 | .bool _, h => by simp [plS] at h
 | .list _, h => by simp [plS] at h
 | .dict _, h => by simp [plS] at h
theorem plSs_lay : ∀ ds : List PyData, plSs ds = true -> PyData.canLayAll0 ds = true
 | [], _ => by simp [PyData.canLayAll0]
 | d :: ds, h => by
  rw [plSs, Bool.and_eq_true] at h
  rw [PyData.canLayAll0, plS_lay d h.1, plSs_lay ds h.2]; rfl
end
namespace Gr
theorem plSs_encs {C : Int} : ∀ {g : Gr}, g.Ok C -> plSs g.encs = true
 | .nil, _ => by simp [encs, plSs]
 | .cons k g m r, ⟨h0, h1, _, _, h4, _⟩ => by
  have e1 := plSs_encs h1
  have e2 := plSs_encs h4
  simp [encs, plSs, plS, e1, e2, strOk_name h0]
end Gr
namespace Gr
def tgt (g k : Gr) : Gr := tidy (g.ps ++ k.ps)
theorem tgt_ps (g k : Gr) : (tgt g k).ps = tdy tEnc (g.ps ++ k.ps) := ps_ofPs _
theorem tgt_parts (g k : Gr) : (tgt g k).parts <= g.parts + k.parts := by
 have := tidy_parts (g.ps ++ k.ps)
 rw [tot_append, tot_ps, tot_ps] at this
 exact this
theorem tgt_deep {n : Nat} {g k : Gr} (hg : g.deep <= n) (hk : k.deep <= n) : (tgt g k).deep <= n := tidy_deep fun p hp => by
 rcases List.mem_append.mp hp with h | h
 ·have := g.mem_deep p h; omega
 ·have := k.mem_deep p h; omega
abbrev S (g : Gr) (t : Tr) : Int := sumE g.ps t
theorem S_tgt (g k : Gr) (t : Tr) : S (tgt g k) t = S g t + S k t := by
 show sumE (tgt g k).ps t = _
 rw [tgt_ps, tdy_sum, sumE_append]
theorem S_zero {bs : List (Tr × Int)} {t : Tr} (h : ∀ p ∈ bs, p.1 ≠ t) : sumE bs t = 0 := by
 induction bs with
 | nil => rfl
 | cons p r ih =>
  show (if p.1 = t then p.2 else 0) + sumE r t = 0
  rw [if_neg (h p (mcs ..)), ih fun q hq => h q (mcm _ hq)]; rfl
theorem ext_ps : ∀ {as bs : List (Tr × Int)}, as.Pairwise (fun p q => dataLt (tEnc p.1) (tEnc q.1) = true) -> bs.Pairwise (fun p q => dataLt (tEnc p.1) (tEnc q.1) = true) -> (∀ p ∈ as, 1 <= p.2) -> (∀ p ∈ bs, 1 <= p.2) -> (∀ t, sumE as t = sumE bs t) -> as = bs
 | [], [], _, _, _, _, _ => rfl
 | [], b :: bs, _, h2, _, p2, h => by
  have := h b.1
  have hz : sumE bs b.1 = 0 := S_zero fun q hq z => by have := (List.pairwise_cons.mp h2).1 q hq; rw [z, dl_irrefl] at this; cases this
  have e : sumE (b :: bs) b.1 = b.2 + sumE bs b.1 := by show (if b.1 = b.1 then b.2 else 0) + _ = _; rw [if_pos rfl]
  rw [e, hz] at this
  have := p2 b (mcs ..)
  have z : sumE ([] : List (Tr × Int)) b.1 = 0 := rfl
  omega
 | a :: as, [], h1, _, p1, _, h => by
  have := h a.1
  have hz : sumE as a.1 = 0 := S_zero fun q hq z => by have := (List.pairwise_cons.mp h1).1 q hq; rw [z, dl_irrefl] at this; cases this
  have e : sumE (a :: as) a.1 = a.2 + sumE as a.1 := by show (if a.1 = a.1 then a.2 else 0) + _ = _; rw [if_pos rfl]
  rw [e, hz] at this
  have := p1 a (mcs ..)
  have z : sumE ([] : List (Tr × Int)) a.1 = 0 := rfl
  omega
 | a :: as, b :: bs, h1, h2, p1, p2, h => by
  obtain ⟨a1, a2⟩ := List.pairwise_cons.mp h1
  obtain ⟨b1, b2⟩ := List.pairwise_cons.mp h2
  have pa := p1 a (mcs ..)
  have pb := p2 b (mcs ..)
  have za : ∀ t, (t = a.1 \/ dataLt (tEnc t) (tEnc a.1) = true) -> sumE as t = 0 := fun t ht => S_zero fun q hq z => by
   have q1 := a1 q hq
   rw [z] at q1
   rcases ht with ht | ht
   ·rw [ht, dl_irrefl] at q1; cases q1
   ·rw [dl_asymm ht] at q1; cases q1
  have zb : ∀ t, (t = b.1 \/ dataLt (tEnc t) (tEnc b.1) = true) -> sumE bs t = 0 := fun t ht => S_zero fun q hq z => by
   have q1 := b1 q hq
   rw [z] at q1
   rcases ht with ht | ht
   ·rw [ht, dl_irrefl] at q1; cases q1
   ·rw [dl_asymm ht] at q1; cases q1
  have ea : ∀ t, sumE (a :: as) t = (if a.1 = t then a.2 else 0) + sumE as t := fun t => rfl
  have eb : ∀ t, sumE (b :: bs) t = (if b.1 = t then b.2 else 0) + sumE bs t := fun t => rfl
  have hab : a.1 = b.1 := by
   by_cases e : a.1 = b.1
   ·exact e
   ·exfalso
    cases hlt : dataLt (tEnc a.1) (tEnc b.1) with
    | true =>
     have := h a.1
     rw [ea, eb, if_pos rfl, if_neg (fun z => e z.symm), za _ (.inl rfl), zb _ (.inr hlt)] at this
     omega
    | false =>
     have hlt2 := ol_tri (enc := tEnc) e hlt
     have := h b.1
     rw [ea, eb, if_pos rfl, if_neg e, zb _ (.inl rfl), za _ (.inr hlt2)] at this
     omega
  have hm : a.2 = b.2 := by
   have := h a.1
   rw [ea, eb, if_pos rfl, if_pos hab.symm, za _ (.inl rfl), zb _ (.inl hab)] at this
   omega
  have he : a = b := Prod.ext hab hm
  subst he
  rw [ext_ps a2 b2 (fun p hp => p1 p (mcm _ hp)) (fun p hp => p2 p (mcm _ hp)) fun t => by have := h t; rw [ea, eb] at this; omega]
theorem ext {C D : Int} {g k : Gr} (hg : g.Ok C) (hk : k.Ok D) (h : ∀ t, S g t = S k t) : g = k := by
 have h1 := ok_iff.mp hg
 have h2 := ok_iff.mp hk
 have := ext_ps h1.2 h2.2 (fun p hp => (h1.1 p hp).2.2.1) (fun p hp => (h2.1 p hp).2.2.1) h
 rw [<- ofPs_ps g, <- ofPs_ps k, this]
end Gr
theorem small5 {n : Nat} (h : n <= 1000000) : n < sizeLine := by
 have : sizeLine = 16777216 := sizeLine_eq
 omega
theorem Gr.eqvT {g k : Gr} (h : g = k) : PyData.eqv g.enc k.enc = true := by rw [Gr.eqv_enc]; exact decide_eq_true h
open PySem.Sem in
theorem enumT_new {v : Value} {o : Obj} {Hh : Heap -> Prop} (Bg : Begins v o Hh) :
  Meets (Builtin.«enumerate.__new__» ⟨[.type "enumerate", v], []⟩) (fun _ R s => Hh s.heap /\ R (.ok (.ret (.ref (s.heap.push o).objs.size))) { s with heap := (s.heap.push o).push { cls := .type "enumerate", data := .fields #[.none, .bool false, .ref s.heap.objs.size, rawInt 0, .none, .none] } }) :=
 .of_wp fun prog w A R s h => by
  obtain ⟨hp, g, d, tk, os⟩ := s
  obtain ⟨h1, h⟩ := h
  have hsub := sub_enumerate
  have go : ∀ {A2 : Around} {E2 : Value -> Shared -> Prop} {Q2 : Value -> Shared -> Prop}, Q2 (.ref hp.objs.size) ⟨hp.push o, g, d, tk, os⟩ -> wpAny (model prog w) A2 (pyIter v) Q2 E2 ⟨hp, g, d, tk, os⟩ := fun z => Bg.iter prog w _ _ ⟨hp, g, d, tk, os⟩ _ h1 z
  wp_walk using go
  refine wpAny_stack_any fun stk => wpAny_pure ?_
  split
  ·rename_i cl _ _ _ _ _
   cases (cl == Value.type "enumerate") <;> (wp_walk using go; exact ⟨_, rfl, h⟩)
  ·wp_walk using go; exact ⟨_, rfl, h⟩
section
variable {prog : Program} {w : World} {A : Around} {E : Value -> Shared -> Prop} {s : Shared}
theorem call_enumT {t : Addr} {items : Array Value} {Q : Value -> Shared -> Prop} (hT : s.heap.IsTuple t items)
  (h : ∀ h2, IsEnum h2 (s.heap.objs.size + 1) s.heap.objs.size 0 .none -> h2.IsTupleIter s.heap.objs.size t 0 -> (∀ b ob, s.heap.get? b = some ob -> h2.get? b = some ob) -> Q (.ref (s.heap.objs.size + 1)) { s with heap := h2 }) : wpAny (model prog w) A (call (.type "enumerate") [.ref t]) Q E s := by
 have Bg := begins_tuple t items
 refine callType_new F.called_enumerate (by decide) (F.typeCall_enumerate_1 _) (F.newCall_enumerate_1 _) (fun ob => F.args_object_init_2 ob _) F.entry_enumerate_new (enumT_new Bg) ⟨hT, ?_⟩
 have hz : (s.heap.push { cls := .type "tuple_iterator", data := .fields #[.ref t, .int 0 0] }).objs.size = s.heap.objs.size + 1 := Heap.size_push ..
 show _ /\ _
 rw [hz]
 have he : IsEnum ((s.heap.push { cls := .type "tuple_iterator", data := .fields #[.ref t, .int 0 0] }).push { cls := .type "enumerate", data := .fields #[.none, .bool false, .ref s.heap.objs.size, rawInt 0, .none, .none] }) (s.heap.objs.size + 1) s.heap.objs.size 0 .none := by
  have z := Heap.get?_push_size (s.heap.push { cls := .type "tuple_iterator", data := .fields #[.ref t, .int 0 0] }) (o := { cls := .type "enumerate", data := .fields #[.none, .bool false, .ref s.heap.objs.size, rawInt 0, .none, .none] }) rfl
  rw [hz] at z
  exact z
 exact ⟨⟨_, he, rfl⟩, h _ he ⟨_, Heap.get?_push_of_some _ (Heap.get?_push_size _ rfl), rfl, rfl⟩ fun b ob x => Heap.get?_push_of_some _ (Heap.get?_push_of_some _ x)⟩
end
def IteT (K : PySem.W.Frag) (a : Addr) : It :=
 ⟨fun i H => ∃ (xs : List V) (x : V), SqT K H a xs /\ xs[i]? = some x,
  fun i H v H2 => ∃ T x, v = .ref T /\ H T = none /\ H2 = upd H T (.tup [.int (i : Nat), x]) /\ ∀ xs, SqT K H a xs -> xs[i]? = some x,
  fun i H => ∃ xs : List V, SqT K H a xs /\ xs.length = i⟩
theorem turn_enumT {P : Program} {w : World} {K : PySem.W.Frag} {elts : List Expr} {kk : Nat} {tpos : Pos} (a e it : Addr) (hei : e ≠ it) (hai : a ≠ it) (hea : e ≠ a) :
  Turn P w K (.Tuple elts kk tpos) (IteT K a) [e, it] e (fun i h => (∃ old, IsEnum h e it ((i : Nat) : Int) old) /\ h.IsTupleIter it a i) where
 mem := by simp
 obj := fun i h st b hb => by
  obtain ⟨⟨old, he⟩, o, ho, hc, hd⟩ := st
  rcases (show b = e \/ b = it by simpa using hb) with z | z
  ·rw [z]; exact ⟨_, he, fun v q => nomatch q⟩
  ·rw [z]; exact ⟨o, ho, fun v q => by rw [hd] at q; cases q⟩
 keep := fun i h h2 st k => let ⟨⟨old, he⟩, o, ho, r⟩ := st; ⟨⟨old, k e (by simp) _ he⟩, o, k it (by simp) o ho, r⟩
 item := by
  intro X hP hw hK hc i pins s σ H E I hf st hg
  subst hP hw hK
  obtain ⟨⟨old, he⟩, hit⟩ := st
  obtain ⟨xs, x, hq, hx⟩ := hg
  obtain ⟨its, rv, p, hz⟩ := I.tuple hq
  obtain ⟨u, hu, ru⟩ := rv.get hx
  have hel : e < s.heap.objs.size := Heap.lt_size he
  have hil : it < s.heap.objs.size := by obtain ⟨_, z, _⟩ := hit; exact Heap.lt_size z
  have Dr := Draws.tuple (prog := X.prog) (w := X.w) (A := X.A.in1) (I.ok.hd hc) it a hai its.toArray
  have hlt : i < its.toArray.size := by
   have := (List.getElem?_eq_some_iff.mp hu).1
   simpa using this
  refine wpAny_pyNext_enum_itemD Dr he ⟨hit, p⟩ hlt hei (by simp [hei, hea]) fun y h2 tk hy ho hst hT hsz hk => ?_
  have hyu : y = u := by
   have h3 : its[i]? = some y := by simpa using hy
   rw [hu] at h3; exact (Option.some.inj h3).symm
  subst hyu
  refine ⟨_, rfl, wpAny_letOwnedTupleGo_enum (s := { s with heap := h2, toks := tk + 1 }) ho fun h3 he3 sb => ?_⟩
  have hT2 : h3.get? s.heap.objs.size = some { cls := .type "tuple", data := .seq #[.int i tk, y] } := (sb.2 _ (Nat.ne_of_gt hel)).trans hT
  have nw : ObjOk X.prog X.w (upd H s.heap.objs.size (.tup [.int (i : Nat), x])) h3 s.heap.objs.size (.tup [.int (i : Nat), x]) := ⟨by show 2 <= sizeLine; decide, [.int i tk, y], .cons ⟨_, rfl⟩ (.cons ru .nil), ⟨_, hT2, rfl, _, rfl⟩⟩
  have I1 : Inv X pins σ (upd H s.heap.objs.size (.tup [.int (i : Nat), x])) { s with heap := h3, toks := tk + 1 } := I.turnedNew (ch := [e, it]) (fun b ob hb z => (sb.2 b (fun y => hb (by simp [y]))).trans (hk b ob (fun y => hb (by simp [y])) (fun y => hb (by simp [y])) z)) hf (Nat.le_refl _) nw
  refine ⟨.ref s.heap.objs.size, _, I1, rfl, ⟨_, x, rfl, I.hok.fresh (Nat.le_refl _), rfl, fun ys hy => by rw [I.tuple_inj hy hq]; exact hx⟩, ⟨⟨y, ?_⟩, ?_⟩, fun b hb => ?_⟩
  ·rw [show ((i + 1 : Nat) : Int) = (i : Int) + 1 by omega]; exact he3
  ·obtain ⟨o, ho2, r⟩ := hst.1
   exact ⟨o, (sb.2 it (Ne.symm hei)).trans ho2, r⟩
  ·have hb2 : b < s.heap.objs.size := by
    rcases (show b = e \/ b = it by simpa using hb) with z | z
    ·rw [z]; exact hel
    ·rw [z]; exact hil
   rw [upd_ne (Nat.ne_of_lt hb2)]; exact (hf b hb).1
 done := by
  intro X hP hw hK hc i pins s σ H E I hf st hg
  subst hP hw hK
  obtain ⟨⟨old, he⟩, hit⟩ := st
  obtain ⟨xs, hq, hx⟩ := hg
  obtain ⟨its, rv, p, hz⟩ := I.tuple hq
  obtain ⟨f0, f1, f2, f3, f4, f5⟩ := hf it (by simp)
  have hl := rv.length
  have ht : s.heap.IsTuple a its.toArray := p
  have Dr := Draws.tuple (prog := X.prog) (w := X.w) (A := X.A.in1) (I.ok.hd hc) it a hai its.toArray
  have hn : its.toArray.size = i := by simp; omega
  refine wpAny_pyNext_enum_endD Dr he ⟨by rw [hn]; exact hit, ht⟩ fun h2 eb => ⟨rfl, I.turned (t' := s.toks) (fun b o hb z => eb b o hb z) f0 f1 f3 f4 f5⟩
 self := fun A i s Q E st h => let ⟨⟨_, he⟩, _⟩ := st; wpAny_pyIter_enum he h
def iEnumT (K : PySem.W.Frag) (te : TE) : TI := fun σ H R => te σ H fun v H1 => ∃ a xs, v = .ref a /\ SqT K H1 a xs /\ R (IteT K a) H1
theorem pi_enumT {X : Cx} {ex : Expr} {te : TE} {p pos tpos : Pos} {elts : List Expr} {kk : Nat} (hg : Gl X "enumerate") (hm : X.mg "enumerate" = none) (he : PE X ex te) (hs : starEach [ex] X.env = (false, eval ex X.env) :: starEach [] X.env := by rfl) :
  PI X (.Tuple elts kk tpos) (.Call (.Name "enumerate" p) [ex] [] pos) (iEnumT X.K te) := by
 refine ⟨fun pins s σ H R I h => ?_⟩
 refine Call_ (ld_blt I hg hm boot_enumerate (PyProof.Rows.callWith_type1 (args_cons (thn (he.run pins s σ H _ I h) fun u s1 ⟨v, H1, I1, r1, q1⟩ => args_nil ?_) hs) hs rfl))
 obtain ⟨a, xs, ev, hq, q⟩ := q1
 subst ev
 cases r1
 obtain ⟨its, rv, pt, hz⟩ := I1.tuple hq
 have ht : s1.heap.IsTuple a its.toArray := pt
 have hal : a < s1.heap.objs.size := by obtain ⟨_, z, _⟩ := ht; exact Heap.lt_size z
 refine call_enumT ht fun h2 he2 hit hk => wpAny_pyIter_enum he2 ?_
 have I2 : Inv X pins σ H1 { s1 with heap := h2 } := I1.kept (t' := s1.toks) hk
 refine ⟨s1.heap.objs.size + 1, [s1.heap.objs.size + 1, s1.heap.objs.size], _, _, H1, rfl, I2, turn_enumT a (s1.heap.objs.size + 1) s1.heap.objs.size (Nat.succ_ne_self _) (Nat.ne_of_lt hal) (Nat.ne_of_gt (Nat.lt_succ_of_lt hal)), ⟨⟨.none, he2⟩, hit⟩, fun b hb => ?_, q⟩
 have hle : s1.heap.objs.size <= b := by
  rcases (show b = s1.heap.objs.size + 1 \/ b = s1.heap.objs.size by simpa using hb) with z | z
  ·rw [z]; exact Nat.le_add_right _ _
  ·rw [z]; exact Nat.le_refl _
 exact I1.fpOk hle (I1.hok.fresh hle)
theorem walk_enumT {K : PySem.W.Frag} {a : Addr} {xs : List V} : Walk (IteT K a) xs.length (fun H => SqT K H a xs) (YPair (fun i => some (.int (i : Nat))) (fun i => xs[i]?)) := by
 refine ⟨fun i _ hi q => ⟨xs, xs[i], q, by simp [hi]⟩, fun _ q => ⟨xs, q, rfl⟩, fun i H v H2 _ q y => ?_⟩
 obtain ⟨T, x, h1, h2, h3, h4⟩ := y
 exact ⟨T, .int (i : Nat), x, h1, h2, h3, rfl, h4 xs q⟩
abbrev Pl := List Nat
def plInts (p : Pl) : List PyData := p.map fun n : Nat => .int (n : Int)
def plEnc (p : Pl) : PyData := .tuple (plInts p)
theorem pl_alikes : ∀ p q : Pl, alikeAll (plInts p) (plInts q) = true
 | [], _ => by simp [plInts, alikeAll]
 | _ :: _, [] => by simp [plInts, alikeAll]
 | a :: p, b :: q => by
  have := pl_alikes p q
  show alikeAll (.int a :: plInts p) (.int b :: plInts q) = true
  simp [alikeAll, alike, this]
theorem pl_eqvs : ∀ p q : Pl, PyData.eqvAll (plInts p) (plInts q) = decide (p = q)
 | [], [] => by simp [plInts, PyData.eqvAll]
 | [], _ :: _ => by simp [plInts, PyData.eqvAll]
 | _ :: _, [] => by simp [plInts, PyData.eqvAll]
 | a :: p, b :: q => by
  have ih := pl_eqvs p q
  show PyData.eqvAll (.int a :: plInts p) (.int b :: plInts q) = _
  simp only [PyData.eqvAll, PyData.eqv, ih, ib]
  by_cases h : a = b
  ·subst h; simp
  ·have : ¬ ((a : Int) = (b : Int)) := by omega
   simp [h, this]
instance : Orderly plEnc where
 al a b := by show alike (.tuple _) (.tuple _) = true; rw [alike]; exact pl_alikes a b
 eq a b := by show PyData.eqv (.tuple _) (.tuple _) = _; rw [PyData.eqv]; exact pl_eqvs a b
theorem pl_noList (p : Pl) : noList (plEnc p) = true := by
 have : ∀ p : Pl, noLists (plInts p) = true := by
  intro p
  induction p with
  | nil => simp [plInts, noLists]
  | cons a r ih => show noLists (.int a :: plInts r) = true; simp [noLists, noList, ih]
 show noList (.tuple _) = true
 rw [noList]; exact this p
theorem pl_depths (p : Pl) : PyData.depthAll (plInts p) = 0 := by
 induction p with
 | nil => simp [plInts, PyData.depthAll]
 | cons a r ih => show PyData.depthAll (.int a :: plInts r) = 0; simp [PyData.depthAll, PyData.depth, ih]
theorem pl_depth (p : Pl) : (plEnc p).depth = 1 := by show (PyData.tuple _).depth = 1; simp [PyData.depth, pl_depths]
theorem pl_plain (p : Pl) : plSs (plInts p) = true := by
 induction p with
 | nil => simp [plInts, plSs]
 | cons a r ih => show plSs (.int a :: plInts r) = true; simp [plSs, plS, ih]
theorem PL_ints {K : PySem.W.Frag} {H : Hp} {v : V} {p : Pl} (h : Dp K H v (plEnc p)) : ∃ a, v = .ref a /\ SqT K H a (p.map fun n : Nat => V.int (n : Int)) := by
 have key : ∀ {p : Pl} {xs : List V}, DpAll K H xs (plInts p) -> xs = p.map fun n : Nat => V.int (n : Int) := by
  intro p
  induction p with
  | nil => intro xs h; cases h; rfl
  | cons a r ih =>
   intro xs h
   cases h with
   | cons h1 h2 => cases h1; rw [ih h2]; rfl
 cases h with
 | tup hs ha => rw [key ha] at hs; exact ⟨_, rfl, hs⟩
theorem PL_of {K : PySem.W.Frag} {H : Hp} {a : Addr} {p : Pl} (h : SqT K H a (p.map fun n : Nat => V.int (n : Int))) : Dp K H (.ref a) (plEnc p) := by
 refine Dp.tup h ?_
 have key : ∀ p : Pl, DpAll K H (p.map fun n : Nat => V.int (n : Int)) (plInts p) := by
  intro p
  induction p with
  | nil => exact .nil
  | cons a r ih => exact .cons (.int _) ih
 exact key p
namespace Gr
def bp : Gr -> Nat -> List Pl
 | .nil, _ => []
 | .cons _ g _ r, i => (if g = .nil then [[i]] else (g.bp 0).map (i :: ·)) ++ r.bp (i + 1)
theorem bp_len : ∀ (g : Gr) (i : Nat), (g.bp i).length <= g.parts
 | .nil, _ => Nat.zero_le _
 | .cons k g m r, i => by
  have h1 := bp_len g 0
  have h2 := bp_len r (i + 1)
  show (_ ++ r.bp (i + 1)).length <= 1 + g.parts + r.parts
  rw [List.length_append]
  split
  ·show 1 + _ <= _; omega
  ·rw [List.length_map]; omega
end Gr
def Wh (K : PySem.W.Frag) (H : Hp) (v : V) (o : Option Int) : Prop := (∃ i, v = .int i /\ o = some i) \/ (o = none /\ ∃ (n : String) (b1 b2 : Bool), TyX K H v (.type n) /\ kitB n "int" = some b1 /\ (b1 = true -> kitB n "bool" = some b2) /\ (b1 && !b2) = false)
inductive Whs (K : PySem.W.Frag) (H : Hp) : List V -> List (Option Int) -> Prop where
 | nil : Whs K H [] []
 | cons {v : V} {o : Option Int} {vs : List V} {os : List (Option Int)} : Wh K H v o -> Whs K H vs os -> Whs K H (v :: vs) (o :: os)
section
variable {K : PySem.W.Frag} {H H' : Hp}
theorem Whs.length : ∀ {vs : List V} {os : List (Option Int)}, Whs K H vs os -> vs.length = os.length
 | _, _, .nil => rfl
 | _, _, .cons _ h => congrArg (· + 1) h.length
theorem Whs.get : ∀ {vs : List V} {os : List (Option Int)}, Whs K H vs os -> ∀ {i : Nat} {v : V}, vs[i]? = some v -> ∃ o, os[i]? = some o /\ Wh K H v o
 | _, _, .nil, i, v, e => by simp at e
 | _, _, .cons (o := o) h hs, 0, v, e => by
  have : _ = v := Option.some.inj e
  subst this; exact ⟨o, rfl, h⟩
 | _, _, .cons h hs, i + 1, v, e => hs.get (i := i) e
theorem Wh.sb {v : V} {o : Option Int} (h : Wh K H v o) (e : SB [] H H') : Wh K H' v o := by
 rcases h with h | ⟨h, n, b1, b2, ty, k⟩
 ·exact .inl h
 ·exact .inr ⟨h, n, b1, b2, TyX_sb e (fun _ _ => nmn) ty, k⟩
theorem Whs.sb (e : SB [] H H') : ∀ {vs : List V} {os : List (Option Int)}, Whs K H vs os -> Whs K H' vs os
 | _, _, .nil => .nil
 | _, _, .cons h hs => .cons (h.sb e) (Whs.sb e hs)
def plO (p : Pl) : List (Option Int) := p.map fun n : Nat => some (n : Int)
theorem Whs.pl (K : PySem.W.Frag) (H : Hp) : ∀ p : Pl, Whs K H (p.map fun n : Nat => V.int (n : Int)) (plO p)
 | [] => .nil
 | n :: r => .cons (.inl ⟨_, rfl, rfl⟩) (Whs.pl K H r)
end
def stp (g : Gr) : Option Int -> Option Tr
 | none => none
 | some n => if 0 <= n then (g.ps[n.toNat]?).map (·.1) else none
def lk : Tr -> List (Option Int) -> Option Tr
 | t, [] => some t
 | t, o :: r => (stp t.2 o).bind fun u => lk u r
theorem lk_append : ∀ (t : Tr) (as bs : List (Option Int)), lk t (as ++ bs) = (lk t as).bind fun u => lk u bs
 | t, [], bs => rfl
 | t, o :: r, bs => by
  show (stp t.2 o).bind (fun u => lk u (r ++ bs)) = ((stp t.2 o).bind fun u => lk u r).bind fun u => lk u bs
  cases stp t.2 o with
  | none => rfl
  | some u => exact lk_append u r bs
theorem lk_none {t : Tr} {os : List (Option Int)} {i : Nat} {o : Option Int} {u : Tr} (h1 : lk t (os.take i) = some u) (h2 : os[i]? = some o) (h3 : stp u.2 o = none) : lk t os = none := by
 have hl : i < os.length := (List.getElem?_eq_some_iff.mp h2).1
 have e : os = os.take i ++ o :: os.drop (i + 1) := by
  have := List.drop_eq_getElem_cons hl
  rw [(List.getElem?_eq_some_iff.mp h2).2] at this
  rw [<- this, List.take_append_drop]
 rw [e, lk_append, h1]
 show (stp u.2 o).bind _ = none
 rw [h3]; rfl
theorem lk_next {t : Tr} {os : List (Option Int)} {i : Nat} {o : Option Int} {u x : Tr} (h1 : lk t (os.take i) = some u) (h2 : os[i]? = some o) (h3 : stp u.2 o = some x) : lk t (os.take (i + 1)) = some x := by
 rw [List.take_add_one, h2, lk_append, h1]
 show (stp u.2 o).bind _ = some x
 rw [h3]; rfl
def spTreeAt (K : PySem.W.Frag) (C : Addr) : Sp := fun vs H Q E => ∃ (v : V) (g : Gr) (a : Addr) (xs : List V) (os : List (Option Int)), vs = [v, .ref a] /\ GA K H v g /\ SqT K H a xs /\ Whs K H xs os /\
 (∀ t, os ≠ [] -> lk ("", g) os = some t -> ∀ (x : V) (H' : Hp), SB [] H H' -> Dp K H' x (Gr.tEnc t) -> Q x H') /\ ((os = [] \/ lk ("", g) os = none) -> ∀ H', SB [] H H' -> E (.ref C) none H')
mutual
inductive Tg (K : PySem.W.Frag) (H : Hp) : V -> PyData -> Prop
 | int (i : Int) : Tg K H (.int i) (.int i)
 | str (z : Str) : z.length <= 1000 -> Tg K H (.str z) (.str z)
 | tup {a : Addr} {xs : List V} {ds : List PyData} : SqT K H a xs -> TgAll K H xs ds -> Tg K H (.ref a) (.tuple ds)
 | oth {v : V} {n : String} : TyX K H v (.type n) -> kitB n "tuple" = some false -> kitB n "str" = some false -> (kitB n "int" = some false \/ n = "bool") -> Tg K H v .none
inductive TgAll (K : PySem.W.Frag) (H : Hp) : List V -> List PyData -> Prop
 | nil : TgAll K H [] []
 | cons {v : V} {vs : List V} {d : PyData} {ds : List PyData} : Tg K H v d -> TgAll K H vs ds -> TgAll K H (v :: vs) (d :: ds)
end
mutual
def strip : PyData -> PyData
 | .int i => .int i
 | .tuple ds => .tuple (strips ds)
 | _ => .none
def strips : List PyData -> List PyData
 | [] => []
 | d :: r => strip d :: strips r
end
theorem many_strip (d : PyData) : manyD (strip d) = manyD d := by cases d <;> simp [strip, manyD]
section
variable {K : PySem.W.Frag} {H H' : Hp}
mutual
theorem Tg.th : ∀ {v : V} {d : PyData}, Tg K H v d -> Th K [] H v (strip d)
 | _, _, .int i => by rw [strip]; exact .int i
 | _, _, .str z _ => by rw [strip] <;> first | exact .oth (.base (.str z)) (by decide +kernel) (.inl (by decide +kernel)) (fun _ _ => nmn) | simp
 | _, _, .tup hs ha => by rw [strip]; exact .tup hs (TgAll.th ha)
 | _, _, .oth ty k1 _ k2 => by rw [strip] <;> first | exact .oth ty k1 k2 (fun _ _ => nmn) | simp
theorem TgAll.th : ∀ {vs : List V} {ds : List PyData}, TgAll K H vs ds -> ThAll K [] H vs (strips ds)
 | _, _, .nil => by rw [strips]; exact .nil
 | _, _, .cons h t => by rw [strips]; exact .cons (Tg.th h) (TgAll.th t)
end
mutual
theorem Tg_sb (e : SB [] H H') : ∀ {v : V} {d : PyData}, Tg K H v d -> Tg K H' v d
 | _, _, .int i => .int i
 | _, _, .str z hz => .str z hz
 | _, _, .tup hs ha => .tup (e.sqT hs) (TgAll_sb e ha)
 | _, _, .oth ty k0 k1 k2 => .oth (TyX_sb e (fun _ _ => nmn) ty) k0 k1 k2
theorem TgAll_sb (e : SB [] H H') : ∀ {vs : List V} {ds : List PyData}, TgAll K H vs ds -> TgAll K H' vs ds
 | _, _, .nil => .nil
 | _, _, .cons h t => .cons (Tg_sb e h) (TgAll_sb e t)
end
theorem TgAll.length : ∀ {vs : List V} {ds : List PyData}, TgAll K H vs ds -> vs.length = ds.length
 | _, _, .nil => rfl
 | _, _, .cons _ t => by rw [List.length_cons, List.length_cons, TgAll.length t]
theorem TgAll.get : ∀ {vs : List V} {ds : List PyData} {i : Nat} {v : V}, TgAll K H vs ds -> vs[i]? = some v -> ∃ d, ds[i]? = some d /\ Tg K H v d
 | _, _, _, _, .nil, e => by simp at e
 | _, _, 0, _, .cons h t, e => by simp at e; subst e; exact ⟨_, rfl, h⟩
 | _, _, i + 1, v, .cons h t, e => by
  obtain ⟨d, h1, h2⟩ := TgAll.get (i := i) (v := v) t (by simpa using e)
  exact ⟨d, by simpa using h1, h2⟩
theorem Tg.ty {v : V} {d : PyData} (h : Tg K H v d) : ∃ n b, TyX K H v (.type n) /\ kitB n "tuple" = some b /\ (b = true -> ∃ a xs ds, v = .ref a /\ d = .tuple ds /\ SqT K H a xs /\ TgAll K H xs ds) /\ (b = false -> ∀ ds, d ≠ .tuple ds) := by
 cases h with
 | int i => exact ⟨"int", false, .base (.int i), by decide +kernel, fun z => (nomatch z), fun _ ds z => nomatch z⟩
 | str z hz => exact ⟨"str", false, .base (.str z), by decide +kernel, fun z => (nomatch z), fun _ ds z => nomatch z⟩
 | tup hs ha => exact ⟨"tuple", true, (SqT_ty hs), by decide +kernel, fun _ => ⟨_, _, _, rfl, rfl, hs, ha⟩, fun z => (nomatch z)⟩
 | oth ty k1 _ k2 => exact ⟨_, false, ty, k1, fun z => (nomatch z), fun _ ds z => nomatch z⟩
theorem Tg.txt {v : V} {d : PyData} (h : Tg K H v d) : ∃ n b, TyX K H v (.type n) /\ kitB n "str" = some b /\ (b = true -> ∃ z, v = .str z /\ d = .str z /\ z.length <= 1000) /\ (b = false -> ∀ z, d ≠ .str z) := by
 cases h with
 | int i => exact ⟨"int", false, .base (.int i), by decide +kernel, fun z => (nomatch z), fun _ ds z => nomatch z⟩
 | str z hz => exact ⟨"str", true, .base (.str z), by decide +kernel, fun _ => ⟨z, rfl, rfl, hz⟩, fun z => (nomatch z)⟩
 | tup hs ha => exact ⟨"tuple", false, (SqT_ty hs), by decide +kernel, fun z => (nomatch z), fun _ ds z => nomatch z⟩
 | oth ty _ k1 k2 => exact ⟨_, false, ty, k1, fun z => (nomatch z), fun _ ds z => nomatch z⟩
end
instance (z : Str) : Decidable (NameOk z) := inferInstanceAs (Decidable (_ /\ _ /\ _))
def nameD : PyData -> Bool
 | .str z => decide (NameOk z)
 | _ => false
mutual
def groveD : PyData -> Bool
 | .tuple ds => grPs ds && risingD (ds.map exp0)
 | _ => false
def grPs : List PyData -> Bool
 | [] => true
 | d :: ds => grP d && grPs ds
def grP : PyData -> Bool
 | .tuple ds => grP2 ds
 | _ => false
def grP2 : List PyData -> Bool
 | [] => false
 | t :: r => treeD t && ladP3 r
def treeD : PyData -> Bool
 | .tuple ds => trD2 ds
 | _ => false
def trD2 : List PyData -> Bool
 | [] => false
 | k :: r => nameD k && trD3 r
def trD3 : List PyData -> Bool
 | [] => false
 | g :: r => groveD g && r.isEmpty
end
theorem ladP3_iff {r : List PyData} (h : ladP3 r = true) : ∃ i, r = [.int i] /\ (1 : Int) <= i := by
 match r, h with
 | [], h => simp [ladP3] at h
 | .int i :: [], h => simp [ladP3, manyD] at h; exact ⟨i, rfl, h⟩
 | .int i :: _ :: _, h => simp [ladP3] at h
 | .none :: _, h => simp [ladP3, manyD] at h
 | .bool _ :: _, h => simp [ladP3, manyD] at h
 | .str _ :: _, h => simp [ladP3, manyD] at h
 | .list _ :: _, h => simp [ladP3, manyD] at h
 | .dict _ :: _, h => simp [ladP3, manyD] at h
 | .tuple _ :: _, h => simp [ladP3, manyD] at h
theorem nameD_iff {d : PyData} (h : nameD d = true) : ∃ z, d = .str z /\ NameOk z := by
 cases d with
 | str z => exact ⟨z, rfl, of_decide_eq_true h⟩
 | _ => simp [nameD] at h
mutual
theorem groveD_gr : ∀ d : PyData, groveD d = true -> ∃ g : Gr, d = g.enc
 | .tuple ds, h => by
  rw [groveD, Bool.and_eq_true] at h
  obtain ⟨g, e⟩ := grPs_enc ds h.1
  exact ⟨g, by rw [e]; rfl⟩
 | .none, h => by simp [groveD] at h
 | .bool _, h => by simp [groveD] at h
 | .int _, h => by simp [groveD] at h
 | .str _, h => by simp [groveD] at h
 | .list _, h => by simp [groveD] at h
 | .dict _, h => by simp [groveD] at h
theorem grPs_enc : ∀ ds : List PyData, grPs ds = true -> ∃ g : Gr, ds = g.encs
 | [], _ => ⟨.nil, rfl⟩
 | d :: ds, h => by
  rw [grPs, Bool.and_eq_true] at h
  obtain ⟨r, er⟩ := grPs_enc ds h.2
  obtain ⟨t, i, ed, he⟩ := grP_enc d h.1
  exact ⟨.cons t.1 t.2 i r, by rw [er, ed]; rfl⟩
theorem grP_enc : ∀ d : PyData, grP d = true -> ∃ (t : Tr) (i : Int), d = .tuple [Gr.tEnc t, .int i] /\ (1 : Int) <= i
 | .tuple ds, h => by
  rw [grP] at h
  obtain ⟨e, i, ed, he⟩ := grP2_enc ds h
  exact ⟨e, i, by rw [ed], he⟩
 | .none, h => by simp [grP] at h
 | .bool _, h => by simp [grP] at h
 | .int _, h => by simp [grP] at h
 | .str _, h => by simp [grP] at h
 | .list _, h => by simp [grP] at h
 | .dict _, h => by simp [grP] at h
theorem grP2_enc : ∀ ds : List PyData, grP2 ds = true -> ∃ (t : Tr) (i : Int), ds = [Gr.tEnc t, .int i] /\ (1 : Int) <= i
 | [], h => by simp [grP2] at h
 | d :: r, h => by
  rw [grP2, Bool.and_eq_true] at h
  obtain ⟨t, et⟩ := treeD_tr d h.1
  obtain ⟨i, er, hi⟩ := ladP3_iff h.2
  exact ⟨t, i, by rw [et, er], hi⟩
theorem treeD_tr : ∀ d : PyData, treeD d = true -> ∃ t : Tr, d = Gr.tEnc t
 | .tuple ds, h => by
  rw [treeD] at h
  obtain ⟨t, et⟩ := trD2_enc ds h
  exact ⟨t, by rw [et]; rfl⟩
 | .none, h => by simp [treeD] at h
 | .bool _, h => by simp [treeD] at h
 | .int _, h => by simp [treeD] at h
 | .str _, h => by simp [treeD] at h
 | .list _, h => by simp [treeD] at h
 | .dict _, h => by simp [treeD] at h
theorem trD2_enc : ∀ ds : List PyData, trD2 ds = true -> ∃ t : Tr, ds = [.str t.1, t.2.enc]
 | [], h => by simp [trD2] at h
 | d :: r, h => by
  rw [trD2, Bool.and_eq_true] at h
  obtain ⟨z, ez, _⟩ := nameD_iff h.1
  obtain ⟨g, eg⟩ := trD3_enc r h.2
  exact ⟨(z, g), by rw [ez, eg]⟩
theorem trD3_enc : ∀ ds : List PyData, trD3 ds = true -> ∃ g : Gr, ds = [g.enc]
 | [], h => by simp [trD3] at h
 | d :: r, h => by
  rw [trD3, Bool.and_eq_true] at h
  obtain ⟨g, eg⟩ := groveD_gr d h.1
  have : r = [] := by cases r with | nil => rfl | cons _ _ => simp at h
  exact ⟨g, by rw [eg, this]⟩
end
section
variable {K : PySem.W.Frag} {H : Hp}
theorem GA_tg {C : Int} : ∀ (g : Gr) {vs : List V}, g.Ok C -> DpAll K H vs g.encs -> TgAll K H vs g.encs
 | .nil, vs, _, h => by cases h; exact .nil
 | .cons k g m r, vs, ho, h => by
  cases h with
  | cons h1 h2 =>
   refine .cons ?_ (GA_tg r ho.2.2.2.2.1 h2)
   cases h1 with
   | tup hs ha =>
    cases ha with
    | cons h3 h4 =>
     cases h4 with
     | cons h5 h6 =>
      cases h6; cases h5
      refine .tup hs (.cons ?_ (.cons (.int _) .nil))
      cases h3 with
      | tup hs2 hb =>
       cases hb with
       | cons h7 h8 =>
        cases h8 with
        | cons h9 h10 =>
         cases h10; cases h7
         cases h9 with
         | tup hs3 hc => exact .tup hs2 (.cons (.str _ (by have := ho.1.2.1; simp [Str.length]; simp at this; omega)) (.cons (.tup hs3 (GA_tg g ho.2.1 hc)) .nil))
theorem Tg_ga : ∀ (g : Gr) {vs : List V}, TgAll K H vs g.encs -> DpAll K H vs g.encs
 | .nil, vs, h => by cases h; exact .nil
 | .cons k g m r, vs, h => by
  cases h with
  | cons h1 h2 =>
   refine .cons ?_ (Tg_ga r h2)
   cases h1 with
   | tup hs ha =>
    cases ha with
    | cons h3 h4 =>
     cases h4 with
     | cons h5 h6 =>
      cases h6; cases h5
      refine .tup hs (.cons ?_ (.cons (.int _) .nil))
      cases h3 with
      | tup hs2 hb =>
       cases hb with
       | cons h7 h8 =>
        cases h8 with
        | cons h9 h10 =>
         cases h10; cases h7
         cases h9 with
         | tup hs3 hc => exact .tup hs2 (.cons (.str _) (.cons (.tup hs3 (Tg_ga g hc)) .nil))
end
def spName (K : PySem.W.Frag) : Sp := fun vs H Q _ => ∃ (v : V) (d : PyData), vs = [v] /\ Tg K H v d /\ ∀ H', SB [] H H' -> Q (.bl (nameD d)) H'
def spIsTree (K : PySem.W.Frag) (n : Nat) : Sp := fun vs H Q _ => ∃ (v : V) (d : PyData), vs = [v] /\ Tg K H v d /\ d.depth < n /\ d.depth <= 80 /\ wide d <= 1000 /\ ∀ H', SB [] H H' -> Q (.bl (treeD d)) H'
def spIsGrove (K : PySem.W.Frag) (n : Nat) : Sp := fun vs H Q _ => ∃ (v : V) (d : PyData), vs = [v] /\ Tg K H v d /\ d.depth < n /\ d.depth <= 80 /\ wide d <= 1000 /\ ∀ H', SB [] H H' -> Q (.bl (groveD d)) H'
def spPairsQ (K : PySem.W.Frag) (tp : Bool) (n : Nat) : Sp := fun vs H Q _ => ∃ (a : Addr) (xs : List V) (ds : List PyData), vs = [.ref a] /\ (if tp = true then SqT K H a xs else SqL K H a xs) /\ TgAll K H xs ds /\ PyData.depthAll ds < n /\ PyData.depthAll ds <= 79 /\ wide (.tuple ds) <= 1000 /\ ∀ H', SB [] H H' -> Q (.bl (grPs ds)) H'
def spRunOf (K : PySem.W.Frag) : Sp := fun vs H Q _ => ∃ (z y : Str) (k : Nat), vs = [.str z, .int (k : Int), .str y] /\ z.length <= 100000 /\ k <= z.length /\ ∀ e : Nat, k <= e -> e <= z.length -> (∀ j c, k <= j -> j < e -> z.cps.toList[j]? = some c -> c ∈ y.cps.toList) -> (∀ c, z.cps.toList[e]? = some c -> c ∉ y.cps.toList) -> Q (.str (cutS z (some (k : Int)) (some (e : Int)))) H
theorem mem_abc (c : Nat) : c ∈ abc.cps.toList ↔ 97 <= c /\ c <= 122 := by
 have e : abc.cps.toList = (List.range 26).map (· + 97) := by decide +kernel
 rw [e, List.mem_map]
 constructor
 ·rintro ⟨x, hx, rfl⟩
  have := List.mem_range.mp hx
  omega
 ·intro h
  exact ⟨c - 97, List.mem_range.mpr (by omega), by omega⟩
theorem len_cps (z : Str) : z.cps.toList.length = z.length := by simp [Str.length]
theorem cut0 (z : Str) {e : Nat} (he : e <= z.length) : (cutS z (some ((0 : Nat) : Int)) (some (e : Int))).cps.toList = z.cps.toList.take e := by
 unfold cutS
 rw [HT.sIx_nat, HT.sIx_nat]
 simp [Nat.min_eq_left he]
theorem run_name {z : Str} {e : Nat} (h1 : 1 <= z.length) (h8 : z.length <= 8) (he : e <= z.length) (hin : ∀ j c, 0 <= j -> j < e -> z.cps.toList[j]? = some c -> c ∈ abc.cps.toList) (hout : ∀ c, z.cps.toList[e]? = some c -> c ∉ abc.cps.toList) :
  decide (V.str (cutS z (some ((0 : Nat) : Int)) (some (e : Int))) = V.str z) = nameD (.str z) := by
 have hl := len_cps z
 rw [Bool.eq_iff_iff, decide_eq_true_iff, nameD, decide_eq_true_iff]
 constructor
 ·intro h
  injection h with h
  have h2 := cut0 z he
  rw [h] at h2
  have h3 : z.cps.toList.length = min e z.cps.toList.length := by
   have := congrArg List.length h2
   rwa [List.length_take] at this
  refine ⟨by omega, by omega, fun c hc => ?_⟩
  obtain ⟨j, hj⟩ := List.mem_iff_getElem?.mp hc
  have hj2 := (List.getElem?_eq_some_iff.mp hj).1
  exact (mem_abc c).mp (hin j c (Nat.zero_le _) (by omega) hj)
 ·rintro ⟨_, _, hall⟩
  have e1 : e = z.length := by
   rcases Nat.lt_or_ge e z.length with h | h
   ·obtain ⟨c, hc⟩ : ∃ c, z.cps.toList[e]? = some c := ⟨_, List.getElem?_eq_getElem (by omega)⟩
    exact absurd ((mem_abc c).mpr (hall c (List.mem_of_getElem? hc))) (hout c hc)
   ·omega
  have h2 := cut0 z he
  rw [e1, <- hl, List.take_length] at h2
  congr 1
  have h3 : ∀ a b : Str, a.cps.toList = b.cps.toList -> a = b := by
   intro a b hab
   cases a; cases b
   congr 1
   exact Array.toList_inj.mp hab
  rw [e1, <- hl]
  exact h3 _ _ h2
theorem name_out {z : Str} (h : ¬ (1 <= z.length /\ z.length <= 8)) : nameD (.str z) = false := by
 have hl := len_cps z
 rw [nameD]
 exact decide_eq_false fun ⟨h1, h2, _⟩ => h ⟨by omega, by omega⟩
theorem nameD_ok {z : Str} (h : NameOk z) : nameD (.str z) = true := decide_eq_true h
theorem treeD_of {t : Tr} (h0 : NameOk t.1) (h : groveD t.2.enc = true) : treeD (Gr.tEnc t) = true := by
 rw [Gr.tEnc, treeD, trD2, trD3, nameD_ok h0, h]; rfl
theorem grP_of {t : Tr} {m : Int} (h0 : NameOk t.1) (h : groveD t.2.enc = true) (hm : 1 <= m) : grP (Gr.pEnc (t, m)) = true := by
 show grP (.tuple [Gr.tEnc t, .int m]) = true
 rw [grP, grP2, ladP3, treeD_of h0 h]
 simp [manyD, hm]
theorem groveD_ok {C : Int} : ∀ {g : Gr}, g.Ok C -> groveD g.enc = true
 | .nil, _ => by decide +kernel
 | .cons k g m r, ⟨h0, h1, h2, h3, h4, h5⟩ => by
  have a1 := groveD_ok h1
  have a2 := groveD_ok h4
  rw [Gr.enc, groveD, Bool.and_eq_true] at a2
  have hp : grP (Gr.pEnc ((k, g), m)) = true := grP_of h0 a1 h2
  have e : (Gr.cons k g m r).encs = Gr.pEnc ((k, g), m) :: r.encs := rfl
  rw [Gr.enc, groveD, e, grPs, hp, a2.1, Bool.true_and, Bool.true_and, List.map_cons]
  cases r with
  | nil => rfl
  | cons k2 g2 m2 r2 =>
   have hlt : dataLt (Gr.tEnc (k, g)) (Gr.tEnc (k2, g2)) = true := h5 ((k2, g2), m2) (mcs ..)
   have e2 : (Gr.cons k2 g2 m2 r2).encs = Gr.pEnc ((k2, g2), m2) :: r2.encs := rfl
   have a3 := a2.2
   rw [e2, List.map_cons] at a3 ⊢
   show (dataLt (Gr.tEnc (k, g)) (Gr.tEnc (k2, g2)) :: ltsD _).all id = true
   rw [List.all_cons, show id (dataLt (Gr.tEnc (k, g)) (Gr.tEnc (k2, g2))) = true from hlt, Bool.true_and]
   exact a3
theorem wides_gr : ∀ g : Gr, wides g.encs <= 2 + g.parts /\ g.encs.length <= g.parts
 | .nil => ⟨by show wides [] <= _; rw [wides]; omega, Nat.le_refl _⟩
 | .cons k g m r => by
  obtain ⟨h1, h2⟩ := wides_gr g
  obtain ⟨h3, h4⟩ := wides_gr r
  have e : (Gr.cons k g m r).encs = Gr.pEnc ((k, g), m) :: r.encs := rfl
  have e2 : wide (Gr.pEnc ((k, g), m)) <= 2 + g.parts := by
   show wide (.tuple [.tuple [.str k, .tuple g.encs], .int m]) <= _
   simp only [wide, wides, List.length_cons, List.length_nil]
   omega
  rw [e, wides, List.length_cons]
  show _ <= 2 + (1 + g.parts + r.parts) /\ _ <= 1 + g.parts + r.parts
  omega
section
variable {K : PySem.W.Frag} {H : Hp} {C : Int}
theorem GA_thing {g : Gr} {v : V} (ho : g.Ok C) (h : GA K H v g) : Tg K H v g.enc := by
 cases (h : Dp K H v (.tuple g.encs)) with
 | tup hs ha => exact .tup hs (GA_tg g ho ha)
theorem name_short {z : Str} (h : NameOk z) : z.length <= 1000 := by
 have := h.2.1
 rw [len_cps] at this
 omega
end
theorem atI_end {α : Type} {xs : List α} {v : α} (h : xs[xs.length - 1]? = some v) : atI xs (-1) = some v := by
 rcases List.eq_nil_or_concat xs with e | ⟨ys, u, e⟩
 ·subst e; simp at h
 ·rw [List.concat_eq_append] at e
  subst e
  have : u = v := by simpa using h
  subst this
  exact atI_last ys u
theorem SB.setD {H : Hp} {p : Addr} {kvs : List (Key × V)} {ps : List Addr} (h : H p = some (.dK kvs)) (hp : p ∈ ps) (o : HO) : SB ps H (upd H p o) := by
 refine ⟨fun b u e n => ?_, fun b u e => ?_, fun b v u e => ?_, fun b e => ?_⟩
 ·rw [upd_ne (fun (z : b = p) => n (by rw [z]; exact hp))]; exact e
 ·rw [upd_ne (fun (z : b = p) => by subst z; rw [h] at e; cases e)]; exact e
 ·rw [upd_ne (fun (z : b = p) => by subst z; rw [h] at e; cases e)]; exact e
 ·by_cases q : b = p
  ·subst q; rw [upd_same] at e; cases e
  ·rw [upd_ne q] at e; exact e
def met (xs : List Str) : Nat -> List Str
 | 0 => []
 | i + 1 => if (met xs i).any (· == xs.getD i Str.empty) = true then met xs i else met xs i ++ [xs.getD i Str.empty]
theorem met_le (xs : List Str) : ∀ i, (met xs i).length <= i
 | 0 => Nat.le_refl _
 | i + 1 => by
  have := met_le xs i
  unfold met
  split
  ·omega
  ·rw [List.length_append]; simp; omega
theorem met_any (xs : List Str) (i : Nat) (k : Str) : (met xs (i + 1)).any (· == k) = ((met xs i).any (· == k) || decide (k = xs.getD i Str.empty)) := by
 rw [met]
 by_cases e : k = xs.getD i Str.empty
 ·subst e
  split
  ·rename_i h; rw [h]; simp
  ·simp
 ·rw [decide_eq_false e, Bool.or_false]
  split
  ·rfl
  ·rw [List.any_append]
   have : ([xs.getD i Str.empty].any (· == k)) = false := by
    simp only [List.any_cons, List.any_nil, Bool.or_false, beq_eq_false_iff_ne]
    exact fun z => e z.symm
   rw [this, Bool.or_false]
theorem met_len (xs : List Str) (i : Nat) : (met xs (i + 1)).length = if (met xs i).any (· == xs.getD i Str.empty) = true then (met xs i).length else (met xs i).length + 1 := by
 rw [met]; split <;> simp
abbrev SetOfS (P : Program) (w : World) (h : Heap) (a : Addr) (L : List Str) : Prop := h.SetOf (PySem.strKind P w) a (fun k => L.any (· == k)) L.length
theorem SetOfS.keep {P : Program} {w : World} {h h' : Heap} {a : Addr} {L : List Str} (S : SetOfS P w h a L) (k : ∀ o, h.get? a = some o -> h'.get? a = some o) : SetOfS P w h' a L := by
 obtain ⟨o, es, ep, t, ho, r⟩ := S; exact ⟨o, es, ep, t, k o ho, r⟩
section
variable {P : Program} {w : World} {A : Around}
theorem met_loop {R : Result -> Shared -> Prop} {I : Addr} {fp wr : List Addr} {G : Array GenState -> Array GenState -> Prop} {n : Nat} {Pv : Nat -> Value -> Prop} {St : Nat -> Shared -> Prop} (W : WalksS P w A.in1 I fp wr G n Pv St) (S : Addr) (hSf : S ∉ fp) (xs : List Str) (hn : n + 1 < scanBound)
  (hval : ∀ i v, Pv i v -> ∃ t, v = .str (xs.getD i Str.empty) t) : ∀ (k i : Nat) (s : Shared), k + i = n -> St i s -> SetOfS P w s.heap S (met xs i) ->
   (∀ s', Moved (S :: wr) G s s' -> SetOfS P w s'.heap S (met xs n) -> R (.ok (.ret .none)) s') -> codeAny (model P w) A (.builtin "set.update.loop" ⟨[.ref S, .ref I], []⟩) R s := by
 have out : S ∉ wr := fun z => hSf (W.sub _ z)
 have up : ∀ b ∈ wr, b ∈ S :: wr := fun b z => mcm _ z
 intro k
 induction k with
 | zero =>
  intro i s e st hS hR
  rw [Nat.zero_add] at e; subst e
  refine codeAny_builtin F.entry_set_update_loop (by
   rw [Around.under_plainId F.plain_set_update_loop _]
   show wpAny _ A.in1 (pyNext (.ref I) >>= _) _ _ s
   refine wpAny_bind (W.done s _ _ st fun s' hm => ?_)
   show wpAny _ A.in1 (ret Value.none) _ _ s'
   exact wpAny_pure (hR s' (hm.mono up) (hS.keep fun o e => hm.heap S o out e)))
 | succ k ih =>
  intro i s e st hS hR
  have lt : i < n := by omega
  refine codeAny_builtin F.entry_set_update_loop (by
   rw [Around.under_plainId F.plain_set_update_loop _]
   show wpAny _ A.in1 (pyNext (.ref I) >>= _) _ _ s
   refine wpAny_bind (W.item i s _ _ lt st fun v s' hP st' hm => ?_)
   obtain ⟨t, rfl⟩ := hval i v hP
   have hS' : SetOfS P w s'.heap S (met xs i) := hS.keep fun o e => hm.heap S o out e
   show wpAny _ A.in1 (holding [Value.str (xs.getD i Str.empty) t] (setAdd S (.str (xs.getD i Str.empty) t)) >>= _) _ _ s'
   refine wpAny_bind (wpAny_holding ?_)
   unfold setAdd
   refine wpAny_holding (wpAny_bind ((PySem.strKind P w).pyHash (k := xs.getD i Str.empty) (PySem.Froz.is_str _ _) ?_))
   have room : (met xs i).length + 1 < scanBound := by have := met_le xs i; omega
   refine wpAny_setAddHashed_of (knd := PySem.strKind P w) (s := { s' with toks := s'.toks + 1 }) (PySem.Froz.is_str _ _) rfl hS' room fun h' hsb hS2 => ?_
   have hSi : SetOfS P w h' S (met xs (i + 1)) := SetOf_congr hS2 (fun k' => (met_any xs i k').symm) (met_len xs i).symm
   refine wpAny_pure ⟨plainId_quiet F.plain_set_update_loop _, ih (i + 1) _ (by omega) (W.frame _ s' _ _ st' (Nat.le_succ _) fun b hb o e => ?_) hSi fun s'' hm'' hS'' => ?_⟩
   ·rw [hsb.2 b fun z : b = S => hSf (z ▸ hb)]; exact e
   ·refine hR s'' (Moved.trans W.gtrans ((hm.mono up).then_heap (Nat.le_succ _) fun b o hb e => ?_) hm'') hS''
    rw [hsb.2 b fun z : b = S => hb (z ▸ mcs)]; exact e)
abbrev eo (led : Bool) : Obj := { cls := .type "set", dict := none, data := .set #[] 0 (.fresh 0 0 led) }
set_option maxHeartbeats 8000000 in
theorem call_setS {E : Value -> Shared -> Prop} {s : Shared} {l : Addr} {its : Array Value} {xs : List Str} {Q : Value -> Shared -> Prop} (hh : A.handled = none) (hl : s.heap.IsList l its) (hi : StrsAre its.toList xs) (hb : its.size + 1 < scanBound)
  (h : ∀ (h' : Heap) (tk : Nat), SetOfS P w h' s.heap.objs.size (met xs its.size) -> (∀ b o, b < s.heap.objs.size -> s.heap.get? b = some o -> h'.get? b = some o) -> Q (.ref s.heap.objs.size) { s with heap := h', toks := tk }) :
  wpAny (model P w) A (call (.type "set") [.ref l]) Q E s := by
 obtain ⟨c, tl', hmro⟩ := PySem.F.called_set.mro
 have k1 := PySem.F.called_set.made; have k2 := PySem.F.called_set.sub
 refine wpAny_call (codeAny_of_tree (by
  show wpAny _ _ (callAny (.type "set") _) _ _ _
  refine wpAny_pure ⟨Code.quiet_builtin _ (by decide +kernel), codeAny_builtin PySem.F.entry_type_call ?_⟩
  rw [Around.under_plain (weight_type_call_type "set" [.ref l] []) rfl]
  have k3 := PySem.F.called_set.notType; have k4 := PySem.F.called_set.canCreate; have k5 := PySem.F.typeCall_set_1 (.ref l)
  repeat (any_goals (first | assumption | wp_step))
  refine codeAny_mono (code_set_new_1 (.ref l) (E := E) (Q₁ := fun ob z => ∃ led : Bool, ob = .ref s.heap.objs.size /\ z = { s with heap := s.heap.push (eo led) }) fun led => ⟨led, rfl, rfl⟩) fun r z hr => ?_
  cases r with
  | error e => exact hr
  | ok fl =>
  cases fl with
  | ret ob =>
   obtain ⟨led, rfl, rfl⟩ := hr
   have at0 : (s.heap.push (eo led)).get? s.heap.objs.size = some (eo led) := Heap.get?_push_size _ rfl
   have ty0 : Shared.TypeIs { s with heap := s.heap.push (eo led) } (.ref s.heap.objs.size) "set" := ⟨_, at0, rfl⟩
   have k6 := PySem.F.called_set.init.lookup; have k7 := PySem.F.called_set.init.bind (.ref s.heap.objs.size)
   repeat (any_goals (first | assumption | wp_step))
   refine codeAny_mono (codeAny_call_builtin (R := wants (fun r s₂ => r = .none /\ ∃ h' tk, s₂ = { s with heap := h', toks := tk } /\ SetOfS P w h' s.heap.objs.size (met xs its.size) /\ (∀ b o, b < s.heap.objs.size -> s.heap.get? b = some o -> h'.get? b = some o)) E) PySem.F.called_set.init.plain PySem.F.entry_set_init (check_set_init_1 ty0 ?_)) fun r₂ s₂ hr₂ => ?_
   ·obtain ⟨⟨oc, od, oda, osl⟩, hol, hcl, nl, hdl⟩ := hl
    simp only at hcl hdl
    subst hcl hdl
    have hol' : (s.heap.push (eo led)).get? l = some ⟨.type "list", od, .seq its nl, osl⟩ := Heap.get?_push_of_some _ hol
    have k8 := PySem.F.sub_list_set; have k9 := PySem.F.sub_list_frozenset
    have k10 : (Value.type "list" == Value.type "dict") = false := by decide
    have isl : (s.heap.push (eo led)).IsList l its := ⟨_, hol', rfl, nl, rfl⟩
    unfold Builtin.«set.__init__» noKeywords Builtin.Frozenset.updateFrom
    generalize hPI : pyIter = PI
    wp_walk
    subst hPI
    refine wpAny_pyIter_list isl (wpAny_bind (wpAny_runValue ?_))
    have ltl : l < s.heap.objs.size := Heap.lt_size hol
    have sz1 : (s.heap.push (eo led)).objs.size = s.heap.objs.size + 1 := Heap.size_push ..
    have lne : l ≠ (s.heap.push (eo led)).objs.size := Nat.ne_of_lt (sz1 ▸ Nat.lt_succ_of_lt ltl)
    have nin : s.heap.objs.size ∉ [(s.heap.push (eo led)).objs.size, l] := by
     intro z
     rcases List.mem_cons.mp z with z | z
     ·exact absurd (z.trans sz1) (Nat.ne_of_lt (Nat.lt_succ_self _))
     ·have : s.heap.objs.size = l := by simpa using z
      exact absurd this.symm (Nat.ne_of_lt ltl)
    refine met_loop ((Walks.list (show A.in1.in1.in1.handled = none by simp [hh]) _ l lne its).toS) s.heap.objs.size nin xs hb (fun i v hv => SS.strs_at hi i v (by rw [Array.getElem?_toList]; exact hv)) its.size 0 _ rfl ⟨⟨_, Heap.get?_push_size _ rfl, rfl, rfl⟩, isl.push _⟩ ?c1 ?c2
    case c1 => exact SetOf_congr ((setObjOf_fresh (knd := PySem.strKind P w) led).setOf (Heap.get?_push_of_some _ at0) (by unfold scanBound; omega)) (fun _ => rfl) rfl
    case c2 =>
     rintro ⟨h', g', d', tk', os'⟩ hm hS'
     have eg : g' = s.gens := hm.gens; have ed : d' = s.drawn := hm.drawn; have eo' : os' = s.os := hm.os
     subst eg ed eo'
     show wpAny _ _ _ _ _ _
     refine wpAny_pure (show wpAny _ _ (ret Value.none) _ _ _ from wpAny_pure ⟨rfl, h', tk', rfl, hS', fun b o hb' e => hm.heap b o (fun z => ?_) (Heap.get?_push_of_some _ (Heap.get?_push_of_some _ e))⟩)
     rcases List.mem_cons.mp z with z | z
     ·exact absurd z (Nat.ne_of_lt hb')
     ·have : b = (s.heap.push (eo led)).objs.size := by simpa using z
      exact absurd (this.trans sz1) (Nat.ne_of_lt (Nat.lt_succ_of_lt hb'))
   ·cases r₂ with
    | error e => exact hr₂
    | ok fl₂ =>
    cases fl₂ with
    | ret r =>
     obtain ⟨rfl, h', tk, rfl, hS', hk'⟩ := hr₂
     repeat (any_goals (first | assumption | wp_step))
     exact h _ _ hS' hk'
    | _ => exact hr₂.elim
  | _ => exact hr.elim))
end
theorem met_mem (xs : List Str) : ∀ (i : Nat) (k : Str), k ∈ met xs i ↔ ∃ j, j < i /\ xs.getD j Str.empty = k
 | 0, k => by simp [met]
 | i + 1, k => by
  rw [met]
  have ih := met_mem xs i k
  split
  ·rename_i h
   rw [ih]
   refine ⟨fun ⟨j, a, b⟩ => ⟨j, by omega, b⟩, fun ⟨j, a, b⟩ => ?_⟩
   by_cases e : j = i
   ·subst e
    obtain ⟨y, hy, he⟩ := List.any_eq_true.mp h
    have := (met_mem xs j y).mp hy
    rw [beq_iff_eq.mp he, b] at this
    exact this
   ·exact ⟨j, by omega, b⟩
  ·rw [List.mem_append, ih]
   refine ⟨fun z => ?_, fun ⟨j, a, b⟩ => ?_⟩
   ·rcases z with ⟨j, a, b⟩ | z
    ·exact ⟨j, by omega, b⟩
    ·exact ⟨i, by omega, (List.mem_singleton.mp z).symm⟩
   ·by_cases e : j = i
    ·subst e; exact .inr (List.mem_singleton.mpr b.symm)
    ·exact .inl ⟨j, by omega, b⟩
theorem met_nodup (xs : List Str) : ∀ i, (met xs i).Nodup
 | 0 => List.nodup_nil
 | i + 1 => by
  rw [met]
  split
  ·exact met_nodup xs i
  ·rename_i h
   refine List.nodup_append.mpr ⟨met_nodup xs i, by simp, fun a ha b hb e => h ?_⟩
   rw [List.mem_singleton.mp hb] at e
   exact List.any_eq_true.mpr ⟨a, ha, beq_iff_eq.mpr e⟩
theorem met_all (xs : List Str) (k : Str) : k ∈ met xs xs.length ↔ k ∈ xs := by
 rw [met_mem]
 refine ⟨fun ⟨j, a, b⟩ => ?_, fun h => ?_⟩
 ·rw [<- b, List.getD_eq_getElem?_getD, List.getElem?_eq_getElem a]; exact List.getElem_mem a
 ·obtain ⟨j, a, b⟩ := List.getElem_of_mem h
  exact ⟨j, a, by rw [List.getD_eq_getElem?_getD, List.getElem?_eq_getElem a]; exact b⟩
theorem met_take (xs : List Str) : ∀ i, i <= xs.length -> (met xs i).length = i -> met xs i = xs.take i
 | 0, _, _ => by simp [met]
 | i + 1, hi, h => by
  have hl := met_le xs i
  rw [met] at h ⊢
  split at h
  ·omega
  ·rename_i hn
   rw [if_neg hn]
   rw [List.length_append, List.length_singleton] at h
   rw [met_take xs i (by omega) (by omega), List.take_add_one, List.getD_eq_getElem?_getD, List.getElem?_eq_getElem (by omega)]
   rfl
theorem met_len_nodup (xs : List Str) : (met xs xs.length).length = xs.length ↔ xs.Nodup := by
 constructor
 ·intro h
  have e := met_take xs xs.length (Nat.le_refl _) h
  rw [List.take_length] at e
  rw [<- e]; exact met_nodup xs _
 ·intro h
  exact ((List.perm_ext_iff_of_nodup (met_nodup xs _) h).mpr fun k => met_all xs k).length_eq
section
variable {X : Cx}
def tLenSetS (K : PySem.W.Frag) (ta : TE) : TE := fun σ H Q => ta σ H fun x H1 => ∃ (l : Addr) (zs : List Str), x = V.ref l /\ SqL K H1 l (zs.map V.str) /\ zs.length < 1000 /\ Q (.int (met zs zs.length).length) H1
theorem pe_lenSetS {a : Expr} {ta : TE} {p p2 q pos : Pos} (hc : X.calm = true) (B : BI X.mg) (g1 : Gl X "len") (g2 : Gl X "set") (ha : PE X a ta)
  (na : starEach [a] X.env = (false, eval a X.env) :: starEach [] X.env := by rfl) : PE X (.Call (.Name "len" p) [.Call (.Name "set" p2) [a] [] q] [] pos) (tLenSetS X.K ta) := by
 refine ⟨fun pins s σ H Q I h => Call_ (ld_blt I g1 B.len PySem.boot_len ?_)⟩
 refine PyProof.Rows.callWith_builtin1 (PyProof.Rows.args_cons (Call_ (ld_blt I g2 B.set PyProof.Rows.boot_set ?_)) rfl) rfl rfl
 refine PyProof.Rows.callWith_type1 (PyProof.Rows.args_cons (thn (ha.run pins s σ H _ I h) fun v s1 ⟨x, H1, I1, r1, l, zs, ex, hq, h1, q1⟩ => PyProof.Rows.args_nil ?_) na) na rfl
 subst ex
 cases r1
 obtain ⟨its, rv, pl, hz⟩ := I1.list hq
 have hlen : its.toArray.size = zs.length := by rw [List.size_toArray, <- rv.length, List.length_map]
 refine call_setS (xs := zs) (I1.ok.hd hc) pl.isList (by simpa using rv.strs) (by rw [hlen]; unfold scanBound; omega) fun h' tk hS hk => PyProof.Rows.args_nil ?_
 rw [hlen] at hS
 have hm := met_le zs zs.length
 obtain ⟨o, es, ep, t, ho, hex, hd, _, _, _, hf, hn⟩ := hS
 have J : Inv X pins σ H1 { s1 with heap := h', toks := tk } := I1.kept fun b o e => hk b o (Heap.lt_size e) e
 exact call_len_set ho hex hd hf (by rw [hn]; omega) ⟨.int (met zs zs.length).length, H1, J.tok _, ⟨_, by rw [hn]⟩, q1⟩
end
section
variable {X : Cx} {CX : CXT} {k : Nat} {f C : Addr} {fd : FuncData} {ps : List Str} {sp : Sp} {E : L2.St -> XK} {x m : Str} {p pos apos : Pos} {e o : Expr} {es : List Expr} {ta : TE} {t : TA}
def tMethZ (C : Addr) (m : Str) (sp : Sp) (E : L2.St -> XK) (ta : TE) (t : TA) : TE := fun σ H Q => ta σ H fun y H1 => ∃ a dx fs, y = .ref a /\ H1 a = some (.ins C dx fs) /\ fs.lookup m = none /\ t σ H1 fun vs H2 => sp (y :: vs) H2 Q (E σ)
def tMakeZ (C : Addr) (sp : Sp) (E : L2.St -> XK) (t : TA) : TE := fun σ H Q => t σ H fun vs H1 => ∀ y dx, H1 y = none -> H1 dx = none -> dx ≠ y ->
 sp (.ref y :: vs) (upd (upd H1 dx (.own y)) y (.ins C dx [])) (fun v H2 => v = .non /\ Q (.ref y) H2) (E σ)
theorem pe_methZ {pl : Sem Bool} (ho : PE X o ta) (c : Cls X.K C) (hm : Meth X.K C m f) (F : FnOk X.prog X.w X.K X.mg X.base CX k f fd ps sp) (hr : Room k X.A) (hb : Binds X.K fd ps []) (hx : ∀ σ, PassesAt CX X σ (E σ)) (ha : PA X (e :: es) t)
  (hst : starEach (e :: es) X.env = (false, eval e X.env) :: starEach es X.env := by rfl) (hpl : (backTo pos (starEach es X.env)).any (·.1) = false := by rfl)
  (ht : eval (.Call (.Attribute o m apos) (e :: es) [] pos) X.env = (do
    let ov <- eval o X.env
    standAt apos.atName
    let (g, first) <- holding [ov] (getMethod ov m pl)
    callWith pos g first (backTo pos (starEach (e :: es) X.env)) (backToKw pos (keywordEach [] X.env))) := by rfl) :
  PE X (.Call (.Attribute o m apos) (e :: es) [] pos) (tMethZ C m sp E ta t) := by
 refine ⟨fun pins s σ H Q I h => PySem.W.methodCall_KW (pl := pl) (thn (ho.run pins s σ H _ I h) fun u s1 ⟨y, H1, I1, ry, a, dx, fs, ey, ea, l, q⟩ => ?_) ht⟩
 subst ey
 cases (show u = Value.ref a from ry)
 exact getmeth_ok I1 ea c hm l (PySem.W.callWith_K (first := [.ref a]) (h₀ := X.base) I.ok.mod.kin hm.kp
  (thn (ha.run pos pins s1 σ H1 _ I1 q) fun us s2 ⟨vs, H2, I2, r, q2⟩ => ⟨I2.kIn, run_fnS (us := .ref a :: us) (vs := .ref a :: vs) F hr hb (hx σ) I2 (.cons rfl r) q2⟩) hst hpl)
theorem pe_methZ0 {pl : Sem Bool} (ho : PE X o ta) (c : Cls X.K C) (hm : Meth X.K C m f) (F : FnOk X.prog X.w X.K X.mg X.base CX k f fd ps sp) (hr : Room k X.A) (hb : Binds X.K fd ps []) (hx : ∀ σ, PassesAt CX X σ (E σ))
  (ht : eval (.Call (.Attribute o m apos) [] [] pos) X.env = (do
    let ov <- eval o X.env
    standAt apos.atName
    let (g, first) <- holding [ov] (getMethod ov m pl)
    callWith pos g first (backTo pos (starEach [] X.env)) (backToKw pos (keywordEach [] X.env))) := by rfl) :
  PE X (.Call (.Attribute o m apos) [] [] pos) (tMethZ C m sp E ta tNil) := by
 refine ⟨fun pins s σ H Q I h => PySem.W.methodCall_KW (pl := pl) (thn (ho.run pins s σ H _ I h) fun u s1 ⟨y, H1, I1, ry, a, dx, fs, ey, ea, l, q⟩ => ?_) ht⟩
 subst ey
 cases (show u = Value.ref a from ry)
 exact getmeth_ok I1 ea c hm l (PySem.W.callWith_K0 (first := [.ref a]) I1.kIn hm.kp (run_fnS (us := [.ref a]) (vs := [.ref a]) F hr hb (hx σ) I1 (.cons rfl .nil) q))
theorem pe_makeZ (M : Mk X.K C f) (F : FnOk X.prog X.w X.K X.mg X.base CX k f fd ps sp) (hr : Room (k + 1) X.A) (hg : Gl X x) (hm : X.mg x = some (.ref C)) (hb : Binds X.K fd ps []) (hx : ∀ σ, PassesAt CX X σ (E σ))
  (ha : PA X (e :: es) t) (hdb : (x == ("__debug__" : Str)) = false := by decide) (he : starEach (e :: es) X.env = (false, eval e X.env) :: starEach es X.env := by rfl) (hpl : (backTo pos (starEach es X.env)).any (·.1) = false := by rfl) :
  PE X (.Call (.Name x p) (e :: es) [] pos) (tMakeZ C sp E t) := by
 refine ⟨fun pins s σ H Q I h => wpAny_Call_Name_kw (ld_glob I hg hm ?_ hdb)⟩
 refine PySem.W.callWith_K (h₀ := X.base) I.ok.mod.kin M.kp (thn (ha.run pos pins s σ H _ I h) fun us s1 ⟨vs, H1, I1, r, q⟩ => ⟨I1.kIn, ?_⟩) he hpl
 have hq := q (s1.heap.objs.size + 1) s1.heap.objs.size (I1.hok.fresh (Nat.le_succ _)) (I1.hok.fresh (Nat.le_refl _)) (Nat.ne_of_lt (Nat.lt_succ_self _))
 have J := Inv.made (C := C) I1
 have r2 : Vals (V.ref (s1.heap.objs.size + 1) :: vs) (Value.ref (s1.heap.objs.size + 1) :: us) := .cons rfl r
 have hl : (Value.ref (s1.heap.objs.size + 1) :: us).length = ps.length := by rw [<- r2.length]; exact F.len _ _ _ _ hq
 have b := hb _ (Value.ref (s1.heap.objs.size + 1) :: us) J.kIn (by rw [List.append_nil]; exact hl)
 rw [List.append_nil] at b
 refine wpAny_call (make_map (f := f) I1.kIn M.makes M.init (beq_iff_eq.mp M.fn) (codeAny_mono (F.run _ X.stack _ _ ⟨Value.ref (s1.heap.objs.size + 1) :: us, []⟩ (Value.ref (s1.heap.objs.size + 1) :: us) _ _ (E σ) (hr.make C us [])
  (J.env0.make C us []) b r2 hq) fun r s' hq' => ?_))
 match r, hq' with
 | .error er, hq' => exact hx σ pins _ _ er s' J hq'
 | .ok (.ret u), hq' =>
  obtain ⟨v, H', J3, rv, ev, q3⟩ := J.after hq'
  subst ev
  exact ⟨rv, ⟨V.ref (s1.heap.objs.size + 1), H', J3, rfl, q3⟩⟩
 | .ok .next, hq' => exact hq'.elim
 | .ok .brk, hq' => exact hq'.elim
 | .ok .cont, hq' => exact hq'.elim
end
structure GotM (P : Program) (w : World) (K : PySem.W.Frag) (mg : Str -> Option Value) (base : Heap) (C : Addr) (m : Str) (ps : List Str) (k : Nat) (sp : Sp) : Prop where
 ex : ∃ (f : Addr) (fd : FuncData), FnOk P w K mg base CX0 k f fd ps sp /\ Meth K C m f /\ Binds K fd ps [] /\ Cls K C
section
variable {X : Cx} {C : Addr} {x m : Str} {ps : List Str} {k : Nat} {sp : Sp} {e o : Expr} {es : List Expr} {ta : TE} {t : TA} {p pos apos : Pos} {pl : Sem Bool}
theorem pe_gotM0 (G : GotM X.prog X.w X.K X.mg X.base C m ps k sp) (hr : Room k X.A) (ho : PE X o ta)
  (ht : eval (.Call (.Attribute o m apos) [] [] pos) X.env = (do
    let ov <- eval o X.env
    standAt apos.atName
    let (g, first) <- holding [ov] (getMethod ov m pl)
    callWith pos g first (backTo pos (starEach [] X.env)) (backToKw pos (keywordEach [] X.env))) := by rfl) :
  PE X (.Call (.Attribute o m apos) [] [] pos) (tMethZ C m sp (fun _ => E0) ta tNil) := by
 obtain ⟨f, fd, h1, h2, h3, h4⟩ := G.ex
 exact pe_methZ0 ho h4 h2 h1 hr h3 (fun σ pins H s e s' I c => pass0 pins σ H s e s' I c) ht
end
def spKindI (K : PySem.W.Frag) (C : Addr) : Sp := fun vs H Q _ => ∃ (a : Addr) (y : V), vs = [.ref a, y] /\ OexC K C /\ PySem.W.findIn K (.ref C) "kind" = some none /\ H a = some (exo a C none) /\ ∀ dx, H dx = none -> dx ≠ a -> Q .non (upd (upd H dx (exd dx [("kind", y)])) a (exo a C (some dx)))
structure OwnI (P : Program) (w : World) (K : PySem.W.Frag) (mg : Str -> Option Value) (base : Heap) (x : Str) (C : Addr) (k : Nat) : Prop where
 gC : mg x = some (.ref C)
 T : OexC K C
 no : PySem.W.findIn K (.ref C) "kind" = some none
 ex : ∃ (f : Addr) (fd : FuncData), PySem.W.findIn K (.ref C) "__init__" = some (some (.ref f)) /\ PySem.W.typeIn K (.ref f) = some (.type "function") /\ FnOk P w K mg base CX0 k f fd ["self", "kind"] (spKindI K C) /\ Binds K fd ["self", "kind"] []
def oexCB (K : PySem.W.Frag) (C : Addr) : Bool := (match K.lookup C with
 | some ⟨.type "type", _, .cls cd, sl⟩ => (match cd.mro, sl.toList with
  | .ref D :: bm, [_, _, _, _, some (.builtin n), _] => decide (D = C) && (n == "ValueError.__new__" && (!cd.hasDel && (cd.hasDict && PySem.HandSPX.refsVE bm)))
  | _, _ => false)
 | _ => false) && (He.eqO (PySem.W.findIn K (.ref C) "__setattr__") (some (some (.builtin "object.__setattr__"))) && (decide (PySem.W.subIn K (.ref C) (.type "BaseException") = some true) && (decide (PySem.W.typeIn K (.ref C) = some (.type "type")) && PySem.W.keepIn K (.ref C))))
theorem oexCB_ok {K : PySem.W.Frag} {C : Addr} (h : oexCB K C = true) : OexC K C := by
 obtain ⟨h1, h⟩ := He.ba h
 obtain ⟨h2, h⟩ := He.ba h
 obtain ⟨h3, h⟩ := He.ba h
 obtain ⟨h4, h5⟩ := He.ba h
 refine ⟨?_, He.eqO_ok h2, of_decide_eq_true h3, of_decide_eq_true h4, h5⟩
 split at h1
 ·rename_i dd cd sl ho
  split at h1
  ·rename_i D bm k0 k1 k2 k3 n k5 hm hs
   obtain ⟨e1, h1⟩ := He.ba h1
   obtain ⟨e2, h1⟩ := He.ba h1
   obtain ⟨e3, h1⟩ := He.ba h1
   obtain ⟨e4, e5⟩ := He.ba h1
   have e1 := of_decide_eq_true e1
   have e2 := beq_iff_eq.mp e2
   obtain ⟨nm, bs, mro, ns, qn, hd, sn, sb, ab, col, del⟩ := cd
   simp only at hm e3 e4
   subst e1 e2 hm e4
   have e3 : del = false := by simpa using e3
   subst e3
   obtain ⟨sl⟩ := sl
   simp only at hs
   subst hs
   exact ⟨nm, qn, ns, bs, bm, sn, sb, ab, col, dd, k0, k1, k2, k3, k5, ho, e5⟩
  ·cases h1
 ·cases h1
theorem _root_.L2.PE.wide {X : Cx} {e : Expr} {te : TE} (h : PE X e te) : PE X e (fun σ H Q => ∃ Q' : VK, te σ H Q' /\ ∀ v H', Q' v H' -> Q v H') :=
 ⟨fun pins s σ H Q I ⟨Q', h1, h2⟩ => thn (h.run pins s σ H Q' I h1) fun v s1 ⟨y, H1, I1, r, q⟩ => ⟨y, H1, I1, r, h2 _ _ q⟩⟩
section
variable {X : Cx} {C : Addr} {x : Str} {k : Nat} {e : Expr} {te : TE} {p pos : Pos}
def tKind (C : Addr) (te : TE) : L2.St -> Hp -> XK -> Prop := fun σ H Q => te σ H fun y H1 => ∀ d, H1 d = none -> Q (.ref C) (some d) (upd H1 d (.xd [("kind", y)]))
end
abbrev Ru := Gr × Gr
def Ru.enc (r : Ru) : PyData := .tuple [r.1.enc, r.2.enc]
def Ru.within (r : Ru) : List (Tr × Int) := r.1.within ++ r.2.within
structure Kd where
 n : Str
 w : Bool
 rs : List Ru
abbrev Bk := List Kd
abbrev Bk.names (b : Bk) : List Str := b.map (·.n)
def Kd.rowE (k : Kd) : PyData := .tuple (k.rs.map Ru.enc)
def Bk.get (b : Bk) (n : Str) : Option Kd := b.find? fun k => decide (k.n = n)
def RuOk (r : Ru) : Prop := r.1.Ok 1000000001 /\ r.2.Ok 1000000001 /\ r.1.parts + r.2.parts <= 4
def KdOk (ns : List Str) (k : Kd) : Prop := NameOk k.n /\ k.rs.length <= 4 /\ ∀ r ∈ k.rs, RuOk r /\ ∀ p ∈ Ru.within r, p.1.1 ∈ ns
structure Bk.Ok (b : Bk) : Prop where
 pos : 1 <= b.length
 len : b.length <= 8
 nd : b.names.Nodup
 kd : ∀ k ∈ b, KdOk b.names k
theorem Ru.noList_enc (r : Ru) : noList (Ru.enc r) = true := by simp [Ru.enc, noList, noLists, Gr.noList_enc]
theorem Kd.noList_rowE (k : Kd) : noList k.rowE = true := by
 unfold Kd.rowE noList
 induction k.rs with
 | nil => rfl
 | cons r l ih => rw [List.map_cons, noLists, Ru.noList_enc, ih]; rfl
theorem Bk.get_some {b : Bk} {n : Str} {k : Kd} (h : b.get n = some k) : k ∈ b /\ k.n = n :=
 ⟨List.mem_of_find?_eq_some h, of_decide_eq_true (List.find?_some (p := fun k : Kd => decide (k.n = n)) h)⟩
theorem Bk.get_none {b : Bk} {n : Str} (h : b.get n = none) : n ∉ b.names := fun z => by
 obtain ⟨k, hk, e⟩ := List.mem_map.mp z
 have := List.find?_eq_none.mp h k hk
 exact this (decide_eq_true e)
theorem Bk.get_of {b : Bk} {n : Str} (h : n ∈ b.names) : ∃ k, b.get n = some k := by
 cases e : b.get n with
 | none => exact absurd h (Bk.get_none e)
 | some k => exact ⟨k, rfl⟩
def Bk.rowKV (b : Bk) (us : List V) : List (Key × V) := List.zipWith (fun (k : Kd) (u : V) => (Sum.inr k.n, u)) b us
def Bk.spKV (b : Bk) : List (Key × V) := b.map fun k => (Sum.inr k.n, V.bl k.w)
theorem Bk.spKV_val (b : Bk) (n : Str) : valV b.spKV (Sum.inr n) = (b.get n).map fun k => V.bl k.w := by
 induction b with
 | nil => rfl
 | cons x r ih =>
  by_cases e : x.n = n
  ·subst e
   rw [show Bk.spKV (x :: r) = (Sum.inr x.n, V.bl x.w) :: Bk.spKV r from rfl, valV_pos rfl]
   simp [Bk.get]
  ·rw [show Bk.spKV (x :: r) = (Sum.inr x.n, V.bl x.w) :: Bk.spKV r from rfl, valV_neg (by simpa using e), ih]
   simp [Bk.get, e]
theorem Bk.rowKV_val {K : PySem.W.Frag} {H : Hp} (n : Str) : ∀ {b : Bk} {us : List V}, Bears K H Kd.rowE us b -> ∀ {k : Kd}, b.get n = some k -> ∃ u, valV (b.rowKV us) (Sum.inr n) = some u /\ Dp K H u k.rowE
 | [], _, _, k, h => by cases h
 | x :: r, _, .cons (v := u) (vs := us) h0 h1, k, h => by
  have e0 : Bk.rowKV (x :: r) (u :: us) = (Sum.inr x.n, u) :: Bk.rowKV r us := rfl
  by_cases e : x.n = n
  ·subst e
   have : x = k := by simpa [Bk.get] using h
   subst this
   exact ⟨u, by rw [e0, valV_pos rfl], h0⟩
  ·have h' : Bk.get r n = some k := by simpa [Bk.get, e] using h
   obtain ⟨v, a, c⟩ := Bk.rowKV_val n h1 h'
   exact ⟨v, by rw [e0, valV_neg (by simpa using e)]; exact a, c⟩
abbrev bkF (d1 d2 : Addr) : List (Str × V) := [("spread_by_name", .ref d1), ("rows_by_name", .ref d2)]
def BkA (K : PySem.W.Frag) (C : Addr) (H : Hp) (v : V) (b : Bk) : Prop := ∃ (a dx d1 d2 : Addr) (us : List V), v = .ref a /\ H a = some (.ins C dx (bkF d1 d2)) /\ H d1 = some (.dK b.spKV) /\ H d2 = some (.dK (b.rowKV us)) /\ Bears K H Kd.rowE us b
def Lsts (H : Hp) (ps : List Addr) : Prop := ∀ p ∈ ps, H p = none \/ ∃ xs, H p = some (.lst xs)
theorem Lsts.nil {H : Hp} : Lsts H [] := fun _ h => nomatch h
theorem Lsts.notin {H : Hp} {ps : List Addr} (h : Lsts H ps) {a : Addr} {o : HO} (e : H a = some o) (n : ∀ xs, o ≠ .lst xs) : a ∉ ps := fun z => by
 rcases h a z with q | ⟨xs, q⟩
 ·rw [e] at q; cases q
 ·rw [e] at q; exact n xs (Option.some.inj q)
section
variable {K : PySem.W.Frag} {C : Addr} {H H' : Hp} {v : V} {b : Bk} {ps : List Addr}
theorem BkA.sb (h : BkA K C H v b) (e : SB ps H H') (hp : Lsts H ps) : BkA K C H' v b := by
 obtain ⟨a, dx, d1, d2, us, rfl, h1, h2, h3, h4⟩ := h
 exact ⟨a, dx, d1, d2, us, rfl, e.keep _ _ h1 (hp.notin h1 fun _ z => nomatch z), e.keep _ _ h2 (hp.notin h2 fun _ z => nomatch z), e.keep _ _ h3 (hp.notin h3 fun _ z => nomatch z), h4.sb e Kd.noList_rowE⟩
theorem BkA.sb0 (h : BkA K C H v b) (e : SB [] H H') : BkA K C H' v b := h.sb e Lsts.nil
theorem BkA.at (h : BkA K C H v b) : ∃ a dx d1 d2, v = .ref a /\ H a = some (.ins C dx (bkF d1 d2)) := by
 obtain ⟨a, dx, d1, d2, us, e, h1, _⟩ := h
 exact ⟨a, dx, d1, d2, e, h1⟩
end
structure ClsF (K : PySem.W.Frag) (C : Addr) (fs : List Str) : Prop where
 c : Cls K C
 no : ∀ f ∈ fs, NoAttr K C f
def spBNames (K : PySem.W.Frag) (C : Addr) : Sp := fun vs H Q _ => ∃ (v : V) (b : Bk), vs = [v] /\ BkA K C H v b /\ b.length <= 1000 /\ ∀ (l : Addr) (H' : Hp), SB [] H H' -> H l = none -> H' l = some (.lst (b.names.map V.str)) -> Q (.ref l) H'
def kindOr (N : Addr) (b : Bk) (n : Str) (H : Hp) (E : XK) (q : Kd -> Prop) : Prop := (∀ k, b.get n = some k -> q k) /\ (b.get n = none -> ∀ (d : Addr) (H' : Hp), SB [] H H' -> H d = none -> H' d = some (.xd [("kind", .str n)]) -> E (.ref N) (some d) H')
def spCheckK (K : PySem.W.Frag) (C N : Addr) : Sp := fun vs H Q E => ∃ (v : V) (b : Bk) (n : Str), vs = [v, .str n] /\ BkA K C H v b /\ b.length <= 1000 /\ kindOr N b n H E fun _ => ∀ H', SB [] H H' -> Q .non H'
def spBSpreads (K : PySem.W.Frag) (C N : Addr) : Sp := fun vs H Q E => ∃ (v : V) (b : Bk) (n : Str), vs = [v, .str n] /\ BkA K C H v b /\ b.length <= 1000 /\ kindOr N b n H E fun k => ∀ H', SB [] H H' -> Q (.bl k.w) H'
def spBRules (K : PySem.W.Frag) (C N : Addr) : Sp := fun vs H Q E => ∃ (v : V) (b : Bk) (n : Str), vs = [v, .str n] /\ BkA K C H v b /\ b.length <= 1000 /\ (∀ k ∈ b, k.rs.length <= 1000) /\
 kindOr N b n H E fun k => ∀ (l : Addr) (us : List V) (H' : Hp), SB [] H H' -> H l = none -> H' l = some (.lst us) -> Bears K H' Ru.enc us k.rs -> Q (.ref l) H'
inductive KT where
 | other
 | three (d : PyData) (w : Option Bool) (rs : Option (List PyData))
def Kd.kt (k : Kd) : KT := .three (.str k.n) (some k.w) (some (k.rs.map Ru.enc))
def KTA (K : PySem.W.Frag) (H : Hp) (v : V) : KT -> Prop
 | .other => ∃ d, Tg K H v d /\ ∀ ds, d = .tuple ds -> ds.length ≠ 3
 | .three d w rs => ∃ (t : Addr) (x y z : V), v = .ref t /\ SqT K H t [x, y, z] /\ Tg K H x d /\ (match w with
   | some b => y = .bl b
   | none => ∃ n, TyX K H y (.type n) /\ kitB n "bool" = some false) /\ (match rs with
   | some ds => ∃ (l : Addr) (zs : List V), z = .ref l /\ H l = some (.lst zs) /\ TgAll K H zs ds
   | none => ∃ n, TyX K H z (.type n) /\ kitB n "list" = some false)
def RuD (d : PyData) : Prop := ∃ r : Ru, d = Ru.enc r /\ RuOk r
def RuFit (d : PyData) : Prop := d.depth <= 60 /\ wide d <= 1000 /\ ∀ a b, d = .tuple [a, b] -> ∀ g : Gr, a = g.enc \/ b = g.enc -> g.deep <= 18 /\ g.parts <= 450
def KTFit : KT -> Prop
 | .other => True
 | .three d w rs => ∀ ds, rs = some ds -> ds.length <= 1000 /\ ∀ x ∈ ds, RuFit x
def KTKd (t : KT) : Prop := ∃ k : Kd, t = k.kt /\ NameOk k.n /\ k.rs.length <= 4 /\ ∀ r ∈ k.rs, RuOk r
def KTBk (ts : List KT) : Prop := ∃ b : Bk, ts = b.map Kd.kt /\ Bk.Ok b
inductive KTAll (K : PySem.W.Frag) (H : Hp) : List V -> List KT -> Prop
 | nil : KTAll K H [] []
 | cons {v : V} {t : KT} {vs : List V} {ts : List KT} : KTA K H v t -> KTAll K H vs ts -> KTAll K H (v :: vs) (t :: ts)
def spIsRule (K : PySem.W.Frag) : Sp := fun vs H Q _ => ∃ (v : V) (d : PyData), vs = [v] /\ Tg K H v d /\ RuFit d /\ ∀ (b : Bool) (H' : Hp), SB [] H H' -> (b = true ↔ RuD d) -> Q (.bl b) H'
def spIsKind (K : PySem.W.Frag) : Sp := fun vs H Q _ => ∃ (v : V) (t : KT), vs = [v] /\ KTA K H v t /\ KTFit t /\ ∀ (b : Bool) (H' : Hp), SB [] H H' -> (b = true ↔ KTKd t) -> Q (.bl b) H'
def spIsRuleOf (K : PySem.W.Frag) : Sp := fun vs H Q _ => ∃ (v : V) (l : Addr) (r : Ru) (ns : List Str), vs = [v, .ref l] /\ Dp K H v (Ru.enc r) /\ RuOk r /\ SqL K H l (ns.map V.str) /\ ns.length <= 1000 /\ ∀ H', SB [] H H' -> Q (.bl (decide (∀ p ∈ Ru.within r, p.1.1 ∈ ns))) H'
def spAreKinds (K : PySem.W.Frag) : Sp := fun vs H Q _ => ∃ (l : Addr) (xs : List V) (ts : List KT), vs = [.ref l] /\ SqL K H l xs /\ KTAll K H xs ts /\ (∀ t ∈ ts, KTFit t) /\ ts.length <= 1000 /\ ∀ (b : Bool) (H' : Hp), SB [] H H' -> (b = true ↔ KTBk ts) -> Q (.bl b) H'
def spBInit (K : PySem.W.Frag) (C B : Addr) : Sp := fun vs H Q E => ∃ (x dx l : Addr) (xs : List V) (ts : List KT), vs = [.ref x, .ref l] /\ H x = some (.ins C dx []) /\ H dx = some (.own x) /\ H l = some (.lst xs) /\ KTAll K H xs ts /\ (∀ t ∈ ts, KTFit t) /\ ts.length <= 1000 /\
 (∀ b : Bk, ts = b.map Kd.kt -> b.Ok -> ∀ H', SB [x] H H' -> BkA K C H' (.ref x) b -> Q .non H') /\ (¬ KTBk ts -> ∀ H', SB [] H H' -> E (.ref B) none H')
theorem inV_strs (n : Str) (zs : List Str) : inV (.str n) (zs.map V.str) = decide (n ∈ zs) := by
 induction zs with
 | nil => rfl
 | cons z r ih =>
  show ((z == n) || inV (.str n) (r.map V.str)) = _
  rw [ih]
  by_cases e : z = n
  ·subst e; simp
  ·have e' : ¬ n = z := fun y => e y.symm
   rw [show (z == n) = false from beq_eq_false_iff_ne.mpr e, Bool.false_or]
   by_cases h : n ∈ r <;> simp [h, e']
theorem flat_strs (zs : List Str) : (zs.map V.str).all flatV = true := by simp [flatV]
theorem getK {H : Hp} {d : Addr} {kvs : List (Key × V)} {n : Str} {v : V} (h : H d = some (.dK kvs)) (e : valV kvs (Sum.inr n) = some v) : DGet H d (.str n) (some v) := .inl ⟨kvs, Sum.inr n, .inl h, rfl, e.symm⟩
theorem Bk.get_isSome (b : Bk) (n : Str) : decide (n ∈ b.names) = (b.get n).isSome := by
 cases e : b.get n with
 | none => simpa using Bk.get_none e
 | some k => simpa using List.mem_map.mpr ⟨k, (Bk.get_some e).1, (Bk.get_some e).2⟩
section
variable {J : It} {n : Nat} {G : Hp -> Prop} {Y : Nat -> Hp -> V -> Hp -> Prop}
theorem lc_seq (w : Walk J n G Y) {g : TG} {tt : TT} {te : TE} {vs : List Nat} {σ : L2.St} {H : Hp} {D : Addr} {Qd : Hp -> Prop} (hD : H D = none) (hn : n < sizeLine) (R : Nat -> List V -> Hp -> Prop) (h0 : R 0 [] H) (hG : ∀ H2, SB [] H H2 -> G H2)
  (st : ∀ i us H2 H3, SB [D] H2 H3 -> R i us H2 -> R i us H3)
  (turn : ∀ (Pv : Hp -> Prop) i x H2 H' us, i < n -> SB [] H H2 -> Y i H2 x H' -> R i us H2 -> us.length <= i -> (∀ y H5, SB [] H2 H5 -> R (i + 1) (us ++ [y]) H5 -> ∃ acc, H5 D = some (.lst acc) /\ acc.length < sizeLine /\ Pv (upd H5 D (.lst (acc ++ [y])))) ->
   (∀ H4, SB [] H2 H4 -> R (i + 1) us H4 -> Pv H4) -> g x (wipe σ vs) H' fun σ2 H3 => wipe σ2 vs = wipe σ vs /\ tt σ2 H3 fun b H4 =>
    if b = true then te σ2 H4 fun y H5 => ∃ acc, H5 D = some (.lst acc) /\ acc.length < sizeLine /\ Pv (upd H5 D (.lst (acc ++ [y]))) else Pv H4)
  (done : ∀ us H2, SB [] H H2 -> H2 D = some (.lst us) -> R n us H2 -> us.length <= n -> Qd H2) :
  ∃ W : Nat -> Nat -> Hp -> Prop, (∃ m, W 0 m (upd H D (.lst []))) /\ ∀ i m H, W i m H ->
   (J.stop i H /\ Qd H) \/ (J.go i H /\ ∃ Nx : Hp -> Prop, (∀ H', Nx H' -> ∃ m', m' < m /\ W (i + 1) m' H') /\ ∀ x H', J.yld i H x H' -> g x (wipe σ vs) H' fun σ2 H2 => wipe σ2 vs = wipe σ vs /\ tt σ2 H2 fun b H3 =>
    if b = true then te σ2 H3 fun y H4 => ∃ acc, H4 D = some (.lst acc) /\ acc.length < sizeLine /\ Nx (upd H4 D (.lst (acc ++ [y]))) else Nx H3) := by
 refine lc_it w (fun i H2 => SB [D] H H2 /\ ∃ us, H2 D = some (.lst us) /\ R i us H2 /\ us.length <= i) ⟨SB.new hD _, [], upd_same, st _ _ _ _ (SB.new hD _) h0, Nat.le_refl _⟩ (fun i H2 _ h => hG H2 (h.1.drop hD)) (fun i x H2 H' hi h y => ?_) (fun H2 h => ?_)
 ·obtain ⟨s2, us, hD2, hR, hl⟩ := h
  refine turn _ i x H2 H' us hi (s2.drop hD) y hR hl (fun y H5 s5 r5 => ?_) (fun H4 s4 r4 => ⟨s2.trans s4.nil, us, s4.keep _ _ hD2 nmn, r4, by omega⟩)
  have hD5 := s5.keep _ _ hD2 nmn
  refine ⟨us, hD5, by omega, (s2.trans s5.nil).trans (SB.set hD5 (by simp) _), _, upd_same, st _ _ _ _ (SB.set hD5 (by simp) _) r5, ?_⟩
  rw [List.length_append, List.length_singleton]; omega
 ·obtain ⟨s2, us, hD2, hR, hl⟩ := h
  exact done us H2 (s2.drop hD) hD2 hR hl
end
theorem groveD_Ok {C : Int} : ∀ {g : Gr}, groveD g.enc = true -> (∀ p ∈ g.within, p.2 < C) -> g.Ok C := by
 have key : ∀ (g : Gr), (∀ p ∈ g.within, p.2 < C) -> grPs g.encs = true -> (risingD (g.encs.map exp0) = true -> g.Ok C) := by
  intro g
  induction g with
  | nil => intro _ _ _; trivial
  | cons k g m r ihg ihr =>
   intro hb hps hri
   have hb1 : ∀ p ∈ g.within, p.2 < C := fun p hp => hb p (mcm _ (List.mem_append_left _ hp))
   have hb2 : ∀ p ∈ r.within, p.2 < C := fun p hp => hb p (mcm _ (List.mem_append_right _ hp))
   have e : (Gr.cons k g m r).encs = Gr.pEnc ((k, g), m) :: r.encs := rfl
   rw [e, grPs, Bool.and_eq_true] at hps
   rw [e, List.map_cons] at hri
   have hp : grP (.tuple [.tuple [.str k, .tuple g.encs], .int m]) = true := hps.1
   rw [grP, grP2, Bool.and_eq_true, treeD, trD2, Bool.and_eq_true, trD3, Bool.and_eq_true, groveD, Bool.and_eq_true, ladP3, Bool.and_eq_true] at hp
   obtain ⟨⟨hn, ⟨hgp, hgr⟩, _⟩, hmm, _⟩ := hp
   have hname : NameOk k := by
    obtain ⟨z, ez, hz⟩ := nameD_iff hn
    cases ez; exact hz
   have hri2 : risingD (r.encs.map exp0) = true := by
    cases hre : r.encs with
    | nil => rfl
    | cons d ds =>
     rw [hre, List.map_cons] at hri
     have : (dataLt (exp0 (Gr.pEnc ((k, g), m))) (exp0 d) :: ltsD (exp0 d :: ds.map exp0)).all id = true := hri
     rw [List.all_cons, Bool.and_eq_true] at this
     rw [List.map_cons]; exact this.2
   have hro := ihr hb2 hps.2 hri2
   refine ⟨hname, ihg hb1 hgp hgr, of_decide_eq_true hmm, hb _ (mcs ..), hro, fun p hpm => ?_⟩
   cases r with
   | nil => cases hpm
   | cons k2 g2 m2 r2 =>
    have h12 : dataLt (Gr.tEnc (k, g)) (Gr.tEnc (k2, g2)) = true := by
     have : (dataLt (Gr.tEnc (k, g)) (Gr.tEnc (k2, g2)) :: ltsD (Gr.tEnc (k2, g2) :: r2.encs.map exp0)).all id = true := hri
     rw [List.all_cons, Bool.and_eq_true] at this
     exact this.1
    rcases List.mem_cons.mp hpm with h | h
    ·subst h; exact h12
    ·exact dl_trans h12 (hro.2.2.2.2.2 p h)
 intro g hg hb
 rw [Gr.enc, groveD, Bool.and_eq_true] at hg
 exact key g hb hg.1 hg.2
theorem Ok_within {C : Int} : ∀ {g : Gr}, g.Ok C -> ∀ p ∈ g.within, NameOk p.1.1 /\ p.1.2.Ok C /\ 1 <= p.2 /\ p.2 < C
 | .nil, _, p, h => by cases h
 | .cons k g m r, ⟨h0, h1, h2, h3, h4, _⟩, p, h => by
  rcases List.mem_cons.mp h with h | h
  ·subst h; exact ⟨h0, h1, h2, h3⟩
  ·rcases List.mem_append.mp h with h | h
   ·exact Ok_within h1 p h
   ·exact Ok_within h4 p h
theorem Gr.enc_inj {g h : Gr} (e : g.enc = h.enc) : g = h := by
 have := Gr.eqv_enc g h
 rw [e, Gr.eqv_enc h h, decide_eq_true rfl] at this
 exact of_decide_eq_true this.symm
theorem RuD_iff {g h : Gr} (hg : groveD g.enc = true) (hh : groveD h.enc = true) : RuD (.tuple [g.enc, h.enc]) ↔ g.parts + h.parts <= 4 /\ ∀ p ∈ g.within ++ h.within, p.2 <= 1000000000 := by
 constructor
 ·rintro ⟨r, e, h1, h2, h3⟩
  have e' : PyData.tuple [g.enc, h.enc] = .tuple [r.1.enc, r.2.enc] := e
  injection e' with e'
  injection e' with a e'
  injection e' with b _
  rw [Gr.enc_inj a, Gr.enc_inj b]
  refine ⟨h3, fun p hp => ?_⟩
  rcases List.mem_append.mp hp with hp | hp
  ·have := (Ok_within h1 p hp).2.2.2; omega
  ·have := (Ok_within h2 p hp).2.2.2; omega
 ·rintro ⟨h1, h2⟩
  exact ⟨(g, h), rfl, groveD_Ok hg fun p hp => by have := h2 p (List.mem_append_left _ hp); omega, groveD_Ok hh fun p hp => by have := h2 p (List.mem_append_right _ hp); omega, h1⟩
theorem RuD_two {d : PyData} (h : RuD d) : ∃ g k : Gr, d = .tuple [g.enc, k.enc] /\ groveD g.enc = true /\ groveD k.enc = true := by
 obtain ⟨r, e, h1, h2, _⟩ := h
 exact ⟨r.1, r.2, e, groveD_ok h1, groveD_ok h2⟩
theorem within_deep : ∀ g : Gr, g.deep <= g.parts
 | .nil => Nat.le_refl _
 | .cons k g m r => by
  have h1 := within_deep g
  have h2 := within_deep r
  show max (1 + g.deep) r.deep <= 1 + g.parts + r.parts
  omega
theorem RuD_all : ∀ {ds : List PyData}, (∀ x ∈ ds, RuD x) -> ∃ rs : List Ru, ds = rs.map Ru.enc /\ ∀ r ∈ rs, RuOk r
 | [], _ => ⟨[], rfl, fun _ h => nomatch h⟩
 | d :: ds, h => by
  obtain ⟨r, e, hr⟩ := h d (mcs ..)
  obtain ⟨rs, e2, hrs⟩ := RuD_all fun x hx => h x (mcm _ hx)
  refine ⟨r :: rs, by rw [e, e2]; rfl, fun x hx => ?_⟩
  rcases List.mem_cons.mp hx with hx | hx
  ·rw [hx]; exact hr
  ·exact hrs x hx
theorem SqL_ty {K : PySem.W.Frag} {H : Hp} {a : Addr} {xs : List V} (h : SqL K H a xs) : TyX K H (.ref a) (.type "list") := by
 rcases h with (h | ⟨o, h⟩) | ⟨o, its, n, h, c, _⟩
 ·exact .base (.lst h)
 ·exact .base (.frz h)
 ·exact .kList h c
section
variable {K : PySem.W.Frag} {H H' : Hp}
theorem KTA_sb (e : SB [] H H') : ∀ {t : KT} {v : V}, KTA K H v t -> KTA K H' v t
 | .other, v, ⟨d, h1, h2⟩ => ⟨d, Tg_sb e h1, h2⟩
 | .three d w rs, v, ⟨t, x, y, z, e0, h1, h2, h3, h4⟩ => by
  refine ⟨t, x, y, z, e0, e.sqT h1, Tg_sb e h2, ?_, ?_⟩
  ·cases w with
   | some b => exact h3
   | none =>
    obtain ⟨n, a, b⟩ := h3
    exact ⟨n, TyX_sb e (fun _ _ => nmn) a, b⟩
  ·cases rs with
   | some ds =>
    obtain ⟨l, zs, e1, h5, h6⟩ := h4
    exact ⟨l, zs, e1, e.keep _ _ h5 nmn, TgAll_sb e h6⟩
   | none =>
    obtain ⟨n, a, b⟩ := h4
    exact ⟨n, TyX_sb e (fun _ _ => nmn) a, b⟩
theorem KTAll.sb (e : SB [] H H') : ∀ {vs : List V} {ts : List KT}, KTAll K H vs ts -> KTAll K H' vs ts
 | _, _, .nil => .nil
 | _, _, .cons h t => .cons (KTA_sb e h) (KTAll.sb e t)
theorem KTAll.length : ∀ {vs : List V} {ts : List KT}, KTAll K H vs ts -> vs.length = ts.length
 | _, _, .nil => rfl
 | _, _, .cons h t => by rw [List.length_cons, List.length_cons, KTAll.length t]
theorem KTAll.get : ∀ {vs : List V} {ts : List KT} {i : Nat} {v : V}, KTAll K H vs ts -> vs[i]? = some v -> ∃ t, ts[i]? = some t /\ KTA K H v t
 | _, _, i, v, .nil, h => by simp at h
 | _, _, 0, v, .cons h t, e => by simp at e; subst e; exact ⟨_, rfl, h⟩
 | _, _, i + 1, v, .cons h t, e => by
  simp at e
  obtain ⟨t', e', h'⟩ := KTAll.get (i := i) t e
  exact ⟨t', by simpa using e', h'⟩
theorem KT_all : ∀ {ts : List KT}, (∀ t ∈ ts, KTKd t) -> ∃ b : Bk, ts = b.map Kd.kt /\ ∀ k ∈ b, NameOk k.n /\ k.rs.length <= 4 /\ ∀ r ∈ k.rs, RuOk r
 | [], _ => ⟨[], rfl, fun _ h => nomatch h⟩
 | t :: ts, h => by
  obtain ⟨k, e, hk⟩ := h t (mcs ..)
  obtain ⟨b, e2, hb⟩ := KT_all fun x hx => h x (mcm _ hx)
  refine ⟨k :: b, by rw [e, e2]; rfl, fun x hx => ?_⟩
  rcases List.mem_cons.mp hx with hx | hx
  ·rw [hx]; exact hk
  ·exact hb x hx
theorem kt_inj {k j : Kd} (e : k.kt = j.kt) : k = j := by
 obtain ⟨n, w, rs⟩ := k
 obtain ⟨n2, w2, rs2⟩ := j
 injection e with e1 e2 e3
 injection e1 with e1
 injection e2 with e2
 injection e3 with e3
 have e3 : rs.map Ru.enc = rs2.map Ru.enc := e3
 have e1 : n = n2 := e1
 have e2 : w = w2 := e2
 subst e1 e2
 have : rs = rs2 := by
  refine (List.map_inj_right ?_).mp e3
  intro x y h
  have h' : PyData.tuple [x.1.enc, x.2.enc] = .tuple [y.1.enc, y.2.enc] := h
  injection h' with h'
  injection h' with a h'
  injection h' with b _
  exact Prod.ext (Gr.enc_inj a) (Gr.enc_inj b)
 rw [this]
theorem kts_inj {b c : Bk} (e : b.map Kd.kt = c.map Kd.kt) : b = c := (List.map_inj_right (fun _ _ => kt_inj)).mp e
theorem TgAll_rules : ∀ {rs : List Ru} {zs : List V}, TgAll K H zs (rs.map Ru.enc) -> Bears K H Ru.enc zs rs
 | [], _, .nil => .nil
 | r :: rs, _, .cons h t => by
  refine .cons ?_ (TgAll_rules t)
  cases (h : Tg K H _ (.tuple [r.1.enc, r.2.enc])) with
  | tup hs ha =>
   cases ha with
   | cons h1 ha =>
   cases ha with
   | cons h2 ha =>
   cases ha
   cases h1 with
   | tup a1 b1 =>
   cases h2 with
   | tup a2 b2 => exact .tup hs (.cons (.tup a1 (Tg_ga r.1 b1)) (.cons (.tup a2 (Tg_ga r.2 b2)) .nil))
def KdA (K : PySem.W.Frag) (H : Hp) (bad : List Addr) (v : V) (k : Kd) : Prop := ∃ (t l : Addr) (zs : List V), v = .ref t /\ SqT K H t [.str k.n, .bl k.w, .ref l] /\ H l = some (.lst zs) /\ Bears K H Ru.enc zs k.rs /\ l ∉ bad
theorem KTA_kd {k : Kd} {v : V} (h : KTA K H v k.kt) : KdA K H [] v k := by
 obtain ⟨t, x, y, z, e0, h1, h2, h3, l, zs, rfl, h5, h6⟩ := h
 have h3 : y = .bl k.w := h3
 subst h3
 cases h2
 exact ⟨t, l, zs, e0, h1, h5, TgAll_rules h6, nmn⟩
def NoLst (H : Hp) (bad ps : List Addr) : Prop := ∀ p ∈ ps, p ∈ bad \/ ∀ xs, H p ≠ some (.lst xs)
theorem NoLst.nil {bad : List Addr} : NoLst H bad [] := fun _ z => nomatch z
theorem NoLst.self {bad : List Addr} : NoLst H bad bad := fun _ z => .inl z
theorem KdA.sb {k : Kd} {v : V} {ps bad : List Addr} (h : KdA K H bad v k) (e : SB ps H H') (n : NoLst H bad ps) : KdA K H' bad v k := by
 obtain ⟨t, l, zs, e0, h1, h2, h3, h4⟩ := h
 exact ⟨t, l, zs, e0, e.sqT h1, e.keep _ _ h2 fun z => (n _ z).elim h4 fun y => y _ h2, h3.sb e Ru.noList_enc, h4⟩
inductive KdAll (K : PySem.W.Frag) (H : Hp) (bad : List Addr) : List V -> Bk -> Prop
 | nil : KdAll K H bad [] []
 | cons {v : V} {k : Kd} {vs : List V} {b : Bk} : KdA K H bad v k -> KdAll K H bad vs b -> KdAll K H bad (v :: vs) (k :: b)
theorem KdAll.sb {ps bad : List Addr} (e : SB ps H H') (n : NoLst H bad ps) : ∀ {vs : List V} {b : Bk}, KdAll K H bad vs b -> KdAll K H' bad vs b
 | _, _, .nil => .nil
 | _, _, .cons h t => .cons (h.sb e n) (KdAll.sb e n t)
theorem KdAll.less {bad bad' : List Addr} (hb : ∀ x ∈ bad', x ∈ bad) : ∀ {vs : List V} {b : Bk}, KdAll K H bad vs b -> KdAll K H bad' vs b
 | _, _, .nil => .nil
 | _, _, .cons ⟨t, l, zs, h1, h2, h3, h4, h5⟩ r => .cons ⟨t, l, zs, h1, h2, h3, h4, fun z => h5 (hb l z)⟩ (KdAll.less hb r)
theorem KdAll.append {bad : List Addr} : ∀ {xs ys : List V} {bs cs : Bk}, KdAll K H bad xs bs -> KdAll K H bad ys cs -> KdAll K H bad (xs ++ ys) (bs ++ cs)
 | _, _, _, _, .nil, h => h
 | _, _, _, _, .cons a b, h => .cons a (KdAll.append b h)
theorem KdAll.length {bad : List Addr} : ∀ {vs : List V} {ts : Bk}, KdAll K H bad vs ts -> vs.length = ts.length
 | _, _, .nil => rfl
 | _, _, .cons h t => by rw [List.length_cons, List.length_cons, KdAll.length t]
theorem KdAll.get {bad : List Addr} : ∀ {vs : List V} {ts : Bk} {i : Nat} {v : V}, KdAll K H bad vs ts -> vs[i]? = some v -> ∃ t, ts[i]? = some t /\ KdA K H bad v t
 | _, _, i, v, .nil, h => by simp at h
 | _, _, 0, v, .cons h t, e => by simp at e; subst e; exact ⟨_, rfl, h⟩
 | _, _, i + 1, v, .cons h t, e => by
  simp at e
  obtain ⟨t', e', h'⟩ := KdAll.get (i := i) t e
  exact ⟨t', by simpa using e', h'⟩
theorem KTAll.kd : ∀ {b : Bk} {vs : List V}, KTAll K H vs (b.map Kd.kt) -> KdAll K H [] vs b
 | [], _, .nil => .nil
 | k :: b, _, .cons h t => .cons (KTA_kd h) (KTAll.kd t)
theorem rules_TgAll {zs : List V} : ∀ {rs : List Ru} {zs : List V}, (∀ r ∈ rs, RuOk r) -> Bears K H Ru.enc zs rs -> TgAll K H zs (rs.map Ru.enc)
 | [], _, _, .nil => .nil
 | r :: rs, _, ok, .cons h t => by
  refine .cons ?_ (rules_TgAll (zs := zs) (fun x hx => ok x (mcm _ hx)) t)
  obtain ⟨o1, o2, _⟩ := ok r (mcs ..)
  cases (h : Dp K H _ (.tuple [r.1.enc, r.2.enc])) with
  | tup hs ha =>
   cases ha with
   | cons h1 ha =>
   cases ha with
   | cons h2 ha =>
   cases ha
   exact .tup hs (.cons (GA_thing o1 h1) (.cons (GA_thing o2 h2) .nil))
theorem KdAll.kt {bad : List Addr} : ∀ {b : Bk} {vs : List V}, (∀ k ∈ b, NameOk k.n /\ ∀ r ∈ k.rs, RuOk r) -> KdAll K H bad vs b -> KTAll K H vs (b.map Kd.kt)
 | [], _, _, .nil => .nil
 | k :: b, _, ok, .cons h t => by
  refine .cons ?_ (KdAll.kt (fun x hx => ok x (mcm _ hx)) t)
  obtain ⟨t, l, zs, e0, h1, h2, h3, _⟩ := h
  obtain ⟨o1, o2⟩ := ok k (mcs ..)
  exact ⟨t, _, _, _, e0, h1, .str _ (name_short o1), rfl, l, zs, rfl, h2, rules_TgAll (zs := zs) o2 h3⟩
theorem RuFit_of {r : Ru} (h : RuOk r) : RuFit (Ru.enc r) := by
 obtain ⟨h1, h2, h3⟩ := h
 have d1 := within_deep r.1
 have d2 := within_deep r.2
 have e1 := r.1.encs_depth
 have e2 := r.2.encs_depth
 obtain ⟨w1, w2⟩ := wides_gr r.1
 obtain ⟨w3, w4⟩ := wides_gr r.2
 refine ⟨?_, ?_, fun a b e g hg => ?_⟩
 ·show PyData.depth (.tuple [.tuple r.1.encs, .tuple r.2.encs]) <= 60
  simp only [PyData.depth, PyData.depthAll]; omega
 ·show wide (.tuple [.tuple r.1.encs, .tuple r.2.encs]) <= 1000
  simp only [wide, wides, List.length_cons, List.length_nil]; omega
 ·have e' : PyData.tuple [r.1.enc, r.2.enc] = .tuple [a, b] := e
  injection e' with e'
  injection e' with ea e'
  injection e' with eb _
  rcases hg with hg | hg
  ·rw [<- ea] at hg; rw [<- Gr.enc_inj hg]; omega
  ·rw [<- eb] at hg; rw [<- Gr.enc_inj hg]; omega
theorem KTFit_of {k : Kd} (h : k.rs.length <= 4 /\ ∀ r ∈ k.rs, RuOk r) : KTFit k.kt := by
 intro ds e
 have e : some (k.rs.map Ru.enc) = some ds := e
 injection e with e
 subst e
 refine ⟨by rw [List.length_map]; omega, fun x hx => ?_⟩
 obtain ⟨r, hr, rfl⟩ := List.mem_map.mp hx
 exact RuFit_of (h.2 r hr)
end
section
variable {J : It} {n : Nat} {G : Hp -> Prop} {Y : Nat -> Hp -> V -> Hp -> Prop}
theorem dc_seq (w : Walk J n G Y) {g : TG} {tt : TT} {tk tv : TE} {vs : List Nat} {σ : L2.St} {H : Hp} {D : Addr} {Qd : Hp -> Prop} (hD : H D = none) (hn : n < sizeLine) (R : Nat -> List (Key × V) -> Hp -> Prop) (h0 : R 0 [] H) (hG : ∀ H2, SB [] H H2 -> G H2)
  (st : ∀ i us H2 H3, SB [D] H2 H3 -> R i us H2 -> R i us H3)
  (turn : ∀ (Pv : Hp -> Prop) i x H2 H' kvs, i < n -> SB [] H H2 -> Y i H2 x H' -> R i kvs H2 -> kvs.length <= i -> (∀ k z H5, SB [] H2 H5 -> R (i + 1) (putK kvs k z) H5 -> ∃ kvs k', kV k = kV k' /\ H5 D = some (.dK kvs) /\ kvs.length < sizeLine /\ Pv (upd H5 D (.dK (putK kvs k' z)))) ->
   (∀ H4, SB [] H2 H4 -> R (i + 1) kvs H4 -> Pv H4) -> g x (wipe σ vs) H' fun σ2 H3 => wipe σ2 vs = wipe σ vs /\ tt σ2 H3 fun b H4 =>
    if b = true then tk σ2 H4 fun y H5 => tv σ2 H5 fun z H6 => ∃ kvs k, y = kV k /\ H6 D = some (.dK kvs) /\ kvs.length < sizeLine /\ Pv (upd H6 D (.dK (putK kvs k z))) else Pv H4)
  (done : ∀ kvs H2, SB [] H H2 -> H2 D = some (.dK kvs) -> R n kvs H2 -> kvs.length <= n -> Qd H2) :
  ∃ W : Nat -> Nat -> Hp -> Prop, (∃ m, W 0 m (upd H D (.dK []))) /\ ∀ i m H, W i m H ->
   (J.stop i H /\ Qd H) \/ (J.go i H /\ ∃ Nx : Hp -> Prop, (∀ H', Nx H' -> ∃ m', m' < m /\ W (i + 1) m' H') /\ ∀ x H', J.yld i H x H' -> g x (wipe σ vs) H' fun σ2 H2 => wipe σ2 vs = wipe σ vs /\ tt σ2 H2 fun b H3 =>
    if b = true then tk σ2 H3 fun y H4 => tv σ2 H4 fun z H5 => ∃ kvs k, y = kV k /\ H5 D = some (.dK kvs) /\ kvs.length < sizeLine /\ Nx (upd H5 D (.dK (putK kvs k z))) else Nx H3) := by
 refine lcG (body := fun Nx x H' => g x (wipe σ vs) H' fun σ2 H2 => wipe σ2 vs = wipe σ vs /\ tt σ2 H2 fun b H3 =>
    if b = true then tk σ2 H3 fun y H4 => tv σ2 H4 fun z H5 => ∃ kvs k, y = kV k /\ H5 D = some (.dK kvs) /\ kvs.length < sizeLine /\ Nx (upd H5 D (.dK (putK kvs k z))) else Nx H3) w (fun i H2 => SB [D] H H2 /\ ∃ kvs, H2 D = some (.dK kvs) /\ R i kvs H2 /\ kvs.length <= i)
  ⟨SB.new hD _, [], upd_same, st _ _ _ _ (SB.new hD _) h0, Nat.le_refl _⟩ (fun i H2 _ h => hG H2 (h.1.drop hD)) (fun i x H2 H' hi h y => ?_) (fun H2 h => ?_)
 ·obtain ⟨s2, kvs, hD2, hR, hl⟩ := h
  refine turn _ i x H2 H' kvs hi (s2.drop hD) y hR hl (fun k z H5 s5 r5 => ?_) (fun H4 s4 r4 => ⟨s2.trans s4.nil, kvs, s4.keep _ _ hD2 nmn, r4, by omega⟩)
  have hD5 := s5.keep _ _ hD2 nmn
  refine ⟨kvs, k, rfl, hD5, by omega, (s2.trans s5.nil).trans (SB.setD hD5 (by simp) _), _, upd_same, st _ _ _ _ (SB.setD hD5 (by simp) _) r5, ?_⟩
  have := length_putK kvs k z
  omega
 ·obtain ⟨s2, kvs, hD2, hR, hl⟩ := h
  exact done kvs H2 (s2.drop hD) hD2 hR hl
end
theorem putK_new {kvs : List (Key × V)} {k : Key} {v : V} (h : ∀ p ∈ kvs, p.1 ≠ k) : putK kvs k v = kvs ++ [(k, v)] := by
 unfold putK
 rw [if_neg]
 intro z
 obtain ⟨p, hp, e⟩ := List.any_eq_true.mp z
 exact h p hp (of_decide_eq_true e)
theorem Bk.nodup_at {b : Bk} (nd : b.names.Nodup) {i : Nat} {k : Kd} (h : b[i]? = some k) : ∀ j ∈ b.take i, j.n ≠ k.n := by
 intro j hj e
 have e1 : b.names = (b.take i).map (·.n) ++ (b.drop i).map (·.n) := by rw [<- List.map_append, List.take_append_drop]
 rw [e1] at nd
 exact (List.nodup_append.mp nd).2.2 j.n (List.mem_map.mpr ⟨j, hj, rfl⟩) k.n (List.mem_map.mpr ⟨k, List.mem_of_getElem? (i := 0) (by rw [List.getElem?_drop]; exact h), rfl⟩) e
theorem SB.setG {H : Hp} {p : Addr} {o : HO} {ps : List Addr} (h : H p = some o) (hp : p ∈ ps) (n1 : ∀ xs, o ≠ .tup xs) (n2 : ∀ u v, o ≠ .frz u v) (o' : HO) : SB ps H (upd H p o') := by
 refine ⟨fun b u e n => ?_, fun b u e => ?_, fun b v u e => ?_, fun b e => ?_⟩
 ·rw [upd_ne (fun (z : b = p) => n (by rw [z]; exact hp))]; exact e
 ·rw [upd_ne (fun (z : b = p) => by subst z; rw [h] at e; exact n1 _ (Option.some.inj e))]; exact e
 ·rw [upd_ne (fun (z : b = p) => by subst z; rw [h] at e; exact n2 _ _ (Option.some.inj e))]; exact e
 ·by_cases q : b = p
  ·subst q; rw [upd_same] at e; cases e
  ·rw [upd_ne q] at e; exact e
theorem rowKV_mem : ∀ {b : Bk} {us : List V} {p : Key × V}, p ∈ b.rowKV us -> ∃ j ∈ b, p.1 = Sum.inr j.n
 | [], _, p, h => by cases h
 | k :: b, [], p, h => by cases h
 | k :: b, u :: us, p, h => by
  rcases List.mem_cons.mp (show p ∈ (Sum.inr k.n, u) :: Bk.rowKV b us from h) with h | h
  ·exact ⟨k, mcs .., by rw [h]⟩
  ·obtain ⟨j, hj, e⟩ := rowKV_mem h
   exact ⟨j, mcm _ hj, e⟩
def CPowW (i j : Int) : Prop := 0 <= j /\ j <= 1000 /\ i.natAbs < 2 ^ 1000
theorem op_powW {X : Cx} : OpR X (binaryOp .Pow) (rI CPowW fun i j => .int (i ^ j.toNat)) := opI fun i j _ _ _ _ _ hc q => pow_int hc.1 (by
 obtain ⟨h0, h1, h2⟩ := hc
 have hb : Builtin.Int.intBits i <= 1000 := intBits_le h2
 have h3 : (Builtin.Int.intBits i : Int) * j <= 1000 * j := Int.mul_le_mul_of_nonneg_right (by omega) h0
 omega) q
def PuW (H : Hp) (p : Addr) : Prop := ∃ x y : Int, H p = some (.lst [.int x, .int y]) /\ 0 <= x /\ 0 <= y /\ y < 2 ^ 62
theorem PuW.sb {H H' : Hp} {p : Addr} (h : PuW H p) (e : SB [] H H') : PuW H' p := by
 obtain ⟨x, y, h1, h2⟩ := h
 exact ⟨x, y, e.keep _ _ h1 nmn, h2⟩
theorem PuW.keep {H H' : Hp} {p : Addr} {ps : List Addr} (h : PuW H p) (e : SB ps H H') (n : p ∉ ps) : PuW H' p := by
 obtain ⟨x, y, h1, h2⟩ := h
 exact ⟨x, y, e.keep _ _ h1 n, h2⟩
theorem PuW.new {H : Hp} {p q : Addr} (h : PuW H p) (n : H q = none) {o : HO} : PuW (upd H q o) p := by
 obtain ⟨x, y, h1, h2⟩ := h
 exact ⟨x, y, by rw [upd_ne (ne_of_none h1 n)]; exact h1, h2⟩
theorem PuW.ne {H : Hp} {p q : Addr} (h : PuW H p) (n : H q = none) : p ≠ q := by
 obtain ⟨x, y, h1, h2⟩ := h
 exact ne_of_none h1 n
def spPurseW (K : PySem.W.Frag) : Sp := fun vs H Q _ => ∃ (a : Addr) (ns : List Int) (k : Nat), vs = [.ref a, .int (k : Int)] /\ SqL K H a (ns.map V.int) /\ ns.length <= 63 /\ k <= 1000 /\ ∀ p H', SB [] H H' -> H p = none -> PuW H' p -> Q (.ref p) H'
def spTakeW : Sp := fun vs H Q _ => ∃ (p : Addr) (m : Int), vs = [.ref p, .int m] /\ PuW H p /\ 1 <= m /\ m < 2 ^ 250 /\ ∀ r H', 0 <= r -> r < m -> SB [p] H H' -> PuW H' p -> Q (.int r) H'
section
variable {K : PySem.W.Frag} {H : Hp} {p : Addr} {Q : VK} {σ : L2.St} {i j : Nat} {m : Int}
theorem take_w (hσ : σ[i]? = some (some (.ref p))) (hp : PuW H p) (h1 : 1 <= m) (h2 : m < 2 ^ 250) (k : ∀ r H', 0 <= r -> r < m -> SB [p] H H' -> PuW H' p -> Q (.int r) H') :
  tCall spTakeW [] E0 (tCons (tVar i) (tCons (tC (.int m)) tNil)) σ H Q := ⟨_, hσ, p, m, rfl, hp, h1, h2, k⟩
end
section
variable {J : It} {n : Nat} {G : Hp -> Prop} {Y : Nat -> Hp -> V -> Hp -> Prop}
theorem lc_seqP (w : Walk J n G Y) (ps : List Addr) {g : TG} {tt : TT} {te : TE} {vs : List Nat} {σ : L2.St} {H : Hp} {D : Addr} {Qd : Hp -> Prop} (hD : H D = none) (hps : ∀ q ∈ ps, H q ≠ none) (hn : n < sizeLine) (R : Nat -> List V -> Hp -> Prop) (h0 : R 0 [] H) (hG : ∀ H2, SB ps H H2 -> G H2)
  (st : ∀ i us H2 H3, SB [D] H2 H3 -> R i us H2 -> R i us H3)
  (turn : ∀ (Pv : Hp -> Prop) i x H2 H' us, i < n -> SB ps H H2 -> Y i H2 x H' -> R i us H2 -> us.length <= i -> (∀ y H5, SB ps H2 H5 -> R (i + 1) (us ++ [y]) H5 -> ∃ acc, H5 D = some (.lst acc) /\ acc.length < sizeLine /\ Pv (upd H5 D (.lst (acc ++ [y])))) ->
   (∀ H4, SB ps H2 H4 -> R (i + 1) us H4 -> Pv H4) -> g x (wipe σ vs) H' fun σ2 H3 => wipe σ2 vs = wipe σ vs /\ tt σ2 H3 fun b H4 =>
    if b = true then te σ2 H4 fun y H5 => ∃ acc, H5 D = some (.lst acc) /\ acc.length < sizeLine /\ Pv (upd H5 D (.lst (acc ++ [y]))) else Pv H4)
  (done : ∀ us H2, SB ps H H2 -> H2 D = some (.lst us) -> R n us H2 -> us.length <= n -> Qd H2) :
  ∃ W : Nat -> Nat -> Hp -> Prop, (∃ m, W 0 m (upd H D (.lst []))) /\ ∀ i m H, W i m H ->
   (J.stop i H /\ Qd H) \/ (J.go i H /\ ∃ Nx : Hp -> Prop, (∀ H', Nx H' -> ∃ m', m' < m /\ W (i + 1) m' H') /\ ∀ x H', J.yld i H x H' -> g x (wipe σ vs) H' fun σ2 H2 => wipe σ2 vs = wipe σ vs /\ tt σ2 H2 fun b H3 =>
    if b = true then te σ2 H3 fun y H4 => ∃ acc, H4 D = some (.lst acc) /\ acc.length < sizeLine /\ Nx (upd H4 D (.lst (acc ++ [y]))) else Nx H3) := by
 have nD : D ∉ ps := fun z => hps D z hD
 have up : ∀ {H1 H2 : Hp}, SB ps H1 H2 -> SB (D :: ps) H1 H2 := fun e => e.mono fun b hb => mcm _ hb
 have up1 : ∀ {H1 H2 : Hp}, SB [D] H1 H2 -> SB (D :: ps) H1 H2 := fun e => e.mono fun b hb => by rw [List.mem_singleton.mp hb]; exact mcs ..
 refine lc_it w (fun i H2 => SB (D :: ps) H H2 /\ ∃ us, H2 D = some (.lst us) /\ R i us H2 /\ us.length <= i) ⟨SB.new hD _, [], upd_same, st _ _ _ _ (SB.new hD _) h0, Nat.le_refl _⟩ (fun i H2 _ h => hG H2 (h.1.drop hD)) (fun i x H2 H' hi h y => ?_) (fun H2 h => ?_)
 ·obtain ⟨s2, us, hD2, hR, hl⟩ := h
  refine turn _ i x H2 H' us hi (s2.drop hD) y hR hl (fun y H5 s5 r5 => ?_) (fun H4 s4 r4 => ⟨s2.trans (up s4), us, s4.keep _ _ hD2 nD, r4, by omega⟩)
  have hD5 := s5.keep _ _ hD2 nD
  refine ⟨us, hD5, by omega, (s2.trans (up s5)).trans (SB.set hD5 (by simp) _), _, upd_same, st _ _ _ _ (SB.set hD5 (by simp) _) r5, ?_⟩
  rw [List.length_append, List.length_singleton]; omega
 ·obtain ⟨s2, us, hD2, hR, hl⟩ := h
  exact done us H2 (s2.drop hD) hD2 hR hl
end
abbrev rJoinS (K : PySem.W.Frag) : V -> List V -> Hp -> VK -> Prop := fun x xs H Q => ∃ a p, ∃ ys : List Str, x = .str a /\ xs = [.ref p] /\ (SqL K H p (ys.map V.str) \/ SqT K H p (ys.map V.str)) /\ (ys.map (·.length)).sum + ys.length * a.length <= 16777216 /\ Q (.str (Txt.join a ys)) H
theorem PuW.some {H : Hp} {p : Addr} (h : PuW H p) : ∀ q ∈ [p], H q ≠ none := fun q hq z => by
 obtain ⟨x, y, h1, _⟩ := h
 rw [List.mem_singleton.mp hq, h1] at z
 cases z
theorem join_w {K : PySem.W.Frag} {H : Hp} {p : Addr} {Q : VK} {σ : L2.St} {jP jL jV k : Nat} {wi : TI} (hk : k <= 1000) (h1 : ∀ x, ((wipe σ [jV]).set jV (some x))[jP]? = some (some (.ref p))) (h2 : ∀ x, ((wipe σ [jV]).set jV (some x))[jL]? = some (some (.str abc)))
  (h3 : ∀ x, wipe ((wipe σ [jV]).set jV (some x)) [jV] = wipe σ [jV]) (hwi : ∀ R : It -> Hp -> Prop, R (Itr 0 k) H -> wi σ H R) (hp : PuW H p) (q : ∀ z H', SB [p] H H' -> PuW H' p -> Ltr z k -> Q (.str z) H') :
  tM1 (rJoinS K) (tC (.str (Str.ofString ""))) (tLc wi (gName jV) tYes (tOp rIxS (tVar jL) (tCall spTakeW [] E0 (tCons (tVar jP) (tCons (tC (.int 26)) tNil)))) [jV]) σ H Q := by
 refine ⟨⟨_, rfl⟩, hwi _ fun D hD => ?_⟩
 have pD : p ≠ D := hp.ne hD
 have szl := sizeLine_eq
 refine lc_seqP walk_range [p] hD hp.some (by omega) (fun i us H2 => PuW H2 p /\ ∃ cs : List Nat, us = cs.map (fun c => V.str ⟨#[c]⟩) /\ cs.length = i /\ ∀ c ∈ cs, 97 <= c /\ c <= 122) ⟨hp, [], rfl, rfl, by simp⟩ (fun _ _ => trivial) (fun i us H2 H3 e ⟨a, b⟩ => ⟨a.keep e (by simpa using pD), b⟩) (fun Pv i x H2 H' us hi s2 y hR hl fin _ => ?_) (fun us H2 s2 hD2 hR hl => ?_)
 ·obtain ⟨rfl, rfl⟩ := y
  obtain ⟨hp2, cs, rfl, cl, co⟩ := hR
  refine ⟨h3 _, _, h2 _, ?_⟩
  refine take_w (h1 _) hp2 (by decide) (by decide) fun r H3 r0 r26 s3 hp3 => ?_
  obtain ⟨n, rfl⟩ : ∃ n : Nat, r = (n : Int) := ⟨r.toNat, by omega⟩
  obtain ⟨c, hc, hco⟩ := abc_at n (by omega)
  refine ⟨_, _, c, rfl, rfl, abc_len, atI_natN hc, fin _ _ s3 ⟨hp3, cs ++ [c], by rw [List.map_append]; rfl, by simp [cl], fun d hd => ?_⟩⟩
  rcases List.mem_append.mp hd with hd | hd
  ·exact co d hd
  ·rw [List.mem_singleton.mp hd]; exact hco
 ·obtain ⟨hp2, cs, rfl, cl, co⟩ := hR
  have e1 : (cs.map fun c => V.str ⟨#[c]⟩) = (cs.map fun c => (⟨#[c]⟩ : Str)).map V.str := by rw [List.map_map]; rfl
  rw [e1] at hD2
  refine ⟨_, D, cs.map fun c => ⟨#[c]⟩, rfl, rfl, .inl (SqL.of hD2), ?_, q _ _ s2 hp2 (by have := join_ltrs cs co; rw [cl] at this; exact this)⟩
  have : ∀ cs : List Nat, ((cs.map fun c => (⟨#[c]⟩ : Str)).map (·.length)).sum = cs.length := by
   intro cs
   induction cs with
   | nil => rfl
   | cons c r ih => rw [List.map_cons, List.map_cons, List.sum_cons, ih]; show 1 + r.length = r.length + 1; omega
  rw [this, List.length_map, cl]
  have : (Str.ofString "").length = 0 := by decide +kernel
  rw [this]; omega
def spWords (K : PySem.W.Frag) : Sp := fun vs H Q _ => ∃ (p : Addr) (m : Nat), vs = [.ref p, .int (m : Int)] /\ PuW H p /\ 1 <= m /\ m <= 8 /\ ∀ (n : Addr) (ks : List Str) (H' : Hp), SB [p] H H' -> PuW H' p -> H n = none -> H' n = some (.lst (ks.map V.str)) -> ks.length = m -> (∀ k ∈ ks, NameOk k) -> ks.Nodup -> Q (.ref n) H'
theorem abc_code : ∀ r : Nat, r < 26 -> abc.cps.toList[r]? = some (97 + r) := by
 have : ∀ r : Fin 26, abc.cps.toList[r.val]? = some (97 + r.val) := by decide +kernel
 intro r hr
 exact this ⟨r, hr⟩
theorem Ltr.mid {a b : Str} {n c : Nat} (ha : Ltr a n) : (a ++ ⟨#[c]⟩ ++ b).cps.toList[n]? = some c := by
 have e : (a ++ ⟨#[c]⟩ ++ b).cps.toList = a.cps.toList ++ (c :: b.cps.toList) := by show (a.cps ++ #[c] ++ b.cps).toList = _; simp
 rw [e, List.getElem?_append_right (by rw [ha.1]; exact Nat.le_refl _), ha.1, Nat.sub_self]
 rfl
theorem nodup_range {α : Type} {F : Nat -> α} {m : Nat} (h : ∀ i j, i < m -> j < m -> i ≠ j -> F i ≠ F j) : ((List.range m).map F).Nodup := by
 refine List.pairwise_map.mpr (List.Pairwise.imp_of_mem (fun {i j} hi hj hn => h i j (List.mem_range.mp hi) (List.mem_range.mp hj) hn) List.nodup_range)
section
variable {D : Ends} {σ : L2.St} {H : Hp} {t u : TS} {te : TE} {g : TG} {c : TT}
theorem nextI {f : L2.St -> Hp -> Prop} {r : VK} {b c' : L2.St -> Hp -> Prop} (h : f σ H) : tNext ⟨f, r, b, c'⟩ σ H := h
theorem seqI (h : t { D with nx := u D } σ H) : tSeq t u D σ H := h
theorem asgI (h : te σ H fun x H1 => g x σ H1 D.nx) : tAsg te g D σ H := h
theorem ifI (h : c σ H fun b H1 => if b = true then t D σ H1 else u D σ H1) : tIfS c t u D σ H := h
end
theorem srt_ok {C : Int} {bs : List (Tr × Int)} (nd : (bs.map (·.1)).Nodup) (h : ∀ p ∈ bs, NameOk p.1.1 /\ p.1.2.Ok C /\ 1 <= p.2 /\ p.2 < C) : (Gr.ofPs (srtE Gr.pEnc bs)).Ok C := by
 rw [Gr.ok_ps]
 refine ⟨fun p hp => h p ((srtE_perm bs).mem_iff.mp hp), ?_⟩
 have h1 : (srtE Gr.pEnc bs).Pairwise (fun a b => dataLt (Gr.tEnc b.1) (Gr.tEnc a.1) = false) := srt_keys bs
 have h2 : ((srtE Gr.pEnc bs).map (·.1)).Nodup := (((srtE_perm bs).map _).nodup_iff).mpr nd
 have h3 : (srtE Gr.pEnc bs).Pairwise (fun a b => a.1 ≠ b.1) := List.pairwise_map.mp h2
 refine (List.pairwise_and_iff.mpr ⟨h1, h3⟩).imp fun {a b} ⟨x, y⟩ => ol_tri (enc := Gr.tEnc) (fun z => y z.symm) x
theorem sum_from0 : ∀ {ns : List Int}, (∀ x ∈ ns, 0 <= x) -> 0 <= ns.sum
 | [], _ => by simp
 | x :: r, h => by
  have h1 := h x (mcs ..)
  have h2 := sum_from0 fun y hy => h y (mcm _ hy)
  rw [List.sum_cons]; omega
theorem tot_filter (c : Tr × Int -> Bool) : ∀ bs : List (Tr × Int), Gr.tot (bs.filter c) <= Gr.tot bs
 | [] => Nat.le_refl _
 | p :: r => by
  have := tot_filter c r
  rw [List.filter_cons]
  split
  ·simp only [Gr.tot]; omega
  ·simp only [Gr.tot]; omega
theorem names_shaped {zs : List Str} (h : ∀ z ∈ zs, NameOk z) : SeqAt.shaped (.list (zs.map .str)) = true := by
 have h1 : PyData.canLayAll0 (zs.map .str) = true := by
  induction zs with
  | nil => simp [PyData.canLayAll0]
  | cons z r ih =>
   rw [List.map_cons, PyData.canLayAll0, ih fun y hy => h y (mcm _ hy)]
   simp [PyData.canLay0, Gr.strOk_name (h z (mcs ..))]
 have h2 : PyData.depthAll (zs.map .str) = 0 := by
  clear h1 h
  induction zs with
  | nil => simp [PyData.depthAll]
  | cons z r ih => rw [List.map_cons, PyData.depthAll, ih]; simp [PyData.depth]
 unfold SeqAt.shaped
 rw [PyData.canLay0, h1, Bool.true_and]
 exact decide_eq_true (by simp only [PyData.depth, h2]; omega)
theorem Dp_strs {K : PySem.W.Frag} {H : Hp} : ∀ zs : List Str, DpAll K H (zs.map V.str) (zs.map .str)
 | [] => .nil
 | z :: r => .cons (.str z) (Dp_strs r)
theorem eqv_nil (zs : List Str) : PyData.eqv (.list (zs.map .str)) (.list []) = decide (zs = []) := by
 cases zs with
 | nil => decide +kernel
 | cons z r => simp [PyData.eqv, PyData.eqvAll]
theorem erase_map {α β : Type} (f : α -> β) : ∀ (l : List α) (i : Nat), (l.map f).eraseIdx i = (l.eraseIdx i).map f
 | [], _ => rfl
 | _ :: _, 0 => rfl
 | x :: r, i + 1 => by rw [List.map_cons, List.eraseIdx_cons_succ, List.eraseIdx_cons_succ, List.map_cons, erase_map f r i]
theorem idx_perm {α : Type} : ∀ {l : List α} {u : Nat} {x : α}, l[u]? = some x -> (x :: l.eraseIdx u).Perm l
 | [], _, _, h => by simp at h
 | y :: r, 0, x, h => by
  have h : y = x := by simpa using h
  subst h; exact List.Perm.refl _
 | y :: r, u + 1, x, h => by
  have h : r[u]? = some x := by simpa using h
  rw [List.eraseIdx_cons_succ]
  exact (List.Perm.swap y x _).trans (List.Perm.cons y (idx_perm h))
section
variable {J : It} {n : Nat} {G : Hp -> Prop} {Y : Nat -> Hp -> V -> Hp -> Prop}
theorem lc_seqQ (w : Walk J n G Y) (ps : List Addr) {g : TG} {tt : TT} {te : TE} {vs : List Nat} {σ : L2.St} {H : Hp} {D : Addr} {Qd : Hp -> Prop} (hD : H D = none) (hps : ∀ q ∈ ps, H q ≠ none) (hn : n < sizeLine) (R : Nat -> List V -> Hp -> Prop) (h0 : R 0 [] H) (hG : ∀ H2, SB ps H H2 -> G H2)
  (st : ∀ i us H2 H3, SB [D] H2 H3 -> R i us H2 -> R i us H3)
  (turn : ∀ (Pv : Hp -> Prop) i x H2 H' us, i < n -> SB ps H H2 -> Y i H2 x H' -> R i us H2 -> us.length <= i -> H2 D = some (.lst us) -> (∀ y H5, SB ps H2 H5 -> R (i + 1) (us ++ [y]) H5 -> ∃ acc, H5 D = some (.lst acc) /\ acc.length < sizeLine /\ Pv (upd H5 D (.lst (acc ++ [y])))) ->
   (∀ H4, SB ps H2 H4 -> R (i + 1) us H4 -> Pv H4) -> g x (wipe σ vs) H' fun σ2 H3 => wipe σ2 vs = wipe σ vs /\ tt σ2 H3 fun b H4 =>
    if b = true then te σ2 H4 fun y H5 => ∃ acc, H5 D = some (.lst acc) /\ acc.length < sizeLine /\ Pv (upd H5 D (.lst (acc ++ [y]))) else Pv H4)
  (done : ∀ us H2, SB ps H H2 -> H2 D = some (.lst us) -> R n us H2 -> us.length <= n -> Qd H2) :
  ∃ W : Nat -> Nat -> Hp -> Prop, (∃ m, W 0 m (upd H D (.lst []))) /\ ∀ i m H, W i m H ->
   (J.stop i H /\ Qd H) \/ (J.go i H /\ ∃ Nx : Hp -> Prop, (∀ H', Nx H' -> ∃ m', m' < m /\ W (i + 1) m' H') /\ ∀ x H', J.yld i H x H' -> g x (wipe σ vs) H' fun σ2 H2 => wipe σ2 vs = wipe σ vs /\ tt σ2 H2 fun b H3 =>
    if b = true then te σ2 H3 fun y H4 => ∃ acc, H4 D = some (.lst acc) /\ acc.length < sizeLine /\ Nx (upd H4 D (.lst (acc ++ [y]))) else Nx H3) := by
 have nD : D ∉ ps := fun z => hps D z hD
 have up : ∀ {H1 H2 : Hp}, SB ps H1 H2 -> SB (D :: ps) H1 H2 := fun e => e.mono fun b hb => mcm _ hb
 have up1 : ∀ {H1 H2 : Hp}, SB [D] H1 H2 -> SB (D :: ps) H1 H2 := fun e => e.mono fun b hb => by rw [List.mem_singleton.mp hb]; exact mcs ..
 refine lc_it w (fun i H2 => SB (D :: ps) H H2 /\ ∃ us, H2 D = some (.lst us) /\ R i us H2 /\ us.length <= i) ⟨SB.new hD _, [], upd_same, st _ _ _ _ (SB.new hD _) h0, Nat.le_refl _⟩ (fun i H2 _ h => hG H2 (h.1.drop hD)) (fun i x H2 H' hi h y => ?_) (fun H2 h => ?_)
 ·obtain ⟨s2, us, hD2, hR, hl⟩ := h
  refine turn _ i x H2 H' us hi (s2.drop hD) y hR hl hD2 (fun y H5 s5 r5 => ?_) (fun H4 s4 r4 => ⟨s2.trans (up s4), us, s4.keep _ _ hD2 nD, r4, by omega⟩)
  have hD5 := s5.keep _ _ hD2 nD
  refine ⟨us, hD5, by omega, (s2.trans (up s5)).trans (SB.set hD5 (by simp) _), _, upd_same, st _ _ _ _ (SB.set hD5 (by simp) _) r5, ?_⟩
  rw [List.length_append, List.length_singleton]; omega
 ·obtain ⟨s2, us, hD2, hR, hl⟩ := h
  exact done us H2 (s2.drop hD) hD2 hR hl
end
section
variable {K : PySem.W.Frag} {H H' : Hp}
theorem Bears_dp {α : Type} {enc : α -> PyData} : ∀ {vs : List V} {xs : List α}, Bears K H enc vs xs -> DpAll K H vs (xs.map enc)
 | _, _, .nil => .nil
 | _, _, .cons h t => .cons h (Bears_dp t)
end
theorem plS_enc {C : Int} {g : Gr} (h : g.Ok C) : plS g.enc = true := by show plS (.tuple g.encs) = true; rw [plS]; exact Gr.plSs_encs h
mutual
theorem alike_pl : ∀ d : PyData, plS d = true -> alike d d = true
 | .int _, _ => by simp [alike]
 | .str _, _ => by simp [alike]
 | .tuple ds, h => by rw [alike]; exact alikes_pl ds (by rw [plS] at h; exact h)
 | .none, h => by simp [plS] at h
 | .bool _, h => by simp [plS] at h
 | .list _, h => by simp [plS] at h
 | .dict _, h => by simp [plS] at h
theorem alikes_pl : ∀ ds : List PyData, plSs ds = true -> alikeAll ds ds = true
 | [], _ => by simp [alikeAll]
 | d :: ds, h => by
  rw [plSs, Bool.and_eq_true] at h
  rw [alikeAll, alike_pl d h.1, alikes_pl ds h.2]; rfl
end
open TL (tl)
theorem seq_via {t rest : TS} {D : Ends} {σ : L2.St} {H : Hp} (R : L2.St -> Hp -> Prop) (h : ∀ nx : L2.St -> Hp -> Prop, (∀ σ' H', R σ' H' -> nx σ' H') -> t { D with nx := nx } σ H) (k : ∀ σ' H', R σ' H' -> rest D σ' H') : tSeq t rest D σ H := h (rest D) k
theorem nameI {i : Nat} {v : V} {σ : L2.St} {H : Hp} {f : L2.St -> Hp -> Prop} {r : VK} {b c : L2.St -> Hp -> Prop} (h : f (σ.set i (some v)) H) : gName i v σ H (Ends.mk f r b c).nx := h
abbrev rListOf (K : PySem.W.Frag) : List V -> Hp -> VK -> Prop := fun xs H Q => ∃ p ys, xs = [.ref p] /\ (SqL K H p ys \/ SqT K H p ys) /\ ∀ l, H l = none -> Q (.ref l) (upd H l (.lst ys))
theorem Bk.Ok.two {b : Bk} (ok : b.Ok) : ∀ k ∈ b, k.rs.length <= 4 /\ ∀ r ∈ k.rs, RuOk r := fun k hk => ⟨(ok.kd k hk).2.1, fun r hr => ((ok.kd k hk).2.2 r hr).1⟩
theorem Bk.Ok.three {b : Bk} (ok : b.Ok) : ∀ k ∈ b, NameOk k.n /\ ∀ r ∈ k.rs, RuOk r := fun k hk => ⟨(ok.kd k hk).1, (ok.two k hk).2⟩
theorem make_core {K : PySem.W.Frag} {C B : Addr} {b : Bk} {H : Hp} {l : Addr} {xs : List V} {bad : List Addr} {Q : VK} {E : XK} (hl : H l = some (.lst xs)) (ha : KdAll K H bad xs b) (ok : b.Ok) (k : ∀ y H', SB [] H H' -> H y = none -> BkA K C H' (.ref y) b -> Q (.ref y) H') :
  ∀ y dx, H y = none -> H dx = none -> dx ≠ y -> spBInit K C B (.ref y :: [.ref l]) (upd (upd H dx (.own y)) y (.ins C dx [])) (fun v H2 => v = .non /\ Q (.ref y) H2) E := by
 intro y dx hy hdx hne
 have b8 := ok.len
 have hy' : upd H dx (.own y) y = none := by rw [upd_ne (fun z => hne z.symm)]; exact hy
 have t4 := (SB.new (ps := []) hdx (.own y)).trans (SB.new hy' (.ins C dx []))
 have hdx4 : upd (upd H dx (.own y)) y (.ins C dx []) dx = some (.own y) := by rw [upd_ne hne, upd_same]
 have hx4 : upd (upd H dx (.own y)) y (.ins C dx []) y = some (.ins C dx []) := upd_same
 refine ⟨y, dx, l, xs, b.map Kd.kt, rfl, hx4, hdx4, t4.keep _ _ hl nmn, (ha.sb t4 NoLst.nil).kt ok.three, fun t ht => ?_, by rw [List.length_map]; omega, fun b' e ok' H5 s5 hbk => ?_, fun z => absurd ⟨b, rfl, ok⟩ z⟩
 ·obtain ⟨k, hk, rfl⟩ := List.mem_map.mp ht
  exact KTFit_of (ok.two k hk)
 ·have e := kts_inj e
  subst e
  exact ⟨rfl, k y H5 (((t4.nil (ps := [y])).trans s5).drop hy) hy hbk⟩
theorem log_lt {x : Int} {a b : Nat} (h : x.natAbs < 2 ^ a) (hb : a <= b) (h0 : 0 < a) : x.natAbs.log2 < b := by
 by_cases e : x.natAbs = 0
 ·rw [e]; simp [Nat.log2_zero]; omega
 ·exact Nat.lt_of_lt_of_le ((Nat.log2_lt e).mpr h) hb
open PySem.Froz (SD sObj TxOk addTx tailTx)
structure TxS (P : Program) (w : World) (D : SD) (l : List Str) : Prop where
 ok : TxOk P w D l
 nd : l.Nodup
 ris : Ris D.2.2.place.toList
 led : w.params.followText "set-order" = true \/ D.2.2.led = true
def insS (k : Str) (l : List Str) : List Str := if k ∈ l then l else k :: l
section
variable {P : Program} {w : World} {A : Around} {E : Value -> Shared -> Prop} {s : Shared} {D : SD} {l : List Str} {k : Str} {u : Tok} {a : Addr} {T : String}
theorem tail_walk {es : Array (Int × Value)} {ep : Nat} {t : SetTable} {b : Bool} (r : Ris t.place.toList) (d : w.params.followText "set-order" = true \/ t.led = true) :
  Ris (tailTx ep es t b).2.2.place.toList /\ (w.params.followText "set-order" = true \/ (tailTx ep es t b).2.2.led = true) := by
 unfold tailTx
 split
 ·exact ⟨relayAll_ris .., d.imp id fun z => by rw [relayAll_led]; exact z⟩
 ·exact ⟨r, d⟩
theorem TxS.add (F : TxS P w D l) (hk : k ∉ l) : TxS P w (addTx (hashStr w k) (.str k u) D) (k :: l) := by
 obtain ⟨es, ep, t⟩ := D
 have r1 := layNew_ris t es (hashStr w k) (.str k u) F.ris
 have d1 := F.led.imp id fun z => (layNew_led t es (hashStr w k) (.str k u)).trans z
 have key : ∀ t' : SetTable, t'.place = (layNew t es (hashStr w k) (.str k u)).2.1.place -> t'.led = (layNew t es (hashStr w k) (.str k u)).2.1.led -> ∀ es' b, Ris (tailTx ep es' t' b).2.2.place.toList /\ (w.params.followText "set-order" = true \/ (tailTx ep es' t' b).2.2.led = true) :=
  fun t' e1 e2 es' b => tail_walk (by rw [e1]; exact r1) (by rw [e2]; exact d1)
 have z := key (if (layNew t es (hashStr w k) (.str k u)).2.1.plain = true then { (layNew t es (hashStr w k) (.str k u)).2.1 with plain := false } else (layNew t es (hashStr w k) (.str k u)).2.1) (by split <;> rfl) (by split <;> rfl) (layNew t es (hashStr w k) (.str k u)).1 (layNew t es (hashStr w k) (.str k u)).2.2.1
 exact ⟨PySem.Froz.add_ok u F.ok, List.nodup_cons.mpr ⟨hk, F.nd⟩, z.1, z.2⟩
theorem add_there {Q : Bool -> Shared -> Prop} (ho : s.heap.get? a = some (sObj T D)) (F : TxOk P w D l) (hk : k ∈ l) (hb : l.length < scanBound) (h : Q false s) : wpAny (model P w) A (setAddHashed a (.str k u) (hashStr w k)) Q E s := by
 obtain ⟨es, ep, t⟩ := D
 have hd : (sObj T (es, ep, t)).data = .set es ep t := rfl
 have hel : ElemsOf (strKind P w) es.toList := F.el
 have hsz : es.size = l.length := F.sz
 have is0 : (strKind P w).is k (.str k u) = true := PySem.Froz.is_str k u
 obtain ⟨j, hj⟩ : ∃ j, List.findIdx? (fun e => (strKind P w).is k e.2) es.toList = some j := by
  cases e : List.findIdx? (fun e => (strKind P w).is k e.2) es.toList with
  | some j => exact ⟨j, rfl⟩
  | none =>
   obtain ⟨x, hx, hi⟩ := (F.mem k).mp hk
   have := List.findIdx?_eq_none_iff.mp e x hx
   rw [hi] at this
   cases this
 unfold setAddHashed setAddHashedIn
 refine wpAny_holding (wpAny_bind (wpAny_setState_of ho hd F.fit ?_))
 dsimp only
 rw [byScan_of rfl (by rw [hsz]; exact hb) hel]
 simp only [↓reduceIte]
 unfold setAddByScan
 refine wpAny_bind (wpAny_bind (wpAny_rule (wpAny_bind (wpAny_setScan_of (knd := strKind P w) (k := k) is0 ho hd F.fit hel ?_))))
 rw [hj]
 exact wpAny_pure (wpAny_pure h)
theorem add_any {Q : Bool -> Shared -> Prop} (ho : s.heap.get? a = some (sObj T D)) (F : TxS P w D l) (hb : l.length + 1 < scanBound)
  (h : ∀ (b : Bool) (h' : Heap) (D' : SD), Heap.SameBut a s.heap h' -> h'.get? a = some (sObj T D') -> TxS P w D' (insS k l) -> Q b { s with heap := h' }) : wpAny (model P w) A (setAddHashed a (.str k u) (hashStr w k)) Q E s := by
 by_cases hk : k ∈ l
 ·refine add_there ho F.ok hk (by omega) (h false s.heap D (Heap.SameBut.refl a s.heap) ho ?_)
  unfold insS
  rw [if_pos hk]
  exact F
 ·refine PySem.Froz.add_x ho F.ok hk hb (h true _ _ (Heap.SameBut.update ..) (PySem.Froz.get_upd _ ho rfl) ?_)
  unfold insS
  rw [if_neg hk]
  exact F.add hk
end
section
variable {P : Program} {w : World} {A : Around} {E : Value -> Shared -> Prop} {s : Shared} {D : SD} {l : List Str} {k : Str} {u : Tok} {a : Addr}
theorem call_add {Q : Value -> Shared -> Prop} (ho : s.heap.get? a = some (sObj "set" D)) (F : TxS P w D l) (hb : l.length + 1 < scanBound)
  (h : ∀ (h' : Heap) (D' : SD), Heap.SameBut a s.heap h' -> h'.get? a = some (sObj "set" D') -> TxS P w D' (insS k l) -> Q .none { s with heap := h', toks := s.toks + 1 }) : wpAny (model P w) A (call (.builtin "set.add") [.ref a, .str k u]) Q E s := by
 refine wpAny_call_entry PySem.F.slot_set_add ⟨_, ho, rfl⟩ PySem.F.entry_set_add ?_ (PySem.F.args_set_add_2 _ _)
 unfold Builtin.«set.add» Builtin.Frozenset.oneOther
 simp only [List.isEmpty_nil, bind_assoc]
 unfold Builtin.Frozenset.addrOf setAdd
 refine wpAny_bind (wpAny_pure ?_)
 try dsimp only
 refine wpAny_bind (wpAny_pure ?_)
 try dsimp only
 refine wpAny_bind (wpAny_holding (wpAny_bind ((strKind P w).pyHash (k := k) (PySem.Froz.is_str k u) ?_)))
 refine add_any (s := { s with toks := s.toks + 1 }) ho F hb fun b h' D' sb o' F' => ?_
 refine (?_ : wpAny (model P w) _ (ret Value.none) _ E _)
 exact wpAny_pure ⟨_, rfl, h h' D' sb o' F'⟩
end
def SetSO (P : Program) (w : World) (a : Addr) (l : List Str) : HO := .ext fun h => ∃ D : SD, h.get? a = some (sObj "set" D) /\ TxS P w D l
theorem setSO_new {P : Program} {w : World} {H : Hp} {h : Heap} {a : Addr} {l : List Str} {D : SD} (ho : h.get? a = some (sObj "set" D)) (F : TxS P w D l) : ObjOk P w H h a (SetSO P w a l) :=
 ⟨⟨D, ho, F⟩, ⟨_, ho⟩, fun h1 h2 ⟨D', q, F'⟩ k => ⟨D', k _ q, F'⟩⟩
section
variable {X : Cx} {pins : List (Addr × Obj)} {σ : L2.St} {H : Hp} {s : Shared} {l : List Str}
theorem setSO_get {a : Addr} (I : Inv X pins σ H s) (ha : H a = some (SetSO X.prog X.w a l)) : ∃ D : SD, s.heap.get? a = some (sObj "set" D) /\ TxS X.prog X.w D l := (I.hok a _ ha).1
theorem addS_ok {E : Value -> Shared -> Prop} {a : Addr} {k : Str} {u : Tok} {Q : Value -> Shared -> Prop} (I : Inv X pins σ H s) (ha : H a = some (SetSO X.prog X.w a l)) (room : l.length + 1 < scanBound)
  (h : ∀ s', Inv X pins σ (upd H a (SetSO X.prog X.w a (insS k l))) s' -> Q .none s') : wpAny (model X.prog X.w) X.A (call (.builtin "set.add") [.ref a, .str k u]) Q E s := by
 obtain ⟨D, ho, F⟩ := setSO_get I ha
 refine call_add ho F room fun h' D' sb o' F' => ?_
 exact h _ (I.write (e := a) (t' := s.toks + 1) (by rw [ha]; trivial) (.inl rfl) (fun b o hb hu => (sb.2 b hb).trans hu) ⟨_, o'⟩ (setSO_new o' F'))
end
theorem fresh_txs (P : Program) (w : World) : TxS P w (#[], 0, .fresh 0 0 (!w.params.followText "set-order")) [] := by
 refine ⟨PySem.Froz.TxOk.nil rfl, List.nodup_nil, List.Pairwise.nil, ?_⟩
 show _ \/ (!w.params.followText "set-order") = true
 cases w.params.followText "set-order"
 ·exact .inr rfl
 ·exact .inl rfl
theorem is_shape {P : Program} {w : World} {k : Str} {v : Value} (h : (strKind P w).is k v = true) : ∃ tk, v = Value.str k tk := by
 have h : Value.isStrOf k v = true := h
 cases v <;> simp [Value.isStrOf] at h
 exact ⟨_, by rw [h]⟩
theorem strs_of : ∀ (l : List Value), (∀ v ∈ l, ∃ k tk, v = Value.str k tk) -> ∃ ss : List Str, StrsAre l ss /\ ∀ k, k ∈ ss ↔ ∃ v ∈ l, ∃ tk, v = Value.str k tk
 | [], _ => ⟨[], .nil, fun k => by simp⟩
 | v :: r, h => by
  obtain ⟨k, tk, rfl⟩ := h v (mcs ..)
  obtain ⟨ss, h1, h2⟩ := strs_of r fun x hx => h x (mcm _ hx)
  refine ⟨k :: ss, .cons k tk h1, fun j => ?_⟩
  rw [List.mem_cons, h2 j]
  refine ⟨fun z => ?_, fun ⟨x, hx, t', e⟩ => ?_⟩
  ·rcases z with rfl | ⟨x, hx, e⟩
   ·exact ⟨_, mcs .., tk, rfl⟩
   ·exact ⟨x, mcm _ hx, e⟩
  ·rcases List.mem_cons.mp hx with q | q
   ·rw [q] at e; cases e; exact .inl rfl
   ·exact .inr ⟨x, q, t', e⟩
theorem perm_of {α : Type} : ∀ {a b : List α}, b.Nodup -> a.length = b.length -> (∀ k, k ∈ b -> k ∈ a) -> a.Perm b
 | a, [], _, hl, _ => by
  have : a = [] := List.eq_nil_of_length_eq_zero hl
  rw [this]
 | a, x :: b, nd, hl, hm => by
  obtain ⟨p, q, e⟩ := List.append_of_mem (hm x (mcs ..))
  subst e
  obtain ⟨n1, n2⟩ := List.nodup_cons.mp nd
  have ih := perm_of (a := p ++ q) (b := b) n2 (by simp at hl ⊢; omega) fun k hk => by
   have hx : k ≠ x := fun z => n1 (z ▸ hk)
   have := hm k (mcm _ hk)
   simp only [List.mem_append, List.mem_cons] at this ⊢
   rcases this with z | z | z
   ·exact .inl z
   ·exact absurd z hx
   ·exact .inr z
  exact List.perm_middle.trans (ih.cons x)
section
variable {P : Program} {w : World} {A : Around} {E : Value -> Shared -> Prop} {s : Shared} {D : SD} {l : List Str} {a : Addr}
theorem sorted_txt {Q : Value -> Shared -> Prop} (hh : A.handled = none) (ho : s.heap.get? a = some (sObj "set" D)) (F : TxS P w D l) (h64 : l.length < 64)
  (h : ∀ (s' : Shared) (p : Addr) (out : Array Value) (c : Nat) (ss : List Str), (∀ b o, s.heap.get? b = some o -> s'.heap.get? b = some o) -> s'.gens = s.gens -> s'.os = s.os -> s.heap.objs.size <= p -> s'.heap.get? p = some (seqObj "list" out c) -> StrsAre out.toList ss -> ss.Perm l -> sortedS ss = true -> Q (.ref p) s') :
  wpAny (model P w) A (call (.builtin "sorted") [.ref a]) Q E s := by
 obtain ⟨es, ep, t⟩ := D
 have hsz : es.size = l.length := F.ok.sz
 have hsc : es.size < scanBound := by rw [hsz]; unfold scanBound; omega
 refine Calls.call_function_entry kind_sorted plain_sorted entry_sorted (args_sorted1 _) ?_
 unfold Builtin.«sorted»
 refine wpAny_bind (m := checkCount "sorted" 1 1 _) (wpAny_pure ?_)
 refine wpAny_bind (collect_set (A := A.in1) hh ⟨_, ho, rfl, rfl⟩ F.ok.fit hsc F.ris F.led fun s1 vs k1 z1 g1 o1 pm => ?_)
 have vl : vs.length = l.length := by rw [pm.length_eq, List.length_map, Array.length_toList, hsz]
 have shape : ∀ v ∈ vs, ∃ k tk, v = Value.str k tk := fun v hv => by
  obtain ⟨e, he, rfl⟩ := List.mem_map.mp (pm.mem_iff.mp hv)
  obtain ⟨⟨k, hk, _⟩, _⟩ := F.ok.el e he
  obtain ⟨tk, q⟩ := is_shape hk
  exact ⟨k, tk, q⟩
 obtain ⟨ss, hS, hmem⟩ := strs_of vs shape
 have hp : ss.Perm l := by
  refine perm_of F.nd (by rw [<- hS.length]; exact vl) fun k hk => ?_
  obtain ⟨e, he, hi⟩ := (F.ok.mem k).mp hk
  obtain ⟨tk, q⟩ := is_shape hi
  exact (hmem k).mpr ⟨e.2, pm.mem_iff.mpr (List.mem_map_of_mem he), tk, q⟩
 refine wpAny_bind (wpAny_newList ?_ (by rw [vl, sizeLine_eq]; omega))
 have at1 : (s1.heap.push (seqObj "list" vs.toArray 0)).get? s1.heap.objs.size = some (seqObj "list" vs.toArray 0) := Heap.get?_push_size _ rfl
 refine wpAny_bind (wpAny_holding (wpAny_call_entry slot_list_sort ⟨_, at1, rfl⟩ entry_list_sort (list_sort_treeK strKind_oneLt at1 hS.keysOf (fun v1 v2 r e => keyKind_strs (by rw [<- e]; exact hS)) (by rw [vl]; exact h64) fun st' p1 p2 => ⟨_, rfl, ?_⟩) (args_list_sort _)))
 obtain ⟨ss', q1, q2, q3⟩ := sorted_out_str hS p1 p2
 obtain ⟨c, hc⟩ := sortedHeap_at (vs := vs) (out := (arrOf st').map (·.2)) at1
 refine wpAny_pure ⟨_, rfl, h _ s1.heap.objs.size _ c ss' (fun b o e => ?_) g1 o1 z1 hc q1 (q2.trans hp) q3⟩
 have e1 := k1 b o e
 have lt := Heap.lt_size e1
 show (sortedHeap (s1.heap.push (seqObj "list" vs.toArray 0)) s1.heap.objs.size vs _).get? b = some o
 rw [sortedHeap_old (Nat.ne_of_lt lt) (by rw [size_push']; exact Nat.lt_succ_of_lt lt)]
 exact Heap.get?_push_of_some _ e1
end
section
variable {X : Cx}
def rSortedTx (P : Program) (w : World) : List V -> Hp -> VK -> Prop := fun vs H Q => ∃ (a : Addr) (l : List Str), vs = [.ref a] /\ H a = some (SetSO P w a l) /\ l.length < 64 /\ ∀ (ss : List Str) (p : Addr), ss.Perm l -> sortedS ss = true -> H p = none -> Q (.ref p) (upd H p (.lst (ss.map V.str)))
theorem cr_sortedTx (hc : X.calm = true) : CallR X (.builtin "sorted") (rSortedTx X.prog X.w) := by
 intro pins s σ H vs us Q I r h
 obtain ⟨a, l, rfl, ha, h64, q⟩ := h
 obtain ⟨D, ho, F⟩ := setSO_get I ha
 rw [Vals.ref1 r]
 refine sorted_txt (I.ok.hd hc) ho F h64 fun s' p out c ss kp eg eo hp at' hS pm srt => ?_
 have hn : H p = none := I.hok.fresh hp
 have hz : (ss.map V.str).length <= sizeLine := by rw [List.length_map, pm.length_eq, sizeLine_eq]; omega
 obtain ⟨h', g', d', tk', os'⟩ := s'
 have eo : os' = s.os := eo
 subst eo
 exact ⟨.ref p, upd H p (.lst (ss.map V.str)), I.call (ch := []) (Un.laid kp hp hn) (I.hok.laid kp hp ⟨hz, out.toList, c, vals_of_strs hS, at'⟩) (by rw [show g' = s.gens from eg]; exact I.bare) (fun _ z => nomatch z), rfl, q ss p pm srt hn⟩
end
section
variable {X : Cx}
def tScS (P : Program) (w : World) (wi : TI) (g : TG) (tt : TT) (te : TE) (vs : List Nat) : TE := fun σ H Q => wi σ H fun J H1 => ∀ D, H1 D = none -> ∃ W : Nat -> Nat -> Hp -> Prop, (∃ m, W 0 m (upd H1 D (SetSO P w D []))) /\ ∀ i m Hi, W i m Hi ->
 (J.stop i Hi /\ Q (.ref D) Hi) \/ (J.go i Hi /\ ∃ Nx : Hp -> Prop, (∀ H', Nx H' -> ∃ m', m' < m /\ W (i + 1) m' H') /\ ∀ x H', J.yld i Hi x H' -> g x (wipe σ vs) H' fun σ2 H2 => wipe σ2 vs = wipe σ vs /\ tt σ2 H2 fun b H3 =>
  if b = true then te σ2 H3 fun y H4 => ∃ (z : Str) (l : List Str), y = .str z /\ H4 D = some (SetSO P w D l) /\ l.length + 1 < scanBound /\ Nx (upd H4 D (SetSO P w D (insS z l))) else Nx H3)
theorem pe_scS {elt tg iter : Expr} {ifs : List Expr} {scope : Scope} {own : List (PySem.Str × Nat)} {pos : Pos} {wi : TI} {g : TG} {tt : TT} {te : TE} (hc : X.calm = true) (hN : X.N.Nodup) (hi : PI X tg iter wi) (ok : BlkOk X.N X.env.scope scope own)
  (hg : ∀ (s1 : Shared) (H1 : Hp) (C : Addr) (cl : List (PySem.Str × Addr)) (fp : List Addr), L2.PG (X.blk s1 H1 scope (compEnvC scope cl C X.env) fp) tg g) (ht : ∀ (s1 : Shared) (H1 : Hp) (C : Addr) (cl : List (PySem.Str × Addr)) (fp : List Addr), L2.PTs (X.blk s1 H1 scope (compEnvC scope cl C X.env) fp) ifs tt)
  (he : ∀ (s1 : Shared) (H1 : Hp) (C : Addr) (cl : List (PySem.Str × Addr)) (fp : List Addr), L2.PE (X.blk s1 H1 scope (compEnvC scope cl C X.env) fp) elt te) (hs : ∀ x, foldedSetIterable iter X.env x = pure x := by intro _; rfl) :
  PE X (.SetComp elt [⟨tg, iter, ifs, 0⟩] scope pos) (tScS X.prog X.w wi g tt te (own.map (·.2))) := by
 refine ⟨fun pins s σ H Q I h => ?_⟩
 rw [PpSet.eval_SetComp]
 have clo : ∀ y ∈ scope.names, y.2 = .free -> ∃ c, X.env.cells.lookup y.1 = some c := fun y hy e => (ok.free y hy e).elim (fun k => I.ok.has _ (.inl k)) fun k => I.ok.has _ (.inr k)
 refine wpAny_comprehension_free (use := none) rfl hs (closure_ok clo) ok.kind (fun y hy e => by rw [ok.uniq y hy, e]) (thn (hi.run pins s σ H _ I h) fun xv s1 hx => thn hx fun itv s2 got => ?_)
 obtain ⟨it, fp, tn, J, Ha, e0, Ia, Tn, sta, fpa, walk⟩ := got
 subst e0
 refine PpSet.newSet_ok (newEnv_comp ?_)
 -- the new set, at the heap's end
 generalize eD : s2.heap.objs.size = D
 have freeD : Ha D = none := Ia.hok.fresh (Nat.le_of_eq eD)
 obtain ⟨W, ⟨m0, w0⟩, turn⟩ := walk D freeD
 generalize eb : ({ s2 with heap := s2.heap.push { cls := .type "set", dict := none, data := .set #[] 0 (.fresh 0 0 (!X.w.params.followText "set-order")) } } : Shared) = sb
 have hpb : sb.heap = s2.heap.push { cls := .type "set", dict := none, data := .set #[] 0 (.fresh 0 0 (!X.w.params.followText "set-order")) } := by rw [<- eb]
 have Ib : Inv X pins σ (upd Ha D (SetSO X.prog X.w D [])) sb := by
  rw [<- eb]
  refine Ia.laid (t' := s2.toks) (fun b o e => Heap.get?_push_of_some _ e) (Nat.le_of_eq eD) ?_
  rw [<- eD]
  exact setSO_new (Heap.get?_push_size _ rfl) (fresh_txs X.prog X.w)
 have low : ∀ b ∈ fp, b < s2.heap.objs.size := fun b hb => let ⟨o, e, _⟩ := Tn.obj _ _ sta b hb; Heap.lt_size e
 have fpb : ∀ b ∈ fp, FpOk X pins (upd Ha D (SetSO X.prog X.w D [])) b /\ b < sb.heap.objs.size := fun b hb => by
  refine ⟨⟨?_, (fpa b hb).2⟩, by rw [hpb, Heap.size_push]; exact Nat.lt_succ_of_lt (low b hb)⟩
  rw [upd_ne (by rw [<- eD]; exact Nat.ne_of_lt (low b hb))]
  exact (fpa b hb).1
 have stb : tn 0 sb.heap := Tn.keep _ _ _ sta fun b _ o e => by rw [hpb]; exact Heap.get?_push_of_some _ e
 have Ic := block_start Ib ok hN fpb
 generalize eHb : upd Ha D (SetSO X.prog X.w D []) = Hb at Ib Ic w0 fpb
 have pg := hg sb Hb sb.heap.objs.size (cellsFrom (sb.heap.objs.size + 1) scope.names (cloFrom X.env.cells scope.names [])) fp
 have pt := ht sb Hb sb.heap.objs.size (cellsFrom (sb.heap.objs.size + 1) scope.names (cloFrom X.env.cells scope.names [])) fp
 have pe := he sb Hb sb.heap.objs.size (cellsFrom (sb.heap.objs.size + 1) scope.names (cloFrom X.env.cells scope.names [])) fp
 show codeAny (model X.prog X.w) X.A (.compStart (.SetComp elt [⟨tg, iter, ifs, 0⟩] scope pos) 0 (.ref it) (.ref D) (compEnvC scope (cellsFrom (sb.heap.objs.size + 1) scope.names (cloFrom X.env.cells scope.names [])) sb.heap.objs.size X.env)) (compPost (model X.prog X.w) X.A X.xe none (EP X pins σ Q) (.ref D) sb.heap.objs.size) { sb with heap := pushCells (sb.heap.push { cls := .type "dict", data := .dict #[] }) scope.names }
 have noneF : ∀ b ∈ fp, Hb b = none := fun b hb => (fpb b hb).1.1
 generalize ece : compEnvC scope (cellsFrom (sb.heap.objs.size + 1) scope.names (cloFrom X.env.cells scope.names [])) sb.heap.objs.size X.env = ce at Ic pg pt pe ⊢
 have ecl : ce.locals = sb.heap.objs.size := by subst ece; rfl
 generalize esc : ({ sb with heap := pushCells (sb.heap.push { cls := .type "dict", data := .dict #[] }) scope.names } : Shared) = sc at Ic ⊢
 have stc : tn 0 sc.heap := Tn.keep _ _ _ stb fun b _ o e => by rw [<- esc]; exact pushCells_keeps _ _ _ _ (Heap.get?_push_of_some _ e)
 -- the block's context
 let XB : Cx := X.blk sb Hb scope ce fp
 have still : ∀ {τ : L2.St} {G : Hp} {t : Shared}, Inv XB [] τ G t -> (∀ b ∈ fp, G b = none) -> ∀ b ∈ fp, FpOk XB [] G b := fun {τ G t} I' hn b hb =>
  ⟨hn b hb, (I'.ok.exf b hb).1, I'.ok.exfs b hb, .inl hb, fun x c e => (I'.ok.exf b hb).2 x c e, fun p hp => absurd (show p ∈ ([] : List (Addr × Obj)) ++ [] from hp) (by simp)⟩
 have loop : codeAny (model X.prog X.w) X.A (.compLoop (.SetComp elt [⟨tg, iter, ifs, 0⟩] scope pos) 0 (.ref it) (.ref D) ce) (compPost (model X.prog X.w) X.A X.xe none (EP X pins σ Q) (.ref D) sb.heap.objs.size) sc := by
  refine PpSet.compLoopS_any (fun n t => ∃ i G, Inv XB [] (wipe σ (own.map (·.2))) G t /\ tn i t.heap /\ (∀ b ∈ fp, G b = none) /\ W i n G) ?_ m0 ⟨0, Hb, Ic, stc, noneF, w0⟩
  rintro n t ⟨i, G, It, stt, nt, wt⟩
  rcases turn i n G wt with ⟨ends, qq⟩ | ⟨goes, Nx, hNx, step⟩
  ·refine thnF (Tn.done XB rfl rfl rfl hc i [] t _ G (fun _ _ => False) It (still It nt) stt ends) fun r t6 ⟨er, I6⟩ => ?_
   subst er
   have I7 : Inv X pins σ G t6 := Ib.call' (ch := fp) I6.os I6.base I6.hok I6.bare fun b hb => ⟨(fpb b hb).1.2.2.2.1, (fpb b hb).1.2.1, (fpb b hb).1.2.2.2.2.1, (fpb b hb).1.2.2.2.2.2⟩
   have nC : G sb.heap.objs.size = none := ecl ▸ (show G ce.locals = none from I6.free)
   obtain ⟨m, hn, _⟩ := I6.loc
   have hn : t6.heap.Ns sb.heap.objs.size m := ecl ▸ (show t6.heap.Ns ce.locals m from hn)
   obtain ⟨f0, f1, f2, f3, f4, f5⟩ := Ib.fpOk (Nat.le_refl _) nC
   exact ⟨m, hn, fun h'' same => ⟨.ref D, G, I7.turned (t' := t6.toks) (fun b o hb e => (same.2 b hb).trans e) f0 f1 f3 f4 f5, rfl, qq⟩⟩
  ·refine thnF (Tn.item XB rfl rfl rfl hc i [] t _ G (fun _ _ => False) It (still It nt) stt goes) fun r t6 ⟨u, er, h6⟩ => ?_
   subst er
   refine thnF h6 fun _ t7 ⟨x, G7, I7, r7, y7, st7, n7⟩ => ?_
   have P7 := I7.pinned (still I7 n7) (Tn.obj _ _ st7)
   refine thnF (pg.run _ t7 _ G7 x u _ P7 r7 (step x G7 y7)) fun _ t8 ⟨τ, G8, I8, hw, q8⟩ => ?_
   refine thnF (pt.run _ t8 τ G8 _ I8 q8) fun b t9 ⟨G9, I9, q9⟩ => ?_
   have back : ∀ {t' : Shared} {G' : Hp}, Inv XB ([] ++ pinsAt fp t7.heap) τ G' t' -> Nx G' -> ∃ m, m < n /\ ∃ i G, Inv XB [] (wipe σ (own.map (·.2))) G t' /\ tn i t'.heap /\ (∀ b ∈ fp, G b = none) /\ W i m G := fun {t' G'} I' nx => by
    obtain ⟨m', hm, w'⟩ := hNx G' nx
    have keep : ∀ b ∈ fp, ∀ o, t7.heap.get? b = some o -> t'.heap.get? b = some o /\ G' b = none := fun b hb o e =>
     have z := I'.pin (b, o) (List.mem_append_right _ (List.mem_append_right _ (mem_pinsAt hb e)))
     ⟨z.1, z.2.1⟩
    refine ⟨m', hm, i + 1, G', (I'.unpinned (pins := [])).weak (by rw [<- hw, wipe_length]) (fun j v e => (wipe_some (hw ▸ e)).1), Tn.keep _ _ _ st7 fun b hb o e => (keep b hb o e).1, fun b hb => ?_, w'⟩
    obtain ⟨o, e, _⟩ := Tn.obj _ _ st7 b hb
    exact (keep b hb o e).2
   cases b with
   | false => exact back I9 q9
   | true =>
    refine thnF (pe.run _ t9 τ G9 _ I9 q9) fun z t10 ⟨yv, G10, I10, r10, zz, l0, ey, hD10, room, nx⟩ => ?_
    subst ey
    obtain ⟨tk, rfl⟩ := r10
    exact addS_ok (X := XB) I10 hD10 room fun t11 I11 => back I11 nx
 exact PpSet.codeAny_compStart_set loop (Tn.self X.A 0 _ _ _ stc loop)
end
open PySem.Froz (SD sObj TxOk addTx tailTx)
theorem insS_mem {k x : Str} {l : List Str} : k ∈ insS x l ↔ k = x \/ k ∈ l := by
 unfold insS
 split
 ·rename_i h
  exact ⟨.inr, fun z => z.elim (fun e => e ▸ h) id⟩
 ·exact List.mem_cons
theorem insS_len (x : Str) (l : List Str) : (insS x l).length <= l.length + 1 := by
 unfold insS
 split
 ·omega
 ·simp
def spManyP : Sp := fun vs H Q _ => ∃ (p : Addr) (m : Int), vs = [.ref p, .int m] /\ PuW H p /\ 9 <= m /\ m < 2 ^ 200 /\ ∀ r H', 1 <= r -> r <= m -> SB [p] H H' -> PuW H' p -> Q (.int r) H'
def spWood (K : PySem.W.Frag) (n : Nat) : Sp := fun vs H Q _ => ∃ (p l R : Addr) (ks : List Str) (a b low : Nat) (m : Int), vs = [.ref p, .ref l, .ref R, .int (low : Int), .int m] /\ PuW H p /\ H l = some (.lst (ks.map V.str)) /\ H R = some (.lst [.int (a : Int), .int (b : Int)]) /\ l ≠ p /\ l ≠ R /\ R ≠ p /\ (a <= 60 /\ 1 <= b /\ b <= 9) /\ (1 <= low /\ low <= n /\ low <= 12) /\ (9 <= m /\ m <= 10 ^ 30) /\ (ks.length <= 8 /\ ∀ k ∈ ks, NameOk k) /\
 ∀ (v : V) (g : Gr) (a' : Nat) (H' : Hp), SB [p, R] H H' -> PuW H' p -> H' R = some (.lst [.int (a' : Int), .int (b : Int)]) -> GA K H' v g -> g.Ok (m + 1) -> g.parts + a' <= a -> g.deep <= low -> (∀ q ∈ g.within, q.1.1 ∈ ks) -> Q v H'
def spKindsP (K : PySem.W.Frag) : Sp := fun vs H Q _ => ∃ (a l : Addr) (ns : List Int) (ks : List Str), vs = [.ref a, .ref l] /\ SqL K H a (ns.map V.int) /\ ns.length <= 63 /\ H l = some (.lst (ks.map V.str)) /\ 1 <= ks.length /\ ks.length <= 8 /\ ks.Nodup /\ (∀ k ∈ ks, NameOk k) /\
 ∀ (d : Addr) (xs : List V) (b : Bk) (H' : Hp), SB [] H H' -> H d = none -> H' d = some (.lst xs) -> KdAll K H' [d] xs b -> b.Ok -> b.names.Perm ks -> Q (.ref d) H'
def spKindP (K : PySem.W.Frag) : Sp := fun vs H Q _ => ∃ (l : Addr) (xs : List V) (b : Bk) (k : Kd), vs = [.ref l, .str k.n] /\ H l = some (.lst xs) /\ KdAll K H [] xs b /\ k ∈ b /\ b.names.Nodup /\ b.length <= 8 /\ ∀ (v : V) (H' : Hp), SB [] H H' -> KdA K H' [] v k -> Q v H'
theorem step_inj {b s i j : Nat} (hs : s = 1 \/ s = 3 \/ s = 5 \/ s = 7 \/ s = 9 \/ s = 11 \/ s = 15 \/ s = 17) (hi : i < 8) (hj : j < 8) (e : (b + s * i) % 26 = (b + s * j) % 26) : i = j := by
 rcases hs with rfl | rfl | rfl | rfl | rfl | rfl | rfl | rfl <;> omega
section
variable {J : It} {n : Nat} {G : Hp -> Prop} {Y : Nat -> Hp -> V -> Hp -> Prop} {P : Program} {w' : World}
theorem SetSO.noTup {a : Addr} {l : List Str} : (∀ xs, SetSO P w' a l ≠ .tup xs) /\ ∀ u v, SetSO P w' a l ≠ .frz u v := ⟨(fun _ z => nomatch z), (fun _ _ z => nomatch z)⟩
theorem sc_seq (w : Walk J n G Y) {g : TG} {tt : TT} {te : TE} {vs : List Nat} {σ : L2.St} {H : Hp} {D : Addr} {Qd : Hp -> Prop} (hD : H D = none) (hn : n + 1 < scanBound) (R : Nat -> List Str -> Hp -> Prop) (h0 : R 0 [] H) (hG : ∀ H2, SB [] H H2 -> G H2)
  (st : ∀ i us H2 H3, SB [D] H2 H3 -> R i us H2 -> R i us H3)
  (turn : ∀ (Pv : Hp -> Prop) i x H2 H' us, i < n -> SB [] H H2 -> Y i H2 x H' -> R i us H2 -> us.length <= i -> (∀ z H5, SB [] H2 H5 -> R (i + 1) (insS z us) H5 -> ∃ (z' : Str) (l : List Str), V.str z = .str z' /\ H5 D = some (SetSO P w' D l) /\ l.length + 1 < scanBound /\ Pv (upd H5 D (SetSO P w' D (insS z' l)))) ->
   (∀ H4, SB [] H2 H4 -> R (i + 1) us H4 -> Pv H4) -> g x (wipe σ vs) H' fun σ2 H3 => wipe σ2 vs = wipe σ vs /\ tt σ2 H3 fun b H4 =>
    if b = true then te σ2 H4 fun y H5 => ∃ (z : Str) (l : List Str), y = .str z /\ H5 D = some (SetSO P w' D l) /\ l.length + 1 < scanBound /\ Pv (upd H5 D (SetSO P w' D (insS z l))) else Pv H4)
  (done : ∀ us H2, SB [] H H2 -> H2 D = some (SetSO P w' D us) -> R n us H2 -> us.length <= n -> Qd H2) :
  ∃ W : Nat -> Nat -> Hp -> Prop, (∃ m, W 0 m (upd H D (SetSO P w' D []))) /\ ∀ i m Hi, W i m Hi ->
   (J.stop i Hi /\ Qd Hi) \/ (J.go i Hi /\ ∃ Nx : Hp -> Prop, (∀ H', Nx H' -> ∃ m', m' < m /\ W (i + 1) m' H') /\ ∀ x H', J.yld i Hi x H' -> g x (wipe σ vs) H' fun σ2 H2 => wipe σ2 vs = wipe σ vs /\ tt σ2 H2 fun b H3 =>
    if b = true then te σ2 H3 fun y H4 => ∃ (z : Str) (l : List Str), y = .str z /\ H4 D = some (SetSO P w' D l) /\ l.length + 1 < scanBound /\ Nx (upd H4 D (SetSO P w' D (insS z l))) else Nx H3) := by
 refine lcG (body := fun Nx x H' => g x (wipe σ vs) H' fun σ2 H2 => wipe σ2 vs = wipe σ vs /\ tt σ2 H2 fun b H3 =>
    if b = true then te σ2 H3 fun y H4 => ∃ (z : Str) (l : List Str), y = .str z /\ H4 D = some (SetSO P w' D l) /\ l.length + 1 < scanBound /\ Nx (upd H4 D (SetSO P w' D (insS z l))) else Nx H3) w (fun i H2 => SB [D] H H2 /\ ∃ us, H2 D = some (SetSO P w' D us) /\ R i us H2 /\ us.length <= i) ⟨SB.new hD _, [], upd_same, st _ _ _ _ (SB.new hD _) h0, Nat.le_refl _⟩ (fun i H2 _ h => hG H2 (h.1.drop hD)) (fun i x H2 H' hi h y => ?_) (fun H2 h => ?_)
 ·obtain ⟨s2, us, hD2, hR, hl⟩ := h
  refine turn _ i x H2 H' us hi (s2.drop hD) y hR hl (fun z H5 s5 r5 => ?_) (fun H4 s4 r4 => ⟨s2.trans s4.nil, us, s4.keep _ _ hD2 nmn, r4, by omega⟩)
  have hD5 := s5.keep _ _ hD2 nmn
  have t6 : SB [D] H5 (upd H5 D (SetSO P w' D (insS z us))) := SB.setG hD5 (by simp) SetSO.noTup.1 SetSO.noTup.2 _
  refine ⟨z, us, rfl, hD5, by omega, (s2.trans s5.nil).trans t6, _, upd_same, st _ _ _ _ t6 r5, ?_⟩
  have := insS_len z us
  omega
 ·obtain ⟨s2, us, hD2, hR, hl⟩ := h
  exact done us H2 (s2.drop hD) hD2 hR hl
end
def spRulesN (K : PySem.W.Frag) (C N : Addr) : Sp := fun vs H Q E => ∃ (v : V) (b : Bk) (n : Str), vs = [v, .str n] /\ BkA K C H v b /\ b.length <= 1000 /\ (∀ k ∈ b, k.rs.length <= 1000) /\
 kindOr N b n H E fun k => ∀ (l : Addr) (us : List V) (H' : Hp), SB [] H H' -> H l = none -> H' l = some (.lst us) -> Bears K H' Ru.enc us ((.nil, .nil) :: k.rs) -> Q (.ref l) H'
def Gr.bk : Gr -> Nat -> List (Pl × Str)
 | .nil, _ => []
 | .cons k g _ r, i => (if g = .nil then [([i], k)] else (g.bk 0).map fun x => (i :: x.1, x.2)) ++ r.bk (i + 1)
def spGroveP (K : PySem.W.Frag) : Sp := fun vs H Q _ => ∃ (a l : Addr) (ns : List Int) (ks : List Str), vs = [.ref a, .ref l] /\ SqL K H a (ns.map V.int) /\ ns.length <= 63 /\ H l = some (.lst (ks.map V.str)) /\ ks.length <= 8 /\ (∀ k ∈ ks, NameOk k) /\ ∀ (v : V) (g : Gr) (H' : Hp), SB [] H H' -> GA K H' v g -> g.Ok (10 ^ 30 + 1) -> g.parts <= 60 -> g.deep <= 12 -> (∀ x ∈ g.within, x.1.1 ∈ ks) -> Q v H'
def bkE (x : Pl × Str) : PyData := .tuple [plEnc x.1, .str x.2]
theorem bkE_noList (x : Pl × Str) : noList (bkE x) = true := by simp [bkE, noList, noLists, pl_noList]
namespace Gr
theorem deep_parts : ∀ g : Gr, g.deep <= g.parts
 | .nil => Nat.le_refl _
 | .cons k g m r => by
  have h1 := deep_parts g
  have h2 := deep_parts r
  show max (1 + g.deep) r.deep <= 1 + g.parts + r.parts
  omega
theorem bk_bp : ∀ (g : Gr) (i : Nat), (g.bk i).map (·.1) = g.bp i
 | .nil, _ => rfl
 | .cons k g m r, i => by
  have h1 := bk_bp g 0
  have h2 := bk_bp r (i + 1)
  show ((if g = .nil then [([i], k)] else (g.bk 0).map fun x => (i :: x.1, x.2)) ++ r.bk (i + 1)).map (·.1) = (if g = .nil then [[i]] else (g.bp 0).map (i :: ·)) ++ r.bp (i + 1)
  rw [List.map_append, h2]
  by_cases hg : g = .nil
  ·rw [if_pos hg, if_pos hg]; rfl
  ·rw [if_neg hg, if_neg hg, List.map_map, <- h1, List.map_map]; rfl
end Gr
structure SrtOf (ss ks : List Str) : Prop where
 srt : sortedS ss = true
 nd : ss.Nodup
 mem : ∀ x, x ∈ ss ↔ x ∈ ks
theorem insS_nodup {x : Str} {l : List Str} (h : l.Nodup) : (insS x l).Nodup := by
 unfold insS
 split
 ·exact h
 ·rename_i hx
  exact List.nodup_cons.mpr ⟨hx, h⟩
theorem SrtOf.perm {ss l ks : List Str} (pm : ss.Perm l) (s : sortedS ss = true) (nd : l.Nodup) (h : ∀ x, x ∈ l ↔ x ∈ ks) : SrtOf ss ks :=
 ⟨s, pm.nodup_iff.mpr nd, fun x => pm.mem_iff.trans (h x)⟩
def emptyB (K : PySem.W.Frag) (x : Addr) : Bool := match K.lookup x with
 | some o => (match o.cls, o.data with
  | .type t, .seq its _ => decide (t = "tuple") && decide (its.toList.length = 0)
  | _, _ => false)
 | none => false
def no2B (K : PySem.W.Frag) (a : Addr) : Bool := match K.lookup a with
 | some o => (match o.cls, o.data with
  | .type t, .seq its _ => decide (t = "tuple") && (match its.toList with
   | [.ref x, .ref y] => emptyB K x && emptyB K y
   | _ => false)
  | _, _ => false)
 | none => false
theorem emptyB_ok {K : PySem.W.Frag} {x : Addr} (h : emptyB K x = true) (H : Hp) : SqT K H x [] := by
 unfold emptyB at h
 split at h
 ·rename_i o ho
  split at h
  ·rename_i t its n hc hd
   rw [Bool.and_eq_true, decide_eq_true_eq, decide_eq_true_eq] at h
   have hz : its.size = 0 := by simpa using h.2
   have he : its.toList = [] := List.length_eq_zero_iff.mp h.2
   refine .inr ⟨o, its, n, ho, by rw [hc, h.1], hd, by rw [hz]; exact Nat.zero_le _, by rw [he]; exact .nil⟩
  ·cases h
 ·cases h
theorem no2B_ok {K : PySem.W.Frag} {a : Addr} (h : no2B K a = true) (H : Hp) : Dp K H (.ref a) (Ru.enc (.nil, .nil)) := by
 unfold no2B at h
 split at h
 ·rename_i o ho
  split at h
  ·rename_i t its n hc hd
   rw [Bool.and_eq_true, decide_eq_true_eq] at h
   obtain ⟨h1, h2⟩ := h
   split at h2
   ·rename_i x y he
    rw [Bool.and_eq_true] at h2
    have hz : its.size = 2 := by have := congrArg List.length he; simpa using this
    have hs : SqT K H a [.ref x, .ref y] := .inr ⟨o, its, n, ho, by rw [hc, h1], hd, by rw [hz]; decide, by rw [he]; exact .cons rfl (.cons rfl .nil)⟩
    exact .tup hs (.cons (.tup (emptyB_ok h2.1 H) .nil) (.cons (.tup (emptyB_ok h2.2 H) .nil) .nil))
   ·cases h2
  ·cases h
 ·cases h
namespace Gr
def bkP (p : Tr × Int) (i : Nat) : List (Pl × Str) := if p.1.2 = .nil then [([i], p.1.1)] else (p.1.2.bk 0).map fun x => (i :: x.1, x.2)
def bks : List (Tr × Int) -> Nat -> List (Pl × Str)
 | [], _ => []
 | p :: r, i => bkP p i ++ bks r (i + 1)
theorem bk_ps : ∀ (g : Gr) (i : Nat), g.bk i = bks g.ps i
 | .nil, _ => rfl
 | .cons k g m r, i => by show _ ++ r.bk (i + 1) = _ ++ bks r.ps (i + 1); rw [bk_ps r]; rfl
theorem bks_append : ∀ (as bs : List (Tr × Int)) (i : Nat), bks (as ++ bs) i = bks as i ++ bks bs (i + as.length)
 | [], bs, i => by simp [bks]
 | p :: r, bs, i => by
  show bkP p i ++ bks (r ++ bs) (i + 1) = _
  rw [bks_append r bs (i + 1)]
  show _ = (bkP p i ++ bks r (i + 1)) ++ bks bs (i + (r.length + 1))
  rw [List.append_assoc, show i + 1 + r.length = i + (r.length + 1) by omega]
theorem bks_take {bs : List (Tr × Int)} {i : Nat} {p : Tr × Int} (h : bs[i]? = some p) : bks (bs.take (i + 1)) 0 = bks (bs.take i) 0 ++ bkP p i := by
 have hl : i < bs.length := (List.getElem?_eq_some_iff.mp h).1
 rw [List.take_add_one, h, bks_append, List.length_take, Nat.min_eq_left (by omega), Nat.zero_add]
 show _ ++ (bkP p i ++ []) = _
 rw [List.append_nil]
theorem bk_len (g : Gr) (i : Nat) : (g.bk i).length <= g.parts := by
 have h := congrArg List.length (bk_bp g i)
 rw [List.length_map] at h
 rw [h]; exact bp_len g i
theorem enc_eq_nil (g : Gr) : PyData.eqv g.enc (.tuple []) = decide (g = .nil) := by
 cases g with
 | nil => simp [enc, encs, PyData.eqv, PyData.eqvAll]
 | cons k g m r => simp [enc, encs, PyData.eqv, PyData.eqvAll]
end Gr
theorem KdAll.erase {K : PySem.W.Frag} {H : Hp} {bad : List Addr} : ∀ {vs : List V} {b : Bk} (u : Nat), KdAll K H bad vs b -> KdAll K H bad (vs.eraseIdx u) (b.eraseIdx u)
 | _, _, _, .nil => .nil
 | _, _, 0, .cons _ t => t
 | _, _, u + 1, .cons h t => .cons h (KdAll.erase u t)
theorem KdAll.bad1 {K : PySem.W.Frag} {H : Hp} {bad : List Addr} {p : Addr} (hp : H p = none) : ∀ {vs : List V} {b : Bk}, KdAll K H bad vs b -> KdAll K H (p :: bad) vs b
 | _, _, .nil => .nil
 | _, _, .cons ⟨t, l, zs, e, h1, h2, h3, h4⟩ r => .cons ⟨t, l, zs, e, h1, h2, h3, fun z => by
   rcases List.mem_cons.mp z with z | z
   ·rw [z, hp] at h2; cases h2
   ·exact h4 z⟩ (KdAll.bad1 hp r)
theorem Bk.Ok.of_perm {b : Bk} {ks : List Str} (k1 : 1 <= ks.length) (k8 : ks.length <= 8) (nd : ks.Nodup) (pm : b.names.Perm ks) (h : ∀ k ∈ b, KdOk ks k) : b.Ok := by
 have hl : b.length = ks.length := by have := pm.length_eq; rwa [List.length_map] at this
 refine ⟨by omega, by omega, pm.nodup_iff.mpr nd, fun k hk => ?_⟩
 obtain ⟨h1, h2, h3⟩ := h k hk
 exact ⟨h1, h2, fun r hr => ⟨(h3 r hr).1, fun p hp => pm.mem_iff.mpr ((h3 r hr).2 p hp)⟩⟩
theorem SB.drops : ∀ {ps : List Addr} {H H' : Hp}, SB ps H H' -> (∀ p ∈ ps, H p = none) -> SB [] H H'
 | [], _, _, e, _ => e
 | p :: ps, _, _, e, h => SB.drops (e.drop (h p mcs)) fun q hq => h q (mcm _ hq)
theorem copy_lc {K : PySem.W.Frag} {σ : L2.St} {H : Hp} {kh : Addr} {xs : List V} {b : Bk} {Q : VK} {i a1 a2 a3 : Nat} {vs : List Nat} (hσ : σ[i]? = some (some (.ref kh)))
  (w0 : ∀ x y z : V, wipe ((((wipe σ vs).set a1 (some x)).set a2 (some y)).set a3 (some z)) vs = wipe σ vs)
  (w1 : ∀ x y z : V, ((((wipe σ vs).set a1 (some x)).set a2 (some y)).set a3 (some z))[a1]? = some (some x)) (w2 : ∀ x y z : V, ((((wipe σ vs).set a1 (some x)).set a2 (some y)).set a3 (some z))[a2]? = some (some y)) (w3 : ∀ x y z : V, ((((wipe σ vs).set a1 (some x)).set a2 (some y)).set a3 (some z))[a3]? = some (some z))
  (hkh : H kh = some (.lst xs)) (hb : KdAll K H [] xs b) (b8 : b.length <= 8)
  (k : ∀ (D : Addr) (us : List V) (ls : List Addr) (H' : Hp), SB [] H H' -> H D = none -> H' D = some (.lst us) -> KdAll K H' [D] us b -> D ∉ ls -> (∀ p ∈ ls, H p = none /\ ∃ zs, H' p = some (.lst zs)) -> (∀ u ∈ us, ∃ t x y l, u = .ref t /\ SqT K H' t [x, y, .ref l] /\ l ∈ ls) -> Q (.ref D) H') :
  tLc (iList K (tVar i)) (gTup K 3 (gCons (gName a1) (gCons (gName a2) (gCons (gName a3) gNil)))) tYes (tTup (tCons (tVar a1) (tCons (tVar a2) (tCons (tCB (rListOf K) (tCons (tVar a3) tNil)) tNil)))) vs σ H Q := by
 have szl := sizeLine_eq
 have xl := hb.length
 refine ⟨_, hσ, kh, rfl, ⟨_, SqL.of hkh⟩, fun D hD => ?_⟩
 refine lc_seqQ (walk_list (xs := xs)) [] hD (by simp) (by omega) (fun i us H2 => ∃ ls : List Addr, KdAll K H2 [D] us (b.take i) /\ D ∉ ls /\ (∀ p ∈ ls, H p = none /\ ∃ zs, H2 p = some (.lst zs)) /\ ∀ u ∈ us, ∃ t x y l, u = .ref t /\ SqT K H2 t [x, y, .ref l] /\ l ∈ ls)
  ⟨[], .nil, by simp, by simp, by simp⟩ (fun H3 s3 => s3.sqL nmn (SqL.of hkh)) (fun i us H2 H3 s3 ⟨ls, h1, h2, h3, h4⟩ => ⟨ls, h1.sb s3 NoLst.self, h2, fun p hp => ⟨(h3 p hp).1, (h3 p hp).2.imp fun zs hz => s3.keep _ _ hz fun z => h2 (by rw [<- List.mem_singleton.mp z]; exact hp)⟩, fun u hu => by
   obtain ⟨t, x, y, l, e, h5, h6⟩ := h4 u hu
   exact ⟨t, x, y, l, e, s3.sqT h5, h6⟩⟩) (fun Pv i x Hq H2 us hi s2 y hR hu hD2 fin _ => ?_) (fun us H2 s2 hD2 hR hul => ?_)
 ·obtain ⟨rfl, ey⟩ := y
  obtain ⟨ls, g1, g2, g3, g4⟩ := hR
  obtain ⟨k, ek, t, r, zs, rfl, h1, h2, h3, _⟩ := hb.get ey
  refine ⟨t, _, rfl, s2.sqT h1, rfl, _, _, rfl, _, _, rfl, _, _, rfl, rfl, w0 _ _ _, ?_⟩
  refine ⟨_, w1 _ _ _, _, w2 _ _ _, _, w3 _ _ _, r, zs, rfl, .inl (SqL.of (s2.keep _ _ h2 nmn)), fun l' hl' => ⟨by show 3 <= sizeLine; decide, fun T hT => ?_⟩⟩
  have t3 := SB.new (ps := []) hl' (.lst zs)
  have hl3 : upd H2 l' (.lst zs) l' = some (.lst zs) := upd_same
  generalize upd H2 l' (.lst zs) = H3 at t3 hl3 hT
  have t4 := SB.new (ps := []) hT (.tup [.str k.n, .bl k.w, .ref l'])
  have t24 := t3.trans t4
  have hl4 := t4.keep _ _ hl3 nmn
  have lD : l' ≠ D := fun z => by rw [z, hD2] at hl'; cases hl'
  refine fin _ _ t24 ⟨ls ++ [l'], ?_, ?_, ?_, ?_⟩
  ·rw [List.take_add_one, ek]
   exact (g1.sb t24 NoLst.nil).append (.cons ⟨T, l', zs, rfl, SqT.of upd_same, hl4, h3.sb (s2.trans t24) Ru.noList_enc, by simpa using lD⟩ .nil)
  ·intro z
   rcases List.mem_append.mp z with z | z
   ·exact g2 z
   ·exact lD (List.mem_singleton.mp z).symm
  ·intro p hp
   rcases List.mem_append.mp hp with hp | hp
   ·exact ⟨(g3 p hp).1, (g3 p hp).2.imp fun zs hz => t24.keep _ _ hz nmn⟩
   ·rw [List.mem_singleton.mp hp]
    exact ⟨s2.dom _ hl', zs, hl4⟩
  ·intro u hu
   rcases List.mem_append.mp hu with hu | hu
   ·obtain ⟨t, x, y, l, e, h5, h6⟩ := g4 u hu
    exact ⟨t, x, y, l, e, t24.sqT h5, List.mem_append_left _ h6⟩
   ·rw [List.mem_singleton.mp hu]
    exact ⟨T, _, _, l', rfl, SqT.of upd_same, by simp⟩
 obtain ⟨ls, g1, g2, g3, g4⟩ := hR
 rw [xl, List.take_length] at g1
 exact k D us ls H2 s2 hD hD2 g1 g2 g3 g4
section
variable {σ : L2.St} {H : Hp} {t : TE} {ta tb : TE} {as : TA}
theorem consI {Q : List V -> Hp -> Prop} (h : t σ H fun x H1 => as σ H1 fun xs H2 => Q (x :: xs) H2) : tCons t as σ H Q := h
theorem makeI {C : Addr} {sp : Sp} {E : L2.St -> XK} {Q : VK} (h : as σ H fun vs H1 => ∀ y dx, H1 y = none -> H1 dx = none -> dx ≠ y -> sp (.ref y :: vs) (upd (upd H1 dx (.own y)) y (.ins C dx [])) (fun v H2 => v = .non /\ Q (.ref y) H2) (E σ)) : tMakeZ C sp E as σ H Q := h
end
theorem copy_make {K : PySem.W.Frag} {C B : Addr} {E : L2.St -> XK} {σ : L2.St} {H : Hp} {kh : Addr} {xs : List V} {b : Bk} {Q : VK} {i a1 a2 a3 : Nat} {vs : List Nat} (hσ : σ[i]? = some (some (.ref kh)))
  (w0 : ∀ x y z : V, wipe ((((wipe σ vs).set a1 (some x)).set a2 (some y)).set a3 (some z)) vs = wipe σ vs)
  (w1 : ∀ x y z : V, ((((wipe σ vs).set a1 (some x)).set a2 (some y)).set a3 (some z))[a1]? = some (some x)) (w2 : ∀ x y z : V, ((((wipe σ vs).set a1 (some x)).set a2 (some y)).set a3 (some z))[a2]? = some (some y)) (w3 : ∀ x y z : V, ((((wipe σ vs).set a1 (some x)).set a2 (some y)).set a3 (some z))[a3]? = some (some z))
  (hkh : H kh = some (.lst xs)) (hb : KdAll K H [] xs b) (ok : b.Ok) (k : ∀ y H', SB [] H H' -> H y = none -> BkA K C H' (.ref y) b -> Q (.ref y) H') :
  tMakeZ C (spBInit K C B) E (tCons (tLc (iList K (tVar i)) (gTup K 3 (gCons (gName a1) (gCons (gName a2) (gCons (gName a3) gNil)))) tYes (tTup (tCons (tVar a1) (tCons (tVar a2) (tCons (tCB (rListOf K) (tCons (tVar a3) tNil)) tNil)))) vs) tNil) σ H Q := by
 refine makeI (consI (copy_lc hσ w0 w1 w2 w3 hkh hb ok.len fun D us ls H' s nD hD hK _ _ _ => ?_))
 exact make_core hD hK ok fun y H2 s2 ny hbk => k y H2 (s.trans s2) (s.dom _ ny) hbk
theorem sumE_cons {γ : Type} [DecidableEq γ] (p : γ × Int) (r : List (γ × Int)) (x : γ) : sumE (p :: r) x = (if p.1 = x then p.2 else 0) + sumE r x := rfl
namespace Gr
def woL (t : Tr) (m : Int) : List (Tr × Int) -> List (Tr × Int)
 | [] => []
 | p :: r => if p.1 ≠ t then p :: woL t m r else if m < p.2 then (p.1, p.2 - m) :: woL t m r else woL t m r
theorem woL_append (t : Tr) (m : Int) : ∀ as bs : List (Tr × Int), woL t m (as ++ bs) = woL t m as ++ woL t m bs
 | [], bs => rfl
 | p :: as, bs => by
  simp only [List.cons_append, woL, woL_append t m as bs]
  split
  ·rfl
  ·split <;> rfl
theorem woL_none {t : Tr} {m : Int} : ∀ {bs : List (Tr × Int)}, (∀ p ∈ bs, p.1 ≠ t) -> woL t m bs = bs
 | [], _ => rfl
 | p :: r, h => by
  rw [woL, if_pos (h p (by simp)), woL_none fun q hq => h q (by simp [hq])]
theorem woL_mem {t : Tr} {m : Int} (hm : 0 <= m) : ∀ {bs : List (Tr × Int)} {p : Tr × Int}, p ∈ woL t m bs -> ∃ q ∈ bs, q.1 = p.1 /\ p.2 <= q.2 /\ (1 <= q.2 -> 1 <= p.2)
 | [], _, h => nomatch h
 | q :: r, p, h => by
  rw [woL] at h
  split at h
  ·rcases List.mem_cons.mp h with e | h
   ·exact ⟨q, by simp, by rw [e], by rw [e]; exact Int.le_refl _, by rw [e]; exact id⟩
   ·obtain ⟨q', h1, h2⟩ := woL_mem hm h; exact ⟨q', by simp [h1], h2⟩
  ·split at h
   ·rcases List.mem_cons.mp h with e | h
    ·exact ⟨q, by simp, by rw [e], by rw [e]; show q.2 - m <= q.2; omega, by rw [e]; show _ -> 1 <= q.2 - m; omega⟩
    ·obtain ⟨q', h1, h2⟩ := woL_mem hm h; exact ⟨q', by simp [h1], h2⟩
   ·obtain ⟨q', h1, h2⟩ := woL_mem hm h; exact ⟨q', by simp [h1], h2⟩
theorem woL_key {t : Tr} {m : Int} : ∀ {bs : List (Tr × Int)} {p : Tr × Int}, p ∈ woL t m bs -> ∃ q ∈ bs, q.1 = p.1
 | [], _, h => nomatch h
 | q :: r, p, h => by
  rw [woL] at h
  split at h
  ·rcases List.mem_cons.mp h with e | h
   ·exact ⟨q, by simp, by rw [e]⟩
   ·obtain ⟨q', h1, h2⟩ := woL_key h; exact ⟨q', by simp [h1], h2⟩
  ·split at h
   ·rcases List.mem_cons.mp h with e | h
    ·exact ⟨q, by simp, by rw [e]⟩
    ·obtain ⟨q', h1, h2⟩ := woL_key h; exact ⟨q', by simp [h1], h2⟩
   ·obtain ⟨q', h1, h2⟩ := woL_key h; exact ⟨q', by simp [h1], h2⟩
theorem woL_pair {R : Tr -> Tr -> Prop} {t : Tr} {m : Int} : ∀ {bs : List (Tr × Int)}, bs.Pairwise (fun p q => R p.1 q.1) -> (woL t m bs).Pairwise (fun p q => R p.1 q.1)
 | [], _ => .nil
 | p :: r, h => by
  obtain ⟨h1, h2⟩ := List.pairwise_cons.mp h
  have ih := woL_pair (t := t) (m := m) h2
  have hk : ∀ q ∈ woL t m r, R p.1 q.1 := fun q hq => by
   obtain ⟨q', hq', e⟩ := woL_key hq
   rw [<- e]; exact h1 q' hq'
  rw [woL]
  split
  ·exact List.pairwise_cons.mpr ⟨hk, ih⟩
  ·split
   ·exact List.pairwise_cons.mpr ⟨hk, ih⟩
   ·exact ih
theorem woL_tot (t : Tr) (m : Int) : ∀ bs : List (Tr × Int), tot (woL t m bs) <= tot bs
 | [] => Nat.le_refl _
 | p :: r => by
  have ih := woL_tot t m r
  rw [woL]
  split
  ·simp only [tot]; omega
  ·split
   ·simp only [tot]; omega
   ·simp only [tot]; omega
theorem woL_len (t : Tr) (m : Int) : ∀ bs : List (Tr × Int), (woL t m bs).length <= bs.length
 | [] => Nat.le_refl _
 | p :: r => by
  have ih := woL_len t m r
  rw [woL]
  split
  ·simp only [List.length_cons]; omega
  ·split
   ·simp only [List.length_cons]; omega
   ·simp only [List.length_cons]; omega
theorem sumE_woL {t : Tr} {m : Int} (x : Tr) : ∀ {bs : List (Tr × Int)}, bs.Pairwise (fun p q => p.1 ≠ q.1) -> (∀ p ∈ bs, 0 < p.2) -> 0 <= m -> sumE (woL t m bs) x = if x = t then (if m < sumE bs t then sumE bs t - m else 0) else sumE bs x
 | [], _, _, hm => by
  show (0 : Int) = if x = t then (if m < 0 then 0 - m else 0) else 0
  split
  ·rw [if_neg (by omega)]
  ·rfl
 | p :: r, h, hp, hm => by
  obtain ⟨h1, h2⟩ := List.pairwise_cons.mp h
  have ih := sumE_woL (t := t) (m := m) x h2 (fun q hq => hp q (by simp [hq])) hm
  rw [woL]
  by_cases e : p.1 = t
  ·rw [if_neg (by simpa using e)]
   have hr : ∀ q ∈ r, q.1 ≠ t := fun q hq z => h1 q hq (by rw [e, z])
   have z0 : sumE r t = 0 := S_zero hr
   rw [woL_none hr, sumE_cons p r t, if_pos e, z0, Int.add_zero]
   by_cases hlt : m < p.2
   ·rw [if_pos hlt, if_pos hlt, sumE_cons]
    by_cases hx : x = t
    ·rw [if_pos hx, hx, if_pos (by exact e), z0]; simp
    ·rw [if_neg hx, if_neg (by rw [e]; exact fun z => hx z.symm), sumE_cons, if_neg (by rw [e]; exact fun z => hx z.symm)]
   ·rw [if_neg hlt, if_neg hlt]
    by_cases hx : x = t
    ·rw [if_pos hx, hx, z0]
    ·rw [if_neg hx, sumE_cons, if_neg (by rw [e]; exact fun z => hx z.symm), Int.zero_add]
  ·rw [if_pos e, sumE_cons, ih, sumE_cons p r t, if_neg e, Int.zero_add]
   by_cases hx : x = t
   ·rw [if_pos hx, if_pos hx, hx, if_neg e, Int.zero_add]
   ·rw [if_neg hx, if_neg hx, sumE_cons]
def wo (g : Gr) (t : Tr) (m : Int) : Gr := ofPs (woL t m g.ps)
theorem wo_ps (g : Gr) (t : Tr) (m : Int) : (wo g t m).ps = woL t m g.ps := ps_ofPs _
variable {C D E : Int} {g k : Gr}
theorem ok_ne (h : g.Ok C) : g.ps.Pairwise (fun p q => p.1 ≠ q.1) := (ok_iff.mp h).2.imp fun z => ol_ne z
theorem ok_pos (h : g.Ok C) : ∀ p ∈ g.ps, 0 < p.2 := fun p hp => by have := ((ok_iff.mp h).1 p hp).2.2.1; omega
theorem wo_ok (h : g.Ok C) {t : Tr} {m : Int} (hm : 0 <= m) : (wo g t m).Ok C := by
 obtain ⟨h1, h2⟩ := ok_iff.mp h
 refine ok_ps.mpr ⟨fun p hp => ?_, woL_pair (R := fun a b => dataLt (tEnc a) (tEnc b) = true) h2⟩
 obtain ⟨q, hq, e, l, o⟩ := woL_mem hm hp
 obtain ⟨a, b, c, d⟩ := h1 q hq
 rw [<- e]
 exact ⟨a, b, o c, by omega⟩
theorem S_wo (h : g.Ok C) {t : Tr} {m : Int} (hm : 0 <= m) (x : Tr) : S (wo g t m) x = if x = t then (if m < S g t then S g t - m else 0) else S g x := by
 show sumE (wo g t m).ps x = _
 rw [wo_ps]; exact sumE_woL x (ok_ne h) (ok_pos h) hm
theorem wo_parts (g : Gr) (t : Tr) (m : Int) : (wo g t m).parts <= g.parts := by
 rw [wo, parts_ofPs, <- tot_ps g]; exact woL_tot _ _ _
theorem wo_len (g : Gr) (t : Tr) (m : Int) : (wo g t m).ps.length <= g.ps.length := by rw [wo_ps]; exact woL_len _ _ _
theorem wo_deep (g : Gr) (t : Tr) (m : Int) : (wo g t m).deep <= g.deep := by
 refine deep_le fun p hp => ?_
 rw [wo_ps] at hp
 obtain ⟨q, hq, e⟩ := woL_key hp
 rw [<- e]; exact mem_deep g q hq
theorem sumE_mem : ∀ {bs : List (Tr × Int)}, bs.Pairwise (fun p q => p.1 ≠ q.1) -> ∀ p ∈ bs, sumE bs p.1 = p.2
 | [], _, _, h => nomatch h
 | q :: r, h, p, hp => by
  obtain ⟨h1, h2⟩ := List.pairwise_cons.mp h
  rw [sumE_cons]
  rcases List.mem_cons.mp hp with e | hp
  ·rw [e, if_pos rfl, S_zero fun q' hq' z => h1 q' hq' z.symm, Int.add_zero]
  ·rw [if_neg (h1 p hp), Int.zero_add]; exact sumE_mem h2 p hp
theorem S_mem (h : g.Ok C) {p : Tr × Int} (hp : p ∈ g.ps) : S g p.1 = p.2 := sumE_mem (ok_ne h) p hp
theorem S_cases (h : g.Ok C) (x : Tr) : (S g x = 0 /\ ∀ p ∈ g.ps, p.1 ≠ x) \/ ∃ m, (x, m) ∈ g.ps /\ S g x = m /\ 1 <= m /\ m < C := by
 by_cases e : ∃ p ∈ g.ps, p.1 = x
 ·obtain ⟨p, hp, rfl⟩ := e
  obtain ⟨_, _, c, d⟩ := (ok_iff.mp h).1 p hp
  exact .inr ⟨p.2, hp, S_mem h hp, c, d⟩
 ·have h' : ∀ p ∈ g.ps, p.1 ≠ x := fun p hp z => e ⟨p, hp, z⟩
  exact .inl ⟨S_zero h', h'⟩
theorem S_nonneg (h : g.Ok C) (x : Tr) : 0 <= S g x := by
 rcases S_cases h x with ⟨e, _⟩ | ⟨m, _, e, h1, _⟩
 ·omega
 ·omega
theorem S_lt (h : g.Ok C) (hC : 1 <= C) (x : Tr) : S g x < C := by
 rcases S_cases h x with ⟨e, _⟩ | ⟨m, _, e, _, h1⟩
 ·omega
 ·omega
theorem S_pos (h : g.Ok C) {x : Tr} (hx : 1 <= S g x) : ∃ m, (x, m) ∈ g.ps /\ S g x = m := by
 rcases S_cases h x with ⟨e, _⟩ | ⟨m, h1, e, _⟩
 ·omega
 ·exact ⟨m, h1, e⟩
theorem tgt_okM (hg : ∀ p ∈ g.ps, NameOk p.1.1 /\ p.1.2.Ok E /\ 1 <= p.2) (hk : ∀ p ∈ k.ps, NameOk p.1.1 /\ p.1.2.Ok E /\ 1 <= p.2) (h : ∀ t, S g t + S k t < E) : (tgt g k).Ok E := by
 have hr := tdy_rise (enc := tEnc) (g.ps ++ k.ps)
 have hall : ∀ p ∈ g.ps ++ k.ps, NameOk p.1.1 /\ p.1.2.Ok E /\ 1 <= p.2 := fun p hp => (List.mem_append.mp hp).elim (hg p) (hk p)
 refine ok_ps.mpr ⟨fun p hp => ?_, hr⟩
 obtain ⟨q, hq, e⟩ := tdy_keys (enc := tEnc) _ p hp
 obtain ⟨a, b, _⟩ := hall q hq
 have h1 := (tdy_pos (enc := tEnc) (fun p hp => (hall p hp).2.2) p hp).1
 have e2 : sumE (tdy tEnc (g.ps ++ k.ps)) p.1 = p.2 := sumE_mem (hr.imp fun z => ol_ne z) p hp
 rw [tdy_sum, sumE_append] at e2
 have := h p.1
 refine ⟨e ▸ a, e ▸ b, h1, ?_⟩
 show p.2 < E
 rw [<- e2]; exact this
theorem ok_three (h : g.Ok C) (hC : C <= E) : ∀ p ∈ g.ps, NameOk p.1.1 /\ p.1.2.Ok E /\ 1 <= p.2 := fun p hp => by
 obtain ⟨a, b, c, _⟩ := (ok_iff.mp h).1 p hp
 exact ⟨a, b.mono hC, c⟩
theorem tgt_ok2 (hg : g.Ok C) (hk : k.Ok D) (hC : 1 <= C) (hD : 1 <= D) : (tgt g k).Ok (C + D) := by
 refine tgt_okM (ok_three hg (by omega)) (ok_three hk (by omega)) fun t => ?_
 have := S_lt hg hC t
 have := S_lt hk hD t
 omega
def tmsL (m : Int) (bs : List (Tr × Int)) : List (Tr × Int) := bs.map fun p => (p.1, p.2 * m)
def tmsG (g : Gr) (m : Int) : Gr := if m = 0 then .nil else ofPs (tmsL m g.ps)
theorem sumE_tms (m : Int) (x : Tr) : ∀ bs : List (Tr × Int), sumE (tmsL m bs) x = sumE bs x * m
 | [] => by show (0 : Int) = 0 * m; rw [Int.zero_mul]
 | p :: r => by
  show sumE ((p.1, p.2 * m) :: tmsL m r) x = _
  rw [sumE_cons, sumE_cons, sumE_tms m x r, Int.add_mul]
  congr 1
  split
  ·rfl
  ·rw [Int.zero_mul]
theorem S_tms (g : Gr) (m : Int) (x : Tr) : S (tmsG g m) x = S g x * m := by
 rw [tmsG]
 split
 ·next h => rw [h, Int.mul_zero]; rfl
 ·show sumE (ofPs _).ps x = _
  rw [ps_ofPs]; exact sumE_tms m x g.ps
theorem tot_tms (m : Int) : ∀ bs : List (Tr × Int), tot (tmsL m bs) = tot bs
 | [] => rfl
 | p :: r => by
  show 1 + p.1.2.parts + tot (tmsL m r) = 1 + p.1.2.parts + tot r
  rw [tot_tms m r]
theorem tms_parts (g : Gr) (m : Int) : (tmsG g m).parts <= g.parts := by
 rw [tmsG]
 split
 ·exact Nat.zero_le _
 ·rw [parts_ofPs, tot_tms, tot_ps]; exact Nat.le_refl _
theorem tms_len (g : Gr) (m : Int) : (tmsG g m).ps.length <= g.ps.length := by
 rw [tmsG]
 split
 ·exact Nat.zero_le _
 ·rw [ps_ofPs, tmsL, List.length_map]; exact Nat.le_refl _
theorem tms_key {m : Int} {p : Tr × Int} (hp : p ∈ (tmsG g m).ps) : ∃ q ∈ g.ps, q.1 = p.1 := by
 rw [tmsG] at hp
 split at hp
 ·exact nomatch hp
 ·rw [ps_ofPs] at hp
  obtain ⟨q, hq, e⟩ := List.mem_map.mp hp
  exact ⟨q, hq, by rw [<- e]⟩
theorem tms_deep (g : Gr) (m : Int) : (tmsG g m).deep <= g.deep := by
 refine deep_le fun p hp => ?_
 obtain ⟨q, hq, e⟩ := tms_key hp
 rw [<- e]; exact mem_deep g q hq
theorem tms_ok (h : g.Ok C) (hC : 1 <= C) {m : Int} (hm : 0 <= m) : (tmsG g m).Ok (C * m + C) := by
 have hle : C <= C * m + C := by have := Int.mul_nonneg (show (0 : Int) <= C by omega) hm; omega
 rw [tmsG]
 split
 ·trivial
 ·obtain ⟨h1, h2⟩ := ok_iff.mp h
  refine ok_ps.mpr ⟨fun p hp => ?_, ?_⟩
  ·obtain ⟨q, hq, rfl⟩ := List.mem_map.mp hp
   obtain ⟨a, b, c, d⟩ := h1 q hq
   have m1 : 1 <= m := by omega
   refine ⟨a, b.mono hle, ?_, ?_⟩
   ·show 1 <= q.2 * m
    have := Int.mul_le_mul c m1 (by omega) (by omega)
    omega
   ·show q.2 * m < C * m + C
    have := Int.mul_le_mul_of_nonneg_right (show q.2 <= C by omega) hm
    omega
  ·exact List.pairwise_map.mpr (h2.imp fun z => z)
def pos (g : Gr) (t : Tr) : Nat := (g.ps.map (·.1)).idxOf t
theorem pos_at (h : g.Ok C) {t : Tr} {m : Int} (hp : (t, m) ∈ g.ps) : g.ps[pos g t]? = some (t, m) := by
 have ht : t ∈ g.ps.map (·.1) := List.mem_map.mpr ⟨_, hp, rfl⟩
 have hl : pos g t < (g.ps.map (·.1)).length := List.idxOf_lt_length_of_mem ht
 have hl2 : pos g t < g.ps.length := by rwa [List.length_map] at hl
 have e : (g.ps.map (·.1))[pos g t] = t := List.getElem_idxOf hl
 rw [List.getElem_map] at e
 rw [List.getElem?_eq_getElem hl2]
 have hm := List.getElem_mem hl2
 have e1 := S_mem h hm
 have e2 := S_mem h hp
 rw [e] at e1
 have e3 : (g.ps[pos g t]).2 = m := by rw [<- e1]; exact e2
 exact congrArg some (Prod.ext e e3)
theorem pos_of (h : g.Ok C) {i : Nat} {p : Tr × Int} (hp : g.ps[i]? = some p) : pos g p.1 = i := by
 have h1 := pos_at (t := p.1) (m := p.2) h (List.mem_of_getElem? hp)
 obtain ⟨hi, ei⟩ := List.getElem?_eq_some_iff.mp hp
 obtain ⟨hj, ej⟩ := List.getElem?_eq_some_iff.mp h1
 have nd : (g.ps.map (·.1)).Nodup := List.pairwise_map.mpr (ok_ne h)
 refine (List.getElem?_inj (by rw [List.length_map]; exact hj) nd).mp ?_
 rw [List.getElem?_map, List.getElem?_map, h1, hp]
def Named (ns : List Str) (g : Gr) : Prop := ∀ x ∈ g.within, x.1.1 ∈ ns
theorem named_iff {ns : List Str} : Named ns g ↔ ∀ p ∈ g.ps, p.1.1 ∈ ns /\ Named ns p.1.2 := by
 unfold Named
 rw [within_ps]
 constructor
 ·intro h p hp
  exact ⟨h p (List.mem_flatMap.mpr ⟨p, hp, by simp⟩), fun x hx => h x (List.mem_flatMap.mpr ⟨p, hp, by simp [hx]⟩)⟩
 ·intro h x hx
  obtain ⟨p, hp, hx⟩ := List.mem_flatMap.mp hx
  rcases List.mem_cons.mp hx with e | hx
  ·rw [e]; exact (h p hp).1
  ·exact (h p hp).2 x hx
theorem named_wo {ns : List Str} (h : Named ns g) (t : Tr) (m : Int) : Named ns (wo g t m) := named_iff.mpr fun p hp => by
 rw [wo_ps] at hp
 obtain ⟨q, hq, e⟩ := woL_key hp
 rw [<- e]; exact named_iff.mp h q hq
theorem named_tms {ns : List Str} (h : Named ns g) (m : Int) : Named ns (tmsG g m) := named_iff.mpr fun p hp => by
 obtain ⟨q, hq, e⟩ := tms_key hp
 rw [<- e]; exact named_iff.mp h q hq
theorem named_tgt {ns : List Str} (h : Named ns g) (h2 : Named ns k) : Named ns (tgt g k) := named_iff.mpr fun p hp => by
 rw [tgt_ps] at hp
 obtain ⟨q, hq, e⟩ := tdy_keys (enc := tEnc) _ p hp
 rw [<- e]
 rcases List.mem_append.mp hq with hq | hq
 ·exact named_iff.mp h q hq
 ·exact named_iff.mp h2 q hq
def one (t : Tr) (m : Int) : Gr := .cons t.1 t.2 m .nil
theorem one_ps (t : Tr) (m : Int) : (one t m).ps = [(t, m)] := rfl
theorem S_one (t : Tr) (m : Int) (x : Tr) : S (one t m) x = if t = x then m else 0 := by
 show sumE [(t, m)] x = _
 rw [sumE_cons]; exact Int.add_zero _
theorem one_ok {t : Tr} {m : Int} (h1 : NameOk t.1) (h2 : t.2.Ok C) (h3 : 1 <= m) (h4 : m < C) : (one t m).Ok C := ⟨h1, h2, h3, h4, trivial, fun _ h => nomatch h⟩
theorem named_one {ns : List Str} {t : Tr} (h : t.1 ∈ ns) (h2 : Named ns t.2) (m : Int) : Named ns (one t m) := named_iff.mpr fun p hp => by
 rw [one_ps] at hp
 rw [List.mem_singleton.mp hp]; exact ⟨h, h2⟩
end Gr
def Wd (d : PyData) : Prop := d.canLay0 = true /\ d.depth <= 190
def rEqW (K : PySem.W.Frag) : R2 := fun x y H Q => ∃ d e, Dp K H x d /\ Dp K H y e /\ Wd d /\ Wd e /\ Q (.bl (PyData.eqv d e)) H
def rNeW (K : PySem.W.Frag) : R2 := fun x y H Q => ∃ d e, Dp K H x d /\ Dp K H y e /\ Wd d /\ Wd e /\ Q (.bl (!PyData.eqv d e)) H
section
variable {X : Cx}
theorem room_w {n : Nat} {d e : PyData} (hd : Wd d) (hu : n + 195 < cLine) : n + min d.depth e.depth < cLine := by
 have h1 := hd.2
 have h2 : min d.depth e.depth <= d.depth := Nat.min_le_left ..
 omega
theorem op_eqW (hu : X.A.units + 195 < cLine) : OpR X (compareOp .Eq) (rEqW X.K) := by
 intro pn s σ H a b v1 v2 Q I ra rb ⟨d, e, da, db, wd, we, q⟩
 obtain ⟨l1, k1⟩ := Dp.reads I d a v1 da ra
 obtain ⟨l2, k2⟩ := Dp.reads I e b v2 db rb
 exact SeqAt.compareEq_reads k1 k2 wd.1 we.1 (room_w wd hu) ⟨.bl _, H, I, rfl, q⟩
theorem op_neW (hu : X.A.units + 195 < cLine) : OpR X (compareOp .NotEq) (rNeW X.K) := by
 intro pn s σ H a b v1 v2 Q I ra rb ⟨d, e, da, db, wd, we, q⟩
 obtain ⟨l1, k1⟩ := Dp.reads I d a v1 da ra
 obtain ⟨l2, k2⟩ := Dp.reads I e b v2 db rb
 exact SeqAt.compareNe_reads k1 k2 wd.1 we.1 (room_w wd hu) ⟨.bl _, H, I, rfl, q⟩
def rIndexW (K : PySem.W.Frag) : V -> List V -> Hp -> VK -> Prop := fun x xs H Q => ∃ (a : Addr) (y : V) (d : PyData) (ds : List PyData) (j : Nat) (z : PyData), x = V.ref a /\ xs = [y] /\ Dp K H (V.ref a) (.list ds) /\ Dp K H y d /\
 PyData.canLayAll0 ds = true /\ Wd d /\ ds[j]? = some z /\ PyData.eqv z d = true /\ (∀ (m : Nat) (z' : PyData), m < j -> ds[m]? = some z' -> PyData.eqv z' d = false) /\ Q (.int (j : Nat)) H
theorem mt_indexW (hu : X.A.units + 196 < cLine) : MtR X "list.index" (rIndexW X.K) := by
 intro pn s σ H x xs v us Q I rx rs ⟨a, y, d, ds, j, z, ex, exs, dl, dy, lay, wd, ez, eqz, before, q⟩
 subst ex exs
 cases rx
 cases rs with
 | cons ry rt =>
  rename_i uy ut
  cases rt
  obtain ⟨ls, k1⟩ := Dp.reads I d y uy dy ry
  have room : X.A.units + 1 + min (PyData.depthAll ds) d.depth < cLine := by
   have h1 := wd.2
   have h2 : min (PyData.depthAll ds) d.depth <= d.depth := Nat.min_le_right ..
   omega
  cases dl with
  | lst dh da =>
   obtain ⟨its, vals, ⟨⟨c1, c2, c3, c4⟩, cnt, hget, hcls, hdict, hdata⟩, hlen⟩ := I.list dh
   simp only at hcls hdata
   subst hcls hdata
   obtain ⟨ms, k2⟩ := Dp.readsAll I ds _ its da vals
   have el : its.length = ds.length := SeqAt.ReadsAll.length ds its ms k2
   have em : its.map (SeqAt.readOf s.heap) = ds := SeqAt.readsAll_map ds its ms lay k2
   have szl := sizeLine_eq
   have vlen := vals.length
   obtain ⟨jd, _⟩ := List.getElem?_eq_some_iff.mp ez
   have jl : j < its.length := by omega
   have ja : j < its.toArray.size := by simpa using jl
   have look : ∀ (m : Nat) (hm : m < its.toArray.size) (z' : PyData), ds[m]? = some z' -> SeqAt.readOf s.heap its.toArray[m] = z' := by
    intro m hm z' e
    have hm' : m < its.length := by simpa using hm
    rw [<- em, List.getElem?_map, List.getElem?_eq_getElem hm'] at e
    have e' := Option.some.inj (show some (SeqAt.readOf s.heap its[m]) = some z' from e)
    simpa using e'
   refine call_meets PySem.F.slot_list_index ⟨_, hget, rfl⟩ PySem.F.entry_list_index (PySem.F.args_list_index_2 _ _)
    (SeqAt.list_indexAt a its.toArray cnt c2 c4 uy (fun u => PyData.eqv (SeqAt.readOf s.heap u) d) j ja (by omega) ?_ ?_) ⟨hget, SeqAt.items_eqAt (vs := its.toArray) (show ReadsAll s.heap its.toArray.toList ds ms from k2) k1 lay wd.1 room, ?_⟩
   ·show PyData.eqv (SeqAt.readOf s.heap its.toArray[j]) d = true
    rw [look j ja z ez]; exact eqz
   ·intro m hm hmj
    have e : ds[m]? = some ds[m] := List.getElem?_eq_getElem (show m < ds.length by omega)
    show PyData.eqv (SeqAt.readOf s.heap its.toArray[m]) d = false
    rw [look m hm _ e]; exact before m _ hmj e
   ·exact ⟨.int (j : Nat), H, I.tok _, ⟨_, rfl⟩, q⟩
def rSortedW (K : PySem.W.Frag) {β : Type} (enc : β -> PyData) (vs : List V) (H : Hp) (Q : VK) : Prop := ∃ (a : Addr) (xs : List V) (bs : List β), vs = [V.ref a] /\ (SqL K H a xs \/ SqT K H a xs) /\ Bears K H enc xs bs /\ AllAlike (bs.map enc) /\ Sortable (bs.map enc) /\ bs.length <= 10000000 /\ (∀ b ∈ bs, (enc b).depth <= 190) /\
 ∀ (p : Addr) (ys : List V), H p = none -> Bears K H enc ys (bs.mergeSort (dataLe false enc)) -> Q (.ref p) (upd H p (.lst ys))
theorem cr_sortedW {β : Type} (enc : β -> PyData) (hu : X.A.units + 195 < cLine) : CallR X (.builtin "sorted") (rSortedW X.K enc) := by
 intro pn s σ H vs us Q I r ⟨a, xs, bs, e, hs, hb, hal, hsr, hl, hd, q⟩
 subst e
 rw [Vals.ref1 r]
 rcases hs with hs | hs
 ·obtain ⟨its, rv, hli, _⟩ := I.list hs
  obtain ⟨e1, e2⟩ := each_of I hb rv
  refine sorted_lstK (kw := []) (vs := its) (bs := bs) (enc := enc) (b := false) (R := fun u b => ∃ v, RelV v u /\ Dp X.K H v (enc b)) plain_is_rev (args_sorted1 _) (fun _ => args_list_sort _) hli e1 e2 hal hsr (by rw [sizeLine_eq]; omega) (fun b m => by have := hd b m; omega) fun out h' h2 n k1 k2 hat ho h1 => ?_
  obtain ⟨ys, g2, g3⟩ := of_each h1
  have I' : Inv X pn σ H { s with heap := h' } := I.kept (t' := s.toks) k1
  have hlen : ys.length <= sizeLine := by rw [g2.length, ho, sizeLine_eq]; omega
  exact ⟨.ref _, upd H h'.objs.size (.lst ys), I'.laid (t' := s.toks) (fun b o e => k2 b o e) (Nat.le_refl _) ⟨hlen, out, n, g2, hat⟩, rfl, q _ ys (I'.hok.fresh (Nat.le_refl _)) g3⟩
 ·obtain ⟨its, rv, hli, _⟩ := I.tuple hs
  obtain ⟨e1, e2⟩ := each_of I hb rv
  refine sorted_tupK (kw := []) (vs := its) (bs := bs) (enc := enc) (b := false) (R := fun u b => ∃ v, RelV v u /\ Dp X.K H v (enc b)) plain_is_rev (args_sorted1 _) (fun _ => args_list_sort _) hli e1 e2 hal hsr (by rw [sizeLine_eq]; omega) (fun b m => by have := hd b m; omega) fun out h' h2 n k1 k2 hat ho h1 => ?_
  obtain ⟨ys, g2, g3⟩ := of_each h1
  have I' : Inv X pn σ H { s with heap := h' } := I.kept (t' := s.toks) k1
  have hlen : ys.length <= sizeLine := by rw [g2.length, ho, sizeLine_eq]; omega
  exact ⟨.ref _, upd H h'.objs.size (.lst ys), I'.laid (t' := s.toks) (fun b o e => k2 b o e) (Nat.le_refl _) ⟨hlen, out, n, g2, hat⟩, rfl, q _ ys (I'.hok.fresh (Nat.le_refl _)) g3⟩
end
theorem Gr.wd {C : Int} {g : Gr} (h : g.Ok C) (hd : g.deep <= 63) : Wd g.enc := ⟨by simp [Gr.enc, PyData.canLay0, Gr.lays h], by have := g.enc_depth; omega⟩
theorem Gr.wd_t {C : Int} {t : Tr} (h0 : NameOk t.1) (h : t.2.Ok C) (hd : t.2.deep <= 62) : Wd (Gr.tEnc t) := ⟨by simp [Gr.tEnc, Gr.enc, PyData.canLay0, PyData.canLayAll0, Gr.lays h, Gr.strOk_name h0], by have := Gr.tEnc_depth t; omega⟩
theorem Gr.lay_ts {C : Int} : ∀ {ps : List (Tr × Int)}, (∀ p ∈ ps, NameOk p.1.1 /\ p.1.2.Ok C) -> PyData.canLayAll0 (ps.map fun p => Gr.tEnc p.1) = true
 | [], _ => by simp [PyData.canLayAll0]
 | p :: r, h => by
  obtain ⟨a, b⟩ := h p (by simp)
  rw [List.map_cons, PyData.canLayAll0, lay_ts fun q hq => h q (by simp [hq])]
  simp [Gr.tEnc, Gr.enc, PyData.canLay0, PyData.canLayAll0, Gr.lays b, Gr.strOk_name a]
theorem Gr.t_eqv (a b : Tr) : PyData.eqv (Gr.tEnc a) (Gr.tEnc b) = decide (a = b) := Orderly.eq a b
def Bk.far (b : Bk) (k : Str) (n : Int) : Int := match b.get k with
 | some kd => if kd.w = true then n else 0
 | none => 0
theorem Bk.far_le (b : Bk) (k : Str) {n : Int} (h : 0 <= n) : 0 <= b.far k n /\ b.far k n <= n := by
 unfold Bk.far
 split
 ·split <;> omega
 ·omega
namespace Gr
variable {b : Bk} {n : Int} {C F E : Int} {g fr : Gr}
def grw (r : Ru) (n : Int) : Gr := tgt r.1 (tmsG r.2 n)
theorem grw_ok {r : Ru} (h : RuOk r) (hn : 0 <= n) : (grw r n).Ok (1000000001 * n + 2000000002) := by
 have h2 := tms_ok h.2.1 (by omega) hn
 exact (tgt_ok2 h.1 h2 (by omega) (by omega)).mono (by omega)
theorem grw_parts {r : Ru} (h : RuOk r) (n : Int) : (grw r n).parts <= 4 := by
 have h1 := tgt_parts r.1 (tmsG r.2 n)
 have h2 := tms_parts r.2 n
 have h3 := h.2.2
 unfold grw
 omega
theorem grw_deep {r : Ru} (h : RuOk r) (n : Int) : (grw r n).deep <= 4 := by
 have h1 := within_deep (grw r n)
 have h2 := grw_parts h n
 omega
theorem grw_named {r : Ru} {ns : List Str} (h : ∀ p ∈ Ru.within r, p.1.1 ∈ ns) (n : Int) : Named ns (grw r n) :=
 named_tgt (fun x hx => h x (List.mem_append_left _ hx)) (named_tms (fun x hx => h x (List.mem_append_right _ hx)) n)
def stk (b : Bk) (n : Int) (fr : Gr) : Pl -> Gr -> Gr × Pl
 | [], g => (g, [])
 | i :: r, g => match g.ps[i]? with
  | none => (g, [])
  | some p => if r = [] then (tgt (wo g p.1 1) fr, []) else
    (tgt (wo g p.1 1) (one (p.1.1, (stk b n fr r p.1.2).1) (1 + b.far p.1.1 n)), pos (tgt (wo g p.1 1) (one (p.1.1, (stk b n fr r p.1.2).1) (1 + b.far p.1.1 n))) (p.1.1, (stk b n fr r p.1.2).1) :: (stk b n fr r p.1.2).2)
def bareAt : Gr -> Pl -> Option Str
 | _, [] => none
 | g, i :: r => match g.ps[i]? with
  | none => none
  | some p => if r = [] then (if p.1.2 = .nil then some p.1.1 else none) else bareAt p.1.2 r
theorem stk_one {i : Nat} {p : Tr × Int} (e : g.ps[i]? = some p) : stk b n fr [i] g = (tgt (wo g p.1 1) fr, []) := by
 rw [stk, e]; rfl
def chg (b : Bk) (n : Int) (fr : Gr) (r : Pl) (p : Tr × Int) : Tr := (p.1.1, (stk b n fr r p.1.2).1)
def chR (b : Bk) (n : Int) (fr : Gr) (r : Pl) (g : Gr) (p : Tr × Int) : Gr := tgt (wo g p.1 1) (one (chg b n fr r p) (1 + b.far p.1.1 n))
theorem stk_more {i : Nat} {r : Pl} {p : Tr × Int} (e : g.ps[i]? = some p) (hr : r ≠ []) : stk b n fr (i :: r) g = (chR b n fr r g p, pos (chR b n fr r g p) (chg b n fr r p) :: (stk b n fr r p.1.2).2) := by
 rw [stk, e]
 simp only [if_neg hr]
 rfl
theorem bare_one {i : Nat} {k : Str} (h : bareAt g [i] = some k) : ∃ p, g.ps[i]? = some p /\ p.1 = (k, .nil) := by
 rw [bareAt] at h
 cases e : g.ps[i]? with
 | none => rw [e] at h; cases h
 | some p =>
  rw [e] at h
  simp only [if_true] at h
  by_cases z : p.1.2 = .nil
  ·rw [if_pos z] at h
   exact ⟨p, rfl, Prod.ext (Option.some.inj h) z⟩
  ·rw [if_neg z] at h; cases h
theorem bare_more {i : Nat} {r : Pl} {k : Str} (hr : r ≠ []) (h : bareAt g (i :: r) = some k) : ∃ p, g.ps[i]? = some p /\ bareAt p.1.2 r = some k := by
 rw [bareAt] at h
 cases e : g.ps[i]? with
 | none => rw [e] at h; cases h
 | some p =>
  rw [e] at h
  simp only [if_neg hr] at h
  exact ⟨p, rfl, h⟩
theorem bare_ne {pl : Pl} {k : Str} (h : bareAt g pl = some k) : pl ≠ [] := fun z => by rw [z] at h; cases h
theorem wo_okM {t : Tr} {m : Int} (h : g.Ok C) (hm : 0 <= m) (hC : C <= E) : ∀ p ∈ (wo g t m).ps, NameOk p.1.1 /\ p.1.2.Ok E /\ 1 <= p.2 := ok_three (wo_ok h hm) hC
theorem S_wo_le (h : g.Ok C) {t : Tr} {m : Int} (hm : 0 <= m) (x : Tr) : S (wo g t m) x <= S g x := by
 rw [S_wo h hm]
 split
 ·next e => 
  subst e
  have := S_nonneg h x
  split <;> omega
 ·exact Int.le_refl _
theorem ok_mem (h : g.Ok C) {p : Tr × Int} (hp : p ∈ g.ps) : NameOk p.1.1 /\ p.1.2.Ok C /\ 1 <= p.2 /\ p.2 < C := (ok_iff.mp h).1 p hp
theorem C_pos {p : Tr × Int} (h : g.Ok C) (hp : p ∈ g.ps) : 2 <= C := by have := (ok_mem h hp).2.2; omega
theorem stk_ok (hn : 0 <= n) (hF : 1 <= F) (hfr : fr.Ok F) : ∀ {pl : Pl} {g : Gr} {k : Str}, g.Ok C -> bareAt g pl = some k -> (stk b n fr pl g).1.Ok (C + F + n + 2)
 | [], _, _, _, h => nomatch h
 | i :: r, g, k, ho, h => by
  by_cases hr : r = []
  ·subst hr
   obtain ⟨p, e, _⟩ := bare_one h
   rw [stk_one e]
   have hC := C_pos ho (List.mem_of_getElem? e)
   exact (tgt_ok2 (wo_ok ho (by omega)) hfr (by omega) hF).mono (by omega)
  ·obtain ⟨p, e, h2⟩ := bare_more hr h
   rw [stk_more e hr]
   have pm := List.mem_of_getElem? e
   have hC := C_pos ho pm
   obtain ⟨a, o, _, _⟩ := ok_mem ho pm
   have ih := stk_ok hn hF hfr o h2
   obtain ⟨f1, f2⟩ := Bk.far_le b p.1.1 hn
   refine tgt_okM (wo_okM ho (by omega) (by omega)) (fun q hq => ?_) fun t => ?_
   ·rw [one_ps] at hq
    rw [List.mem_singleton.mp hq]
    exact ⟨a, ih, by show 1 <= 1 + b.far p.1.1 n; omega⟩
   ·have h1 := S_wo_le ho (t := p.1) (m := 1) (by omega) t
    have h3 := S_lt ho (by omega) t
    rw [S_one]
    split <;> omega
theorem stk_parts : ∀ {pl : Pl} {g : Gr} {k : Str}, bareAt g pl = some k -> (stk b n fr pl g).1.parts <= pl.length * (g.parts + 1) + fr.parts
 | [], _, _, h => nomatch h
 | i :: r, g, k, h => by
  by_cases hr : r = []
  ·subst hr
   obtain ⟨p, e, _⟩ := bare_one h
   rw [stk_one e]
   have h1 := tgt_parts (wo g p.1 1) fr
   have h2 := wo_parts g p.1 1
   simp only [List.length_cons, List.length_nil]
   omega
  ·obtain ⟨p, e, h2⟩ := bare_more hr h
   rw [stk_more e hr]
   have pm := List.mem_of_getElem? e
   have ih := stk_parts h2
   have h3 := tgt_parts (wo g p.1 1) (one (chg b n fr r p) (1 + b.far p.1.1 n))
   have h4 := wo_parts g p.1 1
   have h5 : (one (chg b n fr r p) (1 + b.far p.1.1 n)).parts = 1 + (stk b n fr r p.1.2).1.parts := rfl
   have h6 := mem_parts g p pm
   have h7 : r.length * (p.1.2.parts + 1) <= r.length * (g.parts + 1) := Nat.mul_le_mul_left _ (by omega)
   show (chR b n fr r g p).parts <= _
   rw [List.length_cons, Nat.succ_mul]
   unfold chR
   omega
theorem stk_deep : ∀ {pl : Pl} {g : Gr} {k : Str}, bareAt g pl = some k -> (stk b n fr pl g).1.deep <= max g.deep (pl.length - 1 + fr.deep)
 | [], _, _, h => nomatch h
 | i :: r, g, k, h => by
  by_cases hr : r = []
  ·subst hr
   obtain ⟨p, e, _⟩ := bare_one h
   rw [stk_one e]
   have h2 := wo_deep g p.1 1
   exact tgt_deep (by omega) (by simp only [List.length_cons, List.length_nil]; omega)
  ·obtain ⟨p, e, h2⟩ := bare_more hr h
   rw [stk_more e hr]
   have pm := List.mem_of_getElem? e
   have ih := stk_deep h2
   have h4 := wo_deep g p.1 1
   have h5 : (one (chg b n fr r p) (1 + b.far p.1.1 n)).deep = max (1 + (stk b n fr r p.1.2).1.deep) 0 := rfl
   have h6 := mem_deep g p pm
   have h7 : 0 < r.length := List.length_pos_iff.mpr hr
   refine tgt_deep (by omega) ?_
   rw [h5, List.length_cons]
   omega
theorem bare_len : ∀ {pl : Pl} {g : Gr} {k : Str}, bareAt g pl = some k -> pl.length <= g.deep
 | [], _, _, h => nomatch h
 | i :: r, g, k, h => by
  by_cases hr : r = []
  ·subst hr
   obtain ⟨p, e, _⟩ := bare_one h
   have := mem_deep g p (List.mem_of_getElem? e)
   simp only [List.length_cons, List.length_nil]
   omega
  ·obtain ⟨p, e, h2⟩ := bare_more hr h
   have := mem_deep g p (List.mem_of_getElem? e)
   have := bare_len h2
   simp only [List.length_cons]
   omega
theorem stk_named {ns : List Str} (hfr : Named ns fr) : ∀ {pl : Pl} {g : Gr} {k : Str}, bareAt g pl = some k -> Named ns g -> Named ns (stk b n fr pl g).1
 | [], _, _, h, _ => nomatch h
 | i :: r, g, k, h, hg => by
  by_cases hr : r = []
  ·subst hr
   obtain ⟨p, e, _⟩ := bare_one h
   rw [stk_one e]
   exact named_tgt (named_wo hg _ _) hfr
  ·obtain ⟨p, e, h2⟩ := bare_more hr h
   rw [stk_more e hr]
   obtain ⟨h3, h4⟩ := named_iff.mp hg p (List.mem_of_getElem? e)
   exact named_tgt (named_wo hg _ _) (named_one (t := chg b n fr r p) h3 (stk_named hfr h2 h4) _)
theorem stk_plen : ∀ {pl : Pl} {g : Gr} {k : Str}, bareAt g pl = some k -> (stk b n fr pl g).2.length = pl.length - 1
 | [], _, _, h => nomatch h
 | i :: r, g, k, h => by
  by_cases hr : r = []
  ·subst hr
   obtain ⟨p, e, _⟩ := bare_one h
   rw [stk_one e]; rfl
  ·obtain ⟨p, e, h2⟩ := bare_more hr h
   rw [stk_more e hr]
   have ih := stk_plen h2
   have h7 : 0 < r.length := List.length_pos_iff.mpr hr
   simp only [List.length_cons]
   omega
theorem bare_lk : ∀ {pl : Pl} {g : Gr} {k : Str} (a : Str), bareAt g pl = some k -> lk (a, g) (plO pl) = some (k, .nil)
 | [], _, _, _, h => nomatch h
 | i :: r, g, k, a, h => by
  have hs : ∀ p, g.ps[i]? = some p -> stp g (some (i : Int)) = some p.1 := fun p e => by
   show (if 0 <= (i : Int) then (g.ps[(i : Int).toNat]?).map (·.1) else none) = _
   rw [if_pos (by omega), Int.toNat_natCast, e]; rfl
  by_cases hr : r = []
  ·subst hr
   obtain ⟨p, e, e2⟩ := bare_one h
   show (stp g (some (i : Int))).bind (fun u => lk u (plO [])) = _
   rw [hs p e, e2]; rfl
  ·obtain ⟨p, e, h2⟩ := bare_more hr h
   show (stp g (some (i : Int))).bind (fun u => lk u (plO r)) = _
   rw [hs p e]
   exact bare_lk p.1.1 h2
theorem bks_at : ∀ {ps : List (Tr × Int)} {j : Nat} {x : Pl × Str}, x ∈ bks ps j -> ∃ i p, ps[i]? = some p /\ x ∈ bkP p (j + i)
 | [], _, _, h => nomatch h
 | p :: r, j, x, h => by
  rcases List.mem_append.mp h with h | h
  ·exact ⟨0, p, rfl, h⟩
  ·obtain ⟨i, q, e, h2⟩ := bks_at h
   exact ⟨i + 1, q, e, by rw [show j + (i + 1) = j + 1 + i by omega]; exact h2⟩
theorem bk_bare : ∀ (m : Nat) {g : Gr} {x : Pl × Str}, x.1.length <= m -> x ∈ g.bk 0 -> bareAt g x.1 = some x.2
 | 0, g, x, hl, h => by
  rw [bk_ps] at h
  obtain ⟨i, p, e, h2⟩ := bks_at h
  unfold bkP at h2
  split at h2
  ·rw [List.mem_singleton.mp h2] at hl; simp at hl
  ·obtain ⟨y, _, rfl⟩ := List.mem_map.mp h2; simp at hl
 | m + 1, g, x, hl, h => by
  rw [bk_ps] at h
  obtain ⟨i, p, e, h2⟩ := bks_at h
  rw [Nat.zero_add] at h2
  unfold bkP at h2
  split at h2
  ·next z =>
   rw [List.mem_singleton.mp h2]
   show bareAt g [i] = _
   rw [bareAt, e]
   simp [z]
  ·obtain ⟨y, hy, rfl⟩ := List.mem_map.mp h2
   have h3 : y.1 ≠ [] := by
    rw [bk_ps] at hy
    obtain ⟨i', p', e', h'⟩ := bks_at hy
    unfold bkP at h'
    split at h'
    ·rw [List.mem_singleton.mp h']; simp
    ·obtain ⟨y', _, rfl⟩ := List.mem_map.mp h'; simp
   have ih := bk_bare m (x := y) (by simp only [List.length_cons] at hl; omega) hy
   show bareAt g (i :: y.1) = _
   rw [bareAt, e]
   simp only [if_neg h3]
   exact ih
end Gr
def spJoinedW (K : PySem.W.Frag) {γ : Type} [DecidableEq γ] (enc : γ -> PyData) : Sp := fun vs H Q _ => ∃ (a : Addr) (xs : List V) (bs : List (γ × Int)), vs = [.ref a] /\ SqL K H a xs /\ Bears K H (pairE enc) xs bs /\ bs.length <= 5000 /\ (∀ b ∈ bs, Wd (enc b.1)) /\
 ∀ (c : Addr) (ys : List V) (H' : Hp), SB [] H H' -> SqT K H' c ys -> Bears K H' (pairE enc) ys (jn bs) -> Q (.ref c) H'
def spTogetherF (K : PySem.W.Frag) : Sp := fun vs H Q _ => ∃ (v u : V) (g k : Gr), vs = [v, u] /\ GA K H v g /\ GA K H u k /\ (∃ C, g.Ok C /\ k.Ok C) /\ g.deep <= 63 /\ k.deep <= 63 /\ g.ps.length <= 2100 /\ k.ps.length <= 2100 /\ ∀ (x : V) (H' : Hp), SB [] H H' -> GA K H' x (Gr.tgt g k) -> Q x H'
def spWithout (K : PySem.W.Frag) : Sp := fun vs H Q _ => ∃ (v u : V) (g : Gr) (t : Tr) (m : Int), vs = [v, u, .int m] /\ GA K H v g /\ Dp K H u (Gr.tEnc t) /\ (∃ C, g.Ok C /\ t.2.Ok C) /\ NameOk t.1 /\ g.deep <= 63 /\ t.2.deep <= 62 /\ g.ps.length <= 5000 /\ ∀ (x : V) (H' : Hp), SB [] H H' -> GA K H' x (Gr.wo g t m) -> Q x H'
def spTimes (K : PySem.W.Frag) : Sp := fun vs H Q _ => ∃ (v : V) (g : Gr) (m : Int), vs = [v, .int m] /\ GA K H v g /\ g.ps.length <= 5000 /\ (∀ p ∈ g.ps, 0 <= p.2 /\ p.2 < 2 ^ 2000) /\ 0 <= m /\ m < 2 ^ 2000 /\ ∀ (x : V) (H' : Hp), SB [] H H' -> GA K H' x (Gr.tmsG g m) -> Q x H'
def spNumOf (K : PySem.W.Frag) : Sp := fun vs H Q _ => ∃ (v u : V) (g : Gr) (t : Tr) (m : Int), vs = [v, u] /\ GA K H v g /\ Dp K H u (Gr.tEnc t) /\ (∃ C, g.Ok C) /\ g.deep <= 63 /\ g.ps.length <= 5000 /\ (t, m) ∈ g.ps /\ ∀ H', SB [] H H' -> Q (.int (Gr.pos g t : Nat)) H'
def spGrown (K : PySem.W.Frag) : Sp := fun vs H Q _ => ∃ (v : V) (r : Ru) (n : Int), vs = [v, .int n] /\ Dp K H v (Ru.enc r) /\ RuOk r /\ 0 <= n /\ n < 2 ^ 900 /\ ∀ (x : V) (H' : Hp), SB [] H H' -> GA K H' x (Gr.grw r n) -> Q x H'
def spFar (K : PySem.W.Frag) (C : Addr) : Sp := fun vs H Q _ => ∃ (v : V) (b : Bk) (k : Str) (n : Int), vs = [v, .str k, .int n] /\ BkA K C H v b /\ b.length <= 1000 /\ k ∈ b.names /\ ∀ H', SB [] H H' -> Q (.int (b.far k n)) H'
def spChkNum (K : PySem.W.Frag) (C : Addr) : Sp := fun vs H Q E => ∃ (v : V) (o : Option Int), vs = [v] /\ Wh K H v o /\ ((∃ n, o = some n /\ 0 <= n) -> ∀ H', SB [] H H' -> Q .non H') /\ ((∀ n, o = some n -> n < 0) -> ∀ H', SB [] H H' -> E (.ref C) none H')
abbrev noR : Ru := (.nil, .nil)
def spRuleAt (K : PySem.W.Frag) (C R : Addr) : Sp := fun vs H Q E => ∃ (v x : V) (b : Bk) (k : Str) (kd : Kd) (o : Option Int), vs = [v, .str k, x] /\ BkA K C H v b /\ b.Ok /\ b.get k = some kd /\ Wh K H x o /\
 (∀ (i : Nat) (r : Ru), o = some (i : Int) -> (noR :: kd.rs)[i]? = some r -> ∀ (y : V) (H' : Hp), SB [] H H' -> Dp K H' y (Ru.enc r) -> Q y H') /\ ((∀ i : Nat, o = some (i : Int) -> (noR :: kd.rs)[i]? = none) -> ∀ H', SB [] H H' -> E (.ref R) none H')
def spChkBound (K : PySem.W.Frag) (C : Addr) : Sp := fun vs H Q E => ∃ (v : V) (g : Gr), vs = [v] /\ GA K H v g /\ g.deep <= 68 /\ g.parts <= 200000 /\ ((g.parts <= 2000 /\ g.deep <= 60) -> ∀ H', SB [] H H' -> Q .non H') /\ (¬ (g.parts <= 2000 /\ g.deep <= 60) -> ∀ H', SB [] H H' -> E (.ref C) none H')
def spKindsF (K : PySem.W.Frag) : Sp := fun vs H Q _ => ∃ (v : V) (g : Gr) (ns : List Str), vs = [v] /\ GA K H v g /\ g.deep <= 68 /\ g.parts <= 3000 /\ Gr.Named ns g /\ ns.length <= 60 /\ ∀ (l : Addr) (ss : List Str) (H' : Hp), SB [] H H' -> H l = none -> H' l = some (.lst (ss.map V.str)) -> SrtOf ss (g.within.map (·.1.1)) -> ss.length <= 60 -> Q (.ref l) H'
def spCheckKsF (K : PySem.W.Frag) (C : Addr) : Sp := fun vs H Q E => ∃ (v w : V) (b : Bk) (g : Gr), vs = [v, w] /\ BkA K C H v b /\ GA K H w g /\ b.length <= 60 /\ g.deep <= 68 /\ g.parts <= 3000 /\ Gr.Named b.names g /\ ∀ H', SB [] H H' -> Q .non H'
def spStruck (K : PySem.W.Frag) (C : Addr) (m : Nat) : Sp := fun vs H Q _ => ∃ (v w fv : V) (a : Addr) (n D F : Int) (b : Bk) (g fr : Gr) (pl : Pl) (k : Str), vs = [v, w, .ref a, fv, .int n] /\ (BkA K C H v b /\ b.Ok) /\ (GA K H w g /\ g.Ok D /\ g.deep <= 60 /\ g.parts <= 2000 /\ Gr.Named b.names g) /\ (GA K H fv fr /\ 1 <= F /\ fr.Ok F /\ fr.deep <= 4 /\ fr.parts <= 4) /\ SqT K H a (pl.map fun n : Nat => V.int (n : Int)) /\ Gr.bareAt g pl = some k /\ pl.length < m /\ 0 <= n /\
 ∀ (t : Addr) (u p : V) (H' : Hp), SB [] H H' -> SqT K H' t [u, p] -> GA K H' u (Gr.stk b n fr pl g).1 -> Dp K H' p (plEnc (Gr.stk b n fr pl g).2) -> Q (.ref t) H'
def InBound (g : Gr) : Prop := g.parts <= 2000 /\ g.deep <= 60
def spFallen (K : PySem.W.Frag) (C NP NR NN TG : Addr) : Sp := fun vs H Q E => ∃ (v w x y : V) (a : Addr) (b : Bk) (g : Gr) (D : Int) (xs : List V) (os : List (Option Int)) (ro so : Option Int), vs = [v, w, .ref a, x, y] /\ (BkA K C H v b /\ b.Ok) /\ (GA K H w g /\ g.Ok D /\ g.deep <= 60 /\ g.parts <= 2000 /\ Gr.Named b.names g) /\ (SqT K H a xs /\ Whs K H xs os) /\ Wh K H x ro /\ Wh K H y so /\ (∀ n, so = some n -> n < 2 ^ 900) /\
 ((∀ pl k, os = plO pl -> Gr.bareAt g pl ≠ some k) -> ∀ H', SB [] H H' -> E (.ref NP) none H') /\
 ∀ (pl : Pl) (k : Str) (kd : Kd), os = plO pl -> Gr.bareAt g pl = some k -> b.get k = some kd ->
  ((∀ i : Nat, ro = some (i : Int) -> (noR :: kd.rs)[i]? = none) -> ∀ H', SB [] H H' -> E (.ref NR) none H') /\
  ∀ (i : Nat) (r : Ru), ro = some (i : Int) -> (noR :: kd.rs)[i]? = some r ->
   ((∀ n, so = some n -> n < 0) -> ∀ H', SB [] H H' -> E (.ref NN) none H') /\
   ∀ n : Int, so = some n -> 0 <= n ->
    (¬ InBound (Gr.stk b n (Gr.grw r n) pl g).1 -> ∀ H', SB [] H H' -> E (.ref TG) none H') /\
    (InBound (Gr.stk b n (Gr.grw r n) pl g).1 -> ∀ (t : Addr) (u p : V) (H' : Hp), SB [] H H' -> H t = none -> SqT K H' t [u, p] -> GA K H' u (Gr.stk b n (Gr.grw r n) pl g).1 -> Dp K H' p (plEnc (Gr.stk b n (Gr.grw r n) pl g).2) -> Q (.ref t) H')
namespace Gr
variable {b : Bk} {n : Int} {C F : Int} {g fr : Gr}
theorem chR_mem (hn : 0 <= n) (hF : 1 <= F) (hfr : fr.Ok F) {i : Nat} {r : Pl} {p : Tr × Int} {k : Str} (ho : g.Ok C) (hr : r ≠ []) (e : g.ps[i]? = some p) (h : bareAt g (i :: r) = some k) : (∃ D, (chR b n fr r g p).Ok D) /\ ∃ m, (chg b n fr r p, m) ∈ (chR b n fr r g p).ps := by
 have h1 := stk_ok (b := b) hn hF hfr ho h
 rw [stk_more e hr] at h1
 refine ⟨⟨_, h1⟩, ?_⟩
 have h2 : 1 <= S (chR b n fr r g p) (chg b n fr r p) := by
  show 1 <= S (tgt _ _) _
  rw [S_tgt, S_one, if_pos rfl]
  have := S_nonneg (wo_ok ho (t := p.1) (m := 1) (by omega)) (chg b n fr r p)
  have := (Bk.far_le b p.1.1 hn).1
  omega
 obtain ⟨m, hm, _⟩ := S_pos h1 h2
 exact ⟨m, hm⟩
end Gr
theorem Gr.lk_bare : ∀ {os : List (Option Int)} {g : Gr} {a : Str} {t : Tr}, os ≠ [] -> lk (a, g) os = some t -> ∃ pl, os = plO pl /\ (t.2 = .nil -> Gr.bareAt g pl = some t.1)
 | [], _, _, _, h, _ => absurd rfl h
 | o :: r, g, a, t, _, h => by
  rw [lk] at h
  obtain ⟨u, hu, h2⟩ := Option.bind_eq_some_iff.mp h
  cases o with
  | none => cases hu
  | some n =>
   change (if 0 <= n then (g.ps[n.toNat]?).map (·.1) else none) = some u at hu
   by_cases h0 : 0 <= n
   ·rw [if_pos h0] at hu
    obtain ⟨p, ep, rfl⟩ := Option.map_eq_some_iff.mp hu
    have en : some n = some ((n.toNat : Nat) : Int) := by rw [Int.toNat_of_nonneg h0]
    by_cases hr : r = []
    ·subst hr
     have e : p.1 = t := Option.some.inj h2
     refine ⟨[n.toNat], by rw [en]; rfl, fun z => ?_⟩
     rw [Gr.bareAt, ep]
     simp only [if_true]
     rw [e, if_pos z]
    ·obtain ⟨pl, e, h3⟩ := lk_bare (a := p.1.1) (g := p.1.2) hr h2
     refine ⟨n.toNat :: pl, by rw [e, en]; rfl, fun z => ?_⟩
     have hp : pl ≠ [] := fun z => hr (by rw [e, z]; rfl)
     rw [Gr.bareAt, ep]
     simp only [if_neg hp]
     exact h3 z
   ·rw [if_neg h0] at hu; cases hu
theorem Gr.bare_named {ns : List Str} : ∀ {pl : Pl} {g : Gr} {k : Str}, Gr.Named ns g -> Gr.bareAt g pl = some k -> k ∈ ns
 | [], _, _, _, h => nomatch h
 | i :: r, g, k, hn, h => by
  by_cases hr : r = []
  ·subst hr
   obtain ⟨p, e, e2⟩ := Gr.bare_one h
   have := (Gr.named_iff.mp hn p (List.mem_of_getElem? e)).1
   rwa [e2] at this
  ·obtain ⟨p, e, h2⟩ := Gr.bare_more hr h
   exact bare_named (Gr.named_iff.mp hn p (List.mem_of_getElem? e)).2 h2
theorem Whs.ints {K : PySem.W.Frag} {H : Hp} : ∀ {pl : Pl} {xs : List V}, Whs K H xs (plO pl) -> xs = pl.map fun n : Nat => V.int (n : Int)
 | [], _, h => by cases h; rfl
 | i :: r, _, h => by
  cases h with
  | cons h1 h2 =>
   rw [Whs.ints h2]
   rcases h1 with ⟨n, rfl, e⟩ | ⟨e, _⟩
   ·rw [<- Option.some.inj e]; rfl
   ·cases e
theorem Wh.int {K : PySem.W.Frag} {H : Hp} {v : V} {n : Int} (h : Wh K H v (some n)) : v = .int n := by
 rcases h with ⟨i, rfl, e⟩ | ⟨e, _⟩
 ·rw [Option.some.inj e]
 ·cases e
theorem rule_ok {kd : Kd} (h : ∀ r ∈ kd.rs, RuOk r) {i : Nat} {r : Ru} (e : (noR :: kd.rs)[i]? = some r) : RuOk r := by
 rcases List.mem_cons.mp (List.mem_of_getElem? e) with rfl | hm
 ·exact ⟨trivial, trivial, Nat.zero_le _⟩
 ·exact h r hm
theorem rule_names {ns : List Str} {kd : Kd} (h : ∀ r ∈ kd.rs, ∀ p ∈ Ru.within r, p.1.1 ∈ ns) {i : Nat} {r : Ru} (e : (noR :: kd.rs)[i]? = some r) : ∀ p ∈ Ru.within r, p.1.1 ∈ ns := by
 rcases List.mem_cons.mp (List.mem_of_getElem? e) with rfl | hm
 ·exact fun p hp => nomatch hp
 ·exact h r hm
theorem plO_inj : ∀ {p q : Pl}, plO p = plO q -> p = q
 | [], [], _ => rfl
 | [], _ :: _, h => nomatch h
 | _ :: _, [], h => nomatch h
 | i :: r, j :: s, h => by
  obtain ⟨h1, h2⟩ := List.cons.inj (show some (i : Int) :: plO r = some (j : Int) :: plO s from h)
  have := Option.some.inj h1
  rw [plO_inj h2, show i = j by omega]
def spMkBook (K : PySem.W.Frag) (C : Addr) : Sp := fun vs H Q _ => ∃ (l : Addr) (xs : List V) (b : Bk), vs = [.ref l] /\ H l = some (.lst xs) /\ KdAll K H [] xs b /\ b.Ok /\ ∀ (y : Addr) (H' : Hp), SB [] H H' -> H y = none -> BkA K C H' (.ref y) b -> Q (.ref y) H'
def spPlR (K : PySem.W.Frag) (n : Nat) : Sp := fun vs H Q _ => ∃ (v : V) (d : PyData), vs = [v] /\ Dp K H v d /\ plS d = true /\ d.depth < n /\ wide d <= 5000 /\ ∀ H', SB [] H H' -> Q (.bl true) H'
theorem eqv_pl {d : PyData} (h : plS d = true) : PyData.eqv d d = true := by
 have h1 := dl_irrefl d
 exact dl_total (alike_pl d h) h1 h1
def gpE (x : Gr × Pl) : PyData := .tuple [x.1.enc, plEnc x.2]
theorem wides_ints : ∀ p : Pl, wides (plInts p) = 0
 | [] => rfl
 | i :: r => by show max (wide (.int i)) (wides (plInts r)) = 0; rw [wides_ints r]; rfl
theorem gp_mk {K : PySem.W.Frag} {H : Hp} {t : Addr} {u p : V} {g : Gr} {pl : Pl} (h : SqT K H t [u, p]) (hu : GA K H u g) (hp : Dp K H p (plEnc pl)) : Dp K H (.ref t) (gpE (g, pl)) := .tup h (.cons hu (.cons hp .nil))
theorem Gr.wd_nil : Wd (.tuple []) := ⟨by decide +kernel, by decide +kernel⟩
theorem fall_good {K : PySem.W.Frag} {C NP NR NN TG : Addr} {H : Hp} {v w : V} {a : Addr} {b : Bk} {g : Gr} {D n : Int} {pl : Pl} {k : Str} {kd : Kd} {i : Nat} {r : Ru} {Q : VK} {E : XK} {vs : List V} (evs : vs = [v, w, .ref a, .int (i : Int), .int n]) (hv : BkA K C H v b) (ok : b.Ok) (hw : GA K H w g) (go : g.Ok D) (gd : g.deep <= 60) (gp : g.parts <= 2000) (gn : Gr.Named b.names g)
  (ha : SqT K H a (pl.map fun n : Nat => V.int (n : Int))) (hb : Gr.bareAt g pl = some k) (eg : b.get k = some kd) (er : (noR :: kd.rs)[i]? = some r) (n0 : 0 <= n) (nb : n < 2 ^ 900)
  (q : InBound (Gr.stk b n (Gr.grw r n) pl g).1 -> ∀ (t : Addr) (H' : Hp), SB [] H H' -> H t = none -> Dp K H' (.ref t) (gpE (Gr.stk b n (Gr.grw r n) pl g)) -> Q (.ref t) H')
  (qE : ¬ InBound (Gr.stk b n (Gr.grw r n) pl g).1 -> ∀ H', SB [] H H' -> E (.ref TG) none H') : spFallen K C NP NR NN TG vs H Q E := by
 subst evs
 refine ⟨v, w, .int i, .int n, a, b, g, D, _, plO pl, some (i : Int), some n, rfl, ⟨hv, ok⟩, ⟨hw, go, gd, gp, gn⟩, ⟨ha, Whs.pl K H pl⟩, .inl ⟨_, rfl, rfl⟩, .inl ⟨n, rfl, rfl⟩, (fun m e => by cases e; exact nb), fun h => absurd hb (h pl k rfl), fun pl' k' kd' e1 hb' eg' => ?_⟩
 have e1 := plO_inj e1
 subst e1
 have e2 := hb.symm.trans hb'
 cases e2
 have e3 := eg.symm.trans eg'
 cases e3
 refine ⟨fun h => absurd (h i rfl) (by rw [er]; simp), fun i' r' e4 er' => ?_⟩
 have e4 : i' = i := by have := Option.some.inj e4; omega
 subst e4
 have e5 := er.symm.trans er'
 cases e5
 refine ⟨fun h => absurd (h n rfl) (by omega), fun m em m0 => ?_⟩
 have em := Option.some.inj em
 subst em
 exact ⟨qE, fun hin t u p H' s nt ht hu hp => q hin t H' s nt (gp_mk ht hu hp)⟩
def spBareF (K : PySem.W.Frag) (n : Nat) : Sp := fun vs H Q _ => ∃ (v u : V) (g : Gr) (pl : Pl), vs = [v, u] /\ GA K H v g /\ Dp K H u (plEnc pl) /\ g.deep < n /\ g.deep + pl.length <= 63 /\ g.parts <= 5000 /\ (∃ C, g.Ok C) /\ ∀ (l : Addr) (us : List V) (H' : Hp), SB [] H H' -> H l = none -> H' l = some (.lst us) -> Bears K H' bkE us ((g.bk 0).map fun x => (pl ++ x.1, x.2)) -> Q (.ref l) H'
def spDrawn (K : PySem.W.Frag) : Sp := fun vs H Q _ => ∃ (p l : Addr) (v : V) (xs : List V) (b : Bk) (g : Gr), vs = [.ref p, .ref l, v] /\ PuW H p /\ H l = some (.lst xs) /\ l ≠ p /\ KdAll K H [p] xs b /\ b.Ok /\ GA K H v g /\ g.deep <= 60 /\ g.parts <= 2000 /\ (∃ C, g.Ok C) /\ g ≠ .nil /\ Gr.Named b.names g /\
 ∀ (T a : Addr) (pl : Pl) (k : Str) (kd : Kd) (i : Nat) (r : Ru) (n : Int) (H' : Hp), SB [p] H H' -> PuW H' p -> SqT K H' T [.ref a, .str k, .int (i : Int), .int n] -> SqT K H' a (pl.map fun n : Nat => V.int (n : Int)) -> Gr.bareAt g pl = some k -> b.get k = some kd -> (noR :: kd.rs)[i]? = some r -> 0 <= n -> n < 10 ^ 59 -> Q (.ref T) H'
theorem Gr.bk_ne : ∀ (g : Gr) (i : Nat), g ≠ .nil -> g.bk i ≠ []
 | .nil, _, h => absurd rfl h
 | .cons k g m r, i, _ => fun z => by
  rw [bk] at z
  obtain ⟨h1, _⟩ := List.append_eq_nil_iff.mp z
  split at h1
  ·cases h1
  ·next hg => exact bk_ne g 0 hg (List.map_eq_nil_iff.mp h1)
theorem gp_parts {K : PySem.W.Frag} {H : Hp} {v : V} {x : Gr × Pl} (h : Dp K H v (gpE x)) : ∃ t u a, v = .ref t /\ SqT K H t [u, .ref a] /\ GA K H u x.1 /\ SqT K H a (x.2.map fun n : Nat => V.int (n : Int)) := by
 cases h with
 | @tup t us _ hs hda =>
 cases hda with
 | cons g1 hda =>
 cases hda with
 | cons g2 hda =>
 cases hda
 obtain ⟨pa, rfl, hpa⟩ := PL_ints g2
 exact ⟨t, _, pa, rfl, hs, g1, hpa⟩
theorem nilI {σ : L2.St} {H : Hp} {Q : List V -> Hp -> Prop} (h : Q [] H) : tNil σ H Q := h
namespace Gr
variable {C D : Int} {g k : Gr} {t : Tr} {m : Int}
def putL (g : Gr) (t : Tr) (m : Int) : List (Tr × Int) := g.ps.filter (fun p => !decide (p.1 = t)) ++ (if 0 < m + S g t then [(t, m + S g t)] else [])
def putG (g : Gr) (t : Tr) (m : Int) : Gr := ofPs (srtE pEnc (putL g t m))
theorem sumE_drop (t x : Tr) : ∀ bs : List (Tr × Int), sumE (bs.filter fun p => !decide (p.1 = t)) x = if x = t then 0 else sumE bs x
 | [] => by
  show (0 : Int) = if x = t then 0 else 0
  split <;> rfl
 | p :: r => by
  have ih := sumE_drop t x r
  by_cases h : p.1 = t
  ·rw [List.filter_cons_of_neg (by simp [h]), ih, sumE_cons]
   by_cases hx : x = t
   ·rw [if_pos hx, if_pos hx]
   ·rw [if_neg hx, if_neg hx, if_neg (fun z => hx (by rw [<- z, h])), Int.zero_add]
  ·rw [List.filter_cons_of_pos (by simp [h]), sumE_cons, ih, sumE_cons]
   by_cases hx : x = t
   ·rw [if_pos hx, if_pos hx, if_neg (by rw [hx]; exact h)]; rfl
   ·rw [if_neg hx, if_neg hx]
theorem S_putG (g : Gr) (t : Tr) (m : Int) (x : Tr) : S (putG g t m) x = if x = t then (if 0 < m + S g t then m + S g t else 0) else S g x := by
 show sumE (ofPs _).ps x = _
 rw [ps_ofPs, sumE_perm (srtE_perm _), putL, sumE_append, sumE_drop]
 by_cases hx : x = t
 ·subst hx
  rw [if_pos rfl, if_pos rfl, Int.zero_add]
  split
  ·rw [sumE_cons, if_pos rfl]; exact Int.add_zero _
  ·rfl
 ·rw [if_neg hx, if_neg hx]
  split
  ·rw [sumE_cons, if_neg (fun z => hx z.symm)]
   show S g x + (0 + 0) = _
   omega
  ·exact Int.add_zero _
theorem putL_ok (ho : g.Ok C) (hn : NameOk t.1) (to : t.2.Ok C) (hm : m + S g t < C) : ((putL g t m).map (·.1)).Nodup /\ ∀ p ∈ putL g t m, NameOk p.1.1 /\ p.1.2.Ok C /\ 1 <= p.2 /\ p.2 < C := by
 constructor
 ·rw [putL, List.map_append]
  refine List.nodup_append.mpr ⟨(List.pairwise_map.mpr ((ok_ne ho).filter _)), ?_, fun x hx y hy e => ?_⟩
  ·split <;> simp
  ·obtain ⟨p, hp, rfl⟩ := List.mem_map.mp hx
   have h1 := (List.mem_filter.mp hp).2
   split at hy
   ·have : y = t := by simpa using hy
    rw [e, this] at h1
    simp at h1
   ·exact nomatch hy
 ·intro p hp
  rcases List.mem_append.mp hp with hp | hp
  ·exact ok_mem ho (List.mem_filter.mp hp).1
  ·split at hp
   ·next h0 =>
    rw [List.mem_singleton.mp hp]
    exact ⟨hn, to, by show 1 <= m + S g t; omega, hm⟩
   ·exact nomatch hp
theorem putG_ok (ho : g.Ok C) (hn : NameOk t.1) (to : t.2.Ok C) (hm : m + S g t < C) : (putG g t m).Ok C := by
 obtain ⟨h1, h2⟩ := putL_ok (m := m) ho hn to hm
 exact srt_ok h1 h2
theorem putL_len (g : Gr) (t : Tr) (m : Int) : (putL g t m).length <= g.ps.length + 1 := by
 have := List.length_filter_le (fun p : Tr × Int => !decide (p.1 = t)) g.ps
 rw [putL, List.length_append]
 split
 ·show _ + 1 <= _; omega
 ·show _ + 0 <= _; omega
theorem putG_len (g : Gr) (t : Tr) (m : Int) : (putG g t m).ps.length <= g.ps.length + 1 := by
 rw [putG, ps_ofPs, (srtE_perm _).length_eq]; exact putL_len g t m
theorem putG_deep {n : Nat} (hg : g.deep <= n) (ht : t.2.deep < n) : (putG g t m).deep <= n := by
 refine deep_le fun p hp => ?_
 rw [putG, ps_ofPs] at hp
 rcases List.mem_append.mp ((srtE_perm _).mem_iff.mp hp) with hp | hp
 ·have := mem_deep g p (List.mem_filter.mp hp).1
  omega
 ·split at hp
  ·rw [List.mem_singleton.mp hp]; exact ht
  ·exact nomatch hp
theorem putG_wo (ho : g.Ok C) (hp : (t, m) ∈ g.ps) : putG g t (-1) = wo g t 1 := by
 obtain ⟨a, b, c, d⟩ := ok_mem ho hp
 have e : S g t = m := S_mem ho hp
 refine ext (putG_ok ho a b (by rw [e]; have : m < C := d; omega)) (wo_ok ho (by omega)) fun x => ?_
 rw [S_putG, S_wo ho (by omega)]
 by_cases hx : x = t
 ·rw [if_pos hx, if_pos hx]
  split <;> split <;> omega
 ·rw [if_neg hx, if_neg hx]
theorem putG_tgt (ho : g.Ok C) (hC : 1 <= C) (hn : NameOk t.1) (to : t.2.Ok D) (hD : 1 <= D) (hm : 1 <= m) : putG g t m = tgt g (one t m) := by
 have s0 := S_nonneg ho t
 have s1 := S_lt ho hC t
 refine ext (putG_ok (C := C + D + m) (ho.mono (by omega)) hn (to.mono (by omega)) (by omega)) (tgt_ok2 ho (one_ok (C := D + m) hn (to.mono (by omega)) hm (by omega)) hC (by omega)) fun x => ?_
 rw [S_putG, S_tgt, S_one]
 by_cases hx : x = t
 ·rw [if_pos hx, if_pos hx.symm, hx, if_pos (by omega), Int.add_comm]
 ·rw [if_neg hx, if_neg (fun z => hx z.symm), Int.add_zero]
theorem laid_all {b : Bk} {n : Int} {r : Ru} {k : Gr} {g : Gr} {E : Int} (hr : RuOk r) (hn : 0 <= n) (ho : g.Ok C) (hC : 1 <= C) (hk : k.Ok E) (h : ∀ x, S k x = S g x + sumE r.1.ps x + sumE r.2.ps x * n) : k = tgt g (grw r n) := by
 refine ext hk (tgt_ok2 ho (grw_ok hr hn) hC (by omega)) fun x => ?_
 have e : S (tmsG r.2 n) x = sumE r.2.ps x * n := S_tms r.2 n x
 rw [h, S_tgt]
 unfold grw
 rw [S_tgt, e]
 show _ = S g x + (sumE r.1.ps x + _)
 omega
end Gr
def spLaid (K : PySem.W.Frag) : Sp := fun vs H Q _ => ∃ (l : Addr) (xs : List V) (b : Bk) (kd : Kd) (i : Nat) (r : Ru), vs = [.ref l, .str kd.n, .int (i : Int)] /\ H l = some (.lst xs) /\ KdAll K H [] xs b /\ b.Ok /\ b.get kd.n = some kd /\ (noR :: kd.rs)[i]? = some r /\ ∀ (v : V) (H' : Hp), SB [] H H' -> Dp K H' v (Ru.enc r) -> Q v H'
def spPut33 (K : PySem.W.Frag) : Sp := fun vs H Q _ => ∃ (v u : V) (g : Gr) (t : Tr) (m C : Int), vs = [v, u, .int m] /\ GA K H v g /\ Dp K H u (Gr.tEnc t) /\ g.Ok C /\ NameOk t.1 /\ t.2.Ok C /\ m + Gr.S g t < C /\ g.deep <= 63 /\ t.2.deep <= 62 /\ g.ps.length <= 4000 /\ ∀ (x : V) (H' : Hp), SB [] H H' -> GA K H' x (Gr.putG g t m) -> Q x H'
def spFell (K : PySem.W.Frag) (m : Nat) : Sp := fun vs H Q _ => ∃ (l a : Addr) (v lv : V) (xs : List V) (n D : Int) (b : Bk) (g : Gr) (r : Ru) (pl : Pl) (k : Str), vs = [.ref l, v, .ref a, lv, .int n] /\ (H l = some (.lst xs) /\ KdAll K H [] xs b /\ b.Ok) /\ (GA K H v g /\ g.Ok D /\ g.deep <= 60 /\ g.parts <= 2000 /\ Gr.Named b.names g) /\ (Dp K H lv (Ru.enc r) /\ RuOk r) /\ SqT K H a (pl.map fun n : Nat => V.int (n : Int)) /\ Gr.bareAt g pl = some k /\ pl.length < m /\ 0 <= n /\ n < 2 ^ 900 /\
 ∀ (x : V) (H' : Hp), SB [] H H' -> GA K H' x (Gr.stk b n (Gr.grw r n) pl g).1 -> Q x H'
def spParts33 (K : PySem.W.Frag) (n : Nat) : Sp := fun vs H Q _ => ∃ (v : V) (g : Gr), vs = [v] /\ GA K H v g /\ g.deep < n /\ g.ps.length <= 200000 /\ (∀ p ∈ g.within, p.1.2.ps.length <= 200000) /\ ∀ H', SB [] H H' -> Q (.int (g.parts : Nat)) H'
def spLow33 (K : PySem.W.Frag) (n : Nat) : Sp := fun vs H Q _ => ∃ (v : V) (g : Gr), vs = [v] /\ GA K H v g /\ g.deep < n /\ g.ps.length <= 200000 /\ (∀ p ∈ g.within, p.1.2.ps.length <= 200000) /\ ∀ H', SB [] H H' -> Q (.int (g.deep : Nat)) H'
def spGreat (K : PySem.W.Frag) : Sp := fun vs H Q _ => ∃ (v : V) (g : Gr), vs = [v] /\ GA K H v g /\ g.deep <= 68 /\ g.parts <= 200000 /\ ∀ (bb : Bool) (H' : Hp), SB [] H H' -> (bb = true ↔ 500 < g.parts \/ 60 < g.deep) -> Q (.bl bb) H'
def rMaxD (K : PySem.W.Frag) : List V -> List V -> Hp -> VK -> Prop := fun vs zs H Q => ∃ (a : Addr) (ns : List Int) (d : Int), vs = [V.ref a] /\ zs = [.int d] /\ SqL K H a (ns.map V.int) /\ (ns = [] -> Q (.int d) H) /\ ∀ m, m ∈ ns -> (∀ y, y ∈ ns -> y <= m) -> Q (.int m) H
theorem maxOf_spec : ∀ (ys : List Int) (y : Int), (maxOf y ys ∈ y :: ys) /\ ∀ z ∈ y :: ys, z <= maxOf y ys
 | [], y => ⟨List.mem_singleton.mpr rfl, fun z hz => by rw [List.mem_singleton.mp hz]; exact Int.le_refl _⟩
 | a :: ys, y => by
  have e : maxOf y (a :: ys) = maxOf (if decide (y < a) = true then a else y) ys := rfl
  obtain ⟨h1, h2⟩ := maxOf_spec ys (if decide (y < a) = true then a else y)
  rw [e]
  by_cases hlt : y < a
  ·rw [if_pos (decide_eq_true hlt)] at h1 h2 ⊢
   refine ⟨mcm _ h1, fun z hz => ?_⟩
   rcases List.mem_cons.mp hz with rfl | hz
   ·have := h2 a (mcs ..); omega
   ·exact h2 z hz
  ·rw [if_neg (fun z => hlt (of_decide_eq_true z))] at h1 h2 ⊢
   refine ⟨?_, fun z hz => ?_⟩
   ·rcases List.mem_cons.mp h1 with e | h
    ·rw [e]; exact mcs ..
    ·exact mcm _ (mcm _ h)
   ·rcases List.mem_cons.mp hz with rfl | hz
    ·exact h2 z (mcs ..)
    rcases List.mem_cons.mp hz with rfl | hz
    ·have := h2 y (mcs ..); omega
    ·exact h2 z (mcm _ hz)
theorem cr_maxD {X : Cx} (hc : X.calm = true) (hu : X.A.units + 10 < cLine) : CallRK X (.builtin "max") [Str.ofString "default"] (rMaxD X.K) := by
 intro pn s σ H vs zs us ws Q I r rz ⟨a, ns, d, e1, e2, hs, q0, q⟩
 subst e1 e2
 obtain ⟨its, rv, hl, _⟩ := I.list hs
 rw [Vals.ref1 r]
 cases rz with
 | cons rd rt =>
  cases rt
  obtain ⟨t, rfl⟩ := rd
  refine max_list_datum_default (α := Int) (I.ok.hd hc) hl.isList (HoldAll.of_ints rv.ints) (by show X.A.units + 1 + 0 < cLine; omega) (fun e h' tk hk => ⟨.int d, H, I.kept hk, ⟨_, rfl⟩, q0 e⟩) fun y ys i v h' tk e hi hv hk => ?_
  obtain ⟨t', rfl⟩ := int_of_holds hv
  obtain ⟨m1, m2⟩ := maxOf_spec ys y
  exact ⟨.int _, H, I.kept hk, ⟨_, rfl⟩, q _ (by rw [e]; exact m1) (by rw [e]; exact m2)⟩
namespace Gr
theorem parts_sum : ∀ g : Gr, ((g.parts : Nat) : Int) = (g.ps.map fun p : Tr × Int => (1 : Int) + (p.1.2.parts : Nat)).sum
 | .nil => rfl
 | .cons k g m r => by
  have ih := parts_sum r
  show ((1 + g.parts + r.parts : Nat) : Int) = (1 + (g.parts : Int)) + (r.ps.map fun p : Tr × Int => (1 : Int) + (p.1.2.parts : Nat)).sum
  rw [<- ih]; omega
theorem within_small {g : Gr} : ∀ p ∈ g.within, p.1.2.ps.length <= g.parts := by
 intro p hp
 have h1 : ∀ (g : Gr) (p : Tr × Int), p ∈ g.within -> p.1.2.parts < g.parts := by
  intro g
  induction g with
  | nil => intro p hp; exact nomatch hp
  | cons k g m r ih1 ih2 =>
   intro p hp
   have e : (Gr.cons k g m r).parts = 1 + g.parts + r.parts := rfl
   rcases List.mem_cons.mp hp with rfl | hp
   ·show g.parts < _; omega
   ·rcases List.mem_append.mp hp with hp | hp
    ·have := ih1 p hp; omega
    ·have := ih2 p hp; omega
 have := h1 g p hp
 have := p.1.2.len_parts
 omega
end Gr
namespace Gr
theorem sumE_nonneg : ∀ {bs : List (Tr × Int)} (x : Tr), (∀ p ∈ bs, 0 <= p.2) -> 0 <= sumE bs x
 | [], _, _ => Int.le_refl _
 | p :: r, x, h => by
  have := sumE_nonneg (bs := r) x fun q hq => h q (by simp [hq])
  have := h p (by simp)
  rw [sumE_cons]
  split <;> omega
theorem sumE_take : ∀ {bs : List (Tr × Int)} (x : Tr) (i : Nat), (∀ p ∈ bs, 0 <= p.2) -> 0 <= sumE (bs.take i) x /\ sumE (bs.take i) x <= sumE bs x := by
 intro bs x i h
 have h1 := sumE_nonneg (bs := bs.take i) x fun p hp => h p (List.mem_of_mem_take hp)
 have h2 := sumE_nonneg (bs := bs.drop i) x fun p hp => h p (List.mem_of_mem_drop hp)
 have h3 : sumE bs x = sumE (bs.take i) x + sumE (bs.drop i) x := by rw [<- sumE_append, List.take_append_drop]
 omega
theorem sumE_next {bs : List (Tr × Int)} {i : Nat} {p : Tr × Int} (x : Tr) (e : bs[i]? = some p) : sumE (bs.take (i + 1)) x = sumE (bs.take i) x + (if p.1 = x then p.2 else 0) := by
 rw [List.take_add_one, e, sumE_append]
 show _ + ((if p.1 = x then p.2 else 0) + 0) = _
 rw [Int.add_zero]
theorem S_put_add {C : Int} {k : Gr} (ho : k.Ok C) (t : Tr) {m : Int} (hm : 0 <= m) (x : Tr) : S (putG k t m) x = S k x + (if t = x then m else 0) := by
 have h0 := S_nonneg ho t
 rw [S_putG]
 by_cases e : x = t
 ·rw [if_pos e, if_pos e.symm, e]
  split <;> omega
 ·rw [if_neg e, if_neg (fun z => e z.symm), Int.add_zero]
end Gr
section
variable {prog : Program} {w : World} {A : Around} {E : Value -> Shared -> Prop} {st : Shared} {K : PySem.W.Frag} {e D : Addr} {oe : Obj} {dd : Option Obj}
theorem look_cls (C : ExcC K D) : PySem.W.findObj K D dd "__class__" = some (.bind (.builtin "getset_descriptor.__get__") (.builtin "object.__class__")) := by
 obtain ⟨cd, hcd, _⟩ := PySem.W.any_some C.hd
 simp only [PySem.W.findObj, hcd, C.ha, C.hn, C.ht, Option.bind_some]
theorem cls_exc {Q : Option Value -> Shared -> Prop} (C : ExcC K D) (X : K.In st.heap) (I : PySem.W.InstAt st.heap e oe D dd) (q : Q (some (.ref D)) { st with toks := st.toks + 1 }) : wpAny (model prog w) A (getAttr? (.ref e) "__class__") Q E st := by
 have kf := look_cls (dd := dd) C
 obtain ⟨hp, gn, dc, tk, ows⟩ := st
 have K0 := I.type (M := model prog w)
 have K1 := PySem.W.looks_findIn (M := model prog w) X C.hg
 have K2 := PySem.W.looks_findIn (M := model prog w) X C.hk
 have K3 := PySem.W.looks_find (M := model prog w) X I kf
 have kb : Looks (model prog w) hp (isInstance (.ref e) (.type "BaseException")) true := K0.andThen (PySem.W.looks_subIn X C.hs)
 have z2 : (Value.builtin "BaseException.__getattribute__" == Value.builtin "object.__getattribute__") = false := by decide +kernel
 have z1 : (onTheHeap (Value.ref D) && Value.builtin "BaseException.__getattribute__" == Value.builtin "object.__getattribute__") = false := by rw [z2, Bool.and_false]
 unfold getAttr? getAttrBy? getAttrBy
 refine wpAny_bind (wpAny_mkText (wpAny_bind (wpAny_attempt (wpAny_holding (wpAny_bind (K0.at (wpAny_bind (K1.at ?gb))))))))
 case gb =>
 show wpAny _ _ (if (onTheHeap (Value.ref D) && Value.builtin "BaseException.__getattribute__" == Value.builtin "object.__getattribute__") = true then _ else _) _ _ _
 rw [z1, if_neg Bool.false_ne_true]
 unfold getAttrByItsOwn hookBefore
 refine wpAny_bind ?gc
 case gc =>
 rw [if_pos (show onTheHeap (Value.ref D) = true from rfl)]
 refine K2.at (wpAny_bind (wpAny_attempt (wpAny_holding ?gd)))
 case gd =>
 unfold callGetattribute
 rw [show (false && onTheHeap (Value.builtin "BaseException.__getattribute__")) = false from rfl, if_neg Bool.false_ne_true]
 unfold boundAndCalled
 rw [PySem.F.excAttr_ValueError.ga.bind (.ref e)]
 refine wpAny_bind (wpAny_pure ?ge)
 case ge =>
 show wpAny _ _ (call (.builtin "BaseException.__getattribute__") [.ref e, .str "__class__" tk]) _ _ _
 refine wpAny_call (codeAny_call_builtin PySem.F.excAttr_ValueError.ga.plain PySem.F.entry_bexc_ga ?gf)
 case gf =>
 refine @check_slot (model prog w) _ _ ⟨hp, gn, dc, tk + 1, ows⟩ "BaseException.__getattribute__" "BaseException" "__getattribute__" (.ref e) [.str "__class__" tk] [] _ (by decide +kernel) (by decide +kernel) kb (PySem.F.args_bexc_ga (.ref e) (.str "__class__" tk)) ?gg
 case gg =>
 unfold Builtin.«object.__getattribute__»
 refine wpAny_bind (wpAny_of_eq (a := ((Value.ref e : Value), [Value.str "__class__" tk])) (by first | rfl | (simp only [slotArgs]; rfl)) ?gh)
 case gh =>
 refine wpAny_bind (wpAny_pure (wpAny_bind (K0.at (wpAny_bind (K3.at ?gi)))))
 case gi =>
 show wpAny _ _ (holding [Value.builtin "object.__class__"] (call (.builtin "getset_descriptor.__get__") [.builtin "object.__class__", .ref e, .ref D]) >>= ret) _ _ _
 refine wpAny_bind (wpAny_holding (wpAny_call (PySem.W.class_get (s := ⟨hp, gn, dc, tk + 1, ows⟩) (ox := oe) (od := dd) X I C.hm ?gj)))
 case gj =>
 refine wpAny_pure ?gk
 case gk =>
 show wpAny _ _ (handedOut (.ref D)) _ _ _
 rw [handedOut_of (v := .ref D) rfl]
 first
  | exact wpAny_pure (wpAny_pure q)
  | exact wpAny_pure q
  | exact wpAny_pure (wpAny_bind (wpAny_pure (wpAny_pure q)))
theorem kit_exc (C : ExcC K D) : PySem.W.KitX K (.ref e) (.ref D) (fun h => PySem.W.InstAt h e oe D dd) where
 ty := fun _ _ _ I => I.type
 it := fun M h X _ => by
  obtain ⟨cd, hcd, _⟩ := PySem.W.any_some C.hd
  unfold PySem.W.clsIn at hcd
  split at hcd
  ·next ho => exact fun A' Q' E' s' k q => by unfold isType loadHead; exact wpAny_bind (wpAny_loadPart (k _ _ (X _ _ ho)) (wpAny_pure q))
  ·cases hcd
 ne := fun h tp dd' its n sl X htp => Bool.eq_false_iff.mpr fun q => by
  obtain ⟨cd, hcd, _⟩ := PySem.W.any_some C.hd
  cases Value.ref.inj (beq_iff_eq.mp q)
  unfold PySem.W.clsIn at hcd
  split at hcd
  ·next ho => exact absurd ((X _ _ ho).symm.trans htp) (fun z => by cases z)
  ·cases hcd
 ca := fun X I k => cls_exc C X I k
end
def ExD (H : Hp) (d : Option Addr) : Prop := d = none \/ ∃ dd fs, d = some dd /\ H dd = some (.xd fs)
theorem ExD.sb {H H' : Hp} {d : Option Addr} (h : ExD H d) (s : SB [] H H') : ExD H' d := by
 rcases h with h | ⟨dd, fs, h, g⟩
 ·exact .inl h
 ·exact .inr ⟨dd, fs, h, s.keep _ _ g nmn⟩
def rIsEg (K : PySem.W.Frag) (a : Addr) (cls : Value) (d : Option Addr) : List V -> Hp -> VK -> Prop := fun xs H Q => ∃ (D : Addr) (c : V) (cv : Value) (b : Bool), cls = .ref D /\ ExcC K D /\ ExD H d /\ xs = [.ref a, c] /\ (∀ u, RelV c u -> u = cv) /\ PySem.W.kitOne K (.ref D) cv = some b /\ Q (.bl b) H
def tXfg (K : PySem.W.Frag) (a : Addr) (cls : Value) (d : Option Addr) (f : Str) (te : TE) : TE := fun σ H Q => te σ H fun x H1 => ∃ (C dd : Addr) (fs : List (Str × V)) (v : V), x = .ref a /\ cls = .ref C /\ ExcC K C /\ PySem.W.findIn K (.ref C) f = some none /\ d = some dd /\ H1 dd = some (.xd fs) /\ fs.lookup f = some v /\ Q v H1
section
variable {X : Cx} {a : Addr} {oe : Obj} {cls : Value} {d : Option Addr}
theorem inst_e {D : Addr} {pins : List (Addr × Obj)} {σ : L2.St} {H : Hp} {s : Shared} (hm : (a, oe) ∈ X.pn) (hz : Zc (.ref D) d oe) (hf : ∃ vs, oe.data = .fields vs) (I : Inv X pins σ H s) (hd : ExD H d) : ∃ dd, PySem.W.InstAt s.heap a oe D dd := by
 obtain ⟨h, _⟩ := I.pin (a, oe) (List.mem_append.mpr (.inl hm))
 obtain ⟨vs, hv⟩ := hf
 obtain ⟨h1, h2⟩ := hz
 have nc : PySem.W.notCls oe = true := by unfold PySem.W.notCls; rw [hv]
 rcases hd with e | ⟨dd, fs, e, g⟩
 ·exact ⟨none, h, h1, nc, by rw [h2, e]; trivial⟩
 ·obtain ⟨mA, hns, _⟩ := (show ObjOk X.prog X.w H s.heap dd (.xd fs) from I.hok dd _ g)
  obtain ⟨od, ho, _⟩ := lookIn_ns hns
  exact ⟨some od, h, h1, nc, by rw [h2, e]; exact ho⟩
theorem call_isEg (hm : (a, oe) ∈ X.pn) (hz : Zc cls d oe) (hf : ∃ vs, oe.data = .fields vs) : CallR X (.builtin "isinstance") (rIsEg X.K a cls d) := by
 intro pins s σ H xs us Q I r h
 obtain ⟨D, c, cv, b, ec, C, hd, rfl, hcv, e, q⟩ := h
 subst ec
 obtain ⟨u1, u2, rfl, r1, r2⟩ := vals2 r
 cases (show u1 = Value.ref a from r1)
 cases hcv _ r2
 obtain ⟨dd, J⟩ := inst_e hm hz hf I hd
 exact PySem.W.kia_one (kit_exc C) I.kIn J e (fun z => nomatch z) fun tk => ⟨.bl b, H, I.kept (t' := tk) fun _ _ z => z, rfl, q⟩
theorem pe_xfg {e : Expr} {te : TE} {pos : Pos} {n : Str} (hm : (a, oe) ∈ X.pn) (hz : Zc cls d oe) (hf : ∃ vs, oe.data = .fields vs) (he : PE X e te) (hb : attributeBase e n X.env (eval e X.env) = eval e X.env := by rfl) : PE X (.Attribute e n pos) (tXfg X.K a cls d n te) := by
 refine ⟨fun pins st σ H Q I h => attr_of hb (thn (he.run pins st σ H _ I h) fun u s1 hh => ?_)⟩
 obtain ⟨x, H1, J1, rx, C, dd, fs, v, ex, ec, T, hno, ed, hx, l, q⟩ := hh
 subst ex ec ed
 cases (show u = Value.ref a from rx)
 obtain ⟨ga, _⟩ := J1.pin (a, oe) (List.mem_append.mpr (.inl hm))
 obtain ⟨mA, hns, hr⟩ := (show ObjOk X.prog X.w H1 s1.heap dd (.xd fs) from J1.hok dd _ hx)
 obtain ⟨od, ho, hl⟩ := lookIn_ns hns
 obtain ⟨w, hw, rw'⟩ := RelO.some_of (v := v) (o := mA n) (by rw [<- l]; exact hr n)
 obtain ⟨vs, hv⟩ := hf
 have nc : PySem.W.notCls oe = true := by unfold PySem.W.notCls; rw [hv]
 have ins : PySem.W.InstAt s1.heap a oe C (some od) := ⟨ga, hz.1, nc, by rw [hz.2]; exact ho⟩
 exact HandSPX.exc_get J1.kIn ins T.hg T.hk T.hs (PySem.W.findObj_own T.hd hno rfl (by rw [hl, hw])) (handed_of rw') ⟨v, H1, J1.tok _, rw', q⟩
end
structure ErrsM (K : PySem.W.Frag) (mg : Str -> Option Value) (c : Str -> Addr) (caught names kinds : List Str) : Prop where
 glo : ∀ n ∈ names, mg n = some (.ref (c n))
 FellError : mg "FellError" = some (.ref (c "FellError"))
 ve : mg "ValueError" = none
 exc : ∀ n ∈ caught, ExcC K (c n)
 exm : ∀ n ∈ caught, PySem.W.exmOne K (.ref (c n)) (.ref (c "FellError")) = some true
 kve : ∀ n ∈ caught, PySem.W.kitOne K (.ref (c n)) (.type "ValueError") = some true
 kit : ∀ n ∈ caught, ∀ m ∈ names, PySem.W.kitOne K (.ref (c n)) (.ref (c m)) = some (decide (n = m))
 nok : ∀ n ∈ kinds, PySem.W.findIn K (.ref (c n)) "kind" = some none
 exo : ∀ n ∈ caught, ∀ m ∈ names, PySem.W.exmOne K (.ref (c n)) (.ref (c m)) = some (decide (n = m))
def ermB (K : PySem.W.Frag) (c : Str -> Addr) (caught names : List Str) : Bool := caught.all fun n => excCB K (c n) && (decide (PySem.W.exmOne K (.ref (c n)) (.ref (c "FellError")) = some true) && (decide (PySem.W.kitOne K (.ref (c n)) (.type "ValueError") = some true) && names.all fun m => decide (PySem.W.kitOne K (.ref (c n)) (.ref (c m)) = some (decide (n = m))) && decide (PySem.W.exmOne K (.ref (c n)) (.ref (c m)) = some (decide (n = m)))))
theorem ermB_ok {K : PySem.W.Frag} {mg : Str -> Option Value} {c : Str -> Addr} {caught names kinds : List Str} (h : ermB K c caught names = true) (g : ∀ n ∈ names, mg n = some (.ref (c n))) (f : mg "FellError" = some (.ref (c "FellError"))) (v : mg "ValueError" = none) (k : ∀ n ∈ kinds, PySem.W.findIn K (.ref (c n)) "kind" = some none) : ErrsM K mg c caught names kinds := by
 have hh : ∀ n ∈ caught, excCB K (c n) = true /\ PySem.W.exmOne K (.ref (c n)) (.ref (c "FellError")) = some true /\ PySem.W.kitOne K (.ref (c n)) (.type "ValueError") = some true /\ ∀ m ∈ names, PySem.W.kitOne K (.ref (c n)) (.ref (c m)) = some (decide (n = m)) /\ PySem.W.exmOne K (.ref (c n)) (.ref (c m)) = some (decide (n = m)) := fun n hn => by
  have := List.all_eq_true.mp h n hn
  simp only [Bool.and_eq_true, decide_eq_true_eq, List.all_eq_true] at this
  exact this
 exact ⟨g, f, v, fun n hn => excCB_ok (hh n hn).1, fun n hn => (hh n hn).2.1, fun n hn => (hh n hn).2.2.1, fun n hn m hm => ((hh n hn).2.2.2 m hm).1, k, fun n hn m hm => ((hh n hn).2.2.2 m hm).2⟩
theorem _root_.L2.Room.sui {j k : Nat} {A : Around} {v : Option Value} (r : Room k A) (h : j <= k) : L2H.RoomH j (A.mark v) := by
 have q := r.mono h
 exact ⟨q.dp, q.un⟩
abbrev cxE (P : Program) (w : World) (K : PySem.W.Frag) (mg : Str -> Option Value) (base : Heap) (N : List Str) (qual : Str) (st : Stmt) (f : Addr) (cdv : Value) (A : Around) (outer : List Env) (s : Shared) (H : Hp) (E : XK) (a : Addr) (oe : Obj) : Cx := (L2H.cxH CX0 P w K mg base N qual (defScope st) f cdv A outer s H E (a, oe)).nox
def tCallP (sp : Addr -> Obj -> Sp) (a : Addr) (cls : Value) (d : Option Addr) (t : TA) : TE := fun σ H Q => t σ H fun vs H1 => ∀ oe, Zc cls d oe -> (∃ fs, oe.data = .fields fs) -> sp a oe vs H1 Q E0
def W12 : List Str := ["NoKind", "NoPlace", "NoRule", "NoNumber", "NoRise", "TooGreat", "NoFall", "NoBook", "Endless", "NoGrove", "NoName", "NoRow"]
def W7 : List Str := ["kind", "place", "rule", "said", "rise", "great", "fall"]
def spWhich (K : PySem.W.Frag) (c : Str -> Addr) (caught : List Str) : Addr -> Obj -> Sp := fun a oe vs H Q _ => ∃ (n : Str) (d : Option Addr) (j : Nat), vs = [.ref a] /\ Zc (.ref (c n)) d oe /\ (∃ fs, oe.data = .fields fs) /\ n ∈ caught /\ ExD H d /\ j < 7 /\ W12[j]? = some n /\
 (j = 0 -> ∃ (dd : Addr) (z : Str), d = some dd /\ H dd = some (.xd [("kind", .str z)]) /\ ∀ (T : Addr) (H' : Hp), SB [] H H' -> SqT K H' T [.str "kind", .str z] -> Q (.ref T) H') /\
 (j ≠ 0 -> ∀ (T : Addr) (w : Str) (H' : Hp), SB [] H H' -> W7[j]? = some w -> SqT K H' T [.str w] -> Q (.ref T) H')
theorem w12_nd : W12.Nodup := by decide +kernel
theorem w12_at {i j : Nat} {m n : Str} (h1 : W12[i]? = some m) (h2 : W12[j]? = some n) : decide (n = m) = decide (i = j) := by
 by_cases e : i = j
 ·subst e; rw [h1] at h2; cases h2; simp
 ·rw [decide_eq_false e]
  refine decide_eq_false fun z => e ?_
  subst z
  have := (List.getElem?_eq_some_iff.mp h1).1
  exact (List.getElem?_inj (l := W12) this w12_nd).mp (by rw [h1, h2])
def whD : PyData -> Option Int
 | .int i => some i
 | _ => none
theorem Wh_of {K : PySem.W.Frag} {H : Hp} {v : V} {d : PyData} (h : Dp K H v d) : Wh K H v (whD d) := by
 cases h with
 | int i => exact .inl ⟨i, rfl, rfl⟩
 | non => exact .inr ⟨rfl, "NoneType", false, false, .base .non, by decide +kernel, (fun z => nomatch z), rfl⟩
 | bl b => exact .inr ⟨rfl, "bool", true, true, .base (.bl b), by decide +kernel, fun _ => by decide +kernel, rfl⟩
 | str x => exact .inr ⟨rfl, "str", false, false, .base (.str x), by decide +kernel, (fun z => nomatch z), rfl⟩
 | tup hs _ => exact .inr ⟨rfl, "tuple", false, false, SqT_ty hs, by decide +kernel, (fun z => nomatch z), rfl⟩
 | lst hs _ => exact .inr ⟨rfl, "list", false, false, SqL_ty hs, by decide +kernel, (fun z => nomatch z), rfl⟩
abbrev Fa := Pl × Nat × Int
def faE (f : Fa) : PyData := .tuple [plEnc f.1, .int (f.2.1 : Nat), .int f.2.2]
def fgE (x : Fa × Gr) : PyData := .tuple [faE x.1, x.2.enc]
theorem faE_noList (f : Fa) : noList (faE f) = true := by simp [faE, noList, noLists, pl_noList]
theorem fgE_noList (x : Fa × Gr) : noList (fgE x) = true := by simp [fgE, noList, noLists, faE_noList, Gr.noList_enc]
abbrev plF (bv : V) (ls ld lu : Addr) : List (Str × V) := [("book", bv), ("stood", .ref ls), ("done", .ref ld), ("undone", .ref lu)]
structure Ply (K : PySem.W.Frag) (C : Addr) (H : Hp) (bv : V) (a ls ld lu : Addr) (gs : List Gr) (ds : List Fa) (us : List (Fa × Gr)) : Prop where
 ins : ∃ dx, H a = some (.ins C dx (plF bv ls ld lu))
 st : ∃ vs, H ls = some (.lst vs) /\ Bears K H Gr.enc vs gs
 dn : ∃ vs, H ld = some (.lst vs) /\ Bears K H faE vs ds
 un : ∃ vs, H lu = some (.lst vs) /\ Bears K H fgE vs us
 n1 : ls ≠ ld
 n2 : ls ≠ lu
 n3 : ld ≠ lu
section
variable {K : PySem.W.Frag} {C : Addr} {H H' : Hp} {bv : V} {a ls ld lu : Addr} {gs : List Gr} {ds : List Fa} {us : List (Fa × Gr)} {ps : List Addr}
theorem Ply.sb (h : Ply K C H bv a ls ld lu gs ds us) (e : SB ps H H') (na : a ∉ ps) (n1 : ls ∉ ps) (n2 : ld ∉ ps) (n3 : lu ∉ ps) : Ply K C H' bv a ls ld lu gs ds us := by
 obtain ⟨⟨dx, h0⟩, ⟨v1, h1, b1⟩, ⟨v2, h2, b2⟩, ⟨v3, h3, b3⟩, m1, m2, m3⟩ := h
 exact ⟨⟨dx, e.keep _ _ h0 na⟩, ⟨v1, e.keep _ _ h1 n1, b1.sb e Gr.noList_enc⟩, ⟨v2, e.keep _ _ h2 n2, b2.sb e faE_noList⟩, ⟨v3, e.keep _ _ h3 n3, b3.sb e fgE_noList⟩, m1, m2, m3⟩
theorem Ply.sb0 (h : Ply K C H bv a ls ld lu gs ds us) (e : SB [] H H') : Ply K C H' bv a ls ld lu gs ds us := h.sb e (by simp) (by simp) (by simp) (by simp)
theorem Bears.last {β : Type} {enc : β -> PyData} {b : β} : ∀ {bs : List β} {vs : List V}, Bears K H enc vs (bs ++ [b]) -> ∃ us u, vs = us ++ [u] /\ Bears K H enc us bs /\ Dp K H u (enc b)
 | [], _, .cons h .nil => ⟨[], _, rfl, .nil, h⟩
 | _ :: bs, _, .cons h t => by
  obtain ⟨us, u, e, h1, h2⟩ := Bears.last (bs := bs) t
  exact ⟨_ :: us, u, by rw [e]; rfl, .cons h h1, h2⟩
theorem atI_app {α : Type} {us : List α} {u : α} : atI (us ++ [u]) (-1) = some u := atI_end (by simp)
end
def spPyInit (K : PySem.W.Frag) (C CB : Addr) : Sp := fun vs H Q _ => ∃ (x dx : Addr) (bv gv : V) (b : Bk) (g : Gr), vs = [.ref x, bv, gv] /\ H x = some (.ins C dx []) /\ BkA K CB H bv b /\ b.length <= 60 /\ GA K H gv g /\ g.deep <= 68 /\ g.parts <= 3000 /\ Gr.Named b.names g /\ ∀ (ls ld lu : Addr) (H' : Hp), SB [x] H H' -> H ls = none -> H ld = none -> H lu = none -> Ply K C H' bv x ls ld lu [g] [] [] -> Q .non H'
def spPyGrove (K : PySem.W.Frag) (C : Addr) : Sp := fun vs H Q _ => ∃ (a ls ld lu : Addr) (bv : V) (gs : List Gr) (g : Gr) (ds : List Fa) (us : List (Fa × Gr)), vs = [.ref a] /\ Ply K C H bv a ls ld lu (gs ++ [g]) ds us /\ ∀ v, GA K H v g -> Q v H
def spPyFalls (K : PySem.W.Frag) (C : Addr) : Sp := fun vs H Q _ => ∃ (a ls ld lu : Addr) (bv : V) (gs : List Gr) (ds : List Fa) (us : List (Fa × Gr)), vs = [.ref a] /\ Ply K C H bv a ls ld lu gs ds us /\ ∀ (l : Addr) (ws : List V) (H' : Hp), SB [] H H' -> H l = none -> H' l = some (.lst ws) -> Bears K H' faE ws ds -> Q (.ref l) H'
def spPyFall (K : PySem.W.Frag) (C CB NP NR NN TG : Addr) : Sp := fun vs H Q E => ∃ (a ls ld lu pa : Addr) (bv x y : V) (b : Bk) (gs : List Gr) (g : Gr) (ds : List Fa) (us : List (Fa × Gr)) (D : Int) (xs : List V) (os : List (Option Int)) (ro so : Option Int), vs = [.ref a, .ref pa, x, y] /\
 (Ply K C H bv a ls ld lu (gs ++ [g]) ds us /\ gs.length <= 1000 /\ ds.length <= 1000) /\ (BkA K CB H bv b /\ b.Ok) /\ (g.Ok D /\ g.deep <= 60 /\ g.parts <= 2000 /\ Gr.Named b.names g) /\ (SqT K H pa xs /\ Whs K H xs os) /\ Wh K H x ro /\ Wh K H y so /\ (∀ n, so = some n -> n < 2 ^ 900) /\
 ((∀ pl k, os = plO pl -> Gr.bareAt g pl ≠ some k) -> ∀ H', SB [] H H' -> E (.ref NP) none H') /\
 ∀ (pl : Pl) (k : Str) (kd : Kd), os = plO pl -> Gr.bareAt g pl = some k -> b.get k = some kd ->
  ((∀ i : Nat, ro = some (i : Int) -> (noR :: kd.rs)[i]? = none) -> ∀ H', SB [] H H' -> E (.ref NR) none H') /\
  ∀ (i : Nat) (r : Ru), ro = some (i : Int) -> (noR :: kd.rs)[i]? = some r ->
   ((∀ n, so = some n -> n < 0) -> ∀ H', SB [] H H' -> E (.ref NN) none H') /\
   ∀ n : Int, so = some n -> 0 <= n ->
    (¬ InBound (Gr.stk b n (Gr.grw r n) pl g).1 -> ∀ H', SB [] H H' -> E (.ref TG) none H') /\
    (InBound (Gr.stk b n (Gr.grw r n) pl g).1 -> ∀ (lu' : Addr) (p : V) (H' : Hp), SB [a, ls, ld] H H' -> H lu' = none -> Ply K C H' bv a ls ld lu' (gs ++ [g] ++ [(Gr.stk b n (Gr.grw r n) pl g).1]) (ds ++ [(pl, i, n)]) [] -> Dp K H' p (plEnc (Gr.stk b n (Gr.grw r n) pl g).2) -> Q p H')
def spPyBack (K : PySem.W.Frag) (C NF : Addr) : Sp := fun vs H Q E => ∃ (a ls ld lu : Addr) (bv : V) (gs : List Gr) (ds : List Fa) (us : List (Fa × Gr)), vs = [.ref a] /\ Ply K C H bv a ls ld lu gs ds us /\ us.length <= 1000 /\ (ds = [] -> ∀ H', SB [] H H' -> E (.ref NF) none H') /\
 (ds ≠ [] -> ∃ (g0 : List Gr) (h g : Gr) (d0 : List Fa) (f : Fa), gs = g0 ++ [h] ++ [g] /\ ds = d0 ++ [f] /\ ∀ (v : V) (H' : Hp), SB [ls, ld, lu] H H' -> Ply K C H' bv a ls ld lu (g0 ++ [h]) d0 (us ++ [(f, g)]) -> GA K H' v h -> Q v H')
def spPyAgain (K : PySem.W.Frag) (C NF : Addr) : Sp := fun vs H Q E => ∃ (a ls ld lu : Addr) (bv : V) (gs : List Gr) (ds : List Fa) (us : List (Fa × Gr)), vs = [.ref a] /\ Ply K C H bv a ls ld lu gs ds us /\ gs.length <= 1000 /\ ds.length <= 1000 /\ (us = [] -> ∀ H', SB [] H H' -> E (.ref NF) none H') /\
 (us ≠ [] -> ∃ (u0 : List (Fa × Gr)) (f : Fa) (g : Gr), us = u0 ++ [(f, g)] /\ ∀ (v : V) (H' : Hp), SB [ls, ld, lu] H H' -> Ply K C H' bv a ls ld lu (gs ++ [g]) (ds ++ [f]) u0 -> GA K H' v g -> Q v H')
def fl (b : Bk) (g : Gr) (f : Fa) : Gr × Pl := match Gr.bareAt g f.1 with
 | none => (g, [])
 | some k => match b.get k with
  | none => (g, [])
  | some kd => match (noR :: kd.rs)[f.2.1]? with
   | none => (g, [])
   | some r => Gr.stk b f.2.2 (Gr.grw r f.2.2) f.1 g
structure FlAt (b : Bk) (g : Gr) (f : Fa) (k : Str) (kd : Kd) (r : Ru) : Prop where
 bare : Gr.bareAt g f.1 = some k
 get : b.get k = some kd
 rule : (noR :: kd.rs)[f.2.1]? = some r
 n0 : 0 <= f.2.2
 n1 : f.2.2 < 10 ^ 59
theorem FlAt.eq {b : Bk} {g : Gr} {f : Fa} {k : Str} {kd : Kd} {r : Ru} (h : FlAt b g f k kd r) : fl b g f = Gr.stk b f.2.2 (Gr.grw r f.2.2) f.1 g := by
 unfold fl; rw [h.bare]; dsimp only; rw [h.get]; dsimp only; rw [h.rule]
def FlOk (b : Bk) (g : Gr) (f : Fa) : Prop := (∃ k kd r, FlAt b g f k kd r) /\ InBound (fl b g f).1
structure Std (b : Bk) (m : Nat) (g : Gr) : Prop where
 ok : g.Ok (10 ^ 30 + 1 + (m : Int) * 10 ^ 70)
 deep : g.deep <= 60
 parts : g.parts <= 2000
 nm : Gr.Named b.names g
theorem Std.mono {b : Bk} {m n : Nat} {g : Gr} (h : Std b m g) (hm : m <= n) : Std b n g := ⟨h.ok.mono (by have : (m : Int) <= n := (by omega); omega), h.deep, h.parts, h.nm⟩
theorem FlAt.facts {b : Bk} (ok : b.Ok) {g : Gr} {f : Fa} {k : Str} {kd : Kd} {r : Ru} (h : FlAt b g f k kd r) : RuOk r /\ (∀ p ∈ Ru.within r, p.1.1 ∈ b.names) /\ f.2.2 < 2 ^ 900 := by
 obtain ⟨km, ekn⟩ := Bk.get_some h.get
 obtain ⟨_, _, rr⟩ := ok.kd kd km
 exact ⟨rule_ok (fun r hr => (rr r hr).1) h.rule, rule_names (fun r hr => (rr r hr).2) h.rule, Int.lt_trans h.n1 (by decide +kernel)⟩
theorem FlOk.std {b : Bk} (ok : b.Ok) {m : Nat} {g : Gr} {f : Fa} (hg : Std b m g) (h : FlOk b g f) : Std b (m + 1) (fl b g f).1 := by
 obtain ⟨⟨k, kd, r, ha⟩, h1, h2⟩ := h
 obtain ⟨rok, rnm, _⟩ := ha.facts ok
 have go2 := Gr.grw_ok rok ha.n0
 have n0 := ha.n0
 have n1 := ha.n1
 have so := Gr.stk_ok (b := b) ha.n0 (by omega) go2 hg.ok ha.bare
 have sn := Gr.stk_named (b := b) (n := f.2.2) (Gr.grw_named rnm f.2.2) ha.bare hg.nm
 rw [<- ha.eq] at so sn
 refine ⟨so.mono ?_, h2, h1, sn⟩
 rw [Int.natCast_add, Int.add_mul]
 have : (10 : Int) ^ 59 * 1000000001 + 10 ^ 59 + 10 ^ 12 <= ((1 : Nat) : Int) * 10 ^ 70 := by decide
 omega
theorem faE_pl (f : Fa) : plS (faE f) = true := by simp [faE, plS, plSs, plEnc, pl_plain]
theorem fas_pl : ∀ ds : List Fa, plSs (ds.map faE) = true
 | [] => rfl
 | f :: r => by rw [List.map_cons, plSs, faE_pl, fas_pl r]; rfl
theorem faE_depth (f : Fa) : (faE f).depth = 2 := by
 show PyData.depth (.tuple [plEnc f.1, .int _, .int _]) = 2
 simp only [PyData.depth, PyData.depthAll, pl_depth]
 omega
instance : Orderly faE where
 al a b := by simp [faE, alike, alikeAll, Orderly.al (enc := plEnc) a.1 b.1]
 eq a b := by
  simp only [faE, PyData.eqv, PyData.eqvAll, Orderly.eq (enc := plEnc), Bool.and_true, ib]
  by_cases h : a = b
  ·subst h; simp
  ·rw [decide_eq_false h]
   refine Bool.eq_false_iff.mpr fun z => h ?_
   simp only [Bool.and_eq_true, decide_eq_true_eq] at z
   exact Prod.ext z.1 (Prod.ext (by have := z.2.1; omega) z.2.2)
theorem fas_depths : ∀ ds : List Fa, PyData.depthAll (ds.map faE) <= 2
 | [] => by simp [PyData.depthAll]
 | f :: r => by
  have := fas_depths r
  rw [List.map_cons, PyData.depthAll, faE_depth]
  omega
theorem fas_wd (ds : List Fa) : Wd (.list (ds.map faE)) := ⟨by rw [PyData.canLay0]; exact plSs_lay _ (fas_pl ds), by
 rw [PyData.depth]; have := fas_depths ds; omega⟩
theorem eqvs_ord {γ : Type} [DecidableEq γ] {enc : γ -> PyData} [O : Orderly enc] : ∀ as bs : List γ, PyData.eqvAll (as.map enc) (bs.map enc) = decide (as = bs)
 | [], [] => by simp [PyData.eqvAll]
 | [], b :: bs => by simp [PyData.eqvAll]
 | a :: as, [] => by simp [PyData.eqvAll]
 | a :: as, b :: bs => by
  rw [List.map_cons, List.map_cons, PyData.eqvAll, O.eq, eqvs_ord as bs]
  by_cases h : a = b <;> by_cases h2 : as = bs <;> simp [h, h2]
theorem fas_eqv (as bs : List Fa) : PyData.eqv (.list (as.map faE)) (.list (bs.map faE)) = decide (as = bs) := by
 rw [PyData.eqv]; exact eqvs_ord as bs
theorem fall_fl {K : PySem.W.Frag} {C NP NR NN TG : Addr} {H : Hp} {v w : V} {a : Addr} {b : Bk} {g : Gr} {m : Nat} {f : Fa} {k : Str} {kd : Kd} {r : Ru} {Q : VK} {E : XK} (hv : BkA K C H v b) (ok : b.Ok) (hw : GA K H w g) (st : Std b m g) (ha : SqT K H a (f.1.map fun n : Nat => V.int (n : Int))) (h : FlAt b g f k kd r)
  (q : InBound (fl b g f).1 -> ∀ (t : Addr) (H' : Hp), SB [] H H' -> H t = none -> Dp K H' (.ref t) (gpE (fl b g f)) -> Q (.ref t) H') (qE : ¬ InBound (fl b g f).1 -> ∀ H', SB [] H H' -> E (.ref TG) none H') : spFallen K C NP NR NN TG [v, w, .ref a, .int (f.2.1 : Nat), .int f.2.2] H Q E := by
 rw [h.eq] at q qE
 exact fall_good rfl hv ok hw st.ok st.deep st.parts st.nm ha h.bare h.get h.rule h.n0 (h.facts ok).2.2 q qE
theorem pyfall_fl {K : PySem.W.Frag} {C CB NP NR NN TG : Addr} {H : Hp} {bv : V} {a ls ld lu pa : Addr} {b : Bk} {gs : List Gr} {g : Gr} {ds : List Fa} {us : List (Fa × Gr)} {m : Nat} {f : Fa} {k : Str} {kd : Kd} {r : Ru} {Q : VK} {E : XK} (ply : Ply K C H bv a ls ld lu (gs ++ [g]) ds us) (gl : gs.length <= 1000) (dl : ds.length <= 1000) (hv : BkA K CB H bv b) (ok : b.Ok) (st : Std b m g) (ha : SqT K H pa (f.1.map fun n : Nat => V.int (n : Int))) (h : FlAt b g f k kd r)
  (q : InBound (fl b g f).1 -> ∀ (lu' : Addr) (pv : V) (H' : Hp), SB [a, ls, ld] H H' -> H lu' = none -> Ply K C H' bv a ls ld lu' (gs ++ [g] ++ [(fl b g f).1]) (ds ++ [f]) [] -> Dp K H' pv (plEnc (fl b g f).2) -> Q pv H') (qE : ¬ InBound (fl b g f).1 -> ∀ H', SB [] H H' -> E (.ref TG) none H') : spPyFall K C CB NP NR NN TG [.ref a, .ref pa, .int (f.2.1 : Nat), .int f.2.2] H Q E := by
 obtain ⟨_, _, nb⟩ := h.facts ok
 rw [h.eq] at q qE
 obtain ⟨h1, h2, h3, h4, h5⟩ := h
 obtain ⟨pl, i, n⟩ := f
 refine ⟨a, ls, ld, lu, pa, bv, .int (i : Nat), .int n, b, gs, g, ds, us, _, _, plO pl, some (i : Int), some n, rfl, ⟨ply, gl, dl⟩, ⟨hv, ok⟩, ⟨st.ok, st.deep, st.parts, st.nm⟩, ⟨ha, Whs.pl K H pl⟩, .inl ⟨_, rfl, rfl⟩, .inl ⟨_, rfl, rfl⟩, fun z e => by cases e; exact nb, fun hno => absurd h1 (hno pl k rfl), fun pl' k' kd' e1 e2 e3 => ?_⟩
 obtain rfl := plO_inj e1
 obtain rfl : k = k' := Option.some.inj (h1.symm.trans e2)
 obtain rfl : kd = kd' := Option.some.inj (h2.symm.trans e3)
 refine ⟨fun hno => absurd (hno i rfl) (by rw [show (noR :: kd.rs)[i]? = some r from h3]; simp), fun i' r' e4 e5 => ?_⟩
 obtain rfl : i = i' := by have := Option.some.inj e4; omega
 obtain rfl : r = r' := Option.some.inj (h3.symm.trans e5)
 refine ⟨fun hneg => absurd (hneg n rfl) (by have : 0 <= n := h4; omega), fun n' e6 _ => ?_⟩
 cases e6
 exact ⟨qE, q⟩
section
variable {K : PySem.W.Frag} {C CB : Addr} {H H' : Hp} {bv : V} {b : Bk} {g0 : Gr} {a ls ld lu : Addr} {ds : List Fa} {us : List (Fa × Gr)} {n : Nat} {ps : List Addr}
def Ftp (H : Hp) (C : Addr) (ps : List Addr) : Prop := ∀ p ∈ ps, H p = none \/ (∃ xs, H p = some (.lst xs)) \/ ∃ dx fs, H p = some (.ins C dx fs) /\ fs.length = 4
theorem BkA.sbF (h : BkA K CB H bv b) (e : SB ps H H') (hf : Ftp H C ps) : BkA K CB H' bv b := by
 obtain ⟨a, dx, d1, d2, us, rfl, h1, h2, h3, h4⟩ := h
 refine ⟨a, dx, d1, d2, us, rfl, e.keep _ _ h1 fun z => ?_, e.keep _ _ h2 fun z => ?_, e.keep _ _ h3 fun z => ?_, h4.sb e Kd.noList_rowE⟩
 ·rcases hf _ z with q | ⟨xs, q⟩ | ⟨dx, fs, q, l⟩ <;> rw [h1] at q <;> cases q
  exact absurd (show 2 = 4 from l) (by decide)
 ·rcases hf _ z with q | ⟨xs, q⟩ | ⟨dx, fs, q, _⟩ <;> rw [h2] at q <;> cases q
 ·rcases hf _ z with q | ⟨xs, q⟩ | ⟨dx, fs, q, _⟩ <;> rw [h3] at q <;> cases q
theorem Ply.ftp {gs : List Gr} (h : Ply K C H bv a ls ld lu gs ds us) : Ftp H C [a, ls, ld, lu] := by
 obtain ⟨⟨dx, h0⟩, ⟨v1, h1, _⟩, ⟨v2, h2, _⟩, ⟨v3, h3, _⟩, _⟩ := h
 intro p hp
 simp only [List.mem_cons, nmn, or_false] at hp
 rcases hp with rfl | rfl | rfl | rfl
 ·exact .inr (.inr ⟨dx, _, h0, rfl⟩)
 ·exact .inr (.inl ⟨_, h1⟩)
 ·exact .inr (.inl ⟨_, h2⟩)
 ·exact .inr (.inl ⟨_, h3⟩)
theorem Ftp.sub {qs : List Addr} (h : Ftp H C ps) (e : ∀ q ∈ qs, q ∈ ps) : Ftp H C qs := fun p hp => h p (e p hp)
end
theorem fas_wide : ∀ {ds : List Fa}, (∀ f ∈ ds, f.1.length <= 60) -> wides (ds.map faE) <= 60
 | [], _ => by simp [wides]
 | f :: r, h => by
  have h1 := fas_wide (ds := r) fun x hx => h x (mcm _ hx)
  have h2 := h f (mcs ..)
  have h3 := wides_ints f.1
  rw [List.map_cons, wides]
  have h4 : wide (faE f) <= 60 := by
   show wide (.tuple [.tuple (plInts f.1), .int _, .int _]) <= 60
   have h5 : (plInts f.1).length = f.1.length := List.length_map ..
   simp only [wide, wides, List.length_cons, List.length_nil, h3]
   omega
  omega
end FT
namespace FTH
open PySem PySem.Spec PyProof.Rows HotX
open Sem (wp)
section
variable {prog : Program} {w : World} {A : Around} {E : Value -> Shared -> Prop} {s : Shared}
theorem stop_hot {α : Type} {x1 it : Addr} {f : Obj -> Obj} {Q : α -> Shared -> Prop} (hot : HotAt A x1 s.heap) (hne : x1 ≠ it)
  (k : ∀ h' a, Heap.ExtBut it s.heap h' -> (∃ o, h'.get? a = some o /\ o.cls = .type "StopIteration") -> E (.ref a) { s with heap := h' }) :
  wpAny (model prog w) A (newExc (.type "StopIteration") [] >>= fun e => (raiseNew e : Sem α)) Q E { s with heap := s.heap.update it f } := by
 obtain ⟨hh, o1, vs1, h1, d1, c1⟩ := hot
 have g1 : (s.heap.update it f).get? x1 = some o1 := (Heap.get?_update_other _ _ (Ne.symm hne)).trans h1
 refine wpAny_bind ?_
 simp only [newExc, newTuple]
 refine wpAny_bind (wpAny_newObj_type ?_ (by size_fits))
 refine wpAny_bind (m := firstArgMember _ _) (wpAny_of_eq (a := Value.none) (by first | rfl | (simp only [firstArgMember]; rfl)) ?_)
 refine wpAny_newObj_type ?_ (by size_fits)
 refine raiseNew_hot ⟨hh, o1, vs1, Heap.get?_push_of_some _ (Heap.get?_push_of_some _ g1), d1, c1⟩ (Nat.ne_of_lt (Heap.lt_size (Heap.get?_push_of_some _ g1))) (Heap.get?_push_size _ rfl) rfl (by first | (simp; done) | (simp; omega) | (simp only [Array.size_append]; simp; omega)) ?_
 refine k _ _ (fun b o hb e => ?_) ⟨_, Heap.get?_update_self _ (Heap.get?_push_size _ rfl) rfl, rfl⟩
 have e2 : (s.heap.update it f).get? b = some o := (Heap.get?_update_other _ _ (Ne.symm hb)).trans e
 rw [Heap.get?_update_other _ _ (Nat.ne_of_gt (Heap.lt_size (Heap.get?_push_of_some _ e2)))]
 exact Heap.get?_push_of_some _ (Heap.get?_push_of_some _ e2)
theorem hot_ne {x1 it : Addr} {o : Obj} {a b : Value} (hot : HotAt A x1 s.heap) (ho : s.heap.get? it = some o) (hd : o.data = .fields #[a, b]) : x1 ≠ it := by
 obtain ⟨_, o1, vs1, h1, d1, c1⟩ := hot
 intro z
 subst z
 rw [ho] at h1; cases h1
 rw [hd] at d1; cases d1
 cases c1
theorem next_tuple_end_hot {it t x1 : Addr} {i : Nat} {items : Array Value} {Q : Option Value -> Shared -> Prop} (hot : HotAt A x1 s.heap)
  (hit : s.heap.IsTupleIter it t i) (ht : s.heap.IsTuple t items) (hx : items[i]? = none)
  (hQ : ∀ h', Heap.ExtBut it s.heap h' -> Q none { s with heap := h' }) : wpAny (model prog w) A (pyNext (.ref it)) Q E s := by
 obtain ⟨o, ho, hc, hd⟩ := id hit
 obtain ⟨ol, hol, _, nl, hdl⟩ := ht
 have hne := hot_ne hot ho hd
 unfold pyNext
 refine wpAny_bind (wpAny_attempt (wpAny_callSpecial?_slot (name := Str.ofString "__next__") hit.typeIs F.slot_tuple_iterator_next
  (wpAny_call_entry F.slot_tuple_iterator_next hit.typeIs F.entry_tuple_iterator_next ?_ (F.args_tuple_iterator_next_1 _))))
 show wpAny _ _ (field (.ref it) 0 >>= _) _ _ s
 refine wpAny_bind (wpAny_field ho hd (x := .ref t) rfl ?_)
 show wpAny _ _ (if (Value.ref t == Value.none) = true then _ else _) _ _ s
 rw [if_neg (show ¬ ((Value.ref t == Value.none) = true) from Bool.false_ne_true)]
 show wpAny _ _ (field (.ref it) 1 >>= _) _ _ s
 refine wpAny_bind (wpAny_field ho hd (x := .int i 0) rfl ?_)
 show wpAny _ _ (seqItems? (.ref t) >>= _) _ _ s
 refine wpAny_bind (wpAny_seqItems hol hdl ?_)
 simp only [Int.toNat_natCast, hx]
 refine wpAny_bind (wpAny_rule (wpAny_bind (wpAny_setField ho hd (by simp) ?_)))
 refine stop_hot (A := A.in1) hot hne fun h' a e1 e2 => ?_
 obtain ⟨o2, g2, c2⟩ := e2
 refine wpAny_bind (wpAny_isInstance (T := "StopIteration") (b := true) ⟨o2, g2, c2⟩ isSubtype_stop ?_)
 exact wpAny_pure (hQ _ e1)
theorem nextOf_list_end_hot {it l x1 : Addr} {i : Nat} {items : Array Value} {Q : Value -> Shared -> Prop} (hot : HotAt A x1 s.heap)
  (hit : s.heap.IsListIter it l i) (hl : s.heap.IsList l items) (hx : items[i]? = none)
  (hE : ∀ h' e, Heap.ExtBut it s.heap h' -> (∃ o, h'.get? e = some o /\ o.cls = .type "StopIteration") -> E (.ref e) { s with heap := h' }) :
  wpAny (model prog w) A (Builtin.SmallTypes.nextOf (.ref it)) Q E s := by
 obtain ⟨o, ho, hc, hd⟩ := id hit
 obtain ⟨ol, hol, _, nl, hdl⟩ := hl
 have hne := hot_ne hot ho hd
 unfold Builtin.SmallTypes.nextOf
 refine wpAny_bind (wpAny_callSpecial?_slot (name := Str.ofString "__next__") hit.typeIs slot_listiter_next
  (wpAny_call_entry slot_listiter_next hit.typeIs entry_listiter_next ?_ (args_listiter_next _)))
 show wpAny _ _ (field (.ref it) 0 >>= _) _ _ s
 refine wpAny_bind (wpAny_field ho hd (x := .ref l) rfl ?_)
 show wpAny _ _ (if (Value.ref l == Value.none) = true then _ else _) _ _ s
 rw [if_neg (show ¬ ((Value.ref l == Value.none) = true) from Bool.false_ne_true)]
 show wpAny _ _ (field (.ref it) 1 >>= _) _ _ s
 refine wpAny_bind (wpAny_field ho hd (x := .int i 0) rfl ?_)
 show wpAny _ _ (seqItems? (.ref l) >>= _) _ _ s
 refine wpAny_bind (wpAny_seqItems hol hdl ?_)
 simp only [Int.toNat_natCast, hx]
 refine wpAny_bind (wpAny_rule (wpAny_bind (wpAny_setField ho hd (by simp) ?_)))
 exact stop_hot (A := A.in1) hot hne fun h' a e1 e2 => hE _ _ e1 e2
theorem next_enum_end_hot {e it l x1 : Addr} {i : Nat} {items : Array Value} {old : Value} {Q : Option Value -> Shared -> Prop} (hot : HotAt A x1 s.heap)
  (he : IsEnum s.heap e it i old) (hit : s.heap.IsListIter it l i) (hl : s.heap.IsList l items) (hx : items[i]? = none)
  (hQ : ∀ h', Heap.ExtBut it s.heap h' -> Q none { s with heap := h' }) : wpAny (model prog w) A (pyNext (.ref e)) Q E s := by
 have hT : s.TypeIs (.ref e) "enumerate" := ⟨_, he, rfl⟩
 unfold pyNext
 refine wpAny_bind (wpAny_attempt (wpAny_callSpecial?_slot (name := Str.ofString "__next__") hT F.slot_enumerate_next
  (wpAny_call_entry F.slot_enumerate_next hT F.entry_enumerate_next ?_ (F.args_enumerate_next_1 _))))
 show wpAny _ _ (field (.ref e) 2 >>= _) _ _ _
 refine wpAny_bind (wpAny_field he rfl (x := .ref it) rfl ?_)
 refine wpAny_bind (nextOf_list_end_hot (A := A.in1) hot hit hl hx fun h' x he' hx' => ?_)
 obtain ⟨o, ho, hc⟩ := hx'
 refine wpAny_bind (wpAny_isInstance (T := "StopIteration") (b := true) ⟨o, ho, hc⟩ isSubtype_stop ?_)
 exact wpAny_pure (hQ _ he')
theorem rnext_tuple_end_hot {it t x1 : Addr} {i : Nat} {items : Array Value} {Q : Option Value -> Shared -> Prop} (hot : HotAt A x1 s.heap)
  (hit : IsTupIter s.heap it t i) (ht : IsTup s.heap t items) (hx : items[i]? = none)
  (hQ : ∀ h', Heap.ExtBut it s.heap h' -> Q none { s with heap := h' }) : wpAny (model prog w) A (pyNext (.ref it)) Q E s := next_tuple_end_hot hot hit ht hx hQ
theorem assign_tuple_hot {env : Env} {elts : List Expr} {x1 : Addr} {k} {pos : Pos} {t : Addr} {items : Array Value} {Q : Unit -> Shared -> Prop} (hot : HotAt A x1 s.heap) (ht : IsTup s.heap t items)
  (hn : (assignEach elts env).length = items.size) (hstar : (assignEach elts env).findIdx? (·.1) = none)
  (h : ∀ h', Heap.ExtBut s.heap.objs.size s.heap h' -> wpAny (model prog w) A (assignInOrder ((assignEach elts env).map (·.2)) items.toList) Q E { s with heap := h' }) :
  wpAny (model prog w) A (assign (.Tuple elts k pos) env (.ref t)) Q E s := by
 rw [assign_Tuple]
 refine wpAny_bind (wpAny_standAt ?_)
 unfold unpack
 rw [hn, hstar]
 refine wpAny_bind (wpAny_holding ?_)
 have hlt : t ≠ s.heap.objs.size := by obtain ⟨o, ho, _⟩ := ht; exact Nat.ne_of_lt (Heap.lt_size ho)
 have hx1 : x1 ≠ s.heap.objs.size := by obtain ⟨_, o, _, ho, _⟩ := hot; exact Nat.ne_of_lt (Heap.lt_size ho)
 unfold unpackItems
 refine wpAny_bind ?_
 ·unfold notIterableAtAll
  refine wpAny_bind (wpAny_specialOf ht.typeIs slot_tuple_iter.lookup ?_)
  refine wpAny_pure ?_
  simp only [Bool.false_eq_true, if_false]
  refine wpAny_bind (wpAny_holding (iter_tuple ht ?_))
  refine wpAny_bind (wpAny_holding (draw_tuple hlt items.size 0 _ _ ⟨_, Heap.get?_push_size _ rfl, rfl, rfl⟩ (ht.push _) (by omega) fun h₁ hit₁ hs₁ => ?_))
  have hall : List.take items.size (List.drop 0 items.toList) = items.toList := by
   rw [List.drop_zero]; exact List.take_of_length_le (by simp)
  rw [hall]
  rw [if_neg (by simp)]
  have ht₁ : IsTup h₁ t items := (ht.push _).extBut hs₁.extBut hlt
  have hot₁ : HotAt A x1 h₁ := by
   obtain ⟨hh, o1, vs1, g1, d1, c1⟩ := hot
   exact ⟨hh, o1, vs1, hs₁.extBut x1 o1 hx1 (Heap.get?_push_of_some _ g1), d1, c1⟩
  refine wpAny_bind (wpAny_holding (rnext_tuple_end_hot hot₁ hit₁ ht₁ (by simp) fun h₂ he₂ => ?_))
  simp only [Option.isSome_none, Bool.false_eq_true, if_false]
  refine wpAny_pure (h h₂ fun b o hb e => he₂ b o hb (hs₁.extBut b o hb (Heap.get?_push_of_some _ e)))
theorem walks_tuple_hot {x1 : Addr} (I ax : Addr) (hne : ax ≠ I) (hx : x1 ≠ I) (items : Array Value) :
  Walks prog w A I [I, ax, x1] [I] items.size (fun i v => items[i]? = some v) (fun i h => h.IsTupleIter I ax i /\ h.IsTuple ax items /\ HotAt A x1 h) where
 sub := fun b hb => by simp at hb; simp [hb]
 frame := fun _ _ _ st hk => ⟨st.1.at fun o e => hk I (by simp) o e, st.2.1.at fun o e => hk ax (by simp) o e, by
  obtain ⟨hh, o1, vs1, g1, d1, c1⟩ := st.2.2
  exact ⟨hh, o1, vs1, hk x1 (by simp) _ g1, d1, c1⟩⟩
 item := fun i s Q E hi st hQ => by
  refine wpAny_pyNext_tuple_item st.1 st.2.1 (x := items[i]) (by simp [hi]) fun h' hit' hs' => ?_
  refine hQ _ h' s.toks (by simp [hi]) ⟨hit', st.2.1.extBut hs'.extBut hne, ?_⟩ fun b o hb e => hs'.extBut b o (fun h => hb (by simp [h])) e
  obtain ⟨hh, o1, vs1, g1, d1, c1⟩ := st.2.2
  exact ⟨hh, o1, vs1, hs'.extBut x1 _ hx g1, d1, c1⟩
 done := fun s Q E st hQ => next_tuple_end_hot st.2.2 st.1 st.2.1 (by simp) fun h' he' => hQ h' s.toks fun b o hb e => he' b o (fun h => hb (by simp [h])) e
 self := fun _ _ _ _ st hQ => wpAny_pyIter_tupleiter st.1 hQ
theorem min_two_hot {a b : Int} {t u : Tok} {x1 : Addr} {Q : Value -> Shared -> Prop} (hot : HotAt A x1 s.heap)
  (h : ∀ h' tk, (∀ c o, s.heap.get? c = some o -> h'.get? c = some o) -> Q (if b < a then .int b u else .int a t) { s with heap := h', toks := tk }) :
  wpAny (model prog w) A (call (.builtin "min") [.int a t, .int b u]) Q E s := by
 have hT : (s.heap.push { cls := .type "tuple", data := .seq #[.int a t, .int b u] }).IsTuple s.heap.objs.size (intItems #[(a, t), (b, u)]) := ⟨_, Heap.get?_push_size _ rfl, rfl, 0, by simp [intItems]⟩
 refine call_min_two (wpAny_pyIter_tuple hT ?_)
 have hsz : (s.heap.push { cls := .type "tuple", data := .seq #[.int a t, .int b u] }).objs.size = s.heap.objs.size + 1 := Heap.size_push ..
 have hx1 : x1 < s.heap.objs.size := by obtain ⟨_, o, _, ho, _⟩ := hot; exact Heap.lt_size ho
 refine ⟨_, [_, s.heap.objs.size, x1], [_], _, _, _, _, rfl, walks_tuple_hot (A := A.in1) (x1 := x1) _ s.heap.objs.size (by rw [hsz]; exact Nat.ne_of_lt (Nat.lt_succ_self _)) (by rw [hsz]; exact Nat.ne_of_lt (Nat.lt_succ_of_lt hx1)) (intItems #[(a, t), (b, u)]),
  ⟨⟨_, Heap.get?_push_size _ rfl, rfl, rfl⟩, hT.push _, ?_⟩, fun c hc => ?_, by simp [intItems], CmpOf.ints_lt (numAt #[(a, t), (b, u)]) (fun _ _ => intItems_at), fun v h' tk hP hk => ?_⟩
 ·obtain ⟨hh, o1, vs1, g1, d1, c1⟩ := hot
  exact ⟨hh, o1, vs1, Heap.get?_push_of_some _ (Heap.get?_push_of_some _ g1), d1, c1⟩
 ·show c < ((s.heap.push _).push _).objs.size
  rw [Heap.size_push, hsz]
  rcases List.mem_cons.mp hc with rfl | hc
  ·rw [hsz]; exact Nat.lt_succ_self _
  ·rcases List.mem_cons.mp hc with rfl | hc
   ·exact Nat.lt_succ_of_lt (Nat.lt_succ_self _)
   ·rw [List.mem_singleton.mp hc]; exact Nat.lt_succ_of_lt (Nat.lt_succ_of_lt hx1)
 ·have hold : ∀ c o, s.heap.get? c = some o -> h'.get? c = some o := fun c o e => by
   refine hk c o (fun hm => ?_) (Heap.get?_push_of_some _ (Heap.get?_push_of_some _ e))
   rcases List.mem_cons.mp hm with e1 | hm
   ·have := Heap.lt_size e; rw [e1, hsz] at this; exact Nat.lt_irrefl _ (Nat.lt_of_succ_lt this)
   ·cases hm
  have := h h' tk hold
  have hv : v = if b < a then Value.int b u else Value.int a t := by
   have hP' : (intItems #[(a, t), (b, u)])[argBest (fun i j => decide (numAt #[(a, t), (b, u)] i < numAt #[(a, t), (b, u)] j)) 1]? = some v := by
    have hsz2 : (intItems #[(a, t), (b, u)]).size - 1 = 1 := by simp [intItems]
    rw [<- hsz2]; exact hP
   by_cases hba : b < a
   ·have e : argBest (fun i j => decide (numAt #[(a, t), (b, u)] i < numAt #[(a, t), (b, u)] j)) 1 = 1 := by simp [argBest, numAt, hba]
    rw [e] at hP'
    simpa [intItems, hba] using hP'.symm
   ·have e : argBest (fun i j => decide (numAt #[(a, t), (b, u)] i < numAt #[(a, t), (b, u)] j)) 1 = 0 := by simp [argBest, numAt, hba]
    rw [e] at hP'
    simpa [intItems, hba] using hP'.symm
  rw [hv]; exact this
end
end FTH
namespace FT
open PySem PySem.W PySem.Spec PyProof.Rows L2
section
variable {X : Cx}
theorem pg_tupH {es : List Expr} {k : Nat} {t : TGs} {n : Nat} {pos : Pos} (hc : L2H.HotC X) (h : L2.PGs X es t)
  (hn : (assignEach es X.env).length = n := by rfl) (hst : (assignEach es X.env).findIdx? (·.1) = none := by rfl) : L2.PG X (.Tuple es k pos) (gTup X.K n t) := by
 refine ⟨fun pins s σ H v u Q I r hw => ?_⟩
 obtain ⟨a, xs, e1, hq, hl, hw⟩ := hw
 subst e1
 cases r
 obtain ⟨its, rv, ht, hz⟩ := I.tuple hq
 obtain ⟨x1, hot⟩ := hc.at I
 refine FTH.assign_tuple_hot hot ht (by simp [hn, <- hl, rv.length]) hst fun h' hx => ?_
 have I1 : Inv X pins σ H { s with heap := h' } := I.kept (t' := s.toks) fun b o e => hx b o (Nat.ne_of_lt (Heap.lt_size e)) e
 exact h.run pins _ σ H xs _ Q I1 (by simpa using rv) hw
theorem call_min2H (hc : L2H.HotC X) : CallR X (.builtin "min") (fun xs H Q => ∃ i j, xs = [.int i, .int j] /\ Q (.int (if j < i then j else i)) H) := by
 intro pins s σ H xs us Q I r h
 obtain ⟨i, j, rfl, q⟩ := h
 obtain ⟨u, w', rfl, ⟨t, rfl⟩, ⟨t', rfl⟩⟩ := vals2 r
 obtain ⟨x1, hot⟩ := hc.at I
 refine FTH.min_two_hot hot fun h' tk k => ⟨_, H, I.kept k, ?_, q⟩
 by_cases hj : j < i
 ·rw [if_pos hj, if_pos hj]; exact ⟨_, rfl⟩
 ·rw [if_neg hj, if_neg hj]; exact ⟨_, rfl⟩
theorem turn_enumH {P : Program} {w : World} {K : PySem.W.Frag} {elts : List Expr} {kk : Nat} {tpos : Pos} (a e it : Addr) :
  L2H.TurnH P w K (.Tuple elts kk tpos) (Ite K a) [e, it] e (fun i h => (∃ old, IsEnum h e it ((i : Nat) : Int) old) /\ h.IsListIter it a i /\ e ≠ it) where
 mem := by simp
 obj := fun i h st b hb => by
  obtain ⟨⟨old, he⟩, ⟨o, ho, hc, hd⟩, _⟩ := st
  have e' : b = e \/ b = it := by simpa using hb
  rcases e' with z | z
  ·rw [z]; exact ⟨_, he, fun v q => nomatch q⟩
  ·rw [z]; exact ⟨o, ho, fun v q => by rw [hd] at q; cases q⟩
 keep := fun i h h' st k => let ⟨⟨old, he⟩, hi, hne⟩ := st; ⟨⟨old, k e (by simp) _ he⟩, hi.at fun o q => k it (by simp) o q, hne⟩
 item := by
  intro X hP hw hK hc i pins s σ H E I hf st hg
  subst hP hw hK
  obtain ⟨⟨old, he⟩, hit, hne⟩ := st
  obtain ⟨xs, x, hq, hx⟩ := hg
  obtain ⟨its, rv, p, hz⟩ := I.list hq
  obtain ⟨u, hu, ru⟩ := rv.get hx
  have hel : e < s.heap.objs.size := Heap.lt_size he
  have hil : it < s.heap.objs.size := by obtain ⟨_, q, _⟩ := hit; exact Heap.lt_size q
  refine wpAny_pyNext_enum_item he hit p.isList (x := u) (by simpa using hu) hne fun h' ho hit' hT hsz hk => ?_
  refine ⟨_, rfl, wpAny_letOwnedTupleGo_enum (s := { s with heap := h', toks := s.toks + 1 }) ho fun h'' he' sb => ?_⟩
  have hT2 : h''.get? s.heap.objs.size = some { cls := .type "tuple", data := .seq #[.int i s.toks, u] } := (sb.2 _ (Nat.ne_of_gt hel)).trans hT
  have new : ObjOk X.prog X.w (upd H s.heap.objs.size (.tup [.int (i : Nat), x])) h'' s.heap.objs.size (.tup [.int (i : Nat), x]) :=
   ⟨by show 2 <= sizeLine; decide, [.int i s.toks, u], .cons ⟨_, rfl⟩ (.cons ru .nil), ⟨_, hT2, rfl, _, rfl⟩⟩
  have I1 : Inv X pins σ (upd H s.heap.objs.size (.tup [.int (i : Nat), x])) { s with heap := h'', toks := s.toks + 1 } :=
   I.turnedNew (ch := [e, it]) (fun b ob hb q => (sb.2 b (fun z => hb (by simp [z]))).trans (hk b ob (fun z => hb (by simp [z])) (fun z => hb (by simp [z])) q)) hf (Nat.le_refl _) new
  refine ⟨.ref s.heap.objs.size, _, I1, rfl, ⟨_, x, rfl, I.hok.fresh (Nat.le_refl _), rfl, fun ys hy => by rw [I.list_inj hy hq]; exact hx⟩, ⟨⟨u, ?_⟩, hit'.at fun o q => (sb.2 it (Ne.symm hne)).trans q, hne⟩, fun b hb => ?_⟩
  ·have e1 : ((i + 1 : Nat) : Int) = (i : Int) + 1 := by omega
   rw [e1]; exact he'
  ·have hb' : b < s.heap.objs.size := by
    have e' : b = e \/ b = it := by simpa using hb
    rcases e' with z | z
    ·rw [z]; exact hel
    ·rw [z]; exact hil
   rw [upd_ne (Nat.ne_of_lt hb')]
   exact (hf b hb).1
 done := by
  intro X hP hw hK hc i pins s σ H E I hf st hg
  subst hP hw hK
  obtain ⟨⟨old, he⟩, hit, hne⟩ := st
  obtain ⟨xs, hq, hx⟩ := hg
  obtain ⟨its, rv, p, hz⟩ := I.list hq
  obtain ⟨f0, f1, f2, f3, f4, f5⟩ := hf it (by simp)
  have hl := rv.length
  obtain ⟨x1, hot⟩ := hc.at I
  exact FTH.next_enum_end_hot hot he hit p.isList (by simp; omega) fun h' eb => ⟨rfl, I.turned (t' := s.toks) (fun b o hb q => eb b o hb q) f0 f1 f3 f4 f5⟩
 self := fun A i s Q E st h => let ⟨⟨_, he⟩, _⟩ := st; wpAny_pyIter_enum he h
theorem pi_enumH {e : Expr} {ta : TA} {p pos tpos : Pos} {elts : List Expr} {kk : Nat} (hg : Gl X "enumerate") (hm : X.mg "enumerate" = none) (ha : PA X [e] ta) (hs : starEach [e] X.env = [(false, eval e X.env)] := by rfl) :
  L2H.PIH X (.Tuple elts kk tpos) (.Call (.Name "enumerate" p) [e] [] pos) (iEnum X.K ta) := by
 refine ⟨fun pins s σ H R I h => ?_⟩
 refine Call_ (ld_blt I hg hm boot_enumerate (PyProof.Rows.callWith_type1 (thn (ha.run pos pins s σ H _ I h) fun us s1 ⟨vs, H1, I1, r1, q1⟩ => ?_) hs rfl))
 obtain ⟨a, xs, ex, hq, q⟩ := q1
 subst ex
 cases r1 with
 | cons r rr =>
  cases rr
  cases r
  obtain ⟨its, rv, p', hz⟩ := I1.list hq
  refine call_enumerate_list p'.isList fun h' he hit hsz hk => wpAny_pyIter_enum he ?_
  have I2 : Inv X pins σ H1 { s1 with heap := h' } := I1.kept (t' := s1.toks) hk
  refine ⟨s1.heap.objs.size + 1, [s1.heap.objs.size + 1, s1.heap.objs.size], _, _, H1, rfl, I2, turn_enumH a (s1.heap.objs.size + 1) s1.heap.objs.size, ⟨⟨.none, he⟩, hit, Nat.succ_ne_self _⟩, fun b hb => ?_, q⟩
  have e' : b = s1.heap.objs.size + 1 \/ b = s1.heap.objs.size := by simpa using hb
  have hle : s1.heap.objs.size <= b := by
   rcases e' with z | z
   ·rw [z]; exact Nat.le_add_right _ _
   ·rw [z]; exact Nat.le_refl _
  exact I1.fpOk hle (I1.hok.fresh hle)
end
structure FnPN (P : Program) (w : World) (K : PySem.W.Frag) (mg : Str -> Option Value) (base : Heap) (k : Nat) (f : Addr) (fd : FuncData) (ps : List Str) (sp : Addr -> Obj -> Sp) : Prop where
 len : ∀ a oe vs H Q E, sp a oe vs H Q E -> vs.length = ps.length
 run : ∀ (A : Around) (outer : List Env) (s : Shared) (H : Hp) (args : Args) (us : List Value) (vs : List V) (Q : VK) (E : XK) (a : Addr) (oe : Obj), L2H.Hot1 A (a, oe) -> L2H.RoomH k A -> L2H.PinOk outer H s (a, oe) -> Env0 P w K mg base A outer s H -> BindsTo s fd args (ps.zip us) -> Vals vs us -> sp a oe vs H Q E -> codeAny (model P w) A (.call (.ref f) args) (CR CX0 outer P w H s Q E) s
theorem okPN {P : Program} {w : World} {K : PySem.W.Frag} {mg : Str -> Option Value} {base : Heap} {x qual : Str} {st : Stmt} {f : Addr} {fd : FuncData} {N ps : List Str} {k : Nat} {sp : Addr -> Obj -> Sp} (F : Fun K x qual st f fd) (S : FnScope N ps (defScope st)) (len : ∀ a oe vs H Q E, sp a oe vs H Q E -> vs.length = ps.length)
  (body : ∀ (cdv : Value) (A : Around) (outer : List Env) (s : Shared) (H : Hp) (vs : List V) (Q : VK) (E : XK) (a : Addr) (oe : Obj), L2H.HotC (cxE P w K mg base N qual st f cdv A outer s H E a oe) -> L2H.RoomH k (A.deeper (envOfC qual (defScope st) s.heap.objs.size f cdv)) -> sp a oe vs H Q E -> ∃ t, PSs (cxE P w K mg base N qual st f cdv A outer s H E a oe) (defBody st) t /\ t { nx := fun _ H' => Q .non H', rt := Q } (start N vs) H) : FnPN P w K mg base (k + 1) f fd ps sp := by
 obtain ⟨oc, od, kV, doc, pm, an, cdv, ct, osl, rfl, lk, hcd⟩ := F.ex
 refine ⟨len, fun A outer s H args us vs Q E a oe hot room pin e0 bd rel hsp => ?_⟩
 have inK : K.In s.heap := e0.mod.kin.keeps fun b o e => (e0.bs b o e).1
 have noL : s.heap.NoLimit := e0.mod.nolimit.keeps fun b o e => (e0.bs b o e).1
 have kinds : ∀ y ∈ ps.zip us, (defScope st).names.lookup y.1 = some .local \/ ((defScope st).names.lookup y.1 = some .cell /\ ((cellsFrom (s.heap.objs.size + 1) (defScope st).names []).lookup y.1).isSome = true) := by
  rintro ⟨n, v⟩ hy
  exact (S.par n (List.of_mem_zip hy).1).imp id fun q => ⟨q, PySem.W.cellsFrom_some _ _ _ (.inl q)⟩
 refine codeAny_call_function room.depth (inK _ _ lk) rfl S.co S.gen rfl (PySem.W.codeRec_of inK hcd) (bd _ _ _ _ (wpAny_newFunctionEnv_cells S.kind kinds ?_))
 rintro env rfl s1 ic
 obtain ⟨t, ht, ht2⟩ := body cdv A outer s H vs Q E a oe ⟨(a, oe), ⟨hot.1, hot.2⟩, List.mem_singleton.mpr rfl⟩ (room.deeper _) hsp
 refine ⟨noL.keeps ic.toInCall.keep, codeAny_func (wpAny_mono (ht.nox.run [] s1 (start N vs) H _ (L2H.inv_startH (CX := CX0) (E := E) S pin e0 (len _ _ _ _ _ _ hsp) rel ic) ht2) ?_ fun e s' z => z)⟩
 intro fl s' hs
 match fl, hs with
 | .ret u, ⟨v, σ', H', J, rv, q⟩ => exact ⟨v, H', J.os, J.bare, J.base, J.hok, rv, q⟩
 | .next, ⟨σ', H', J, q⟩ => exact ⟨.non, H', J.os, J.bare, J.base, J.hok, rfl, q⟩
 | .brk, ⟨_, _, _, q⟩ => exact q.elim
 | .cont, ⟨_, _, _, q⟩ => exact q.elim
structure GotPN (P : Program) (w : World) (K : PySem.W.Frag) (mg : Str -> Option Value) (base : Heap) (x : Str) (ps : List Str) (k : Nat) (sp : Addr -> Obj -> Sp) : Prop where
 ex : ∃ (f : Addr) (fd : FuncData), FnPN P w K mg base k f fd ps sp /\ PySem.W.keepIn K (.ref f) = true /\ Binds K fd ps [] /\ mg x = some (.ref f)
section
variable {X : Cx} {a : Addr} {oe : Obj} {cls : Value} {d : Option Addr} {x : Str} {ps : List Str} {k : Nat} {sp : Addr -> Obj -> Sp} {e : Expr} {es : List Expr} {t : TA} {p pos : Pos}
theorem pe_gotPN (G : GotPN X.prog X.w X.K X.mg X.base x ps k sp) (hr : L2H.RoomH k X.A) (hg : Gl X x) (hm : (a, oe) ∈ X.pn) (hA : X.A.handled = some (.ref a)) (hz : L2N.Zn cls d oe) (hf : ∃ vs, oe.data = .fields vs) (ha : PA X (e :: es) t) (hdb : (x == ("__debug__" : Str)) = false := by decide) (he : starEach (e :: es) X.env = (false, eval e X.env) :: starEach es X.env := by rfl) (hpl : (backTo pos (starEach es X.env)).any (·.1) = false := by rfl) :
  PE X (.Call (.Name x p) (e :: es) [] pos) (tCallP sp a cls d t) := by
 obtain ⟨f, fd, F, h2, hb, h4⟩ := G.ex
 refine ⟨fun pins s σ H Q I h => wpAny_Call_Name_kw (ld_glob I hg h4 ?_ hdb)⟩
 refine PySem.W.callWith_K (h₀ := X.base) I.ok.mod.kin h2 (thn (ha.run pos pins s σ H _ I h) fun us s1 ⟨vs, H1, J, r, q⟩ => ⟨J.kIn, ?_⟩) he hpl
 have q1 := q oe hz.zc hf
 have P1 := J.pin (a, oe) (List.mem_append.mpr (.inl hm))
 have hl : (us ++ []).length = ps.length := by rw [List.append_nil, <- r.length]; exact F.len _ _ _ _ _ _ q1
 have b := hb s1 us J.kIn hl
 rw [List.append_nil] at b
 obtain ⟨fv, efv⟩ := hf
 refine wpAny_call (codeAny_mono (F.run X.A X.stack s1 H1 ⟨us, []⟩ us vs Q E0 a oe ⟨hA, fv, efv, hz.2.2 fv efv⟩ hr ⟨P1.1, P1.2.1, fun z => (List.mem_cons.mp (J.stkSub a z)).elim P1.2.2.1 P1.2.2.2.1, P1.2.2.2.2⟩ J.env0 b r q1) ?_)
 intro z s' hq
 match z, hq with
 | .error e, hq => exact (show False from hq).elim
 | .ok (.ret u), hq => exact J.after hq
 | .ok .next, hq => exact hq.elim
 | .ok .brk, hq => exact hq.elim
 | .ok .cont, hq => exact hq.elim
end
theorem passLN {X : Cx} : Passes (L2N.CX X.prog X.w) X E0 := fun _ _ _ _ _ _ _ h => by
 obtain ⟨_, _, _, _, _, _, _, _, _, _, _, _, z⟩ := h
 exact z.elim
theorem takes0N {X : Cx} : L2N.Takes X (fun _ _ _ _ => False) := fun _ _ x => by
 obtain ⟨_, _, _, _, _, _, _, _, _, _, _, _, _, _, _, _, z⟩ := x
 exact z.elim
theorem _root_.L2.Fun.okXN {P : Program} {w : World} {K : PySem.W.Frag} {mg : Str -> Option Value} {base : Heap} {x qual : Str} {st : Stmt} {f : Addr} {fd : FuncData} {N ps : List Str} {k : Nat} {sp : Sp} (F : Fun K x qual st f fd) (S : FnScope N ps (defScope st)) (len : ∀ vs H Q E, sp vs H Q E -> vs.length = ps.length)
  (hbody : ∀ (cdv : Value) (A : Around) (outer : List Env) (s : Shared) (H : Hp) (vs : List V) (Q : VK) (E : XK), Room k (A.deeper (envOfC qual (defScope st) s.heap.objs.size f cdv)) -> sp vs H Q E ->
   ∃ t, PSs (cxOf (L2N.CX P w) P w K mg base N qual (defScope st) f cdv A outer s H E) (defBody st) t /\ t { nx := fun _ H' => Q .non H', rt := Q } (start N vs) H) : FnOk P w K mg base (L2N.CX P w) (k + 1) f fd ps sp := by
 obtain ⟨oc, od, kV, doc, pm, an, cdv, ct, osl, rfl, lk, hcd⟩ := F.ex
 exact fn_of lk hcd S len fun A outer s H vs Q E hr hsp => hbody cdv A outer s H vs Q E hr hsp
structure GotXN (P : Program) (w : World) (K : PySem.W.Frag) (mg : Str -> Option Value) (base : Heap) (x : Str) (ps : List Str) (k : Nat) (sp : Sp) : Prop where
 ex : ∃ (f : Addr) (fd : FuncData), FnOk P w K mg base (L2N.CX P w) k f fd ps sp /\ PySem.W.keepIn K (.ref f) = true /\ Binds K fd ps [] /\ mg x = some (.ref f)
structure GotMXN (P : Program) (w : World) (K : PySem.W.Frag) (mg : Str -> Option Value) (base : Heap) (C : Addr) (m : Str) (ps : List Str) (k : Nat) (sp : Sp) : Prop where
 ex : ∃ (f : Addr) (fd : FuncData), FnOk P w K mg base (L2N.CX P w) k f fd ps sp /\ Meth K C m f /\ Binds K fd ps [] /\ Cls K C
structure GotIN (P : Program) (w : World) (K : PySem.W.Frag) (mg : Str -> Option Value) (base : Heap) (x : Str) (C : Addr) (ps : List Str) (k : Nat) (sp : Sp) : Prop where
 ex : ∃ (f : Addr) (fd : FuncData), FnOk P w K mg base (L2N.CX P w) k f fd ps sp /\ Mk K C f /\ Binds K fd ps [] /\ mg x = some (.ref C)
section
variable {X : Cx} {C : Addr} {x m : Str} {ps : List Str} {k : Nat} {sp : Sp} {e o : Expr} {es : List Expr} {ta : TE} {t : TA} {p pos apos : Pos} {pl : Sem Bool}
theorem pe_gotXN (G : GotXN X.prog X.w X.K X.mg X.base x ps k sp) (hr : Room k X.A) (hg : Gl X x) (ha : PA X (e :: es) t) (hdb : (x == ("__debug__" : Str)) = false := by decide) (he : starEach (e :: es) X.env = (false, eval e X.env) :: starEach es X.env := by rfl) (hpl : (backTo pos (starEach es X.env)).any (·.1) = false := by rfl) :
  PE X (.Call (.Name x p) (e :: es) [] pos) (tCall sp [] E0 t) := by
 obtain ⟨f, fd, h1, h2, h3, h4⟩ := G.ex
 exact pe_call h1 hr hg h4 h2 h3 .nil passLN ha hdb he hpl
theorem pe_gotSN {W : WX} (G : GotXN X.prog X.w X.K X.mg X.base x ps k sp) (hr : Room k X.A) (hg : Gl X x) (tk : L2N.Takes X W) (ha : PA X (e :: es) t) (hdb : (x == ("__debug__" : Str)) = false := by decide) (he : starEach (e :: es) X.env = (false, eval e X.env) :: starEach es X.env := by rfl) (hpl : (backTo pos (starEach es X.env)).any (·.1) = false := by rfl) :
  PE X (.Call (.Name x p) (e :: es) [] pos) (tCallS sp (WE W) t) := by
 obtain ⟨f, fd, h1, h2, h3, h4⟩ := G.ex
 exact pe_callS h1 hr hg h4 h2 h3 (fun σ => L2N.passAt tk σ) ha hdb he hpl
theorem pe_gotMXN (G : GotMXN X.prog X.w X.K X.mg X.base C m ps k sp) (hr : Room k X.A) (ho : PE X o ta) (ha : PA X (e :: es) t)
  (hst : starEach (e :: es) X.env = (false, eval e X.env) :: starEach es X.env := by rfl) (hpl : (backTo pos (starEach es X.env)).any (·.1) = false := by rfl)
  (ht : eval (.Call (.Attribute o m apos) (e :: es) [] pos) X.env = (do
    let ov <- eval o X.env
    standAt apos.atName
    let (g, first) <- holding [ov] (getMethod ov m pl)
    callWith pos g first (backTo pos (starEach (e :: es) X.env)) (backToKw pos (keywordEach [] X.env))) := by rfl) :
  PE X (.Call (.Attribute o m apos) (e :: es) [] pos) (tMethZ C m sp (fun _ => E0) ta t) := by
 obtain ⟨f, fd, h1, h2, h3, h4⟩ := G.ex
 exact pe_methZ ho h4 h2 h1 hr h3 (fun σ pins H s e s' I c => passLN pins σ H s e s' I c) ha hst hpl ht
theorem pe_gotMSN {W : WX} (G : GotMXN X.prog X.w X.K X.mg X.base C m ps k sp) (hr : Room k X.A) (tk : L2N.Takes X W) (ho : PE X o ta) (ha : PA X (e :: es) t)
  (hst : starEach (e :: es) X.env = (false, eval e X.env) :: starEach es X.env := by rfl) (hpl : (backTo pos (starEach es X.env)).any (·.1) = false := by rfl)
  (ht : eval (.Call (.Attribute o m apos) (e :: es) [] pos) X.env = (do
    let ov <- eval o X.env
    standAt apos.atName
    let (g, first) <- holding [ov] (getMethod ov m pl)
    callWith pos g first (backTo pos (starEach (e :: es) X.env)) (backToKw pos (keywordEach [] X.env))) := by rfl) :
  PE X (.Call (.Attribute o m apos) (e :: es) [] pos) (tMethZ C m sp (WE W) ta t) := by
 obtain ⟨f, fd, h1, h2, h3, h4⟩ := G.ex
 exact pe_methZ ho h4 h2 h1 hr h3 (fun σ => L2N.passAt tk σ) ha hst hpl ht
theorem pe_gotMS0N {W : WX} (G : GotMXN X.prog X.w X.K X.mg X.base C m ps k sp) (hr : Room k X.A) (tk : L2N.Takes X W) (ho : PE X o ta)
  (ht : eval (.Call (.Attribute o m apos) [] [] pos) X.env = (do
    let ov <- eval o X.env
    standAt apos.atName
    let (g, first) <- holding [ov] (getMethod ov m pl)
    callWith pos g first (backTo pos (starEach [] X.env)) (backToKw pos (keywordEach [] X.env))) := by rfl) :
  PE X (.Call (.Attribute o m apos) [] [] pos) (tMethZ C m sp (WE W) ta tNil) := by
 obtain ⟨f, fd, h1, h2, h3, h4⟩ := G.ex
 exact pe_methZ0 ho h4 h2 h1 hr h3 (fun σ => L2N.passAt tk σ) ht
theorem pe_gotIN (G : GotIN X.prog X.w X.K X.mg X.base x C ps k sp) (hr : Room (k + 1) X.A) (hg : Gl X x) (ha : PA X (e :: es) t) (hdb : (x == ("__debug__" : Str)) = false := by decide)
  (he : starEach (e :: es) X.env = (false, eval e X.env) :: starEach es X.env := by rfl) (hpl : (backTo pos (starEach es X.env)).any (·.1) = false := by rfl) :
  PE X (.Call (.Name x p) (e :: es) [] pos) (tMakeZ C sp (fun _ => E0) t) := by
 obtain ⟨f, fd, h1, h2, h3, h4⟩ := G.ex
 exact pe_makeZ h2 h1 hr hg h4 h3 (fun σ pins H s e s' I c => passLN pins σ H s e s' I c) ha hdb he hpl
theorem pmk_oexN {CX : CXT} {fI : Addr} {fd : FuncData} {ds : List Value} {dvs : List V} (T : OexC X.K C) (iC : PySem.W.findIn X.K (.ref C) "__init__" = some (some (.ref fI))) (tI : PySem.W.typeIn X.K (.ref fI) = some (.type "function"))
  (F1 : FnOk X.prog X.w X.K X.mg X.base CX k fI fd ps sp) (hr : Room (k + 1) X.A) (hb : Binds X.K fd ps ds) (hd : Vals dvs ds) (hx : Passes CX X (fun _ _ _ => False)) (hg : Gl X x) (hm : X.mg x = some (.ref C)) (ha : PA X (e :: es) t)
  (hdb : (x == ("__debug__" : Str)) = false := by decide) (he : starEach (e :: es) X.env = (false, eval e X.env) :: starEach es X.env := by rfl) (hpl : (backTo pos (starEach es X.env)).any (·.1) = false := by rfl) :
  L2N.PMk X (.Call (.Name x p) (e :: es) [] pos) (tMkO C sp dvs t) := by
 intro pins s σ H Q I h
 obtain ⟨nm, q, N, bs, bm, sn, sub, ab, col, dd, k0, k1, k2, k3, k5, hC, hbm⟩ := T.cls
 refine wpAny_Call_Name_kw (ld_glob I hg hm ?_ hdb)
 refine PySem.W.callWith_K (h₀ := X.base) I.ok.mod.kin T.kC (thn (ha.run pos pins s σ H _ I h) fun us s1 ⟨vs, H1, I1, r1, hz, q1⟩ => ⟨I1.kIn, ?_⟩) he hpl
 show wpAny _ _ (call (.ref C) us) _ _ _
 obtain ⟨hp, g, dr, tk, os⟩ := s1
 have hsz : hp.objs.size <= hp.objs.size + 1 := Nat.le_succ _
 have hn : H1 (hp.objs.size + 1) = none := I1.hok.fresh hsz
 have hq := q1 (hp.objs.size + 1) hn
 have kk : ∀ b o, hp.get? b = some o -> ((hp.push (PySem.W.kdv_tup us)).push (PySem.HandSPX.excO C hp.objs.size)).get? b = some o := fun b o e => Heap.get?_push_of_some _ (Heap.get?_push_of_some _ e)
 have hget : ((hp.push (PySem.W.kdv_tup us)).push (PySem.HandSPX.excO C hp.objs.size)).get? (hp.objs.size + 1) = some (PySem.HandSPX.excO C hp.objs.size) := by heap_get
 have I2 : Inv X pins σ (upd H1 (hp.objs.size + 1) (exo (hp.objs.size + 1) C none)) ⟨(hp.push (PySem.W.kdv_tup us)).push (PySem.HandSPX.excO C hp.objs.size), g, dr, tk, os⟩ :=
  I1.laid (t' := tk) (a := hp.objs.size + 1) (o := exo (hp.objs.size + 1) C none) (h' := (hp.push (PySem.W.kdv_tup us)).push (PySem.HandSPX.excO C hp.objs.size)) kk hsz (exo_ok hget)
 have r2 : Vals (V.ref (hp.objs.size + 1) :: (vs ++ dvs)) (Value.ref (hp.objs.size + 1) :: (us ++ ds)) := .cons rfl (r1.append hd)
 have hl : (Value.ref (hp.objs.size + 1) :: us ++ ds).length = ps.length := by
  have e := r2.length
  rw [F1.len _ _ _ _ hq] at e
  exact e.symm
 have hus : us.length <= sizeLine := by
  rw [<- Paired.length r1, sizeLine_eq]
  omega
 refine wpAny_call (PySem.HandSPX.call_own F.excBase_ValueError (fun Y => PySem.HandSPX.refsVE_contains Y bm hbm) (I1.kIn _ _ hC) (PySem.W.looks_findIn I1.kIn iC) (fun self => PySem.W.bind_fn I1.kIn self tI) hus
  (codeAny_mono (F1.run _ X.stack _ _ ⟨Value.ref (hp.objs.size + 1) :: us, []⟩ (Value.ref (hp.objs.size + 1) :: (us ++ ds)) _ _ (fun _ _ _ => False) (hr.make C us []) (I2.env0.make C us []) (hb _ (Value.ref (hp.objs.size + 1) :: us) I2.kIn hl) r2 hq) fun r s' hq' => ?_))
 cases r with
 | error er => exact hx pins σ _ _ er s' I2 hq'
 | ok fl =>
  cases fl with
  | ret u =>
   obtain ⟨v, H2, os2, bare2, un2, hok2, rv, ev, d, fs, ea, ed, hd1, q2⟩ := hq'
   subst ev
   obtain ⟨h2, g2, d2, t2, os'⟩ := s'
   obtain ⟨t0, G, J, kG, ge, hoe, na⟩ := mk_end0 (d2 := d2) (t2 := t2) I1 hsz kk un2 hok2 os2 bare2 ea ed hd1
   refine ⟨rv, ⟨hp.objs.size + 1, _, _, ⟨G, g2, d2, t2, os'⟩, _, .ref C, some d, rfl, J, kG, ge, hoe, ⟨rfl, rfl, fun vs hv => ?_⟩, rfl, rfl, na, rfl, bare2, raises_own T.exC T.tyC, q2⟩⟩
   cases hv
   rfl
  | next => exact False.elim hq'
  | brk => exact False.elim hq'
  | cont => exact False.elim hq'
theorem pmk_kindN {te : TE} (O : OwnI X.prog X.w X.K X.mg X.base x C k) (hr : Room (k + 1) X.A) (hg : Gl X x) (he : PE X e te) (hdb : (x == ("__debug__" : Str)) = false := by decide)
  (hs : starEach [e] X.env = (false, eval e X.env) :: starEach [] X.env := by rfl) (hpl : (backTo pos (starEach [] X.env)).any (·.1) = false := by rfl) : L2N.PMk X (.Call (.Name x p) [e] [] pos) (tKind C te) := by
 obtain ⟨f, fd, h1, h2, h3, h4⟩ := O.ex
 have hw := pmk_oexN (p := p) O.T h1 h2 h3 hr h4 .nil pass0 hg O.gC (pa_cons (hs := hs) he.wide pa_nil) hdb hs hpl
 intro pins s σ H Q I h
 refine hw pins s σ H Q I ⟨_, h, fun y H1 q => ?_⟩
 refine ⟨by simp, fun a ha => ⟨a, y, rfl, O.T, O.no, upd_same, fun dx hd ne => ⟨rfl, dx, [("kind", y)], upd_same, ?_, ?_, ?_⟩⟩⟩
 ·rw [upd_ne ne, upd_same]
 ·rw [upd_ne ne] at hd; exact hd
 ·have e : upd (del (upd (upd (upd H1 a (exo a C none)) dx (exd dx [("kind", y)])) a (exo a C (some dx))) a) dx (.xd [("kind", y)]) = upd H1 dx (.xd [("kind", y)]) := by
   funext b
   by_cases h1 : b = dx
   ·subst h1; rw [upd_same, upd_same]
   ·rw [upd_ne h1, upd_ne h1]
    by_cases h2 : b = a
    ·subst h2; rw [del_same, ha]
    ·rw [del_ne h2, upd_ne h2, upd_ne h1, upd_ne h2]
  rw [e]
  rw [upd_ne ne] at hd
  exact q dx hd
end
instance strOrd : Orderly PyData.str where
 al a b := by simp [alike]
 eq a b := by simp [PyData.eqv, Gr.sb]
structure Rw7 (K : PySem.W.Frag) (H : Hp) (r l0 l1 l2 : Addr) (gs : List Gr) (ds : List Fa) (us : List (Fa × Gr)) : Prop where
 rr : H r = some (.lst [.ref l0, .ref l1, .ref l2])
 st : ∃ vs, H l0 = some (.lst vs) /\ Bears K H Gr.enc vs gs
 dn : ∃ vs, H l1 = some (.lst vs) /\ Bears K H faE vs ds
 un : ∃ vs, H l2 = some (.lst vs) /\ Bears K H fgE vs us
 r0 : r ≠ l0
 r1 : r ≠ l1
 r2 : r ≠ l2
 n1 : l0 ≠ l1
 n2 : l0 ≠ l2
 n3 : l1 ≠ l2
structure Pw7 (b : Bk) (n : Nat) (gs : List Gr) (ds : List Fa) (us : List (Fa × Gr)) : Prop where
 st : ∀ g ∈ gs, Std b n g
 un : ∀ x ∈ us, Std b n x.2
 dl : ∀ f ∈ ds, f.1.length <= 60
 ul : ∀ x ∈ us, x.1.1.length <= 60
 gl : gs.length = ds.length + 1
 len : ds.length + us.length <= n
abbrev ft7 (a ls ld lu r l0 l1 l2 : Addr) : List Addr := [a, ls, ld, lu, r, l0, l1, l2]
structure Pr7 (K : PySem.W.Frag) (C CB : Addr) (H : Hp) (bv : V) (b : Bk) (a ls ld lu r l0 l1 l2 : Addr) (gs : List Gr) (ds : List Fa) (us : List (Fa × Gr)) (n : Nat) : Prop where
 ply : Ply K C H bv a ls ld lu gs ds us
 row : Rw7 K H r l0 l1 l2 gs ds us
 bk : BkA K CB H bv b
 ok : b.Ok
 pw : Pw7 b n gs ds us
 dj : ∀ x ∈ [a, ls, ld, lu], x ∉ [r, l0, l1, l2]
section
variable {K : PySem.W.Frag} {C CB : Addr} {H H' : Hp} {bv : V} {b : Bk} {a ls ld lu r l0 l1 l2 : Addr} {gs : List Gr} {ds : List Fa} {us : List (Fa × Gr)} {n : Nat} {ps : List Addr}
theorem Rw7.sb (h : Rw7 K H r l0 l1 l2 gs ds us) (e : SB ps H H') (nr : r ∉ ps) (n0 : l0 ∉ ps) (n1 : l1 ∉ ps) (n2 : l2 ∉ ps) : Rw7 K H' r l0 l1 l2 gs ds us := by
 obtain ⟨h0, ⟨v1, h1, b1⟩, ⟨v2, h2, b2⟩, ⟨v3, h3, b3⟩, m0, m1, m2, m3, m4, m5⟩ := h
 exact ⟨e.keep _ _ h0 nr, ⟨v1, e.keep _ _ h1 n0, b1.sb e Gr.noList_enc⟩, ⟨v2, e.keep _ _ h2 n1, b2.sb e faE_noList⟩, ⟨v3, e.keep _ _ h3 n2, b3.sb e fgE_noList⟩, m0, m1, m2, m3, m4, m5⟩
theorem Rw7.sb0 (h : Rw7 K H r l0 l1 l2 gs ds us) (e : SB [] H H') : Rw7 K H' r l0 l1 l2 gs ds us := h.sb e (by simp) (by simp) (by simp) (by simp)
theorem Rw7.ftp (h : Rw7 K H r l0 l1 l2 gs ds us) : Ftp H C [r, l0, l1, l2] := by
 obtain ⟨h0, ⟨v1, h1, _⟩, ⟨v2, h2, _⟩, ⟨v3, h3, _⟩, _⟩ := h
 intro p hp
 simp only [List.mem_cons, nmn, or_false] at hp
 rcases hp with rfl | rfl | rfl | rfl
 ·exact .inr (.inl ⟨_, h0⟩)
 ·exact .inr (.inl ⟨_, h1⟩)
 ·exact .inr (.inl ⟨_, h2⟩)
 ·exact .inr (.inl ⟨_, h3⟩)
theorem Ftp.app {p q : List Addr} (h : Ftp H C p) (h' : Ftp H C q) : Ftp H C (p ++ q) := fun x hx => (List.mem_append.mp hx).elim (h x) (h' x)
theorem Ftp.one {p : Addr} {xs : List V} (h : H p = some (.lst xs)) : Ftp H C [p] := fun x hx => .inr (.inl ⟨xs, by rw [List.mem_singleton.mp hx]; exact h⟩)
theorem Pr7.ftp (h : Pr7 K C CB H bv b a ls ld lu r l0 l1 l2 gs ds us n) : Ftp H C (ft7 a ls ld lu r l0 l1 l2) := h.ply.ftp.app h.row.ftp
theorem Pr7.sm (h : Pr7 K C CB H bv b a ls ld lu r l0 l1 l2 gs ds us n) {x : Addr} (hx : x ∈ ft7 a ls ld lu r l0 l1 l2) : ∃ z, H x = some z := by
 obtain ⟨dx, i0⟩ := h.ply.ins
 obtain ⟨v1, e1, _⟩ := h.ply.st
 obtain ⟨v2, e2, _⟩ := h.ply.dn
 obtain ⟨v3, e3, _⟩ := h.ply.un
 have i4 := h.row.rr
 obtain ⟨v5, e5, _⟩ := h.row.st
 obtain ⟨v6, e6, _⟩ := h.row.dn
 obtain ⟨v7, e7, _⟩ := h.row.un
 simp only [ft7, List.mem_cons, nmn, or_false] at hx
 rcases hx with rfl | rfl | rfl | rfl | rfl | rfl | rfl | rfl
 ·exact ⟨_, i0⟩
 ·exact ⟨_, e1⟩
 ·exact ⟨_, e2⟩
 ·exact ⟨_, e3⟩
 ·exact ⟨_, i4⟩
 ·exact ⟨_, e5⟩
 ·exact ⟨_, e6⟩
 ·exact ⟨_, e7⟩
theorem Pr7.sb (h : Pr7 K C CB H bv b a ls ld lu r l0 l1 l2 gs ds us n) (e : SB ps H H') (hf : Ftp H C ps) (hn : ∀ x ∈ ft7 a ls ld lu r l0 l1 l2, x ∉ ps) : Pr7 K C CB H' bv b a ls ld lu r l0 l1 l2 gs ds us n :=
 ⟨h.ply.sb e (hn _ (by simp)) (hn _ (by simp)) (hn _ (by simp)) (hn _ (by simp)), h.row.sb e (hn _ (by simp)) (hn _ (by simp)) (hn _ (by simp)) (hn _ (by simp)), h.bk.sbF e hf, h.ok, h.pw, h.dj⟩
theorem Pr7.sb0 (h : Pr7 K C CB H bv b a ls ld lu r l0 l1 l2 gs ds us n) (e : SB [] H H') : Pr7 K C CB H' bv b a ls ld lu r l0 l1 l2 gs ds us n := h.sb e (fun _ z => by cases z) (fun _ _ z => by cases z)
theorem Pw7.mono {m : Nat} (h : Pw7 b n gs ds us) (hm : n <= m) : Pw7 b m gs ds us := ⟨fun g hg => (h.st g hg).mono hm, fun x hx => (h.un x hx).mono hm, h.dl, h.ul, h.gl, Nat.le_trans h.len hm⟩
theorem Pr7.mono {m : Nat} (h : Pr7 K C CB H bv b a ls ld lu r l0 l1 l2 gs ds us n) (hm : n <= m) : Pr7 K C CB H bv b a ls ld lu r l0 l1 l2 gs ds us m := ⟨h.ply, h.row, h.bk, h.ok, h.pw.mono hm, h.dj⟩
theorem Pw7.last (h : Pw7 b n gs ds us) : ∃ g0 g, gs = g0 ++ [g] /\ g0.length = ds.length /\ Std b n g := by
 have hl := h.gl
 rcases List.eq_nil_or_concat gs with e | ⟨g0, g, e⟩
 ·rw [e] at hl; simp at hl
 ·rw [List.concat_eq_append] at e
  subst e
  rw [List.length_append, List.length_singleton] at hl
  exact ⟨g0, g, rfl, by omega, h.st g (by simp)⟩
theorem Pw7.back {g0 : List Gr} {h g : Gr} {d0 : List Fa} {f : Fa} (w : Pw7 b n (g0 ++ [h] ++ [g]) (d0 ++ [f]) us) : Pw7 b n (g0 ++ [h]) d0 (us ++ [(f, g)]) := by
 obtain ⟨h1, h2, h3, h4, h5, h6⟩ := w
 simp only [List.length_append, List.length_singleton] at h5 h6
 refine ⟨fun x hx => h1 x (List.mem_append.mpr (.inl hx)), fun x hx => ?_, fun x hx => h3 x (List.mem_append.mpr (.inl hx)), fun x hx => ?_, by simp only [List.length_append, List.length_singleton]; omega, by simp only [List.length_append, List.length_singleton]; omega⟩
 ·rcases List.mem_append.mp hx with e | e
  ·exact h2 x e
  ·rw [List.mem_singleton.mp e]; exact h1 g (by simp)
 ·rcases List.mem_append.mp hx with e | e
  ·exact h4 x e
  ·rw [List.mem_singleton.mp e]; exact h3 f (by simp)
theorem Pw7.again {u0 : List (Fa × Gr)} {f : Fa} {g : Gr} (w : Pw7 b n gs ds (u0 ++ [(f, g)])) : Pw7 b n (gs ++ [g]) (ds ++ [f]) u0 := by
 obtain ⟨h1, h2, h3, h4, h5, h6⟩ := w
 simp only [List.length_append, List.length_singleton] at h6
 refine ⟨fun x hx => ?_, fun x hx => h2 x (List.mem_append.mpr (.inl hx)), fun x hx => ?_, fun x hx => h4 x (List.mem_append.mpr (.inl hx)), by simp only [List.length_append, List.length_singleton]; omega, by simp only [List.length_append, List.length_singleton]; omega⟩
 ·rcases List.mem_append.mp hx with e | e
  ·exact h1 x e
  ·rw [List.mem_singleton.mp e]; exact h2 (f, g) (by simp)
 ·rcases List.mem_append.mp hx with e | e
  ·exact h3 x e
  ·rw [List.mem_singleton.mp e]; exact h4 (f, g) (by simp)
theorem Pw7.fall {f : Fa} {g : Gr} (w : Pw7 b n gs ds us) (hg : Std b (n + 1) g) (hf : f.1.length <= 60) : Pw7 b (n + 1) (gs ++ [g]) (ds ++ [f]) [] := by
 obtain ⟨h1, h2, h3, h4, h5, h6⟩ := w
 refine ⟨fun x hx => ?_, (fun x z => nomatch z), fun x hx => ?_, (fun x z => nomatch z), by simp only [List.length_append, List.length_singleton]; omega, by simp only [List.length_append, List.length_singleton, List.length_nil]; omega⟩
 ·rcases List.mem_append.mp hx with e | e
  ·exact (h1 x e).mono (Nat.le_succ n)
  ·rw [List.mem_singleton.mp e]; exact hg
 ·rcases List.mem_append.mp hx with e | e
  ·exact h3 x e
  ·rw [List.mem_singleton.mp e]; exact hf
end
def TellQ (K : PySem.W.Frag) (Q : VK) : VK := fun p H' => ∀ (T : Addr) (H'' : Hp), SB [] H' H'' -> H' T = none -> SqT K H'' T [.str "done", p] -> Q (.ref T) H''
def TellE (K : PySem.W.Frag) (c : Str -> Addr) (cs : List Str) (Q : VK) : XK := fun v d H' => ∃ (m w : Str) (j : Nat), v = .ref (c m) /\ d = none /\ m ∈ cs /\ 0 < j /\ j < 7 /\ W12[j]? = some m /\ W7[j]? = some w /\ ∀ (T : Addr) (H'' : Hp), SB [] H' H'' -> SqT K H'' T [.str w] -> Q (.ref T) H''
section
variable {K : PySem.W.Frag} {C CB NP NR NN TG NF : Addr} {vs : List V} {H : Hp} {Q Q' : VK} {E E' : XK}
theorem spPyFall.mono (h : spPyFall K C CB NP NR NN TG vs H Q E) (hq : ∀ v G, Q v G -> Q' v G) (he : ∀ v d G, E v d G -> E' v d G) : spPyFall K C CB NP NR NN TG vs H Q' E' := by
 obtain ⟨a, ls, ld, lu, pa, bv, x, y, b, gs, g, ds, us, D, xs, os, ro, so, e, h1, h2, h3, h4, h5, h6, h7, h8, h9⟩ := h
 refine ⟨a, ls, ld, lu, pa, bv, x, y, b, gs, g, ds, us, D, xs, os, ro, so, e, h1, h2, h3, h4, h5, h6, h7, fun z G s => he _ _ _ (h8 z G s), fun pl k kd e1 e2 e3 => ?_⟩
 obtain ⟨q1, q2⟩ := h9 pl k kd e1 e2 e3
 refine ⟨fun z G s => he _ _ _ (q1 z G s), fun i r e4 e5 => ?_⟩
 obtain ⟨q3, q4⟩ := q2 i r e4 e5
 refine ⟨fun z G s => he _ _ _ (q3 z G s), fun n e6 n0 => ?_⟩
 obtain ⟨q5, q6⟩ := q4 n e6 n0
 exact ⟨fun z G s => he _ _ _ (q5 z G s), fun z lu' p G s h1 h2 h3 => hq _ _ (q6 z lu' p G s h1 h2 h3)⟩
theorem spPyBack.mono (h : spPyBack K C NF vs H Q E) (hq : ∀ v G, Q v G -> Q' v G) (he : ∀ v d G, E v d G -> E' v d G) : spPyBack K C NF vs H Q' E' := by
 obtain ⟨a, ls, ld, lu, bv, gs, ds, us, e, h1, h2, h3, h4⟩ := h
 refine ⟨a, ls, ld, lu, bv, gs, ds, us, e, h1, h2, fun z G s => he _ _ _ (h3 z G s), fun z => ?_⟩
 obtain ⟨g0, h, g, d0, f, e1, e2, q⟩ := h4 z
 exact ⟨g0, h, g, d0, f, e1, e2, fun v G s p w => hq _ _ (q v G s p w)⟩
theorem spPyAgain.mono (h : spPyAgain K C NF vs H Q E) (hq : ∀ v G, Q v G -> Q' v G) (he : ∀ v d G, E v d G -> E' v d G) : spPyAgain K C NF vs H Q' E' := by
 obtain ⟨a, ls, ld, lu, bv, gs, ds, us, e, h1, h2, h2', h3, h4⟩ := h
 refine ⟨a, ls, ld, lu, bv, gs, ds, us, e, h1, h2, h2', fun z G s => he _ _ _ (h3 z G s), fun z => ?_⟩
 obtain ⟨u0, f, g, e1, q⟩ := h4 z
 exact ⟨u0, f, g, e1, fun v G s p w => hq _ _ (q v G s p w)⟩
end
def spDone37 (K : PySem.W.Frag) (c : Str -> Addr) (cs : List Str) (C CB : Addr) : Sp := fun vs H Q _ => ∃ (a D dx : Addr) (bv : V) (ls ld lu : Addr), vs = [.ref a, .ref D] /\ H a = some (.ins C dx (plF bv ls ld lu)) /\
 ((∃ (pa : Addr) (x y : V), SqT K H D [.str "fall", .ref pa, x, y] /\ spPyFall K C CB (c "NoPlace") (c "NoRule") (c "NoNumber") (c "TooGreat") [.ref a, .ref pa, x, y] H (TellQ K Q) (TellE K c cs Q)) \/ (SqT K H D [.str "back"] /\ spPyBack K C (c "NoFall") [.ref a] H (TellQ K Q) (TellE K c cs Q)) \/ (SqT K H D [.str "again"] /\ spPyAgain K C (c "NoFall") [.ref a] H (TellQ K Q) (TellE K c cs Q)))
def spKept37 (K : PySem.W.Frag) (C CB : Addr) : Sp := fun vs H Q _ => ∃ (a ls ld lu r l0 l1 l2 : Addr) (bv : V) (b : Bk) (gs : List Gr) (ds : List Fa) (us : List (Fa × Gr)) (n : Nat), vs = [.ref a, .ref r] /\ Pr7 K C CB H bv b a ls ld lu r l0 l1 l2 gs ds us n /\ n <= 50 /\ ∀ H', SB [] H H' -> Q (.bl true) H'
def spTurned37 (K : PySem.W.Frag) (C CB : Addr) : Sp := fun vs H Q _ => ∃ (a ls ld lu r l0 l1 l2 : Addr) (bv : V) (b : Bk) (gs : List Gr) (ds : List Fa) (us : List (Fa × Gr)) (n : Nat) (way : Str), vs = [.ref a, .ref r, .str way] /\ (way = "back" \/ way = "again") /\ Pr7 K C CB H bv b a ls ld lu r l0 l1 l2 gs ds us n /\ n <= 50 /\ ∀ (gs' : List Gr) (ds' : List Fa) (us' : List (Fa × Gr)) (H' : Hp), SB [ls, ld, lu, l0, l1, l2] H H' -> Pr7 K C CB H' bv b a ls ld lu r l0 l1 l2 gs' ds' us' n -> Q (.bl true) H'
def spRefu37 (K : PySem.W.Frag) (C CB : Addr) : Sp := fun vs H Q _ => ∃ (a ls ld lu r l0 l1 l2 p l : Addr) (xs : List V) (bv : V) (b : Bk) (gs : List Gr) (ds : List Fa) (us : List (Fa × Gr)) (n : Nat), vs = [.ref a, .ref r, .ref p, .ref l] /\ Pr7 K C CB H bv b a ls ld lu r l0 l1 l2 gs ds us n /\ n <= 50 /\ PuW H p /\ p ∉ ft7 a ls ld lu r l0 l1 l2 /\ (H l = some (.lst xs) /\ KdAll K H [p] xs b /\ l ≠ p) /\ ∀ H', SB [p] H H' -> PuW H' p -> Q (.bl true) H'
def spNew37 (K : PySem.W.Frag) (C CB : Addr) : Sp := fun vs H Q _ => ∃ (a ls ld lu r l0 l1 l2 p l : Addr) (xs : List V) (bv : V) (b : Bk) (gs : List Gr) (ds : List Fa) (us : List (Fa × Gr)) (n : Nat), vs = [.ref a, .ref r, .ref p, .ref l, bv] /\ Pr7 K C CB H bv b a ls ld lu r l0 l1 l2 gs ds us n /\ n <= 50 /\ PuW H p /\ p ∉ ft7 a ls ld lu r l0 l1 l2 /\ (H l = some (.lst xs) /\ KdAll K H [p] xs b /\ l ≠ p) /\ ∀ (gs' : List Gr) (ds' : List Fa) (us' : List (Fa × Gr)) (lu' : Addr) (H' : Hp), SB [p, a, ls, ld, l0, l1, l2] H H' -> PuW H' p -> (lu' = lu \/ H lu' = none) -> Pr7 K C CB H' bv b a ls ld lu' r l0 l1 l2 gs' ds' us' (n + 1) -> Q (.bl true) H'
theorem fgs_eqnil (us : List (Fa × Gr)) : PyData.eqv (.list (us.map fgE)) (.list []) = decide (us = []) := by
 cases us with
 | nil => simp [PyData.eqv, PyData.eqvAll]
 | cons x r => simp [PyData.eqv, PyData.eqvAll]
theorem fgE_wd {n : Nat} {b : Bk} {x : Fa × Gr} (h : Std b n x.2) : (fgE x).canLay0 = true /\ (fgE x).depth <= 186 := by
 obtain ⟨a1, a2⟩ := Gr.wd h.ok (show x.2.deep <= 63 by have := h.deep; omega)
 have e1 : (faE x.1).canLay0 = true := plS_lay _ (faE_pl x.1)
 refine ⟨by show PyData.canLay0 (.tuple [faE x.1, x.2.enc]) = true; rw [PyData.canLay0, PyData.canLayAll0, PyData.canLayAll0, a1, e1]; rfl, ?_⟩
 have := x.2.enc_depth
 have := h.deep
 have := faE_depth x.1
 show PyData.depth (.tuple [faE x.1, x.2.enc]) <= 186
 simp only [PyData.depth, PyData.depthAll]
 omega
theorem fgs_wd {n : Nat} {b : Bk} {us : List (Fa × Gr)} (h : ∀ x ∈ us, Std b n x.2) : Wd (.list (us.map fgE)) := by
 have h1 : PyData.canLayAll0 (us.map fgE) = true := by
  induction us with
  | nil => rfl
  | cons x r ih => rw [List.map_cons, PyData.canLayAll0, (fgE_wd (h x (mcs ..))).1, ih fun y hy => h y (mcm _ hy)]; rfl
 have h2 : PyData.depthAll (us.map fgE) <= 186 := by
  induction us with
  | nil => decide
  | cons x r ih =>
   have q1 := (fgE_wd (h x (mcs ..))).2
   have q2 := ih (fun y hy => h y (mcm _ hy)) (by
    rw [List.map_cons, PyData.canLayAll0, Bool.and_eq_true] at h1; exact h1.2)
   rw [List.map_cons, PyData.depthAll]
   omega
 refine ⟨by rw [PyData.canLay0]; exact h1, ?_⟩
 rw [PyData.depth]
 omega
theorem dn_wd {d : PyData} (h : d.canLay0 = true) (hd : d.depth <= 188) : Wd (.tuple [.str "done", d]) := by
 refine ⟨by rw [PyData.canLay0, PyData.canLayAll0, PyData.canLayAll0, h]; decide +kernel, ?_⟩
 simp only [PyData.depth, PyData.depthAll]
 omega
theorem dn_gr {C : Int} {g : Gr} (h : g.Ok C) (hd : g.deep <= 60) : Wd (.tuple [.str "done", g.enc]) := by
 obtain ⟨a1, a2⟩ := Gr.wd h (show g.deep <= 63 by omega)
 have := g.enc_depth
 exact dn_wd a1 (by omega)
theorem dn_eqv {d : PyData} (h : PyData.eqv d d = true) : PyData.eqv (.tuple [.str "done", d]) (.tuple [.str "done", d]) = true := by
 simp only [PyData.eqv, PyData.eqvAll, h, Bool.and_true]
 decide +kernel
section
variable {K : PySem.W.Frag} {c : Str -> Addr} {cs : List Str} {C CB TG : Addr} {H : Hp} {Q : VK} {bv x y : V} {b : Bk} {a ls ld lu r l0 l1 l2 pa : Addr} {g0 : List Gr} {g : Gr} {ds : List Fa} {us : List (Fa × Gr)} {n : Nat} {xs : List V} {os : List (Option Int)} {ro so : Option Int} {w : Str}
theorem tell_e {j : Nat} {m : Str} (h1 : m ∈ cs) (h2 : 0 < j) (h3 : j < 7) (h4 : W12[j]? = some m) (h5 : W7[j]? = some w) (q : ∀ (T : Addr) (H' : Hp), SB [] H H' -> SqT K H' T [.str w] -> Q (.ref T) H') {H1 : Hp} (s : SB [] H H1) : TellE K c cs Q (.ref (c m)) none H1 :=
 ⟨m, w, j, rfl, rfl, h1, h2, h3, h4, h5, fun T H2 s2 hT => q T H2 (s.trans s2) hT⟩
theorem Pr7.bad (hP : Pr7 K C CB H bv b a ls ld lu r l0 l1 l2 (g0 ++ [g]) ds us n) (hn : n <= 60) (hpa : SqT K H pa xs) (hw : Whs K H xs os) (hx : Wh K H x ro) (hy : Wh K H y so) (hb : ∀ z, so = some z -> z < 2 ^ 900) (i1 : ("NoPlace" : Str) ∈ cs) (i2 : ("NoRule" : Str) ∈ cs) (i3 : ("NoNumber" : Str) ∈ cs)
  (h : ((∀ pl k, os = plO pl -> Gr.bareAt g pl ≠ some k) /\ w = "place") \/ (∃ (pl : Pl) (k : Str) (kd : Kd), os = plO pl /\ Gr.bareAt g pl = some k /\ b.get k = some kd /\ (((∀ i : Nat, ro = some (i : Int) -> (noR :: kd.rs)[i]? = none) /\ w = "rule") \/ ∃ (i : Nat) (ru : Ru), ro = some (i : Int) /\ (noR :: kd.rs)[i]? = some ru /\ (∀ z, so = some z -> z < 0) /\ w = "said")))
  (q : ∀ (T : Addr) (H' : Hp), SB [] H H' -> SqT K H' T [.str w] -> Q (.ref T) H') : spPyFall K C CB (c "NoPlace") (c "NoRule") (c "NoNumber") TG [.ref a, .ref pa, x, y] H (TellQ K Q) (TellE K c cs Q) := by
 have gl := hP.pw.gl
 have len := hP.pw.len
 rw [List.length_append, List.length_singleton] at gl
 have st := hP.pw.st g (by simp)
 refine ⟨a, ls, ld, lu, pa, bv, x, y, b, g0, g, ds, us, _, xs, os, ro, so, rfl, ⟨hP.ply, by omega, by omega⟩, ⟨hP.bk, hP.ok⟩, ⟨st.ok, st.deep, st.parts, st.nm⟩, ⟨hpa, hw⟩, hx, hy, hb, fun hno H1 s => ?_, fun pl k kd e1 e2 e3 => ?_⟩
 ·rcases h with ⟨_, rfl⟩ | ⟨pl, k, _, e1, e2, _⟩
  ·exact tell_e i1 (j := 1) (by decide) (by decide) rfl rfl q s
  ·exact absurd e2 (hno pl k e1)
 rcases h with ⟨hno, _⟩ | ⟨pl', k', kd', f1, f2, f3, h⟩
 ·exact absurd e2 (hno pl k e1)
 rw [f1] at e1
 obtain rfl := plO_inj e1
 obtain rfl : k' = k := Option.some.inj (f2.symm.trans e2)
 obtain rfl : kd' = kd := Option.some.inj (f3.symm.trans e3)
 refine ⟨fun hno H1 s => ?_, fun i ru e4 e5 => ?_⟩
 ·rcases h with ⟨_, rfl⟩ | ⟨i, ru, f4, f5, _⟩
  ·exact tell_e i2 (j := 2) (by decide) (by decide) rfl rfl q s
  ·rw [hno i f4] at f5; cases f5
 rcases h with ⟨hno, _⟩ | ⟨i', ru', f4, f5, hneg, rfl⟩
 ·rw [hno i e4] at e5; cases e5
 refine ⟨fun _ H1 s => tell_e i3 (j := 3) (by decide) (by decide) rfl rfl q s, fun z e6 z0 => ?_⟩
 have := hneg z e6
 omega
theorem noPlace_nil (g : Gr) : ∀ pl k, ([] : List (Option Int)) = plO pl -> Gr.bareAt g pl ≠ some k := fun pl k e h => by
 obtain rfl : ([] : Pl) = pl := plO_inj (p := []) e
 exact Gr.bare_ne h rfl
theorem noPlace_len (g : Gr) : ∀ pl k, plO [g.ps.length] = plO pl -> Gr.bareAt g pl ≠ some k := fun pl k e h => by
 obtain rfl := plO_inj e
 obtain ⟨p, ep, _⟩ := Gr.bare_one h
 have := (List.getElem?_eq_some_iff.mp ep).1
 omega
theorem noPlace_neg (g : Gr) : ∀ pl k, [some (-1 : Int)] = plO pl -> Gr.bareAt g pl ≠ some k := fun pl k e _ => by
 cases pl with
 | nil => simp [plO] at e
 | cons i r =>
  simp only [plO, List.map_cons, List.cons.injEq, Option.some.injEq] at e
  omega
end
theorem Rw7.new {K : PySem.W.Frag} {H : Hp} {v : V} {g : Gr} {x0 x1 x2 r : Addr} (hg : GA K H v g) (n0 : H x0 = none) (n1 : (upd H x0 (.lst [v])) x1 = none) (n2 : (upd (upd H x0 (.lst [v])) x1 (.lst [])) x2 = none) (n3 : (upd (upd (upd H x0 (.lst [v])) x1 (.lst [])) x2 (.lst [])) r = none) :
  Rw7 K (upd (upd (upd (upd H x0 (.lst [v])) x1 (.lst [])) x2 (.lst [])) r (.lst [.ref x0, .ref x1, .ref x2])) r x0 x1 x2 [g] [] [] /\ SB [] H (upd (upd (upd (upd H x0 (.lst [v])) x1 (.lst [])) x2 (.lst [])) r (.lst [.ref x0, .ref x1, .ref x2])) /\ H x1 = none /\ H x2 = none /\ H r = none := by
 have t0 := SB.new (ps := []) n0 (.lst [v])
 have t1 := SB.new (ps := []) n1 (.lst [])
 have t2 := SB.new (ps := []) n2 (.lst [])
 have t3 := SB.new (ps := []) n3 (.lst [.ref x0, .ref x1, .ref x2])
 have a0 : upd H x0 (.lst [v]) x0 = some (.lst [v]) := upd_same
 have a1 : upd (upd H x0 (.lst [v])) x1 (.lst []) x1 = some (.lst []) := upd_same
 have a2 : upd (upd (upd H x0 (.lst [v])) x1 (.lst [])) x2 (.lst []) x2 = some (.lst []) := upd_same
 have b0 := t1.keep _ _ a0 nmn
 have c0 := t2.keep _ _ b0 nmn
 have c1 := t2.keep _ _ a1 nmn
 have ne : ∀ {F : Hp} {x y : Addr} {o : HO}, F x = some o -> F y = none -> x ≠ y := fun h h' z => by rw [z, h'] at h; cases h
 refine ⟨⟨upd_same, ⟨_, t3.keep _ _ c0 nmn, .cons (GA.sb hg (((t0.trans t1).trans t2).trans t3)) .nil⟩, ⟨_, t3.keep _ _ c1 nmn, .nil⟩, ⟨_, t3.keep _ _ a2 nmn, .nil⟩, (ne c0 n3).symm, (ne c1 n3).symm, (ne a2 n3).symm, ne a0 n1, ne b0 n2, ne a1 n2⟩, ((t0.trans t1).trans t2).trans t3, t0.dom _ n1, (t0.trans t1).dom _ n2, ((t0.trans t1).trans t2).dom _ n3⟩
structure Two7 (K : PySem.W.Frag) (C CB : Addr) (H0 G : Hp) (P R : Addr) (zs ws : List V) (bv : V) (b : Bk) (x rx o ro : Addr) (n : Nat) : Prop where
 s0 : SB [] H0 G
 pl : G P = some (.lst zs)
 rl : G R = some (.lst ws)
 ex : ∃ (ls ld lu k0 k1 k2 ms md mu j0 j1 j2 : Addr) (gs hs : List Gr) (ds es : List Fa) (us vs : List (Fa × Gr)), Pr7 K C CB G bv b x ls ld lu rx k0 k1 k2 gs ds us n /\ Pr7 K C CB G bv b o ms md mu ro j0 j1 j2 hs es vs n /\ (∀ z ∈ ft7 x ls ld lu rx k0 k1 k2, z ∉ ft7 o ms md mu ro j0 j1 j2) /\ (∀ z ∈ ft7 x ls ld lu rx k0 k1 k2, H0 z = none /\ z ≠ P /\ z ≠ R) /\ ∀ z ∈ ft7 o ms md mu ro j0 j1 j2, H0 z = none /\ z ≠ P /\ z ≠ R
section
variable {K : PySem.W.Frag} {C CB : Addr} {H0 G G' : Hp} {P R : Addr} {zs ws : List V} {bv : V} {b : Bk} {x rx o ro : Addr} {n : Nat}
theorem Two7.swap (h : Two7 K C CB H0 G P R zs ws bv b x rx o ro n) : Two7 K C CB H0 G P R zs ws bv b o ro x rx n := by
 obtain ⟨s0, pl, rl, ls, ld, lu, k0, k1, k2, ms, md, mu, j0, j1, j2, gs, hs, ds, es, us, vs, h1, h2, h3, h4, h5⟩ := h
 exact ⟨s0, pl, rl, ms, md, mu, j0, j1, j2, ls, ld, lu, k0, k1, k2, hs, gs, es, ds, vs, us, h2, h1, fun z hz hy => h3 z hy hz, h5, h4⟩
theorem Two7.sb0 (h : Two7 K C CB H0 G P R zs ws bv b x rx o ro n) (s : SB [] G G') : Two7 K C CB H0 G' P R zs ws bv b x rx o ro n := by
 obtain ⟨s0, pl, rl, ls, ld, lu, k0, k1, k2, ms, md, mu, j0, j1, j2, gs, hs, ds, es, us, vs, h1, h2, h3, h4, h5⟩ := h
 exact ⟨s0.trans s, s.keep _ _ pl nmn, s.keep _ _ rl nmn, ls, ld, lu, k0, k1, k2, ms, md, mu, j0, j1, j2, gs, hs, ds, es, us, vs, h1.sb0 s, h2.sb0 s, h3, h4, h5⟩
theorem Two7.go {ls ld lu k0 k1 k2 ms md mu j0 j1 j2 lu' p : Addr} {gs hs gs' : List Gr} {ds es ds' : List Fa} {us vs us' : List (Fa × Gr)} {m : Nat} (s0 : SB [] H0 G) (pl : G P = some (.lst zs)) (rl : G R = some (.lst ws)) (h1 : Pr7 K C CB G bv b x ls ld lu rx k0 k1 k2 gs ds us n) (h2 : Pr7 K C CB G bv b o ms md mu ro j0 j1 j2 hs es vs n)
  (h3 : ∀ z ∈ ft7 x ls ld lu rx k0 k1 k2, z ∉ ft7 o ms md mu ro j0 j1 j2) (h4 : ∀ z ∈ ft7 x ls ld lu rx k0 k1 k2, H0 z = none /\ z ≠ P /\ z ≠ R) (h5 : ∀ z ∈ ft7 o ms md mu ro j0 j1 j2, H0 z = none /\ z ≠ P /\ z ≠ R)
  (hp : PuW G p) (p0 : H0 p = none) (pP : p ≠ P) (pR : p ≠ R) (po : p ∉ ft7 o ms md mu ro j0 j1 j2) (s : SB (p :: ft7 x ls ld lu rx k0 k1 k2) G G') (hlu : lu' = lu \/ G lu' = none) (h1' : Pr7 K C CB G' bv b x ls ld lu' rx k0 k1 k2 gs' ds' us' m) (hm : n <= m) : Two7 K C CB H0 G' P R zs ws bv b x rx o ro m := by
 have ftp : Ftp G C (p :: ft7 x ls ld lu rx k0 k1 k2) := by
  obtain ⟨_, _, e, _⟩ := hp
  exact (Ftp.one e).app h1.ftp
 have lu3 : H0 lu' = none /\ lu' ≠ P /\ lu' ≠ R /\ lu' ∉ ft7 o ms md mu ro j0 j1 j2 := by
  rcases hlu with e | e
  ·rw [e]
   obtain ⟨q1, q2, q3⟩ := h4 lu (by simp)
   exact ⟨q1, q2, q3, h3 lu (by simp)⟩
  ·refine ⟨s0.dom _ e, (fun z => by rw [z, pl] at e; cases e), (fun z => by rw [z, rl] at e; cases e), fun z => ?_⟩
   obtain ⟨w, hw⟩ := h2.sm z
   rw [e] at hw; cases hw
 have sub : ∀ z ∈ ft7 x ls ld lu' rx k0 k1 k2, z = lu' \/ z ∈ ft7 x ls ld lu rx k0 k1 k2 := fun z hz => by
  simp only [ft7, List.mem_cons, nmn, or_false] at hz ⊢
  rcases hz with h | h | h | h | h | h | h | h <;> simp [h]
 refine ⟨((s0.nil (ps := p :: ft7 x ls ld lu rx k0 k1 k2)).trans s).drops fun z hz => ?_, s.keep _ _ pl fun z => ?_, s.keep _ _ rl fun z => ?_, ls, ld, lu', k0, k1, k2, ms, md, mu, j0, j1, j2, gs', hs, ds', es, us', vs, h1', (h2.mono hm).sb s ftp fun z hz hy => ?_, fun z hz => ?_, fun z hz => ?_, h5⟩
 ·rcases List.mem_cons.mp hz with e | e
  ·rw [e]; exact p0
  ·exact (h4 z e).1
 ·rcases List.mem_cons.mp z with e | e
  ·exact pP e.symm
  ·exact (h4 P e).2.1 rfl
 ·rcases List.mem_cons.mp z with e | e
  ·exact pR e.symm
  ·exact (h4 R e).2.2 rfl
 ·rcases List.mem_cons.mp hy with e | e
  ·rw [e] at hz; exact po hz
  ·exact h3 z e hz
 ·rcases sub z hz with e | e
  ·rw [e]; exact lu3.2.2.2
  ·exact h3 z e
 ·rcases sub z hz with e | e
  ·rw [e]; exact ⟨lu3.1, lu3.2.1, lu3.2.2.1⟩
  ·exact h4 z e
end
def top (i : Nat) : Stmt := PySem.Challenge.pw_felltimber_k37_plays.main.body.getD i (.Pass ⟨0, 0, 0, 0⟩)
abbrev s_is_whole : Stmt := top 3
abbrev s_is_many : Stmt := top 4
abbrev s_is_name : Stmt := top 5
abbrev s_is_rising : Stmt := top 6
abbrev s_joined : Stmt := top 7
abbrev s_run_of : Stmt := top 8
abbrev s_is_tree : Stmt := top 24
abbrev s_is_grove : Stmt := top 25
abbrev s_are_grove_pairs : Stmt := top 26
abbrev s_together : Stmt := top 27
abbrev s_without : Stmt := top 28
abbrev s_times : Stmt := top 29
abbrev s_pairs_within : Stmt := top 30
abbrev s_kinds_within : Stmt := top 31
abbrev s_parts_of : Stmt := top 32
abbrev s_deep_of : Stmt := top 33
abbrev s_rules_from_nought : Stmt := top 41
abbrev s_check_kind : Stmt := top 42
abbrev s_check_kinds : Stmt := top 43
abbrev s_are_kinds : Stmt := top 44
abbrev s_is_kind : Stmt := top 45
abbrev s_is_rule : Stmt := top 46
abbrev s_is_rule_of : Stmt := top 47
abbrev s_tree_at : Stmt := top 49
abbrev s_number_of : Stmt := top 50
abbrev s_fallen : Stmt := top 54
abbrev s_rule_at : Stmt := top 55
abbrev s_check_number : Stmt := top 56
abbrev s_check_bound : Stmt := top 57
abbrev s_grown : Stmt := top 58
abbrev s_further_ones : Stmt := top 59
abbrev s_struck : Stmt := top 60
abbrev s__law_purse : Stmt := top 64
abbrev s__law_take : Stmt := top 65
abbrev s__law_names : Stmt := top 66
abbrev s__law_many : Stmt := top 67
abbrev s__law_wood : Stmt := top 68
abbrev s__law_kinds : Stmt := top 69
abbrev s__law_kind : Stmt := top 70
abbrev s__law_book : Stmt := top 71
abbrev s__law_grove : Stmt := top 72
abbrev s__law_bare : Stmt := top 73
abbrev s__law_plain : Stmt := top 74
abbrev s__law_drawn : Stmt := top 75
abbrev s__law_laid : Stmt := top 76
abbrev s__law_put : Stmt := top 77
abbrev s__law_fell : Stmt := top 78
abbrev s__law_parts : Stmt := top 79
abbrev s__law_low : Stmt := top 80
abbrev s__law_great : Stmt := top 81
abbrev s__law_which : Stmt := top 82
abbrev s__law_done : Stmt := top 83
abbrev s__law_kept : Stmt := top 84
abbrev s__law_turned : Stmt := top 85
abbrev s__law_refused : Stmt := top 86
abbrev s__law_new : Stmt := top 87
abbrev s_law : Stmt := top 88
abbrev s_NoKind___init__ : Stmt := inClass (top 14) 0
abbrev s_Endless___init__ : Stmt := inClass (top 20) 0
abbrev s_Book___init__ : Stmt := inClass (top 40) 0
abbrev s_Book_names : Stmt := inClass (top 40) 1
abbrev s_Book_spreads : Stmt := inClass (top 40) 2
abbrev s_Book_rules : Stmt := inClass (top 40) 3
abbrev s_Play___init__ : Stmt := inClass (top 62) 0
abbrev s_Play_grove : Stmt := inClass (top 62) 1
abbrev s_Play_falls : Stmt := inClass (top 62) 2
abbrev s_Play_fall : Stmt := inClass (top 62) 3
abbrev s_Play_back : Stmt := inClass (top 62) 4
abbrev s_Play_again : Stmt := inClass (top 62) 5
abbrev eC : List Str := ["NoPlace", "NoRule", "NoNumber", "NoFall"]
abbrev eN : List Str := ["NoGrove", "NoPlace", "NoBook", "NoKind", "NoRule", "NoNumber", "TooGreat", "NoRise", "NoFall", "Endless", "NoRow", "NoName"]
abbrev eK : List Str := ["NoKind"]
def d_is_whole : He.DefD := ⟨("is_whole", none), "is_whole", "is_whole", defArgs s_is_whole, defBody s_is_whole, defScope s_is_whole, [], []⟩
def d_is_many : He.DefD := ⟨("is_many", none), "is_many", "is_many", defArgs s_is_many, defBody s_is_many, defScope s_is_many, [], []⟩
def d_is_name : He.DefD := ⟨("is_name", none), "is_name", "is_name", defArgs s_is_name, defBody s_is_name, defScope s_is_name, [], []⟩
def d_is_rising : He.DefD := ⟨("is_rising", none), "is_rising", "is_rising", defArgs s_is_rising, defBody s_is_rising, defScope s_is_rising, [], []⟩
def d_joined : He.DefD := ⟨("joined", none), "joined", "joined", defArgs s_joined, defBody s_joined, defScope s_joined, [], []⟩
def d_run_of : He.DefD := ⟨("run_of", none), "run_of", "run_of", defArgs s_run_of, defBody s_run_of, defScope s_run_of, [], []⟩
def d_is_tree : He.DefD := ⟨("is_tree", none), "is_tree", "is_tree", defArgs s_is_tree, defBody s_is_tree, defScope s_is_tree, [], []⟩
def d_is_grove : He.DefD := ⟨("is_grove", none), "is_grove", "is_grove", defArgs s_is_grove, defBody s_is_grove, defScope s_is_grove, [], []⟩
def d_are_grove_pairs : He.DefD := ⟨("are_grove_pairs", none), "are_grove_pairs", "are_grove_pairs", defArgs s_are_grove_pairs, defBody s_are_grove_pairs, defScope s_are_grove_pairs, [], []⟩
def d_together : He.DefD := ⟨("together", none), "together", "together", defArgs s_together, defBody s_together, defScope s_together, [], []⟩
def d_without : He.DefD := ⟨("without", none), "without", "without", defArgs s_without, defBody s_without, defScope s_without, [], []⟩
def d_times : He.DefD := ⟨("times", none), "times", "times", defArgs s_times, defBody s_times, defScope s_times, [], []⟩
def d_pairs_within : He.DefD := ⟨("pairs_within", none), "pairs_within", "pairs_within", defArgs s_pairs_within, defBody s_pairs_within, defScope s_pairs_within, [], []⟩
def d_kinds_within : He.DefD := ⟨("kinds_within", none), "kinds_within", "kinds_within", defArgs s_kinds_within, defBody s_kinds_within, defScope s_kinds_within, [], []⟩
def d_parts_of : He.DefD := ⟨("parts_of", none), "parts_of", "parts_of", defArgs s_parts_of, defBody s_parts_of, defScope s_parts_of, [], []⟩
def d_deep_of : He.DefD := ⟨("deep_of", none), "deep_of", "deep_of", defArgs s_deep_of, defBody s_deep_of, defScope s_deep_of, [], []⟩
def d_rules_from_nought : He.DefD := ⟨("rules_from_nought", none), "rules_from_nought", "rules_from_nought", defArgs s_rules_from_nought, defBody s_rules_from_nought, defScope s_rules_from_nought, [], []⟩
def d_check_kind : He.DefD := ⟨("check_kind", none), "check_kind", "check_kind", defArgs s_check_kind, defBody s_check_kind, defScope s_check_kind, [], []⟩
def d_check_kinds : He.DefD := ⟨("check_kinds", none), "check_kinds", "check_kinds", defArgs s_check_kinds, defBody s_check_kinds, defScope s_check_kinds, [], []⟩
def d_are_kinds : He.DefD := ⟨("are_kinds", none), "are_kinds", "are_kinds", defArgs s_are_kinds, defBody s_are_kinds, defScope s_are_kinds, [], []⟩
def d_is_kind : He.DefD := ⟨("is_kind", none), "is_kind", "is_kind", defArgs s_is_kind, defBody s_is_kind, defScope s_is_kind, [], []⟩
def d_is_rule : He.DefD := ⟨("is_rule", none), "is_rule", "is_rule", defArgs s_is_rule, defBody s_is_rule, defScope s_is_rule, [], []⟩
def d_is_rule_of : He.DefD := ⟨("is_rule_of", none), "is_rule_of", "is_rule_of", defArgs s_is_rule_of, defBody s_is_rule_of, defScope s_is_rule_of, [], []⟩
def d_tree_at : He.DefD := ⟨("tree_at", none), "tree_at", "tree_at", defArgs s_tree_at, defBody s_tree_at, defScope s_tree_at, [], []⟩
def d_number_of : He.DefD := ⟨("number_of", none), "number_of", "number_of", defArgs s_number_of, defBody s_number_of, defScope s_number_of, [], []⟩
def d_fallen : He.DefD := ⟨("fallen", none), "fallen", "fallen", defArgs s_fallen, defBody s_fallen, defScope s_fallen, [], []⟩
def d_rule_at : He.DefD := ⟨("rule_at", none), "rule_at", "rule_at", defArgs s_rule_at, defBody s_rule_at, defScope s_rule_at, [], []⟩
def d_check_number : He.DefD := ⟨("check_number", none), "check_number", "check_number", defArgs s_check_number, defBody s_check_number, defScope s_check_number, [], []⟩
def d_check_bound : He.DefD := ⟨("check_bound", none), "check_bound", "check_bound", defArgs s_check_bound, defBody s_check_bound, defScope s_check_bound, [], []⟩
def d_grown : He.DefD := ⟨("grown", none), "grown", "grown", defArgs s_grown, defBody s_grown, defScope s_grown, [], []⟩
def d_further_ones : He.DefD := ⟨("further_ones", none), "further_ones", "further_ones", defArgs s_further_ones, defBody s_further_ones, defScope s_further_ones, [], []⟩
def d_struck : He.DefD := ⟨("struck", none), "struck", "struck", defArgs s_struck, defBody s_struck, defScope s_struck, [], []⟩
def d__law_purse : He.DefD := ⟨("_law_purse", none), "_law_purse", "_law_purse", defArgs s__law_purse, defBody s__law_purse, defScope s__law_purse, [], []⟩
def d__law_take : He.DefD := ⟨("_law_take", none), "_law_take", "_law_take", defArgs s__law_take, defBody s__law_take, defScope s__law_take, [], []⟩
def d__law_names : He.DefD := ⟨("_law_names", none), "_law_names", "_law_names", defArgs s__law_names, defBody s__law_names, defScope s__law_names, [], []⟩
def d__law_many : He.DefD := ⟨("_law_many", none), "_law_many", "_law_many", defArgs s__law_many, defBody s__law_many, defScope s__law_many, [], []⟩
def d__law_wood : He.DefD := ⟨("_law_wood", none), "_law_wood", "_law_wood", defArgs s__law_wood, defBody s__law_wood, defScope s__law_wood, [], []⟩
def d__law_kinds : He.DefD := ⟨("_law_kinds", none), "_law_kinds", "_law_kinds", defArgs s__law_kinds, defBody s__law_kinds, defScope s__law_kinds, [], []⟩
def d__law_kind : He.DefD := ⟨("_law_kind", none), "_law_kind", "_law_kind", defArgs s__law_kind, defBody s__law_kind, defScope s__law_kind, [], []⟩
def d__law_book : He.DefD := ⟨("_law_book", none), "_law_book", "_law_book", defArgs s__law_book, defBody s__law_book, defScope s__law_book, [], []⟩
def d__law_grove : He.DefD := ⟨("_law_grove", none), "_law_grove", "_law_grove", defArgs s__law_grove, defBody s__law_grove, defScope s__law_grove, [], []⟩
def d__law_bare : He.DefD := ⟨("_law_bare", none), "_law_bare", "_law_bare", defArgs s__law_bare, defBody s__law_bare, defScope s__law_bare, [], []⟩
def d__law_plain : He.DefD := ⟨("_law_plain", none), "_law_plain", "_law_plain", defArgs s__law_plain, defBody s__law_plain, defScope s__law_plain, [], []⟩
def d__law_drawn : He.DefD := ⟨("_law_drawn", none), "_law_drawn", "_law_drawn", defArgs s__law_drawn, defBody s__law_drawn, defScope s__law_drawn, [], []⟩
def d__law_laid : He.DefD := ⟨("_law_laid", none), "_law_laid", "_law_laid", defArgs s__law_laid, defBody s__law_laid, defScope s__law_laid, [], []⟩
def d__law_put : He.DefD := ⟨("_law_put", none), "_law_put", "_law_put", defArgs s__law_put, defBody s__law_put, defScope s__law_put, [], []⟩
def d__law_fell : He.DefD := ⟨("_law_fell", none), "_law_fell", "_law_fell", defArgs s__law_fell, defBody s__law_fell, defScope s__law_fell, [], []⟩
def d__law_parts : He.DefD := ⟨("_law_parts", none), "_law_parts", "_law_parts", defArgs s__law_parts, defBody s__law_parts, defScope s__law_parts, [], []⟩
def d__law_low : He.DefD := ⟨("_law_low", none), "_law_low", "_law_low", defArgs s__law_low, defBody s__law_low, defScope s__law_low, [], []⟩
def d__law_great : He.DefD := ⟨("_law_great", none), "_law_great", "_law_great", defArgs s__law_great, defBody s__law_great, defScope s__law_great, [], []⟩
def d__law_which : He.DefD := ⟨("_law_which", none), "_law_which", "_law_which", defArgs s__law_which, defBody s__law_which, defScope s__law_which, [], []⟩
def d__law_done : He.DefD := ⟨("_law_done", none), "_law_done", "_law_done", defArgs s__law_done, defBody s__law_done, defScope s__law_done, [], []⟩
def d__law_kept : He.DefD := ⟨("_law_kept", none), "_law_kept", "_law_kept", defArgs s__law_kept, defBody s__law_kept, defScope s__law_kept, [], []⟩
def d__law_turned : He.DefD := ⟨("_law_turned", none), "_law_turned", "_law_turned", defArgs s__law_turned, defBody s__law_turned, defScope s__law_turned, [], []⟩
def d__law_refused : He.DefD := ⟨("_law_refused", none), "_law_refused", "_law_refused", defArgs s__law_refused, defBody s__law_refused, defScope s__law_refused, [], []⟩
def d__law_new : He.DefD := ⟨("_law_new", none), "_law_new", "_law_new", defArgs s__law_new, defBody s__law_new, defScope s__law_new, [], []⟩
def d_law : He.DefD := ⟨("law", none), "law", "law", defArgs s_law, defBody s_law, defScope s_law, [], []⟩
def d_NoKind___init__ : He.DefD := ⟨("NoKind", some "__init__"), "__init__", "NoKind.__init__", defArgs s_NoKind___init__, defBody s_NoKind___init__, defScope s_NoKind___init__, [], []⟩
def d_Endless___init__ : He.DefD := ⟨("Endless", some "__init__"), "__init__", "Endless.__init__", defArgs s_Endless___init__, defBody s_Endless___init__, defScope s_Endless___init__, [], []⟩
def d_Book___init__ : He.DefD := ⟨("Book", some "__init__"), "__init__", "Book.__init__", defArgs s_Book___init__, defBody s_Book___init__, defScope s_Book___init__, [], []⟩
def d_Book_names : He.DefD := ⟨("Book", some "names"), "names", "Book.names", defArgs s_Book_names, defBody s_Book_names, defScope s_Book_names, [], []⟩
def d_Book_spreads : He.DefD := ⟨("Book", some "spreads"), "spreads", "Book.spreads", defArgs s_Book_spreads, defBody s_Book_spreads, defScope s_Book_spreads, [], []⟩
def d_Book_rules : He.DefD := ⟨("Book", some "rules"), "rules", "Book.rules", defArgs s_Book_rules, defBody s_Book_rules, defScope s_Book_rules, [], []⟩
def d_Play___init__ : He.DefD := ⟨("Play", some "__init__"), "__init__", "Play.__init__", defArgs s_Play___init__, defBody s_Play___init__, defScope s_Play___init__, [], []⟩
def d_Play_grove : He.DefD := ⟨("Play", some "grove"), "grove", "Play.grove", defArgs s_Play_grove, defBody s_Play_grove, defScope s_Play_grove, [], []⟩
def d_Play_falls : He.DefD := ⟨("Play", some "falls"), "falls", "Play.falls", defArgs s_Play_falls, defBody s_Play_falls, defScope s_Play_falls, [], []⟩
def d_Play_fall : He.DefD := ⟨("Play", some "fall"), "fall", "Play.fall", defArgs s_Play_fall, defBody s_Play_fall, defScope s_Play_fall, [], []⟩
def d_Play_back : He.DefD := ⟨("Play", some "back"), "back", "Play.back", defArgs s_Play_back, defBody s_Play_back, defScope s_Play_back, [], []⟩
def d_Play_again : He.DefD := ⟨("Play", some "again"), "again", "Play.again", defArgs s_Play_again, defBody s_Play_again, defScope s_Play_again, [], []⟩
def fn : List He.DefD := [d_is_whole, d_is_many, d_is_name, d_is_rising, d_joined, d_run_of, d_is_tree, d_is_grove, d_are_grove_pairs, d_together, d_without, d_times, d_pairs_within, d_kinds_within, d_parts_of, d_deep_of, d_rules_from_nought, d_check_kind, d_check_kinds, d_are_kinds, d_is_kind, d_is_rule, d_is_rule_of, d_tree_at, d_number_of, d_fallen, d_rule_at, d_check_number, d_check_bound, d_grown, d_further_ones, d_struck, d__law_purse, d__law_take, d__law_names, d__law_many, d__law_wood, d__law_kinds, d__law_kind, d__law_book, d__law_grove, d__law_bare, d__law_plain, d__law_drawn, d__law_laid, d__law_put, d__law_fell, d__law_parts, d__law_low, d__law_great, d__law_which, d__law_done, d__law_kept, d__law_turned, d__law_refused, d__law_new, d_law, d_NoKind___init__, d_Endless___init__, d_Book___init__, d_Book_names, d_Book_spreads, d_Book_rules, d_Play___init__, d_Play_grove, d_Play_falls, d_Play_fall, d_Play_back, d_Play_again]
def fa1 : List He.Fa := [.glo "is_whole", .glo "is_many", .glo "is_name", .glo "is_rising", .glo "joined", .glo "run_of", .glo "is_tree", .glo "is_grove", .glo "are_grove_pairs", .glo "together", .glo "without", .glo "times", .glo "pairs_within", .glo "kinds_within", .glo "parts_of", .glo "deep_of", .glo "rules_from_nought", .glo "check_kind", .glo "check_kinds", .glo "are_kinds", .glo "is_kind", .glo "is_rule", .glo "is_rule_of", .glo "tree_at", .glo "number_of", .glo "fallen", .glo "rule_at", .glo "check_number", .glo "check_bound", .glo "grown", .glo "further_ones", .glo "struck", .glo "_law_purse", .glo "_law_take", .glo "_law_names", .glo "_law_many", .glo "_law_wood", .glo "_law_kinds", .glo "_law_kind", .glo "_law_book", .glo "_law_grove", .glo "_law_bare", .glo "_law_plain", .glo "_law_drawn", .glo "_law_laid", .glo "_law_put", .glo "_law_fell", .glo "_law_parts", .glo "_law_low", .glo "_law_great", .glo "_law_which", .glo "_law_done", .glo "_law_kept", .glo "_law_turned", .glo "_law_refused", .glo "_law_new", .glo "law", .free "len", .free "isinstance", .free "int", .free "bool", .free "str", .free "tuple", .free "list", .free "all", .free "zip"]
def fa2 : List He.Fa := [.free "sum", .free "max", .free "range", .free "enumerate", .free "abs", .free "sorted", .free "min", .free "reversed", .free "any", .free "set", .free "dict", .free "repr", .glo "FellError", .free "ValueError", .glo "NoGrove", .glo "NoPlace", .glo "NoBook", .glo "NoKind", .glo "NoRule", .glo "NoNumber", .glo "TooGreat", .glo "NoRise", .glo "NoFall", .glo "Endless", .glo "NoRow", .glo "NoName", .noat "NoKind" "kind", .str "LETTERS" "abcdefghijklmnopqrstuvwxyz", .int "LONGEST_NAME" (8), .int "MOST_KINDS" (8), .int "MOST_RULES" (4), .int "MOST_RULE_PARTS" (4), .int "MOST_MANY" (1000000000), .int "MOST_PARTS_STANDING" (2000), .int "MOST_DEEP_STANDING" (60), .glo "NO_GROVES", .exc "NoBook", .exc "NoFall", .exc "NoNumber", .exc "NoPlace", .exc "NoRule", .exc "TooGreat", .meth "NoKind" "__init__", .meth "Endless" "__init__", .noat "Endless" "kind", .glo "Book", .cls "Book", .noat "Book" "spread_by_name", .noat "Book" "rows_by_name", .mkr "Book", .meth "Book" "names", .meth "Book" "spreads", .meth "Book" "rules", .glo "Play", .cls "Play", .noat "Play" "book", .noat "Play" "stood", .noat "Play" "done", .noat "Play" "undone", .mkr "Play", .meth "Play" "grove", .meth "Play" "falls", .meth "Play" "fall", .meth "Play" "back", .meth "Play" "again"]
def fa : List He.Fa := fa1 ++ fa2
def exOk (K : PySem.W.Frag) : Bool := oexCB K (He.ga K "NoKind") && (oexCB K (He.ga K "Endless") && (no2B K (He.ga K "NO_GROVES") && (ermB K (He.ga K) eC eN)))
abbrev R : PySem.W.OpenRow := PySem.W.OpenLaw.row PySem.Challenge.rw_felltimber_k37_plays
abbrev hk : PySem.W.Hook := hookE 6 fa fn exOk
def ob (s : PySem.W.SharedT) : AlE := obsE 6 fa fn exOk (HandSHeadRun.getT s)
theorem ob_eq (s : PySem.W.SharedT) : ob s = hk.obs s.abs := obsE_eq (HandSHeadRun.getT_eq s)
def loose : List PySem.Str := (["is_whole", "is_many", "is_name", "is_rising", "joined", "run_of", "FellError", "NoGrove", "NoPlace", "NoBook", "NoKind", "NoRule"] : List PySem.Str) ++ (["NoNumber", "TooGreat", "NoRise", "NoFall", "Endless", "NoRow", "NoName", "is_tree", "is_grove", "are_grove_pairs", "together", "without"] : List PySem.Str) ++ (["times", "pairs_within", "kinds_within", "parts_of", "deep_of", "Book", "rules_from_nought", "check_kind", "check_kinds", "are_kinds", "is_kind", "is_rule"] : List PySem.Str) ++ (["is_rule_of", "tree_at", "number_of", "fallen", "rule_at", "check_number", "check_bound", "grown", "further_ones", "struck", "Play", "_law_purse"] : List PySem.Str) ++ (["_law_take", "_law_names", "_law_many", "_law_wood", "_law_kinds", "_law_kind", "_law_book", "_law_grove", "_law_bare", "_law_plain", "_law_drawn", "_law_laid"] : List PySem.Str) ++ (["_law_put", "_law_fell", "_law_parts", "_law_low", "_law_great", "_law_which", "_law_done", "_law_kept", "_law_turned", "_law_refused", "_law_new", "LETTERS"] : List PySem.Str) ++ (["LONGEST_NAME", "MOST_DEEP_STANDING", "MOST_KINDS", "MOST_MANY", "MOST_PARTS_STANDING", "MOST_RULES", "MOST_RULE_PARTS", "NO_GROVES"] : List PySem.Str)
def KTr (s : PySem.W.SharedT) : PySem.W.Frag := He.frG (HandSHeadRun.getT s) (He.asD (HandSHeadRun.getT s) 6)
theorem run1 (w : World) (os : PySem.OsState) : (HandSHeadRun.endF (HandSHeadRun.stepQ (HandSHeadRun.denQ HandSHeadRun.tabQ) R.prog w) 6000 R.prog w os).map (fun s => HandSHeadRun.looksF R.prog (PySem.W.boot_heap w.params) s.abs) = some true := by
 kernel_rfl
theorem run2 (w : World) (os : PySem.OsState) : (HandSHeadRun.endF (HandSHeadRun.stepQ (HandSHeadRun.denQ HandSHeadRun.tabQ) R.prog w) 6000 R.prog w os).map (fun s => HandSHeadRun.seenQ (PySem.W.view R.prog [88]) loose (importedModules R.prog.main.body) (fun s => xlAt (PySem.W.view R.prog [88]) [] s && recOk R.toRowW.records s) s.abs) = some (openGood (PySem.W.view R.prog [88]) loose) := by
 kernel_rfl
theorem run3 (w : World) (os : PySem.OsState) : (HandSHeadRun.endF (HandSHeadRun.stepQ (HandSHeadRun.denQ HandSHeadRun.tabQ) R.prog w) 6000 R.prog w os).map (fun s => fa1.all fun f => f.ok (KTr s)) = some true := by
 kernel_rfl
theorem run4 (w : World) (os : PySem.OsState) : (HandSHeadRun.endF (HandSHeadRun.stepQ (HandSHeadRun.denQ HandSHeadRun.tabQ) R.prog w) 6000 R.prog w os).map (fun s => fa2.all fun f => f.ok (KTr s)) = some true := by
 kernel_rfl
theorem run5 (w : World) (os : PySem.OsState) : (HandSHeadRun.endF (HandSHeadRun.stepQ (HandSHeadRun.denQ HandSHeadRun.tabQ) R.prog w) 6000 R.prog w os).map (fun s => fn.all fun d => d.ok (KTr s)) = some true := by
 kernel_rfl
theorem run6 (w : World) (os : PySem.OsState) : (HandSHeadRun.endF (HandSHeadRun.stepQ (HandSHeadRun.denQ HandSHeadRun.tabQ) R.prog w) 6000 R.prog w os).map (fun s => fn.map fun d => He.fnW (KTr s) d.at_) = some (fn.map He.DefD.val) := by
 kernel_rfl
theorem run7 (w : World) (os : PySem.OsState) : (HandSHeadRun.endF (HandSHeadRun.stepQ (HandSHeadRun.denQ HandSHeadRun.tabQ) R.prog w) 6000 R.prog w os).map (fun s => exOk (KTr s)) = some true := by
 kernel_rfl
theorem map3 {σ α β γ : Type} {o : Option σ} {A : σ -> α} {B : σ -> β} {C : σ -> γ} {a : α} {b : β} {c : γ} (h1 : o.map A = some a) (h2 : o.map B = some b) (h3 : o.map C = some c) : o.map (fun s => (A s, B s, C s)) = some (a, b, c) := by
 cases o with
 | none => cases h1
 | some s => exact congrArg some (Prod.ext (Option.some.inj h1) (Prod.ext (Option.some.inj h2) (Option.some.inj h3)))
theorem mapE {σ : Type} {o : Option σ} {f1 f2 : List He.Fa} {gn : List He.DefD} {ex : PySem.W.Frag -> Bool} (K : σ -> PySem.W.Frag) (h1 : o.map (fun s => f1.all fun f => f.ok (K s)) = some true) (h2 : o.map (fun s => f2.all fun f => f.ok (K s)) = some true) (h3 : o.map (fun s => gn.all fun d => d.ok (K s)) = some true) (h4 : o.map (fun s => gn.map fun d => He.fnW (K s) d.at_) = some (gn.map He.DefD.val)) (h5 : o.map (fun s => ex (K s)) = some true) : o.map (fun s => (He.obsD (f1 ++ f2) gn (K s), ex (K s))) = some (He.valD gn, true) := by
 cases o with
 | none => cases h1
 | some s =>
  have e1 : (f1.all fun f => f.ok (K s)) = true := Option.some.inj h1
  have e2 : (f2.all fun f => f.ok (K s)) = true := Option.some.inj h2
  have e3 : (gn.all fun d => d.ok (K s)) = true := Option.some.inj h3
  have e4 : (gn.map fun d => He.fnW (K s) d.at_) = gn.map He.DefD.val := Option.some.inj h4
  have e5 : ex (K s) = true := Option.some.inj h5
  refine congrArg some (Prod.ext (Prod.ext ?_ e4) e5)
  show (((f1 ++ f2).all fun f => f.ok (K s)) && gn.all fun d => d.ok (K s)) = true
  rw [List.all_append, e1, e2, e3]; rfl
theorem run (w : World) : HandSHeadRun.RunEq R (PySem.W.view R.prog [88]) hk ob 6000 loose w := by
 intro os
 exact map3 (run1 w os) (run2 w os) (mapE KTr (run3 w os) (run4 w os) (run5 w os) (run6 w os) (run7 w os))
section
variable {P : Program} {w : World} {K : PySem.W.Frag} {mg : Str -> Option Value} {base : Heap} {f : Addr} {fd : FuncData} {ps : List Addr}
theorem sc_is_whole : FnScope ["thing"] ["thing"] (defScope s_is_whole) := ⟨rfl, rfl, rfl, by decide +kernel, rfl, by decide +kernel, by decide +kernel⟩
theorem ok_is_whole (B : BI mg) (F : Fun K "is_whole" "is_whole" s_is_whole f fd) : FnOk P w K mg base CX0 1 f fd ["thing"] (spWhole K) := by
 refine F.ok sc_is_whole (fun vs H Q E h => ?_) (fun cdv A outer s H vs Q E hr h => ?_)
 ·obtain ⟨v, n, b1, b2, rfl, _⟩ := h
  rfl
 obtain ⟨v, n, b1, b2, rfl, ty, k1, k2, q⟩ := h
 refine ⟨_, pss_one (ps_ret (pe_and (pe_isi B (pv 0) B.int boot_int) (pe_one (pe_not (pe_isi B (pv 0) B.bool boot_bool))))), ?_⟩
 refine ⟨_, rfl, _, _, n, b1, rfl, ty, k1, b1, rfl, ?_⟩
 cases b1 with
 | false => exact iteF q
 | true =>
  refine iteT ⟨_, rfl, _, _, n, b2, rfl, ty, k2 rfl, b2, rfl, ?_⟩
  exact q
end
section
variable {P : Program} {w : World} {K : PySem.W.Frag} {mg : Str -> Option Value} {base : Heap} {f : Addr} {fd : FuncData} {ps : List Addr}
theorem sc_is_many : FnScope ["thing"] ["thing"] (defScope s_is_many) := ⟨rfl, rfl, rfl, by decide +kernel, rfl, by decide +kernel, by decide +kernel⟩
theorem ok_is_many {ps : List Addr} (B : BI mg) (G : Got P w K mg base "is_whole" ["thing"] 1 (spWhole K)) (F : Fun K "is_many" "is_many" s_is_many f fd) : FnOk P w K mg base CX0 2 f fd ["thing"] (spMany K ps) := by
 refine F.ok sc_is_many (fun vs H Q E h => ?_) (fun cdv A outer s H vs Q E hr h => ?_)
 ·obtain ⟨v, d, rfl, _⟩ := h
  rfl
 obtain ⟨v, d, rfl, th, q⟩ := h
 refine ⟨_, pss_one (ps_ret (pe_and (pe_got G hr rfl (pa_cons (pv 0) pa_nil)) (pe_one (pe_cmpR op_ge (pv 0) pe_int (nomark _))))), ?_⟩
 obtain ⟨n, b1, b2, ty, k1, k2, y1, y2⟩ := th.whole
 refine ⟨_, rfl, v, n, b1, b2, rfl, ty, k1, k2, b1 && !b2, rfl, ?_⟩
 cases e : (b1 && !b2) with
 | false =>
  refine iteF ?_
  rw [y2 e] at q
  exact q
 | true =>
  obtain ⟨i, rfl, rfl⟩ := y1 e
  exact iteT ⟨_, rfl, _, _, rfl, rfl, q⟩
end
section
variable {P : Program} {w : World} {K : PySem.W.Frag} {mg : Str -> Option Value} {base : Heap} {f : Addr} {fd : FuncData}
theorem sc_is_name : FnScope ["thing"] ["thing"] (defScope s_is_name) := ⟨rfl, rfl, rfl, by decide +kernel, rfl, by decide +kernel, by decide +kernel⟩
theorem ok_is_name (B : BI mg) (L : ∃ t, mg "LETTERS" = some (.str abc t)) (N : ∃ t, mg "LONGEST_NAME" = some (.int 8 t)) (G : Got P w K mg base "run_of" ["text", "at", "signs"] 1 (spRunOf K)) (F : Fun K "is_name" "is_name" s_is_name f fd) : FnOk P w K mg base CX0 2 f fd ["thing"] (spName K) := by
 refine F.ok sc_is_name (fun vs H Q E h => ?_) (fun cdv A outer s H vs Q E hr h => ?_)
 ·obtain ⟨v, d, rfl, _⟩ := h
  rfl
 obtain ⟨v, d, rfl, th, q⟩ := h
 obtain ⟨tl, hL⟩ := L
 obtain ⟨tn, hN⟩ := N
 refine ⟨_, pss_cons (ps_if (PW.pt (pw_or (pt_not (pt_val (pe_isi B (pv 0) B.str boot_str))) (pw_or1 (pt_not (pt_chain op_le op_le pe_int (pe_callB call_len_str rfl B.len PySem.boot_len (pa_cons (pv 0) pa_nil)) (pe_glob (v := .int 8) rfl hN ⟨_, rfl⟩)))))) (pss_one (ps_ret pe_bl)) pss_nil)
  (pss_one (ps_ret (pe_cmpR op_eq (pe_got G hr rfl (pa_cons (pv 0) (pa_cons pe_int (pa_cons (pe_glob (v := .str abc) rfl hL ⟨_, rfl⟩) pa_nil)))) (pv 0) (nomark _)))), ?_⟩
 obtain ⟨n1, b, ty, kb, y1, y2⟩ := th.txt
 refine ⟨_, rfl, _, _, n1, b, rfl, ty, kb, b, rfl, ?_⟩
 cases b with
 | false =>
  refine iteT (iteT ?_)
  have e : nameD d = false := by
   cases d with
   | str z => exact absurd rfl (y2 rfl z)
   | _ => simp [nameD]
  have := q H SB.refl
  rw [e] at this
  exact this
 | true =>
 refine iteF ?_
 obtain ⟨z, rfl, rfl, hz⟩ := y1 rfl
 have hzl : z.length <= sizeLine := by have := sizeLine_eq; omega
 refine ⟨_, rfl, z, rfl, hzl, _, _, rfl, rfl, _, rfl, ?_⟩
 by_cases h1 : 1 <= z.length
 ·rw [show decide ((1 : Int) <= (z.length : Int)) = true from decide_eq_true (by omega)]
  refine iteT ⟨_, _, rfl, rfl, _, rfl, ?_⟩
  by_cases h8 : z.length <= 8
  ·rw [show decide ((z.length : Int) <= 8) = true from decide_eq_true (by omega)]
   refine iteF ?_
   refine ⟨_, rfl, z, abc, 0, rfl, by omega, Nat.zero_le _, fun e _ he hin hout => ?_⟩
   refine ⟨_, rfl, rfl, ?_⟩
   have := q H SB.refl
   rw [<- run_name h1 h8 he hin hout] at this
   exact this
  ·rw [show decide ((z.length : Int) <= 8) = false from decide_eq_false (by omega)]
   have := q H SB.refl
   rw [name_out fun h => h8 h.2] at this
   exact iteT this
 ·rw [show decide ((1 : Int) <= (z.length : Int)) = false from decide_eq_false (by omega)]
  have := q H SB.refl
  rw [name_out fun h => h1 h.1] at this
  exact iteF ⟨_, rfl, iteT this⟩
end
section
variable {P : Program} {w : World} {K : PySem.W.Frag} {mg : Str -> Option Value} {base : Heap} {f : Addr} {fd : FuncData} {ps : List Addr}
theorem sc_is_rising : FnScope N_rising ["things"] (defScope s_is_rising) := ⟨rfl, rfl, rfl, by decide +kernel, rfl, by decide +kernel, by decide +kernel⟩
theorem ok_is_rising (B : BI mg) (F : Fun K "is_rising" "is_rising" s_is_rising f fd) : FnOk P w K mg base CX0 1 f fd ["things"] (spRising K) := by
 refine F.ok sc_is_rising (fun vs H Q E h => ?_) (fun cdv A outer s H vs Q E hr h => ?_)
 ·obtain ⟨v, n, b1, rfl, _⟩ := h
  rfl
 obtain ⟨a, xs, ds, rfl, hS, hDp, hok, hal, hz, q⟩ := h
 have hu : A.units + 200 < cLine := by have := hr.un; show A.units + 200 < cLine; have h3 : (A.deeper (envOfC "is_rising" (defScope s_is_rising) s.heap.objs.size f cdv)).units = A.units + 3 := rfl; omega
 refine ⟨_, pss_one (ps_ret (pe_callB (cr_all rfl) rfl B.all boot_all (pa_cons
  (pe_lc (own := [("low", 1), ("high", 2)]) (g := gTup K 2 (gCons (gName 1) (gCons (gName 2) gNil))) (tt := tYes) (te := tOp (rLtD K) (tVar 1) (tVar 2)) rfl sc_is_rising.nd
   (pi_zip rfl B.zip (pa_cons (pv 0) (pa_cons (pe_slice sl_list (pv 0) (po_some pe_int) po_none) pa_nil)))
   (blkOk_by (N := N_rising) (sc := defScope s_is_rising) (by decide +kernel))
   (fun _ _ _ _ _ => pg_tup rfl (pgs_cons (pg_name (i := 1) sc_is_rising.nd rfl (.inl rfl)) (pgs_cons (pg_name (i := 2) sc_is_rising.nd rfl (.inl rfl)) pgs_nil)))
   (fun _ _ _ _ _ => pts_nil)
   (fun _ _ _ _ _ => pe_cmpR (op_ltD (by have := hu; show A.units + 3 + 100 < cLine; omega)) (pv 1) (pv 2) (nomark _))) pa_nil))), ?_⟩
 refine ⟨_, rfl, _, rfl, 1, rfl, a, xs, rfl, hS, fun p hp => ?_⟩
 rw [cut1]
 have e1 : SB [] H (upd H p (.lst (xs.drop 1))) := SB.new hp _
 refine ⟨a, p, xs, xs.drop 1, rfl, e1.sqL nmn hS, SqL.of upd_same, fun D hD => ?_⟩
 have hpD : p ≠ D := fun z => by subst z; rw [upd_same] at hD; cases hD
 have dl : ds.length = xs.length := (DpAll.length hDp).symm
 refine lc_it (walk_zip (n := min xs.length (xs.drop 1).length) rfl) (fun i H2 => SB [D] (upd H p (.lst (xs.drop 1))) H2 /\ H2 D = some (.lst (((ltsD ds).take i).map V.bl))) ⟨SB.new hD _, upd_same⟩ (fun i H2 hi h2 => ?_) (fun i x H2 H' hi h2 y => ?_) (fun H2 h2 => ?_)
 ·obtain ⟨h2, h3⟩ := h2
  have h4 := h2.drop hD
  exact ⟨(e1.trans h4).sqL nmn hS, h4.sqL nmn (SqL.of upd_same)⟩
 ·obtain ⟨h2, h3⟩ := h2
  have h4 := e1.trans (h2.drop hD)
  obtain ⟨T, x1, y1, rfl, hT, rfl, ex, ey⟩ := y
  have ey : (xs.drop 1)[i]? = some y1 := ey
  rw [List.getElem?_drop, Nat.add_comm] at ey
  obtain ⟨d, ed, hd⟩ := DpAll.get hDp ex
  obtain ⟨d', ed', hd'⟩ := DpAll.get (i := i + 1) hDp ey
  have e5 : SB [] H (upd H2 T (.tup [x1, y1])) := h4.trans (SB.new hT _)
  have m1 := List.mem_of_getElem? ed
  have m2 := List.mem_of_getElem? ed'
  have hTD : D ≠ T := fun z => by subst z; rw [h3] at hT; cases hT
  refine ⟨T, _, rfl, SqT.of upd_same, rfl, _, _, rfl, _, _, rfl, rfl, rfl, ?_⟩
  refine ⟨_, rfl, _, rfl, d, d', Dp_sb e5 _ _ (hok d m1).1 hd, Dp_sb e5 _ _ (hok d' m2).1 hd', hal d m1 d' m2, (hok d m1).2.1, (hok d m1).2.2, _, by rw [upd_ne hTD]; exact h3, ?_, ?_⟩
  ·have := ltsD_length ds
   rw [List.length_map, List.length_take]
   exact small1000 (by omega)
  ·refine ⟨(h2.trans (SB.new hT _)).trans (SB.set (by rw [upd_ne hTD]; exact h3) (by simp) _), ?_⟩
   rw [upd_same, List.take_add_one, ltsD_get ds i d d' ed ed']
   simp
 ·obtain ⟨h2, h3⟩ := h2
  have h4 := e1.trans (h2.drop hD)
  have e6 : (ltsD ds).take (min xs.length (xs.drop 1).length) = ltsD ds := by
   apply List.take_of_length_le
   rw [ltsD_length, List.length_drop]
   omega
  rw [e6] at h3
  exact ⟨D, _, rfl, SqL.of h3, q _ h4⟩
end
section
variable {P : Program} {w : World} {K : PySem.W.Frag} {mg : Str -> Option Value} {base : Heap} {f : Addr} {fd : FuncData}
abbrev N_joined : List Str := ["pairs", "row", "thing", "many"]
theorem sc_joined : FnScope N_joined ["pairs"] (defScope s_joined) := ⟨rfl, rfl, rfl, by decide +kernel, rfl, by decide +kernel, by decide +kernel⟩
theorem ok_joined (B : BI mg) (F : Fun K "joined" "joined" s_joined f fd) : FnOk P w K mg base CX0 (1) f fd ["pairs"] (spJoinedW K Gr.tEnc) := by
 refine F.ok sc_joined (fun vs H Q E h => ?_) (fun cdv A outer s H vs Q E hr h => ?_)
 ·obtain ⟨a, xs, bs, rfl, _⟩ := h
  rfl
 obtain ⟨a, xs, bs, rfl, hs, hb, hl, hsh, q⟩ := h
 have hun2 := hunT hr
 refine ⟨_, pss_cons (ps_set (i := 1) sc_joined.nd rfl (.inl rfl) (pe_lst pa_nil))
  (pss_cons (ps_for PassesOwn.never rfl (pi_list (pv 0)) (pg_tup rfl (pgs_cons (pg_name (i := 2) sc_joined.nd rfl (.inl rfl)) (pgs_cons (pg_name (i := 3) sc_joined.nd rfl (.inl rfl)) pgs_nil)))
   (pss_one (ps_if (PW.pt (pw_and (pt_truth (pv 1) (by intro _; rfl)) (pw_and1 (pt_cmpR (op_eqW (by show A.units + 3 + 195 < cLine; omega)) (pe_ix ix_tup (pe_ix ix_list (pv 1) (pe_un un_neg pe_int) (fun _ _ => rfl)) pe_int (fun _ _ => rfl)) (pv 2) (nomark _))))) (pss_one (ps_asg (pe_tup (pa_cons (pv 2) (pa_cons (pe_op op_add (pe_ix ix_tup (pe_ix ix_list (pv 1) (pe_un un_neg pe_int) (fun _ _ => rfl)) pe_int (fun _ _ => rfl)) (pv 3)) pa_nil))) (pg_sub (pv 1) (pe_un un_neg pe_int) set_list))) (pss_one (ps_expr (pe_bm PySem.F.plainAttrs_list PySem.F.slot_list_append PySem.F.type_list_append mt_append (pv 1) (pa_cons (pe_tup (pa_cons (pv 2) (pa_cons (pv 3) pa_nil))) pa_nil)))))))
  (pss_one (ps_ret (pe_callTy call_tuple_of rfl B.tuple boot_tuple (pa_cons (pv 1) pa_nil))))), ?_⟩
 refine ⟨(by show 0 <= sizeLine; decide), fun D hD => ?_⟩
 have t0 := SB.new (ps := []) hD (.lst [])
 refine ⟨_, rfl, a, rfl, ⟨xs, t0.sqL nmn hs⟩, ?_⟩
 have xl := hb.length
 refine for_list (K := K) (a := a) (xs := xs) (fun i σ H2 => SB [D] H H2 /\ ∃ acc o2 o3, σ = [some (.ref a), some (.ref D), o2, o3] /\ H2 D = some (.lst acc) /\ Bears K H2 (Gr.pEnc) acc (jn (bs.take i))) ⟨SB.new hD _, [], none, none, rfl, upd_same, .nil⟩ (fun i σ H2 hi h2 => (h2.1.drop hD).sqL nmn hs) (fun i x σ H2 hx h2 => ?_) (fun σ H2 h2 => ?_)
 ·obtain ⟨s2, acc, o2, o3, rfl, hD2, hb2⟩ := h2
  have s2' := s2.drop hD
  obtain ⟨p, ep, hpd⟩ := hb.get hx
  have pm := List.mem_of_getElem? ep
  obtain ⟨ad, ux, rfl, hsx, hdx⟩ := pair_at hpd
  have al := hb2.length
  have jl := jn_length (bs.take i)
  rw [List.length_take] at jl
  have nl := pairE_noList Gr.noList_tEnc
  rw [jn_take bs i p ep]
  have hdx2 := Dp_sb s2' _ _ (Gr.noList_tEnc _) hdx
  refine ⟨ad, _, rfl, s2'.sqT hsx, rfl, _, _, rfl, _, _, rfl, rfl, ?_⟩
  -- the row ahead: none, or a last one
  have app : jstep (jn (bs.take i)) p = jn (bs.take i) ++ [p] -> tDrop (tBM K "list" rAppend (tVar 1) (tCons (tTup (tCons (tVar 2) (tCons (tVar 3) tNil))) tNil)) { nx := fun σ H2 => SB [D] H H2 /\ ∃ acc o2 o3, σ = [some (.ref a), some (.ref D), o2, o3] /\ H2 D = some (.lst acc) /\ Bears K H2 (Gr.pEnc) acc (jstep (jn (bs.take i)) p), rt := Q } [some (.ref a), some (.ref D), some ux, some (.int p.2)] H2 := by
   intro e
   rw [e]
   refine ⟨_, rfl, .inl ⟨rfl, _, SqL.of hD2⟩, _, rfl, _, rfl, (by show 2 <= sizeLine; decide), fun t ht => ?_⟩
   have t3 := SB.new (ps := [D]) ht (.tup [ux, .int p.2])
   have hD3 : (upd H2 t (.tup [ux, .int p.2])) D = some (.lst acc) := by rw [upd_ne (ne_of_none hD2 ht)]; exact hD2
   refine ⟨D, acc, _, rfl, rfl, hD3, small5 (by omega), ?_⟩
   have t4 := SB.set (ps := [D]) hD3 (by simp) (.lst (acc ++ [.ref t]))
   exact ⟨(s2.trans t3).trans t4, _, _, _, rfl, upd_same, Bears.append ((hb2.sb t3 nl).sb t4 nl) (.cons (pair_mk (t4.sqT (SqT.of upd_same)) (Dp_sb t4 _ _ (Gr.noList_tEnc _) (Dp_sb t3 _ _ (Gr.noList_tEnc _) hdx2))) .nil)⟩
  rcases List.eq_nil_or_concat (jn (bs.take i)) with he | ⟨js, z, he⟩
  ·rw [he] at hb2 app
   cases hb2
   refine ⟨_, rfl, _, .inl ⟨[], SqL.of hD2, rfl⟩, iteF (iteF ?_)⟩
   rw [he]
   exact app rfl
  ·rw [List.concat_eq_append] at he
   rw [he] at hb2 app
   rw [he]
   obtain ⟨us, u, rfl, hus, hu⟩ := hb2.snoc
   obtain ⟨az, uz, rfl, hsz, hdz⟩ := pair_at hu
   have zsh : Wd (Gr.tEnc z.1) := by
    obtain ⟨q2, hq2, eq2⟩ := jn_keys (bs.take i) z (by rw [he]; simp)
    rw [<- eq2]
    exact hsh q2 (List.mem_of_mem_take hq2)
   refine ⟨_, rfl, _, .inl ⟨us ++ [.ref az], SqL.of hD2, rfl⟩, ?_⟩
   have e0 : (!(us ++ [V.ref az]).isEmpty) = true := by simp
   rw [e0]
   refine iteT ?_
   refine ⟨_, rfl, 1, rfl, D, _, _, _, rfl, rfl, SqL.of hD2, at_last, az, _, _, _, rfl, rfl, hsz, atI_nat (j := 0) rfl, _, rfl, Gr.tEnc z.1, Gr.tEnc p.1, hdz, hdx2, zsh, hsh p pm, _, rfl, ?_⟩
   rw [Gr.t_eqv]
   by_cases hz : z.1 = p.1
   ·rw [show decide (z.1 = p.1) = true by simp [hz]]
    refine iteT ?_
    refine ⟨_, rfl, _, rfl, 1, rfl, D, _, _, _, rfl, rfl, SqL.of hD2, at_last, az, _, _, _, rfl, rfl, hsz, atI_nat (j := 1) rfl, _, rfl, _, _, rfl, rfl, (by show 2 <= sizeLine; decide), fun t ht => ?_⟩
    have t3 := SB.new (ps := [D]) ht (.tup [ux, .int (z.2 + p.2)])
    have hD3 : (upd H2 t (.tup [ux, .int (z.2 + p.2)])) D = some (.lst (us ++ [.ref az])) := by rw [upd_ne (ne_of_none hD2 ht)]; exact hD2
    refine ⟨_, rfl, 1, rfl, D, _, _, us.length, rfl, rfl, hD3, ixN_last, ?_⟩
    rw [set_last]
    have t4 := SB.set (ps := [D]) hD3 (by simp) (.lst (us ++ [.ref t]))
    refine ⟨(s2.trans t3).trans t4, _, _, _, rfl, upd_same, ?_⟩
    rw [jstep_snoc, if_pos hz]
    exact Bears.append ((hus.sb t3 nl).sb t4 nl) (.cons (pair_mk (t4.sqT (SqT.of upd_same)) (Dp_sb t4 _ _ (Gr.noList_tEnc _) (Dp_sb t3 _ _ (Gr.noList_tEnc _) hdx2))) .nil)
   ·rw [show decide (z.1 = p.1) = false by simp [hz]]
    refine iteF ?_
    exact app (by rw [jstep_snoc, if_neg hz])
 ·obtain ⟨s2, acc, o2, o3, rfl, hD2, hb2⟩ := h2
  rw [xl, List.take_length] at hb2
  refine ⟨_, rfl, D, acc, rfl, .inl ⟨SqL.of hD2, fun t ht => ?_⟩⟩
  have t3 := SB.new (ps := []) ht (.tup acc)
  exact q _ _ _ ((s2.drop hD).trans t3) (SqT.of upd_same) (hb2.sb t3 (pairE_noList Gr.noList_tEnc))
theorem sc_run_of : FnScope ["text", "at", "signs", "end"] ["text", "at", "signs"] (defScope s_run_of) := ⟨rfl, rfl, rfl, by decide +kernel, rfl, by decide +kernel, by decide +kernel⟩
theorem ok_run_of (B : BI mg) (F : Fun K "run_of" "run_of" s_run_of f fd) : FnOk P w K mg base CX0 1 f fd ["text", "at", "signs"] (spRunOf K) := by
 refine F.ok sc_run_of (fun vs H Q E h => ?_) (fun cdv A outer s H vs Q E hr h => ?_)
 ·obtain ⟨z, y, k, rfl, _⟩ := h
  rfl
 obtain ⟨z, y, k, rfl, hz, hk, q⟩ := h
 refine ⟨_, pss_cons (ps_set (i := 3) sc_run_of.nd rfl (.inl rfl) (pv 1))
  (pss_cons (ps_while PassesOwn.never (PW.pt (pw_and (pt_cmpR op_lt (pv 3) (pe_callB call_len_str rfl B.len PySem.boot_len (pa_cons (pv 0) pa_nil)) (nomark _)) (pw_and1 (pt_cmpR op_in_sign (pe_ix ix_str (pv 0) (pv 3) (fun _ _ => rfl)) (pv 2) (by rfl)))))
   (pss_one (ps_aug (i := 3) sc_run_of.nd rfl (.inl rfl) pe_int ip_add)))
  (pss_one (ps_ret (pe_slice sl_str (pv 0) (po_some (pv 1)) (po_some (pv 3)))))), ?_⟩
 have hzl : z.length <= sizeLine := by have := sizeLine_eq; omega
 have hl := len_cps z
 refine ⟨_, rfl, ?_⟩
 refine ⟨fun mm σ H2 => ∃ e : Nat, mm = z.length - e /\ H2 = H /\ σ = [some (.str z), some (.int (k : Int)), some (.str y), some (.int (e : Int))] /\ k <= e /\ e <= z.length /\ (∀ j c, k <= j -> j < e -> z.cps.toList[j]? = some c -> c ∈ y.cps.toList), ⟨_, k, rfl, rfl, rfl, Nat.le_refl _, hk, fun j c h1 h2 _ => by omega⟩, fun mm σ H2 h2 => ?_⟩
 obtain ⟨e, rfl, rfl, rfl, ke, el, hin⟩ := h2
 refine ⟨_, rfl, _, rfl, z, rfl, hzl, _, _, rfl, rfl, _, rfl, ?_⟩
 have fin : (∀ c, z.cps.toList[e]? = some c -> c ∉ y.cps.toList) -> Q (.str (cutS z (some (k : Int)) (some (e : Int)))) H2 := fun ho => q e ke el hin ho
 by_cases hlt : e < z.length
 ·rw [show decide ((e : Int) < (z.length : Int)) = true from decide_eq_true (by omega)]
  refine iteT ?_
  obtain ⟨c, hc⟩ : ∃ c, z.cps.toList[e]? = some c := ⟨_, List.getElem?_eq_getElem (by omega)⟩
  refine ⟨_, rfl, _, rfl, z, _, c, rfl, rfl, hzl, atI_natN hc, _, rfl, c, y, rfl, rfl, _, rfl, ?_⟩
  by_cases hm : c ∈ y.cps.toList
  ·rw [decide_eq_true hm]
   refine iteT ?_
   refine ⟨_, fun σ' H' z => z, ?_⟩
   refine ⟨_, rfl, _, _, rfl, rfl, z.length - (e + 1), by omega, e + 1, rfl, rfl, rfl, by omega, by omega, fun j c' h1 h2 h3 => ?_⟩
   rcases Nat.lt_or_ge j e with h | h
   ·exact hin j c' h1 h h3
   ·have : j = e := by omega
    subst this
    rw [hc] at h3; cases h3; exact hm
  ·rw [decide_eq_false hm]
   refine iteF ?_
   refine ⟨_, rfl, _, rfl, _, rfl, _, rfl, _, rfl, z, rfl, hzl, fin fun c' h' => ?_⟩
   rw [hc] at h'; cases h'; exact hm
 ·rw [show decide ((e : Int) < (z.length : Int)) = false from decide_eq_false (by omega)]
  refine iteF (iteF ?_)
  refine ⟨_, rfl, _, rfl, _, rfl, _, rfl, _, rfl, z, rfl, hzl, fin fun c' h' => ?_⟩
  have := (List.getElem?_eq_some_iff.mp h').1
  omega
theorem sc_is_tree : FnScope ["thing"] ["thing"] (defScope s_is_tree) := ⟨rfl, rfl, rfl, by decide +kernel, rfl, by decide +kernel, by decide +kernel⟩
theorem none_is_tree {ps : List Str} {k : Nat} : FnOk P w K mg base CX0 k f fd ps (spIsTree K 0) := none_sp fun vs H Q E ⟨v, d, _, _, h, _⟩ => by omega
theorem ok_is_tree {n : Nat} (B : BI mg) (GN : Got P w K mg base "is_name" ["thing"] 2 (spName K)) (G : Got P w K mg base "is_grove" ["thing"] (n + 3) (spIsGrove K n)) (F : Fun K "is_tree" "is_tree" s_is_tree f fd) :
  FnOk P w K mg base CX0 (n + 4) f fd ["thing"] (spIsTree K (n + 1)) := by
 refine F.ok sc_is_tree (fun vs H Q E h => ?_) (fun cdv A outer s H vs Q E hr h => ?_)
 ·obtain ⟨v, l, rfl, _⟩ := h
  rfl
 obtain ⟨v, d, rfl, th, hd, h80, hw, q⟩ := h
 refine ⟨_, pss_one (ps_ret (pe_and (pe_isi B (pv 0) B.tuple boot_tuple) (pe_and (pe_cmpR op_eq (pe_callB call_len_seq rfl B.len PySem.boot_len (pa_cons (pv 0) pa_nil)) pe_int (nomark _))
  (pe_and (pe_got GN (hr.mono (by omega)) rfl (pa_cons (pe_ix ix_tup (pv 0) pe_int (fun _ _ => rfl)) pa_nil)) (pe_one (pe_got G hr rfl (pa_cons (pe_ix ix_tup (pv 0) pe_int (fun _ _ => rfl)) pa_nil))))))), ?_⟩
 obtain ⟨n1, b, ty, kb, y1, y2⟩ := th.ty
 refine ⟨_, rfl, _, _, n1, b, rfl, ty, kb, b, rfl, ?_⟩
 cases b with
 | false =>
  refine iteF ?_
  have e : treeD d = false := by
   cases d with
   | tuple ds => exact absurd rfl (y2 rfl ds)
   | _ => simp [treeD]
  have := q H SB.refl
  rw [e] at this
  exact this
 | true =>
 refine iteT ?_
 obtain ⟨a, xs, ds, rfl, rfl, hs, ha⟩ := y1 rfl
 refine ⟨_, rfl, a, xs, rfl, .inr hs, rfl, _, rfl, ?_⟩
 have hl := TgAll.length ha
 refine ite2 (fun c => ?_) (fun c => ?_)
 ·have c' : V.int (xs.length : Nat) = V.int 2 := of_decide_eq_true c
  injection c' with c'
  have c2 : xs.length = 2 := by omega
  cases ha with
  | nil => simp at c2
  | cons t1 ta =>
   cases ta with
   | nil => simp at c2
   | cons t2 ta =>
    cases ta with
    | cons t3 ta => simp at c2
    | nil =>
     rename_i v1 d1 v2 d2
     have q1 : d2.depth < PyData.depth (.tuple [d1, d2]) := by simp only [PyData.depth, PyData.depthAll]; omega
     have q2 : wide d2 <= wide (.tuple [d1, d2]) := by simp only [wide, wides]; omega
     refine ⟨_, rfl, a, _, _, _, rfl, rfl, hs, atI_nat (j := 0) rfl, v1, d1, rfl, t1, fun H1 h1 => ?_⟩
     refine ⟨_, rfl, ?_⟩
     cases e1 : nameD d1 with
     | false =>
      refine iteF ?_
      have := q H1 h1
      have e : treeD (.tuple [d1, d2]) = false := by simp [treeD, trD2, e1]
      rw [e] at this
      exact this
     | true =>
      refine iteT ?_
      refine ⟨_, rfl, a, _, _, _, rfl, rfl, h1.sqT hs, atI_nat (j := 1) rfl, v2, d2, rfl, Tg_sb h1 t2, by omega, by omega, by omega, fun H2 h2 => ?_⟩
      have := q H2 (h1.trans h2)
      have e : treeD (.tuple [d1, d2]) = groveD d2 := by simp [treeD, trD2, trD3, e1]
      rw [e] at this
      exact this
 ·have c' : ¬ V.int (xs.length : Nat) = V.int 2 := of_decide_eq_false (Bool.eq_false_iff.mpr c)
  have c2 : ¬ xs.length = 2 := fun z => c' (by rw [z]; rfl)
  have e : treeD (.tuple ds) = false := by
   cases e : treeD (.tuple ds) with
   | false => rfl
   | true =>
    obtain ⟨t, e2⟩ := treeD_tr _ e
    injection e2 with e2
    rw [e2] at hl
    exact absurd hl c2
  have := q H SB.refl
  rw [e] at this
  exact this
abbrev N_is_grove : List Str := ["thing", "pair"]
theorem sc_is_grove : FnScope N_is_grove ["thing"] (defScope s_is_grove) := ⟨rfl, rfl, rfl, by decide +kernel, rfl, by decide +kernel, by decide +kernel⟩
theorem none_is_grove {ps : List Str} {k : Nat} : FnOk P w K mg base CX0 k f fd ps (spIsGrove K 0) := none_sp fun vs H Q E ⟨v, d, _, _, h, _⟩ => by omega
theorem exp0_pEnc (bs : List (Tr × Int)) : (bs.map Gr.pEnc).map exp0 = bs.map fun p => Gr.tEnc p.1 := by rw [List.map_map]; rfl
theorem noLists_trs : ∀ bs : List (Tr × Int), noLists (bs.map fun p => Gr.tEnc p.1) = true
 | [] => by simp [noLists]
 | p :: r => by rw [List.map_cons, noLists, noLists_trs r, Gr.noList_tEnc]; rfl
theorem ok_is_grove {n : Nat} (B : BI mg) (GR : Got P w K mg base "is_rising" ["things"] 1 (spRising K)) (G : Got P w K mg base "are_grove_pairs" ["things"] (n + 3) (spPairsQ K true n)) (F : Fun K "is_grove" "is_grove" s_is_grove f fd) :
  FnOk P w K mg base CX0 (n + 4) f fd ["thing"] (spIsGrove K (n + 1)) := by
 refine F.ok sc_is_grove (fun vs H Q E h => ?_) (fun cdv A outer s H vs Q E hr h => ?_)
 ·obtain ⟨v, l, rfl, _⟩ := h
  rfl
 obtain ⟨v, d, rfl, th, hd, h80, hw, q⟩ := h
 refine ⟨_, pss_cons (ps_if (PW.pt (pw_or (pt_not (pt_val (pe_isi B (pv 0) B.tuple boot_tuple))) (pw_or1 (pt_not (pt_val (pe_got G hr rfl (pa_cons (pv 0) pa_nil))))))) (pss_one (ps_ret pe_bl)) pss_nil)
  (pss_one (ps_ret (pe_got GR (hr.mono (by omega)) rfl (pa_cons (pe_lc (own := [("pair", 1)]) (g := gName 1) (tt := tYes) (te := tOp (rIxT K) (tVar 1) (tC (.int 0))) rfl sc_is_grove.nd
   (pi_tup (pv 0))
   (blkOk_by (N := N_is_grove) (sc := defScope s_is_grove) (by decide +kernel))
   (fun _ _ _ _ _ => pg_name (i := 1) sc_is_grove.nd rfl (.inl rfl))
   (fun _ _ _ _ _ => pts_nil)
   (fun _ _ _ _ _ => pe_ix ix_tup (pv 1) pe_int (fun _ _ => rfl))) pa_nil)))), ?_⟩
 obtain ⟨n1, b, ty, kb, y1, y2⟩ := th.ty
 refine ⟨_, rfl, _, _, n1, b, rfl, ty, kb, b, rfl, ?_⟩
 cases b with
 | false =>
  refine iteT (iteT ?_)
  have e : groveD d = false := by
   cases d with
   | tuple ds => exact absurd rfl (y2 rfl ds)
   | _ => simp [groveD]
  have := q H SB.refl
  rw [e] at this
  exact this
 | true =>
 refine iteF ?_
 obtain ⟨a, xs, ds, rfl, rfl, hs, ha⟩ := y1 rfl
 have hl := TgAll.length ha
 have m3 : PyData.depth (.tuple ds) = PyData.depthAll ds + 1 := by simp [PyData.depth]
 refine ⟨_, rfl, a, xs, ds, rfl, by simpa using hs, ha, by omega, by omega, hw, fun H2 h2 => ⟨_, rfl, ?_⟩⟩
 cases e1 : grPs ds with
 | false =>
  refine iteT ?_
  have := q H2 h2
  rw [groveD, e1] at this
  exact this
 | true =>
  refine iteF ?_
  obtain ⟨g, rfl⟩ := grPs_enc ds e1
  have hga : GA K H (.ref a) g := Dp.tup hs (Tg_ga g ha)
  obtain ⟨a', xs', e', hs', hb⟩ := GA_bears (hga.sb h2)
  cases e'
  have hlen := hb.length
  have gl : g.encs.length = g.ps.length := by rw [Gr.encs_ps, List.length_map]
  rw [wide_tuple] at hw
  refine ⟨_, rfl, a, rfl, ⟨xs', hs'⟩, fun D hD => ?_⟩
  refine lc_it (walk_tup (xs := xs')) (fun i H3 => SB [D] H2 H3 /\ ∃ acc, H3 D = some (.lst acc) /\ DpAll K H3 acc ((g.ps.take i).map fun p => Gr.tEnc p.1)) ⟨SB.new hD _, [], upd_same, .nil⟩ (fun i H3 hi h3 => (h3.1.drop hD).sqT hs') (fun i x H3 H' hi h3 y => ?_) (fun H3 h3 => ?_)
  ·obtain ⟨h3, acc, h4, h5⟩ := h3
   obtain ⟨rfl, ex⟩ := y
   obtain ⟨p, ep, hpd⟩ := hb.get ex
   obtain ⟨ad, bd, ux, rfl, hsx, hst, hdx, hdt⟩ := PA_parts hpd
   have h6 := h3.drop hD
   have hla2 := DpAll.length h5
   refine ⟨rfl, ?_⟩
   refine ⟨_, rfl, ad, _, _, _, rfl, rfl, h6.sqT hsx, atI_nat (j := 0) rfl, acc, h4, ?_, ?_⟩
   ·rw [hla2, List.length_map, List.length_take]
    exact small1000 (by omega)
   ·have h7 := SB.set (ps := [D]) h4 (by simp) (.lst (acc ++ [.ref bd]))
    refine ⟨h3.trans h7, _, upd_same, ?_⟩
    rw [List.take_add_one, ep, List.map_append]
    exact DpAll.append (DpAll_sb h7 _ _ (noLists_trs _) h5) (.cons (Dp_sb h7 _ _ (Gr.noList_tEnc _) (Dp_sb h6 _ _ (Gr.noList_tEnc _) hdt)) .nil)
  ·obtain ⟨h3', acc, h4, h5⟩ := h3
   rw [hlen, List.take_length] at h5
   have h6 := h3'.drop hD
   have hla2 := DpAll.length h5
   refine ⟨D, acc, g.ps.map fun p => Gr.tEnc p.1, rfl, SqL.of h4, h5, ?_, ?_, ?_, fun H9 h9 => ?_⟩
   ·intro d hd'
    obtain ⟨p1, m1, rfl⟩ := List.mem_map.mp hd'
    have hd2 : (Gr.pEnc p1).depth <= PyData.depthAll g.encs := PyData.depth_le_depthAll _ _ (by rw [Gr.encs_ps]; exact List.mem_map_of_mem m1)
    have hd3 : (Gr.tEnc p1.1).depth < (Gr.pEnc p1).depth := by
     show _ < (PyData.tuple [Gr.tEnc p1.1, .int p1.2]).depth
     simp only [PyData.depth, PyData.depthAll]; omega
    exact ⟨Gr.noList_tEnc _, (fun z : Gr.tEnc p1.1 = .none => by simp [Gr.tEnc] at z), by omega⟩
   ·intro d hd' d2 hd2
    obtain ⟨p1, _, rfl⟩ := List.mem_map.mp hd'
    obtain ⟨p2, _, rfl⟩ := List.mem_map.mp hd2
    exact Orderly.al (enc := Gr.tEnc) _ _
   ·rw [hla2, List.length_map]; omega
   ·have := q H9 ((h2.trans h6).trans h9)
    rw [groveD, e1, Bool.true_and, Gr.encs_ps, exp0_pEnc] at this
    exact this
abbrev N_are_pairs : List Str := ["things", "thing"]
theorem sc_are_grove_pairs : FnScope N_are_pairs ["things"] (defScope s_are_grove_pairs) := ⟨rfl, rfl, rfl, by decide +kernel, rfl, by decide +kernel, by decide +kernel⟩
theorem none_are_grove_pairs {ps : List Str} {tp : Bool} {k : Nat} : FnOk P w K mg base CX0 k f fd ps (spPairsQ K tp 0) := none_sp fun vs H Q E ⟨a, xs, ds, _, _, _, h, _⟩ => by omega
theorem grPs_all : ∀ ds : List PyData, grPs ds = ds.all grP
 | [] => by rw [grPs]; rfl
 | d :: ds => by rw [grPs, grPs_all ds]; rfl
theorem ok_are_grove_pairs {n : Nat} (B : BI mg) (GM : Got P w K mg base "is_many" ["thing"] 2 (spMany K [])) (G : Got P w K mg base "is_tree" ["thing"] (n + 3) (spIsTree K n)) (F : Fun K "are_grove_pairs" "are_grove_pairs" s_are_grove_pairs f fd) :
  FnOk P w K mg base CX0 (n + 4) f fd ["things"] (spPairsQ K true (n + 1)) := by
 refine F.ok sc_are_grove_pairs (fun vs H Q E h => ?_) (fun cdv A outer s H vs Q E hr h => ?_)
 ·obtain ⟨a, xs, ds, rfl, _⟩ := h
  rfl
 obtain ⟨a, xs, ds, rfl, hs, ha, hd, h79, hw, q⟩ := h
 refine ⟨_, pss_cons (ps_for PassesOwn.never rfl (pi_tup (pv 0)) (pg_name (i := 1) sc_are_grove_pairs.nd rfl (.inl rfl))
   (pss_cons (ps_if (PW.pt (pw_or (pt_not (pt_val (pe_isi B (pv 1) B.tuple boot_tuple))) (pw_or1 (pt_cmpR op_ne (pe_callB call_len_seq rfl B.len PySem.boot_len (pa_cons (pv 1) pa_nil)) pe_int (nomark _))))) (pss_one (ps_ret pe_bl)) pss_nil)
   (pss_one (ps_if (PW.pt (pw_or (pt_not (pt_val (pe_got G hr rfl (pa_cons (pe_ix ix_tup (pv 1) pe_int (fun _ _ => rfl)) pa_nil)))) (pw_or1 (pt_not (pt_val (pe_got GM (hr.mono (by omega)) rfl (pa_cons (pe_ix ix_tup (pv 1) pe_int (fun _ _ => rfl)) pa_nil))))))) (pss_one (ps_ret pe_bl)) pss_nil))))
  (pss_one (ps_ret pe_bl)), ?_⟩
 have hs : SqT K H a xs := by simpa using hs
 have hl := TgAll.length ha
 rw [wide_tuple] at hw
 refine ⟨_, rfl, a, rfl, ⟨xs, hs⟩, ?_⟩
 refine for_tup (K := K) (a := a) (xs := xs) (fun i σ H2 => SB [] H H2 /\ (∃ o, σ = [some (.ref a), o]) /\ (ds.take i).all grP = true) ⟨SB.refl, ⟨none, rfl⟩, by simp⟩ (fun i σ H2 hi h2 => h2.1.sqT hs) (fun i x σ H2 hx h2 => ?_) (fun σ H2 h2 => ?_)
 ·obtain ⟨h2, ⟨o, rfl⟩, h3⟩ := h2
  obtain ⟨dx, ex, tx⟩ := TgAll.get ha hx
  have mx := List.mem_of_getElem? ex
  have m1 := depthAll_get ex
  have m2 := wide_mem _ _ mx
  have no : grP dx = false -> ∀ H', SB [] H2 H' -> Q (.bl false) H' := fun e H' s' => by
   have := q H' (h2.trans s')
   have e2 : grPs ds = false := by
    rw [grPs_all, List.all_eq_false]
    exact ⟨dx, mx, by rw [e]; exact Bool.false_ne_true⟩
   rw [e2] at this
   exact this
  obtain ⟨n1, b, ty, kb, y1, y2⟩ := (Tg_sb h2 tx).ty
  refine ⟨_, rfl, _, _, n1, b, rfl, ty, kb, b, rfl, ?_⟩
  cases b with
  | false =>
   refine iteT (iteT (no ?_ _ SB.refl))
   cases dx with
   | tuple ds => exact absurd rfl (y2 rfl ds)
   | _ => simp [grP]
  | true =>
  refine iteF ?_
  obtain ⟨b1, ys, es, rfl, rfl, hs1, ha1⟩ := y1 rfl
  refine ⟨_, rfl, b1, ys, rfl, .inr hs1, rfl, _, rfl, ?_⟩
  have hl1 := TgAll.length ha1
  by_cases c2 : ys.length = 2
  ·rw [show (!decide (V.int (ys.length : Nat) = V.int 2)) = false by rw [c2]; rfl]
   refine iteF ?_
   cases ha1 with
   | nil => simp at c2
   | cons t1 ta =>
    cases ta with
    | nil => simp at c2
    | cons t2 ta =>
     cases ta with
     | cons t3 ta => simp at c2
     | nil =>
      rename_i v1 d1 v2 d2
      have q1 : d1.depth < PyData.depth (.tuple [d1, d2]) := by simp only [PyData.depth, PyData.depthAll]; omega
      have q2 : wide d1 <= wide (.tuple [d1, d2]) := by simp only [wide, wides]; omega
      refine ⟨_, rfl, b1, _, _, _, rfl, rfl, hs1, atI_nat (j := 0) rfl, v1, d1, rfl, t1, by omega, by omega, by omega, fun H3 h3' => ?_⟩
      refine ⟨_, rfl, ?_⟩
      cases e1 : treeD d1 with
      | false => exact iteT (iteT (no (by simp [grP, grP2, e1]) _ h3'))
      | true =>
       refine iteF ?_
       refine ⟨_, rfl, b1, _, _, _, rfl, rfl, h3'.sqT hs1, atI_nat (j := 1) rfl, v2, strip d2, rfl, (Tg_sb h3' t2).th, _, rfl, ?_⟩
       rw [many_strip]
       have e : grP (.tuple [d1, d2]) = manyD d2 := by simp [grP, grP2, ladP3, e1]
       cases e2 : manyD d2 with
       | false => exact iteT (no (by rw [e, e2]) _ h3')
       | true =>
        refine iteF ⟨h2.trans h3', ⟨_, rfl⟩, ?_⟩
        rw [List.take_add_one, ex, List.all_append, h3]
        simp [e, e2]
  ·rw [show (!decide (V.int (ys.length : Nat) = V.int 2)) = true by rw [decide_eq_false (fun z => by injection z with z; omega)]; rfl]
   refine iteT (no ?_ _ SB.refl)
   cases e : grP (.tuple es) with
   | false => rfl
   | true =>
    obtain ⟨t, i, e2, _⟩ := grP_enc _ e
    injection e2 with e2
    rw [e2] at hl1
    exact absurd hl1 c2
 ·obtain ⟨h2, ⟨o, rfl⟩, h3⟩ := h2
  rw [hl, List.take_length, <- grPs_all] at h3
  have := q H2 h2
  rw [h3] at this
  exact this
theorem ok_are_grove_pairsL {n : Nat} (B : BI mg) (GM : Got P w K mg base "is_many" ["thing"] 2 (spMany K [])) (G : Got P w K mg base "is_tree" ["thing"] (n + 3) (spIsTree K n)) (F : Fun K "are_grove_pairs" "are_grove_pairs" s_are_grove_pairs f fd) :
  FnOk P w K mg base CX0 (n + 4) f fd ["things"] (spPairsQ K false (n + 1)) := by
 refine F.ok sc_are_grove_pairs (fun vs H Q E h => ?_) (fun cdv A outer s H vs Q E hr h => ?_)
 ·obtain ⟨a, xs, ds, rfl, _⟩ := h
  rfl
 obtain ⟨a, xs, ds, rfl, hs, ha, hd, h79, hw, q⟩ := h
 refine ⟨_, pss_cons (ps_for PassesOwn.never rfl (pi_list (pv 0)) (pg_name (i := 1) sc_are_grove_pairs.nd rfl (.inl rfl))
   (pss_cons (ps_if (PW.pt (pw_or (pt_not (pt_val (pe_isi B (pv 1) B.tuple boot_tuple))) (pw_or1 (pt_cmpR op_ne (pe_callB call_len_seq rfl B.len PySem.boot_len (pa_cons (pv 1) pa_nil)) pe_int (nomark _))))) (pss_one (ps_ret pe_bl)) pss_nil)
   (pss_one (ps_if (PW.pt (pw_or (pt_not (pt_val (pe_got G hr rfl (pa_cons (pe_ix ix_tup (pv 1) pe_int (fun _ _ => rfl)) pa_nil)))) (pw_or1 (pt_not (pt_val (pe_got GM (hr.mono (by omega)) rfl (pa_cons (pe_ix ix_tup (pv 1) pe_int (fun _ _ => rfl)) pa_nil))))))) (pss_one (ps_ret pe_bl)) pss_nil))))
  (pss_one (ps_ret pe_bl)), ?_⟩
 have hs : SqL K H a xs := by simpa using hs
 have hl := TgAll.length ha
 rw [wide_tuple] at hw
 refine ⟨_, rfl, a, rfl, ⟨xs, hs⟩, ?_⟩
 refine for_list (K := K) (a := a) (xs := xs) (fun i σ H2 => SB [] H H2 /\ (∃ o, σ = [some (.ref a), o]) /\ (ds.take i).all grP = true) ⟨SB.refl, ⟨none, rfl⟩, by simp⟩ (fun i σ H2 hi h2 => h2.1.sqL nmn hs) (fun i x σ H2 hx h2 => ?_) (fun σ H2 h2 => ?_)
 ·obtain ⟨h2, ⟨o, rfl⟩, h3⟩ := h2
  obtain ⟨dx, ex, tx⟩ := TgAll.get ha hx
  have mx := List.mem_of_getElem? ex
  have m1 := depthAll_get ex
  have m2 := wide_mem _ _ mx
  have no : grP dx = false -> ∀ H', SB [] H2 H' -> Q (.bl false) H' := fun e H' s' => by
   have := q H' (h2.trans s')
   have e2 : grPs ds = false := by
    rw [grPs_all, List.all_eq_false]
    exact ⟨dx, mx, by rw [e]; exact Bool.false_ne_true⟩
   rw [e2] at this
   exact this
  obtain ⟨n1, b, ty, kb, y1, y2⟩ := (Tg_sb h2 tx).ty
  refine ⟨_, rfl, _, _, n1, b, rfl, ty, kb, b, rfl, ?_⟩
  cases b with
  | false =>
   refine iteT (iteT (no ?_ _ SB.refl))
   cases dx with
   | tuple ds => exact absurd rfl (y2 rfl ds)
   | _ => simp [grP]
  | true =>
  refine iteF ?_
  obtain ⟨b1, ys, es, rfl, rfl, hs1, ha1⟩ := y1 rfl
  refine ⟨_, rfl, b1, ys, rfl, .inr hs1, rfl, _, rfl, ?_⟩
  have hl1 := TgAll.length ha1
  by_cases c2 : ys.length = 2
  ·rw [show (!decide (V.int (ys.length : Nat) = V.int 2)) = false by rw [c2]; rfl]
   refine iteF ?_
   cases ha1 with
   | nil => simp at c2
   | cons t1 ta =>
    cases ta with
    | nil => simp at c2
    | cons t2 ta =>
     cases ta with
     | cons t3 ta => simp at c2
     | nil =>
      rename_i v1 d1 v2 d2
      have q1 : d1.depth < PyData.depth (.tuple [d1, d2]) := by simp only [PyData.depth, PyData.depthAll]; omega
      have q2 : wide d1 <= wide (.tuple [d1, d2]) := by simp only [wide, wides]; omega
      refine ⟨_, rfl, b1, _, _, _, rfl, rfl, hs1, atI_nat (j := 0) rfl, v1, d1, rfl, t1, by omega, by omega, by omega, fun H3 h3' => ?_⟩
      refine ⟨_, rfl, ?_⟩
      cases e1 : treeD d1 with
      | false => exact iteT (iteT (no (by simp [grP, grP2, e1]) _ h3'))
      | true =>
       refine iteF ?_
       refine ⟨_, rfl, b1, _, _, _, rfl, rfl, h3'.sqT hs1, atI_nat (j := 1) rfl, v2, strip d2, rfl, (Tg_sb h3' t2).th, _, rfl, ?_⟩
       rw [many_strip]
       have e : grP (.tuple [d1, d2]) = manyD d2 := by simp [grP, grP2, ladP3, e1]
       cases e2 : manyD d2 with
       | false => exact iteT (no (by rw [e, e2]) _ h3')
       | true =>
        refine iteF ⟨h2.trans h3', ⟨_, rfl⟩, ?_⟩
        rw [List.take_add_one, ex, List.all_append, h3]
        simp [e, e2]
  ·rw [show (!decide (V.int (ys.length : Nat) = V.int 2)) = true by rw [decide_eq_false (fun z => by injection z with z; omega)]; rfl]
   refine iteT (no ?_ _ SB.refl)
   cases e : grP (.tuple es) with
   | false => rfl
   | true =>
    obtain ⟨t, i, e2, _⟩ := grP_enc _ e
    injection e2 with e2
    rw [e2] at hl1
    exact absurd hl1 c2
 ·obtain ⟨h2, ⟨o, rfl⟩, h3⟩ := h2
  rw [hl, List.take_length, <- grPs_all] at h3
  have := q H2 h2
  rw [h3] at this
  exact this
abbrev N_together : List Str := ["one", "other"]
theorem sc_together : FnScope N_together ["one", "other"] (defScope s_together) := ⟨rfl, rfl, rfl, by decide +kernel, rfl, by decide +kernel, by decide +kernel⟩
theorem ok_together (B : BI mg) (G_joined : Got P w K mg base "joined" ["pairs"] (1) (spJoinedW K Gr.tEnc)) (F : Fun K "together" "together" s_together f fd) : FnOk P w K mg base CX0 (2) f fd ["one", "other"] (spTogetherF K) := by
 refine F.ok sc_together (fun vs H Q E h => ?_) (fun cdv A outer s H vs Q E hr h => ?_)
 ·obtain ⟨v, u, g, k, rfl, _⟩ := h
  rfl
 obtain ⟨v, u, g, k, rfl, hv, hu, ⟨C, go, ko⟩, gd, kd, gp, kp, q⟩ := h
 have hun2 := hunT hr
 refine ⟨_, pss_one (ps_ret (pe_got G_joined (hr.mono (by omega)) rfl (pa_cons (pe_callB (cr_sortedW Gr.pEnc (by show A.units + 3 + 195 < cLine; omega)) rfl B.sorted (by decide +kernel) (pa_cons (pe_op op_catB (pv 0) (pv 1)) pa_nil)) pa_nil))), ?_⟩
 obtain ⟨a, xs, rfl, hsa, hba⟩ := GA_bears hv
 obtain ⟨b, ys, rfl, hsb, hbb⟩ := GA_bears hu
 have xl := hba.length
 have yl := hbb.length
 have hok : ∀ p ∈ g.ps ++ k.ps, NameOk p.1.1 /\ p.1.2.Ok C /\ p.1.2.deep <= 62 := fun p hp => by
  rcases List.mem_append.mp hp with h | h
  ·have h1 := (Gr.ok_iff.mp go).1 p h
   have h2 := g.mem_deep p h
   exact ⟨h1.1, h1.2.1, by omega⟩
  ·have h1 := (Gr.ok_iff.mp ko).1 p h
   have h2 := k.mem_deep p h
   exact ⟨h1.1, h1.2.1, by omega⟩
 refine ⟨_, rfl, _, rfl, a, b, xs, ys, rfl, rfl, hsa, hsb, by have := small5 (n := xs.length + ys.length) (by omega); omega, fun c H1 s1 hc => ?_⟩
 refine ⟨c, _, g.ps ++ k.ps, rfl, .inr hc, Bears.append (hba.sb s1 Gr.noList_pEnc) (hbb.sb s1 Gr.noList_pEnc), Gr.pEnc_all _, Gr.pEnc_sortable _, by rw [List.length_append]; omega, fun p hp => ?_, fun p zs hp hz => ?_⟩
 ·have := Gr.pEnc_depth p
  have := (hok p hp).2.2
  omega
 have s2 := SB.new (ps := []) hp (.lst zs)
 refine ⟨p, zs, srtE Gr.pEnc (g.ps ++ k.ps), rfl, SqL.of upd_same, hz.sb s2 Gr.noList_pEnc, ?_, fun b hb => ?_, fun c2 ws H3 s3 hc2 hb3 => ?_⟩
 ·rw [(srtE_perm _).length_eq, List.length_append]; omega
 ·obtain ⟨h1, h2, h3⟩ := hok b ((srtE_perm _).mem_iff.mp hb)
  exact Gr.wd_t h1 h2 (by omega)
 ·exact q _ _ ((s1.trans s2).trans s3) (Bears_ga hc2 hb3)
abbrev N_without : List Str := ["grove", "tree", "many", "left", "other", "count"]
theorem sc_without : FnScope N_without ["grove", "tree", "many"] (defScope s_without) := ⟨rfl, rfl, rfl, by decide +kernel, rfl, by decide +kernel, by decide +kernel⟩
theorem ok_without (B : BI mg) (F : Fun K "without" "without" s_without f fd) : FnOk P w K mg base CX0 (1) f fd ["grove", "tree", "many"] (spWithout K) := by
 refine F.ok sc_without (fun vs H Q E h => ?_) (fun cdv A outer s H vs Q E hr h => ?_)
 ·obtain ⟨v, u, g, t, m, rfl, _⟩ := h
  rfl
 obtain ⟨v, u, g, t, m, rfl, hv, hu, ⟨C, go, to⟩, tn, gd, td, gl, q⟩ := h
 have hun2 := hunT hr
 refine ⟨_, pss_cons (ps_set (i := 3) sc_without.nd rfl (.inl rfl) (pe_lst pa_nil))
  (pss_cons (ps_for PassesOwn.never rfl (pi_tup (pv 0)) (pg_tup rfl (pgs_cons (pg_name (i := 4) sc_without.nd rfl (.inl rfl)) (pgs_cons (pg_name (i := 5) sc_without.nd rfl (.inl rfl)) pgs_nil)))
   (pss_one (ps_if (pt_cmpR (op_neW (by show A.units + 3 + 195 < cLine; omega)) (pv 4) (pv 1) (nomark _)) (pss_one (ps_expr (pe_bm PySem.F.plainAttrs_list PySem.F.slot_list_append PySem.F.type_list_append mt_append (pv 3) (pa_cons (pe_tup (pa_cons (pv 4) (pa_cons (pv 5) pa_nil))) pa_nil)))) (pss_one (ps_if (pt_cmpR op_gt (pv 5) (pv 2) (nomark _)) (pss_one (ps_expr (pe_bm PySem.F.plainAttrs_list PySem.F.slot_list_append PySem.F.type_list_append mt_append (pv 3) (pa_cons (pe_tup (pa_cons (pv 4) (pa_cons (pe_op op_sub (pv 5) (pv 2)) pa_nil))) pa_nil)))) pss_nil)))))
  (pss_one (ps_ret (pe_callTy call_tuple_of rfl B.tuple boot_tuple (pa_cons (pv 3) pa_nil))))), ?_⟩
 have szl := sizeLine_eq
 obtain ⟨a, xs, rfl, hs, hb⟩ := GA_bears hv
 have xl := hb.length
 refine ⟨by show 0 <= sizeLine; decide, fun D nD => ?_⟩
 have t1 := SB.new (ps := []) nD (.lst [])
 have hD1 : upd H D (.lst []) D = some (.lst []) := upd_same
 generalize upd H D (.lst []) = H1 at t1 hD1
 refine ⟨_, rfl, a, rfl, ⟨xs, t1.sqT hs⟩, ?_⟩
 refine for_it (walk_tup (xs := xs)) (fun i σ H2 => ∃ (us : List V) (o4 o5 : Option V), σ = [some (.ref a), some u, some (.int m), some (.ref D), o4, o5] /\ SB [D] H1 H2 /\ H2 D = some (.lst us) /\ Bears K H2 Gr.pEnc us (Gr.woL t m (g.ps.take i)) /\ us.length <= i)
  ⟨[], none, none, rfl, SB.refl, hD1, .nil, Nat.le_refl _⟩ (fun i σ H2 hi h2 => by obtain ⟨_, _, _, _, s, _⟩ := h2; exact s.sqT (t1.sqT hs)) (fun i x σ H2 H' hi h2 y => ?_) (fun σ H2 h2 => ?_)
 ·obtain ⟨us, o4, o5, rfl, s2, hD2, hb2, ul⟩ := h2
  obtain ⟨rfl, ey⟩ := y
  obtain ⟨p, ep, hpd⟩ := hb.get ey
  have pm := List.mem_of_getElem? ep
  obtain ⟨n1, o1, _, _⟩ := Gr.ok_mem go pm
  have pd := g.mem_deep p pm
  have s02 : SB [] H H' := ((t1.nil (ps := [D])).trans s2).drop nD
  obtain ⟨ad, bd, ux, rfl, h1, h2, h3, h4⟩ := PA_parts hpd
  have h4' := Dp_sb s02 _ _ (Gr.noList_tEnc _) h4
  have hst : Gr.woL t m (g.ps.take (i + 1)) = Gr.woL t m (g.ps.take i) ++ Gr.woL t m [p] := by rw [List.take_add_one, ep, Gr.woL_append]; rfl
  refine ⟨ad, _, rfl, s02.sqT h1, rfl, _, _, rfl, _, _, rfl, rfl, ?_⟩
  refine ⟨_, rfl, _, rfl, Gr.tEnc p.1, Gr.tEnc t, h4', Dp_sb s02 _ _ (Gr.noList_tEnc _) hu, Gr.wd_t n1 o1 (by omega), Gr.wd_t tn to td, _, rfl, ?_⟩
  rw [Gr.t_eqv]
  -- what is put behind
  have app : ∀ c : Int, Gr.woL t m [p] = [(p.1, c)] -> ∀ (T : Addr), H' T = none -> ∃ us' o4' o5', [some (V.ref a), some u, some (.int m), some (.ref D), some (.ref bd), some (.int p.2)] = [some (.ref a), some u, some (.int m), some (.ref D), o4', o5'] /\ SB [D] H1 (upd (upd H' T (.tup [.ref bd, .int c])) D (.lst (us ++ [.ref T]))) /\ upd (upd H' T (.tup [.ref bd, .int c])) D (.lst (us ++ [.ref T])) D = some (.lst us') /\ Bears K (upd (upd H' T (.tup [.ref bd, .int c])) D (.lst (us ++ [.ref T]))) Gr.pEnc us' (Gr.woL t m (g.ps.take (i + 1))) /\ us'.length <= i + 1 := fun c e T nT => by
   have t3 := SB.new (ps := [D]) nT (.tup [.ref bd, .int c])
   have hD3 : upd H' T (.tup [.ref bd, .int c]) D = some (.lst us) := by rw [upd_ne (ne_of_none hD2 nT)]; exact hD2
   have t4 := SB.set (ps := [D]) hD3 (by simp) (.lst (us ++ [.ref T]))
   refine ⟨us ++ [.ref T], _, _, rfl, (s2.trans t3).trans t4, upd_same, ?_, by rw [List.length_append]; show us.length + 1 <= _; omega⟩
   rw [hst, e]
   exact ((hb2.sb t3 Gr.noList_pEnc).sb t4 Gr.noList_pEnc).append (.cons (pair_mk (t4.sqT (SqT.of upd_same)) (Dp_sb (t3.trans t4) _ _ (Gr.noList_tEnc _) h4')) .nil)
  by_cases hz : p.1 = t
  ·rw [show (!decide (p.1 = t)) = false by simp [hz]]
   refine iteF ⟨_, rfl, _, rfl, _, _, rfl, rfl, _, rfl, ?_⟩
   by_cases hm : m < p.2
   ·rw [decide_eq_true hm]
    refine iteT ⟨_, rfl, .inl ⟨rfl, _, SqL.of hD2⟩, _, rfl, _, rfl, _, rfl, _, _, rfl, rfl, by show 2 <= sizeLine; decide, fun T nT => ?_⟩
    have hD3 : upd H' T (.tup [.ref bd, .int (p.2 - m)]) D = some (.lst us) := by rw [upd_ne (ne_of_none hD2 nT)]; exact hD2
    exact ⟨D, _, _, rfl, rfl, hD3, by omega, app (p.2 - m) (by rw [Gr.woL, if_neg (by simpa using hz), if_pos hm]; rfl) T nT⟩
   ·rw [decide_eq_false hm]
    refine iteF ⟨us, _, _, rfl, s2, hD2, ?_, by omega⟩
    rw [hst, show Gr.woL t m [p] = [] by rw [Gr.woL, if_neg (by simpa using hz), if_neg hm]; rfl, List.append_nil]
    exact hb2
  ·rw [show (!decide (p.1 = t)) = true by simp [hz]]
   refine iteT ⟨_, rfl, .inl ⟨rfl, _, SqL.of hD2⟩, _, rfl, _, rfl, by show 2 <= sizeLine; decide, fun T nT => ?_⟩
   have hD3 : upd H' T (.tup [.ref bd, .int p.2]) D = some (.lst us) := by rw [upd_ne (ne_of_none hD2 nT)]; exact hD2
   exact ⟨D, _, _, rfl, rfl, hD3, by omega, app p.2 (by rw [Gr.woL, if_pos hz]; rfl) T nT⟩
 ·obtain ⟨us, o4, o5, rfl, s2, hD2, hb2, ul⟩ := h2
  rw [xl, List.take_length] at hb2
  refine ⟨_, rfl, D, us, rfl, .inl ⟨SqL.of hD2, fun T nT => ?_⟩⟩
  have t3 := SB.new (ps := []) nT (.tup us)
  have s02 : SB [] H H2 := ((t1.nil (ps := [D])).trans s2).drop nD
  exact q _ _ (s02.trans t3) (Bears_ga (SqT.of upd_same) (hb2.sb t3 Gr.noList_pEnc))
abbrev N_times : List Str := ["grove", "many", "tree", "count"]
theorem sc_times : FnScope N_times ["grove", "many"] (defScope s_times) := ⟨rfl, rfl, rfl, by decide +kernel, rfl, by decide +kernel, by decide +kernel⟩
theorem ok_times (B : BI mg) (F : Fun K "times" "times" s_times f fd) : FnOk P w K mg base CX0 (1) f fd ["grove", "many"] (spTimes K) := by
 refine F.ok sc_times (fun vs H Q E h => ?_) (fun cdv A outer s H vs Q E hr h => ?_)
 ·obtain ⟨v, g, m, rfl, _⟩ := h
  rfl
 obtain ⟨v, g, m, rfl, hv, gl, hp, m0, mb, q⟩ := h
 have hun2 := hunT hr
 refine ⟨_, pss_cons (ps_if (pt_cmpR op_eq (pv 1) pe_int (nomark _)) (pss_one (ps_ret (pe_tup pa_nil))) pss_nil)
  (pss_one (ps_ret (pe_callTy call_tuple_of rfl B.tuple boot_tuple (pa_cons (pe_lc (own := [("tree", 2), ("count", 3)]) (g := (gTup K 2 (gCons (gName 2) (gCons (gName 3) gNil)))) (tt := tYes) (te := (tTup (tCons (tVar 2) (tCons (tOp (rI CMulW fun i j => .int (i * j)) (tVar 3) (tVar 1)) tNil)))) rfl sc_times.nd (pi_tup (pv 0)) (blkOk_by (N := N_times) (sc := defScope s_times) (by decide +kernel)) (fun _ _ _ _ _ => (pg_tup rfl (pgs_cons (pg_name (i := 2) sc_times.nd rfl (.inl rfl)) (pgs_cons (pg_name (i := 3) sc_times.nd rfl (.inl rfl)) pgs_nil)))) (fun _ _ _ _ _ => pts_nil) (fun _ _ _ _ _ => (pe_tup (pa_cons (pv 2) (pa_cons (pe_op op_mulW (pv 3) (pv 1)) pa_nil))))) pa_nil)))), ?_⟩
 have szl := sizeLine_eq
 obtain ⟨a, xs, rfl, hs, hb⟩ := GA_bears hv
 have xl := hb.length
 refine ⟨_, rfl, rfl, _, rfl, ?_⟩
 by_cases z : m = 0
 ·subst z
  refine iteT ⟨by show 0 <= sizeLine; decide, fun T nT => ?_⟩
  exact q _ _ (SB.new (ps := []) nT _) (GA_nil (SqT.of upd_same))
 rw [show decide (V.int m = V.int 0) = false by simp [z]]
 refine iteF ⟨_, rfl, a, rfl, ⟨xs, hs⟩, fun D nD => ?_⟩
 refine lc_seqQ (walk_tup (xs := xs)) [] nD (by simp) (by omega) (fun i us H2 => Bears K H2 Gr.pEnc us (Gr.tmsL m (g.ps.take i))) .nil (fun H2 s2 => s2.sqT hs) (fun i us H2 H3 s3 h => h.sb s3 Gr.noList_pEnc) (fun Pv i x Hq H2 us hi s2 y hR hu hD2 fin _ => ?_) (fun us H2 s2 hD2 hR hul => ?_)
 ·obtain ⟨rfl, ey⟩ := y
  obtain ⟨p, ep, hpd⟩ := hb.get ey
  obtain ⟨p0, p1⟩ := hp p (List.mem_of_getElem? ep)
  obtain ⟨ad, bd, ux, rfl, h1, h2, h3, h4⟩ := PA_parts hpd
  refine ⟨ad, _, rfl, s2.sqT h1, rfl, _, _, rfl, _, _, rfl, rfl, rfl, ?_⟩
  refine ⟨_, rfl, _, rfl, _, rfl, _, _, rfl, rfl, ?_, by show 2 <= sizeLine; decide, fun T nT => ?_⟩
  ·have e1 := log_lt (x := p.2) (a := 2000) (b := 2000) (Gr.natAbs_lt p0 p1) (Nat.le_refl _) (by decide)
   have e2 := log_lt (x := m) (a := 2000) (b := 2000) (Gr.natAbs_lt m0 mb) (Nat.le_refl _) (by decide)
   unfold CMulW
   omega
  have t3 := SB.new (ps := []) nT (.tup [.ref bd, .int (p.2 * m)])
  refine fin _ _ t3 ?_
  have hst : Gr.tmsL m (g.ps.take (i + 1)) = Gr.tmsL m (g.ps.take i) ++ [(p.1, p.2 * m)] := by rw [List.take_add_one, ep, Gr.tmsL, Gr.tmsL, List.map_append]; rfl
  rw [hst]
  exact (hR.sb t3 Gr.noList_pEnc).append (.cons (pair_mk (SqT.of upd_same) (Dp_sb (s2.trans t3) _ _ (Gr.noList_tEnc _) h4)) .nil)
 ·rw [xl, List.take_length] at hR
  refine ⟨D, us, rfl, .inl ⟨SqL.of hD2, fun T nT => ?_⟩⟩
  have t3 := SB.new (ps := []) nT (.tup us)
  refine q _ _ (s2.trans t3) ?_
  rw [Gr.tmsG, if_neg z]
  exact Bears_ga (SqT.of upd_same) (hR.sb t3 Gr.noList_pEnc)
theorem sc_pairs_within : FnScope ["grove", "found", "pair"] ["grove"] (defScope s_pairs_within) := ⟨rfl, rfl, rfl, by decide +kernel, rfl, by decide +kernel, by decide +kernel⟩
theorem ok_pairs_within {n : Nat} (G : Got P w K mg base "pairs_within" ["grove"] n (spPairsW K n)) (F : Fun K "pairs_within" "pairs_within" s_pairs_within f fd) : FnOk P w K mg base CX0 (n + 1) f fd ["grove"] (spPairsW K (n + 1)) := by
 refine F.ok sc_pairs_within (fun vs H Q E h => ?_) (fun cdv A outer s H vs Q E hr h => ?_)
 ·obtain ⟨v, g, rfl, _⟩ := h
  rfl
 obtain ⟨v, g, rfl, hg, hd, hp, q⟩ := h
 refine ⟨_, pss_cons (ps_set (i := 1) sc_pairs_within.nd rfl (.inl rfl) (pe_lst pa_nil))
  (pss_cons (ps_for PassesOwn.never rfl (pi_tup (pv 0)) (pg_name (i := 2) sc_pairs_within.nd rfl (.inl rfl))
   (pss_cons (ps_expr (pe_bm PySem.F.plainAttrs_list PySem.F.slot_list_append PySem.F.type_list_append mt_append (pv 1) (pa_cons (pv 2) pa_nil)))
   (pss_one (ps_expr (pe_bm PySem.F.plainAttrs_list PySem.F.slot_list_extend PySem.F.type_list_extend mt_extend (pv 1) (pa_cons (pe_got G hr rfl (pa_cons (pe_ix ix_tup (pe_ix ix_tup (pv 2) pe_int (fun _ _ => rfl)) pe_int (fun _ _ => rfl)) pa_nil)) pa_nil))))))
  (pss_one (ps_ret (pv 1)))), ?_⟩
 obtain ⟨a, xs, rfl, hs, hb⟩ := GA_bears hg
 have bl := hb.length
 have wl := g.within_length
 refine ⟨(by show 0 <= sizeLine; decide), fun D hD => ?_⟩
 refine ⟨_, rfl, a, rfl, ⟨xs, (SB.new (ps := []) hD _).sqT hs⟩, ?_⟩
 refine for_it (walk_tup (xs := xs)) (fun i σ H2 => SB [D] H H2 /\ ∃ us o2, σ = [some (.ref a), some (.ref D), o2] /\ H2 D = some (.lst us) /\ Bears K H2 Gr.pEnc us ((g.ps.take i).flatMap fun p => p :: p.1.2.within)) ⟨SB.new hD _, [], none, rfl, upd_same, .nil⟩ (fun i σ H2 hi h2 => (h2.1.drop hD).sqT hs) (fun i x σ H2 H' hi h2 y => ?_) (fun σ H2 h2 => ?_)
 ·obtain ⟨s2, us, o2, rfl, hD2, hb2⟩ := h2
  obtain ⟨rfl, ex⟩ := y
  obtain ⟨p, ep, hpd⟩ := hb.get ex
  have pm := List.mem_of_getElem? ep
  obtain ⟨ad, td, ux, rfl, hs2, hs3, hga, _⟩ := PA_parts hpd
  have s2' := s2.drop hD
  have ul := hb2.length
  have hsplit : (g.ps.take (i + 1)).flatMap (fun p => p :: p.1.2.within) = (g.ps.take i).flatMap (fun p => p :: p.1.2.within) ++ (p :: p.1.2.within) := by rw [List.take_add_one, ep]; simp
  have hle : ((g.ps.take i).flatMap (fun p => p :: p.1.2.within)).length + (p.1.2.within.length + 1) <= 200000 := by
   have h1 : g.within = (g.ps.take (i + 1)).flatMap (fun p => p :: p.1.2.within) ++ (g.ps.drop (i + 1)).flatMap (fun p => p :: p.1.2.within) := by rw [Gr.within_ps, <- List.flatMap_append, List.take_append_drop]
   have h2 := congrArg List.length h1
   rw [hsplit, List.length_append, List.length_append, List.length_cons, wl] at h2
   omega
  refine ⟨_, rfl, .inl ⟨rfl, _, SqL.of hD2⟩, _, rfl, D, us, _, rfl, rfl, hD2, small5 (by omega), ?_⟩
  have t3 := SB.set (ps := [D]) hD2 (by simp) (.lst (us ++ [.ref ad]))
  have hD3 : (upd H' D (.lst (us ++ [.ref ad]))) D = some (.lst (us ++ [.ref ad])) := upd_same
  have hb3 := Bears.append (hb2.sb t3 Gr.noList_pEnc) (.cons (Dp_sb (s2.trans t3) _ _ (Gr.noList_pEnc _) hpd) .nil)
  have s3 := s2.trans t3
  have s3' := s3.drop hD
  generalize hH3 : upd H' D (.lst (us ++ [.ref ad])) = H3 at t3 hD3 hb3 s3 s3'
  have pd := g.mem_deep p pm
  have pp := g.mem_parts p pm
  refine ⟨_, rfl, .inl ⟨rfl, _, SqL.of hD3⟩, _, rfl, ad, _, _, _, rfl, rfl, s3'.sqT hs2, atI_nat (j := 0) rfl, td, _, _, _, rfl, rfl, s3'.sqT hs3, atI_nat (j := 1) rfl, ux, p.1.2, rfl, hga.sb s3', by omega, by omega, fun D2 vs2 H4 s4 hDn hD4 hb4 => ?_⟩
  have hD4' := s4.keep _ _ hD3 nmn
  have vl := hb4.length
  refine ⟨D, D2, _, _, rfl, rfl, hD4', hD4, ?_, ?_⟩
  ·rw [List.length_append, List.length_singleton]
   have : 1000000 <= sizeLine := by decide
   omega
  have t5 := SB.set (ps := [D]) hD4' (by simp) (.lst (us ++ [.ref ad] ++ vs2))
  refine ⟨(s3.trans s4.nil).trans t5, _, _, rfl, upd_same, ?_⟩
  rw [hsplit, show ((g.ps.take i).flatMap (fun p => p :: p.1.2.within) ++ (p :: p.1.2.within)) = (g.ps.take i).flatMap (fun p => p :: p.1.2.within) ++ [p] ++ p.1.2.within by simp]
  exact Bears.append ((hb3.sb s4 Gr.noList_pEnc).sb t5 Gr.noList_pEnc) (hb4.sb t5 Gr.noList_pEnc)
 ·obtain ⟨s2, us, o2, rfl, hD2, hb2⟩ := h2
  rw [bl, List.take_length, <- Gr.within_ps] at hb2
  exact ⟨_, rfl, q D us H2 (s2.drop hD) hD hD2 hb2⟩
abbrev N_kinds_within : List Str := ["grove", "tree", "many"]
theorem sc_kinds_within : FnScope N_kinds_within ["grove"] (defScope s_kinds_within) := ⟨rfl, rfl, rfl, by decide +kernel, rfl, by decide +kernel, by decide +kernel⟩
theorem ok_kinds_within (B : BI mg) (G_pairs_within : Got P w K mg base "pairs_within" ["grove"] (70) (spPairsW K 70)) (F : Fun K "kinds_within" "kinds_within" s_kinds_within f fd) : FnOk P w K mg base CX0 (71) f fd ["grove"] (spKindsF K) := by
 refine F.ok sc_kinds_within (fun vs H Q E h => ?_) (fun cdv A outer s H vs Q E hr h => ?_)
 ·obtain ⟨v, g, ns, rfl, _⟩ := h
  rfl
 obtain ⟨v, g, ns, rfl, hv, hd, hp, hk, hn, q⟩ := h
 have hun2 := hunT hr
 refine ⟨_, pss_one (ps_ret (pe_callB (cr_sortedTx rfl) rfl B.sorted (by decide +kernel) (pa_cons (pe_scS (own := [("tree", 1), ("many", 2)]) (g := (gTup K 2 (gCons (gName 1) (gCons (gName 2) gNil)))) (tt := tYes) (te := (tOp (rIxT K) (tVar 1) (tC (.int 0)))) rfl sc_kinds_within.nd (pi_list (pe_got G_pairs_within (hr.mono (by omega)) rfl (pa_cons (pv 0) pa_nil))) (blkOk_by (N := N_kinds_within) (sc := defScope s_kinds_within) (by decide +kernel)) (fun _ _ _ _ _ => (pg_tup rfl (pgs_cons (pg_name (i := 1) sc_kinds_within.nd rfl (.inl rfl)) (pgs_cons (pg_name (i := 2) sc_kinds_within.nd rfl (.inl rfl)) pgs_nil)))) (fun _ _ _ _ _ => pts_nil) (fun _ _ _ _ _ => (pe_ix ix_tup (pv 1) pe_int (fun _ _ => rfl)))) pa_nil))), ?_⟩
 have scb : 3001 < scanBound := by decide +kernel
 have wl := g.within_length
 refine ⟨_, rfl, v, g, rfl, hv, by omega, by omega, fun ll us H1 s1 nll hll hbl => ?_⟩
 have ul := hbl.length
 refine ⟨ll, rfl, ⟨_, SqL.of hll⟩, fun D nD => ?_⟩
 refine sc_seq (walk_list (xs := us)) nD (by omega) (fun i ss H2 => ss.Nodup /\ ∀ x, x ∈ ss ↔ x ∈ (g.within.take i).map fun p : Tr × Int => p.1.1) ⟨List.nodup_nil, by simp⟩ (fun H2 s2 => s2.sqL nmn (SqL.of hll)) (fun _ _ _ _ _ h => h) (fun Pv i x Hq H2 ss hi s2 y hR hl fin _ => ?_) (fun ss H2 s2 hD2 hR hl => ?_)
 ·obtain ⟨rfl, ey⟩ := y
  obtain ⟨p, ep, hpd⟩ := hbl.get ey
  obtain ⟨ad, td, ux, rfl, hs2, hs3, hga, _⟩ := PA_parts hpd
  refine ⟨ad, _, rfl, s2.sqT hs2, rfl, _, _, rfl, _, _, rfl, rfl, rfl, ?_⟩
  refine ⟨_, rfl, td, _, _, _, rfl, rfl, s2.sqT hs3, atI_nat (j := 0) rfl, fin p.1.1 _ SB.refl ⟨insS_nodup hR.1, fun x => ?_⟩⟩
  rw [insS_mem, hR.2, List.take_add_one, ep, List.map_append, List.mem_append]
  simp [or_comm]
 ·rw [ul, List.take_length] at hR
  have sl : ss.length <= 60 := by
   have := hR.1.length_le_of_subset (l₂ := ns) fun x hx => by
    obtain ⟨p, hp, e⟩ := List.mem_map.mp ((hR.2 x).mp hx)
    rw [<- e]; exact hk p hp
   omega
  refine ⟨D, ss, rfl, hD2, by omega, fun ss' p pm srt np => ?_⟩
  have t3 := SB.new (ps := []) np (.lst (ss'.map V.str))
  exact q p ss' _ ((s1.trans s2).trans t3) ((s1.trans s2).dom _ np) upd_same (.perm pm srt hR.1 hR.2) (by rw [pm.length_eq]; omega)
theorem sc_parts_of : FnScope ["grove"] ["grove"] (defScope s_parts_of) := ⟨rfl, rfl, rfl, by decide +kernel, rfl, by decide +kernel, by decide +kernel⟩
theorem ok_parts_of {n : Nat} (B : BI mg) (G : Got P w K mg base "pairs_within" ["grove"] n (spPairsW K n)) (F : Fun K "parts_of" "parts_of" s_parts_of f fd) : FnOk P w K mg base CX0 (n + 1) f fd ["grove"] (spPartsOf K n) := by
 refine F.ok sc_parts_of (fun vs H Q E h => ?_) (fun cdv A outer s H vs Q E hr h => ?_)
 ·obtain ⟨v, g, rfl, _⟩ := h
  rfl
 obtain ⟨v, g, rfl, hg, hd, hp, q⟩ := h
 refine ⟨_, pss_one (ps_ret (pe_callB call_len_seq rfl B.len PySem.boot_len (pa_cons (pe_got G hr rfl (pa_cons (pv 0) pa_nil)) pa_nil))), ?_⟩
 refine ⟨_, rfl, v, g, rfl, hg, hd, hp, fun D us H2 s2 _ hD hb => ?_⟩
 refine ⟨D, us, rfl, .inl (SqL.of hD), ?_⟩
 rw [hb.length, g.within_length]
 exact q _ s2
abbrev N_deepof : List Str := ["grove", "tree", "many"]
theorem sc_deep_of : FnScope N_deepof ["grove"] (defScope s_deep_of) := ⟨rfl, rfl, rfl, by decide +kernel, rfl, by decide +kernel, by decide +kernel⟩
theorem ok_deep_of {n : Nat} (B : BI mg) (G : Got P w K mg base "deep_of" ["grove"] n (spDeepOf K n)) (F : Fun K "deep_of" "deep_of" s_deep_of f fd) : FnOk P w K mg base CX0 (n + 1) f fd ["grove"] (spDeepOf K (n + 1)) := by
 refine F.ok sc_deep_of (fun vs H Q E h => ?_) (fun cdv A outer s H vs Q E hr h => ?_)
 ·obtain ⟨v, g, rfl, _⟩ := h
  rfl
 obtain ⟨v, g, rfl, hg, hd, hp, q⟩ := h
 refine ⟨_, pss_cons (ps_if (pt_not (pt_truth (pv 0) (by intro _; rfl))) (pss_one (ps_ret pe_int)) pss_nil) (pss_one (ps_ret (pe_op op_add pe_int (pe_callB (cr_max rfl) rfl B.max boot_max (pa_cons
  (pe_lc (own := [("tree", 1), ("many", 2)]) (g := gPair K) (tt := tYes) (te := (tCall (spDeepOf K n) [] E0 (tCons (tOp (rIxT K) (tVar 1) (tC (.int 1))) tNil))) rfl sc_deep_of.nd
   (pi_tup (pv 0))
   (blkOk_by (N := N_deepof) (sc := defScope s_deep_of) (by decide +kernel))
   (fun _ _ _ _ _ => pg_tup rfl (pgs_cons (pg_name (i := 1) sc_deep_of.nd rfl (.inl rfl)) (pgs_cons (pg_name (i := 2) sc_deep_of.nd rfl (.inl rfl)) pgs_nil)))
   (fun _ _ _ _ _ => pts_nil)
   (fun _ _ _ _ _ => (pe_got G hr rfl (pa_cons (pe_ix ix_tup (pv 1) pe_int (fun _ _ => rfl)) pa_nil)))) pa_nil))))), ?_⟩
 obtain ⟨a, xs, rfl, hs, hb⟩ := GA_bears hg
 have bl := hb.length
 refine ⟨_, rfl, _, .inr (.inl ⟨xs, hs, rfl⟩), ?_⟩
 cases ex : xs with
 | nil =>
  refine iteT ?_
  have e0 : g.deep = 0 := by
   cases g with
   | nil => rfl
   | cons k g m r => rw [ex] at bl; simp [Gr.ps] at bl
  have := q H SB.refl
  rw [e0] at this
  exact this
 | cons x0 xr =>
 refine iteF ?_
 refine ⟨_, rfl, a, rfl, ⟨xs, hs⟩, fun D hD => ?_⟩
 have hz := g.len_parts
 refine lc_it (walk_tup (xs := xs)) (fun i H2 => SB [D] H H2 /\ H2 D = some (.lst (((g.ps.take i).map fun p => (p.1.2.deep : Int)).map V.int))) ⟨SB.new hD _, upd_same⟩ (fun i H2 hi h2 => (h2.1.drop hD).sqT hs) (fun i x H2 H' hi h2 y => ?_) (fun H2 h2 => ?_)
 ·obtain ⟨h2, h3⟩ := h2
  obtain ⟨rfl, ex⟩ := y
  obtain ⟨p, ep, hpd⟩ := hb.get ex
  have pm := List.mem_of_getElem? ep
  obtain ⟨ad, td, ux, rfl, hs2, hs3, hga, _⟩ := PA_parts hpd
  have h4 := h2.drop hD
  have m1 := g.mem_deep p pm
  have m2 := g.mem_parts p pm
  refine ⟨ad, _, rfl, h4.sqT hs2, rfl, _, _, rfl, _, _, rfl, rfl, rfl, ?_⟩
  refine ⟨_, rfl, td, _, _, _, rfl, rfl, h4.sqT hs3, atI_nat (j := 1) rfl, ux, p.1.2, rfl, hga.sb h4, by omega, by omega, fun H5 h5 => ?_⟩
  have h6 := h5.keep _ _ h3 nmn
  refine ⟨_, h6, ?_, ?_⟩
  ·rw [List.length_map, List.length_map, List.length_take]
   exact small5 (by omega)
  ·refine ⟨(h2.trans h5.nil).trans (SB.set h6 (by simp) _), ?_⟩
   rw [upd_same, List.take_add_one, ep]
   simp
 ·obtain ⟨h2, h3⟩ := h2
  rw [bl, List.take_length] at h3
  refine ⟨D, _, rfl, SqL.of h3, ?_, fun m hm hy => ?_⟩
  ·rw [List.length_map, <- bl, ex]; simp
  refine ⟨_, _, rfl, rfl, ?_⟩
  show Q (.int (1 + m)) H2
  rw [Gr.deep_max g m hm hy]
  exact q _ (h2.drop hD)
abbrev N_rules_from_nought : List Str := ["book", "name"]
theorem sc_rules_from_nought : FnScope N_rules_from_nought ["book", "name"] (defScope s_rules_from_nought) := ⟨rfl, rfl, rfl, by decide +kernel, rfl, by decide +kernel, by decide +kernel⟩
theorem ok_rules_from_nought {C_NO_GROVES C_Book C_NoKind : Addr} (B : BI mg) (V_NO_GROVES : mg "NO_GROVES" = some (.ref C_NO_GROVES)) (W_NO_GROVES : ∀ H, Dp K H (.ref C_NO_GROVES) (Ru.enc (.nil, .nil))) (G_Book_rules : GotMXN P w K mg base C_Book "rules" ["self", "name"] (4) (spBRules K C_Book C_NoKind)) (F : Fun K "rules_from_nought" "rules_from_nought" s_rules_from_nought f fd) : FnOk P w K mg base (L2N.CX P w) (5) f fd ["book", "name"] (spRulesN K C_Book C_NoKind) := by
 refine F.okXN sc_rules_from_nought (fun vs H Q E h => ?_) (fun cdv A outer s H vs Q E hr h => ?_)
 ·obtain ⟨v, b, n, rfl, _⟩ := h
  rfl
 obtain ⟨v, b, n, rfl, hb, hl, hr4, qk, qE⟩ := h
 have hun2 := hunT hr
 refine ⟨_, pss_one (ps_ret (pe_op op_cat (pe_lst (pa_cons (pe_glob (v := .ref C_NO_GROVES) rfl V_NO_GROVES rfl) pa_nil)) (pe_gotMSN G_Book_rules (hr.mono (by omega)) (L2N.takes_of rfl rfl rfl rfl) (pv 0) (pa_cons (pv 1) pa_nil)))), ?_⟩
 have szl := sizeLine_eq
 obtain ⟨va, vdx, vd1, vd2, rfl, hva⟩ := hb.at
 refine ⟨by show 1 <= sizeLine; decide, fun L hL => ?_⟩
 have t1 := SB.new (ps := []) hL (.lst [.ref C_NO_GROVES])
 have hL1 : upd H L (.lst [.ref C_NO_GROVES]) L = some (.lst [.ref C_NO_GROVES]) := upd_same
 generalize upd H L (.lst [.ref C_NO_GROVES]) = H1 at t1 hL1
 refine ⟨_, rfl, va, vdx, _, rfl, t1.keep _ _ hva nmn, rfl, _, rfl, _, b, n, rfl, hb.sb0 t1, hl, hr4, fun k eg ll us H2 s2 nll hll hbl => ?_, fun z d H' s' nd hd => qE z d H' (t1.trans s') (t1.dom d nd) hd⟩
 have k4 := hr4 k (Bk.get_some eg).1
 have ul := hbl.length
 refine ⟨L, ll, _, _, rfl, rfl, s2.keep _ _ hL1 nmn, hll, by show 1 + _ <= sizeLine; omega, fun M hM => ?_⟩
 have t3 := SB.new (ps := []) hM (.lst ([.ref C_NO_GROVES] ++ us))
 have s3 := t1.trans s2
 exact qk k eg M _ _ (s3.trans t3) (s3.dom _ hM) upd_same (.cons (W_NO_GROVES _) (hbl.sb t3 Ru.noList_enc))
abbrev N_check_kind : List Str := ["book", "name"]
theorem sc_check_kind : FnScope N_check_kind ["book", "name"] (defScope s_check_kind) := ⟨rfl, rfl, rfl, by decide +kernel, rfl, by decide +kernel, by decide +kernel⟩
theorem ok_check_kind {C_NoKind C_Book : Addr} (B : BI mg) (O_NoKind : OwnI P w K mg base "NoKind" C_NoKind 1) (G_Book_names : GotM P w K mg base C_Book "names" ["self"] (1) (spBNames K C_Book)) (F : Fun K "check_kind" "check_kind" s_check_kind f fd) : FnOk P w K mg base (L2N.CX P w) (3) f fd ["book", "name"] (spCheckK K C_Book C_NoKind) := by
 refine F.okXN sc_check_kind (fun vs H Q E h => ?_) (fun cdv A outer s H vs Q E hr h => ?_)
 ·obtain ⟨v, b, n, rfl, _⟩ := h
  rfl
 obtain ⟨v, b, n, rfl, hb, hl, qk, qE⟩ := h
 have hun2 := hunT hr
 refine ⟨_, pss_one (ps_if (pt_cmpR op_notIn_seq (pv 1) (pe_gotM0 G_Book_names (hr.mono (by omega)) (pv 0)) (by rfl)) (pss_one (L2N.ps_raise rfl (L2N.takes_of rfl rfl rfl rfl) (pmk_kindN O_NoKind (hr.mono (by omega)) rfl (pv 1)))) pss_nil), ?_⟩
 obtain ⟨a, dx, d1, d2, rfl, h1⟩ := hb.at
 refine ⟨_, rfl, _, rfl, a, dx, _, rfl, h1, rfl, ?_⟩
 refine ⟨_, b, rfl, hb, hl, fun l H1 s1 hn hl1 => ?_⟩
 refine ⟨l, _, rfl, .inl (SqL.of hl1), rfl, flat_strs _, _, rfl, ?_⟩
 rw [inV_strs, Bk.get_isSome]
 cases e : b.get n with
 | some k => exact qk k e H1 s1
 | none => exact ⟨_, rfl, fun d hd => qE e d _ (s1.trans (SB.new hd _)) (s1.dom d hd) upd_same⟩
abbrev N_check_kinds : List Str := ["book", "grove", "kind"]
theorem sc_check_kinds : FnScope N_check_kinds ["book", "grove"] (defScope s_check_kinds) := ⟨rfl, rfl, rfl, by decide +kernel, rfl, by decide +kernel, by decide +kernel⟩
theorem ok_check_kinds {C_Book C_NoKind : Addr} (B : BI mg) (G_kinds_within : Got P w K mg base "kinds_within" ["grove"] (71) (spKindsF K)) (G_check_kind : GotXN P w K mg base "check_kind" ["book", "name"] (3) (spCheckK K C_Book C_NoKind)) (F : Fun K "check_kinds" "check_kinds" s_check_kinds f fd) : FnOk P w K mg base (L2N.CX P w) (72) f fd ["book", "grove"] (spCheckKsF K C_Book) := by
 refine F.okXN sc_check_kinds (fun vs H Q E h => ?_) (fun cdv A outer s H vs Q E hr h => ?_)
 ·obtain ⟨v, w, b, g, rfl, _⟩ := h
  rfl
 obtain ⟨v, w, b, g, rfl, hv, hg, hl, hd, hp, hk, q⟩ := h
 have hun2 := hunT hr
 refine ⟨_, pss_one (ps_for (passes_of rfl) rfl (pi_list (pe_got G_kinds_within (hr.mono (by omega)) rfl (pa_cons (pv 1) pa_nil))) (pg_name (i := 2) sc_check_kinds.nd rfl (.inl rfl))
   (pss_one (ps_expr (pe_gotSN G_check_kind (hr.mono (by omega)) rfl (L2N.takes_of rfl rfl rfl rfl) (pa_cons (pv 0) (pa_cons (pv 2) pa_nil)))))), ?_⟩
 refine ⟨_, rfl, w, g, b.names, rfl, hg, hd, hp, hk, by rw [List.length_map]; exact hl, fun l ss H1 s1 nl hls so sl => ?_⟩
 refine ⟨l, rfl, ⟨_, SqL.of hls⟩, ?_⟩
 refine for_it (walk_list (xs := ss.map V.str)) (fun i σ H2 => SB [] H1 H2 /\ ∃ o2, σ = [some v, some w, o2]) ⟨SB.refl, none, rfl⟩ (fun i σ H2 hi h2 => h2.1.sqL nmn (SqL.of hls)) (fun i x σ Hq H2 hi h2 y => ?_) (fun σ H2 h2 => ?_)
 ·obtain ⟨s2, o2, rfl⟩ := h2
  obtain ⟨rfl, ey⟩ := y
  rw [List.getElem?_map] at ey
  obtain ⟨k, ek, rfl⟩ := Option.map_eq_some_iff.mp ey
  obtain ⟨p, hp2, e⟩ := List.mem_map.mp ((so.mem k).mp (List.mem_of_getElem? ek))
  obtain ⟨kd, eg⟩ := Bk.get_of (e ▸ hk p hp2)
  refine ⟨_, rfl, _, rfl, v, b, k, rfl, hv.sb0 (s1.trans s2), by omega, fun _ _ H3 s3 => ⟨s2.trans s3, _, rfl⟩, fun z => by rw [eg] at z; cases z⟩
 ·obtain ⟨s2, o2, rfl⟩ := h2
  exact q _ (s1.trans s2)
abbrev N_are_kinds : List Str := ["things", "thing", "names", "rule"]
theorem sc_are_kinds : FnScope N_are_kinds ["things"] (defScope s_are_kinds) := ⟨rfl, rfl, rfl, by decide +kernel, rfl, by decide +kernel, by decide +kernel⟩
theorem ok_are_kinds (B : BI mg) (L_MOST_KINDS : ∃ t, mg "MOST_KINDS" = some (.int (8) t)) (G_is_kind : Got P w K mg base "is_kind" ["thing"] (86) (spIsKind K)) (G_is_rule_of : Got P w K mg base "is_rule_of" ["rule", "names"] (71) (spIsRuleOf K)) (F : Fun K "are_kinds" "are_kinds" s_are_kinds f fd) : FnOk P w K mg base CX0 (87) f fd ["things"] (spAreKinds K) := by
 refine F.ok sc_are_kinds (fun vs H Q E h => ?_) (fun cdv A outer s H vs Q E hr h => ?_)
 ·obtain ⟨l, xs, ts, rfl, _⟩ := h
  rfl
 obtain ⟨l, xs, ts, rfl, hs, ha, hf, hl, q⟩ := h
 obtain ⟨tk_MOST_KINDS, h_MOST_KINDS⟩ := L_MOST_KINDS
 have hun2 := hunT hr
 refine ⟨_, pss_cons (ps_if (pt_not (pt_chain op_le op_le pe_int (pe_callB call_len_seq rfl B.len PySem.boot_len (pa_cons (pv 0) pa_nil)) (pe_glob (v := .int (8)) rfl h_MOST_KINDS ⟨_, rfl⟩))) (pss_one (ps_ret pe_bl)) pss_nil)
  (pss_cons (ps_for PassesOwn.never rfl (pi_list (pv 0)) (pg_name (i := 1) sc_are_kinds.nd rfl (.inl rfl))
   (pss_one (ps_if (pt_not (pt_val (pe_got G_is_kind (hr.mono (by omega)) rfl (pa_cons (pv 1) pa_nil)))) (pss_one (ps_ret pe_bl)) pss_nil)))
  (pss_cons (ps_set (i := 2) sc_are_kinds.nd rfl (.inr rfl) (pe_lc (own := [("thing", 1)]) (g := (gName 1)) (tt := tYes) (te := (tOp (rIxT K) (tVar 1) (tC (.int 0)))) rfl sc_are_kinds.nd (pi_list (pv 0)) (blkOk_by (N := N_are_kinds) (sc := defScope s_are_kinds) (by decide +kernel)) (fun _ _ _ _ _ => (pg_name (i := 1) sc_are_kinds.nd rfl (.inl rfl))) (fun _ _ _ _ _ => pts_nil) (fun _ _ _ _ _ => (pe_ix ix_tup (pv 1) pe_int (fun _ _ => rfl)))))
  (pss_cons (ps_if (pt_cmpR op_ne (pe_lenSetS rfl B rfl rfl (pv 2)) (pe_callB call_len_seq rfl B.len PySem.boot_len (pa_cons (pv 2) pa_nil)) (nomark _)) (pss_one (ps_ret pe_bl)) pss_nil)
  (pss_one (ps_ret (pe_callB (cr_all rfl) rfl B.all boot_all (pa_cons (pe_lc2 (own := [("thing", 1), ("rule", 3)]) (vs1 := [3]) (wi1 := (iList K (tOp (rIxT K) (tVar 1) (tC (.int 2))))) (g := (gName 1)) (g1 := (gName 3)) (tt := tYes) (tt1 := tYes) (te := (tCall (spIsRuleOf K) [] E0 (tCons (tVar 3) (tCons (tVar 2) tNil)))) rfl sc_are_kinds.nd (pi_list (pv 0)) (blkOk_by (N := N_are_kinds) (sc := defScope s_are_kinds) (by decide +kernel)) (by simp) (fun _ _ _ _ _ => (pg_name (i := 1) sc_are_kinds.nd rfl (.inl rfl))) (fun _ _ _ _ _ => pts_nil) (fun _ _ _ _ _ => (pi_list (pe_ix ix_tup (pv 1) pe_int (fun _ _ => rfl)))) (fun _ _ _ _ _ => (pg_name (i := 3) sc_are_kinds.nd rfl (.inl rfl))) (fun _ _ _ _ _ => pts_nil) (fun _ _ _ _ _ => (pe_got G_is_rule_of (hr.mono (by omega)) rfl (pa_cons (pv 3) (pa_cons (pv 2) pa_nil))))) pa_nil))))))), ?_⟩
 have no : ¬ KTBk ts -> ∀ H', SB [] H H' -> Q (.bl false) H' := fun e H' s' => q false H' s' ⟨(fun z => nomatch z), fun z => absurd z e⟩
 have xlen := ha.length
 have szl := sizeLine_eq
 refine ⟨_, rfl, l, xs, rfl, .inl hs, _, _, rfl, rfl, _, rfl, ?_⟩
 refine ite2 (fun c => ?_) (fun c => ?_)
 ·have c1 := of_decide_eq_true c
  refine ⟨_, _, rfl, rfl, _, rfl, ?_⟩
  cases c8 : decide (((xs.length : Nat) : Int) <= 8) with
  | false =>
   have c2 := of_decide_eq_false c8
   refine iteT (no ?_ _ SB.refl)
   rintro ⟨b, e, ok⟩
   have := ok.len
   rw [e, List.length_map] at xlen
   omega
  | true =>
  refine iteF ?_
  have c2 := of_decide_eq_true c8
  refine ⟨_, rfl, l, rfl, ⟨xs, hs⟩, ?_⟩
  refine for_list (K := K) (a := l) (xs := xs) (fun i σ H2 => SB [] H H2 /\ (∃ o, σ = [some (.ref l), o, none, none]) /\ ∀ t ∈ ts.take i, KTKd t) ⟨SB.refl, ⟨none, rfl⟩, by simp⟩ (fun i σ H2 hi h2 => h2.1.sqL nmn hs) (fun i x σ H2 hx h2 => ?_) (fun σ H2 h2 => ?_)
  ·obtain ⟨h2, ⟨o, rfl⟩, h3⟩ := h2
   obtain ⟨t, et, ht⟩ := ha.get hx
   have mt := List.mem_of_getElem? et
   refine ⟨_, rfl, x, t, rfl, KTA_sb h2 ht, hf t mt, fun b H3 s3 hb => ?_⟩
   refine ⟨_, rfl, ?_⟩
   cases b with
   | false =>
    refine iteT (no ?_ _ (h2.trans s3))
    rintro ⟨bk, e, ok⟩
    rw [e] at mt
    obtain ⟨k, hk, rfl⟩ := List.mem_map.mp mt
    obtain ⟨o1, o2, o3⟩ := ok.kd k hk
    exact nomatch hb.mpr ⟨k, rfl, o1, o2, fun r hr => (o3 r hr).1⟩
   | true =>
    refine iteF ⟨h2.trans s3, ⟨_, rfl⟩, fun t' ht' => ?_⟩
    rw [List.take_add_one, et, Option.toList_some] at ht'
    rcases List.mem_append.mp ht' with h | h
    ·exact h3 t' h
    ·rw [List.mem_singleton.mp h]; exact hb.mp rfl
  ·obtain ⟨h2, ⟨o, rfl⟩, h3⟩ := h2
   rw [xlen, List.take_length] at h3
   obtain ⟨bk, et, hk⟩ := KT_all h3
   subst et
   rw [List.length_map] at xlen
   have ha2 := (ha.sb h2).kd
   have hs2 := h2.sqL nmn hs
   refine ⟨_, rfl, l, rfl, ⟨xs, hs2⟩, fun D hD => ?_⟩
   refine lc_seq (walk_list (xs := xs)) hD (by omega) (fun i us _ => us = ((Bk.names bk).take i).map V.str) rfl (fun H6 s6 => s6.sqL nmn hs2) (fun _ _ _ _ _ h => h) (fun Pv i x H6 H' us hi s6 y hR hl6 fin _ => ?_) (fun us H6 s6 hD6 hR _ => ?_)
   ·obtain ⟨rfl, ex⟩ := y
    obtain ⟨k, ek, t, r, zs, rfl, g1, g2, g3, _⟩ := ha2.get ex
    refine ⟨rfl, _, rfl, t, _, _, _, rfl, rfl, s6.sqT g1, atI_nat (j := 0) rfl, fin _ _ SB.refl ?_⟩
    rw [hR, List.take_add_one, List.getElem?_map, ek, Option.map_some, Option.toList_some, List.map_append]; rfl
   ·rw [xlen, show (Bk.names bk).take bk.length = Bk.names bk by rw [List.take_of_length_le (by simp)]] at hR
    subst hR
    have s06 := h2.trans s6
    refine ⟨_, rfl, D, Bk.names bk, rfl, SqL.of hD6, by rw [List.length_map]; omega, ?_⟩
    refine ⟨_, rfl, D, _, rfl, .inl (SqL.of hD6), rfl, _, rfl, ?_⟩
    have hnd := met_len_nodup (Bk.names bk)
    rw [show (List.map V.str (Bk.names bk)).length = (Bk.names bk).length from List.length_map ..]
    by_cases nd : (Bk.names bk).Nodup
    ·rw [hnd.mpr nd, show (!decide (V.int ((Bk.names bk).length : Nat) = V.int ((Bk.names bk).length : Nat))) = false by simp]
     refine iteF ?_
     have ha6 := ha2.sb s6 NoLst.nil
     have hs6 := s6.sqL nmn hs2
     refine ⟨_, rfl, l, rfl, ⟨xs, hs6⟩, fun E1 hE1 => ?_⟩
     have good : ∀ r : Ru, (∃ k ∈ bk, r ∈ k.rs) -> RuOk r := fun r ⟨k, h1, h2⟩ => (hk k h1).2.2 r h2
     refine lcG (walk_list (xs := xs)) (fun i H2 => SB [E1] H6 H2 /\ ∃ bs : List Bool, H2 E1 = some (.lst (bs.map V.bl)) /\ bs = ((bk.take i).flatMap fun k => k.rs.map fun r => decide (∀ p ∈ Ru.within r, p.1.1 ∈ Bk.names bk))) ⟨SB.new hE1 _, [], upd_same, rfl⟩ (fun i H2 hi h2 => (h2.1.drop hE1).sqL nmn hs6) (fun i x H2 H' hi h2 y => ?_) (fun H2 h2 => ?_)
     ·obtain ⟨s7, bs, hE7, hbs⟩ := h2
      obtain ⟨rfl, ex⟩ := y
      obtain ⟨k, ek, t, r, zs, rfl, g1, g2, g3, _⟩ := ha6.get ex
      have mk := List.mem_of_getElem? ek
      have zl := g3.length
      have r4 := (hk k mk).2.1
      have s7' := s7.drop hE1
      refine ⟨rfl, ?_⟩
      refine ⟨_, rfl, t, _, _, _, rfl, rfl, s7'.sqT g1, atI_nat (j := 2) rfl, r, rfl, ⟨zs, SqL.of (s7'.keep _ _ g2 nmn)⟩, ?_⟩
      have hsplit : ((bk.take (i + 1)).flatMap fun k => k.rs.map fun r => decide (∀ p ∈ Ru.within r, p.1.1 ∈ Bk.names bk)) = ((bk.take i).flatMap fun k => k.rs.map fun r => decide (∀ p ∈ Ru.within r, p.1.1 ∈ Bk.names bk)) ++ k.rs.map fun r => decide (∀ p ∈ Ru.within r, p.1.1 ∈ Bk.names bk) := by rw [List.take_add_one, ek]; simp
      have hlen : bs.length <= 4 * i := by
       rw [hbs]
       clear hbs hE7 s7 s7' hsplit ex ek
       induction i with
       | zero => simp
       | succ i ih =>
        rw [List.take_add_one, List.flatMap_append, List.length_append]
        have := ih (by omega)
        cases e : bk[i]? with
        | none => simp only [Option.toList_none, List.flatMap_nil, List.length_nil]; omega
        | some k2 =>
         have := (hk k2 (List.mem_of_getElem? e)).2.1
         simp only [Option.toList_some, List.flatMap_cons, List.flatMap_nil, List.append_nil, List.length_map]; omega
      refine lcG (walk_list (xs := zs)) (fun j H3 => SB [E1] H6 H3 /\ ∃ bs2 : List Bool, H3 E1 = some (.lst (bs2.map V.bl)) /\ bs2 = bs ++ ((k.rs.take j).map fun r => decide (∀ p ∈ Ru.within r, p.1.1 ∈ Bk.names bk))) ⟨s7, bs, hE7, by simp⟩ (fun j H3 hj h3 => (h3.1.drop hE1).sqL nmn (SqL.of g2)) (fun j x H3 H4 hj h3 y => ?_) (fun H3 h3 => ?_)
      ·obtain ⟨s8, bs2, hE8, hbs2⟩ := h3
       obtain ⟨rfl, ex2⟩ := y
       obtain ⟨ru, er, hru⟩ := g3.get ex2
       have s8' := s8.drop hE1
       have mr := List.mem_of_getElem? er
       refine ⟨rfl, ?_⟩
       refine ⟨_, rfl, _, rfl, _, D, ru, Bk.names bk, rfl, Dp_sb s8' _ _ (Ru.noList_enc _) hru, (hk k mk).2.2 ru mr, SqL.of (s8'.keep _ _ hD6 nmn), by rw [List.length_map]; omega, fun H9 s9 => ?_⟩
       have hE9 := s9.keep _ _ hE8 nmn
       refine ⟨_, hE9, ?_, (s8.trans s9.nil).trans (SB.set hE9 (by simp) _), bs2 ++ [decide (∀ p ∈ Ru.within ru, p.1.1 ∈ Bk.names bk)], (by rw [upd_same, List.map_append]; rfl), ?_⟩
       ·rw [List.length_map, hbs2, List.length_append, List.length_map, List.length_take]
        omega
       ·rw [hbs2, List.take_add_one, er, Option.toList_some, List.map_append, <- List.append_assoc]
        exact rfl
      ·obtain ⟨s8, bs2, hE8, hbs2⟩ := h3
       refine ⟨s8, bs2, hE8, ?_⟩
       rw [hsplit, hbs2, hbs, zl, List.take_length]
     ·obtain ⟨s7, bs, hE7, hbs⟩ := h2
      rw [xlen, List.take_length] at hbs
      refine ⟨E1, bs, rfl, SqL.of hE7, q _ _ (s06.trans (s7.drop hE1)) ?_⟩
      rw [hbs]
      simp only [List.all_flatMap, List.all_map, List.all_eq_true, Function.comp, id_eq, decide_eq_true_eq]
      constructor
      ·intro h
       exact ⟨bk, rfl, by omega, by omega, nd, fun k mk => ⟨(hk k mk).1, (hk k mk).2.1, fun r mr => ⟨(hk k mk).2.2 r mr, h k mk r mr⟩⟩⟩
      ·rintro ⟨b2, e2, ok⟩ k mk r mr
       have e3 := kts_inj e2
       subst e3
       exact ((ok.kd k mk).2.2 r mr).2
    ·rw [show (!decide (V.int ((met (Bk.names bk) (Bk.names bk).length).length : Nat) = V.int ((Bk.names bk).length : Nat))) = true by
      rw [decide_eq_false (fun z => by injection z with z; exact nd (hnd.mp (by omega)))]; rfl]
     refine iteT (no ?_ _ s06)
     rintro ⟨b2, e2, ok⟩
     have e3 := kts_inj e2
     subst e3
     exact nd ok.nd
 ·have c1 := of_decide_eq_false (Bool.eq_false_iff.mpr c)
  refine ⟨_, rfl, ?_⟩
  refine iteT (no ?_ _ SB.refl)
  rintro ⟨b, e, ok⟩
  have := ok.pos
  rw [e, List.length_map] at xlen
  omega
abbrev N_is_kind : List Str := ["thing", "name", "spreading", "rows", "row"]
theorem sc_is_kind : FnScope N_is_kind ["thing"] (defScope s_is_kind) := ⟨rfl, rfl, rfl, by decide +kernel, rfl, by decide +kernel, by decide +kernel⟩
theorem ok_is_kind (B : BI mg) (L_MOST_RULES : ∃ t, mg "MOST_RULES" = some (.int (4) t)) (G_is_name : Got P w K mg base "is_name" ["thing"] (2) (spName K)) (G_is_rule : Got P w K mg base "is_rule" ["thing"] (85) (spIsRule K)) (F : Fun K "is_kind" "is_kind" s_is_kind f fd) : FnOk P w K mg base CX0 (86) f fd ["thing"] (spIsKind K) := by
 refine F.ok sc_is_kind (fun vs H Q E h => ?_) (fun cdv A outer s H vs Q E hr h => ?_)
 ·obtain ⟨v, t, rfl, _⟩ := h
  rfl
 obtain ⟨v, t, rfl, th, hf, q⟩ := h
 obtain ⟨tk_MOST_RULES, h_MOST_RULES⟩ := L_MOST_RULES
 have hun2 := hunT hr
 refine ⟨_, pss_cons (ps_if (PW.pt (pw_or (pt_not (pt_val (pe_isi B (pv 0) B.tuple boot_tuple))) (pw_or1 (pt_cmpR op_ne (pe_callB call_len_seq rfl B.len PySem.boot_len (pa_cons (pv 0) pa_nil)) pe_int (nomark _))))) (pss_one (ps_ret pe_bl)) pss_nil)
  (pss_cons (ps_asg (pv 0) (pg_tup rfl (pgs_cons (pg_name (i := 1) sc_is_kind.nd rfl (.inl rfl)) (pgs_cons (pg_name (i := 2) sc_is_kind.nd rfl (.inl rfl)) (pgs_cons (pg_name (i := 3) sc_is_kind.nd rfl (.inl rfl)) pgs_nil)))))
  (pss_cons (ps_if (PW.pt (pw_or (pt_not (pt_val (pe_got G_is_name (hr.mono (by omega)) rfl (pa_cons (pv 1) pa_nil)))) (pw_or1 (pt_not (pt_val (pe_isi B (pv 2) B.bool boot_bool)))))) (pss_one (ps_ret pe_bl)) pss_nil)
  (pss_one (ps_ret (pe_and (pe_isi B (pv 3) B.list boot_list) (pe_and (pe_cmpR op_le (pe_callB call_len_seq rfl B.len PySem.boot_len (pa_cons (pv 3) pa_nil)) (pe_glob (v := .int (4)) rfl h_MOST_RULES ⟨_, rfl⟩) (nomark _)) (pe_one (pe_callB (cr_all rfl) rfl B.all boot_all (pa_cons (pe_lc (own := [("row", 4)]) (g := (gName 4)) (tt := tYes) (te := (tCall (spIsRule K) [] E0 (tCons (tVar 4) tNil))) rfl sc_is_kind.nd (pi_list (pv 3)) (blkOk_by (N := N_is_kind) (sc := defScope s_is_kind) (by decide +kernel)) (fun _ _ _ _ _ => (pg_name (i := 4) sc_is_kind.nd rfl (.inl rfl))) (fun _ _ _ _ _ => pts_nil) (fun _ _ _ _ _ => (pe_got G_is_rule (hr.mono (by omega)) rfl (pa_cons (pv 4) pa_nil)))) pa_nil))))))))), ?_⟩
 have no : ¬ KTKd t -> ∀ H', SB [] H H' -> Q (.bl false) H' := fun e H' s' => q false H' s' ⟨(fun z => nomatch z), fun z => absurd z e⟩
 cases t with
 | other =>
  have n0 : ¬ KTKd .other := by rintro ⟨k, e, _⟩; cases e
  obtain ⟨d, tg, hd⟩ := th
  obtain ⟨n1, b, ty, kb, y1, y2⟩ := tg.ty
  refine ⟨_, rfl, _, _, n1, b, rfl, ty, kb, b, rfl, ?_⟩
  cases b with
  | false => exact iteT (iteT (no n0 _ SB.refl))
  | true =>
  refine iteF ?_
  obtain ⟨a, xs, ds, rfl, rfl, hs, ha⟩ := y1 rfl
  refine ⟨_, rfl, a, xs, rfl, .inr hs, rfl, _, rfl, ?_⟩
  have hl := TgAll.length ha
  have h3 := hd ds rfl
  rw [show (!decide (V.int (xs.length : Nat) = V.int 3)) = true by rw [decide_eq_false (fun z => by injection z with z; omega)]; rfl]
  exact iteT (no n0 _ SB.refl)
 | three d w rs =>
  obtain ⟨a, x, y, z, rfl, hs, tx, ty, tz⟩ := th
  refine ⟨_, rfl, _, _, "tuple", true, rfl, SqT_ty hs, by decide +kernel, _, rfl, ?_⟩
  refine iteF ?_
  refine ⟨_, rfl, a, _, rfl, .inr hs, rfl, _, rfl, ?_⟩
  rw [show (!decide (V.int (([x, y, z] : List V).length : Nat) = V.int 3)) = false from rfl]
  refine iteF ?_
  refine ⟨_, rfl, a, _, rfl, hs, rfl, _, _, rfl, _, _, rfl, _, _, rfl, rfl, ?_⟩
  refine ⟨_, rfl, x, d, rfl, tx, fun H1 s1 => ?_⟩
  refine ⟨_, rfl, ?_⟩
  cases g1 : nameD d with
  | false =>
   refine iteT (iteT (no ?_ _ s1))
   rintro ⟨k, e, hk, _⟩
   injection e with e _ _
   rw [e, nameD_ok hk] at g1
   cases g1
  | true =>
  refine iteF ?_
  obtain ⟨nm, rfl, hnm⟩ := nameD_iff g1
  cases w with
  | none =>
   obtain ⟨n, ty, kb⟩ := ty
   refine ⟨_, rfl, _, _, n, false, rfl, TyX_sb s1 (fun _ _ => nmn) ty, kb, _, rfl, ?_⟩
   refine iteT (no ?_ _ s1)
   rintro ⟨k, e, _⟩
   injection e with _ e _
   cases e
  | some bb =>
  have ty : y = .bl bb := ty
  subst ty
  refine ⟨_, rfl, _, _, "bool", true, rfl, .base (.bl bb), by decide +kernel, _, rfl, ?_⟩
  refine iteF ?_
  cases rs with
  | none =>
   obtain ⟨n, ty, kb⟩ := tz
   refine ⟨_, rfl, _, _, n, false, rfl, TyX_sb s1 (fun _ _ => nmn) ty, kb, _, rfl, ?_⟩
   refine iteF (no ?_ _ s1)
   rintro ⟨k, e, _⟩
   injection e with _ _ e
   cases e
  | some ds =>
  obtain ⟨l, zs, rfl, hl, ha⟩ := tz
  obtain ⟨hd1, hd2⟩ := hf ds rfl
  refine ⟨_, rfl, _, _, "list", true, rfl, SqL_ty (s1.sqL nmn (SqL.of hl)), by decide +kernel, _, rfl, ?_⟩
  refine iteT ?_
  have hlen := TgAll.length ha
  refine ⟨_, rfl, l, _, rfl, .inl (s1.sqL nmn (SqL.of hl)), _, _, rfl, rfl, _, rfl, ?_⟩
  refine ite2 (fun c => ?_) (fun c => ?_)
  ·have c1 := of_decide_eq_true c
   rw [hlen] at c1
   have szl := sizeLine_eq
   refine ⟨_, rfl, l, rfl, ⟨_, s1.sqL nmn (SqL.of hl)⟩, fun D hD => ?_⟩
   refine lc_seq (walk_list (xs := zs)) hD (by omega) (fun i us _ => ∃ bs : List Bool, us = bs.map V.bl /\ bs.length = i /\ ∀ j b, bs[j]? = some b -> ∀ x, ds[j]? = some x -> (b = true ↔ RuD x)) ⟨[], rfl, rfl, fun j b h => by rw [List.getElem?_nil] at h; cases h⟩ (fun H6 s6 => s6.sqL nmn (s1.sqL nmn (SqL.of hl))) (fun _ _ _ _ _ h => h) (fun Pv i x H6 H' us hi s6 y hR hl6 fin _ => ?_) (fun us H6 s6 hD6 hR _ => ?_)
   ·obtain ⟨rfl, ex⟩ := y
    obtain ⟨p, ep, hp⟩ := TgAll.get ha ex
    obtain ⟨bs, rfl, hbl, hbs⟩ := hR
    refine ⟨rfl, _, rfl, x, p, rfl, Tg_sb (s1.trans s6) hp, hd2 _ (List.mem_of_getElem? ep), fun b H7 s7 hb => fin _ _ s7 ⟨bs ++ [b], by rw [List.map_append]; rfl, by rw [List.length_append, hbl]; rfl, fun j b' hj y hy => ?_⟩⟩
    by_cases hji : j < bs.length
    ·rw [List.getElem?_append_left hji] at hj
     exact hbs j b' hj y hy
    ·have hj' : j = bs.length := by
      have := (List.getElem?_eq_some_iff.mp hj).1
      rw [List.length_append, List.length_singleton] at this
      omega
     subst hj'
     rw [List.getElem?_append_right (Nat.le_refl _), Nat.sub_self] at hj
     cases hj
     rw [hbl, ep] at hy
     cases hy
     exact hb
   ·obtain ⟨bs, rfl, hbl, hbs⟩ := hR
    refine ⟨D, bs, rfl, SqL.of hD6, q _ _ (s1.trans s6) ?_⟩
    have h1 : (bs.all id = true) ↔ ∀ x ∈ ds, RuD x := by
     rw [List.all_eq_true]
     constructor
     ·intro h x hx
      obtain ⟨j, hj, e⟩ := List.getElem_of_mem hx
      have hjb : j < bs.length := by omega
      exact (hbs j bs[j] (List.getElem?_eq_getElem hjb) x (by rw [List.getElem?_eq_getElem hj, e])).mp (h _ (List.getElem_mem hjb))
     ·intro h b hb
      obtain ⟨j, hj, e⟩ := List.getElem_of_mem hb
      have hjb : j < ds.length := by omega
      exact (hbs j b (by rw [List.getElem?_eq_getElem hj, e]) ds[j] (List.getElem?_eq_getElem hjb)).mpr (h _ (List.getElem_mem hjb))
    rw [h1]
    constructor
    ·intro h
     obtain ⟨rr, e1, e2⟩ := RuD_all h
     exact ⟨⟨nm, bb, rr⟩, by rw [Kd.kt, e1], hnm, by rw [e1, List.length_map] at c1; show rr.length <= 4; omega, e2⟩
    ·rintro ⟨k, e, _, _, hk⟩ x hx
     injection e with _ _ e
     injection e with e
     rw [e] at hx
     obtain ⟨r, hr, rfl⟩ := List.mem_map.mp hx
     exact ⟨r, rfl, hk r hr⟩
  ·have c1 := of_decide_eq_false (Bool.eq_false_iff.mpr c)
   rw [hlen] at c1
   refine no ?_ _ s1
   rintro ⟨k, e, _, h4, _⟩
   injection e with _ _ e
   injection e with e
   rw [e, List.length_map] at c1
   omega
abbrev N_is_rule : List Str := ["thing", "once", "each", "pairs", "tree", "many"]
theorem sc_is_rule : FnScope N_is_rule ["thing"] (defScope s_is_rule) := ⟨rfl, rfl, rfl, by decide +kernel, rfl, by decide +kernel, by decide +kernel⟩
theorem ok_is_rule (B : BI mg) (L_MOST_RULE_PARTS : ∃ t, mg "MOST_RULE_PARTS" = some (.int (4) t)) (L_MOST_MANY : ∃ t, mg "MOST_MANY" = some (.int (1000000000) t)) (G_is_grove : Got P w K mg base "is_grove" ["thing"] (84) (spIsGrove K 81)) (G_pairs_within : Got P w K mg base "pairs_within" ["grove"] (70) (spPairsW K 70)) (F : Fun K "is_rule" "is_rule" s_is_rule f fd) : FnOk P w K mg base CX0 (85) f fd ["thing"] (spIsRule K) := by
 refine F.ok sc_is_rule (fun vs H Q E h => ?_) (fun cdv A outer s H vs Q E hr h => ?_)
 ·obtain ⟨v, d, rfl, _⟩ := h
  rfl
 obtain ⟨v, d, rfl, th, hf, q⟩ := h
 obtain ⟨tk_MOST_RULE_PARTS, h_MOST_RULE_PARTS⟩ := L_MOST_RULE_PARTS
 obtain ⟨tk_MOST_MANY, h_MOST_MANY⟩ := L_MOST_MANY
 have hun2 := hunT hr
 refine ⟨_, pss_cons (ps_if (PW.pt (pw_or (pt_not (pt_val (pe_isi B (pv 0) B.tuple boot_tuple))) (pw_or1 (pt_cmpR op_ne (pe_callB call_len_seq rfl B.len PySem.boot_len (pa_cons (pv 0) pa_nil)) pe_int (nomark _))))) (pss_one (ps_ret pe_bl)) pss_nil)
  (pss_cons (ps_asg (pv 0) (pg_tup rfl (pgs_cons (pg_name (i := 1) sc_is_rule.nd rfl (.inl rfl)) (pgs_cons (pg_name (i := 2) sc_is_rule.nd rfl (.inl rfl)) pgs_nil))))
  (pss_cons (ps_if (PW.pt (pw_or (pt_not (pt_val (pe_got G_is_grove (hr.mono (by omega)) rfl (pa_cons (pv 1) pa_nil)))) (pw_or1 (pt_not (pt_val (pe_got G_is_grove (hr.mono (by omega)) rfl (pa_cons (pv 2) pa_nil))))))) (pss_one (ps_ret pe_bl)) pss_nil)
  (pss_cons (ps_set (i := 3) sc_is_rule.nd rfl (.inl rfl) (pe_op op_cat (pe_got G_pairs_within (hr.mono (by omega)) rfl (pa_cons (pv 1) pa_nil)) (pe_got G_pairs_within (hr.mono (by omega)) rfl (pa_cons (pv 2) pa_nil))))
  (pss_one (ps_ret (pe_and (pe_cmpR op_le (pe_callB call_len_seq rfl B.len PySem.boot_len (pa_cons (pv 3) pa_nil)) (pe_glob (v := .int (4)) rfl h_MOST_RULE_PARTS ⟨_, rfl⟩) (nomark _)) (pe_one (pe_callB (cr_all rfl) rfl B.all boot_all (pa_cons (pe_lc (own := [("tree", 4), ("many", 5)]) (g := (gTup K 2 (gCons (gName 4) (gCons (gName 5) gNil)))) (tt := tYes) (te := (tOp (rI0 fun i j => .bl (decide (i <= j))) (tVar 5) (tC (.int (1000000000))))) rfl sc_is_rule.nd (pi_list (pv 3)) (blkOk_by (N := N_is_rule) (sc := defScope s_is_rule) (by decide +kernel)) (fun _ _ _ _ _ => (pg_tup rfl (pgs_cons (pg_name (i := 4) sc_is_rule.nd rfl (.inl rfl)) (pgs_cons (pg_name (i := 5) sc_is_rule.nd rfl (.inl rfl)) pgs_nil)))) (fun _ _ _ _ _ => pts_nil) (fun _ _ _ _ _ => (pe_cmpR op_le (pv 5) (pe_glob (v := .int (1000000000)) rfl h_MOST_MANY ⟨_, rfl⟩) (nomark _)))) pa_nil))))))))), ?_⟩
 have no : ¬ RuD d -> ∀ H', SB [] H H' -> Q (.bl false) H' := fun e H' s' => q false H' s' ⟨(fun z => nomatch z), fun z => absurd z e⟩
 obtain ⟨n1, b, ty, kb, y1, y2⟩ := th.ty
 refine ⟨_, rfl, _, _, n1, b, rfl, ty, kb, b, rfl, ?_⟩
 cases b with
 | false =>
  refine iteT (iteT (no ?_ _ SB.refl))
  rintro ⟨r, e, _⟩
  exact y2 rfl _ e
 | true =>
 refine iteF ?_
 obtain ⟨a, xs, ds, rfl, rfl, hs, ha⟩ := y1 rfl
 refine ⟨_, rfl, a, xs, rfl, .inr hs, rfl, _, rfl, ?_⟩
 have hl := TgAll.length ha
 by_cases c2 : xs.length = 2
 ·rw [show (!decide (V.int (xs.length : Nat) = V.int 2)) = false by rw [c2]; rfl]
  refine iteF ?_
  cases ha with
  | nil => simp at c2
  | cons t1 ta =>
   cases ta with
   | nil => simp at c2
   | cons t2 ta =>
    cases ta with
    | cons t3 ta => simp at c2
    | nil =>
     rename_i v1 d1 v2 d2
     obtain ⟨f1, f2, f3⟩ := hf
     have q1 : d1.depth < PyData.depth (.tuple [d1, d2]) /\ d2.depth < PyData.depth (.tuple [d1, d2]) := by simp only [PyData.depth, PyData.depthAll]; omega
     have q2 : wide d1 <= wide (.tuple [d1, d2]) /\ wide d2 <= wide (.tuple [d1, d2]) := by simp only [wide, wides]; omega
     refine ⟨_, rfl, a, _, rfl, hs, rfl, _, _, rfl, _, _, rfl, rfl, ?_⟩
     refine ⟨_, rfl, v1, d1, rfl, t1, by omega, by omega, by omega, fun H1 s1 => ?_⟩
     refine ⟨_, rfl, ?_⟩
     cases g1 : groveD d1 with
     | false =>
      refine iteT (iteT (no ?_ _ s1))
      intro z
      obtain ⟨g, k, e, z1, _⟩ := RuD_two z
      injection e with e
      injection e with e _
      rw [e, z1] at g1
      cases g1
     | true =>
     refine iteF ?_
     refine ⟨_, rfl, v2, d2, rfl, Tg_sb s1 t2, by omega, by omega, by omega, fun H2 s2 => ?_⟩
     have s02 := s1.trans s2
     refine ⟨_, rfl, ?_⟩
     cases g2 : groveD d2 with
     | false =>
      refine iteT (no ?_ _ s02)
      intro z
      obtain ⟨g, k, e, _, z1⟩ := RuD_two z
      injection e with e
      injection e with _ e
      injection e with e _
      rw [e, z1] at g2
      cases g2
     | true =>
     refine iteF ?_
     obtain ⟨u1, rfl⟩ := groveD_gr _ g1
     obtain ⟨u2, rfl⟩ := groveD_gr _ g2
     obtain ⟨w1, w2⟩ := f3 _ _ rfl u1 (.inl rfl)
     obtain ⟨w3, w4⟩ := f3 _ _ rfl u2 (.inr rfl)
     have ga1 : GA K H v1 u1 := by
      cases t1 with
      | tup h1 h2 => exact .tup h1 (Tg_ga u1 h2)
     have ga2 : GA K H v2 u2 := by
      cases t2 with
      | tup h1 h2 => exact .tup h1 (Tg_ga u2 h2)
     refine ⟨_, rfl, _, u1, rfl, ga1.sb s02, by omega, by omega, fun D1 us1 H3 s3 hn1 hD1 hb1 => ?_⟩
     refine ⟨_, rfl, _, u2, rfl, (ga2.sb s02).sb s3, by omega, by omega, fun D2 us2 H4 s4 hn2 hD2 hb2 => ?_⟩
     have l1 := hb1.length
     have l2 := hb2.length
     rw [Gr.within_length] at l1 l2
     have szl := sizeLine_eq
     refine ⟨D1, D2, us1, us2, rfl, rfl, s4.keep _ _ hD1 nmn, hD2, by omega, fun D3 hn3 => ?_⟩
     have t5 := SB.new (ps := []) hn3 (.lst (us1 ++ us2))
     have s05 := ((s02.trans s3).trans s4).trans t5
     have hD3 : upd H4 D3 (.lst (us1 ++ us2)) D3 = some (.lst (us1 ++ us2)) := upd_same
     have hb3 : Bears K (upd H4 D3 (.lst (us1 ++ us2))) Gr.pEnc (us1 ++ us2) (u1.within ++ u2.within) := Bears.append ((hb1.sb s4 Gr.noList_pEnc).sb t5 Gr.noList_pEnc) (hb2.sb t5 Gr.noList_pEnc)
     generalize upd H4 D3 (.lst (us1 ++ us2)) = H5 at t5 s05 hD3 hb3
     have iff1 := RuD_iff g1 g2
     refine ⟨_, rfl, D3, _, rfl, .inl (SqL.of hD3), _, _, rfl, rfl, _, rfl, ?_⟩
     refine ite2 (fun c => ?_) (fun c => ?_)
     ·have c1 := of_decide_eq_true c
      rw [List.length_append, l1, l2] at c1
      have bl3 := hb3.length
      refine ⟨_, rfl, D3, rfl, ⟨_, SqL.of hD3⟩, fun D hD => ?_⟩
      refine lc_seq (walk_list (xs := us1 ++ us2)) hD (by rw [List.length_append]; omega) (fun i us _ => us = ((u1.within ++ u2.within).take i).map fun p => V.bl (decide (p.2 <= 1000000000))) rfl (fun H6 s6 => s6.sqL nmn (SqL.of hD3)) (fun _ _ _ _ _ h => h) (fun Pv i x H6 H' us hi s6 y hR hl6 fin _ => ?_) (fun us H6 s6 hD6 hR _ => ?_)
      ·obtain ⟨rfl, ex⟩ := y
       obtain ⟨p, ep, hpd⟩ := hb3.get ex
       obtain ⟨ad, td, ux, rfl, hs2, hs3, hga, hdt⟩ := PA_parts hpd
       refine ⟨ad, _, rfl, s6.sqT hs2, rfl, _, _, rfl, _, _, rfl, rfl, rfl, ?_⟩
       refine ⟨_, rfl, _, _, rfl, rfl, fin _ _ SB.refl ?_⟩
       rw [hR, List.take_add_one, ep, Option.toList_some, List.map_append]; rfl
      ·rw [bl3, List.take_length] at hR
       subst hR
       refine ⟨D, ((u1.within ++ u2.within).map fun p => decide (p.2 <= 1000000000)), rfl, SqL.of (by rw [List.map_map]; exact hD6), q _ _ (s05.trans s6) ?_⟩
       rw [iff1]
       simp only [List.all_map, List.all_eq_true, Function.comp, id_eq, decide_eq_true_eq]
       exact ⟨fun h => ⟨by omega, h⟩, fun h => h.2⟩
     ·have c1 := of_decide_eq_false (Bool.eq_false_iff.mpr c)
      rw [List.length_append, l1, l2] at c1
      refine q false _ s05 ⟨(fun z => nomatch z), fun z => absurd (iff1.mp z).1 (by omega)⟩
 ·rw [show (!decide (V.int (xs.length : Nat) = V.int 2)) = true by rw [decide_eq_false (fun z => by injection z with z; omega)]; rfl]
  refine iteT (no ?_ _ SB.refl)
  rintro ⟨r, e, _⟩
  have e' : PyData.tuple ds = .tuple [r.1.enc, r.2.enc] := e
  injection e' with e'
  rw [e'] at hl
  exact c2 hl
abbrev N_is_rule_of : List Str := ["rule", "names", "once", "each", "tree", "many"]
theorem sc_is_rule_of : FnScope N_is_rule_of ["rule", "names"] (defScope s_is_rule_of) := ⟨rfl, rfl, rfl, by decide +kernel, rfl, by decide +kernel, by decide +kernel⟩
theorem ok_is_rule_of (B : BI mg) (G_pairs_within : Got P w K mg base "pairs_within" ["grove"] (70) (spPairsW K 70)) (F : Fun K "is_rule_of" "is_rule_of" s_is_rule_of f fd) : FnOk P w K mg base CX0 (71) f fd ["rule", "names"] (spIsRuleOf K) := by
 refine F.ok sc_is_rule_of (fun vs H Q E h => ?_) (fun cdv A outer s H vs Q E hr h => ?_)
 ·obtain ⟨v, l, r, ns, rfl, _⟩ := h
  rfl
 obtain ⟨v, l, r, ns, rfl, hv, ho, hs, hn, q⟩ := h
 have hun2 := hunT hr
 refine ⟨_, pss_cons (ps_asg (pv 0) (pg_tup rfl (pgs_cons (pg_name (i := 2) sc_is_rule_of.nd rfl (.inl rfl)) (pgs_cons (pg_name (i := 3) sc_is_rule_of.nd rfl (.inl rfl)) pgs_nil))))
  (pss_one (ps_ret (pe_callB (cr_all rfl) rfl B.all boot_all (pa_cons (pe_lc (own := [("tree", 4), ("many", 5)]) (g := (gTup K 2 (gCons (gName 4) (gCons (gName 5) gNil)))) (tt := tYes) (te := (tOp (rIn K false) (tOp (rIxT K) (tVar 4) (tC (.int 0))) (tVar 1))) rfl sc_is_rule_of.nd (pi_list (pe_op op_cat (pe_got G_pairs_within (hr.mono (by omega)) rfl (pa_cons (pv 2) pa_nil)) (pe_got G_pairs_within (hr.mono (by omega)) rfl (pa_cons (pv 3) pa_nil)))) (blkOk_by (N := N_is_rule_of) (sc := defScope s_is_rule_of) (by decide +kernel)) (fun _ _ _ _ _ => (pg_tup rfl (pgs_cons (pg_name (i := 4) sc_is_rule_of.nd rfl (.inl rfl)) (pgs_cons (pg_name (i := 5) sc_is_rule_of.nd rfl (.inl rfl)) pgs_nil)))) (fun _ _ _ _ _ => pts_nil) (fun _ _ _ _ _ => (pe_cmpR op_in_seq (pe_ix ix_tup (pv 4) pe_int (fun _ _ => rfl)) (pv 1) (by rfl)))) pa_nil)))), ?_⟩
 obtain ⟨ho1, ho2, ho3⟩ := ho
 cases (hv : Dp K H v (.tuple [r.1.enc, r.2.enc])) with
 | tup ht hd =>
 rename_i a xs
 cases hd with
 | cons g1 hd =>
 cases hd with
 | cons g2 hd =>
 cases hd
 have dp1 := (within_deep r.1)
 have dp2 := (within_deep r.2)
 refine ⟨_, rfl, a, _, rfl, ht, rfl, _, _, rfl, _, _, rfl, rfl, ?_⟩
 have ga1 : GA K H _ r.1 := g1
 have ga2 : GA K H _ r.2 := g2
 refine ⟨_, rfl, _, r.1, rfl, ga1, by omega, by omega, fun D1 us1 H3 s3 hn1 hD1 hb1 => ?_⟩
 refine ⟨_, rfl, _, r.2, rfl, ga2.sb s3, by omega, by omega, fun D2 us2 H4 s4 hn2 hD2 hb2 => ?_⟩
 have l1 := hb1.length
 have l2 := hb2.length
 rw [Gr.within_length] at l1 l2
 have szl := sizeLine_eq
 refine ⟨D1, D2, us1, us2, rfl, rfl, s4.keep _ _ hD1 nmn, hD2, by omega, fun D3 hn3 => ?_⟩
 have t5 := SB.new (ps := []) hn3 (.lst (us1 ++ us2))
 have s05 := (s3.trans s4).trans t5
 have hD3 : upd H4 D3 (.lst (us1 ++ us2)) D3 = some (.lst (us1 ++ us2)) := upd_same
 have hb3 : Bears K (upd H4 D3 (.lst (us1 ++ us2))) Gr.pEnc (us1 ++ us2) (r.1.within ++ r.2.within) := Bears.append ((hb1.sb s4 Gr.noList_pEnc).sb t5 Gr.noList_pEnc) (hb2.sb t5 Gr.noList_pEnc)
 generalize upd H4 D3 (.lst (us1 ++ us2)) = H5 at t5 s05 hD3 hb3
 have bl3 := hb3.length
 refine ⟨D3, rfl, ⟨_, SqL.of hD3⟩, fun D hD => ?_⟩
 refine lc_seq (walk_list (xs := us1 ++ us2)) hD (by rw [List.length_append]; omega) (fun i us _ => us = ((r.1.within ++ r.2.within).take i).map fun p => V.bl (decide (p.1.1 ∈ ns))) rfl (fun H6 s6 => s6.sqL nmn (SqL.of hD3)) (fun _ _ _ _ _ h => h) (fun Pv i x H6 H' us hi s6 y hR hl6 fin _ => ?_) (fun us H6 s6 hD6 hR _ => ?_)
 ·obtain ⟨rfl, ex⟩ := y
  obtain ⟨p, ep, hpd⟩ := hb3.get ex
  obtain ⟨ad, td, ux, rfl, hs2, hs3, hga, hdt⟩ := PA_parts hpd
  refine ⟨ad, _, rfl, s6.sqT hs2, rfl, _, _, rfl, _, _, rfl, rfl, rfl, ?_⟩
  refine ⟨_, rfl, td, _, _, _, rfl, rfl, s6.sqT hs3, atI_nat (j := 0) rfl, _, rfl, l, _, rfl, .inl ((s05.trans s6).sqL nmn hs), rfl, flat_strs _, fin _ _ SB.refl ?_⟩
  rw [hR, List.take_add_one, ep, Option.toList_some, List.map_append, inV_strs]; rfl
 ·rw [bl3, List.take_length] at hR
  subst hR
  refine ⟨D, ((r.1.within ++ r.2.within).map fun p => decide (p.1.1 ∈ ns)), rfl, SqL.of (by rw [List.map_map]; exact hD6), ?_⟩
  have := q _ (s05.trans s6)
  rw [show (List.map (fun p : Tr × Int => decide (p.1.1 ∈ ns)) (r.1.within ++ r.2.within)).all id = decide (∀ p ∈ Ru.within r, p.1.1 ∈ ns) by
   rw [Bool.eq_iff_iff]
   simp only [List.all_map, List.all_eq_true, Function.comp, id_eq, decide_eq_true_eq]
   exact Iff.rfl]
  exact this
abbrev N_tree_at : List Str := ["grove", "place", "tree", "row", "at"]
theorem sc_tree_at : FnScope N_tree_at ["grove", "place"] (defScope s_tree_at) := ⟨rfl, rfl, rfl, by decide +kernel, rfl, by decide +kernel, by decide +kernel⟩
theorem ok_tree_at {C : Addr} (B : BI mg) (O : Own K mg "NoPlace" C) (GW : Got P w K mg base "is_whole" ["thing"] 1 (spWhole K)) (F : Fun K "tree_at" "tree_at" s_tree_at f fd) : FnOk P w K mg base (L2N.CX P w) 2 f fd ["grove", "place"] (spTreeAt K C) := by
 refine F.okXN sc_tree_at (fun vs H Q E h => ?_) (fun cdv A outer s H vs Q E hr h => ?_)
 ·obtain ⟨v, g, a, xs, os, rfl, _⟩ := h
  rfl
 obtain ⟨v, g, a, xs, os, rfl, hv, hs, hw, q, qE⟩ := h
 refine ⟨_, pss_cons (ps_if (pt_not (pt_truth (pv 1) (by intro _; rfl))) (pss_one (L2N.ps_raise rfl (L2N.takes_of rfl rfl rfl rfl) (L2N.pmk_own PySem.F.excBase_ValueError O.q O.gC O.k (raises_own O.s O.t) rfl))) pss_nil)
  (pss_cons (ps_set (i := 2) sc_tree_at.nd rfl (.inl rfl) (pe_tup pa_nil))
  (pss_cons (ps_set (i := 3) sc_tree_at.nd rfl (.inl rfl) (pv 0))
  (pss_cons (ps_for (passes_of rfl) rfl (pi_tup (pv 1)) (pg_name (i := 4) sc_tree_at.nd rfl (.inl rfl))
   (pss_cons (ps_if (PW.pt (pw_or (pt_not (pt_val (pe_got GW hr rfl (pa_cons (pv 4) pa_nil)))) (pw_or1 (pt_not (pt_chain op_le op_lt pe_int (pv 4) (pe_callB call_len_seq rfl B.len PySem.boot_len (pa_cons (pv 3) pa_nil)))))))
    (pss_one (L2N.ps_raise rfl (L2N.takes_of rfl rfl rfl rfl) (L2N.pmk_own PySem.F.excBase_ValueError O.q O.gC O.k (raises_own O.s O.t) rfl))) pss_nil)
   (pss_cons (ps_set (i := 2) sc_tree_at.nd rfl (.inl rfl) (pe_ix ix_tup (pe_ix ix_tup (pv 3) (pv 4) (fun _ _ => rfl)) pe_int (fun _ _ => rfl)))
   (pss_one (ps_set (i := 3) sc_tree_at.nd rfl (.inl rfl) (pe_ix ix_tup (pv 2) pe_int (fun _ _ => rfl)))))))
  (pss_one (ps_ret (pv 2)))))), ?_⟩
 have wl := hw.length
 by_cases hnil : os = []
 ·have x0 : xs = [] := by rw [hnil] at wl; exact List.length_eq_zero_iff.mp wl
  exact ⟨_, rfl, false, .inr (.inl ⟨xs, hs, by rw [x0]; rfl⟩), iteT (qE (.inl hnil) _ SB.refl)⟩
 have x1 : xs ≠ [] := fun z => hnil (by rw [z] at wl; exact List.length_eq_zero_iff.mp wl.symm)
 refine ⟨_, rfl, true, .inr (.inl ⟨xs, hs, by cases xs with | nil => exact absurd rfl x1 | cons _ _ => rfl⟩), iteF ?_⟩
 refine ⟨(by show 0 <= sizeLine; decide), fun e0 he0 => ?_⟩
 have t0 := SB.new (ps := []) he0 (.tup [])
 have hv0 := hv.sb t0
 have hs0 := t0.sqT hs
 have hw' : Whs K (upd H e0 (.tup [])) xs os := Whs.sb t0 hw
 generalize hH0 : upd H e0 (.tup []) = H0 at t0 hv0 hs0 hw'
 refine ⟨_, rfl, _, rfl, a, rfl, ⟨xs, hs0⟩, ?_⟩
 refine for_tup (K := K) (a := a) (xs := xs) (fun i σ H2 => H2 = H0 /\ ∃ (tv rv : V) (t : Tr) (o4 : Option V), σ = [some v, some (.ref a), some tv, some rv, o4] /\ lk ("", g) (os.take i) = some t /\ GA K H0 rv t.2 /\ (i = 0 \/ Dp K H0 tv (Gr.tEnc t)))
  ⟨rfl, _, _, ("", g), none, rfl, rfl, hv0, .inl rfl⟩ (fun i σ H2 hi h2 => by rw [h2.1]; exact hs0) (fun i x σ H2 hx h2 => ?_) (fun σ H2 h2 => ?_)
 ·obtain ⟨rfl, tv, rv, t, o4, rfl, hlk, hrv, _⟩ := h2
  obtain ⟨o, eo, hwx⟩ := hw'.get hx
  have bad : stp t.2 o = none -> E (.ref C) none H2 := fun z => qE (.inr (lk_none hlk eo z)) _ t0
  rcases hwx with ⟨n, rfl, rfl⟩ | ⟨rfl, n, b1, b2, ty, k1, k2, k3⟩
  ·refine ⟨_, rfl, _, "int", true, false, rfl, .base (.int n), by decide +kernel, fun _ => by decide +kernel, true, rfl, iteF ?_⟩
   obtain ⟨c, ys, rfl, hsc, hbc⟩ := GA_bears hrv
   have yl := hbc.length
   refine ⟨_, rfl, _, _, rfl, rfl, _, rfl, ?_⟩
   by_cases h0 : 0 <= n
   ·rw [decide_eq_true h0]
    refine iteT ⟨_, rfl, c, ys, rfl, .inr hsc, _, _, rfl, rfl, _, rfl, ?_⟩
    obtain ⟨m, rfl⟩ : ∃ m : Nat, n = (m : Int) := ⟨n.toNat, by omega⟩
    by_cases h1 : m < ys.length
    ·rw [show decide ((m : Int) < (ys.length : Nat)) = true from decide_eq_true (by omega)]
     refine iteF ?_
     obtain ⟨y, hy⟩ : ∃ y, ys[m]? = some y := ⟨_, List.getElem?_eq_getElem h1⟩
     obtain ⟨p, ep, hpd⟩ := hbc.get hy
     obtain ⟨ad, bd, ux, rfl, hsx, hst, hdx, hdt⟩ := PA_parts hpd
     refine ⟨_, rfl, _, rfl, c, ys, _, _, rfl, rfl, hsc, atI_nat hy, ad, _, _, _, rfl, rfl, hsx, atI_nat (j := 0) rfl, ?_⟩
     refine ⟨_, rfl, bd, _, _, _, rfl, rfl, hst, atI_nat (j := 1) rfl, ?_⟩
     have es : stp t.2 (some (m : Int)) = some p.1 := by
      show (if 0 <= (m : Int) then (t.2.ps[(m : Int).toNat]?).map (·.1) else none) = _
      rw [if_pos h0, Int.toNat_natCast, ep]; rfl
     exact ⟨rfl, _, _, p.1, _, rfl, lk_next hlk eo es, hdx, .inr hdt⟩
    ·rw [show decide ((m : Int) < (ys.length : Nat)) = false from decide_eq_false (by omega)]
     refine iteT (bad ?_)
     show (if 0 <= (m : Int) then (t.2.ps[(m : Int).toNat]?).map (·.1) else none) = _
     rw [if_pos h0, Int.toNat_natCast, List.getElem?_eq_none (by omega)]; rfl
   ·rw [decide_eq_false h0]
    refine iteF ⟨_, rfl, iteT (bad ?_)⟩
    show (if 0 <= n then (t.2.ps[n.toNat]?).map (·.1) else none) = _
    rw [if_neg h0]
  ·refine ⟨_, rfl, _, n, b1, b2, rfl, ty, k1, k2, _, rfl, ?_⟩
   rw [k3]
   exact iteT (iteT (bad rfl))
 ·obtain ⟨rfl, tv, rv, t, o4, rfl, hlk, hrv, h3⟩ := h2
  rw [wl, List.take_length] at hlk
  refine ⟨_, rfl, q t hnil hlk _ _ t0 ?_⟩
  rcases h3 with h3 | h3
  ·exact absurd (List.length_eq_zero_iff.mp h3) x1
  ·exact h3
abbrev N_number_of : List Str := ["grove", "tree", "pair"]
theorem sc_number_of : FnScope N_number_of ["grove", "tree"] (defScope s_number_of) := ⟨rfl, rfl, rfl, by decide +kernel, rfl, by decide +kernel, by decide +kernel⟩
theorem ok_number_of (B : BI mg) (F : Fun K "number_of" "number_of" s_number_of f fd) : FnOk P w K mg base CX0 (1) f fd ["grove", "tree"] (spNumOf K) := by
 refine F.ok sc_number_of (fun vs H Q E h => ?_) (fun cdv A outer s H vs Q E hr h => ?_)
 ·obtain ⟨v, u, g, t, m, rfl, _⟩ := h
  rfl
 obtain ⟨v, u, g, t, m, rfl, hv, hu, ⟨C, go⟩, gd, gl, tm, q⟩ := h
 have hun2 := hunT hr
 refine ⟨_, pss_one (ps_ret (pe_bm PySem.F.plainAttrs_list PySem.F.slot_list_index PySem.F.type_list_index (mt_indexW (by show A.units + 3 + 196 < cLine; omega)) (pe_lc (own := [("pair", 2)]) (g := (gName 2)) (tt := tYes) (te := (tOp (rIxT K) (tVar 2) (tC (.int 0)))) rfl sc_number_of.nd (pi_tup (pv 0)) (blkOk_by (N := N_number_of) (sc := defScope s_number_of) (by decide +kernel)) (fun _ _ _ _ _ => (pg_name (i := 2) sc_number_of.nd rfl (.inl rfl))) (fun _ _ _ _ _ => pts_nil) (fun _ _ _ _ _ => (pe_ix ix_tup (pv 2) pe_int (fun _ _ => rfl)))) (pa_cons (pv 1) pa_nil))), ?_⟩
 have szl := sizeLine_eq
 obtain ⟨a, xs, rfl, hs, hb⟩ := GA_bears hv
 have xl := hb.length
 obtain ⟨n1, o1, _, _⟩ := Gr.ok_mem go tm
 have td : t.2.deep < g.deep := g.mem_deep (t, m) tm
 have hpos := Gr.pos_at go tm
 refine ⟨_, rfl, a, rfl, ⟨xs, hs⟩, fun D nD => ?_⟩
 refine lc_seqQ (walk_tup (xs := xs)) [] nD (by simp) (by omega) (fun i us H2 => Bears K H2 Gr.tEnc us ((g.ps.take i).map fun p : Tr × Int => p.1)) .nil (fun H2 s2 => s2.sqT hs) (fun i us H2 H3 s3 h => h.sb s3 Gr.noList_tEnc) (fun Pv i x Hq H2 us hi s2 y hR hu hD2 fin _ => ?_) (fun us H2 s2 hD2 hR hul => ?_)
 ·obtain ⟨rfl, ey⟩ := y
  obtain ⟨p, ep, hpd⟩ := hb.get ey
  obtain ⟨ad, bd, ux, rfl, h1, h2, h3, h4⟩ := PA_parts hpd
  refine ⟨rfl, _, rfl, ad, _, _, _, rfl, rfl, s2.sqT h1, atI_nat (j := 0) rfl, fin _ _ SB.refl ?_⟩
  rw [List.take_add_one, ep, List.map_append]
  exact hR.append (.cons (Dp_sb s2 _ _ (Gr.noList_tEnc _) h4) .nil)
 ·rw [xl, List.take_length] at hR
  have hds : DpAll K H2 us ((g.ps.map fun p : Tr × Int => p.1).map Gr.tEnc) := Bears_dp hR
  have e : ∀ i : Nat, ((g.ps.map fun p : Tr × Int => p.1).map Gr.tEnc)[i]? = (g.ps[i]?).map fun p => Gr.tEnc p.1 := fun i => by rw [List.getElem?_map, List.getElem?_map, Option.map_map]; rfl
  refine ⟨.inl ⟨rfl, _, SqL.of hD2⟩, _, rfl, D, _, Gr.tEnc t, _, Gr.pos g t, Gr.tEnc t, rfl, rfl, .lst (SqL.of hD2) hds, Dp_sb s2 _ _ (Gr.noList_tEnc _) hu, ?_, Gr.wd_t n1 o1 (by omega), ?_, ?_, fun j z' hj hz => ?_, q _ s2⟩
  ·rw [List.map_map]
   exact Gr.lay_ts fun p hp => by obtain ⟨h1, h2, _⟩ := Gr.ok_mem go hp; exact ⟨h1, h2⟩
  ·rw [e, hpos]; rfl
  ·rw [Gr.t_eqv]; simp
  ·rw [e] at hz
   obtain ⟨p, ep, rfl⟩ := Option.map_eq_some_iff.mp hz
   rw [Gr.t_eqv]
   refine decide_eq_false fun z => ?_
   have := Gr.pos_of go ep
   rw [z] at this
   omega
abbrev N_fallen : List Str := ["book", "grove", "place", "rule", "number", "kind", "held", "told", "left", "changed"]
theorem sc_fallen : FnScope N_fallen ["book", "grove", "place", "rule", "number"] (defScope s_fallen) := ⟨rfl, rfl, rfl, by decide +kernel, rfl, by decide +kernel, by decide +kernel⟩
theorem ok_fallen {C_NoPlace C_Book C_NoRule C_NoNumber C_TooGreat : Addr} (B : BI mg) (O_NoPlace : Own K mg "NoPlace" C_NoPlace) (G_check_kinds : GotXN P w K mg base "check_kinds" ["book", "grove"] (72) (spCheckKsF K C_Book)) (G_tree_at : GotXN P w K mg base "tree_at" ["grove", "place"] (2) (spTreeAt K C_NoPlace)) (G_rule_at : GotXN P w K mg base "rule_at" ["book", "kind", "rule"] (6) (spRuleAt K C_Book C_NoRule)) (G_check_number : GotXN P w K mg base "check_number" ["thing"] (2) (spChkNum K C_NoNumber)) (G_struck : Got P w K mg base "struck" ["book", "grove", "place", "fresh", "number"] (70) (spStruck K C_Book 64)) (G_grown : Got P w K mg base "grown" ["rule", "number"] (3) (spGrown K)) (G_check_bound : GotXN P w K mg base "check_bound" ["grove"] (72) (spChkBound K C_TooGreat)) (F : Fun K "fallen" "fallen" s_fallen f fd) : FnOk P w K mg base (L2N.CX P w) (74) f fd ["book", "grove", "place", "rule", "number"] (spFallen K C_Book C_NoPlace C_NoRule C_NoNumber C_TooGreat) := by
 refine F.okXN sc_fallen (fun vs H Q E h => ?_) (fun cdv A outer s H vs Q E hr h => ?_)
 ·obtain ⟨v, w, x, y, a, b, g, D, xs, os, ro, so, rfl, _⟩ := h
  rfl
 obtain ⟨v, w, x, y, a, b, g, D, xs, os, ro, so, rfl, ⟨hv, ok⟩, ⟨hw, go, gd, gp, gn⟩, ⟨ha, hos⟩, hx, hy, sb, qP, q⟩ := h
 have hun2 := hunT hr
 refine ⟨_, pss_cons (ps_expr (pe_gotSN G_check_kinds (hr.mono (by omega)) rfl (L2N.takes_of rfl rfl rfl rfl) (pa_cons (pv 0) (pa_cons (pv 1) pa_nil))))
  (pss_cons (ps_asg (pe_gotSN G_tree_at (hr.mono (by omega)) rfl (L2N.takes_of rfl rfl rfl rfl) (pa_cons (pv 1) (pa_cons (pv 2) pa_nil))) (pg_tup rfl (pgs_cons (pg_name (i := 5) sc_fallen.nd rfl (.inl rfl)) (pgs_cons (pg_name (i := 6) sc_fallen.nd rfl (.inl rfl)) pgs_nil))))
  (pss_cons (ps_if (pt_truth (pv 6) (by intro _; rfl)) (pss_one (L2N.ps_raise rfl (L2N.takes_of rfl rfl rfl rfl) (L2N.pmk_own PySem.F.excBase_ValueError O_NoPlace.q O_NoPlace.gC O_NoPlace.k (raises_own O_NoPlace.s O_NoPlace.t) rfl))) pss_nil)
  (pss_cons (ps_set (i := 7) sc_fallen.nd rfl (.inl rfl) (pe_gotSN G_rule_at (hr.mono (by omega)) rfl (L2N.takes_of rfl rfl rfl rfl) (pa_cons (pv 0) (pa_cons (pv 5) (pa_cons (pv 3) pa_nil)))))
  (pss_cons (ps_expr (pe_gotSN G_check_number (hr.mono (by omega)) rfl (L2N.takes_of rfl rfl rfl rfl) (pa_cons (pv 4) pa_nil)))
  (pss_cons (ps_asg (pe_got G_struck (hr.mono (by omega)) rfl (pa_cons (pv 0) (pa_cons (pv 1) (pa_cons (pv 2) (pa_cons (pe_got G_grown (hr.mono (by omega)) rfl (pa_cons (pv 7) (pa_cons (pv 4) pa_nil))) (pa_cons (pv 4) pa_nil)))))) (pg_tup rfl (pgs_cons (pg_name (i := 8) sc_fallen.nd rfl (.inl rfl)) (pgs_cons (pg_name (i := 9) sc_fallen.nd rfl (.inl rfl)) pgs_nil))))
  (pss_cons (ps_expr (pe_gotSN G_check_bound (hr.mono (by omega)) rfl (L2N.takes_of rfl rfl rfl rfl) (pa_cons (pv 8) pa_nil)))
  (pss_one (ps_ret (pe_tup (pa_cons (pv 8) (pa_cons (pv 9) pa_nil))))))))))), ?_⟩
 have szl := sizeLine_eq
 have b8 := ok.len
 refine ⟨_, rfl, _, rfl, v, w, b, g, rfl, hv, hw, by omega, by omega, by omega, gn, fun H1 s1 => ?_⟩
 have xsl := hos.length
 refine ⟨_, rfl, _, rfl, w, g, a, xs, os, rfl, hw.sb s1, s1.sqT ha, hos.sb s1, fun t hne hlk vt H2 s2 ht => ?_, fun hbad H2 s2 => qP (fun pl k e hb => ?_) _ (s1.trans s2)⟩
 case refine_2 =>
  have h1 := Gr.bare_lk "" hb
  rw [<- e] at h1
  rcases hbad with h | h
  ·rw [e] at h
   exact Gr.bare_ne hb (by simpa [plO] using h)
  ·rw [h] at h1; cases h1
 obtain ⟨pl, epl, hbare⟩ := Gr.lk_bare hne hlk
 cases (ht : Dp K H2 vt (.tuple [.str t.1, t.2.enc])) with
 | @tup ad us' _ hs' hda =>
 cases hda with
 | cons g1 hda =>
 cases hda with
 | cons g2 hda =>
 cases hda
 cases g1
 rename_i hd
 have hheld : GA K H2 hd t.2 := g2
 obtain ⟨ga, gs, rfl, hga, hgb⟩ := GA_bears hheld
 have gsl := hgb.length
 have s12 := s1.trans s2
 refine ⟨ad, _, rfl, hs', rfl, _, _, rfl, _, _, rfl, rfl, ?_⟩
 by_cases hnil : t.2 = .nil
 case neg =>
  have hgs : gs ≠ [] := fun z => by
   rw [z] at gsl
   cases e : t.2 with
   | nil => exact hnil e
   | cons _ _ _ _ => rw [e] at gsl; simp [Gr.ps] at gsl
  refine ⟨_, rfl, true, .inr (.inl ⟨gs, hga, by cases gs with | nil => exact absurd rfl hgs | cons _ _ => rfl⟩), iteT (qP (fun pl' k e hb => ?_) _ s12)⟩
  have h1 := Gr.bare_lk "" hb
  rw [<- e, hlk] at h1
  exact hnil (by rw [Option.some.inj h1])
 have hb := hbare hnil
 have hgs : gs = [] := by
  rw [hnil] at gsl
  exact List.length_eq_zero_iff.mp gsl
 subst hgs
 refine ⟨_, rfl, false, .inr (.inl ⟨[], hga, rfl⟩), iteF ?_⟩
 have kn := Gr.bare_named gn hb
 obtain ⟨kd, eg⟩ := Bk.get_of kn
 obtain ⟨km, _⟩ := Bk.get_some eg
 obtain ⟨_, r4, rr⟩ := ok.kd kd km
 obtain ⟨q1, q2⟩ := q pl t.1 kd epl hb eg
 refine ⟨_, rfl, _, rfl, _, rfl, v, x, b, t.1, kd, ro, rfl, hv.sb0 s12, ok, eg, hx.sb s12, fun i r er hr yv H3 s3 hyr => ?_, fun hno H3 s3 => q1 hno _ (s12.trans s3)⟩
 obtain ⟨q3, q4⟩ := q2 i r er hr
 have s13 := s12.trans s3
 refine ⟨_, rfl, y, so, rfl, hy.sb s13, fun ⟨n, en, n0⟩ H4 s4 => ?_, fun hneg H4 s4 => q3 hneg _ (s13.trans s4)⟩
 subst en
 have ey := hy.int
 subst ey
 obtain ⟨q5, q6⟩ := q4 n rfl n0
 have s14 := s13.trans s4
 have rok := rule_ok (fun r hr => (rr r hr).1) hr
 have nb := sb n rfl
 subst epl
 have exs := hos.ints
 subst exs
 refine ⟨_, rfl, _, rfl, _, rfl, _, rfl, _, rfl, yv, r, n, rfl, Dp_sb s4 _ _ (Ru.noList_enc _) hyr, rok, n0, nb, fun fv H5 s5 hf => ?_⟩
 have s15 := s14.trans s5
 have plen := Gr.bare_len hb
 have go2 := Gr.grw_ok rok n0
 have gd2 := Gr.grw_deep rok n
 have gp2 := Gr.grw_parts rok n
 refine ⟨_, rfl, v, w, fv, a, n, D, 1000000001 * n + 2000000002, b, g, Gr.grw r n, pl, t.1, rfl, ⟨hv.sb0 s15, ok⟩, ⟨hw.sb s15, go, gd, gp, gn⟩, ⟨hf, by omega, go2, gd2, gp2⟩, s15.sqT ha, hb, by omega, n0, fun tt u pt H6 s6 htt hu hpt => ?_⟩
 refine ⟨tt, _, rfl, htt, rfl, _, _, rfl, _, _, rfl, rfl, ?_⟩
 have d1 := Gr.stk_deep (b := b) (n := n) (fr := Gr.grw r n) hb
 have p1 := Gr.stk_parts (b := b) (n := n) (fr := Gr.grw r n) hb
 have p2 : pl.length * (g.parts + 1) <= 60 * 2001 := Nat.mul_le_mul (by omega) (by omega)
 have s16 := s15.trans s6
 refine ⟨_, rfl, u, _, rfl, hu, by omega, by omega, fun hin H7 s7 => ?_, fun hout H7 s7 => q5 hout _ (s16.trans s7)⟩
 refine ⟨_, rfl, _, rfl, by show 2 <= sizeLine; decide, fun T nT => ?_⟩
 have t8 := SB.new (ps := []) nT (.tup [u, pt])
 have s17 := s16.trans s7
 exact q6 hin T u pt _ (s17.trans t8) (s17.dom _ nT) (SqT.of upd_same) ((hu.sb s7).sb t8) (Dp_sb (s7.trans t8) _ _ (pl_noList _) hpt)
abbrev N_rule_at : List Str := ["book", "kind", "rule", "rows"]
theorem sc_rule_at : FnScope N_rule_at ["book", "kind", "rule"] (defScope s_rule_at) := ⟨rfl, rfl, rfl, by decide +kernel, rfl, by decide +kernel, by decide +kernel⟩
theorem ok_rule_at {C_NoRule C_Book C_NoKind : Addr} (B : BI mg) (O_NoRule : Own K mg "NoRule" C_NoRule) (G_rules_from_nought : GotXN P w K mg base "rules_from_nought" ["book", "name"] (5) (spRulesN K C_Book C_NoKind)) (G_is_whole : Got P w K mg base "is_whole" ["thing"] (1) (spWhole K)) (F : Fun K "rule_at" "rule_at" s_rule_at f fd) : FnOk P w K mg base (L2N.CX P w) (6) f fd ["book", "kind", "rule"] (spRuleAt K C_Book C_NoRule) := by
 refine F.okXN sc_rule_at (fun vs H Q E h => ?_) (fun cdv A outer s H vs Q E hr h => ?_)
 ·obtain ⟨v, x, b, k, kd, o, rfl, _⟩ := h
  rfl
 obtain ⟨v, x, b, k, kd, o, rfl, hv, ok, eg, hx, q, qE⟩ := h
 have hun2 := hunT hr
 refine ⟨_, pss_cons (ps_set (i := 3) sc_rule_at.nd rfl (.inl rfl) (pe_gotSN G_rules_from_nought (hr.mono (by omega)) rfl (L2N.takes_of rfl rfl rfl rfl) (pa_cons (pv 0) (pa_cons (pv 1) pa_nil))))
  (pss_cons (ps_if (PW.pt (pw_or (pt_not (pt_val (pe_got G_is_whole (hr.mono (by omega)) rfl (pa_cons (pv 2) pa_nil)))) (pw_or1 (pt_not (pt_chain op_le op_lt pe_int (pv 2) (pe_callB call_len_seq rfl B.len PySem.boot_len (pa_cons (pv 3) pa_nil))))))) (pss_one (L2N.ps_raise rfl (L2N.takes_of rfl rfl rfl rfl) (L2N.pmk_own PySem.F.excBase_ValueError O_NoRule.q O_NoRule.gC O_NoRule.k (raises_own O_NoRule.s O_NoRule.t) rfl))) pss_nil)
  (pss_one (ps_ret (pe_ix ix_list (pv 3) (pv 2) (fun _ _ => rfl))))), ?_⟩
 have szl := sizeLine_eq
 have r4 : ∀ k ∈ b, k.rs.length <= 4 := fun k hk => (ok.kd k hk).2.1
 have k4 := r4 kd (Bk.get_some eg).1
 refine ⟨_, rfl, _, rfl, v, b, k, rfl, hv, by have := ok.len; omega, fun k hk => by have := r4 k hk; omega, fun kd' e l us H1 s1 nl hl hb => ?_, fun z => by rw [eg] at z; cases z⟩
 rw [eg] at e
 cases e
 have ul := hb.length
 rw [List.length_cons] at ul
 rcases hx with ⟨i, rfl, rfl⟩ | ⟨rfl, n, b1, b2, ty, k1, k2, k3⟩
 ·refine ⟨_, rfl, _, "int", true, false, rfl, .base (.int i), by decide +kernel, fun _ => by decide +kernel, true, rfl, iteF ?_⟩
  refine ⟨_, rfl, _, _, rfl, rfl, _, rfl, ?_⟩
  by_cases h0 : 0 <= i
  ·rw [decide_eq_true h0]
   refine iteT ⟨_, rfl, l, us, rfl, .inl (SqL.of hl), _, _, rfl, rfl, _, rfl, ?_⟩
   obtain ⟨m, rfl⟩ : ∃ m : Nat, i = (m : Int) := ⟨i.toNat, by omega⟩
   by_cases h1 : m < us.length
   ·rw [show decide ((m : Int) < (us.length : Nat)) = true from decide_eq_true (by omega)]
    refine iteF ?_
    obtain ⟨y, hy⟩ : ∃ y, us[m]? = some y := ⟨_, List.getElem?_eq_getElem h1⟩
    obtain ⟨r, er, hr⟩ := hb.get hy
    exact ⟨_, rfl, _, rfl, l, us, _, _, rfl, rfl, SqL.of hl, atI_nat hy, q m r rfl er y H1 s1 hr⟩
   ·rw [show decide ((m : Int) < (us.length : Nat)) = false from decide_eq_false (by omega)]
    refine iteT (qE (fun j e => ?_) _ s1)
    have e : (m : Int) = (j : Int) := Option.some.inj e
    exact List.getElem?_eq_none (by rw [List.length_cons]; omega)
  ·rw [decide_eq_false h0]
   refine iteF ⟨_, rfl, iteT (qE (fun j e => ?_) _ s1)⟩
   have e : i = (j : Int) := Option.some.inj e
   omega
 ·refine ⟨_, rfl, x, n, b1, b2, rfl, TyX_sb s1 (fun _ _ => nmn) ty, k1, k2, _, rfl, ?_⟩
  rw [k3]
  exact iteT (qE (fun j e => nomatch e) _ s1)
abbrev N_check_number : List Str := ["thing"]
theorem sc_check_number : FnScope N_check_number ["thing"] (defScope s_check_number) := ⟨rfl, rfl, rfl, by decide +kernel, rfl, by decide +kernel, by decide +kernel⟩
theorem ok_check_number {C_NoNumber : Addr} (B : BI mg) (O_NoNumber : Own K mg "NoNumber" C_NoNumber) (G_is_whole : Got P w K mg base "is_whole" ["thing"] (1) (spWhole K)) (F : Fun K "check_number" "check_number" s_check_number f fd) : FnOk P w K mg base (L2N.CX P w) (2) f fd ["thing"] (spChkNum K C_NoNumber) := by
 refine F.okXN sc_check_number (fun vs H Q E h => ?_) (fun cdv A outer s H vs Q E hr h => ?_)
 ·obtain ⟨v, o, rfl, _⟩ := h
  rfl
 obtain ⟨v, o, rfl, hv, q1, q2⟩ := h
 have hun2 := hunT hr
 refine ⟨_, pss_one (ps_if (PW.pt (pw_or (pt_not (pt_val (pe_got G_is_whole (hr.mono (by omega)) rfl (pa_cons (pv 0) pa_nil)))) (pw_or1 (pt_cmpR op_lt (pv 0) pe_int (nomark _))))) (pss_one (L2N.ps_raise rfl (L2N.takes_of rfl rfl rfl rfl) (L2N.pmk_own PySem.F.excBase_ValueError O_NoNumber.q O_NoNumber.gC O_NoNumber.k (raises_own O_NoNumber.s O_NoNumber.t) rfl))) pss_nil), ?_⟩
 rcases hv with ⟨i, rfl, rfl⟩ | ⟨rfl, n, b1, b2, ty, k1, k2, k3⟩
 ·refine ⟨_, rfl, _, "int", true, false, rfl, .base (.int i), by decide +kernel, fun _ => by decide +kernel, true, rfl, iteF ?_⟩
  refine ⟨_, rfl, _, _, rfl, rfl, _, rfl, ?_⟩
  by_cases h : i < 0
  ·rw [decide_eq_true h]
   exact iteT (q2 (fun n e => by cases e; exact h) _ SB.refl)
  ·rw [decide_eq_false h]
   exact iteF (q1 ⟨i, rfl, by omega⟩ _ SB.refl)
 ·refine ⟨_, rfl, _, n, b1, b2, rfl, ty, k1, k2, _, rfl, ?_⟩
  rw [k3]
  exact iteT (q2 (fun n e => nomatch e) _ SB.refl)
abbrev N_check_bound : List Str := ["grove"]
theorem sc_check_bound : FnScope N_check_bound ["grove"] (defScope s_check_bound) := ⟨rfl, rfl, rfl, by decide +kernel, rfl, by decide +kernel, by decide +kernel⟩
theorem ok_check_bound {C_TooGreat : Addr} (B : BI mg) (O_TooGreat : Own K mg "TooGreat" C_TooGreat) (L_MOST_PARTS_STANDING : ∃ t, mg "MOST_PARTS_STANDING" = some (.int (2000) t)) (L_MOST_DEEP_STANDING : ∃ t, mg "MOST_DEEP_STANDING" = some (.int (60) t)) (G_parts_of : Got P w K mg base "parts_of" ["grove"] (71) (spPartsOf K 70)) (G_deep_of : Got P w K mg base "deep_of" ["grove"] (70) (spDeepOf K 70)) (F : Fun K "check_bound" "check_bound" s_check_bound f fd) : FnOk P w K mg base (L2N.CX P w) (72) f fd ["grove"] (spChkBound K C_TooGreat) := by
 refine F.okXN sc_check_bound (fun vs H Q E h => ?_) (fun cdv A outer s H vs Q E hr h => ?_)
 ·obtain ⟨v, g, rfl, _⟩ := h
  rfl
 obtain ⟨v, g, rfl, hv, gd, gp, q, qE⟩ := h
 obtain ⟨tk_MOST_PARTS_STANDING, h_MOST_PARTS_STANDING⟩ := L_MOST_PARTS_STANDING
 obtain ⟨tk_MOST_DEEP_STANDING, h_MOST_DEEP_STANDING⟩ := L_MOST_DEEP_STANDING
 have hun2 := hunT hr
 refine ⟨_, pss_one (ps_if (PW.pt (pw_or (pt_cmpR op_gt (pe_got G_parts_of (hr.mono (by omega)) rfl (pa_cons (pv 0) pa_nil)) (pe_glob (v := .int (2000)) rfl h_MOST_PARTS_STANDING ⟨_, rfl⟩) (nomark _)) (pw_or1 (pt_cmpR op_gt (pe_got G_deep_of (hr.mono (by omega)) rfl (pa_cons (pv 0) pa_nil)) (pe_glob (v := .int (60)) rfl h_MOST_DEEP_STANDING ⟨_, rfl⟩) (nomark _))))) (pss_one (L2N.ps_raise rfl (L2N.takes_of rfl rfl rfl rfl) (L2N.pmk_own PySem.F.excBase_ValueError O_TooGreat.q O_TooGreat.gC O_TooGreat.k (raises_own O_TooGreat.s O_TooGreat.t) rfl))) pss_nil), ?_⟩
 refine ⟨_, rfl, v, g, rfl, hv, by omega, gp, fun H1 s1 => ?_⟩
 refine ⟨_, _, rfl, rfl, _, rfl, ?_⟩
 by_cases h1 : g.parts <= 2000
 ·rw [show decide ((2000 : Int) < (g.parts : Nat)) = false from decide_eq_false (by omega)]
  refine iteF ⟨_, rfl, v, g, rfl, hv.sb s1, by omega, gp, fun H2 s2 => ?_⟩
  refine ⟨_, _, rfl, rfl, _, rfl, ?_⟩
  by_cases h2 : g.deep <= 60
  ·rw [show decide ((60 : Int) < (g.deep : Nat)) = false from decide_eq_false (by omega)]
   exact iteF (q ⟨h1, h2⟩ _ (s1.trans s2))
  ·rw [show decide ((60 : Int) < (g.deep : Nat)) = true from decide_eq_true (by omega)]
   exact iteT (qE (fun z => h2 z.2) _ (s1.trans s2))
 ·rw [show decide ((2000 : Int) < (g.parts : Nat)) = true from decide_eq_true (by omega)]
  exact iteT (qE (fun z => h1 z.1) _ s1)
abbrev N_grown : List Str := ["rule", "number", "once", "each"]
theorem sc_grown : FnScope N_grown ["rule", "number"] (defScope s_grown) := ⟨rfl, rfl, rfl, by decide +kernel, rfl, by decide +kernel, by decide +kernel⟩
theorem ok_grown (B : BI mg) (G_together : Got P w K mg base "together" ["one", "other"] (2) (spTogetherF K)) (G_times : Got P w K mg base "times" ["grove", "many"] (1) (spTimes K)) (F : Fun K "grown" "grown" s_grown f fd) : FnOk P w K mg base CX0 (3) f fd ["rule", "number"] (spGrown K) := by
 refine F.ok sc_grown (fun vs H Q E h => ?_) (fun cdv A outer s H vs Q E hr h => ?_)
 ·obtain ⟨v, r, n, rfl, _⟩ := h
  rfl
 obtain ⟨v, r, n, rfl, hv, ok, n0, nb, q⟩ := h
 have hun2 := hunT hr
 refine ⟨_, pss_cons (ps_asg (pv 0) (pg_tup rfl (pgs_cons (pg_name (i := 2) sc_grown.nd rfl (.inl rfl)) (pgs_cons (pg_name (i := 3) sc_grown.nd rfl (.inl rfl)) pgs_nil))))
  (pss_one (ps_ret (pe_got G_together (hr.mono (by omega)) rfl (pa_cons (pv 2) (pa_cons (pe_got G_times (hr.mono (by omega)) rfl (pa_cons (pv 3) (pa_cons (pv 1) pa_nil))) pa_nil))))), ?_⟩
 have szl := sizeLine_eq
 cases (hv : Dp K H v (.tuple [r.1.enc, r.2.enc])) with
 | @tup ad us' _ hs' hda =>
 cases hda with
 | cons g1 hda =>
 cases hda with
 | cons g2 hda =>
 cases hda
 rename_i v1 v2
 have h1 : GA K H v1 r.1 := g1
 have h2 : GA K H v2 r.2 := g2
 obtain ⟨o1, o2, pp⟩ := ok
 have d1 := Gr.deep_parts r.1
 have d2 := Gr.deep_parts r.2
 have l1 := r.1.len_parts
 have l2 := r.2.len_parts
 refine ⟨_, rfl, ad, _, rfl, hs', rfl, _, _, rfl, _, _, rfl, rfl, ?_⟩
 refine ⟨_, rfl, _, rfl, _, rfl, v2, r.2, n, rfl, h2, by omega, fun p hp => ?_, n0, ?_, fun x H2 s2 hx => ?_⟩
 ·obtain ⟨_, _, a, c⟩ := Gr.ok_mem o2 hp
  exact ⟨by omega, Int.lt_of_lt_of_le c (by decide +kernel)⟩
 ·exact Int.lt_of_lt_of_le nb (by decide +kernel)
 have hm := Gr.tms_ok o2 (by omega) n0
 have e1 := Gr.tms_len r.2 n
 have e2 := Gr.tms_deep r.2 n
 have le := Int.mul_nonneg (show (0 : Int) <= 1000000001 by omega) n0
 exact ⟨_, _, r.1, Gr.tmsG r.2 n, rfl, h1.sb s2, hx, ⟨_, o1.mono (C := 1000000001 * n + 1000000001) (by omega), hm⟩, by omega, by omega, by omega, by omega, fun y H3 s3 hy => q y H3 (s2.trans s3) hy⟩
abbrev N_further_ones : List Str := ["book", "kind", "number"]
theorem sc_further_ones : FnScope N_further_ones ["book", "kind", "number"] (defScope s_further_ones) := ⟨rfl, rfl, rfl, by decide +kernel, rfl, by decide +kernel, by decide +kernel⟩
theorem ok_further_ones {C_Book C_NoKind : Addr} (B : BI mg) (G_Book_spreads : GotMXN P w K mg base C_Book "spreads" ["self", "name"] (4) (spBSpreads K C_Book C_NoKind)) (F : Fun K "further_ones" "further_ones" s_further_ones f fd) : FnOk P w K mg base CX0 (5) f fd ["book", "kind", "number"] (spFar K C_Book) := by
 refine F.ok sc_further_ones (fun vs H Q E h => ?_) (fun cdv A outer s H vs Q E hr h => ?_)
 ·obtain ⟨v, b, k, n, rfl, _⟩ := h
  rfl
 obtain ⟨v, b, k, n, rfl, hv, bl, hk, q⟩ := h
 have hun2 := hunT hr
 refine ⟨_, pss_cons (ps_if (pt_val (pe_gotMXN G_Book_spreads (hr.mono (by omega)) (pv 0) (pa_cons (pv 1) pa_nil))) (pss_one (ps_ret (pv 2))) pss_nil)
  (pss_one (ps_ret pe_int)), ?_⟩
 obtain ⟨kd, eg⟩ := Bk.get_of hk
 obtain ⟨va, vdx, vd1, vd2, rfl, hva⟩ := hv.at
 refine ⟨_, rfl, va, vdx, _, rfl, hva, rfl, _, rfl, _, b, k, rfl, hv, bl, fun kd' e H1 s1 => ?_, fun z => by rw [eg] at z; cases z⟩
 have hq := q H1 s1
 unfold Bk.far at hq
 rw [e] at hq
 dsimp only at hq
 refine ⟨_, rfl, ?_⟩
 cases hw : kd'.w with
 | true => rw [hw, if_pos rfl] at hq; exact iteT ⟨_, rfl, hq⟩
 | false => rw [hw, if_neg (by decide)] at hq; exact iteF hq
abbrev N_struck : List Str := ["book", "grove", "place", "fresh", "number", "tree", "left", "kind", "held", "inner", "path", "changed", "row"]
theorem sc_struck : FnScope N_struck ["book", "grove", "place", "fresh", "number"] (defScope s_struck) := ⟨rfl, rfl, rfl, by decide +kernel, rfl, by decide +kernel, by decide +kernel⟩
theorem none_struck {C_Book : Addr} {ps : List Str} {k : Nat} : FnOk P w K mg base CX0 k f fd ps (spStruck K C_Book 0) := none_sp fun vs H Q E ⟨v, w, fv, a, n, D, F, b, g, fr, pl, k, _, _, _, _, _, _, h, _⟩ => by omega
theorem ok_struck {m : Nat} {C_Book : Addr} (B : BI mg) (G_without : Got P w K mg base "without" ["grove", "tree", "many"] (1) (spWithout K)) (G_together : Got P w K mg base "together" ["one", "other"] (2) (spTogetherF K)) (G_struck : Got P w K mg base "struck" ["book", "grove", "place", "fresh", "number"] (m + 6) (spStruck K C_Book m)) (G_further_ones : Got P w K mg base "further_ones" ["book", "kind", "number"] (5) (spFar K C_Book)) (G_number_of : Got P w K mg base "number_of" ["grove", "tree"] (1) (spNumOf K)) (F : Fun K "struck" "struck" s_struck f fd) : FnOk P w K mg base CX0 (m + 7) f fd ["book", "grove", "place", "fresh", "number"] (spStruck K C_Book (m + 1)) := by
 refine F.ok sc_struck (fun vs H Q E h => ?_) (fun cdv A outer s H vs Q E hr h => ?_)
 ·obtain ⟨v, w, fv, a, n, D, F, b, g, fr, pl, k, rfl, _⟩ := h
  rfl
 obtain ⟨v, w, fv, a, n, D, F, b, g, fr, pl, k, rfl, ⟨hv, ok⟩, ⟨hw, go, gd, gp, gn⟩, ⟨hf, F1, fo, fd4, fp4⟩, hpl, hb, hm, n0, q⟩ := h
 have hun2 := hunT hr
 refine ⟨_, pss_cons (ps_set (i := 5) sc_struck.nd rfl (.inl rfl) (pe_ix ix_tup (pe_ix ix_tup (pv 1) (pe_ix ix_tup (pv 2) pe_int (fun _ _ => rfl)) (fun _ _ => rfl)) pe_int (fun _ _ => rfl)))
  (pss_cons (ps_set (i := 6) sc_struck.nd rfl (.inl rfl) (pe_got G_without (hr.mono (by omega)) rfl (pa_cons (pv 1) (pa_cons (pv 5) (pa_cons pe_int pa_nil)))))
  (pss_cons (ps_if (pt_cmpR op_eq (pe_callB call_len_seq rfl B.len PySem.boot_len (pa_cons (pv 2) pa_nil)) pe_int (nomark _)) (pss_one (ps_ret (pe_tup (pa_cons (pe_got G_together (hr.mono (by omega)) rfl (pa_cons (pv 6) (pa_cons (pv 3) pa_nil))) (pa_cons (pe_tup pa_nil) pa_nil))))) pss_nil)
  (pss_cons (ps_asg (pv 5) (pg_tup rfl (pgs_cons (pg_name (i := 7) sc_struck.nd rfl (.inl rfl)) (pgs_cons (pg_name (i := 8) sc_struck.nd rfl (.inl rfl)) pgs_nil))))
  (pss_cons (ps_asg (pe_got G_struck (hr.mono (by omega)) rfl (pa_cons (pv 0) (pa_cons (pv 8) (pa_cons (pe_slice sl_tupB (pv 2) (po_some pe_int) po_none) (pa_cons (pv 3) (pa_cons (pv 4) pa_nil)))))) (pg_tup rfl (pgs_cons (pg_name (i := 9) sc_struck.nd rfl (.inl rfl)) (pgs_cons (pg_name (i := 10) sc_struck.nd rfl (.inl rfl)) pgs_nil))))
  (pss_cons (ps_set (i := 11) sc_struck.nd rfl (.inl rfl) (pe_tup (pa_cons (pv 7) (pa_cons (pv 9) pa_nil))))
  (pss_cons (ps_set (i := 12) sc_struck.nd rfl (.inl rfl) (pe_got G_together (hr.mono (by omega)) rfl (pa_cons (pv 6) (pa_cons (pe_tup (pa_cons (pe_tup (pa_cons (pv 11) (pa_cons (pe_op op_add pe_int (pe_got G_further_ones (hr.mono (by omega)) rfl (pa_cons (pv 0) (pa_cons (pv 7) (pa_cons (pv 4) pa_nil))))) pa_nil))) pa_nil)) pa_nil))))
  (pss_one (ps_ret (pe_tup (pa_cons (pv 12) (pa_cons (pe_op op_catB (pe_tup (pa_cons (pe_got G_number_of (hr.mono (by omega)) rfl (pa_cons (pv 12) (pa_cons (pv 11) pa_nil))) pa_nil)) (pv 10)) pa_nil))))))))))), ?_⟩
 have szl := sizeLine_eq
 have b8 := ok.len
 obtain ⟨i, r, rfl⟩ : ∃ i r, pl = i :: r := by
  cases pl with
  | nil => exact absurd hb (by intro z; cases z)
  | cons i r => exact ⟨i, r, rfl⟩
 obtain ⟨ga, gs, rfl, hga, hgb⟩ := GA_bears hw
 have gl := hgb.length
 have glp := g.len_parts
 obtain ⟨p, ep⟩ : ∃ p, g.ps[i]? = some p := by
  by_cases hr : r = []
  ·subst hr
   obtain ⟨p, e, _⟩ := Gr.bare_one hb
   exact ⟨p, e⟩
  ·obtain ⟨p, e, _⟩ := Gr.bare_more hr hb
   exact ⟨p, e⟩
 have pm := List.mem_of_getElem? ep
 obtain ⟨n1, o1, _, _⟩ := Gr.ok_mem go pm
 have pd := g.mem_deep p pm
 have pp := g.mem_parts p pm
 obtain ⟨vp, evp, hpd⟩ := hgb.at ep
 obtain ⟨ad, bd, ux, rfl, h1, h2, h3, h4⟩ := PA_parts hpd
 have plen := Gr.bare_len hb
 have hC := Gr.C_pos go pm
 have w1 := Gr.wo_ok go (t := p.1) (m := 1) (by omega)
 have w2 := Gr.wo_deep g p.1 1
 have w3 := Gr.wo_len g p.1 1
 have frl := fr.len_parts
 refine ⟨_, rfl, _, rfl, a, _, _, _, rfl, rfl, hpl, atI_nat (j := 0) rfl, ga, gs, _, _, rfl, rfl, hga, atI_nat evp, ad, _, _, _, rfl, rfl, h1, atI_nat (j := 0) rfl, ?_⟩
 refine ⟨_, rfl, _, rfl, _, _, g, p.1, 1, rfl, hw, h4, ⟨D, go, o1⟩, n1, by omega, by omega, by omega, fun left H1 s1 hleft => ?_⟩
 have hpl1 := s1.sqT hpl
 refine ⟨_, rfl, a, _, rfl, .inr hpl1, rfl, _, rfl, ?_⟩
 by_cases hr : r = []
 ·subst hr
  refine iteT ⟨_, rfl, _, rfl, left, fv, Gr.wo g p.1 1, fr, rfl, hleft, hf.sb s1, ⟨D + F, w1.mono (by omega), fo.mono (by omega)⟩, by omega, by omega, by omega, by omega, fun x H2 s2 hx => ?_⟩
  refine ⟨by show 0 <= sizeLine; decide, fun T nT => ?_⟩
  have t3 := SB.new (ps := []) nT (.tup [])
  have hT : SqT K (upd H2 T (.tup [])) T [] := SqT.of upd_same
  generalize upd H2 T (.tup []) = H3 at t3 hT
  refine ⟨by show 2 <= sizeLine; decide, fun T2 nT2 => ?_⟩
  have t4 := SB.new (ps := []) nT2 (.tup [x, .ref T])
  refine q T2 x (.ref T) _ (((s1.trans s2).trans t3).trans t4) (SqT.of upd_same) ?_ ?_
  ·rw [Gr.stk_one ep]; exact hx.sb (t3.trans t4)
  ·rw [Gr.stk_one ep]; exact PL_of (p := []) (t4.sqT hT)
 have hlen : decide (V.int (((i :: r).map fun n : Nat => V.int (n : Int)).length : Nat) = V.int 1) = false := by
  have := List.length_pos_iff.mpr hr
  simp only [List.length_map, List.length_cons, V.int.injEq]
  exact decide_eq_false (by omega)
 rw [hlen]
 obtain ⟨p', ep', hb2⟩ := Gr.bare_more hr hb
 have e := ep.symm.trans ep'
 cases e
 obtain ⟨kn, pn⟩ := Gr.named_iff.mp gn p pm
 refine iteF ⟨_, rfl, bd, _, rfl, s1.sqT h2, rfl, _, _, rfl, _, _, rfl, rfl, ?_⟩
 refine ⟨_, rfl, _, rfl, _, rfl, _, rfl, a, _, rfl, hpl1, fun c H2 s2 hc => ?_⟩
 rw [cut1, List.map_cons, List.drop_succ_cons, List.drop_zero] at hc
 have s02 := s1.trans s2
 rw [List.length_cons] at hm plen
 refine ⟨_, rfl, _, rfl, v, ux, fv, c, n, D, F, b, p.1.2, fr, r, k, rfl, ⟨hv.sb0 s02, ok⟩, ⟨h3.sb s02, o1, by omega, by omega, pn⟩, ⟨hf.sb s02, F1, fo, fd4, fp4⟩, hc, hb2, by omega, n0, fun t u pt H3 s3 ht hu hq => ?_⟩
 obtain ⟨pa, rfl, hpa⟩ := PL_ints hq
 refine ⟨t, _, rfl, ht, rfl, _, _, rfl, _, _, rfl, rfl, ?_⟩
 refine ⟨_, rfl, _, rfl, by show 2 <= sizeLine; decide, fun T nT => ?_⟩
 have t4 := SB.new (ps := []) nT (.tup [.str p.1.1, u])
 have hT : SqT K (upd H3 T (.tup [.str p.1.1, u])) T [.str p.1.1, u] := SqT.of upd_same
 generalize upd H3 T (.tup [.str p.1.1, u]) = H4 at t4 hT
 have hch : Dp K H4 (.ref T) (Gr.tEnc (Gr.chg b n fr r p)) := .tup hT (.cons (.str _) (.cons (hu.sb t4) .nil))
 have s34 := s3.trans t4
 have s04 := s02.trans s34
 refine ⟨_, rfl, _, rfl, _, rfl, _, rfl, _, rfl, v, b, p.1.1, n, rfl, hv.sb0 s04, by omega, kn, fun H5 s5 => ?_⟩
 refine ⟨_, _, rfl, rfl, by show 2 <= sizeLine; decide, fun T2 nT2 => ?_⟩
 have t6 := SB.new (ps := []) nT2 (.tup [.ref T, .int (1 + b.far p.1.1 n)])
 have hT2 : SqT K (upd H5 T2 (.tup [.ref T, .int (1 + b.far p.1.1 n)])) T2 [.ref T, .int (1 + b.far p.1.1 n)] := SqT.of upd_same
 generalize upd H5 T2 (.tup [.ref T, .int (1 + b.far p.1.1 n)]) = H6 at t6 hT2
 refine ⟨by show 1 <= sizeLine; decide, fun T3 nT3 => ?_⟩
 have t7 := SB.new (ps := []) nT3 (.tup [.ref T2])
 have hT3 : SqT K (upd H6 T3 (.tup [.ref T2])) T3 [.ref T2] := SqT.of upd_same
 generalize upd H6 T3 (.tup [.ref T2]) = H7 at t7 hT3
 have s57 := (s5.trans t6).trans t7
 have hone : GA K H7 (.ref T3) (Gr.one (Gr.chg b n fr r p) (1 + b.far p.1.1 n)) := Bears_ga (bs := [(Gr.chg b n fr r p, 1 + b.far p.1.1 n)]) hT3 (.cons (pair_mk (t7.sqT hT2) (Dp_sb s57 _ _ (Gr.noList_tEnc _) hch)) .nil)
 obtain ⟨f0, f1⟩ := Bk.far_le b p.1.1 n0
 have io := Gr.stk_ok (b := b) n0 F1 fo o1 hb2
 have id := Gr.stk_deep (b := b) (n := n) (fr := fr) hb2
 have il := Gr.bare_len hb2
 have cd : (Gr.one (Gr.chg b n fr r p) (1 + b.far p.1.1 n)).deep <= 63 := by
  show max (1 + (Gr.stk b n fr r p.1.2).1.deep) 0 <= 63
  omega
 have hso : (Gr.one (Gr.chg b n fr r p) (1 + b.far p.1.1 n)).Ok (D + F + n + 2) := Gr.one_ok (t := Gr.chg b n fr r p) n1 io (by omega) (by omega)
 refine ⟨left, .ref T3, Gr.wo g p.1 1, Gr.one (Gr.chg b n fr r p) (1 + b.far p.1.1 n), rfl, ((hleft.sb s2).sb s34).sb s57, hone, ⟨_, w1.mono (by omega), hso⟩, by omega, cd, by omega, by rw [Gr.one_ps]; simp, fun row H8 s8 hrow => ?_⟩
 obtain ⟨⟨D2, ro⟩, m2, rm⟩ := Gr.chR_mem (b := b) n0 F1 fo go hr ep hb
 have rd : (Gr.chR b n fr r g p).deep <= 63 := Gr.tgt_deep (by omega) cd
 have rl : (Gr.chR b n fr r g p).ps.length <= 5000 := by
  have h1 := jn_length (srtE (pairE Gr.tEnc) ((Gr.wo g p.1 1).ps ++ (Gr.one (Gr.chg b n fr r p) (1 + b.far p.1.1 n)).ps))
  rw [(srtE_perm _).length_eq, List.length_append, Gr.one_ps] at h1
  show (Gr.tgt _ _).ps.length <= _
  rw [Gr.tgt_ps, Gr.one_ps]
  unfold tdy
  simp only [List.length_cons, List.length_nil] at h1
  omega
 refine ⟨_, rfl, _, rfl, _, rfl, row, .ref T, Gr.chR b n fr r g p, Gr.chg b n fr r p, m2, rfl, hrow, Dp_sb (s57.trans s8) _ _ (Gr.noList_tEnc _) hch, ⟨D2, ro⟩, rd, rl, rm, fun H9 s9 => ?_⟩
 refine ⟨by show 1 <= sizeLine; decide, fun T4 nT4 => ?_⟩
 have t10 := SB.new (ps := []) nT4 (.tup [.int (Gr.pos (Gr.chR b n fr r g p) (Gr.chg b n fr r p) : Nat)])
 have hT4 : SqT K (upd H9 T4 (.tup [.int (Gr.pos (Gr.chR b n fr r g p) (Gr.chg b n fr r p) : Nat)])) T4 [.int (Gr.pos (Gr.chR b n fr r g p) (Gr.chg b n fr r p) : Nat)] := SqT.of upd_same
 generalize upd H9 T4 (.tup [.int (Gr.pos (Gr.chR b n fr r g p) (Gr.chg b n fr r p) : Nat)]) = H10 at t10 hT4
 have s4A := ((s57.trans s8).trans s9).trans t10
 have pl2 := Gr.stk_plen (b := b) (n := n) (fr := fr) hb2
 refine ⟨_, rfl, T4, pa, _, _, rfl, rfl, hT4, (t4.trans s4A).sqT hpa, by rw [List.length_map]; simp only [List.length_cons, List.length_nil]; omega, fun c2 H11 s11 hc2 => ?_⟩
 refine ⟨by show 2 <= sizeLine; decide, fun T5 nT5 => ?_⟩
 have t12 := SB.new (ps := []) nT5 (.tup [row, .ref c2])
 refine q T5 row (.ref c2) _ (((s04.trans s4A).trans s11).trans t12) (SqT.of upd_same) ?_ ?_
 ·rw [Gr.stk_more ep hr]
  exact ((((hrow.sb s9).sb t10).sb s11).sb t12)
 ·rw [Gr.stk_more ep hr]
  exact PL_of (t12.sqT hc2)
abbrev N__law_purse : List Str := ["_law_script", "_law_k", "_law_cell", "_law_left", "_law_mixed"]
theorem sc__law_purse : FnScope N__law_purse ["_law_script", "_law_k"] (defScope s__law_purse) := ⟨rfl, rfl, rfl, by decide +kernel, rfl, by decide +kernel, by decide +kernel⟩
theorem ok__law_purse (B : BI mg) (F : Fun K "_law_purse" "_law_purse" s__law_purse f fd) : FnOk P w K mg base CX0 (1) f fd ["_law_script", "_law_k"] (spPurseW K) := by
 refine F.ok sc__law_purse (fun vs H Q E h => ?_) (fun cdv A outer s H vs Q E hr h => ?_)
 ·obtain ⟨a, ns, k, rfl, _⟩ := h
  rfl
 obtain ⟨a, ns, k, rfl, hs, h63, hk, q⟩ := h
 have hun2 := hunT hr
 refine ⟨_, pss_cons (ps_set (i := 2) sc__law_purse.nd rfl (.inl rfl) pe_int)
  (pss_cons (ps_if (pt_cmpR op_gt (pe_callB call_len_seq rfl B.len PySem.boot_len (pa_cons (pv 0) pa_nil)) pe_int (nomark _)) (pss_one (ps_set (i := 2) sc__law_purse.nd rfl (.inl rfl) (pe_op op_mod (pe_ix ix_list (pv 0) (pe_op op_mod (pv 1) (pe_callB call_len_seq rfl B.len PySem.boot_len (pa_cons (pv 0) pa_nil))) (fun _ _ => rfl)) (pe_op op_powW (pe_op op_pow pe_int pe_int) pe_int)))) pss_nil)
  (pss_cons (ps_set (i := 3) sc__law_purse.nd rfl (.inl rfl) pe_int)
  (pss_cons (ps_if (PW.pt (pw_and (pt_cmpR op_lt (pv 1) (pe_callB call_len_seq rfl B.len PySem.boot_len (pa_cons (pv 0) pa_nil)) (nomark _)) (pw_and1 (pt_cmpR op_ge (pv 2) (pe_op op_pow pe_int pe_int) (nomark _))))) (pss_one (ps_set (i := 3) sc__law_purse.nd rfl (.inl rfl) (pv 2))) pss_nil)
  (pss_cons (ps_set (i := 4) sc__law_purse.nd rfl (.inl rfl) (pe_op op_add (pe_op op_add (pe_op op_add (pe_op op_mul (pe_op op_mod (pv 2) pe_int) pe_int) (pe_op op_mul (pe_op op_mul pe_int (pv 1)) (pv 1))) (pe_op op_mul pe_int (pv 1))) pe_int))
  (pss_one (ps_ret (pe_lst (pa_cons (pv 3) (pa_cons (pe_op op_mod (pv 4) pe_int) pa_nil))))))))), ?_⟩
 have kk : (k : Int) * k <= 1000 * 1000 := Int.mul_le_mul (by omega) (by omega) (by omega) (by decide)
 have kk0 : 0 <= (k : Int) * k := Int.mul_nonneg (by omega) (by omega)
 refine nameI (seq_via (fun σ' H' => H' = H /\ ∃ c : Int, 0 <= c /\ σ' = [some (.ref a), some (.int (k : Int)), some (.int c), none, none]) (fun nx hnx => ?_) (fun σ' H' h => ?_))
 ·refine ⟨_, rfl, a, _, rfl, .inl hs, _, _, rfl, rfl, _, rfl, ?_⟩
  by_cases h : 0 < ns.length
  ·rw [show decide ((0 : Int) < (((ns.map V.int).length : Nat) : Int)) = true from decide_eq_true (by rw [List.length_map]; omega)]
   refine iteT ?_
   have hm : k % ns.length < ns.length := Nat.mod_lt _ h
   have ei : ((k : Int) % (((ns.map V.int).length : Nat) : Int)) = ((k % ns.length : Nat) : Int) := by rw [List.length_map]; rfl
   refine ⟨_, rfl, _, rfl, _, rfl, a, _, rfl, .inl hs, _, _, rfl, rfl, by show (0 : Int) < (((ns.map V.int).length : Nat) : Int); rw [List.length_map]; omega, a, _, _, .int ns[k % ns.length], rfl, rfl, hs, ?_, ?_⟩
   ·show atI (ns.map V.int) ((k : Int) % (((ns.map V.int).length : Nat) : Int)) = _
    rw [ei]
    exact atI_nat (by rw [List.getElem?_map, List.getElem?_eq_getElem hm]; rfl)
   refine ⟨_, _, rfl, rfl, ⟨by decide, by decide, by decide⟩, _, _, rfl, rfl, ⟨by decide, by decide, by decide⟩, _, _, rfl, rfl, (by show (0 : Int) < (10 ^ 64) ^ 14; decide), hnx _ _ ⟨rfl, _, Int.emod_nonneg _ (by decide), rfl⟩⟩
  ·rw [show decide ((0 : Int) < (((ns.map V.int).length : Nat) : Int)) = false from decide_eq_false (by rw [List.length_map]; omega)]
   exact iteF (hnx _ _ ⟨rfl, 0, by omega, rfl⟩)
 obtain ⟨rfl, c, c0, rfl⟩ := h
 refine nameI (seq_via (fun σ' H2 => H2 = H' /\ ∃ d : Int, 0 <= d /\ σ' = [some (.ref a), some (.int (k : Int)), some (.int c), some (.int d), none]) (fun nx hnx => ?_) (fun σ' H2 h => ?_))
 ·refine ⟨_, rfl, _, rfl, a, _, rfl, .inl hs, _, _, rfl, rfl, _, rfl, ?_⟩
  refine ite2 (fun _ => ?_) (fun _ => ?_)
  ·refine ⟨_, rfl, _, _, rfl, rfl, ⟨by decide, by decide, by decide⟩, _, _, rfl, rfl, _, rfl, ?_⟩
   refine ite2 (fun _ => ⟨_, rfl, hnx _ _ ⟨rfl, c, c0, rfl⟩⟩) (fun _ => hnx _ _ ⟨rfl, 0, by omega, rfl⟩)
  ·exact hnx _ _ ⟨rfl, 0, by omega, rfl⟩
 obtain ⟨rfl, d, d0, rfl⟩ := h
 refine ⟨_, rfl, _, _, rfl, rfl, (by show (0 : Int) < 2147483647; decide), _, _, rfl, rfl, .inr ⟨by decide, by decide⟩, _, rfl, _, _, rfl, rfl, .inl ⟨by decide, by decide⟩, _, rfl, _, _, rfl, rfl, .inl ⟨?_, ?_⟩, _, _, rfl, rfl, _, rfl, _, _, rfl, rfl, .inl ⟨by decide, by decide⟩, _, _, rfl, rfl, _, _, rfl, rfl, ?_⟩
 ·show (-(2 ^ 64) : Int) < 7919 * (k : Int); omega
 ·show 7919 * (k : Int) < 2 ^ 64; omega
 refine ⟨_, rfl, _, rfl, _, _, rfl, rfl, (by show (0 : Int) < 2147483647; decide), (by show 2 <= sizeLine; decide), fun p hp => ?_⟩
 exact q p _ (SB.new hp _) hp ⟨_, _, upd_same, d0, Int.emod_nonneg _ (by decide), Int.lt_of_lt_of_le (Int.emod_lt_of_pos _ (by decide)) (by decide)⟩
abbrev N__law_take : List Str := ["_law_purse_here", "_law_many_here", "_law_digit", "_law_once"]
theorem sc__law_take : FnScope N__law_take ["_law_purse_here", "_law_many_here"] (defScope s__law_take) := ⟨rfl, rfl, rfl, by decide +kernel, rfl, by decide +kernel, by decide +kernel⟩
theorem ok__law_take (B : BI mg) (F : Fun K "_law_take" "_law_take" s__law_take f fd) : FnOk P w K mg base CX0 (1) f fd ["_law_purse_here", "_law_many_here"] (spTakeW) := by
 refine F.ok sc__law_take (fun vs H Q E h => ?_) (fun cdv A outer s H vs Q E hr h => ?_)
 ·obtain ⟨p, m, rfl, _⟩ := h
  rfl
 obtain ⟨p, m, rfl, hp, hm, hm2, q⟩ := h
 have hun2 := hunT hr
 refine ⟨_, pss_cons (ps_if (pt_cmpR op_gt (pe_ix ix_list (pv 0) pe_int (fun _ _ => rfl)) pe_int (nomark _)) (pss_cons (ps_set (i := 2) sc__law_take.nd rfl (.inl rfl) (pe_op op_mod (pe_ix ix_list (pv 0) pe_int (fun _ _ => rfl)) (pv 1)))
  (pss_cons (ps_asg (pe_op op_fdivW (pe_ix ix_list (pv 0) pe_int (fun _ _ => rfl)) (pv 1)) (pg_sub (pv 0) pe_int set_list))
  (pss_one (ps_ret (pv 2))))) pss_nil)
  (pss_cons (ps_asg (pe_op op_mod (pe_op op_add (pe_op op_mul (pe_ix ix_list (pv 0) pe_int (fun _ _ => rfl)) pe_int) pe_int) pe_int) (pg_sub (pv 0) pe_int set_list))
  (pss_cons (ps_set (i := 3) sc__law_take.nd rfl (.inl rfl) (pe_op op_add (pe_op op_mod (pe_op op_mulW (pe_ix ix_list (pv 0) pe_int (fun _ _ => rfl)) (pe_ix ix_list (pv 0) pe_int (fun _ _ => rfl))) pe_int) pe_int))
  (pss_cons (ps_if (pt_cmpR op_gt (pv 1) (pe_op op_pow pe_int pe_int) (nomark _)) (pss_one (ps_ret (pe_op op_mod (pe_op op_fdivW (pe_op op_powW (pv 3) pe_int) pe_int) (pv 1)))) pss_nil)
  (pss_one (ps_ret (pe_op op_mod (pe_op op_fdivW (pv 3) pe_int) (pv 1))))))), ?_⟩
 obtain ⟨x, y, hp, hx, hy, hy2⟩ := hp
 have hS : SqL K H p [.int x, .int y] := SqL.of hp
 refine ⟨_, rfl, p, _, _, _, rfl, rfl, hS, ix0, _, _, rfl, rfl, _, rfl, ?_⟩
 refine ite2 (fun c => ?_) (fun c => ?_)
 ·refine ⟨_, rfl, p, _, _, _, rfl, rfl, hS, ix0, _, rfl, _, _, rfl, rfl, (by show (0 : Int) < m; omega), ?_⟩
  refine ⟨_, rfl, p, _, _, _, rfl, rfl, hS, ix0, _, rfl, _, _, rfl, rfl, wide_div (b := 250) (by omega) (by omega) (by decide) (by decide), ?_⟩
  refine ⟨_, rfl, p, _, _, _, rfl, rfl, hp, rfl, ?_⟩
  exact ⟨_, rfl, q _ _ (Int.emod_nonneg _ (by omega)) (Int.emod_lt_of_pos _ (by omega)) (SB.set hp (by simp) _) ⟨x / m, y, upd_same, Int.ediv_nonneg hx (by omega), hy, hy2⟩⟩
 ·refine ⟨_, rfl, p, _, _, _, rfl, rfl, hS, ix1, _, _, rfl, rfl, .inr ⟨by decide, by decide⟩, _, _, rfl, rfl, _, _, rfl, rfl, (by show (0 : Int) < 2147483647; decide), ?_⟩
  refine ⟨_, rfl, p, _, _, _, rfl, rfl, hp, rfl, ?_⟩
  have b1 := Int.emod_nonneg (y * 48271 + 11) (b := 2147483647) (by decide)
  have b2 := Int.emod_lt_of_pos (y * 48271 + 11) (b := 2147483647) (by decide)
  obtain ⟨z, hz⟩ : ∃ z, z = (y * 48271 + 11) % 2147483647 := ⟨_, rfl⟩
  rw [<- hz] at b1 b2
  have e0 : upd H p (.lst ([V.int x, V.int y].set (Int.toNat 1) (V.int ((y * 48271 + 11) % 2147483647)))) = upd H p (.lst [.int x, .int z]) := by rw [hz]; rfl
  refine cast (congrArg _ e0.symm) ?_
  have hp2 : (upd H p (.lst [.int x, .int z])) p = some (.lst [.int x, .int z]) := upd_same
  have hS2 : SqL K (upd H p (.lst [.int x, .int z])) p [.int x, .int z] := SqL.of hp2
  refine ⟨_, rfl, p, _, _, _, rfl, rfl, hS2, ix1, _, rfl, p, _, _, _, rfl, rfl, hS2, ix1, _, _, rfl, rfl, wide_mul (a := 64) (b := 64) (by omega) (by omega) (by decide) (by decide) (by decide), _, _, rfl, rfl, (by show (0 : Int) < 2147483629; decide), _, _, rfl, rfl, ?_⟩
  have c1 := Int.emod_nonneg (z * z) (b := 2147483629) (by decide)
  have c2 := Int.emod_lt_of_pos (z * z) (b := 2147483629) (by decide)
  have fin := fun r (h0 : 0 <= r) (h1 : r < m) => q r (upd H p (.lst [.int x, .int z])) h0 h1 (SB.set hp (by simp) _) ⟨x, z, upd_same, hx, by omega, by omega⟩
  have co : 0 <= z * z % 2147483629 + 7 /\ z * z % 2147483629 + 7 < 2 ^ 40 := by omega
  refine ⟨_, rfl, _, _, rfl, rfl, ⟨by decide, by decide, by decide⟩, _, _, rfl, rfl, _, rfl, ?_⟩
  refine ite2 (fun _ => ?_) (fun _ => ?_)
  ·refine ⟨_, rfl, _, _, rfl, rfl, ⟨by decide, by decide, ?_⟩, _, _, rfl, rfl, ⟨by decide, by decide⟩, _, rfl, _, _, rfl, rfl, (by show (0 : Int) < m; omega), ?_⟩
   ·have : (z * z % 2147483629 + 7).natAbs < 2 ^ 40 := by omega
    exact Nat.lt_trans this (by decide +kernel)
   ·exact fin _ (Int.emod_nonneg _ (by omega)) (Int.emod_lt_of_pos _ (by omega))
  ·exact ⟨_, rfl, _, _, rfl, rfl, ⟨by decide, by decide⟩, _, rfl, _, _, rfl, rfl, (by show (0 : Int) < m; omega), fin _ (Int.emod_nonneg _ (by omega)) (Int.emod_lt_of_pos _ (by omega))⟩
abbrev N__law_names : List Str := ["_law_purse_here", "_law_many_here", "_law_letters", "_law_stem", "_law_wide", "_law_at", "_law_first", "_law_step", "_law_words", "_law_k", "_law_sign"]
theorem sc__law_names : FnScope N__law_names ["_law_purse_here", "_law_many_here"] (defScope s__law_names) := ⟨rfl, rfl, rfl, by decide +kernel, rfl, by decide +kernel, by decide +kernel⟩
theorem ok__law_names (B : BI mg) (G__law_take : Got P w K mg base "_law_take" ["_law_purse_here", "_law_many_here"] (1) (spTakeW)) (F : Fun K "_law_names" "_law_names" s__law_names f fd) : FnOk P w K mg base CX0 (2) f fd ["_law_purse_here", "_law_many_here"] (spWords K) := by
 refine F.ok sc__law_names (fun vs H Q E h => ?_) (fun cdv A outer s H vs Q E hr h => ?_)
 ·obtain ⟨p, m, rfl, _⟩ := h
  rfl
 obtain ⟨p, m, rfl, hp, m1, m8, q⟩ := h
 have hun2 := hunT hr
 refine ⟨_, pss_cons (ps_set (i := 2) sc__law_names.nd rfl (.inr rfl) pe_str)
  (pss_cons (ps_set (i := 3) sc__law_names.nd rfl (.inr rfl) (pe_join pe_str (pe_lc (own := [("_law_k", 9)]) (g := (gName 9)) (tt := tYes) (te := (tOp rIxS (tVar 2) (tCall (spTakeW) [] E0 (tCons (tVar 0) (tCons (tC (.int 26)) tNil))))) rfl sc__law_names.nd (pi_range1 rfl B.range (pa_cons pe_int pa_nil)) (blkOk_by (N := N__law_names) (sc := defScope s__law_names) (by decide +kernel)) (fun _ _ _ _ _ => (pg_name (i := 9) sc__law_names.nd rfl (.inl rfl))) (fun _ _ _ _ _ => pts_nil) (fun _ _ _ _ _ => (pe_ix ix_str (pv 2) (pe_got G__law_take (hr.mono (by omega)) rfl (pa_cons (pv 0) (pa_cons pe_int pa_nil))) (fun _ _ => rfl))))))
  (pss_cons (ps_set (i := 4) sc__law_names.nd rfl (.inl rfl) (pe_got G__law_take (hr.mono (by omega)) rfl (pa_cons (pv 0) (pa_cons pe_int pa_nil))))
  (pss_cons (ps_set (i := 5) sc__law_names.nd rfl (.inl rfl) (pe_got G__law_take (hr.mono (by omega)) rfl (pa_cons (pv 0) (pa_cons (pe_op op_add (pv 4) pe_int) pa_nil))))
  (pss_cons (ps_set (i := 6) sc__law_names.nd rfl (.inl rfl) (pe_got G__law_take (hr.mono (by omega)) rfl (pa_cons (pv 0) (pa_cons pe_int pa_nil))))
  (pss_cons (ps_set (i := 7) sc__law_names.nd rfl (.inl rfl) (pe_ix ix_list (pe_lst (pa_cons pe_int (pa_cons pe_int (pa_cons pe_int (pa_cons pe_int (pa_cons pe_int (pa_cons pe_int (pa_cons pe_int (pa_cons pe_int pa_nil))))))))) (pe_got G__law_take (hr.mono (by omega)) rfl (pa_cons (pv 0) (pa_cons pe_int pa_nil))) (fun _ _ => rfl)))
  (pss_cons (ps_set (i := 8) sc__law_names.nd rfl (.inr rfl) (pe_lst pa_nil))
  (pss_cons (ps_for PassesOwn.never rfl (pi_range1 rfl B.range (pa_cons pe_int pa_nil)) (pg_name (i := 9) sc__law_names.nd rfl (.inl rfl))
   (pss_cons (ps_set (i := 10) sc__law_names.nd rfl (.inl rfl) (pe_ix ix_str (pv 2) (pe_op op_mod (pe_op op_add (pv 6) (pe_op op_mul (pv 7) (pv 9))) pe_int) (fun _ _ => rfl)))
  (pss_one (ps_expr (pe_bm PySem.F.plainAttrs_list PySem.F.slot_list_append PySem.F.type_list_append mt_append (pv 8) (pa_cons (pe_op op_add_str (pe_op op_add_str (pe_slice sl_str (pv 3) po_none (po_some (pv 5))) (pv 10)) (pe_slice sl_str (pv 3) (po_some (pv 5)) (po_some (pv 4)))) pa_nil))))))
  (pss_cons (ps_if (pt_cmpR op_eq (pe_got G__law_take (hr.mono (by omega)) rfl (pa_cons (pv 0) (pa_cons pe_int pa_nil))) pe_int (nomark _)) (pss_one (ps_set (i := 8) sc__law_names.nd rfl (.inr rfl) (pe_lc (own := [("_law_k", 9)]) (g := (gName 9)) (tt := tYes) (te := (tSl rSlS (tVar 3) tNoPart (tPart (tOp (rI0 fun i j => .int (i + j)) (tVar 9) (tC (.int 1)))))) rfl sc__law_names.nd (pi_range1 rfl B.range (pa_cons pe_int pa_nil)) (blkOk_by (N := N__law_names) (sc := defScope s__law_names) (by decide +kernel)) (fun _ _ _ _ _ => (pg_name (i := 9) sc__law_names.nd rfl (.inl rfl))) (fun _ _ _ _ _ => pts_nil) (fun _ _ _ _ _ => (pe_slice sl_str (pv 3) po_none (po_some (pe_op op_add (pv 9) pe_int))))))) pss_nil)
  (pss_one (ps_ret (pe_lc (own := [("_law_k", 9)]) (g := (gName 9)) (tt := tYes) (te := (tBM K "list" rPopAt (tVar 8) (tCons (tCall (spTakeW) [] E0 (tCons (tVar 0) (tCons (tCB (fun xs H Q => ∃ p ys, xs = [.ref p] /\ (SqL K H p ys \/ SqT K H p ys) /\ Q (.int ys.length) H) (tCons (tVar 8) tNil)) tNil))) tNil))) rfl sc__law_names.nd (pi_range1 rfl B.range (pa_cons (pv 1) pa_nil)) (blkOk_by (N := N__law_names) (sc := defScope s__law_names) (by decide +kernel)) (fun _ _ _ _ _ => (pg_name (i := 9) sc__law_names.nd rfl (.inl rfl))) (fun _ _ _ _ _ => pts_nil) (fun _ _ _ _ _ => (pe_bm PySem.F.plainAttrs_list PySem.F.slot_list_pop PySem.F.type_list_pop mt_popAt (pv 8) (pa_cons (pe_got G__law_take (hr.mono (by omega)) rfl (pa_cons (pv 0) (pa_cons (pe_callB call_len_seq rfl B.len PySem.boot_len (pa_cons (pv 8) pa_nil)) pa_nil))) pa_nil)))))))))))))), ?_⟩
 have szl := sizeLine_eq
 refine nameI (seqI (asgI ?_))
 refine join_w (k := 8) (jP := 0) (jL := 2) (jV := 9) (wi := iRng1 (tCons (tC (.int 8)) tNil)) (σ := [some (.ref p), some (.int (m : Int)), some (.str abc), none, none, none, none, none, none, none, none]) (by omega) (fun _ => rfl) (fun _ => rfl) (fun _ => rfl) (fun R hR => ⟨_, rfl, by decide, by decide, hR⟩) hp (fun st H1 s1 hp1 hst => ?_)
 have sl := hst.len
 refine take_w (i := 0) rfl hp1 (by decide) (by decide) fun r2 H2 r20 r28 s2 hp2 => ?_
 obtain ⟨sz, rfl⟩ : ∃ u : Nat, r2 = (u : Int) := ⟨r2.toNat, by omega⟩
 refine ⟨_, rfl, _, rfl, _, _, rfl, rfl, p, _, rfl, hp2, by omega, by omega, fun r3 H3 r30 r38 s3 hp3 => ?_⟩
 obtain ⟨at_, rfl⟩ : ∃ u : Nat, r3 = (u : Int) := ⟨r3.toNat, by omega⟩
 have hat : at_ <= sz := by omega
 refine take_w (i := 0) rfl hp3 (by decide) (by decide) fun r4 H4 r40 r48 s4 hp4 => ?_
 obtain ⟨bg, rfl⟩ : ∃ u : Nat, r4 = (u : Int) := ⟨r4.toNat, by omega⟩
 refine ⟨by show 8 <= sizeLine; decide, fun la hla => ?_⟩
 have t5 := SB.new (ps := []) hla (.lst [.int 1, .int 3, .int 5, .int 7, .int 9, .int 11, .int 15, .int 17])
 have hla5 : upd H4 la (.lst [.int 1, .int 3, .int 5, .int 7, .int 9, .int 11, .int 15, .int 17]) la = some (.lst [.int 1, .int 3, .int 5, .int 7, .int 9, .int 11, .int 15, .int 17]) := upd_same
 have lap : la ∉ [p] := by simpa using fun z : la = p => hp4.ne hla z.symm
 have hp5 := hp4.sb t5
 generalize upd H4 la (.lst [.int 1, .int 3, .int 5, .int 7, .int 9, .int 11, .int 15, .int 17]) = H5 at t5 hla5 hp5
 refine take_w (i := 0) rfl hp5 (by decide) (by decide) fun r6 H6 r60 r68 s6 hp6 => ?_
 have hla6 := s6.keep _ _ hla5 lap
 obtain ⟨st', hz, hst'⟩ : ∃ s' : Nat, atI [V.int 1, .int 3, .int 5, .int 7, .int 9, .int 11, .int 15, .int 17] r6 = some (.int (s' : Int)) /\ (s' = 1 \/ s' = 3 \/ s' = 5 \/ s' = 7 \/ s' = 9 \/ s' = 11 \/ s' = 15 \/ s' = 17) := by
  have : r6 = 0 \/ r6 = 1 \/ r6 = 2 \/ r6 = 3 \/ r6 = 4 \/ r6 = 5 \/ r6 = 6 \/ r6 = 7 := by omega
  rcases this with h | h | h | h | h | h | h | h <;> subst h
  ·exact ⟨1, rfl, by simp⟩
  ·exact ⟨3, rfl, by simp⟩
  ·exact ⟨5, rfl, by simp⟩
  ·exact ⟨7, rfl, by simp⟩
  ·exact ⟨9, rfl, by simp⟩
  ·exact ⟨11, rfl, by simp⟩
  ·exact ⟨15, rfl, by simp⟩
  ·exact ⟨17, rfl, by simp⟩
 have st17 : st' <= 17 := by omega
 refine ⟨la, _, _, _, rfl, rfl, SqL.of hla6, hz, ?_⟩
 have s06 : SB [p] H H6 := ((((s1.trans s2).trans s3).trans s4).trans t5.nil).trans s6
 refine ⟨by show 0 <= sizeLine; decide, fun W hW => ?_⟩
 have t7 := SB.new (ps := []) hW (.lst [])
 have hp7 := hp6.sb t7
 have nW : H W = none := s06.dom _ hW
 have pW : p ≠ W := hp6.ne hW
 have hW7 : upd H6 W (.lst []) W = some (.lst []) := upd_same
 have s07 := s06.trans (t7.nil (ps := [p]))
 generalize upd H6 W (.lst []) = H7 at t7 hp7 hW7 s07
 let wd : Nat -> Str := fun k => cutS st none (some (at_ : Int)) ++ ⟨#[97 + (bg + st' * k) % 26]⟩ ++ cutS st (some (at_ : Int)) (some (sz : Int))
 refine ⟨_, rfl, by decide, by decide, ?_⟩
 refine for_it walk_range (fun i σ H8 => SB [W] H7 H8 /\ ∃ o9 o10 : Option V, σ = [some (.ref p), some (.int (m : Int)), some (.str abc), some (.str st), some (.int (sz : Int)), some (.int (at_ : Int)), some (.int (bg : Int)), some (.int (st' : Int)), some (.ref W), o9, o10] /\ H8 W = some (.lst (((List.range i).map wd).map V.str)))
  ⟨SB.refl, none, none, rfl, hW7⟩ (fun _ _ _ _ _ => trivial) (fun i x σ H8 H' hi h2 y => ?_) (fun σ H8 h2 => ?_)
 ·obtain ⟨s8, o9, o10, rfl, hW8⟩ := h2
  obtain ⟨rfl, rfl⟩ := y
  have la' := (hst.take at_).len
  have lb := (hst.cut at_ sz).len
  have e1 : ((bg : Int) + (st' : Int) * (0 + (i : Int))) % 26 = (((bg + st' * i) % 26 : Nat) : Int) := by
   rw [Int.zero_add]; push_cast; rfl
  refine ⟨_, rfl, _, rfl, _, rfl, _, rfl, _, _, rfl, rfl, .inl ⟨by show (-(2 ^ 64) : Int) < (st' : Int); omega, by show (st' : Int) < 2 ^ 64; omega⟩, _, _, rfl, rfl, _, _, rfl, rfl, (by show (0 : Int) < 26; decide), abc, _, 97 + (bg + st' * i) % 26, rfl, rfl, abc_len, ?_, ?_⟩
  ·show atI abc.cps.toList (((bg : Int) + (st' : Int) * (0 + (i : Int))) % 26) = _
   rw [e1]
   exact atI_natN (abc_code _ (by omega))
  refine ⟨_, rfl, .inl ⟨rfl, _, SqL.of hW8⟩, _, rfl, _, rfl, _, rfl, st, rfl, by omega, _, rfl, _, _, rfl, rfl, by rw [la']; show _ + 1 <= _; omega, ?_⟩
  refine ⟨_, rfl, _, rfl, _, rfl, _, rfl, _, rfl, st, rfl, by omega, _, _, rfl, rfl, ?_, W, _, _, rfl, rfl, hW8, by rw [List.length_map, List.length_map, List.length_range]; omega, ?_⟩
  ·have : (cutS st none (some (at_ : Int)) ++ (⟨#[97 + (bg + st' * i) % 26]⟩ : Str)).length = min at_ 8 + 1 := ((hst.take at_).append (Ltr.one (c := 97 + (bg + st' * i) % 26) (by omega))).len
   rw [this, lb]; omega
  refine ⟨s8.trans (SB.set hW8 (by simp) _), _, _, rfl, ?_⟩
  rw [upd_same, List.range_succ, List.map_append, List.map_append]
  rfl
 obtain ⟨s8, o9, o10, rfl, hW8⟩ := h2
 have e8 : ((8 : Int)).toNat = 8 := rfl
 rw [e8] at hW8
 have hp8 := hp7.keep s8 (by simpa using pW)
 have s08 : SB [p] H H8 := (s07.mono (qs := [p, W]) (by simp)).trans (s8.mono (by simp)) |>.drop2 nW
 have key2 : ∀ i, Ltr (wd i) (min at_ 8 + 1 + (min sz 8 - min at_ 8)) := fun i => ((hst.take at_).append (Ltr.one (by omega))).append (hst.cut at_ sz)
 dsimp only
 refine seq_via (fun σ' H9 => SB [p] H H9 /\ PuW H9 p /\ ∃ (W' : Addr) (ws : List Str) (o9 o10 : Option V), σ' = [some (.ref p), some (.int (m : Int)), some (.str abc), some (.str st), some (.int (sz : Int)), some (.int (at_ : Int)), some (.int (bg : Int)), some (.int (st' : Int)), some (.ref W'), o9, o10] /\ H W' = none /\ W' ≠ p /\ H9 W' = some (.lst (ws.map V.str)) /\ ws.length = 8 /\ ws.Nodup /\ ∀ k ∈ ws, NameOk k) (fun nx hnx => ?_) (fun σ' H9 h => ?_)
 ·refine ifI ?_
  refine take_w (i := 0) rfl hp8 (by decide) (by decide) fun r9 H9 r90 r93 s9 hp9 => ?_
  have hW9 := s9.keep _ _ hW8 (by simpa using fun z : W = p => pW z.symm)
  refine ⟨rfl, _, rfl, ?_⟩
  refine ite2 (fun _ => ?_) (fun _ => ?_)
  ·refine ⟨_, rfl, by decide, by decide, fun D hD => ?_⟩
   refine lc_seq walk_range hD (by decide) (fun i us _ => us = ((List.range i).map fun k => cutS st none (some ((k + 1 : Nat) : Int))).map V.str) rfl (fun _ _ => trivial) (fun _ _ _ _ _ h => h) (fun Pv i x Hx H' us hi sx y hR hl fin _ => ?_) (fun us Hx sx hDx hR hl => ?_)
   ·obtain ⟨rfl, rfl⟩ := y
    have e0 : (0 : Int) + (i : Int) + 1 = ((i + 1 : Nat) : Int) := by omega
    refine ⟨rfl, _, rfl, _, rfl, _, _, rfl, rfl, _, rfl, st, rfl, by omega, fin _ _ SB.refl ?_⟩
    rw [hR, List.range_succ, List.map_append, List.map_append, e0]
    rfl
   ·subst hR
    have k3 : ∀ i, i < 8 -> Ltr (cutS st none (some ((i + 1 : Nat) : Int))) (i + 1) := fun i hi => by
     have := hst.take (i + 1)
     rw [Nat.min_eq_left (by omega)] at this
     exact this
    have pD : p ≠ D := hp9.ne hD
    refine hnx _ _ ⟨(s08.trans s9).trans sx.nil, hp9.sb sx, D, (List.range 8).map fun k => cutS st none (some ((k + 1 : Nat) : Int)), _, _, rfl, (s08.trans s9).dom _ hD, fun z => pD z.symm, hDx, by simp, nodup_range fun i j hi hj hn e => ?_, fun k hk => ?_⟩
    ·have e1 := (k3 i hi).1
     rw [e, (k3 j hj).1] at e1
     omega
    ·obtain ⟨i, hi, rfl⟩ := List.mem_map.mp hk
     have hi := List.mem_range.mp hi
     exact (k3 i hi).name (by omega) (by omega)
  ·refine hnx _ _ ⟨s08.trans s9, hp9, W, (List.range 8).map wd, _, _, rfl, nW, fun z => pW z.symm, hW9, by simp, nodup_range fun i j hi hj hn e => ?_, fun k hk => ?_⟩
   ·have e1 := (hst.take at_).mid (c := 97 + (bg + st' * i) % 26) (b := cutS st (some (at_ : Int)) (some (sz : Int)))
    have e2 := (hst.take at_).mid (c := 97 + (bg + st' * j) % 26) (b := cutS st (some (at_ : Int)) (some (sz : Int)))
    have e' : cutS st none (some (at_ : Int)) ++ (⟨#[97 + (bg + st' * i) % 26]⟩ : Str) ++ cutS st (some (at_ : Int)) (some (sz : Int)) = cutS st none (some (at_ : Int)) ++ (⟨#[97 + (bg + st' * j) % 26]⟩ : Str) ++ cutS st (some (at_ : Int)) (some (sz : Int)) := e
    rw [e', e2] at e1
    injection e1 with e1
    exact hn (step_inj (b := bg) hst' hi hj (by omega))
   ·obtain ⟨i, hi, rfl⟩ := List.mem_map.mp hk
    exact (key2 i).name (by omega) (by omega)
 obtain ⟨s9, hp9, W', ws, q9, q10, rfl, nW', Wp, hW', wl, wn, wok⟩ := h
 refine ⟨_, rfl, _, rfl, by omega, by omega, fun D hD => ?_⟩
 rw [Int.toNat_natCast]
 have pD : p ≠ D := hp9.ne hD
 have WD : W' ≠ D := ne_of_none hW' hD
 refine lc_seqP walk_range [p, W'] hD (fun x hx z => ?_) (by omega) (fun i us H2 => PuW H2 p /\ ∃ ls os : List Str, us = os.map V.str /\ H2 W' = some (.lst (ls.map V.str)) /\ os.length = i /\ (os ++ ls).Perm ws) ⟨hp9, ws, [], rfl, hW', rfl, List.Perm.refl _⟩ (fun _ _ => trivial) (fun i us H2 H3 e ⟨h1, ls, os, h2, h3, h4⟩ => ⟨h1.keep e (by simpa using pD), ls, os, h2, e.keep _ _ h3 (by simpa using WD), h4⟩) (fun Pv i x Hx H10 us hi sx y hR hl fin _ => ?_) (fun us Hx sx hDx hR hl => ?_)
 ·rcases List.mem_cons.mp hx with e | hx
  ·exact hp9.some p (by simp) (e ▸ z)
  ·rw [List.mem_singleton.mp hx, hW'] at z; cases z
 ·obtain ⟨rfl, rfl⟩ := y
  obtain ⟨hp10, ls, os, rfl, hW10, ol, pm⟩ := hR
  have pl := pm.length_eq
  rw [List.length_append, wl] at pl
  refine ⟨rfl, _, rfl, .inl ⟨rfl, _, SqL.of hW10⟩, _, rfl, _, rfl, W', _, rfl, .inl (SqL.of hW10), p, _, rfl, hp10, by rw [List.length_map]; omega, by rw [List.length_map]; omega, fun r11 H11 r110 r11m s11 hp11 => ?_⟩
  rw [List.length_map] at r11m
  obtain ⟨u, rfl⟩ : ∃ u : Nat, r11 = (u : Int) := ⟨r11.toNat, by omega⟩
  have hu : u < ls.length := by omega
  have hW11 := s11.keep _ _ hW10 (by simpa using Wp)
  have eu : ls[u]? = some ls[u] := List.getElem?_eq_getElem hu
  refine ⟨W', _, _, u, .str ls[u], rfl, rfl, hW11, by omega, by omega, ?_, by rw [List.getElem?_map, eu]; rfl, ?_⟩
  ·rw [PySem.seqIndex_of (by omega) (by rw [List.length_map]; omega), Int.toNat_natCast]
  rw [erase_map]
  refine fin _ _ ((s11.mono (by simp)).trans (SB.set hW11 (by simp) _)) ⟨hp11.keep (SB.set (ps := [W']) hW11 (by simp) _) (by simpa using fun z : p = W' => Wp z.symm), ls.eraseIdx u, os ++ [ls[u]], by rw [List.map_append]; rfl, upd_same, by rw [List.length_append, ol]; rfl, ?_⟩
  rw [List.append_assoc]
  exact (List.Perm.append_left os (idx_perm eu)).trans pm
 obtain ⟨hpx, ls, os, rfl, hWx, ol, pm⟩ := hR
 have s0x : SB [p] H Hx := (s9.mono (qs := [p, W']) (by simp)).trans sx |>.drop2 nW'
 refine q D os Hx s0x hpx (s9.dom _ hD) hDx ol (fun k hk => wok k (pm.mem_iff.mp (List.mem_append_left _ hk))) ?_
 exact (List.nodup_append.mp (pm.nodup_iff.mpr wn)).1
abbrev N__law_many : List Str := ["_law_purse_here", "_law_most", "_law_way"]
theorem sc__law_many : FnScope N__law_many ["_law_purse_here", "_law_most"] (defScope s__law_many) := ⟨rfl, rfl, rfl, by decide +kernel, rfl, by decide +kernel, by decide +kernel⟩
theorem ok__law_many (B : BI mg) (G__law_take : Got P w K mg base "_law_take" ["_law_purse_here", "_law_many_here"] (1) (spTakeW)) (F : Fun K "_law_many" "_law_many" s__law_many f fd) : FnOk P w K mg base CX0 (2) f fd ["_law_purse_here", "_law_most"] (spManyP) := by
 refine F.ok sc__law_many (fun vs H Q E h => ?_) (fun cdv A outer s H vs Q E hr h => ?_)
 ·obtain ⟨p, m, rfl, _⟩ := h
  rfl
 obtain ⟨p, m, rfl, hp, hm, hm2, q⟩ := h
 have hun2 := hunT hr
 refine ⟨_, pss_cons (ps_set (i := 2) sc__law_many.nd rfl (.inl rfl) (pe_got G__law_take (hr.mono (by omega)) rfl (pa_cons (pv 0) (pa_cons pe_int pa_nil))))
  (pss_cons (ps_if (pt_cmpR op_lt (pv 2) pe_int (nomark _)) (pss_one (ps_ret (pe_op op_add pe_int (pv 2)))) pss_nil)
  (pss_one (ps_ret (pe_op op_add pe_int (pe_got G__law_take (hr.mono (by omega)) rfl (pa_cons (pv 0) (pa_cons (pe_ix ix_list (pe_lst (pa_cons pe_int (pa_cons (pv 1) pa_nil))) (pe_op op_sub (pv 2) pe_int) (fun _ _ => rfl)) pa_nil))))))), ?_⟩
 refine take_w (i := 0) rfl hp (by decide) (by decide) fun r1 H1 r10 r14 s1 hp1 => ?_
 refine ⟨_, rfl, _, _, rfl, rfl, _, rfl, ?_⟩
 by_cases h : r1 < 2
 ·rw [decide_eq_true h]
  exact iteT ⟨_, rfl, _, _, rfl, rfl, q _ _ (by omega) (by omega) s1 hp1⟩
 rw [decide_eq_false h]
 refine iteF ?_
 refine ⟨_, rfl, _, rfl, by show 2 <= sizeLine; decide, fun L hL => ?_⟩
 have t2 := SB.new (ps := []) hL (.lst [.int 9, .int m])
 obtain ⟨z, hz, z1, z2⟩ : ∃ z : Int, atI [V.int 9, V.int m] (r1 - 2) = some (.int z) /\ 9 <= z /\ z <= m := by
  have : r1 = 2 \/ r1 = 3 := by omega
  rcases this with e | e <;> subst e
  ·exact ⟨9, rfl, by omega, hm⟩
  ·exact ⟨m, rfl, hm, by omega⟩
 have hb : z < 2 ^ 250 := Int.lt_of_le_of_lt z2 (Int.lt_trans hm2 (by decide))
 refine ⟨_, rfl, _, _, rfl, rfl, L, _, _, _, rfl, rfl, SqL.of upd_same, hz, p, z, rfl, hp1.sb t2, by omega, hb, fun r3 H3 r30 r3m s3 hp3 => ?_⟩
 exact ⟨_, _, rfl, rfl, q _ _ (by omega) (by omega) ((s1.trans t2.nil).trans s3) hp3⟩
abbrev N__law_wood : List Str := ["_law_purse_here", "_law_pool", "_law_room", "_law_low_here", "_law_most", "_law_found", "_law_k", "_law_name", "_law_inner", "_law_tree", "_law_many_here", "_law_one", "_law_old", "_law_pair"]
theorem sc__law_wood : FnScope N__law_wood ["_law_purse_here", "_law_pool", "_law_room", "_law_low_here", "_law_most"] (defScope s__law_wood) := ⟨rfl, rfl, rfl, by decide +kernel, rfl, by decide +kernel, by decide +kernel⟩
theorem none__law_wood {ps : List Str} {k : Nat} : FnOk P w K mg base CX0 k f fd ps (spWood K 0) := none_sp fun vs H Q E ⟨p, l, R, ks, a, b, low, m, _, _, _, _, _, _, _, _, h, _⟩ => by omega
theorem ok__law_wood {n : Nat} (B : BI mg) (G__law_take : Got P w K mg base "_law_take" ["_law_purse_here", "_law_many_here"] (1) (spTakeW)) (G__law_wood : Got P w K mg base "_law_wood" ["_law_purse_here", "_law_pool", "_law_room", "_law_low_here", "_law_most"] (n + 2) (spWood K n)) (G__law_many : Got P w K mg base "_law_many" ["_law_purse_here", "_law_most"] (2) (spManyP)) (F : Fun K "_law_wood" "_law_wood" s__law_wood f fd) : FnOk P w K mg base CX0 (n + 3) f fd ["_law_purse_here", "_law_pool", "_law_room", "_law_low_here", "_law_most"] (spWood K (n + 1)) := by
 refine F.ok sc__law_wood (fun vs H Q E h => ?_) (fun cdv A outer s H vs Q E hr h => ?_)
 ·obtain ⟨p, l, R, ks, a, b, low, m, rfl, _⟩ := h
  rfl
 obtain ⟨p, l, R, ks, a, b, low, m, rfl, hp, hl, hR, lp, lR, Rp, ab, hlow, hm, kn, q⟩ := h
 have hun2 := hunT hr
 refine ⟨_, pss_cons (ps_set (i := 5) sc__law_wood.nd rfl (.inl rfl) (pe_lst pa_nil))
  (pss_cons (ps_for PassesOwn.never rfl (pi_range1 rfl B.range (pa_cons (pe_got G__law_take (hr.mono (by omega)) rfl (pa_cons (pv 0) (pa_cons (pe_ix ix_list (pv 2) pe_int (fun _ _ => rfl)) pa_nil))) pa_nil)) (pg_name (i := 6) sc__law_wood.nd rfl (.inl rfl))
   (pss_one (ps_if (PW.pt (pw_and (pt_cmpR op_gt (pe_ix ix_list (pv 2) pe_int (fun _ _ => rfl)) pe_int (nomark _)) (pw_and1 (pt_cmpR (op_neD (by show A.units + 3 + 64 < cLine; omega)) (pv 1) (pe_lst pa_nil) (nomark _))))) (pss_cons (ps_asg (pe_op op_sub (pe_ix ix_list (pv 2) pe_int (fun _ _ => rfl)) pe_int) (pg_sub (pv 2) pe_int set_list))
  (pss_cons (ps_set (i := 7) sc__law_wood.nd rfl (.inl rfl) (pe_ix ix_list (pv 1) (pe_got G__law_take (hr.mono (by omega)) rfl (pa_cons (pv 0) (pa_cons (pe_callB call_len_seq rfl B.len PySem.boot_len (pa_cons (pv 1) pa_nil)) pa_nil))) (fun _ _ => rfl)))
  (pss_cons (ps_set (i := 8) sc__law_wood.nd rfl (.inl rfl) (pe_tup pa_nil))
  (pss_cons (ps_if (PW.pt (pw_and (pt_cmpR op_gt (pv 3) pe_int (nomark _)) (pw_and1 (pt_cmpR op_gt (pe_got G__law_take (hr.mono (by omega)) rfl (pa_cons (pv 0) (pa_cons pe_int pa_nil))) pe_int (nomark _))))) (pss_one (ps_set (i := 8) sc__law_wood.nd rfl (.inl rfl) (pe_got G__law_wood (hr.mono (by omega)) rfl (pa_cons (pv 0) (pa_cons (pv 1) (pa_cons (pv 2) (pa_cons (pe_op op_sub (pv 3) pe_int) (pa_cons (pv 4) pa_nil)))))))) pss_nil)
  (pss_cons (ps_set (i := 9) sc__law_wood.nd rfl (.inr rfl) (pe_tup (pa_cons (pv 7) (pa_cons (pv 8) pa_nil))))
  (pss_cons (ps_set (i := 10) sc__law_wood.nd rfl (.inl rfl) (pe_op op_add (pe_got G__law_many (hr.mono (by omega)) rfl (pa_cons (pv 0) (pa_cons (pv 4) pa_nil))) (pe_callB (cr_sum rfl) rfl B.sum boot_sum (pa_cons (pe_lc (own := [("_law_one", 11), ("_law_old", 12)]) (g := (gTup K 2 (gCons (gName 11) (gCons (gName 12) gNil)))) (tt := (tTest (tOp (rEqD K) (tVar 11) (tVar 9)))) (te := (tVar 12)) rfl sc__law_wood.nd (pi_list (pv 5)) (blkOk_by (N := N__law_wood) (sc := defScope s__law_wood) (by decide +kernel)) (fun _ _ _ _ _ => (pg_tup rfl (pgs_cons (pg_name (i := 11) sc__law_wood.nd rfl (.inl rfl)) (pgs_cons (pg_name (i := 12) sc__law_wood.nd rfl (.inl rfl)) pgs_nil)))) (fun _ _ _ _ _ => (pts_one (pt_cmpR (op_eqD (by show A.units + 3 + 64 < cLine; omega)) (pv 11) (pv 9) (nomark _)))) (fun _ _ _ _ _ => (pv 12))) pa_nil))))
  (pss_one (ps_set (i := 5) sc__law_wood.nd rfl (.inl rfl) (pe_op op_cat (pe_lc (own := [("_law_pair", 13)]) (g := (gName 13)) (tt := (tTest (tOp (rNeD K) (tOp (rIxT K) (tVar 13) (tC (.int 0))) (tVar 9)))) (te := (tVar 13)) rfl sc__law_wood.nd (pi_list (pv 5)) (blkOk_by (N := N__law_wood) (sc := defScope s__law_wood) (by decide +kernel)) (fun _ _ _ _ _ => (pg_name (i := 13) sc__law_wood.nd rfl (.inl rfl))) (fun _ _ _ _ _ => (pts_one (pt_cmpR (op_neD (by show A.units + 3 + 64 < cLine; omega)) (pe_ix ix_tup (pv 13) pe_int (fun _ _ => rfl)) (pv 9) (nomark _)))) (fun _ _ _ _ _ => (pv 13))) (pe_lst (pa_cons (pe_tup (pa_cons (pv 9) (pa_cons (pe_callB (call_min2 rfl) rfl B.min boot_min (pa_cons (pv 4) (pa_cons (pv 10) pa_nil))) pa_nil))) pa_nil))))))))))) pss_nil)))
  (pss_one (ps_ret (pe_callTy call_tuple_of rfl B.tuple boot_tuple (pa_cons (pe_callB (cr_sortedB Gr.pEnc (by show A.units + 3 + 110 < cLine; omega)) rfl B.sorted (by decide +kernel) (pa_cons (pv 5) pa_nil)) pa_nil))))), ?_⟩
 have szl := sizeLine_eq
 obtain ⟨a60, b1, b9⟩ := ab
 obtain ⟨low1, lown, low12⟩ := hlow
 obtain ⟨m9, m30⟩ := hm
 obtain ⟨k8, kn⟩ := kn
 have m200 : m < 2 ^ 200 := Int.lt_of_le_of_lt m30 (by decide)
 refine ⟨by show 0 <= sizeLine; decide, fun F0 hF0 => ?_⟩
 have t0 := SB.new (ps := []) hF0 (.lst [])
 have hp0 := hp.sb t0
 have hl0 := t0.keep _ _ hl nmn
 have hR0 := t0.keep _ _ hR nmn
 have hF00 : upd H F0 (.lst []) F0 = some (.lst []) := upd_same
 have Fp0 : F0 ≠ p := fun z => hp.ne hF0 z.symm
 have FR0 : F0 ≠ R := fun z => ne_of_none hR hF0 z.symm
 generalize upd H F0 (.lst []) = H0 at t0 hp0 hl0 hR0 hF00
 refine ⟨_, rfl, _, rfl, R, _, _, _, rfl, rfl, SqL.of hR0, atI_nat (j := 1) rfl, p, (b : Int), rfl, hp0, by omega, by omega, fun r1 H1 r10 r1b s1 hp1 => ?_⟩
 obtain ⟨c, rfl⟩ : ∃ c : Nat, r1 = (c : Int) := ⟨r1.toNat, by omega⟩
 refine ⟨_, rfl, by omega, by omega, ?_⟩
 rw [Int.toNat_natCast]
 have nF : ∀ {F : Addr}, F ≠ p -> F ∉ [p] := fun h => by simpa using h
 have lR1 := s1.keep _ _ hl0 (by simpa using lp)
 refine for_it walk_range (fun i σ H2 => SB [p, R] H H2 /\ PuW H2 p /\ ∃ (F : Addr) (ys : List V) (bs : List (Tr × Int)) (a' : Nat) (o6 o7 o8 o9 o10 : Option V), σ = [some (.ref p), some (.ref l), some (.ref R), some (.int (low : Int)), some (.int m), some (.ref F), o6, o7, o8, o9, o10, none, none, none] /\ F ≠ p /\ F ≠ R /\ H2 F = some (.lst ys) /\ H2 R = some (.lst [.int (a' : Int), .int (b : Int)]) /\ Bears K H2 Gr.pEnc ys bs /\
   (bs.map (·.1)).Nodup /\ (∀ x ∈ bs, NameOk x.1.1 /\ x.1.2.Ok (m + 1) /\ 1 <= x.2 /\ x.2 < m + 1 /\ x.1.2.deep < low /\ x.1.1 ∈ ks /\ ∀ y ∈ x.1.2.within, y.1.1 ∈ ks) /\ Gr.tot bs + a' <= a /\ bs.length <= i)
  ⟨(t0.nil (ps := [p, R])).trans (s1.mono (by simp)), hp1, F0, [], [], a, none, none, none, none, none, rfl, Fp0, FR0, s1.keep _ _ hF00 (nF Fp0), s1.keep _ _ hR0 (by simpa using Rp), .nil, by simp, by simp, by simp [Gr.tot], by simp⟩ (fun _ _ _ _ _ => trivial) (fun i x σ Hq H2 hi h2 y => ?_) (fun σ H2 h2 => ?_)
 ·obtain ⟨s2, hp2, F, ys, bs, a', o6, o7, o8, o9, o10, rfl, Fp, FR, hF2, hR2, hbs, nd, ok, ht, hbl⟩ := h2
  obtain ⟨rfl, rfl⟩ := y
  have hl2 := s2.keep _ _ hl (by simp [lp, lR])
  have yl := hbs.length
  refine ⟨_, rfl, R, _, _, _, rfl, rfl, SqL.of hR2, atI_nat (j := 0) rfl, _, _, rfl, rfl, _, rfl, ?_⟩
  by_cases ha : 0 < a'
  ·rw [show decide ((0 : Int) < (a' : Int)) = true from decide_eq_true (by omega)]
   refine iteT ?_
   refine ⟨_, rfl, by show 0 <= sizeLine; decide, fun e0 he0 => ?_⟩
   have t3 := SB.new (ps := []) he0 (.lst [])
   refine ⟨_, _, .lst (t3.sqL nmn (SqL.of hl2)) (Dp_strs ks), .lst (SqL.of upd_same) .nil, names_shaped kn, by decide +kernel, _, rfl, ?_⟩
   rw [eqv_nil]
   have s3 := s2.trans (t3.nil (ps := [p, R]))
   have hp3 := hp2.sb t3
   have hl3 := t3.keep _ _ hl2 nmn
   have hF3 := t3.keep _ _ hF2 nmn
   have hR3 := t3.keep _ _ hR2 nmn
   have hbs3 := hbs.sb t3 Gr.noList_pEnc
   generalize upd H2 e0 (.lst []) = H3 at t3 s3 hp3 hl3 hF3 hR3 hbs3
   by_cases hk : ks = []
   ·rw [show (!decide (ks = [])) = false by simp [hk]]
    exact iteF ⟨s3, hp3, F, ys, bs, a', _, _, _, _, _, rfl, Fp, FR, hF3, hR3, hbs3, nd, ok, ht, by omega⟩
   ·rw [show (!decide (ks = [])) = true by simp [hk]]
    refine iteT ?_
    have kpos : 0 < ks.length := List.length_pos_iff.mpr hk
    refine ⟨_, rfl, R, _, _, _, rfl, rfl, SqL.of hR3, atI_nat (j := 0) rfl, _, _, rfl, rfl, ?_⟩
    refine ⟨_, rfl, R, _, _, _, rfl, rfl, hR3, rfl, ?_⟩
    have e4 : upd H3 R (.lst ([V.int (a' : Int), V.int (b : Int)].set (Int.toNat 0) (V.int ((a' : Int) - 1)))) = upd H3 R (.lst [.int ((a' - 1 : Nat) : Int), .int (b : Int)]) := by
     rw [show ((a' - 1 : Nat) : Int) = (a' : Int) - 1 by omega]; rfl
    refine cast (congrArg _ e4.symm) ?_
    have t4 := SB.set (ps := [R]) hR3 (by simp) (.lst [.int ((a' - 1 : Nat) : Int), .int (b : Int)])
    have s4 := s3.trans (t4.mono (qs := [p, R]) (by simp))
    have hp4 := hp3.keep t4 (by simpa using fun z : p = R => Rp z.symm)
    have hl4 := t4.keep _ _ hl3 (by simpa using lR)
    have hF4 := t4.keep _ _ hF3 (by simpa using FR)
    have hR4 : upd H3 R (.lst [.int ((a' - 1 : Nat) : Int), .int (b : Int)]) R = some (.lst [.int ((a' - 1 : Nat) : Int), .int (b : Int)]) := upd_same
    have hbs4 := hbs3.sb t4 Gr.noList_pEnc
    generalize upd H3 R (.lst [.int ((a' - 1 : Nat) : Int), .int (b : Int)]) = H4 at t4 s4 hp4 hl4 hF4 hR4 hbs4
    refine ⟨_, rfl, _, rfl, _, rfl, l, _, rfl, .inl (SqL.of hl4), p, _, rfl, hp4, by rw [List.length_map]; omega, by rw [List.length_map]; omega, fun r5 H5 r50 r5m s5 hp5 => ?_⟩
    obtain ⟨kk, rfl⟩ : ∃ u : Nat, r5 = (u : Int) := ⟨r5.toNat, by omega⟩
    rw [List.length_map] at r5m
    have hk1 : kk < ks.length := by omega
    have hl5 := s5.keep _ _ hl4 (by simpa using lp)
    have hF5 := s5.keep _ _ hF4 (nF Fp)
    have hR5 := s5.keep _ _ hR4 (by simpa using Rp)
    have hbs5 := hbs4.sb s5 Gr.noList_pEnc
    have s05 := s4.trans (s5.mono (qs := [p, R]) (by simp))
    refine ⟨l, _, _, _, rfl, rfl, SqL.of hl5, atI_nat (j := kk) (v := .str ks[kk]) (by rw [List.getElem?_map, List.getElem?_eq_getElem hk1]; rfl), ?_⟩
    have nmk : ks[kk] ∈ ks := List.getElem_mem hk1
    have nmo := kn _ nmk
    generalize ks[kk] = nm at nmk nmo
    refine ⟨by show 0 <= sizeLine; decide, fun e1 he1 => ?_⟩
    have t6 := SB.new (ps := []) he1 (.tup [])
    have hp6 := hp5.sb t6
    have hl6 := t6.keep _ _ hl5 nmn
    have hF6 := t6.keep _ _ hF5 nmn
    have hR6 := t6.keep _ _ hR5 nmn
    have hbs6 := hbs5.sb t6 Gr.noList_pEnc
    have s06 := s05.trans (t6.nil (ps := [p, R]))
    have he6 : GA K (upd H5 e1 (.tup [])) (.ref e1) .nil := GA_nil (SqT.of upd_same)
    generalize upd H5 e1 (.tup []) = H6 at t6 hp6 hl6 hF6 hR6 hbs6 s06 he6
    refine nameI ?_
    refine seq_via (fun σ' H7 => ∃ (iv : V) (g : Gr) (a2 : Nat), σ' = [some (.ref p), some (.ref l), some (.ref R), some (.int (low : Int)), some (.int m), some (.ref F), some (.int (0 + (i : Int))), some (.str nm), some iv, o9, o10, none, none, none] /\ SB [p, R] H H7 /\ PuW H7 p /\ H7 F = some (.lst ys) /\ H7 R = some (.lst [.int (a2 : Int), .int (b : Int)]) /\ Bears K H7 Gr.pEnc ys bs /\ GA K H7 iv g /\ g.Ok (m + 1) /\ g.parts + a2 <= a' - 1 /\ g.deep < low /\ ∀ y ∈ g.within, y.1.1 ∈ ks) (fun nx hnx => ?_) (fun σ' H7 h7 => ?_)
    ·have skip : ∀ H7, SB [p] H6 H7 -> PuW H7 p -> nx [some (.ref p), some (.ref l), some (.ref R), some (.int (low : Int)), some (.int m), some (.ref F), some (.int (0 + (i : Int))), some (.str nm), some (.ref e1), o9, o10, none, none, none] H7 := fun H7 s7 hp7 =>
      hnx _ _ ⟨.ref e1, .nil, a' - 1, rfl, s06.trans (s7.mono (by simp)), hp7, s7.keep _ _ hF6 (nF Fp), s7.keep _ _ hR6 (by simpa using Rp), hbs6.sb s7 Gr.noList_pEnc, he6.sb s7, trivial, by show 0 + (a' - 1) <= _; omega, by show 0 < low; omega, fun y hy => by cases hy⟩
     refine ⟨_, rfl, _, _, rfl, rfl, _, rfl, ?_⟩
     by_cases h1 : 1 < low
     ·rw [show decide ((1 : Int) < (low : Int)) = true from decide_eq_true (by omega)]
      refine iteT ?_
      refine take_w (i := 0) rfl hp6 (by decide) (by decide) fun r7 H7 r70 r73 s7 hp7 => ?_
      refine ⟨_, _, rfl, rfl, _, rfl, ?_⟩
      refine ite2 (fun _ => ?_) (fun _ => skip H7 s7 hp7)
      have hl7 := s7.keep _ _ hl6 (by simpa using lp)
      have hR7 := s7.keep _ _ hR6 (by simpa using Rp)
      refine ⟨_, rfl, _, rfl, _, rfl, _, rfl, _, _, rfl, rfl, _, rfl, p, l, R, ks, a' - 1, b, low - 1, m, by rw [show ((low - 1 : Nat) : Int) = (low : Int) - 1 by omega]; rfl, hp7, hl7, hR7, lp, lR, Rp, ⟨by omega, b1, b9⟩, ⟨by omega, by omega, by omega⟩, ⟨m9, m30⟩, ⟨k8, kn⟩, fun v g a2 H8 s8 hp8 hR8 hg gok gp gd gw => ?_⟩
      have nFF : F ∉ [p, R] := by simp [Fp, FR]
      exact hnx _ _ ⟨v, g, a2, rfl, (s06.trans (s7.mono (by simp))).trans s8, hp8, s8.keep _ _ (s7.keep _ _ hF6 (nF Fp)) nFF, hR8, (hbs6.sb s7 Gr.noList_pEnc).sb s8 Gr.noList_pEnc, hg, gok, by omega, by omega, gw⟩
     ·rw [show decide ((1 : Int) < (low : Int)) = false from decide_eq_false (by omega)]
      exact iteF (skip H6 SB.refl hp6)
    obtain ⟨iv, g, a2, rfl, s07, hp7, hF7, hR7, hbs7, hg7, gok, gp, gd, gw⟩ := h7
    refine ⟨_, rfl, _, rfl, by show 2 <= sizeLine; decide, fun T hT => ?_⟩
    have t8 := SB.new (ps := []) hT (.tup [.str nm, iv])
    have dT : Dp K (upd H7 T (.tup [.str nm, iv])) (.ref T) (Gr.tEnc (nm, g)) := .tup (.inl (.inl upd_same)) (.cons (.str _) (.cons (hg7.sb t8) .nil))
    have hp8 := hp7.sb t8
    have hF8 := t8.keep _ _ hF7 nmn
    have hR8 := t8.keep _ _ hR7 nmn
    have hbs8 := hbs7.sb t8 Gr.noList_pEnc
    have s08 := s07.trans (t8.nil (ps := [p, R]))
    generalize upd H7 T (.tup [.str nm, iv]) = H8 at t8 dT hp8 hF8 hR8 hbs8 s08
    have shT : SeqAt.shaped (Gr.tEnc (nm, g)) = true := Gr.shaped_tEnc nmo gok (by show g.deep <= 20; omega)
    refine ⟨_, rfl, _, rfl, p, m, rfl, hp8, m9, m200, fun r9 H9 r91 r9m s9 hp9 => ?_⟩
    have hF9 := s9.keep _ _ hF8 (nF Fp)
    have hR9 := s9.keep _ _ hR8 (by simpa using Rp)
    have hbs9 := hbs8.sb s9 Gr.noList_pEnc
    have dT9 := Dp_sb s9 _ _ (Gr.noList_tEnc _) dT
    have s09 := s08.trans (s9.mono (qs := [p, R]) (by simp))
    refine ⟨_, rfl, F, rfl, ⟨_, SqL.of hF9⟩, fun D hD => ?_⟩
    refine lc_seq (walk_list (xs := ys)) hD (by omega) (fun _ us _ => ∃ ns : List Int, us = ns.map V.int /\ ∀ x ∈ ns, 0 <= x) ⟨[], rfl, by simp⟩ (fun H6 s6 => s6.sqL nmn (SqL.of hF9)) (fun _ _ _ _ _ h => h) (fun Pv j x Hz H10 us hj s10 y hR' hl6 fin fin2 => ?_) (fun us H10 s10 hD10 hR' _ => ?_)
    ·obtain ⟨rfl, ex⟩ := y
     obtain ⟨pr, ep, hpd⟩ := hbs9.get ex
     obtain ⟨p1, p2, p3, p4, p5, _⟩ := ok pr (List.mem_of_getElem? ep)
     obtain ⟨ad, td, ux, rfl, hs2, hs3, hga, hdt⟩ := PA_parts hpd
     obtain ⟨ns, rfl, nn⟩ := hR'
     refine ⟨ad, _, rfl, s10.sqT hs2, rfl, _, _, rfl, _, _, rfl, rfl, rfl, ?_⟩
     refine ⟨_, rfl, _, rfl, _, _, Dp_sb s10 _ _ (Gr.noList_tEnc _) hdt, Dp_sb s10 _ _ (Gr.noList_tEnc _) dT9, Gr.shaped_tEnc p1 p2 (by omega), shT, _, rfl, ?_⟩
     refine ite2 (fun _ => ?_) (fun _ => fin2 _ SB.refl ⟨ns, rfl, nn⟩)
     refine ⟨_, rfl, fin _ _ SB.refl ⟨ns ++ [pr.2], by rw [List.map_append]; rfl, fun x hx => ?_⟩⟩
     rcases List.mem_append.mp hx with hx | hx
     ·exact nn x hx
     ·rw [List.mem_singleton.mp hx]; omega
    obtain ⟨ns, rfl, nn⟩ := hR'
    have hsum : 0 <= ns.sum := sum_from0 nn
    refine ⟨D, ns, rfl, SqL.of hD10, _, _, rfl, rfl, ?_⟩
    generalize ns.sum = sm at hsum
    clear hD10 nn
    have hF10 := s10.keep _ _ hF9 nmn
    have hbs10 := hbs9.sb s10 Gr.noList_pEnc
    have dT10 := Dp_sb s10 _ _ (Gr.noList_tEnc _) dT9
    refine ⟨_, rfl, F, rfl, ⟨_, SqL.of hF10⟩, fun D2 hD2 => ?_⟩
    refine lc_seq (walk_list (xs := ys)) hD2 (by omega) (fun j us H7 => Bears K H7 Gr.pEnc us ((bs.take j).filter fun x => decide (x.1 ≠ (nm, g)))) .nil (fun H7 s7 => s7.sqL nmn (SqL.of hF10)) (fun _ _ _ _ e h => h.sb e Gr.noList_pEnc) (fun Pv j x Hz H11 us hj s11 y hR' hl7 fin fin2 => ?_) (fun us H11 s11 hD11 hR' hl7 => ?_)
    ·obtain ⟨rfl, ex⟩ := y
     obtain ⟨pr, ep, hpd⟩ := hbs10.get ex
     obtain ⟨p1, p2, p3, p4, p5, _⟩ := ok pr (List.mem_of_getElem? ep)
     obtain ⟨ad, td, ux, rfl, hs2, hs3, hga, hdt⟩ := PA_parts hpd
     refine ⟨rfl, _, rfl, ad, _, _, _, rfl, rfl, s11.sqT hs2, atI_nat (j := 0) rfl, _, rfl, _, _, Dp_sb s11 _ _ (Gr.noList_tEnc _) hdt, Dp_sb s11 _ _ (Gr.noList_tEnc _) dT10, Gr.shaped_tEnc p1 p2 (by omega), shT, _, rfl, ?_⟩
     rw [Orderly.eq (enc := Gr.tEnc) pr.1 (nm, g)]
     by_cases e : pr.1 = (nm, g)
     ·rw [decide_eq_true e]
      refine iteF (fin2 _ SB.refl ?_)
      rw [List.take_add_one, ep, Option.toList_some, List.filter_append, List.filter_cons_of_neg (by simpa using e), List.filter_nil, List.append_nil]
      exact hR'
     ·rw [decide_eq_false e]
      refine iteT ⟨_, rfl, fin _ _ SB.refl ?_⟩
      rw [List.take_add_one, ep, Option.toList_some, List.filter_append, List.filter_cons_of_pos (by simpa using e), List.filter_nil]
      exact Bears.append hR' (.cons (Dp_sb s11 _ _ (Gr.noList_pEnc _) hpd) .nil)
    rw [yl, List.take_length] at hR'
    refine ⟨_, rfl, _, rfl, _, rfl, _, _, rfl, ?_⟩
    obtain ⟨mn, hmn, mn1, mn2⟩ : ∃ mn : Int, (if r9 + sm < m then r9 + sm else m) = mn /\ 1 <= mn /\ mn < m + 1 := by
     split
     ·exact ⟨_, rfl, by omega, by omega⟩
     ·exact ⟨_, rfl, by omega, by omega⟩
    simp only [hmn]
    refine ⟨by show 2 <= sizeLine; decide, fun P1 hP1 => ?_⟩
    have t12 := SB.new (ps := []) hP1 (.tup [.ref T, .int mn])
    have dP : Dp K (upd H11 P1 (.tup [.ref T, .int mn])) (.ref P1) (Gr.pEnc ((nm, g), mn)) := .tup (.inl (.inl upd_same)) (.cons (Dp_sb (s11.trans t12) _ _ (Gr.noList_tEnc _) dT10) (.cons (.int _) .nil))
    generalize upd H11 P1 (.tup [.ref T, .int mn]) = H12 at t12 dP
    refine ⟨by show 1 <= sizeLine; decide, fun L1 hL1 => ?_⟩
    have t13 := SB.new (ps := []) hL1 (.lst [.ref P1])
    have ul := hR'.length
    have fl : (bs.filter fun x => decide (x.1 ≠ (nm, g))).length <= bs.length := List.length_filter_le ..
    refine ⟨D2, L1, us, _, rfl, rfl, t13.keep _ _ (t12.keep _ _ hD11 nmn) nmn, upd_same, by show us.length + 1 <= sizeLine; omega, fun F2 hF2' => ?_⟩
    have t14 := SB.new (ps := []) hF2' (.lst (us ++ [.ref P1]))
    have s1114 := (t12.trans t13).trans t14
    have s914 := (s10.trans s11).trans s1114
    have hp13 := hp9.sb ((s10.trans s11).trans (t12.trans t13))
    have hR13 := ((s10.trans s11).trans (t12.trans t13)).keep _ _ hR9 nmn
    refine ⟨s09.trans s914.nil, hp9.sb s914, F2, _, _, a2, _, _, _, _, _, rfl, fun z => hp13.ne hF2' z.symm, fun z => ne_of_none hR13 hF2' z.symm, upd_same, s914.keep _ _ hR9 nmn, Bears.append (hR'.sb s1114 Gr.noList_pEnc) (.cons (Dp_sb (t13.trans t14) _ _ (Gr.noList_pEnc _) dP) .nil), ?_, ?_, ?_, ?_⟩
    ·rw [List.map_append, List.nodup_append]
     refine ⟨(List.Sublist.map _ List.filter_sublist).nodup nd, by simp, fun x hx y hy e => ?_⟩
     obtain ⟨pr, hpr, rfl⟩ := List.mem_map.mp hx
     have h1 := (List.mem_filter.mp hpr).2
     have h2 : y = (nm, g) := by simpa using hy
     rw [h2] at e
     exact of_decide_eq_true h1 e
    ·intro x hx
     rcases List.mem_append.mp hx with hx | hx
     ·exact ok x (List.mem_filter.mp hx).1
     ·rw [List.mem_singleton.mp hx]
      exact ⟨nmo, gok, mn1, mn2, gd, nmk, gw⟩
    ·rw [Gr.tot_append]
     have := tot_filter (fun x => decide (x.1 ≠ (nm, g))) bs
     have e1 : Gr.tot [((nm, g), mn)] = 1 + g.parts := by simp [Gr.tot]
     omega
    ·rw [List.length_append, List.length_singleton]; omega
  ·rw [show decide ((0 : Int) < (a' : Int)) = false from decide_eq_false (by omega)]
   exact iteF ⟨s2, hp2, F, ys, bs, a', _, _, _, _, _, rfl, Fp, FR, hF2, hR2, hbs, nd, ok, ht, by omega⟩
 ·obtain ⟨s2, hp2, F, ys, bs, a', o6, o7, o8, o9, o10, rfl, Fp, FR, hF2, hR2, hbs, nd, ok, ht, hbl⟩ := h2
  have yl := hbs.length
  refine ⟨_, rfl, F, ys, bs, rfl, .inl (SqL.of hF2), hbs, Gr.pEnc_all _, Gr.pEnc_sortable _, by omega, fun x hx => ?_, fun D zs hD hz => ?_⟩
  ·have := Gr.pEnc_depth x
   have := (ok x hx).2.2.2.2.1
   omega
  have t3 := SB.new (ps := []) hD (.lst zs)
  refine ⟨D, zs, rfl, .inl ⟨SqL.of upd_same, fun T hT => ?_⟩⟩
  have t4 := SB.new (ps := []) hT (.tup zs)
  have hz4 : Bears K _ Gr.pEnc zs (srtE Gr.pEnc bs) := (hz.sb t3 Gr.noList_pEnc).sb t4 Gr.noList_pEnc
  have g4 := Bears_ga (.inl (.inl upd_same)) hz4
  have s24 := t3.trans t4
  refine q _ _ a' _ (s2.trans s24.nil) (hp2.sb s24) (s24.keep _ _ hR2 nmn) g4 (srt_ok nd fun x hx => ?_) ?_ ?_ ?_
  ·obtain ⟨a1, a2, a3, a4, _⟩ := ok x hx
   exact ⟨a1, a2, a3, a4⟩
  ·rw [Gr.parts_ofPs, Gr.tot_perm (srtE_perm bs)]
   exact ht
  ·refine Gr.deep_le fun x hx => ?_
   rw [Gr.ps_ofPs] at hx
   have := (ok x ((srtE_perm bs).mem_iff.mp hx)).2.2.2.2.1
   omega
  ·intro x hx
   rw [Gr.within_ps, Gr.ps_ofPs] at hx
   obtain ⟨x', hx', hx⟩ := List.mem_flatMap.mp hx
   obtain ⟨_, _, _, _, _, k1, k2⟩ := ok x' ((srtE_perm bs).mem_iff.mp hx')
   rcases List.mem_cons.mp hx with hx | hx
   ·rw [hx]; exact k1
   ·exact k2 x hx
abbrev N__law_kinds : List Str := ["_law_script", "_law_names_here", "_law_purse_here", "_law_ranked", "_law_kinds_here", "_law_k", "_law_name", "_law_own", "_law_pool", "_law_rules", "_law_wild", "_law_turn", "_law_share", "_law_once"]
theorem sc__law_kinds : FnScope N__law_kinds ["_law_script", "_law_names_here"] (defScope s__law_kinds) := ⟨rfl, rfl, rfl, by decide +kernel, rfl, by decide +kernel, by decide +kernel⟩
theorem ok__law_kinds (B : BI mg) (G__law_purse : Got P w K mg base "_law_purse" ["_law_script", "_law_k"] (1) (spPurseW K)) (G__law_take : Got P w K mg base "_law_take" ["_law_purse_here", "_law_many_here"] (1) (spTakeW)) (G__law_wood : Got P w K mg base "_law_wood" ["_law_purse_here", "_law_pool", "_law_room", "_law_low_here", "_law_most"] (15) (spWood K 13)) (F : Fun K "_law_kinds" "_law_kinds" s__law_kinds f fd) : FnOk P w K mg base CX0 (16) f fd ["_law_script", "_law_names_here"] (spKindsP K) := by
 refine F.ok sc__law_kinds (fun vs H Q E h => ?_) (fun cdv A outer s H vs Q E hr h => ?_)
 ·obtain ⟨a, l, ns, ks, rfl, _⟩ := h
  rfl
 obtain ⟨a, l, ns, ks, rfl, hs, nl, hl, k1, k8, knd, kn, q⟩ := h
 have hun2 := hunT hr
 refine ⟨_, pss_cons (ps_set (i := 2) sc__law_kinds.nd rfl (.inr rfl) (pe_got G__law_purse (hr.mono (by omega)) rfl (pa_cons (pv 0) (pa_cons pe_int pa_nil))))
  (pss_cons (ps_set (i := 3) sc__law_kinds.nd rfl (.inl rfl) (pe_cmpR op_gt (pe_got G__law_take (hr.mono (by omega)) rfl (pa_cons (pv 2) (pa_cons pe_int pa_nil))) pe_int (nomark _)))
  (pss_cons (ps_set (i := 4) sc__law_kinds.nd rfl (.inr rfl) (pe_lst pa_nil))
  (pss_cons (ps_for PassesOwn.never rfl (pi_enum rfl B.enumerate (pa_cons (pv 1) pa_nil)) (pg_tup rfl (pgs_cons (pg_name (i := 5) sc__law_kinds.nd rfl (.inl rfl)) (pgs_cons (pg_name (i := 6) sc__law_kinds.nd rfl (.inl rfl)) pgs_nil)))
   (pss_cons (ps_set (i := 7) sc__law_kinds.nd rfl (.inl rfl) (pe_got G__law_purse (hr.mono (by omega)) rfl (pa_cons (pv 0) (pa_cons (pe_op op_add pe_int (pv 5)) pa_nil))))
  (pss_cons (ps_set (i := 8) sc__law_kinds.nd rfl (.inl rfl) (pe_callTy call_list_of rfl B.list boot_list (pa_cons (pv 1) pa_nil)))
  (pss_cons (ps_if (pt_val (pv 3)) (pss_one (ps_set (i := 8) sc__law_kinds.nd rfl (.inl rfl) (pe_slice sl_list (pv 1) (po_some (pe_op op_add (pv 5) pe_int)) po_none))) pss_nil)
  (pss_cons (ps_set (i := 9) sc__law_kinds.nd rfl (.inl rfl) (pe_lst pa_nil))
  (pss_cons (ps_set (i := 10) sc__law_kinds.nd rfl (.inl rfl) (pe_cmpR op_eq (pe_got G__law_take (hr.mono (by omega)) rfl (pa_cons (pv 7) (pa_cons pe_int pa_nil))) pe_int (nomark _)))
  (pss_cons (ps_for PassesOwn.never rfl (pi_range1 rfl B.range (pa_cons (pe_got G__law_take (hr.mono (by omega)) rfl (pa_cons (pv 7) (pa_cons pe_int pa_nil))) pa_nil)) (pg_name (i := 11) sc__law_kinds.nd rfl (.inl rfl))
   (pss_cons (ps_set (i := 12) sc__law_kinds.nd rfl (.inl rfl) (pe_got G__law_take (hr.mono (by omega)) rfl (pa_cons (pv 7) (pa_cons pe_int pa_nil))))
  (pss_cons (ps_set (i := 13) sc__law_kinds.nd rfl (.inl rfl) (pe_got G__law_wood (hr.mono (by omega)) rfl (pa_cons (pv 7) (pa_cons (pv 8) (pa_cons (pe_lst (pa_cons (pv 12) (pa_cons pe_int pa_nil))) (pa_cons pe_int (pa_cons (pe_op op_pow pe_int pe_int) pa_nil)))))))
  (pss_one (ps_expr (pe_bm PySem.F.plainAttrs_list PySem.F.slot_list_append PySem.F.type_list_append mt_append (pv 9) (pa_cons (pe_tup (pa_cons (pv 13) (pa_cons (pe_got G__law_wood (hr.mono (by omega)) rfl (pa_cons (pv 7) (pa_cons (pv 8) (pa_cons (pe_lst (pa_cons (pe_op op_sub pe_int (pv 12)) (pa_cons pe_int pa_nil))) (pa_cons pe_int (pa_cons (pe_op op_pow pe_int pe_int) pa_nil)))))) pa_nil))) pa_nil)))))))
  (pss_one (ps_expr (pe_bm PySem.F.plainAttrs_list PySem.F.slot_list_append PySem.F.type_list_append mt_append (pv 4) (pa_cons (pe_tup (pa_cons (pv 6) (pa_cons (pv 10) (pa_cons (pv 9) pa_nil)))) pa_nil)))))))))))
  (pss_one (ps_ret (pe_lc (own := [("_law_k", 5)]) (g := (gName 5)) (tt := tYes) (te := (tBM K "list" rPopAt (tVar 4) (tCons (tCall (spTakeW) [] E0 (tCons (tVar 2) (tCons (tCB (fun xs H Q => ∃ p ys, xs = [.ref p] /\ (SqL K H p ys \/ SqT K H p ys) /\ Q (.int ys.length) H) (tCons (tVar 4) tNil)) tNil))) tNil))) rfl sc__law_kinds.nd (pi_range1 rfl B.range (pa_cons (pe_callB call_len_seq rfl B.len PySem.boot_len (pa_cons (pv 1) pa_nil)) pa_nil)) (blkOk_by (N := N__law_kinds) (sc := defScope s__law_kinds) (by decide +kernel)) (fun _ _ _ _ _ => (pg_name (i := 5) sc__law_kinds.nd rfl (.inl rfl))) (fun _ _ _ _ _ => pts_nil) (fun _ _ _ _ _ => (pe_bm PySem.F.plainAttrs_list PySem.F.slot_list_pop PySem.F.type_list_pop mt_popAt (pv 4) (pa_cons (pe_got G__law_take (hr.mono (by omega)) rfl (pa_cons (pv 2) (pa_cons (pe_callB call_len_seq rfl B.len PySem.boot_len (pa_cons (pv 4) pa_nil)) pa_nil))) pa_nil))))))))), ?_⟩
 have szl := sizeLine_eq
 refine ⟨_, rfl, a, ns, 1, rfl, hs, nl, by omega, fun p0 H1 s1 np1 hp1 => ?_⟩
 refine take_w (i := 2) rfl hp1 (by decide) (by decide) fun r2 H2 r20 r23 s2 hp2 => ?_
 refine ⟨_, _, rfl, rfl, ?_⟩
 have s02 : SB [] H H2 := ((s1.nil (ps := [p0])).trans s2).drop np1
 have hl2 := s02.keep _ _ hl nmn
 refine ⟨(by show 0 <= sizeLine; decide), fun KL hKL => ?_⟩
 have t3 := SB.new (ps := []) hKL (.lst [])
 have s03 := s02.trans t3
 have nKL : H KL = none := s02.dom _ hKL
 have lK : l ≠ KL := ne_of_none hl2 hKL
 have pK : p0 ≠ KL := hp2.ne hKL
 have hp3 := hp2.sb t3
 have hl3 := t3.keep _ _ hl2 nmn
 have hK3 : upd H2 KL (.lst []) KL = some (.lst []) := upd_same
 generalize upd H2 KL (.lst []) = H3 at t3 s03 hp3 hl3 hK3
 refine ⟨_, rfl, l, _, rfl, SqL.of hl3, ?_⟩
 refine for_it (walk_enum (K := K) (a := l) (xs := ks.map V.str)) (fun i σ H2 => SB [KL] H3 H2 /\ ∃ (xs : List V) (b : Bk) (o5 o6 o7 o8 o9 o10 o11 o12 o13 : Option V), σ = [some (.ref a), some (.ref l), some (.ref p0), some (.bl (decide ((0 : Int) < r2))), some (.ref KL), o5, o6, o7, o8, o9, o10, o11, o12, o13] /\ H2 KL = some (.lst xs) /\ KdAll K H2 [KL, p0] xs b /\ b.names = ks.take i /\ ∀ k ∈ b, KdOk ks k)
  ⟨SB.refl, [], [], _, _, _, _, _, _, _, _, _, rfl, hK3, .nil, rfl, by simp⟩ (fun i σ H2 hi h2 => SqL.of (h2.1.keep _ _ hl3 (by simpa using lK))) (fun i x σ H10 H' hi h2 y => ?_) (fun σ H10 h2 => ?_)
 ·obtain ⟨s10, xs, b, o5, o6, o7, o8, o9, o10, o11, o12, o13, rfl, hK10, hb10, bn, bo⟩ := h2
  obtain ⟨T0, x1, y1, rfl, hT0, rfl, ex, ey⟩ := y
  have ex : some (V.int (i : Nat)) = some x1 := ex
  cases ex
  have ey : (ks.map V.str)[i]? = some y1 := ey
  rw [List.length_map] at hi
  rw [List.getElem?_map, List.getElem?_eq_getElem hi] at ey
  cases ey
  have enm : ks[i]? = some ks[i] := List.getElem?_eq_getElem hi
  generalize ks[i] = nm at enm
  have nmk : nm ∈ ks := List.mem_of_getElem? enm
  have t11 := SB.new (ps := []) hT0 (.tup [.int (i : Nat), .str nm])
  have hT11 : upd H10 T0 (.tup [.int (i : Nat), .str nm]) T0 = some (.tup [.int (i : Nat), .str nm]) := upd_same
  have s911 := s10.trans (t11.nil (ps := [KL]))
  have hK11 := t11.keep _ _ hK10 nmn
  have hb11 := hb10.sb t11 NoLst.nil
  have s011 : SB [] H (upd H10 T0 (.tup [.int (i : Nat), .str nm])) := ((s03.nil (ps := [KL])).trans s911).drop nKL
  generalize upd H10 T0 (.tup [.int (i : Nat), .str nm]) = H11 at t11 hT11 s911 hK11 hb11 s011
  refine ⟨T0, _, rfl, SqT.of hT11, rfl, _, _, rfl, _, _, rfl, rfl, ?_⟩
  refine ⟨_, rfl, _, rfl, _, _, rfl, rfl, a, ns, 2 + i, (by show [V.ref a, V.int (2 + (i : Int))] = [V.ref a, V.int ((2 + i : Nat) : Int)]; rw [Int.natCast_add]; rfl), s011.sqL nmn hs, nl, by omega, fun pp H12 s12 npp hp12 => ?_⟩
  have s912 := s911.trans (s12.nil (ps := [KL]))
  have hl12 := s912.keep _ _ hl3 (by simpa using lK)
  refine ⟨_, rfl, l, _, rfl, .inl (SqL.of hl12), fun P0 hP0 => ?_⟩
  have t13 := SB.new (ps := []) hP0 (.lst (ks.map V.str))
  have hP13 : upd H12 P0 (.lst (ks.map V.str)) P0 = some (.lst (ks.map V.str)) := upd_same
  have hp13 := hp12.sb t13
  have s913 := s912.trans (t13.nil (ps := [KL]))
  have hK13 := t13.keep _ _ (s12.keep _ _ hK11 nmn) nmn
  have hl13 := t13.keep _ _ hl12 nmn
  have hpP : pp ≠ P0 := hp12.ne hP0
  have npK : pp ≠ KL := fun z => by rw [z] at npp; rw [npp] at hK11; cases hK11
  have KP : KL ≠ P0 := ne_of_none (s12.keep _ _ hK11 nmn) hP0
  have s1113 := s12.trans t13
  generalize upd H12 P0 (.lst (ks.map V.str)) = H13 at t13 hP13 hp13 s913 hK13 hl13 s1113
  refine nameI (seq_via (fun σ' H' => ∃ (Pl : Addr) (ps : List Str), σ' = [some (.ref a), some (.ref l), some (.ref p0), some (.bl (decide ((0 : Int) < r2))), some (.ref KL), some (.int (i : Nat)), some (.str nm), some (.ref pp), some (.ref Pl), o9, o10, o11, o12, o13] /\ SB [] H13 H' /\ H' Pl = some (.lst (ps.map V.str)) /\ Pl ≠ pp /\ Pl ≠ KL /\ ps.length <= 8 /\ ∀ z ∈ ps, z ∈ ks) (fun nx hnx => ?_) (fun σ' H14 h => ?_))
  ·refine ⟨_, rfl, _, rfl, ?_⟩
   refine ite2 (fun _ => ?_) (fun _ => ?_)
   ·refine ⟨_, rfl, _, rfl, _, _, rfl, rfl, _, rfl, l, _, rfl, SqL.of hl13, fun P1 hP1 => ?_⟩
    have e1 : cutV (ks.map V.str) (some ((i : Int) + 1)) none = (ks.drop (i + 1)).map V.str := by
     rw [<- cutDropS]; rfl
    rw [e1]
    have hp1 : pp ≠ P1 := hp13.ne hP1
    have hk1 : KL ≠ P1 := ne_of_none hK13 hP1
    exact hnx _ _ ⟨P1, ks.drop (i + 1), rfl, SB.new hP1 _, upd_same, fun z => hp1 z.symm, fun z => hk1 z.symm, by rw [List.length_drop]; omega, fun z hz => List.mem_of_mem_drop hz⟩
   ·exact hnx _ _ ⟨P0, ks, rfl, SB.refl, hP13, fun z => hpP z.symm, fun z => KP z.symm, k8, fun z hz => hz⟩
  obtain ⟨Pl, ps, rfl, s14, hPl, Plp, PlK, pl8, psk⟩ := h
  have hp14 := hp13.sb s14
  refine ⟨(by show 0 <= sizeLine; decide), fun RL hRL => ?_⟩
  have t15 := SB.new (ps := []) hRL (.lst [])
  have hR15 : upd H14 RL (.lst []) RL = some (.lst []) := upd_same
  have hp15 := hp14.sb t15
  have hPl15 := t15.keep _ _ hPl nmn
  have hK15 := t15.keep _ _ (s14.keep _ _ hK13 nmn) nmn
  have Rpp : RL ≠ pp := fun z => hp14.ne hRL z.symm
  have RK : RL ≠ KL := fun z => ne_of_none (s14.keep _ _ hK13 nmn) hRL z.symm
  have RP : Pl ≠ RL := ne_of_none hPl hRL
  have s1115 := (s1113.trans s14).trans t15
  have nRL : H11 RL = none := (s1113.trans s14).dom _ hRL
  generalize upd H14 RL (.lst []) = H15 at t15 hR15 hp15 hPl15 hK15 s1115
  refine take_w (i := 7) rfl hp15 (by decide) (by decide) fun r16 H16 r160 r162 s16 hp16 => ?_
  refine ⟨rfl, ?_⟩
  generalize decide (V.int r16 = V.int 1) = wd
  refine take_w (i := 7) rfl hp16 (by decide) (by decide) fun r17 H17 r170 r175 s17 hp17 => ?_
  obtain ⟨c, rfl⟩ : ∃ c : Nat, r17 = (c : Int) := ⟨r17.toNat, by omega⟩
  refine ⟨_, rfl, by omega, by omega, ?_⟩
  rw [Int.toNat_natCast]
  have s1517 := s16.trans s17
  have hR17 := s1517.keep _ _ hR15 (by simpa using Rpp)
  have hPl17 := s1517.keep _ _ hPl15 (by simpa using Plp)
  refine for_it walk_range (fun j σ H2 => SB [pp, RL] H17 H2 /\ PuW H2 pp /\ ∃ (us : List V) (rs : List Ru) (o11 o12 o13 : Option V), σ = [some (.ref a), some (.ref l), some (.ref p0), some (.bl (decide ((0 : Int) < r2))), some (.ref KL), some (.int (i : Nat)), some (.str nm), some (.ref pp), some (.ref Pl), some (.ref RL), some (.bl wd), o11, o12, o13] /\ H2 RL = some (.lst us) /\ Bears K H2 Ru.enc us rs /\ rs.length = j /\ ∀ r ∈ rs, RuOk r /\ ∀ q ∈ Ru.within r, q.1.1 ∈ ks)
   ⟨SB.refl, hp17, [], [], _, _, _, rfl, hR17, .nil, rfl, by simp⟩ (fun _ _ _ _ _ => trivial) (fun j x σ Hq H18 hj h2 y => ?_) (fun σ H18 h2 => ?_)
  ·obtain ⟨s18, hp18, us, rs, o11, o12, o13, rfl, hR18, hbr, rl, ro⟩ := h2
   obtain ⟨rfl, rfl⟩ := y
   have ul := hbr.length
   refine take_w (i := 7) rfl hp18 (by decide) (by decide) fun r19 H19 r190 r195 s19 hp19 => ?_
   obtain ⟨u, rfl⟩ : ∃ u : Nat, r19 = (u : Int) := ⟨r19.toNat, by omega⟩
   have hPl19 := s19.keep _ _ (s18.keep _ _ hPl17 (by simp [Plp, RP])) (by simpa using Plp)
   have hR19 := s19.keep _ _ hR18 (by simpa using Rpp)
   refine ⟨_, rfl, _, rfl, _, rfl, by show 2 <= sizeLine; decide, fun R1 hR1 => ?_⟩
   have t20 := SB.new (ps := []) hR1 (.lst [.int (u : Int), .int 4])
   have hp20 := hp19.sb t20
   have hPl20 := t20.keep _ _ hPl19 nmn
   have hR20 := t20.keep _ _ hR19 nmn
   have hR120 : upd H19 R1 (.lst [.int (u : Int), .int 4]) R1 = some (.lst [.int (u : Int), .int 4]) := upd_same
   have R1p : R1 ≠ pp := fun z => hp19.ne hR1 z.symm
   have R1P : Pl ≠ R1 := ne_of_none hPl19 hR1
   have R1R : RL ≠ R1 := ne_of_none hR19 hR1
   generalize upd H19 R1 (.lst [.int (u : Int), .int 4]) = H20 at t20 hp20 hPl20 hR20 hR120
   refine ⟨_, _, rfl, rfl, ⟨by decide, by decide, by decide⟩, pp, Pl, R1, ps, u, 4, 4, _, rfl, hp20, hPl20, hR120, Plp, R1P, R1p, by omega, by omega, ⟨by decide, by decide⟩, ⟨pl8, fun z hz => kn z (psk z hz)⟩, fun v1 g1 a1 H21 s21 hp21 _ hg1 ok1 pa1 d1 w1 => ?_⟩
   have s1921 : SB [pp] H19 H21 := (((t20.nil (ps := [pp, R1])).trans s21).mono (qs := [R1, pp]) (by simp)).drop hR1
   have hR21 := s1921.keep _ _ hR19 (by simpa using Rpp)
   have hPl21 := s1921.keep _ _ hPl19 (by simpa using Plp)
   refine ⟨_, rfl, .inl ⟨rfl, _, SqL.of hR21⟩, _, rfl, _, rfl, _, rfl, _, rfl, _, _, rfl, rfl, by show 2 <= sizeLine; decide, fun R2 hR2 => ?_⟩
   have e4 : (4 : Int) - (u : Int) = ((4 - u : Nat) : Int) := by omega
   have t22 := SB.new (ps := []) hR2 (.lst [.int ((4 : Int) - (u : Int)), .int 4])
   have hp22 := hp21.sb t22
   have hPl22 := t22.keep _ _ hPl21 nmn
   have hR222 : upd H21 R2 (.lst [.int ((4 : Int) - (u : Int)), .int 4]) R2 = some (.lst [.int ((4 : Int) - (u : Int)), .int 4]) := upd_same
   have R2p : R2 ≠ pp := fun z => hp21.ne hR2 z.symm
   have R2P : Pl ≠ R2 := ne_of_none hPl21 hR2
   generalize upd H21 R2 (.lst [.int ((4 : Int) - (u : Int)), .int 4]) = H22 at t22 hp22 hPl22 hR222
   refine ⟨_, _, rfl, rfl, ⟨by decide, by decide, by decide⟩, pp, Pl, R2, ps, 4 - u, 4, 4, _, rfl, hp22, hPl22, (by rw [<- e4]; exact hR222), Plp, R2P, R2p, by omega, by omega, ⟨by decide, by decide⟩, ⟨pl8, fun z hz => kn z (psk z hz)⟩, fun v2 g2 a2 H23 s23 hp23 _ hg2 ok2 pa2 d2 w2 => ?_⟩
   have s2123 : SB [pp] H21 H23 := (((t22.nil (ps := [pp, R2])).trans s23).mono (qs := [R2, pp]) (by simp)).drop hR2
   have hR23 := s2123.keep _ _ hR21 (by simpa using Rpp)
   refine ⟨by show 2 <= sizeLine; decide, fun T hT => ?_⟩
   have t24 := SB.new (ps := []) hT (.tup [v1, v2])
   have hR24 := t24.keep _ _ hR23 nmn
   have hT24 : SqT K (upd H23 T (.tup [v1, v2])) T [v1, v2] := SqT.of upd_same
   generalize upd H23 T (.tup [v1, v2]) = H24 at t24 hR24 hT24
   refine ⟨RL, _, _, rfl, rfl, hR24, by omega, ?_⟩
   have t25 := SB.set (ps := [RL]) hR24 (by simp) (.lst (us ++ [.ref T]))
   have s1824 : SB [pp] H18 H24 := (((s19.trans s1921).trans s2123).trans t24.nil)
   refine ⟨(s18.trans (s1824.mono (by simp))).trans (t25.mono (by simp)), (hp23.sb t24).keep t25 (by simpa using fun z : pp = RL => Rpp z.symm), us ++ [.ref T], rs ++ [(g1, g2)], _, _, _, rfl, upd_same, ?_, by simp [rl], fun r hr => ?_⟩
   ·exact ((hbr.sb s1824 Ru.noList_enc).sb t25 Ru.noList_enc).append (.cons (.tup (t25.sqT hT24) (.cons (GA.sb (GA.sb (GA.sb hg1 s2123) t24) t25) (.cons (GA.sb (GA.sb hg2 t24) t25) .nil))) .nil)
   ·rcases List.mem_append.mp hr with hr | hr
    ·exact ro r hr
    ·rw [List.mem_singleton.mp hr]
     refine ⟨⟨ok1, ok2, by show g1.parts + g2.parts <= 4; omega⟩, fun q hq => ?_⟩
     rcases List.mem_append.mp hq with hq | hq
     ·exact psk _ (w1 q hq)
     ·exact psk _ (w2 q hq)
  obtain ⟨s18, hp18, us, rs, o11, o12, o13, rfl, hR18, hbr, rl, ro⟩ := h2
  have Rp0 : RL ≠ p0 := fun z => (hp3.keep (s913.trans s14.nil) (by simpa using pK)).ne hRL z.symm
  have s1518 : SB [pp, RL] H15 H18 := (s1517.mono (by simp)).trans s18
  have s1118 : SB [] H11 H18 := (((s1115.nil (ps := [pp, RL])).trans s1518).drop npp).drop nRL
  have hK18 := s1118.keep _ _ hK11 nmn
  have xl := hb11.length
  have bl : b.length <= i := by
   have : (Bk.names b).length = (ks.take i).length := by rw [bn]
   rw [List.length_map, List.length_take] at this
   omega
  refine ⟨_, rfl, .inl ⟨rfl, _, SqL.of hK18⟩, _, rfl, _, rfl, _, rfl, by show 3 <= sizeLine; decide, fun T hT => ?_⟩
  have t19 := SB.new (ps := []) hT (.tup [.str nm, .bl wd, .ref RL])
  have hT19 : SqT K (upd H18 T (.tup [.str nm, .bl wd, .ref RL])) T [.str nm, .bl wd, .ref RL] := SqT.of upd_same
  have hK19 := t19.keep _ _ hK18 nmn
  have hR19 := t19.keep _ _ hR18 nmn
  have hbr19 := hbr.sb t19 Ru.noList_enc
  have s1119 := s1118.trans t19
  generalize upd H18 T (.tup [.str nm, .bl wd, .ref RL]) = H19 at t19 hT19 hK19 hR19 hbr19 s1119
  have nl20 : NoLst H19 [KL, p0] [KL] := fun p hp => .inl (by simp at hp; simp [hp])
  have t20 := SB.set (ps := [KL]) hK19 (by simp) (.lst (xs ++ [.ref T]))
  refine ⟨KL, _, _, rfl, rfl, hK19, by omega, ⟨(s911.trans (s1119.nil (ps := [KL]))).trans t20, xs ++ [.ref T], b ++ [⟨nm, wd, rs⟩], _, _, _, _, _, _, _, _, _, rfl, upd_same, ?_, ?_, ?_⟩⟩
  ·exact ((hb11.sb s1119 NoLst.nil).sb t20 nl20).append (.cons ⟨T, RL, us, rfl, t20.sqT hT19, t20.keep _ _ hR19 (by simpa using RK), hbr19.sb t20 Ru.noList_enc, by simp [RK, Rp0]⟩ .nil)
  ·rw [Bk.names, List.map_append, List.take_add_one, enm]
   show Bk.names b ++ [nm] = _
   rw [bn]; rfl
  ·intro k hk
   rcases List.mem_append.mp hk with hk | hk
   ·exact bo k hk
   ·rw [List.mem_singleton.mp hk]
    exact ⟨kn nm nmk, by show rs.length <= 4; omega, ro⟩
 obtain ⟨s10, xs, b, o5, o6, o7, o8, o9, o10, o11, o12, o13, rfl, hK10, hb10, bn, bo⟩ := h2
 rw [List.length_map, List.take_length] at bn
 have bl : b.length = ks.length := by rw [<- bn]; simp
 have hp10 := hp3.keep s10 (by simpa using pK)
 have hl10 := s10.keep _ _ hl3 (by simpa using lK)
 refine ⟨_, rfl, l, _, rfl, .inl (SqL.of hl10), _, rfl, by rw [List.length_map]; omega, by rw [List.length_map]; omega, fun D hD => ?_⟩
 rw [List.length_map, Int.toNat_natCast]
 have s010 := (s03.nil (ps := [KL])).trans s10
 have nD : H D = none := s010.dom _ hD
 have pD : p0 ≠ D := hp10.ne hD
 have KD : KL ≠ D := ne_of_none hK10 hD
 refine lc_seqP walk_range [p0, KL] hD (fun q hq z => ?_) (by omega) (fun j us H2 => PuW H2 p0 /\ ∃ (zs : List V) (b1 b2 : Bk), H2 KL = some (.lst zs) /\ KdAll K H2 [D, KL, p0] zs b2 /\ KdAll K H2 [D, KL, p0] us b1 /\ b1.length = j /\ (b1 ++ b2).Perm b)
  ⟨hp10, xs, [], b, hK10, hb10.bad1 hD, .nil, rfl, List.Perm.refl _⟩ (fun _ _ => trivial) (fun j us H2 H3 e ⟨h1, zs, b1, b2, h2, h3, h4, h5⟩ => ⟨h1.keep e (by simpa using pD), zs, b1, b2, e.keep _ _ h2 (by simpa using KD), h3.sb e (fun p hp => .inl (by simp at hp; simp [hp])), h4.sb e (fun p hp => .inl (by simp at hp; simp [hp])), h5⟩) (fun Pv j x H2 H11 us hj s11 y hR hu fin _ => ?_) (fun us H11 s11 hD11 hR hu => ?_)
 ·rcases List.mem_cons.mp hq with hq | hq
  ·rw [hq] at z; exact hp10.some p0 (by simp) z
  ·rw [List.mem_singleton.mp hq, hK10] at z; cases z
 ·obtain ⟨rfl, rfl⟩ := y
  obtain ⟨h1, zs, b1, b2, h2, h3, h4, h5, pm⟩ := hR
  have zl := h3.length
  have pl := pm.length_eq
  rw [List.length_append] at pl
  refine ⟨rfl, _, rfl, .inl ⟨rfl, _, SqL.of h2⟩, _, rfl, _, rfl, KL, _, rfl, .inl (SqL.of h2), p0, _, rfl, h1, by omega, by omega, fun r9 H12 r90 r9m s12 hp12 => ?_⟩
  obtain ⟨u, rfl⟩ : ∃ u : Nat, r9 = (u : Int) := ⟨r9.toNat, by omega⟩
  have hu' : u < zs.length := by omega
  have hK12 := s12.keep _ _ h2 (by simpa using fun z : KL = p0 => pK z.symm)
  have eu : zs[u]? = some zs[u] := List.getElem?_eq_getElem hu'
  have nls : NoLst H11 [D, KL, p0] [p0] := fun p hp => .inl (by simp at hp; simp [hp])
  obtain ⟨k, ek, hk⟩ := (h3.sb s12 nls).get eu
  refine ⟨KL, _, _, u, zs[u], rfl, rfl, hK12, by omega, by omega, by rw [PySem.seqIndex_of (by omega) (by omega), Int.toNat_natCast], eu, ?_⟩
  have t13 := SB.set (ps := [KL]) hK12 (by simp) (.lst (zs.eraseIdx u))
  have hp13 := hp12.keep t13 (by simpa using pK)
  have nl2 : NoLst H12 [D, KL, p0] [KL] := fun p hp => .inl (by simp at hp; simp [hp])
  refine fin _ _ ((s12.mono (by simp)).trans (t13.mono (by simp))) ⟨hp13, zs.eraseIdx u, b1 ++ [k], b2.eraseIdx u, upd_same, ((h3.sb s12 nls).erase u).sb t13 nl2, (((h4.sb s12 nls).sb t13 nl2)).append (.cons (hk.sb t13 nl2) .nil), by simp [h5], ?_⟩
  rw [List.append_assoc]
  exact (List.Perm.append_left b1 (idx_perm ek)).trans pm
 ·obtain ⟨h1, zs, b1, b2, h2, h3, h4, h5, pm⟩ := hR
  have pl := pm.length_eq
  rw [List.length_append] at pl
  have b20 : b2 = [] := List.eq_nil_of_length_eq_zero (by omega)
  subst b20
  rw [List.append_nil] at pm
  have pn : b1.names.Perm ks := bn ▸ pm.map _
  have ok : b1.Ok := Bk.Ok.of_perm k1 k8 knd pn fun k hk => bo k (pm.mem_iff.mp hk)
  have s011 : SB [p0, KL] H H11 := (s010.mono (by simp)).trans s11
  exact q D us b1 H11 ((s011.drop np1).drop nKL) nD hD11 (h4.less (by simp)) ok pn
abbrev N__law_kind : List Str := ["_law_kinds_here", "_law_name", "_law_kind_here"]
theorem sc__law_kind : FnScope N__law_kind ["_law_kinds_here", "_law_name"] (defScope s__law_kind) := ⟨rfl, rfl, rfl, by decide +kernel, rfl, by decide +kernel, by decide +kernel⟩
theorem ok__law_kind (B : BI mg) (F : Fun K "_law_kind" "_law_kind" s__law_kind f fd) : FnOk P w K mg base CX0 (1) f fd ["_law_kinds_here", "_law_name"] (spKindP K) := by
 refine F.ok sc__law_kind (fun vs H Q E h => ?_) (fun cdv A outer s H vs Q E hr h => ?_)
 ·obtain ⟨l, xs, b, k, rfl, _⟩ := h
  rfl
 obtain ⟨l, xs, b, k, rfl, hl, ha, hk, nd, b8, q⟩ := h
 have hun2 := hunT hr
 refine ⟨_, pss_one (ps_ret (pe_ix ix_list (pe_lc (own := [("_law_kind_here", 2)]) (g := (gName 2)) (tt := (tTest (tOp rEq (tOp (rIxT K) (tVar 2) (tC (.int 0))) (tVar 1)))) (te := (tVar 2)) rfl sc__law_kind.nd (pi_list (pv 0)) (blkOk_by (N := N__law_kind) (sc := defScope s__law_kind) (by decide +kernel)) (fun _ _ _ _ _ => (pg_name (i := 2) sc__law_kind.nd rfl (.inl rfl))) (fun _ _ _ _ _ => (pts_one (pt_cmpR op_eq (pe_ix ix_tup (pv 2) pe_int (fun _ _ => rfl)) (pv 1) (nomark _)))) (fun _ _ _ _ _ => (pv 2))) pe_int (fun _ _ => rfl))), ?_⟩
 have szl := sizeLine_eq
 have xl := ha.length
 obtain ⟨j0, e0⟩ := List.getElem?_of_mem hk
 have hj0 : j0 < xs.length := by have := (List.getElem?_eq_some_iff.mp e0).1; omega
 obtain ⟨k', ek', hk'⟩ := ha.get (List.getElem?_eq_getElem hj0)
 obtain rfl : k' = k := Option.some.inj (ek'.symm.trans e0)
 refine ⟨_, rfl, l, rfl, ⟨_, SqL.of hl⟩, fun D nD => ?_⟩
 refine lc_seq (walk_list (xs := xs)) nD (by omega) (fun i us _ => us = if j0 < i then [xs[j0]] else []) (by simp) (fun H2 s2 => s2.sqL nmn (SqL.of hl)) (fun _ _ _ _ _ h => h) (fun Pv i x Hq H2 us hi s2 y hR hu fin skip => ?_) (fun us H2 s2 hD2 hR hu => ?_)
 ·obtain ⟨rfl, ey⟩ := y
  obtain ⟨ki, eki, t, r, zs, ex, h1, h2, h3, _⟩ := ha.get ey
  refine ⟨rfl, _, rfl, t, _, _, _, ex, rfl, s2.sqT h1, atI_nat (j := 0) rfl, _, rfl, rfl, _, rfl, ?_⟩
  by_cases e : ki.n = k'.n
  ·rw [show decide (V.str ki.n = V.str k'.n) = true from decide_eq_true (by rw [e])]
   have ei : i = j0 := by
    refine (List.getElem?_inj (l := b.names) (i := i) (j := j0) (by rw [List.length_map]; omega) nd).mp ?_
    rw [List.getElem?_map, List.getElem?_map, eki, e0]
    show some ki.n = some k'.n
    rw [e]
   subst ei
   refine iteT ⟨_, rfl, fin _ _ SB.refl ?_⟩
   rw [hR, if_neg (by omega), if_pos (by omega)]
   rw [List.getElem?_eq_getElem hi] at ey
   rw [Option.some.inj ey]; rfl
  ·rw [show decide (V.str ki.n = V.str k'.n) = false from decide_eq_false (fun z => e (V.str.inj z))]
   have ei : i ≠ j0 := fun z => by
    rw [z, e0] at eki
    exact e (congrArg Kd.n (Option.some.inj eki)).symm
   refine iteF (skip _ SB.refl ?_)
   rw [hR]
   by_cases z : j0 < i
   ·rw [if_pos z, if_pos (by omega)]
   ·rw [if_neg z, if_neg (by omega)]
 ·rw [if_pos hj0] at hR
  subst hR
  exact ⟨D, _, _, _, rfl, rfl, SqL.of hD2, atI_nat (j := 0) rfl, q _ _ s2 (hk'.sb s2 NoLst.nil)⟩
abbrev N__law_book : List Str := ["_law_kinds_here", "_law_name", "_law_wild", "_law_rules"]
theorem sc__law_book : FnScope N__law_book ["_law_kinds_here"] (defScope s__law_book) := ⟨rfl, rfl, rfl, by decide +kernel, rfl, by decide +kernel, by decide +kernel⟩
theorem ok__law_book {C_Book C_NoBook : Addr} (B : BI mg) (G_Book___init__ : GotIN P w K mg base "Book" C_Book ["self", "kinds"] (88) (spBInit K C_Book C_NoBook)) (F : Fun K "_law_book" "_law_book" s__law_book f fd) : FnOk P w K mg base CX0 (90) f fd ["_law_kinds_here"] (spMkBook K C_Book) := by
 refine F.ok sc__law_book (fun vs H Q E h => ?_) (fun cdv A outer s H vs Q E hr h => ?_)
 ·obtain ⟨l, xs, b, rfl, _⟩ := h
  rfl
 obtain ⟨l, xs, b, rfl, hl, ha, ok, q⟩ := h
 have hun2 := hunT hr
 refine ⟨_, pss_one (ps_ret (pe_gotIN G_Book___init__ (hr.mono (by omega)) rfl (pa_cons (pe_lc (own := [("_law_name", 1), ("_law_wild", 2), ("_law_rules", 3)]) (g := (gTup K 3 (gCons (gName 1) (gCons (gName 2) (gCons (gName 3) gNil))))) (tt := tYes) (te := (tTup (tCons (tVar 1) (tCons (tVar 2) (tCons (tCB (fun xs H Q => ∃ p ys, xs = [.ref p] /\ (SqL K H p ys \/ SqT K H p ys) /\ ∀ l, H l = none -> Q (.ref l) (upd H l (.lst ys))) (tCons (tVar 3) tNil)) tNil))))) rfl sc__law_book.nd (pi_list (pv 0)) (blkOk_by (N := N__law_book) (sc := defScope s__law_book) (by decide +kernel)) (fun _ _ _ _ _ => (pg_tup rfl (pgs_cons (pg_name (i := 1) sc__law_book.nd rfl (.inl rfl)) (pgs_cons (pg_name (i := 2) sc__law_book.nd rfl (.inl rfl)) (pgs_cons (pg_name (i := 3) sc__law_book.nd rfl (.inl rfl)) pgs_nil))))) (fun _ _ _ _ _ => pts_nil) (fun _ _ _ _ _ => (pe_tup (pa_cons (pv 1) (pa_cons (pv 2) (pa_cons (pe_callTy call_list_of rfl B.list boot_list (pa_cons (pv 3) pa_nil)) pa_nil)))))) pa_nil))), ?_⟩
 exact copy_make (i := 0) rfl (fun _ _ _ => rfl) (fun _ _ _ => rfl) (fun _ _ _ => rfl) (fun _ _ _ => rfl) hl ha ok fun y H' s ny hy => q y H' s ny hy
abbrev N__law_grove : List Str := ["_law_script", "_law_names_here", "_law_purse_here", "_law_room"]
theorem sc__law_grove : FnScope N__law_grove ["_law_script", "_law_names_here"] (defScope s__law_grove) := ⟨rfl, rfl, rfl, by decide +kernel, rfl, by decide +kernel, by decide +kernel⟩
theorem ok__law_grove (B : BI mg) (G__law_purse : Got P w K mg base "_law_purse" ["_law_script", "_law_k"] (1) (spPurseW K)) (G__law_take : Got P w K mg base "_law_take" ["_law_purse_here", "_law_many_here"] (1) (spTakeW)) (G__law_wood : Got P w K mg base "_law_wood" ["_law_purse_here", "_law_pool", "_law_room", "_law_low_here", "_law_most"] (15) (spWood K 13)) (F : Fun K "_law_grove" "_law_grove" s__law_grove f fd) : FnOk P w K mg base CX0 (16) f fd ["_law_script", "_law_names_here"] (spGroveP K) := by
 refine F.ok sc__law_grove (fun vs H Q E h => ?_) (fun cdv A outer s H vs Q E hr h => ?_)
 ·obtain ⟨a, l, ns, ks, rfl, _⟩ := h
  rfl
 obtain ⟨a, l, ns, ks, rfl, hs, nl, hl, k8, kn, q⟩ := h
 have hun2 := hunT hr
 refine ⟨_, pss_cons (ps_set (i := 2) sc__law_grove.nd rfl (.inl rfl) (pe_got G__law_purse (hr.mono (by omega)) rfl (pa_cons (pv 0) (pa_cons pe_int pa_nil))))
  (pss_cons (ps_set (i := 3) sc__law_grove.nd rfl (.inl rfl) (pe_lst (pa_cons (pe_ix ix_list (pe_lst (pa_cons pe_int (pa_cons pe_int (pa_cons pe_int (pa_cons pe_int pa_nil))))) (pe_got G__law_take (hr.mono (by omega)) rfl (pa_cons (pv 2) (pa_cons pe_int pa_nil))) (fun _ _ => rfl)) (pa_cons (pe_ix ix_list (pe_lst (pa_cons pe_int (pa_cons pe_int (pa_cons pe_int (pa_cons pe_int pa_nil))))) (pe_got G__law_take (hr.mono (by omega)) rfl (pa_cons (pv 2) (pa_cons pe_int pa_nil))) (fun _ _ => rfl)) pa_nil))))
  (pss_one (ps_ret (pe_got G__law_wood (hr.mono (by omega)) rfl (pa_cons (pv 2) (pa_cons (pv 1) (pa_cons (pv 3) (pa_cons (pe_op op_add pe_int (pe_got G__law_take (hr.mono (by omega)) rfl (pa_cons (pv 2) (pa_cons pe_int pa_nil)))) (pa_cons (pe_op op_pow pe_int pe_int) pa_nil))))))))), ?_⟩
 have szl := sizeLine_eq
 refine ⟨_, rfl, a, ns, 9, rfl, hs, nl, by omega, fun p H1 s1 np hp1 => ?_⟩
 refine ⟨by show 4 <= sizeLine; decide, fun A1 hA1 => ?_⟩
 have t2 := SB.new (ps := []) hA1 (.lst [.int 3, .int 8, .int 20, .int 60])
 have hp2 := hp1.sb t2
 have hA2 : upd H1 A1 (.lst [.int 3, .int 8, .int 20, .int 60]) A1 = some (.lst [.int 3, .int 8, .int 20, .int 60]) := upd_same
 have Ap : A1 ≠ p := fun z => hp1.ne hA1 z.symm
 generalize upd H1 A1 (.lst [.int 3, .int 8, .int 20, .int 60]) = H2 at t2 hp2 hA2
 refine take_w (i := 2) rfl hp2 (by decide) (by decide) fun r3 H3 r30 r34 s3 hp3 => ?_
 obtain ⟨c1, e1, c60⟩ : ∃ c : Nat, atI [V.int 3, V.int 8, V.int 20, V.int 60] r3 = some (.int (c : Int)) /\ c <= 60 := by
  rcases (by omega : r3 = 0 \/ r3 = 1 \/ r3 = 2 \/ r3 = 3) with rfl | rfl | rfl | rfl
  ·exact ⟨3, rfl, by omega⟩
  ·exact ⟨8, rfl, by omega⟩
  ·exact ⟨20, rfl, by omega⟩
  ·exact ⟨60, rfl, by omega⟩
 refine ⟨A1, _, _, _, rfl, rfl, SqL.of (s3.keep _ _ hA2 (by simpa using Ap)), e1, ?_⟩
 have s03 : SB [] H H3 := (((s1.trans t2).nil (ps := [p])).trans s3).drop np
 refine ⟨by show 4 <= sizeLine; decide, fun A2 hA2' => ?_⟩
 have t4 := SB.new (ps := []) hA2' (.lst [.int 3, .int 4, .int 5, .int 9])
 have hp4 := hp3.sb t4
 have hA4 : upd H3 A2 (.lst [.int 3, .int 4, .int 5, .int 9]) A2 = some (.lst [.int 3, .int 4, .int 5, .int 9]) := upd_same
 have Ap2 : A2 ≠ p := fun z => hp3.ne hA2' z.symm
 generalize upd H3 A2 (.lst [.int 3, .int 4, .int 5, .int 9]) = H4 at t4 hp4 hA4
 refine take_w (i := 2) rfl hp4 (by decide) (by decide) fun r5 H5 r50 r54 s5 hp5 => ?_
 obtain ⟨c2, e2, c1', c9⟩ : ∃ c : Nat, atI [V.int 3, V.int 4, V.int 5, V.int 9] r5 = some (.int (c : Int)) /\ 1 <= c /\ c <= 9 := by
  rcases (by omega : r5 = 0 \/ r5 = 1 \/ r5 = 2 \/ r5 = 3) with rfl | rfl | rfl | rfl
  ·exact ⟨3, rfl, by omega, by omega⟩
  ·exact ⟨4, rfl, by omega, by omega⟩
  ·exact ⟨5, rfl, by omega, by omega⟩
  ·exact ⟨9, rfl, by omega, by omega⟩
 refine ⟨A2, _, _, _, rfl, rfl, SqL.of (s5.keep _ _ hA4 (by simpa using Ap2)), e2, ?_⟩
 have s05 : SB [] H H5 := (((s03.trans t4).nil (ps := [p])).trans s5).drop np
 refine ⟨by show 2 <= sizeLine; decide, fun R hR => ?_⟩
 have t6 := SB.new (ps := []) hR (.lst [.int (c1 : Int), .int (c2 : Int)])
 have hp6 := hp5.sb t6
 have hR6 : upd H5 R (.lst [.int (c1 : Int), .int (c2 : Int)]) R = some (.lst [.int (c1 : Int), .int (c2 : Int)]) := upd_same
 have Rp : R ≠ p := fun z => hp5.ne hR z.symm
 have hl5 := s05.keep _ _ hl nmn
 have lR : l ≠ R := ne_of_none hl5 hR
 have lp : l ≠ p := fun z => by rw [z, np] at hl; cases hl
 have s06 := s05.trans t6
 have nR : H R = none := s05.dom _ hR
 generalize upd H5 R (.lst [.int (c1 : Int), .int (c2 : Int)]) = H6 at t6 hp6 hR6 s06
 refine ⟨_, rfl, _, rfl, _, rfl, ?_⟩
 refine take_w (i := 2) rfl hp6 (by decide) (by decide) fun r7 H7 r70 r712 s7 hp7 => ?_
 obtain ⟨u, rfl⟩ : ∃ u : Nat, r7 = (u : Int) := ⟨r7.toNat, by omega⟩
 have s07 : SB [] H H7 := ((s06.nil (ps := [p])).trans s7).drop np
 refine ⟨_, _, rfl, rfl, _, _, rfl, rfl, ⟨by decide, by decide, by decide⟩, p, l, R, ks, c1, c2, 1 + u, 10 ^ 30, (by show [V.ref p, V.ref l, V.ref R, V.int (1 + (u : Int)), V.int _] = [V.ref p, V.ref l, V.ref R, V.int ((1 + u : Nat) : Int), V.int (10 ^ 30)]; rw [Int.natCast_add]; rfl), hp7, s07.keep _ _ hl nmn, s7.keep _ _ hR6 (by simpa using Rp), lp, lR, Rp, by omega, by omega, ⟨by decide, by decide⟩, ⟨k8, kn⟩, fun v g a' H8 s8 _ _ hg ok pt dp wi => ?_⟩
 exact q v g H8 ((((s07.nil (ps := [p, R])).trans s8).drop np).drop nR) hg ok (by omega) (by omega) wi
abbrev N__law_bare : List Str := ["_law_grove_here", "_law_ahead", "_law_found", "_law_k", "_law_tree", "_law_many_here"]
theorem sc__law_bare : FnScope N__law_bare ["_law_grove_here", "_law_ahead"] (defScope s__law_bare) := ⟨rfl, rfl, rfl, by decide +kernel, rfl, by decide +kernel, by decide +kernel⟩
theorem none__law_bare {ps : List Str} {k : Nat} : FnOk P w K mg base CX0 k f fd ps (spBareF K 0) := none_sp fun vs H Q E ⟨v, u, g, pl, _, _, _, h, _⟩ => by omega
theorem ok__law_bare {n : Nat} (B : BI mg) (G__law_bare : Got P w K mg base "_law_bare" ["_law_grove_here", "_law_ahead"] (n) (spBareF K n)) (F : Fun K "_law_bare" "_law_bare" s__law_bare f fd) : FnOk P w K mg base CX0 (n + 1) f fd ["_law_grove_here", "_law_ahead"] (spBareF K (n + 1)) := by
 refine F.ok sc__law_bare (fun vs H Q E h => ?_) (fun cdv A outer s H vs Q E hr h => ?_)
 ·obtain ⟨v, u, g, pl, rfl, _⟩ := h
  rfl
 obtain ⟨v, u, g, pl, rfl, hv, hu, hd, hd100, hp, ⟨C0, hpl⟩, q⟩ := h
 have hun2 := hunT hr
 refine ⟨_, pss_cons (ps_set (i := 2) sc__law_bare.nd rfl (.inl rfl) (pe_lst pa_nil))
  (pss_cons (ps_for PassesOwn.never rfl (pi_enumT rfl B.enumerate (pv 0)) (pg_tup rfl (pgs_cons (pg_name (i := 3) sc__law_bare.nd rfl (.inl rfl)) (pgs_cons (pg_tup rfl (pgs_cons (pg_name (i := 4) sc__law_bare.nd rfl (.inl rfl)) (pgs_cons (pg_name (i := 5) sc__law_bare.nd rfl (.inl rfl)) pgs_nil))) pgs_nil)))
   (pss_cons (ps_if (pt_cmpR (op_eqW (by show A.units + 3 + 195 < cLine; omega)) (pe_ix ix_tup (pv 4) pe_int (fun _ _ => rfl)) (pe_tup pa_nil) (nomark _)) (pss_one (ps_expr (pe_bm PySem.F.plainAttrs_list PySem.F.slot_list_append PySem.F.type_list_append mt_append (pv 2) (pa_cons (pe_tup (pa_cons (pe_op op_catB (pv 1) (pe_tup (pa_cons (pv 3) pa_nil))) (pa_cons (pe_ix ix_tup (pv 4) pe_int (fun _ _ => rfl)) pa_nil))) pa_nil)))) pss_nil)
  (pss_one (ps_set (i := 2) sc__law_bare.nd rfl (.inl rfl) (pe_op op_cat (pv 2) (pe_got G__law_bare (hr.mono (by omega)) rfl (pa_cons (pe_ix ix_tup (pv 4) pe_int (fun _ _ => rfl)) (pa_cons (pe_op op_catB (pv 1) (pe_tup (pa_cons (pv 3) pa_nil))) pa_nil))))))))
  (pss_one (ps_ret (pv 2)))), ?_⟩
 have szl := sizeLine_eq
 obtain ⟨a, xs, rfl, hs, hb⟩ := GA_bears hv
 obtain ⟨ua, rfl, hua⟩ := PL_ints hu
 have bl := hb.length
 have lenb := g.bk_len 0
 have oki := Gr.ok_iff.mp hpl
 refine ⟨(by show 0 <= sizeLine; decide), fun D hD => ?_⟩
 have t1 := SB.new (ps := []) hD (.lst [])
 refine ⟨_, rfl, a, xs, rfl, t1.sqT hs, ?_⟩
 refine for_it (walk_enumT (xs := xs)) (fun i σ H2 => SB [] H H2 /\ ∃ (E : Addr) (us : List V) (o3 o4 o5 : Option V), σ = [some (.ref a), some (.ref ua), some (.ref E), o3, o4, o5] /\ H E = none /\ H2 E = some (.lst us) /\ Bears K H2 bkE us ((Gr.bks (g.ps.take i) 0).map fun x => (pl ++ x.1, x.2))) ⟨t1, D, [], none, none, none, rfl, hD, upd_same, .nil⟩ (fun i σ H2 hi h2 => h2.1.sqT hs) (fun i x σ H2 H' hi h2 y => ?_) (fun σ H2 h2 => ?_)
 ·obtain ⟨s2, E, us, o3, o4, o5, rfl, nE, hE2, hb2⟩ := h2
  obtain ⟨T, e1, e2, rfl, hT, rfl, ee1, ee2⟩ := y
  have he1 : e1 = .int (i : Nat) := (Option.some.inj ee1).symm
  subst he1
  obtain ⟨p, ep, hpd⟩ := hb.get ee2
  have pm := List.mem_of_getElem? ep
  have pd := g.mem_deep p pm
  have pp := g.mem_parts p pm
  obtain ⟨pn, po, p1, pB⟩ := oki.1 p pm
  obtain ⟨ad, td, ux, rfl, hs2, hs3, hga, _⟩ := PA_parts hpd
  have t3 := SB.new (ps := []) hT (.tup [.int (i : Nat), .ref ad])
  have hT3 : SqT K (upd H2 T (.tup [.int (i : Nat), .ref ad])) T [.int (i : Nat), .ref ad] := SqT.of upd_same
  have s3 := s2.trans t3
  have hE3 := t3.keep _ _ hE2 nmn
  have hb3 := hb2.sb t3 bkE_noList
  generalize upd H2 T (.tup [.int (i : Nat), .ref ad]) = H3 at t3 hT3 s3 hE3 hb3
  have ul := hb3.length
  rw [List.length_map] at ul
  have hsp : g.bk 0 = Gr.bks (g.ps.take i) 0 ++ Gr.bkP p i ++ Gr.bks (g.ps.drop (i + 1)) (i + 1) := by
   rw [Gr.bk_ps]
   conv => lhs; rw [<- List.take_append_drop (i + 1) g.ps]
   rw [Gr.bks_append, Gr.bks_take ep, List.length_take, Nat.min_eq_left (by omega), Nat.zero_add]
  have hlen := congrArg List.length hsp
  rw [List.length_append, List.length_append] at hlen
  have pbl := p.1.2.bk_len 0
  refine ⟨T, _, rfl, hT3, rfl, _, _, rfl, _, _, rfl, ⟨ad, _, rfl, s3.sqT hs2, rfl, _, _, rfl, _, _, rfl, rfl, rfl, ?_⟩⟩
  refine seq_via (fun σ' H' => ∃ (us' : List V), σ' = [some (.ref a), some (.ref ua), some (.ref E), some (.int (i : Nat)), some (.ref td), some (.int p.2)] /\ SB [] H H' /\ H' E = some (.lst us') /\ Bears K H' bkE us' ((Gr.bks (g.ps.take i) 0 ++ if p.1.2 = .nil then [([i], p.1.1)] else []).map fun x => (pl ++ x.1, x.2))) (fun nx hnx => ?_) (fun σ' H5 h => ?_)
  ·refine ⟨_, rfl, td, _, _, _, rfl, rfl, s3.sqT hs3, atI_nat (j := 1) rfl, by show 0 <= sizeLine; decide, fun e0 he0 => ?_⟩
   have t4 := SB.new (ps := []) he0 (.tup [])
   have hE4 := t4.keep _ _ hE3 nmn
   have s4 := s3.trans t4
   have h04 : SqT K (upd H3 e0 (.tup [])) e0 [] := SqT.of upd_same
   have hb4 := hb3.sb t4 bkE_noList
   generalize upd H3 e0 (.tup []) = H4 at t4 hE4 s4 h04 hb4
   refine ⟨p.1.2.enc, .tuple [], hga.sb s4, .tup h04 .nil, Gr.wd po (by omega), Gr.wd_nil, _, rfl, ?_⟩
   rw [Gr.enc_eq_nil]
   by_cases hn : p.1.2 = .nil
   ·rw [show decide (p.1.2 = .nil) = true from decide_eq_true hn]
    refine iteT ⟨_, rfl, .inl ⟨rfl, _, SqL.of hE4⟩, _, rfl, _, rfl, by show 1 <= sizeLine; decide, fun t ht => ?_⟩
    have t5 := SB.new (ps := []) ht (.tup [.int (i : Nat)])
    have s5 := s4.trans t5
    refine ⟨ua, t, _, _, rfl, rfl, s5.sqT hua, SqT.of upd_same, ?_, fun c H6 s6 hc => ?_⟩
    ·rw [List.length_map, List.length_singleton]
     have := small5 (n := pl.length + 1) (by omega)
     omega
    have s46 := t5.trans s6
    have s06 := s4.trans s46
    refine ⟨_, rfl, td, _, _, _, rfl, rfl, s06.sqT hs3, atI_nat (j := 0) rfl, by show 2 <= sizeLine; decide, fun T2 hT2 => ?_⟩
    have t7 := SB.new (ps := []) hT2 (.tup [.ref c, .str p.1.1])
    have hE7 := t7.keep _ _ (s46.keep _ _ hE4 nmn) nmn
    have hT7 : SqT K (upd H6 T2 (.tup [.ref c, .str p.1.1])) T2 [.ref c, .str p.1.1] := SqT.of upd_same
    have hc7 := t7.sqT hc
    have s07 := s06.trans t7
    have hb7 := (hb4.sb s46 bkE_noList).sb t7 bkE_noList
    generalize upd H6 T2 (.tup [.ref c, .str p.1.1]) = H7 at t7 hE7 hT7 hc7 s07 hb7
    refine ⟨E, us, _, rfl, rfl, hE7, by omega, ?_⟩
    have t8 := SB.set (ps := [E]) hE7 (by simp) (.lst (us ++ [.ref T2]))
    refine hnx _ _ ⟨us ++ [.ref T2], rfl, ((s07.nil (ps := [E])).trans t8).drop nE, upd_same, ?_⟩
    rw [if_pos hn, List.map_append]
    refine (hb7.sb t8 bkE_noList).append (.cons ?_ .nil)
    refine .tup (t8.sqT hT7) (.cons ?_ (.cons (.str _) .nil))
    refine PL_of (p := pl ++ [i]) (t8.sqT ?_)
    rw [List.map_append]; exact hc7
   ·rw [show decide (p.1.2 = .nil) = false from decide_eq_false hn]
    refine iteF (hnx _ _ ⟨us, rfl, s4, hE4, ?_⟩)
    rw [if_neg hn, List.append_nil]; exact hb4
  obtain ⟨us', rfl, s5, hE5, hb5⟩ := h
  have ul5 := hb5.length
  rw [List.length_map, List.length_append] at ul5
  have hif : (if p.1.2 = .nil then [(([i] : Pl), p.1.1)] else []).length <= 1 := by split <;> simp
  refine ⟨_, rfl, _, rfl, td, _, _, _, rfl, rfl, s5.sqT hs3, atI_nat (j := 1) rfl, _, rfl, _, rfl, by show 1 <= sizeLine; decide, fun t ht => ?_⟩
  have t6 := SB.new (ps := []) ht (.tup [.int (i : Nat)])
  have s6 := s5.trans t6
  refine ⟨ua, t, _, _, rfl, rfl, s6.sqT hua, SqT.of upd_same, ?_, fun c H7 s7 hc => ?_⟩
  ·rw [List.length_map, List.length_singleton]
   have := small5 (n := pl.length + 1) (by omega)
   omega
  have s57 := t6.trans s7
  have s07 := s5.trans s57
  have hc' : Dp K H7 (.ref c) (plEnc (pl ++ [i])) := PL_of (p := pl ++ [i]) (by rw [List.map_append]; exact hc)
  refine ⟨ux, .ref c, p.1.2, pl ++ [i], rfl, hga.sb s07, hc', by omega, by rw [List.length_append]; show _ + (_ + 1) <= _; omega, by omega, ⟨C0, po⟩, fun L vs H8 s8 nL hL hb8 => ?_⟩
  have hE8 := (s57.trans s8).keep _ _ hE5 nmn
  have vl := hb8.length
  rw [List.length_map] at vl
  refine ⟨E, L, _, _, rfl, rfl, hE8, hL, by omega, fun M hM => ?_⟩
  have t9 := SB.new (ps := []) hM (.lst (us' ++ vs))
  have s08 := s07.trans s8
  refine ⟨s08.trans t9, M, us' ++ vs, _, _, _, rfl, s08.dom _ hM, upd_same, ?_⟩
  have eP : (Gr.bks (g.ps.take (i + 1)) 0).map (fun x => (pl ++ x.1, x.2)) = (Gr.bks (g.ps.take i) 0 ++ if p.1.2 = .nil then [([i], p.1.1)] else []).map (fun x => (pl ++ x.1, x.2)) ++ (p.1.2.bk 0).map (fun x => ((pl ++ [i]) ++ x.1, x.2)) := by
   rw [Gr.bks_take ep]
   unfold Gr.bkP
   by_cases hn : p.1.2 = .nil
   ·rw [if_pos hn, if_pos hn, hn]; simp [Gr.bk]
   ·rw [if_neg hn, if_neg hn]; simp
  rw [eP]
  exact ((hb5.sb (s57.trans s8) bkE_noList).sb t9 bkE_noList).append (hb8.sb t9 bkE_noList)
 ·obtain ⟨s2, E, us, o3, o4, o5, rfl, nE, hE2, hb2⟩ := h2
  rw [bl, List.take_length, <- Gr.bk_ps] at hb2
  exact ⟨_, rfl, q E us H2 s2 nE hE2 hb2⟩
abbrev N__law_plain : List Str := ["_law_thing", "_law_one"]
theorem sc__law_plain : FnScope N__law_plain ["_law_thing"] (defScope s__law_plain) := ⟨rfl, rfl, rfl, by decide +kernel, rfl, by decide +kernel, by decide +kernel⟩
theorem none__law_plain {ps : List Str} {k : Nat} : FnOk P w K mg base CX0 k f fd ps (spPlR K 0) := none_sp fun vs H Q E ⟨v, d, _, _, _, h, _⟩ => by omega
theorem ok__law_plain {n : Nat} (B : BI mg) (G__law_plain : Got P w K mg base "_law_plain" ["_law_thing"] (n) (spPlR K n)) (F : Fun K "_law_plain" "_law_plain" s__law_plain f fd) : FnOk P w K mg base CX0 (n + 1) f fd ["_law_thing"] (spPlR K (n + 1)) := by
 refine F.ok sc__law_plain (fun vs H Q E h => ?_) (fun cdv A outer s H vs Q E hr h => ?_)
 ·obtain ⟨v, d, rfl, _⟩ := h
  rfl
 obtain ⟨v, d, rfl, hv, hp, hd, hw, q⟩ := h
 have hun2 := hunT hr
 refine ⟨_, pss_cons (ps_if (pt_val (pe_isi B (pv 0) B.tuple boot_tuple)) (pss_one (ps_ret (pe_cmpR (op_eqD (by show A.units + 3 + 64 < cLine; omega)) (pe_lc (own := [("_law_one", 1)]) (g := (gName 1)) (tt := (tNot (tB (tCall (spPlR K n) [] E0 (tCons (tVar 1) tNil))))) (te := (tVar 1)) rfl sc__law_plain.nd (pi_tup (pv 0)) (blkOk_by (N := N__law_plain) (sc := defScope s__law_plain) (by decide +kernel)) (fun _ _ _ _ _ => (pg_name (i := 1) sc__law_plain.nd rfl (.inl rfl))) (fun _ _ _ _ _ => (pts_one (pt_not (pt_val (pe_got G__law_plain (hr.mono (by omega)) rfl (pa_cons (pv 1) pa_nil)))))) (fun _ _ _ _ _ => (pv 1))) (pe_lst pa_nil) (nomark _)))) pss_nil)
  (pss_one (ps_ret (pe_or (pe_isi B (pv 0) B.str boot_str) (pe_one (pe_and (pe_isi B (pv 0) B.int boot_int) (pe_one (pe_not (pe_isi B (pv 0) B.bool boot_bool)))))))), ?_⟩
 have szl := sizeLine_eq
 cases d with
 | int i =>
  cases hv
  refine ⟨_, rfl, _, _, "int", false, rfl, .base (.int i), by decide +kernel, _, rfl, iteF ?_⟩
  refine ⟨_, rfl, _, _, "int", false, rfl, .base (.int i), by decide +kernel, _, rfl, iteF ?_⟩
  refine ⟨_, rfl, _, _, "int", true, rfl, .base (.int i), by decide +kernel, _, rfl, iteT ?_⟩
  exact ⟨_, rfl, _, _, "int", false, rfl, .base (.int i), by decide +kernel, _, rfl, q _ SB.refl⟩
 | str i =>
  cases hv
  refine ⟨_, rfl, _, _, "str", false, rfl, .base (.str i), by decide +kernel, _, rfl, iteF ?_⟩
  refine ⟨_, rfl, _, _, "str", true, rfl, .base (.str i), by decide +kernel, _, rfl, iteT ?_⟩
  exact q _ SB.refl
 | none => simp [plS] at hp
 | bool _ => simp [plS] at hp
 | list _ => simp [plS] at hp
 | dict _ => simp [plS] at hp
 | tuple ds =>
  cases hv with
  | @tup a xs _ hs ha =>
   rw [plS] at hp
   rw [wide_tuple] at hw
   have l1 := DpAll.length ha
   have dd : PyData.depth (.tuple ds) = PyData.depthAll ds + 1 := by simp [PyData.depth]
   refine ⟨_, rfl, _, _, "tuple", true, rfl, SqT_ty hs, by decide +kernel, _, rfl, iteT ?_⟩
   refine ⟨_, rfl, a, rfl, ⟨_, hs⟩, fun D nD => ?_⟩
   refine lc_seqQ (walk_tup (xs := xs)) [] nD (by simp) (by omega) (fun i us _ => us = []) rfl (fun H2 s2 => s2.sqT hs) (fun _ _ _ _ _ h => h) (fun Pv i x Hq H2 us hi s2 y hR hu hD2 fin skip => ?_) (fun us H2 s2 hD2 hR hul => ?_)
   ·obtain ⟨rfl, ex⟩ := y
    obtain ⟨d1, e1, hd1⟩ := DpAll.get ha ex
    have m1 := List.mem_of_getElem? e1
    have m2 := plSs_mem hp d1 m1
    have m3 := depthAll_get e1
    have m4 := wide_mem _ _ m1
    exact ⟨rfl, _, rfl, x, d1, rfl, Dp_sb s2 _ _ (plS_noList _ m2) hd1, m2, by omega, by omega, fun H3 s3 => ⟨_, rfl, iteF (skip _ s3 hR)⟩⟩
   ·subst hR
    refine ⟨by show 0 <= sizeLine; decide, fun L hL => ?_⟩
    have t4 := SB.new (ps := []) hL (.lst [])
    refine ⟨.list [], .list [], .lst (t4.sqL nmn (SqL.of hD2)) .nil, .lst (SqL.of upd_same) .nil, by decide +kernel, by decide +kernel, ?_⟩
    rw [show PyData.eqv (.list []) (.list []) = true by simp [PyData.eqv, PyData.eqvAll]]
    exact q _ (s2.trans t4)
abbrev N__law_drawn : List Str := ["_law_purse_here", "_law_kinds_here", "_law_grove_here", "_law_bare_here", "_law_place", "_law_name", "_law_rule", "_law_said"]
theorem sc__law_drawn : FnScope N__law_drawn ["_law_purse_here", "_law_kinds_here", "_law_grove_here"] (defScope s__law_drawn) := ⟨rfl, rfl, rfl, by decide +kernel, rfl, by decide +kernel, by decide +kernel⟩
theorem ok__law_drawn (B : BI mg) (G__law_bare : Got P w K mg base "_law_bare" ["_law_grove_here", "_law_ahead"] (70) (spBareF K 70)) (G__law_take : Got P w K mg base "_law_take" ["_law_purse_here", "_law_many_here"] (1) (spTakeW)) (G__law_kind : Got P w K mg base "_law_kind" ["_law_kinds_here", "_law_name"] (1) (spKindP K)) (F : Fun K "_law_drawn" "_law_drawn" s__law_drawn f fd) : FnOk P w K mg base CX0 (71) f fd ["_law_purse_here", "_law_kinds_here", "_law_grove_here"] (spDrawn K) := by
 refine F.ok sc__law_drawn (fun vs H Q E h => ?_) (fun cdv A outer s H vs Q E hr h => ?_)
 ·obtain ⟨p, l, v, xs, b, g, rfl, _⟩ := h
  rfl
 obtain ⟨p, l, v, xs, b, g, rfl, hp, hl, lp, ha, ok, hg, gd, gp, ⟨C, go⟩, gne, gn, q⟩ := h
 have hun2 := hunT hr
 refine ⟨_, pss_cons (ps_set (i := 3) sc__law_drawn.nd rfl (.inl rfl) (pe_got G__law_bare (hr.mono (by omega)) rfl (pa_cons (pv 2) (pa_cons (pe_tup pa_nil) pa_nil))))
  (pss_cons (ps_asg (pe_ix ix_list (pv 3) (pe_got G__law_take (hr.mono (by omega)) rfl (pa_cons (pv 0) (pa_cons (pe_callB call_len_seq rfl B.len PySem.boot_len (pa_cons (pv 3) pa_nil)) pa_nil))) (fun _ _ => rfl)) (pg_tup rfl (pgs_cons (pg_name (i := 4) sc__law_drawn.nd rfl (.inl rfl)) (pgs_cons (pg_name (i := 5) sc__law_drawn.nd rfl (.inl rfl)) pgs_nil))))
  (pss_cons (ps_set (i := 6) sc__law_drawn.nd rfl (.inl rfl) (pe_got G__law_take (hr.mono (by omega)) rfl (pa_cons (pv 0) (pa_cons (pe_op op_add (pe_callB call_len_seq rfl B.len PySem.boot_len (pa_cons (pe_ix ix_tup (pe_got G__law_kind (hr.mono (by omega)) rfl (pa_cons (pv 1) (pa_cons (pv 5) pa_nil))) pe_int (fun _ _ => rfl)) pa_nil)) pe_int) pa_nil))))
  (pss_cons (ps_set (i := 7) sc__law_drawn.nd rfl (.inl rfl) (pe_lst (pa_cons pe_int (pa_cons pe_int (pa_cons (pe_op op_add pe_int (pe_got G__law_take (hr.mono (by omega)) rfl (pa_cons (pv 0) (pa_cons pe_int pa_nil)))) (pa_cons (pe_got G__law_take (hr.mono (by omega)) rfl (pa_cons (pv 0) (pa_cons (pe_op op_pow pe_int pe_int) pa_nil))) pa_nil))))))
  (pss_one (ps_ret (pe_tup (pa_cons (pv 4) (pa_cons (pv 5) (pa_cons (pv 6) (pa_cons (pe_ix ix_list (pv 7) (pe_got G__law_take (hr.mono (by omega)) rfl (pa_cons (pv 0) (pa_cons pe_int pa_nil))) (fun _ _ => rfl)) pa_nil)))))))))), ?_⟩
 have szl := sizeLine_eq
 refine ⟨_, rfl, by show 0 <= sizeLine; decide, fun E0 nE0 => ?_⟩
 have t1 := SB.new (ps := []) nE0 (.tup [])
 have hE1 : SqT K (upd H E0 (.tup [])) E0 [] := SqT.of upd_same
 generalize upd H E0 (.tup []) = H1 at t1 hE1
 refine ⟨v, .ref E0, g, [], rfl, hg.sb t1, PL_of (p := []) hE1, by omega, by show g.deep + 0 <= 63; omega, by omega, ⟨C, go⟩, fun BL us H2 s2 nBL hBL hbb => ?_⟩
 have ebk : (g.bk 0).map (fun x => (([] : Pl) ++ x.1, x.2)) = g.bk 0 := by simp
 rw [ebk] at hbb
 have ul := hbb.length
 have bkl := g.bk_len 0
 have bkn : 0 < (g.bk 0).length := List.length_pos_iff.mpr (g.bk_ne 0 gne)
 have s12 := t1.trans s2
 have hp2 := hp.sb s12
 refine ⟨_, rfl, _, rfl, _, rfl, BL, us, rfl, .inl (SqL.of hBL), p, (us.length : Nat), rfl, hp2, by omega, Int.lt_trans (show ((us.length : Nat) : Int) < 2 ^ 20 by omega) (by decide), fun r3 H3 r30 r31 s3 hp3 => ?_⟩
 obtain ⟨j, rfl⟩ : ∃ j : Nat, r3 = (j : Int) := ⟨r3.toNat, by omega⟩
 obtain ⟨u, hu⟩ : ∃ u, us[j]? = some u := ⟨_, List.getElem?_eq_getElem (by omega)⟩
 obtain ⟨x, ex, hx⟩ := hbb.get hu
 have BLp : BL ≠ p := fun z => by rw [z] at nBL; obtain ⟨_, _, h, _⟩ := hp.sb t1; rw [h] at nBL; cases nBL
 have hBL3 := s3.keep _ _ hBL (by simpa using BLp)
 have hbare := Gr.bk_bare _ (Nat.le_refl _) (List.mem_of_getElem? ex)
 cases (hx : Dp K H2 u (.tuple [plEnc x.1, .str x.2])) with
 | @tup ad us' _ hs' hda =>
 cases hda with
 | cons g1 hda =>
 cases hda with
 | cons g2 hda =>
 cases hda
 cases g2
 obtain ⟨pa, rfl, hpa⟩ := PL_ints g1
 refine ⟨BL, us, _, _, rfl, rfl, SqL.of hBL3, atI_nat hu, ?_⟩
 refine ⟨ad, _, rfl, s3.sqT hs', rfl, _, _, rfl, _, _, rfl, rfl, ?_⟩
 have kn := Gr.bare_named gn hbare
 obtain ⟨kd, eg⟩ := Bk.get_of kn
 obtain ⟨km, ekn⟩ := Bk.get_some eg
 have k4 := (ok.kd kd km).2.1
 have s03 : SB [p] H H3 := s12.nil.trans s3
 have hl3 := s03.keep _ _ hl (by simpa using lp)
 have ha3 := (ha.sb s03 NoLst.self).less (bad' := []) (by simp)
 have b8 := ok.len
 have ekn' : kd.n = x.2 := ekn
 refine ⟨_, rfl, _, rfl, _, rfl, l, xs, b, kd, by rw [ekn']; rfl, hl3, ha3, km, ok.nd, b8, fun kv H4 s4 hkd => ?_⟩
 obtain ⟨kt, kl, kzs, rfl, hkt, hkl, hkb, _⟩ := hkd
 have kzl := hkb.length
 have hp4 := hp3.sb s4
 refine ⟨kt, _, _, _, rfl, rfl, hkt, atI_nat (j := 2) rfl, kl, kzs, rfl, .inl (SqL.of hkl), _, _, rfl, rfl, p, (kzs.length : Int) + 1, rfl, hp4, by omega, Int.lt_trans (show (kzs.length : Int) + 1 < 2 ^ 20 by omega) (by decide), fun r5 H5 r50 r51 s5 hp5 => ?_⟩
 obtain ⟨i, rfl⟩ : ∃ i : Nat, r5 = (i : Int) := ⟨r5.toNat, by omega⟩
 obtain ⟨rr, err⟩ : ∃ rr, (noR :: kd.rs)[i]? = some rr := ⟨_, List.getElem?_eq_getElem (by rw [List.length_cons]; omega)⟩
 refine nameI ⟨_, rfl, p, 9, rfl, hp5, by decide, by decide, fun r6 H6 r60 r61 s6 hp6 => ?_⟩
 refine ⟨_, _, rfl, rfl, _, rfl, _, _, rfl, rfl, ⟨by decide, by decide, by decide⟩, p, 10 ^ 59, rfl, hp6, by decide, by decide, fun r7 H7 r70 r71 s7 hp7 => ?_⟩
 refine ⟨by show 4 <= sizeLine; decide, fun L nL => ?_⟩
 have t8 := SB.new (ps := []) nL (.lst [.int 0, .int 1, .int (2 + r6), .int r7])
 have hL8 : upd H7 L (.lst [.int 0, .int 1, .int (2 + r6), .int r7]) L = some (.lst [.int 0, .int 1, .int (2 + r6), .int r7]) := upd_same
 have hp8 := hp7.sb t8
 have Lp : L ≠ p := fun z => hp7.ne nL z.symm
 generalize upd H7 L (.lst [.int 0, .int 1, .int (2 + r6), .int r7]) = H8 at t8 hL8 hp8
 refine nameI ⟨_, rfl, _, rfl, _, rfl, _, rfl, _, rfl, p, 4, rfl, hp8, by decide, by decide, fun r9 H9 r90 r91 s9 hp9 => ?_⟩
 have hL9 := s9.keep _ _ hL8 (by simpa using Lp)
 obtain ⟨n, en, n0, n1⟩ : ∃ n : Int, atI [V.int 0, V.int 1, V.int (2 + r6), V.int r7] r9 = some (.int n) /\ 0 <= n /\ n < 10 ^ 59 := by
  rcases (by omega : r9 = 0 \/ r9 = 1 \/ r9 = 2 \/ r9 = 3) with rfl | rfl | rfl | rfl
  ·exact ⟨0, rfl, by omega, by decide⟩
  ·exact ⟨1, rfl, by omega, by decide⟩
  ·exact ⟨2 + r6, rfl, by omega, Int.lt_trans (show 2 + r6 < 2 ^ 10 by omega) (by decide)⟩
  ·exact ⟨r7, rfl, r70, r71⟩
 refine ⟨L, _, _, _, rfl, rfl, SqL.of hL9, en, by show 4 <= sizeLine; decide, fun T nT => ?_⟩
 have t10 := SB.new (ps := [p]) nT (.tup [.ref pa, .str x.2, .int (i : Int), .int n])
 have s39 : SB [p] H3 H9 := ((((s4.nil.trans s5).trans s6).trans s7).trans t8.nil).trans s9
 have s310 := s39.trans t10
 exact q T pa x.1 x.2 kd i rr n _ (s03.trans s310) (hp9.new nT) (SqT.of upd_same) (s310.sqT (s3.sqT hpa)) hbare eg err n0 n1
abbrev N__law_laid : List Str := ["_law_kinds_here", "_law_name", "_law_rule"]
theorem sc__law_laid : FnScope N__law_laid ["_law_kinds_here", "_law_name", "_law_rule"] (defScope s__law_laid) := ⟨rfl, rfl, rfl, by decide +kernel, rfl, by decide +kernel, by decide +kernel⟩
theorem ok__law_laid (B : BI mg) (G__law_kind : Got P w K mg base "_law_kind" ["_law_kinds_here", "_law_name"] (1) (spKindP K)) (F : Fun K "_law_laid" "_law_laid" s__law_laid f fd) : FnOk P w K mg base CX0 (2) f fd ["_law_kinds_here", "_law_name", "_law_rule"] (spLaid K) := by
 refine F.ok sc__law_laid (fun vs H Q E h => ?_) (fun cdv A outer s H vs Q E hr h => ?_)
 ·obtain ⟨l, xs, b, kd, i, r, rfl, _⟩ := h
  rfl
 obtain ⟨l, xs, b, kd, i, r, rfl, hl, ha, ok, eg, er, q⟩ := h
 have hun2 := hunT hr
 refine ⟨_, pss_one (ps_ret (pe_ix ix_list (pe_op op_cat (pe_lst (pa_cons (pe_tup (pa_cons (pe_tup pa_nil) (pa_cons (pe_tup pa_nil) pa_nil))) pa_nil)) (pe_ix ix_tup (pe_got G__law_kind (hr.mono (by omega)) rfl (pa_cons (pv 0) (pa_cons (pv 1) pa_nil))) pe_int (fun _ _ => rfl))) (pv 2) (fun _ _ => rfl))), ?_⟩
 have szl := sizeLine_eq
 have km := (Bk.get_some eg).1
 have k4 := (ok.kd kd km).2.1
 refine ⟨by show 0 <= sizeLine; decide, fun A1 nA1 => ?_⟩
 have t1 := SB.new (ps := []) nA1 (.tup [])
 have h1 : SqT K (upd H A1 (.tup [])) A1 [] := SqT.of upd_same
 generalize upd H A1 (.tup []) = H1 at t1 h1
 refine ⟨by show 0 <= sizeLine; decide, fun A2 nA2 => ?_⟩
 have t2 := SB.new (ps := []) nA2 (.tup [])
 have h2 : SqT K (upd H1 A2 (.tup [])) A2 [] := SqT.of upd_same
 have h1 := t2.sqT h1
 generalize upd H1 A2 (.tup []) = H2 at t2 h1 h2
 refine ⟨by show 2 <= sizeLine; decide, fun A3 nA3 => ?_⟩
 have t3 := SB.new (ps := []) nA3 (.tup [.ref A1, .ref A2])
 have h3 : Dp K (upd H2 A3 (.tup [.ref A1, .ref A2])) (.ref A3) (Ru.enc noR) := .tup (SqT.of upd_same) (.cons (.tup (t3.sqT h1) .nil) (.cons (.tup (t3.sqT h2) .nil) .nil))
 generalize upd H2 A3 (.tup [.ref A1, .ref A2]) = H3 at t3 h3
 refine ⟨by show 1 <= sizeLine; decide, fun L nL => ?_⟩
 have t4 := SB.new (ps := []) nL (.lst [.ref A3])
 have hL : upd H3 L (.lst [.ref A3]) L = some (.lst [.ref A3]) := upd_same
 have h4 := Dp_sb t4 _ _ (Ru.noList_enc _) h3
 generalize upd H3 L (.lst [.ref A3]) = H4 at t4 hL h4
 have s4 := ((t1.trans t2).trans t3).trans t4
 refine ⟨_, rfl, _, rfl, l, xs, b, kd, rfl, s4.keep _ _ hl nmn, ha.sb s4 NoLst.nil, km, ok.nd, ok.len, fun kv H5 s5 hkd => ?_⟩
 obtain ⟨kt, kl, kzs, rfl, hkt, hkl, hkb, _⟩ := hkd
 have kzl := hkb.length
 refine ⟨kt, _, _, _, rfl, rfl, hkt, atI_nat (j := 2) rfl, L, kl, _, _, rfl, rfl, s5.keep _ _ hL nmn, hkl, by show 1 + _ <= sizeLine; omega, fun M nM => ?_⟩
 have t6 := SB.new (ps := []) nM (.lst ([.ref A3] ++ kzs))
 have hall : Bears K (upd H5 M (.lst ([.ref A3] ++ kzs))) Ru.enc ([.ref A3] ++ kzs) (noR :: kd.rs) := .cons (Dp_sb (s5.trans t6) _ _ (Ru.noList_enc _) h4) (hkb.sb t6 Ru.noList_enc)
 obtain ⟨vr, ev, hvr⟩ := hall.at er
 exact ⟨_, rfl, M, _, _, _, rfl, rfl, SqL.of upd_same, atI_nat ev, q vr _ ((s4.trans s5).trans t6) hvr⟩
abbrev N__law_put : List Str := ["_law_grove_here", "_law_tree", "_law_many_here", "_law_some", "_law_one", "_law_old", "_law_pair"]
theorem sc__law_put : FnScope N__law_put ["_law_grove_here", "_law_tree", "_law_many_here"] (defScope s__law_put) := ⟨rfl, rfl, rfl, by decide +kernel, rfl, by decide +kernel, by decide +kernel⟩
theorem ok__law_put (B : BI mg) (F : Fun K "_law_put" "_law_put" s__law_put f fd) : FnOk P w K mg base CX0 (1) f fd ["_law_grove_here", "_law_tree", "_law_many_here"] (spPut33 K) := by
 refine F.ok sc__law_put (fun vs H Q E h => ?_) (fun cdv A outer s H vs Q E hr h => ?_)
 ·obtain ⟨v, u, g, t, m, C, rfl, _⟩ := h
  rfl
 obtain ⟨v, u, g, t, m, C, rfl, hv, hu, go, tn, to, hm, gd, td, gl, q⟩ := h
 have hun2 := hunT hr
 refine ⟨_, pss_cons (ps_set (i := 2) sc__law_put.nd rfl (.inl rfl) (pe_op op_add (pv 2) (pe_callB (cr_sum rfl) rfl B.sum boot_sum (pa_cons (pe_lc (own := [("_law_one", 4), ("_law_old", 5)]) (g := (gTup K 2 (gCons (gName 4) (gCons (gName 5) gNil)))) (tt := (tTest (tOp (rEqW K) (tVar 4) (tVar 1)))) (te := (tVar 5)) rfl sc__law_put.nd (pi_tup (pv 0)) (blkOk_by (N := N__law_put) (sc := defScope s__law_put) (by decide +kernel)) (fun _ _ _ _ _ => (pg_tup rfl (pgs_cons (pg_name (i := 4) sc__law_put.nd rfl (.inl rfl)) (pgs_cons (pg_name (i := 5) sc__law_put.nd rfl (.inl rfl)) pgs_nil)))) (fun _ _ _ _ _ => (pts_one (pt_cmpR (op_eqW (by show A.units + 3 + 195 < cLine; omega)) (pv 4) (pv 1) (nomark _)))) (fun _ _ _ _ _ => (pv 5))) pa_nil))))
  (pss_cons (ps_setLc (i := 3) (own := [("_law_pair", 6)]) (g := (gName 6)) (tt := (tTest (tOp (rNeW K) (tOp (rIxT K) (tVar 6) (tC (.int 0))) (tVar 1)))) (te := (tVar 6)) rfl sc__law_put.nd rfl rfl (sw_true rfl rfl rfl (by decide +kernel)) (pi_tup (pv 0)) (blkOk_by (N := N__law_put) (sc := defScope s__law_put) (by decide +kernel)) (fun _ _ _ _ _ => (pg_name (i := 6) sc__law_put.nd rfl (.inl rfl))) (fun _ _ _ _ _ => (pts_one (pt_cmpR (op_neW (by show A.units + 3 + 195 < cLine; omega)) (pe_ix ix_tup (pv 6) pe_int (fun _ _ => rfl)) (pv 1) (nomark _)))) (fun _ _ _ _ _ => (pv 6)))
  (pss_one (ps_ret (pe_callTy call_tuple_of rfl B.tuple boot_tuple (pa_cons (pe_callB (cr_sortedW Gr.pEnc (by show A.units + 3 + 195 < cLine; omega)) rfl B.sorted (by decide +kernel) (pa_cons (pe_op op_cat (pv 3) (pe_op op_rep (pe_lst (pa_cons (pe_tup (pa_cons (pv 1) (pa_cons (pv 2) pa_nil))) pa_nil)) (pe_callTy call_int1 rfl B.int boot_int (pa_cons (pe_cmpR op_gt (pv 2) pe_int (nomark _)) pa_nil)))) pa_nil)) pa_nil))))), ?_⟩
 have szl := sizeLine_eq
 obtain ⟨a, xs, rfl, hs, hb⟩ := GA_bears hv
 have xl := hb.length
 refine ⟨_, rfl, _, rfl, a, rfl, ⟨xs, hs⟩, fun D nD => ?_⟩
 refine lc_seqQ (walk_tup (xs := xs)) [] nD (by simp) (by omega) (fun i us H2 => ∃ ns : List Int, us = ns.map V.int /\ ns.sum = sumE (g.ps.take i) t) ⟨[], rfl, rfl⟩ (fun H2 s2 => s2.sqT hs) (fun i us H2 H3 s3 h => h) (fun Pv i x Hq H2 us hi s2 y hR hu' hD2 fin skip => ?_) (fun us H2 s2 hD2 hR hul => ?_)
 ·obtain ⟨rfl, ey⟩ := y
  obtain ⟨p, ep, hpd⟩ := hb.get ey
  have pm := List.mem_of_getElem? ep
  obtain ⟨n1, o1, _, _⟩ := Gr.ok_mem go pm
  have pd := g.mem_deep p pm
  obtain ⟨ad, bd, ux, rfl, h1, h2, h3, h4⟩ := PA_parts hpd
  obtain ⟨ns, rfl, hsum⟩ := hR
  have hst : sumE (g.ps.take (i + 1)) t = sumE (g.ps.take i) t + (if p.1 = t then p.2 else 0) := by
   rw [List.take_add_one, ep, sumE_append]
   show _ + ((if p.1 = t then p.2 else 0) + 0) = _
   rw [Int.add_zero]
  refine ⟨ad, _, rfl, s2.sqT h1, rfl, _, _, rfl, _, _, rfl, rfl, rfl, ?_⟩
  refine ⟨_, rfl, _, rfl, Gr.tEnc p.1, Gr.tEnc t, Dp_sb s2 _ _ (Gr.noList_tEnc _) h4, Dp_sb s2 _ _ (Gr.noList_tEnc _) hu, Gr.wd_t n1 o1 (by omega), Gr.wd_t tn to td, _, rfl, ?_⟩
  rw [Gr.t_eqv]
  by_cases he : p.1 = t
  ·rw [decide_eq_true he]
   refine iteT ⟨_, rfl, fin _ _ SB.refl ⟨ns ++ [p.2], by rw [List.map_append]; rfl, ?_⟩⟩
   rw [hst, if_pos he, List.sum_append, hsum]
   simp
  ·rw [decide_eq_false he]
   refine iteF (skip _ SB.refl ⟨ns, rfl, ?_⟩)
   rw [hst, if_neg he, hsum, Int.add_zero]
 obtain ⟨ns, rfl, hsum⟩ := hR
 rw [xl, List.take_length] at hsum
 refine ⟨D, ns, rfl, SqL.of hD2, _, _, rfl, rfl, ?_⟩
 rw [hsum]
 have hs2 := s2.sqT hs
 have hb2 := hb.sb s2 Gr.noList_pEnc
 refine ⟨_, rfl, a, rfl, ⟨xs, hs2⟩, fun D2 nD2 => ?_⟩
 refine lc_seqQ (walk_tup (xs := xs)) [] nD2 (by simp) (by omega) (fun i us H3 => Bears K H3 Gr.pEnc us ((g.ps.take i).filter fun p => !decide (p.1 = t))) .nil (fun H3 s3 => s3.sqT hs2) (fun i us H3 H4 s4 h => h.sb s4 Gr.noList_pEnc) (fun Pv i x Hq H3 us hi s3 y hR hu' hD3 fin skip => ?_) (fun us H3 s3 hD3 hR hul => ?_)
 ·obtain ⟨rfl, ey⟩ := y
  obtain ⟨p, ep, hpd⟩ := hb2.get ey
  have pm := List.mem_of_getElem? ep
  obtain ⟨n1, o1, _, _⟩ := Gr.ok_mem go pm
  have pd := g.mem_deep p pm
  obtain ⟨ad, bd, ux, rfl, h1, h2, h3, h4⟩ := PA_parts hpd
  have hst : (g.ps.take (i + 1)).filter (fun p => !decide (p.1 = t)) = (g.ps.take i).filter (fun p => !decide (p.1 = t)) ++ (if p.1 = t then [] else [p]) := by
   rw [List.take_add_one, ep, List.filter_append]
   congr 1
   by_cases z : p.1 = t <;> simp [z]
  refine ⟨rfl, _, rfl, ad, _, _, _, rfl, rfl, s3.sqT h1, atI_nat (j := 0) rfl, _, rfl, Gr.tEnc p.1, Gr.tEnc t, Dp_sb s3 _ _ (Gr.noList_tEnc _) h4, Dp_sb (s2.trans s3) _ _ (Gr.noList_tEnc _) hu, Gr.wd_t n1 o1 (by omega), Gr.wd_t tn to td, _, rfl, ?_⟩
  rw [Gr.t_eqv]
  by_cases he : p.1 = t
  ·rw [decide_eq_true he]
   refine iteF (skip _ SB.refl ?_)
   rw [hst, if_pos he, List.append_nil]; exact hR
  ·rw [decide_eq_false he]
   refine iteT ⟨_, rfl, fin _ _ SB.refl ?_⟩
   rw [hst, if_neg he]
   exact hR.append (.cons (Dp_sb s3 _ _ (Gr.noList_pEnc _) hpd) .nil)
 rw [xl, List.take_length] at hR
 have s23 := s2.trans s3
 have fl := List.length_filter_le (fun p : Tr × Int => !decide (p.1 = t)) g.ps
 have ul := hR.length
 refine ⟨_, rfl, _, rfl, _, rfl, by show 2 <= sizeLine; decide, fun T nT => ?_⟩
 have hS : sumE g.ps t = Gr.S g t := rfl
 rw [hS]
 have t4 := SB.new (ps := []) nT (.tup [u, .int (m + Gr.S g t)])
 have hT : Dp K (upd H3 T (.tup [u, .int (m + Gr.S g t)])) (.ref T) (Gr.pEnc (t, m + Gr.S g t)) := pair_mk (SqT.of upd_same) (Dp_sb (s23.trans t4) _ _ (Gr.noList_tEnc _) hu)
 have hD4 := t4.keep _ _ hD3 nmn
 have hR4 := hR.sb t4 Gr.noList_pEnc
 generalize upd H3 T (.tup [u, .int (m + Gr.S g t)]) = H4 at t4 hT hD4 hR4
 refine ⟨by show 1 <= sizeLine; decide, fun L nL => ?_⟩
 have t5 := SB.new (ps := []) nL (.lst [.ref T])
 have hL : upd H4 L (.lst [.ref T]) L = some (.lst [.ref T]) := upd_same
 have hT5 := Dp_sb t5 _ _ (Gr.noList_pEnc _) hT
 have hD5 := t5.keep _ _ hD4 nmn
 have hR5 := hR4.sb t5 Gr.noList_pEnc
 generalize upd H4 L (.lst [.ref T]) = H5 at t5 hL hT5 hD5 hR5
 refine ⟨_, rfl, _, _, rfl, rfl, .inr ⟨_, rfl, ?_⟩⟩
 obtain ⟨k, ek, k0, k1, el⟩ : ∃ k : Int, (if decide (0 < m + Gr.S g t) = true then (1 : Int) else 0) = k /\ 0 <= k /\ k <= 1 /\ (List.replicate k.toNat [V.ref T]).flatten = (if 0 < m + Gr.S g t then [V.ref T] else []) := by
  by_cases h0 : 0 < m + Gr.S g t
  ·exact ⟨1, by rw [decide_eq_true h0]; rfl, by omega, by omega, by rw [if_pos h0]; rfl⟩
  ·exact ⟨0, by rw [decide_eq_false h0]; rfl, by omega, by omega, by rw [if_neg h0]; rfl⟩
 rw [ek]
 refine ⟨L, k, _, rfl, rfl, hL, by omega, by omega, by show 1 * k.toNat <= sizeLine; omega, fun R nR => ?_⟩
 rw [el]
 have t6 := SB.new (ps := []) nR (.lst (if 0 < m + Gr.S g t then [V.ref T] else []))
 have hR6 : upd H5 R (.lst (if 0 < m + Gr.S g t then [V.ref T] else [])) R = some (.lst (if 0 < m + Gr.S g t then [V.ref T] else [])) := upd_same
 have hD6 := t6.keep _ _ hD5 nmn
 have hall : Bears K (upd H5 R (.lst (if 0 < m + Gr.S g t then [V.ref T] else []))) Gr.pEnc (us ++ (if 0 < m + Gr.S g t then [V.ref T] else [])) (Gr.putL g t m) := by
  refine (hR5.sb t6 Gr.noList_pEnc).append ?_
  have ge : ∀ H6, Dp K H6 (.ref T) (Gr.pEnc (t, m + Gr.S g t)) -> Bears K H6 Gr.pEnc (if 0 < m + Gr.S g t then [V.ref T] else []) (if 0 < m + Gr.S g t then [(t, m + Gr.S g t)] else []) := fun H6 h => by
   split
   ·exact .cons h .nil
   ·exact .nil
  exact ge _ (Dp_sb t6 _ _ (Gr.noList_pEnc _) hT5)
 have rl : (if 0 < m + Gr.S g t then [V.ref T] else []).length <= 1 := by split <;> simp
 generalize (if 0 < m + Gr.S g t then [V.ref T] else []) = rs at t6 hR6 hD6 hall rl
 generalize upd H5 R (.lst rs) = H6 at t6 hR6 hD6 hall
 refine ⟨D2, R, _, _, rfl, rfl, hD6, hR6, by omega, fun M nM => ?_⟩
 have t7 := SB.new (ps := []) nM (.lst (us ++ rs))
 obtain ⟨_, pok⟩ := Gr.putL_ok (m := m) go tn to hm
 have pl := Gr.putL_len g t m
 have s07 := (((s23.trans t4).trans t5).trans t6).trans t7
 refine ⟨M, _, Gr.putL g t m, rfl, .inl (SqL.of upd_same), hall.sb t7 Gr.noList_pEnc, Gr.pEnc_all _, Gr.pEnc_sortable _, by omega, fun p hp => ?_, fun p zs np hz => ?_⟩
 ·have h1 := Gr.pEnc_depth p
  have h2 : p.1.2.deep <= 62 := by
   rcases List.mem_append.mp hp with hp | hp
   ·have := g.mem_deep p (List.mem_filter.mp hp).1
    omega
   ·split at hp
    ·rw [List.mem_singleton.mp hp]; exact td
    ·exact nomatch hp
  omega
 have t8 := SB.new (ps := []) np (.lst zs)
 refine ⟨p, zs, rfl, .inl ⟨SqL.of upd_same, fun T2 nT2 => ?_⟩⟩
 have t9 := SB.new (ps := []) nT2 (.tup zs)
 exact q _ _ ((s07.trans t8).trans t9) (Bears_ga (SqT.of upd_same) ((hz.sb t8 Gr.noList_pEnc).sb t9 Gr.noList_pEnc))
abbrev N__law_fell : List Str := ["_law_kinds_here", "_law_grove_here", "_law_place", "_law_laid_here", "_law_said", "_law_tree", "_law_left", "_law_one", "_law_many_here", "_law_inner"]
theorem sc__law_fell : FnScope N__law_fell ["_law_kinds_here", "_law_grove_here", "_law_place", "_law_laid_here", "_law_said"] (defScope s__law_fell) := ⟨rfl, rfl, rfl, by decide +kernel, rfl, by decide +kernel, by decide +kernel⟩
theorem none__law_fell {ps : List Str} {k : Nat} : FnOk P w K mg base CX0 k f fd ps (spFell K 0) := none_sp fun vs H Q E ⟨l, a, v, lv, xs, n, D, b, g, r, pl, k, _, _, _, _, _, _, h, _⟩ => by omega
theorem ok__law_fell {m : Nat} (B : BI mg) (G__law_put : Got P w K mg base "_law_put" ["_law_grove_here", "_law_tree", "_law_many_here"] (1) (spPut33 K)) (G__law_fell : Got P w K mg base "_law_fell" ["_law_kinds_here", "_law_grove_here", "_law_place", "_law_laid_here", "_law_said"] (m + 2) (spFell K m)) (G__law_kind : Got P w K mg base "_law_kind" ["_law_kinds_here", "_law_name"] (1) (spKindP K)) (F : Fun K "_law_fell" "_law_fell" s__law_fell f fd) : FnOk P w K mg base CX0 (m + 3) f fd ["_law_kinds_here", "_law_grove_here", "_law_place", "_law_laid_here", "_law_said"] (spFell K (m + 1)) := by
 refine F.ok sc__law_fell (fun vs H Q E h => ?_) (fun cdv A outer s H vs Q E hr h => ?_)
 ·obtain ⟨l, a, v, lv, xs, n, D, b, g, r, pl, k, rfl, _⟩ := h
  rfl
 obtain ⟨l, a, v, lv, xs, n, D, b, g, r, pl, k, rfl, ⟨hl, hka, ok⟩, ⟨hw, go, gd, gp, gn⟩, ⟨hlv, rok⟩, hpl, hb, hm, n0, nb, q⟩ := h
 have hun2 := hunT hr
 refine ⟨_, pss_cons (ps_set (i := 5) sc__law_fell.nd rfl (.inl rfl) (pe_ix ix_tup (pe_ix ix_tup (pv 1) (pe_ix ix_tup (pv 2) pe_int (fun _ _ => rfl)) (fun _ _ => rfl)) pe_int (fun _ _ => rfl)))
  (pss_cons (ps_set (i := 6) sc__law_fell.nd rfl (.inl rfl) (pe_got G__law_put (hr.mono (by omega)) rfl (pa_cons (pv 1) (pa_cons (pv 5) (pa_cons (pe_un un_neg pe_int) pa_nil)))))
  (pss_cons (ps_if (pt_cmpR op_eq (pe_callB call_len_seq rfl B.len PySem.boot_len (pa_cons (pv 2) pa_nil)) pe_int (nomark _)) (pss_cons (ps_for PassesOwn.never rfl (pi_tup (pe_ix ix_tup (pv 3) pe_int (fun _ _ => rfl))) (pg_tup rfl (pgs_cons (pg_name (i := 7) sc__law_fell.nd rfl (.inl rfl)) (pgs_cons (pg_name (i := 8) sc__law_fell.nd rfl (.inl rfl)) pgs_nil)))
   (pss_one (ps_set (i := 6) sc__law_fell.nd rfl (.inl rfl) (pe_got G__law_put (hr.mono (by omega)) rfl (pa_cons (pv 6) (pa_cons (pv 7) (pa_cons (pv 8) pa_nil)))))))
  (pss_cons (ps_for PassesOwn.never rfl (pi_tup (pe_ix ix_tup (pv 3) pe_int (fun _ _ => rfl))) (pg_tup rfl (pgs_cons (pg_name (i := 7) sc__law_fell.nd rfl (.inl rfl)) (pgs_cons (pg_name (i := 8) sc__law_fell.nd rfl (.inl rfl)) pgs_nil)))
   (pss_one (ps_set (i := 6) sc__law_fell.nd rfl (.inl rfl) (pe_got G__law_put (hr.mono (by omega)) rfl (pa_cons (pv 6) (pa_cons (pv 7) (pa_cons (pe_op op_mulW (pv 8) (pv 4)) pa_nil)))))))
  (pss_one (ps_ret (pv 6))))) pss_nil)
  (pss_cons (ps_set (i := 9) sc__law_fell.nd rfl (.inl rfl) (pe_got G__law_fell (hr.mono (by omega)) rfl (pa_cons (pv 0) (pa_cons (pe_ix ix_tup (pv 5) pe_int (fun _ _ => rfl)) (pa_cons (pe_slice sl_tupB (pv 2) (po_some pe_int) po_none) (pa_cons (pv 3) (pa_cons (pv 4) pa_nil)))))))
  (pss_cons (ps_set (i := 8) sc__law_fell.nd rfl (.inl rfl) pe_int)
  (pss_cons (ps_if (pt_val (pe_ix ix_tup (pe_got G__law_kind (hr.mono (by omega)) rfl (pa_cons (pv 0) (pa_cons (pe_ix ix_tup (pv 5) pe_int (fun _ _ => rfl)) pa_nil))) pe_int (fun _ _ => rfl))) (pss_one (ps_set (i := 8) sc__law_fell.nd rfl (.inl rfl) (pe_op op_add (pv 4) pe_int))) pss_nil)
  (pss_one (ps_ret (pe_got G__law_put (hr.mono (by omega)) rfl (pa_cons (pv 6) (pa_cons (pe_tup (pa_cons (pe_ix ix_tup (pv 5) pe_int (fun _ _ => rfl)) (pa_cons (pv 9) pa_nil))) (pa_cons (pv 8) pa_nil))))))))))), ?_⟩
 have szl := sizeLine_eq
 have b8 := ok.len
 obtain ⟨i, rr, rfl⟩ : ∃ i r, pl = i :: r := by
  cases pl with
  | nil => exact absurd hb (by intro z; cases z)
  | cons i r => exact ⟨i, r, rfl⟩
 obtain ⟨ga, gs, rfl, hga, hgb⟩ := GA_bears hw
 have gl := hgb.length
 have glp := g.len_parts
 obtain ⟨p, ep⟩ : ∃ p, g.ps[i]? = some p := by
  by_cases hr : rr = []
  ·subst hr
   obtain ⟨p, e, _⟩ := Gr.bare_one hb
   exact ⟨p, e⟩
  ·obtain ⟨p, e, _⟩ := Gr.bare_more hr hb
   exact ⟨p, e⟩
 have pm := List.mem_of_getElem? ep
 obtain ⟨n1, o1, p1, pD⟩ := Gr.ok_mem go pm
 have pd := g.mem_deep p pm
 have pp := g.mem_parts p pm
 obtain ⟨vp, evp, hpd⟩ := hgb.at ep
 obtain ⟨ad, bd, ux, rfl, h1, h2, h3, h4⟩ := PA_parts hpd
 have plen := Gr.bare_len hb
 have hC := Gr.C_pos go pm
 have w1 := Gr.wo_ok go (t := p.1) (m := 1) (by omega)
 have w2 := Gr.wo_deep g p.1 1
 have w3 := Gr.wo_len g p.1 1
 have hS := Gr.S_mem go pm
 have ewo : Gr.putG g p.1 (-1) = Gr.wo g p.1 1 := Gr.putG_wo (t := p.1) (m := p.2) go pm
 refine ⟨_, rfl, _, rfl, a, _, _, _, rfl, rfl, hpl, atI_nat (j := 0) rfl, ga, gs, _, _, rfl, rfl, hga, atI_nat evp, ad, _, _, _, rfl, rfl, h1, atI_nat (j := 0) rfl, ?_⟩
 refine ⟨_, rfl, _, rfl, 1, rfl, .ref ga, .ref bd, g, p.1, -1, D, rfl, hw, h4, go, n1, o1, by rw [hS]; omega, by omega, by omega, by omega, fun left H1 s1 hleft => ?_⟩
 rw [ewo] at hleft
 have hpl1 := s1.sqT hpl
 cases (hlv : Dp K H lv (.tuple [r.1.enc, r.2.enc])) with
 | @tup lt us' _ hlt hda =>
 cases hda with
 | cons g1 hda =>
 cases hda with
 | cons g2 hda =>
 cases hda
 have g1 : GA K H _ r.1 := g1
 have g2 : GA K H _ r.2 := g2
 have hlv' : Dp K H (.ref lt) (Ru.enc r) := .tup hlt (.cons g1 (.cons g2 .nil))
 obtain ⟨c1, xs1, rfl, hc1, hb1⟩ := GA_bears g1
 obtain ⟨c2, xs2, rfl, hc2, hb2⟩ := GA_bears g2
 have xl1 := hb1.length
 have xl2 := hb2.length
 have rl1 := r.1.len_parts
 have rl2 := r.2.len_parts
 have rp := rok.2.2
 refine ⟨_, rfl, a, _, rfl, .inr hpl1, rfl, _, rfl, ?_⟩
 by_cases hr : rr = []
 ·subst hr
  have e1 : ∀ x, Gr.S (Gr.wo g p.1 1) x < D := fun x => Gr.S_lt w1 (by omega) x
  have e0 : ∀ x, 0 <= Gr.S (Gr.wo g p.1 1) x := fun x => Gr.S_nonneg w1 x
  have q1 : ∀ x, Gr.S r.1 x < 1000000001 := fun x => Gr.S_lt rok.1 (by omega) x
  have q2 : ∀ x, Gr.S r.2 x < 1000000001 := fun x => Gr.S_lt rok.2.1 (by omega) x
  have pos1 : ∀ p ∈ r.1.ps, 0 <= p.2 := fun p hp => by have := (Gr.ok_mem rok.1 hp).2.2.1; omega
  have pos2 : ∀ p ∈ r.2.ps, 0 <= p.2 := fun p hp => by have := (Gr.ok_mem rok.2.1 hp).2.2.1; omega
  have hE0 := Int.mul_nonneg (show (0 : Int) <= 1000000001 by omega) n0
  refine iteT ⟨_, rfl, lt, _, _, _, rfl, rfl, s1.sqT hlt, atI_nat (j := 0) rfl, c1, rfl, ⟨xs1, s1.sqT hc1⟩, ?_⟩
  refine for_it (walk_tup (xs := xs1)) (fun j σ H2 => ∃ (Lv : V) (kk : Gr) (o7 o8 : Option V), σ = [some (.ref l), some (.ref ga), some (.ref a), some (.ref lt), some (.int n), some (.ref bd), some Lv, o7, o8, none] /\ SB [] H H2 /\ GA K H2 Lv kk /\ kk.Ok (D + 1000000001 + 1000000001 * n) /\ kk.deep <= 60 /\ kk.ps.length <= g.ps.length + j /\ ∀ x, Gr.S kk x = Gr.S (Gr.wo g p.1 1) x + sumE (r.1.ps.take j) x)
   ⟨left, Gr.wo g p.1 1, _, _, rfl, s1, hleft, w1.mono (by omega), by omega, by omega, fun x => by show _ = _ + 0; omega⟩ (fun j σ H2 hj h => by obtain ⟨_, _, _, _, _, s, _⟩ := h; exact s.sqT hc1) (fun j x σ H2' H2 hj h y => ?_) (fun σ H2 h => ?_)
  ·obtain ⟨Lv, kk, o7, o8, rfl, s2, hL, ko, kd, kl, kS⟩ := h
   obtain ⟨rfl, ey⟩ := y
   obtain ⟨x1, ex1, hx1⟩ := hb1.get ey
   have xm := List.mem_of_getElem? ex1
   obtain ⟨m1, m2, m3, _⟩ := Gr.ok_mem rok.1 xm
   have xd := r.1.mem_deep x1 xm
   have xd2 := Gr.deep_parts r.1
   obtain ⟨ad1, bd1, ux1, rfl, k1, k2, k3, k4⟩ := PA_parts hx1
   have hnx := Gr.sumE_next x1.1 ex1
   rw [if_pos rfl] at hnx
   have hle := (Gr.sumE_take x1.1 (j + 1) pos1).2
   have hlt1 : sumE r.1.ps x1.1 < 1000000001 := q1 x1.1
   have := e1 x1.1
   have := kS x1.1
   refine ⟨ad1, _, rfl, s2.sqT k1, rfl, _, _, rfl, _, _, rfl, rfl, ?_⟩
   refine ⟨_, rfl, _, rfl, _, rfl, Lv, .ref bd1, kk, x1.1, x1.2, D + 1000000001 + 1000000001 * n, rfl, hL, Dp_sb s2 _ _ (Gr.noList_tEnc _) k4, ko, m1, m2.mono (by omega), by omega, by omega, by omega, by omega, fun Lv' H3 s3 hL' => ?_⟩
   have pl' := Gr.putG_len kk x1.1 x1.2
   refine ⟨Lv', _, _, _, rfl, s2.trans s3, hL', Gr.putG_ok ko m1 (m2.mono (by omega)) (by omega), Gr.putG_deep kd (by omega), by omega, fun x => ?_⟩
   rw [Gr.S_put_add ko x1.1 (by omega), kS x, Gr.sumE_next x ex1, Int.add_assoc]
  obtain ⟨Lv, kk, o7, o8, rfl, s2, hL, ko, kd, kl, kS⟩ := h
  rw [xl1, List.take_length] at kS
  refine ⟨_, rfl, lt, _, _, _, rfl, rfl, s2.sqT hlt, atI_nat (j := 1) rfl, c2, rfl, ⟨xs2, s2.sqT hc2⟩, ?_⟩
  refine for_it (walk_tup (xs := xs2)) (fun j σ H3 => ∃ (Lv : V) (kk : Gr) (o7 o8 : Option V), σ = [some (.ref l), some (.ref ga), some (.ref a), some (.ref lt), some (.int n), some (.ref bd), some Lv, o7, o8, none] /\ SB [] H H3 /\ GA K H3 Lv kk /\ kk.Ok (D + 1000000001 + 1000000001 * n) /\ kk.deep <= 60 /\ kk.ps.length <= g.ps.length + 10 + j /\ ∀ x, Gr.S kk x = Gr.S (Gr.wo g p.1 1) x + sumE r.1.ps x + sumE (r.2.ps.take j) x * n)
   ⟨Lv, kk, _, _, rfl, s2, hL, ko, kd, by omega, fun x => by rw [kS x]; show _ = _ + 0 * n; omega⟩ (fun j σ H3 hj h => by obtain ⟨_, _, _, _, _, s, _⟩ := h; exact s.sqT hc2) (fun j x σ H3' H3 hj h y => ?_) (fun σ H3 h => ?_)
  ·obtain ⟨Lv, kk, o7, o8, rfl, s3, hL, ko, kd, kl, kS⟩ := h
   obtain ⟨rfl, ey⟩ := y
   obtain ⟨x1, ex1, hx1⟩ := hb2.get ey
   have xm := List.mem_of_getElem? ex1
   obtain ⟨m1, m2, m3, m4⟩ := Gr.ok_mem rok.2.1 xm
   have xd := r.2.mem_deep x1 xm
   have xd2 := Gr.deep_parts r.2
   obtain ⟨ad1, bd1, ux1, rfl, k1, k2, k3, k4⟩ := PA_parts hx1
   have hnx := Gr.sumE_next x1.1 ex1
   rw [if_pos rfl] at hnx
   have hle := (Gr.sumE_take x1.1 (j + 1) pos2).2
   have hlt1 : sumE r.1.ps x1.1 < 1000000001 := q1 x1.1
   have hlt2 : sumE r.2.ps x1.1 < 1000000001 := q2 x1.1
   have hmul : sumE (r.2.ps.take (j + 1)) x1.1 * n <= 1000000001 * n := Int.mul_le_mul_of_nonneg_right (by omega) n0
   have hdist : sumE (r.2.ps.take (j + 1)) x1.1 * n = sumE (r.2.ps.take j) x1.1 * n + x1.2 * n := by rw [hnx, Int.add_mul]
   have hx2 := Int.mul_nonneg (show (0 : Int) <= x1.2 by omega) n0
   have := e1 x1.1
   have hk := kS x1.1
   refine ⟨ad1, _, rfl, s3.sqT k1, rfl, _, _, rfl, _, _, rfl, rfl, ?_⟩
   refine ⟨_, rfl, _, rfl, _, rfl, _, rfl, _, _, rfl, rfl, ?_, Lv, .ref bd1, kk, x1.1, x1.2 * n, D + 1000000001 + 1000000001 * n, rfl, hL, Dp_sb s3 _ _ (Gr.noList_tEnc _) k4, ko, m1, m2.mono (by omega), by omega, by omega, by omega, by omega, fun Lv' H4 s4 hL' => ?_⟩
   ·have e1 := log_lt (x := x1.2) (a := 2000) (b := 2000) (Gr.natAbs_lt (by omega) (Int.lt_trans m4 (by decide +kernel))) (Nat.le_refl _) (by decide)
    have e2 := log_lt (x := n) (a := 900) (b := 2000) (Gr.natAbs_lt n0 nb) (by decide) (by decide)
    unfold CMulW
    omega
   have pl' := Gr.putG_len kk x1.1 (x1.2 * n)
   refine ⟨Lv', _, _, _, rfl, s3.trans s4, hL', Gr.putG_ok ko m1 (m2.mono (by omega)) (by omega), Gr.putG_deep kd (by omega), by omega, fun x => ?_⟩
   rw [Gr.S_put_add ko x1.1 hx2, kS x, Gr.sumE_next x ex1, Int.add_mul]
   split <;> omega
  obtain ⟨Lv, kk, o7, o8, rfl, s3, hL, ko, kd, kl, kS⟩ := h
  rw [xl2, List.take_length] at kS
  have e := Gr.laid_all (b := b) rok n0 w1 (by omega) ko kS
  refine ⟨_, rfl, q Lv H3 s3 ?_⟩
  rw [Gr.stk_one ep, <- e]
  exact hL
 have hlen : decide (V.int (((i :: rr).map fun n : Nat => V.int (n : Int)).length : Nat) = V.int 1) = false := by
  have := List.length_pos_iff.mpr hr
  simp only [List.length_map, List.length_cons, V.int.injEq]
  exact decide_eq_false (by omega)
 rw [hlen]
 obtain ⟨p', ep', hb3⟩ := Gr.bare_more hr hb
 have e := ep.symm.trans ep'
 cases e
 obtain ⟨kn, pn⟩ := Gr.named_iff.mp gn p pm
 obtain ⟨kd2, eg2⟩ := Bk.get_of kn
 obtain ⟨km2, ekn2⟩ := Bk.get_some eg2
 rw [List.length_cons] at hm plen
 refine iteF ⟨_, rfl, _, rfl, bd, _, _, _, rfl, rfl, s1.sqT h2, atI_nat (j := 1) rfl, _, rfl, _, rfl, a, _, rfl, hpl1, fun c H2 s2 hc => ?_⟩
 rw [cut1, List.map_cons, List.drop_succ_cons, List.drop_zero] at hc
 have s02 := s1.trans s2
 refine ⟨_, rfl, _, rfl, l, c, ux, .ref lt, xs, n, D, b, p.1.2, r, rr, k, rfl, ⟨s02.keep _ _ hl nmn, hka.sb s02 NoLst.nil, ok⟩, ⟨h3.sb s02, o1, by omega, by omega, pn⟩, ⟨Dp_sb s02 _ _ (Ru.noList_enc _) hlv', rok⟩, hc, hb3, by omega, n0, nb, fun inner H3 s3 hin => ?_⟩
 have s03 := s02.trans s3
 refine nameI (nameI ?_)
 refine seq_via (fun σ' H4 => σ' = [some (.ref l), some (.ref ga), some (.ref a), some (.ref lt), some (.int n), some (.ref bd), some left, none, some (.int (1 + b.far p.1.1 n)), some inner] /\ SB [] H3 H4) (fun nx hnx => ?_) (fun σ' H4 h => ?_)
 ·refine ⟨_, rfl, _, rfl, bd, _, _, _, rfl, rfl, s03.sqT h2, atI_nat (j := 0) rfl, l, xs, b, kd2, by rw [ekn2]; rfl, s03.keep _ _ hl nmn, hka.sb s03 NoLst.nil, km2, ok.nd, b8, fun kv H4 s4 hkd => ?_⟩
  obtain ⟨kt, kl, kzs, rfl, hkt, hkl, hkb, _⟩ := hkd
  refine ⟨kt, _, _, _, rfl, rfl, hkt, atI_nat (j := 1) rfl, _, rfl, ?_⟩
  have hfar : b.far p.1.1 n = if kd2.w = true then n else 0 := by unfold Bk.far; rw [eg2]
  cases hw : kd2.w with
  | true =>
   rw [hw, if_pos rfl] at hfar
   refine iteT ⟨_, rfl, _, _, rfl, rfl, nameI (hnx _ _ ⟨?_, s4⟩)⟩
   rw [hfar, Int.add_comm]; rfl
  | false =>
   rw [hw, if_neg (by decide)] at hfar
   refine iteF (nextI (hnx _ _ ⟨?_, s4⟩))
   rw [hfar]; rfl
 obtain ⟨rfl, s4⟩ := h
 have s04 := s03.trans s4
 obtain ⟨f0, f1⟩ := Bk.far_le b p.1.1 n0
 have go2 := Gr.grw_ok rok n0
 have gd2 := Gr.grw_deep rok n
 have hF := Int.mul_nonneg (show (0 : Int) <= 1000000001 by omega) n0
 have io := Gr.stk_ok (b := b) n0 (by omega) go2 o1 hb3
 have id := Gr.stk_deep (b := b) (n := n) (fr := Gr.grw r n) hb3
 have il := Gr.bare_len hb3
 have e1 : Gr.S (Gr.wo g p.1 1) (Gr.chg b n (Gr.grw r n) rr p) < D := Gr.S_lt w1 (by omega) _
 refine ⟨_, rfl, _, rfl, bd, _, _, _, rfl, rfl, s04.sqT h2, atI_nat (j := 0) rfl, _, rfl, by show 2 <= sizeLine; decide, fun T nT => ?_⟩
 have t5 := SB.new (ps := []) nT (.tup [.str p.1.1, inner])
 have hT : Dp K (upd H4 T (.tup [.str p.1.1, inner])) (.ref T) (Gr.tEnc (Gr.chg b n (Gr.grw r n) rr p)) := .tup (SqT.of upd_same) (.cons (.str _) (.cons ((hin.sb s4).sb t5) .nil))
 refine ⟨_, rfl, left, .ref T, Gr.wo g p.1 1, Gr.chg b n (Gr.grw r n) rr p, 1 + b.far p.1.1 n, D + (1000000001 * n + 2000000002) + n + 2, rfl, (((hleft.sb s2).sb s3).sb s4).sb t5, hT, w1.mono (by omega), n1, io, by omega, by omega, by show (Gr.stk b n (Gr.grw r n) rr p.1.2).1.deep <= 62; omega, by omega, fun x H6 s6 hx => q x H6 ((s04.trans t5).trans s6) ?_⟩
 rw [Gr.stk_more ep hr]
 rw [Gr.putG_tgt w1 (by omega) (t := Gr.chg b n (Gr.grw r n) rr p) n1 io (by omega) (by omega)] at hx
 exact hx
abbrev N__law_parts : List Str := ["_law_grove_here", "_law_tree", "_law_many_here"]
theorem sc__law_parts : FnScope N__law_parts ["_law_grove_here"] (defScope s__law_parts) := ⟨rfl, rfl, rfl, by decide +kernel, rfl, by decide +kernel, by decide +kernel⟩
theorem none__law_parts {ps : List Str} {k : Nat} : FnOk P w K mg base CX0 k f fd ps (spParts33 K 0) := none_sp fun vs H Q E ⟨v, g, _, _, h, _⟩ => by omega
theorem ok__law_parts {n : Nat} (B : BI mg) (G__law_parts : Got P w K mg base "_law_parts" ["_law_grove_here"] (n) (spParts33 K n)) (F : Fun K "_law_parts" "_law_parts" s__law_parts f fd) : FnOk P w K mg base CX0 (n + 1) f fd ["_law_grove_here"] (spParts33 K (n + 1)) := by
 refine F.ok sc__law_parts (fun vs H Q E h => ?_) (fun cdv A outer s H vs Q E hr h => ?_)
 ·obtain ⟨v, g, rfl, _⟩ := h
  rfl
 obtain ⟨v, g, rfl, hv, gd, gl, gw, q⟩ := h
 have hun2 := hunT hr
 refine ⟨_, pss_one (ps_ret (pe_callB (cr_sum rfl) rfl B.sum boot_sum (pa_cons (pe_lc (own := [("_law_tree", 1), ("_law_many_here", 2)]) (g := (gTup K 2 (gCons (gName 1) (gCons (gName 2) gNil)))) (tt := tYes) (te := (tOp (rI0 fun i j => .int (i + j)) (tC (.int 1)) (tCall (spParts33 K n) [] E0 (tCons (tOp (rIxT K) (tVar 1) (tC (.int 1))) tNil)))) rfl sc__law_parts.nd (pi_tup (pv 0)) (blkOk_by (N := N__law_parts) (sc := defScope s__law_parts) (by decide +kernel)) (fun _ _ _ _ _ => (pg_tup rfl (pgs_cons (pg_name (i := 1) sc__law_parts.nd rfl (.inl rfl)) (pgs_cons (pg_name (i := 2) sc__law_parts.nd rfl (.inl rfl)) pgs_nil)))) (fun _ _ _ _ _ => pts_nil) (fun _ _ _ _ _ => (pe_op op_add pe_int (pe_got G__law_parts (hr.mono (by omega)) rfl (pa_cons (pe_ix ix_tup (pv 1) pe_int (fun _ _ => rfl)) pa_nil))))) pa_nil))), ?_⟩
 have szl := sizeLine_eq
 obtain ⟨a, xs, rfl, hs, hb⟩ := GA_bears hv
 have xl := hb.length
 refine ⟨_, rfl, a, rfl, ⟨xs, hs⟩, fun D nD => ?_⟩
 refine lc_seqQ (walk_tup (xs := xs)) [] nD (by simp) (by omega) (fun i us H2 => us = ((g.ps.take i).map fun p : Tr × Int => (1 : Int) + (p.1.2.parts : Nat)).map V.int) rfl (fun H2 s2 => s2.sqT hs) (fun i us H2 H3 s3 h => h) (fun Pv i x Hq H2 us hi s2 y hR hu' hD2 fin _ => ?_) (fun us H2 s2 hD2 hR hul => ?_)
 ·obtain ⟨rfl, ey⟩ := y
  obtain ⟨p, ep, hpd⟩ := hb.get ey
  have pm := List.mem_of_getElem? ep
  have pd := g.mem_deep p pm
  obtain ⟨ad, bd, ux, rfl, h1, h2, h3, h4⟩ := PA_parts hpd
  have pw : ∀ x ∈ p :: p.1.2.within, x ∈ g.within := fun x hx => by rw [Gr.within_ps]; exact List.mem_flatMap.mpr ⟨p, pm, hx⟩
  refine ⟨ad, _, rfl, s2.sqT h1, rfl, _, _, rfl, _, _, rfl, rfl, rfl, ?_⟩
  refine ⟨_, rfl, bd, _, _, _, rfl, rfl, s2.sqT h2, atI_nat (j := 1) rfl, ux, p.1.2, rfl, h3.sb s2, by omega, gw p (pw p (by simp)), fun x hx => gw x (pw x (by simp [hx])), fun H3 s3 => ?_⟩
  refine ⟨_, _, rfl, rfl, fin _ _ s3 ?_⟩
  rw [hR, List.take_add_one, ep]
  simp
 ·subst hR
  rw [xl, List.take_length] at hD2
  refine ⟨D, _, rfl, SqL.of hD2, ?_⟩
  rw [<- Gr.parts_sum]
  exact q _ s2
abbrev N__law_low : List Str := ["_law_grove_here", "_law_tree", "_law_many_here"]
theorem sc__law_low : FnScope N__law_low ["_law_grove_here"] (defScope s__law_low) := ⟨rfl, rfl, rfl, by decide +kernel, rfl, by decide +kernel, by decide +kernel⟩
theorem none__law_low {ps : List Str} {k : Nat} : FnOk P w K mg base CX0 k f fd ps (spLow33 K 0) := none_sp fun vs H Q E ⟨v, g, _, _, h, _⟩ => by omega
theorem ok__law_low {n : Nat} (B : BI mg) (G__law_low : Got P w K mg base "_law_low" ["_law_grove_here"] (n) (spLow33 K n)) (F : Fun K "_law_low" "_law_low" s__law_low f fd) : FnOk P w K mg base CX0 (n + 1) f fd ["_law_grove_here"] (spLow33 K (n + 1)) := by
 refine F.ok sc__law_low (fun vs H Q E h => ?_) (fun cdv A outer s H vs Q E hr h => ?_)
 ·obtain ⟨v, g, rfl, _⟩ := h
  rfl
 obtain ⟨v, g, rfl, hv, gd, gl, gw, q⟩ := h
 have hun2 := hunT hr
 refine ⟨_, pss_one (ps_ret (pe_callBK (cr_maxD rfl (by show A.units + 3 + 10 < cLine; omega)) rfl B.max boot_max (pa_cons (pe_lc (own := [("_law_tree", 1), ("_law_many_here", 2)]) (g := (gTup K 2 (gCons (gName 1) (gCons (gName 2) gNil)))) (tt := tYes) (te := (tOp (rI0 fun i j => .int (i + j)) (tC (.int 1)) (tCall (spLow33 K n) [] E0 (tCons (tOp (rIxT K) (tVar 1) (tC (.int 1))) tNil)))) rfl sc__law_low.nd (pi_tup (pv 0)) (blkOk_by (N := N__law_low) (sc := defScope s__law_low) (by decide +kernel)) (fun _ _ _ _ _ => (pg_tup rfl (pgs_cons (pg_name (i := 1) sc__law_low.nd rfl (.inl rfl)) (pgs_cons (pg_name (i := 2) sc__law_low.nd rfl (.inl rfl)) pgs_nil)))) (fun _ _ _ _ _ => pts_nil) (fun _ _ _ _ _ => (pe_op op_add pe_int (pe_got G__law_low (hr.mono (by omega)) rfl (pa_cons (pe_ix ix_tup (pv 1) pe_int (fun _ _ => rfl)) pa_nil))))) pa_nil) (pk_cons pe_int pk_nil))), ?_⟩
 have szl := sizeLine_eq
 obtain ⟨a, xs, rfl, hs, hb⟩ := GA_bears hv
 have xl := hb.length
 refine ⟨_, rfl, a, rfl, ⟨xs, hs⟩, fun D nD => ?_⟩
 refine lc_seqQ (walk_tup (xs := xs)) [] nD (by simp) (by omega) (fun i us H2 => us = ((g.ps.take i).map fun p : Tr × Int => (1 : Int) + (p.1.2.deep : Nat)).map V.int) rfl (fun H2 s2 => s2.sqT hs) (fun i us H2 H3 s3 h => h) (fun Pv i x Hq H2 us hi s2 y hR hu' hD2 fin _ => ?_) (fun us H2 s2 hD2 hR hul => ?_)
 ·obtain ⟨rfl, ey⟩ := y
  obtain ⟨p, ep, hpd⟩ := hb.get ey
  have pm := List.mem_of_getElem? ep
  have pd := g.mem_deep p pm
  obtain ⟨ad, bd, ux, rfl, h1, h2, h3, h4⟩ := PA_parts hpd
  have pw : ∀ x ∈ p :: p.1.2.within, x ∈ g.within := fun x hx => by rw [Gr.within_ps]; exact List.mem_flatMap.mpr ⟨p, pm, hx⟩
  refine ⟨ad, _, rfl, s2.sqT h1, rfl, _, _, rfl, _, _, rfl, rfl, rfl, ?_⟩
  refine ⟨_, rfl, bd, _, _, _, rfl, rfl, s2.sqT h2, atI_nat (j := 1) rfl, ux, p.1.2, rfl, h3.sb s2, by omega, gw p (pw p (by simp)), fun x hx => gw x (pw x (by simp [hx])), fun H3 s3 => ?_⟩
  refine ⟨_, _, rfl, rfl, fin _ _ s3 ?_⟩
  rw [hR, List.take_add_one, ep]
  simp
 ·subst hR
  rw [xl, List.take_length] at hD2
  refine ⟨D, _, 0, rfl, rfl, SqL.of hD2, fun e => ?_, fun m hm hy => ?_⟩
  ·have e0 : g.ps = [] := List.map_eq_nil_iff.mp e
   have e1 : g = .nil := by rw [<- Gr.ofPs_ps g, e0]; rfl
   have := q _ s2
   rw [e1] at this
   exact this
  ·obtain ⟨p, hp, rfl⟩ := List.mem_map.mp hm
   have hd : g.deep = 1 + p.1.2.deep := by
    have h1 := Gr.mem_deep g p hp
    have h2 : g.deep <= 1 + p.1.2.deep := Gr.deep_le fun x hx => by
     have := hy _ (List.mem_map.mpr ⟨x, hx, rfl⟩)
     omega
    omega
   rw [show (1 : Int) + (p.1.2.deep : Nat) = (g.deep : Nat) by rw [hd]; omega]
   exact q _ s2
abbrev N__law_great : List Str := ["_law_grove_here"]
theorem sc__law_great : FnScope N__law_great ["_law_grove_here"] (defScope s__law_great) := ⟨rfl, rfl, rfl, by decide +kernel, rfl, by decide +kernel, by decide +kernel⟩
theorem ok__law_great (B : BI mg) (G__law_parts : Got P w K mg base "_law_parts" ["_law_grove_here"] (70) (spParts33 K 70)) (G__law_low : Got P w K mg base "_law_low" ["_law_grove_here"] (70) (spLow33 K 70)) (F : Fun K "_law_great" "_law_great" s__law_great f fd) : FnOk P w K mg base CX0 (71) f fd ["_law_grove_here"] (spGreat K) := by
 refine F.ok sc__law_great (fun vs H Q E h => ?_) (fun cdv A outer s H vs Q E hr h => ?_)
 ·obtain ⟨v, g, rfl, _⟩ := h
  rfl
 obtain ⟨v, g, rfl, hv, gd, gp, q⟩ := h
 have hun2 := hunT hr
 refine ⟨_, pss_one (ps_ret (pe_or (pe_cmpR op_gt (pe_got G__law_parts (hr.mono (by omega)) rfl (pa_cons (pv 0) pa_nil)) pe_int (nomark _)) (pe_one (pe_cmpR op_gt (pe_got G__law_low (hr.mono (by omega)) rfl (pa_cons (pv 0) pa_nil)) pe_int (nomark _))))), ?_⟩
 have gl := g.len_parts
 have gw : ∀ p ∈ g.within, p.1.2.ps.length <= 200000 := fun p hp => by have := Gr.within_small p hp; omega
 refine ⟨_, rfl, v, g, rfl, hv, by omega, by omega, gw, fun H1 s1 => ?_⟩
 refine ⟨_, _, rfl, rfl, _, rfl, ?_⟩
 by_cases h1 : 500 < g.parts
 ·rw [show decide ((500 : Int) < (g.parts : Nat)) = true from decide_eq_true (by omega)]
  exact iteT (q true H1 s1 ⟨fun _ => .inl h1, fun _ => rfl⟩)
 ·rw [show decide ((500 : Int) < (g.parts : Nat)) = false from decide_eq_false (by omega)]
  refine iteF ⟨_, rfl, v, g, rfl, hv.sb s1, by omega, by omega, gw, fun H2 s2 => ⟨_, _, rfl, rfl, ?_⟩⟩
  refine q _ H2 (s1.trans s2) ?_
  rw [decide_eq_true_eq]
  exact ⟨fun z => .inr (by omega), fun z => by rcases z with z | z <;> omega⟩
abbrev N__law_which : List Str := ["_law_e", "_law_found", "_law_some", "_law_k", "_law_here"]
theorem sc__law_which : FnScope N__law_which ["_law_e"] (defScope s__law_which) := ⟨rfl, rfl, rfl, by decide +kernel, rfl, by decide +kernel, by decide +kernel⟩
theorem ok__law_which {c : Str -> Addr} (B : BI mg) (T : ErrsM K mg c eC eN eK) (F : Fun K "_law_which" "_law_which" s__law_which f fd) : FnPN P w K mg base (1) f fd ["_law_e"] (spWhich K c eC) := by
 refine okPN F sc__law_which (fun a oe vs H Q E h => ?_) (fun cdv A outer s H vs Q E a oe hc hr h => ?_)
 ·obtain ⟨n, d, j, rfl, hz, hf, _⟩ := h
  rfl
 obtain ⟨n, d, j, rfl, hz, hf, hn, hd, hj, ej, qk, qw⟩ := h
 have hun2 : A.units + 3 + 200 < cLine := by have := hr.un; have h3 : (A.deeper (envOfC "_law_which" (defScope s__law_which) s.heap.objs.size f cdv)).units = A.units + 3 := rfl; omega
 refine ⟨_, pss_cons (ps_set (i := 1) sc__law_which.nd rfl (.inl rfl) (pe_lst pa_nil))
  (pss_cons (ps_set (i := 2) sc__law_which.nd rfl (.inl rfl) (pe_lst (pa_cons (pe_callB (call_isEg (.head _) hz hf) rfl B.isinstance boot_isinstance (pa_cons (pv 0) (pa_cons (pe_glob (v := .ref (c "NoKind")) rfl (T.glo "NoKind" (.tail _ (.tail _ (.tail _ (.head _))))) rfl) pa_nil))) (pa_cons (pe_callB (call_isEg (.head _) hz hf) rfl B.isinstance boot_isinstance (pa_cons (pv 0) (pa_cons (pe_glob (v := .ref (c "NoPlace")) rfl (T.glo "NoPlace" (.tail _ (.head _))) rfl) pa_nil))) (pa_cons (pe_callB (call_isEg (.head _) hz hf) rfl B.isinstance boot_isinstance (pa_cons (pv 0) (pa_cons (pe_glob (v := .ref (c "NoRule")) rfl (T.glo "NoRule" (.tail _ (.tail _ (.tail _ (.tail _ (.head _)))))) rfl) pa_nil))) pa_nil)))))
  (pss_cons (ps_set (i := 2) sc__law_which.nd rfl (.inl rfl) (pe_op op_cat (pv 2) (pe_lst (pa_cons (pe_callB (call_isEg (.head _) hz hf) rfl B.isinstance boot_isinstance (pa_cons (pv 0) (pa_cons (pe_glob (v := .ref (c "NoNumber")) rfl (T.glo "NoNumber" (.tail _ (.tail _ (.tail _ (.tail _ (.tail _ (.head _))))))) rfl) pa_nil))) (pa_cons (pe_callB (call_isEg (.head _) hz hf) rfl B.isinstance boot_isinstance (pa_cons (pv 0) (pa_cons (pe_glob (v := .ref (c "NoRise")) rfl (T.glo "NoRise" (.tail _ (.tail _ (.tail _ (.tail _ (.tail _ (.tail _ (.tail _ (.head _))))))))) rfl) pa_nil))) (pa_cons (pe_callB (call_isEg (.head _) hz hf) rfl B.isinstance boot_isinstance (pa_cons (pv 0) (pa_cons (pe_glob (v := .ref (c "TooGreat")) rfl (T.glo "TooGreat" (.tail _ (.tail _ (.tail _ (.tail _ (.tail _ (.tail _ (.head _)))))))) rfl) pa_nil))) pa_nil))))))
  (pss_cons (ps_set (i := 2) sc__law_which.nd rfl (.inl rfl) (pe_op op_cat (pv 2) (pe_lst (pa_cons (pe_callB (call_isEg (.head _) hz hf) rfl B.isinstance boot_isinstance (pa_cons (pv 0) (pa_cons (pe_glob (v := .ref (c "NoFall")) rfl (T.glo "NoFall" (.tail _ (.tail _ (.tail _ (.tail _ (.tail _ (.tail _ (.tail _ (.tail _ (.head _)))))))))) rfl) pa_nil))) (pa_cons (pe_callB (call_isEg (.head _) hz hf) rfl B.isinstance boot_isinstance (pa_cons (pv 0) (pa_cons (pe_glob (v := .ref (c "NoBook")) rfl (T.glo "NoBook" (.tail _ (.tail _ (.head _)))) rfl) pa_nil))) (pa_cons (pe_callB (call_isEg (.head _) hz hf) rfl B.isinstance boot_isinstance (pa_cons (pv 0) (pa_cons (pe_glob (v := .ref (c "Endless")) rfl (T.glo "Endless" (.tail _ (.tail _ (.tail _ (.tail _ (.tail _ (.tail _ (.tail _ (.tail _ (.tail _ (.head _))))))))))) rfl) pa_nil))) pa_nil))))))
  (pss_cons (ps_set (i := 2) sc__law_which.nd rfl (.inl rfl) (pe_op op_cat (pv 2) (pe_lst (pa_cons (pe_callB (call_isEg (.head _) hz hf) rfl B.isinstance boot_isinstance (pa_cons (pv 0) (pa_cons (pe_glob (v := .ref (c "NoGrove")) rfl (T.glo "NoGrove" (.head _)) rfl) pa_nil))) (pa_cons (pe_callB (call_isEg (.head _) hz hf) rfl B.isinstance boot_isinstance (pa_cons (pv 0) (pa_cons (pe_glob (v := .ref (c "NoName")) rfl (T.glo "NoName" (.tail _ (.tail _ (.tail _ (.tail _ (.tail _ (.tail _ (.tail _ (.tail _ (.tail _ (.tail _ (.tail _ (.head _))))))))))))) rfl) pa_nil))) (pa_cons (pe_callB (call_isEg (.head _) hz hf) rfl B.isinstance boot_isinstance (pa_cons (pv 0) (pa_cons (pe_glob (v := .ref (c "NoRow")) rfl (T.glo "NoRow" (.tail _ (.tail _ (.tail _ (.tail _ (.tail _ (.tail _ (.tail _ (.tail _ (.tail _ (.tail _ (.head _)))))))))))) rfl) pa_nil))) pa_nil))))))
  (pss_cons (L2H.ps_forH PassesOwn.never hc (pi_enumH rfl B.enumerate (pa_cons (pv 2) pa_nil)) (pg_tupH hc (pgs_cons (pg_name (i := 3) sc__law_which.nd rfl (.inl rfl)) (pgs_cons (pg_name (i := 4) sc__law_which.nd rfl (.inl rfl)) pgs_nil)))
   (pss_one (ps_if (pt_val (pv 4)) (pss_one (ps_expr (pe_bm PySem.F.plainAttrs_list PySem.F.slot_list_append PySem.F.type_list_append mt_append (pv 1) (pa_cons (pe_ix ix_list (pe_lst (pa_cons pe_str (pa_cons pe_str (pa_cons pe_str (pa_cons pe_str (pa_cons pe_str (pa_cons pe_str (pa_cons pe_str pa_nil)))))))) (pe_callB (call_min2H hc) rfl B.min boot_min (pa_cons (pv 3) (pa_cons pe_int pa_nil))) (fun _ _ => rfl)) pa_nil)))) pss_nil)))
  (pss_cons (ps_if (PW.pt (pw_or (pt_cmpR op_ne (pe_callB call_len_seq rfl B.len PySem.boot_len (pa_cons (pv 1) pa_nil)) pe_int (nomark _)) (pw_or (pt_cmpR (op_neW (by show A.units + 3 + 195 < cLine; omega)) (pe_slice sl_list (pv 2) (po_some pe_int) po_none) (pe_op op_rep (pe_lst (pa_cons pe_bl pa_nil)) pe_int) (nomark _)) (pw_or1 (pt_not (pt_val (pe_callB (call_isEg (.head _) hz hf) rfl B.isinstance boot_isinstance (pa_cons (pv 0) (pa_cons (pe_ty (T' := "ValueError") rfl T.ve rfl) pa_nil))))))))) (pss_one (ps_ret (pe_tup (pa_cons pe_str pa_nil)))) pss_nil)
  (pss_cons (ps_if (pt_cmpR (op_eqW (by show A.units + 3 + 195 < cLine; omega)) (pv 1) (pe_lst (pa_cons pe_str pa_nil)) (nomark _)) (pss_one (ps_ret (pe_tup (pa_cons pe_str (pa_cons (pe_xfg (.head _) hz hf (pv 0)) pa_nil))))) pss_nil)
  (pss_one (ps_ret (pe_tup (pa_cons (pe_ix ix_list (pv 1) pe_int (fun _ _ => rfl)) pa_nil))))))))))), ?_⟩
 have szl := sizeLine_eq
 refine ⟨by show 0 <= sizeLine; decide, fun F nF => ?_⟩
 have t1 := SB.new (ps := []) nF (.lst [])
 have hF : upd H F (.lst []) F = some (.lst []) := upd_same
 have hd1 := hd.sb t1
 generalize upd H F (.lst []) = H1 at t1 hF hd1
 have kt : ∀ (i : Nat) (m : Str), W12[i]? = some m -> m ∈ eN -> PySem.W.kitOne K (.ref (c n)) (.ref (c m)) = some (decide (i = j)) := fun i m h1 h2 => (T.kit n hn m h2).trans (by rw [w12_at h1 ej])
 refine ⟨_, rfl, _, _, _, _, rfl, T.exc _ hn, hd1, rfl, fun u r => r, kt 0 "NoKind" rfl (by decide +kernel), ?_⟩
 refine ⟨_, rfl, _, _, _, _, rfl, T.exc _ hn, hd1, rfl, fun u r => r, kt 1 "NoPlace" rfl (by decide +kernel), ?_⟩
 refine ⟨_, rfl, _, _, _, _, rfl, T.exc _ hn, hd1, rfl, fun u r => r, kt 2 "NoRule" rfl (by decide +kernel), ?_⟩
 refine ⟨by show 3 <= sizeLine; decide, fun L nL => ?_⟩
 have t2 := SB.new (ps := []) nL (.lst [.bl (decide (0 = j)), .bl (decide (1 = j)), .bl (decide (2 = j))])
 have hL : upd H1 L (.lst [.bl (decide (0 = j)), .bl (decide (1 = j)), .bl (decide (2 = j))]) L = some (.lst [.bl (decide (0 = j)), .bl (decide (1 = j)), .bl (decide (2 = j))]) := upd_same
 have hd2 := hd1.sb t2
 have hF2 := t2.keep _ _ hF nmn
 have s2 := t1.trans t2
 generalize upd H1 L (.lst [.bl (decide (0 = j)), .bl (decide (1 = j)), .bl (decide (2 = j))]) = H2 at t2 hL hd2 hF2 s2
 refine ⟨_, rfl, ?_⟩
 refine ⟨_, rfl, _, _, _, _, rfl, T.exc _ hn, hd2, rfl, fun u r => r, kt 3 "NoNumber" rfl (by decide +kernel), ?_⟩
 refine ⟨_, rfl, _, _, _, _, rfl, T.exc _ hn, hd2, rfl, fun u r => r, kt 4 "NoRise" rfl (by decide +kernel), ?_⟩
 refine ⟨_, rfl, _, _, _, _, rfl, T.exc _ hn, hd2, rfl, fun u r => r, kt 5 "TooGreat" rfl (by decide +kernel), ?_⟩
 refine ⟨by show 3 <= sizeLine; decide, fun M4 nM4 => ?_⟩
 have t4a := SB.new (ps := []) nM4 (.lst [.bl (decide (3 = j)), .bl (decide (4 = j)), .bl (decide (5 = j))])
 have hM4 : upd H2 M4 (.lst [.bl (decide (3 = j)), .bl (decide (4 = j)), .bl (decide (5 = j))]) M4 = some (.lst [.bl (decide (3 = j)), .bl (decide (4 = j)), .bl (decide (5 = j))]) := upd_same
 have hx4 := t4a.keep _ _ hL nmn
 generalize upd H2 M4 (.lst [.bl (decide (3 = j)), .bl (decide (4 = j)), .bl (decide (5 = j))]) = G4 at t4a hM4 hx4
 refine ⟨L, M4, _, _, rfl, rfl, hx4, hM4, by show 6 <= sizeLine; decide, fun La nLa => ?_⟩
 have e4 : ([.bl (decide (0 = j)), .bl (decide (1 = j)), .bl (decide (2 = j))] ++ [.bl (decide (3 = j)), .bl (decide (4 = j)), .bl (decide (5 = j))] : List V) = (List.range 6).map fun i => V.bl (decide (i = j)) := rfl
 rw [e4]
 have t4b := SB.new (ps := []) nLa (.lst ((List.range 6).map fun i => V.bl (decide (i = j))))
 have hLa : upd G4 La (.lst ((List.range 6).map fun i => V.bl (decide (i = j)))) La = some (.lst ((List.range 6).map fun i => V.bl (decide (i = j)))) := upd_same
 have t4c := t4a.trans t4b
 have s4 := s2.trans t4c
 have hd4 := hd2.sb t4c
 have hF4 := t4c.keep _ _ hF2 nmn
 have ne4 : F ≠ La := ne_of_none (t4a.keep _ _ hF2 nmn) nLa
 refine nameI ?_
 generalize upd G4 La (.lst ((List.range 6).map fun i => V.bl (decide (i = j)))) = H4 at t4b hLa t4c s4 hd4 hF4
 clear hM4 hx4 t4a t4b t4c nM4 nLa hF2 hd2 hL
 refine ⟨_, rfl, ?_⟩
 refine ⟨_, rfl, _, _, _, _, rfl, T.exc _ hn, hd4, rfl, fun u r => r, kt 6 "NoFall" rfl (by decide +kernel), ?_⟩
 refine ⟨_, rfl, _, _, _, _, rfl, T.exc _ hn, hd4, rfl, fun u r => r, kt 7 "NoBook" rfl (by decide +kernel), ?_⟩
 refine ⟨_, rfl, _, _, _, _, rfl, T.exc _ hn, hd4, rfl, fun u r => r, kt 8 "Endless" rfl (by decide +kernel), ?_⟩
 refine ⟨by show 3 <= sizeLine; decide, fun M6 nM6 => ?_⟩
 have t6a := SB.new (ps := []) nM6 (.lst [.bl (decide (6 = j)), .bl (decide (7 = j)), .bl (decide (8 = j))])
 have hM6 : upd H4 M6 (.lst [.bl (decide (6 = j)), .bl (decide (7 = j)), .bl (decide (8 = j))]) M6 = some (.lst [.bl (decide (6 = j)), .bl (decide (7 = j)), .bl (decide (8 = j))]) := upd_same
 have hx6 := t6a.keep _ _ hLa nmn
 generalize upd H4 M6 (.lst [.bl (decide (6 = j)), .bl (decide (7 = j)), .bl (decide (8 = j))]) = G6 at t6a hM6 hx6
 refine ⟨La, M6, _, _, rfl, rfl, hx6, hM6, by show 9 <= sizeLine; decide, fun Lb nLb => ?_⟩
 have e6 : (((List.range 6).map fun i => V.bl (decide (i = j))) ++ [.bl (decide (6 = j)), .bl (decide (7 = j)), .bl (decide (8 = j))] : List V) = (List.range 9).map fun i => V.bl (decide (i = j)) := rfl
 rw [e6]
 have t6b := SB.new (ps := []) nLb (.lst ((List.range 9).map fun i => V.bl (decide (i = j))))
 have hLb : upd G6 Lb (.lst ((List.range 9).map fun i => V.bl (decide (i = j)))) Lb = some (.lst ((List.range 9).map fun i => V.bl (decide (i = j)))) := upd_same
 have t6c := t6a.trans t6b
 have s6 := s4.trans t6c
 have hd6 := hd4.sb t6c
 have hF6 := t6c.keep _ _ hF4 nmn
 have ne6 : F ≠ Lb := ne_of_none (t6a.keep _ _ hF4 nmn) nLb
 refine nameI ?_
 generalize upd G6 Lb (.lst ((List.range 9).map fun i => V.bl (decide (i = j)))) = H6 at t6b hLb t6c s6 hd6 hF6
 clear hM6 hx6 t6a t6b t6c nM6 nLb hF4 hd4 hLa
 refine ⟨_, rfl, ?_⟩
 refine ⟨_, rfl, _, _, _, _, rfl, T.exc _ hn, hd6, rfl, fun u r => r, kt 9 "NoGrove" rfl (by decide +kernel), ?_⟩
 refine ⟨_, rfl, _, _, _, _, rfl, T.exc _ hn, hd6, rfl, fun u r => r, kt 10 "NoName" rfl (by decide +kernel), ?_⟩
 refine ⟨_, rfl, _, _, _, _, rfl, T.exc _ hn, hd6, rfl, fun u r => r, kt 11 "NoRow" rfl (by decide +kernel), ?_⟩
 refine ⟨by show 3 <= sizeLine; decide, fun M8 nM8 => ?_⟩
 have t8a := SB.new (ps := []) nM8 (.lst [.bl (decide (9 = j)), .bl (decide (10 = j)), .bl (decide (11 = j))])
 have hM8 : upd H6 M8 (.lst [.bl (decide (9 = j)), .bl (decide (10 = j)), .bl (decide (11 = j))]) M8 = some (.lst [.bl (decide (9 = j)), .bl (decide (10 = j)), .bl (decide (11 = j))]) := upd_same
 have hx8 := t8a.keep _ _ hLb nmn
 generalize upd H6 M8 (.lst [.bl (decide (9 = j)), .bl (decide (10 = j)), .bl (decide (11 = j))]) = G8 at t8a hM8 hx8
 refine ⟨Lb, M8, _, _, rfl, rfl, hx8, hM8, by show 12 <= sizeLine; decide, fun S nS => ?_⟩
 have e8 : (((List.range 9).map fun i => V.bl (decide (i = j))) ++ [.bl (decide (9 = j)), .bl (decide (10 = j)), .bl (decide (11 = j))] : List V) = (List.range 12).map fun i => V.bl (decide (i = j)) := rfl
 rw [e8]
 have t8b := SB.new (ps := []) nS (.lst ((List.range 12).map fun i => V.bl (decide (i = j))))
 have hS : upd G8 S (.lst ((List.range 12).map fun i => V.bl (decide (i = j)))) S = some (.lst ((List.range 12).map fun i => V.bl (decide (i = j)))) := upd_same
 have t8c := t8a.trans t8b
 have s8 := s6.trans t8c
 have hd8 := hd6.sb t8c
 have hF8 := t8c.keep _ _ hF6 nmn
 have ne8 : F ≠ S := ne_of_none (t8a.keep _ _ hF6 nmn) nS
 refine nameI ?_
 generalize upd G8 S (.lst ((List.range 12).map fun i => V.bl (decide (i = j)))) = H8 at t8b hS t8c s8 hd8 hF8
 clear hM8 hx8 t8a t8b t8c nM8 nS hF6 hd6 hLb
 have FS := ne8
 refine ⟨_, rfl, S, _, rfl, SqL.of hS, ?_⟩
 refine for_it (walk_enum (K := K) (a := S) (xs := (List.range 12).map fun i => V.bl (decide (i = j)))) (fun i σ G => SB [F] H8 G /\ ∃ o3 o4, σ = [some (.ref a), some (.ref F), some (.ref S), o3, o4] /\ G F = some (.lst (if j < i then [V.str (W7.getD j "")] else [])))
  ⟨SB.refl, none, none, rfl, hF8⟩ (fun i σ G hi h2 => h2.1.sqL (by simpa using fun z : S = F => FS z.symm) (SqL.of hS)) (fun i x σ G G' hi h2 y => ?_) (fun σ G h2 => ?_)
 ·obtain ⟨u2, o3, o4, rfl, hF2⟩ := h2
  obtain ⟨T0, e1, e2, rfl, nT0, rfl, ee1, ee2⟩ := y
  cases ee1
  have hi12 : i < 12 := by simpa using hi
  have e2' : e2 = .bl (decide (i = j)) := by
   have ee3 : ((List.range 12).map fun i => V.bl (decide (i = j)))[i]? = some e2 := ee2
   rw [List.getElem?_map, List.getElem?_range hi12] at ee3
   exact (Option.some.inj ee3).symm
  subst e2'
  have u3 := SB.new (ps := []) nT0 (.tup [.int (i : Nat), .bl (decide (i = j))])
  have hT0 : SqT K (upd G T0 (.tup [.int (i : Nat), .bl (decide (i = j))])) T0 [.int (i : Nat), .bl (decide (i = j))] := SqT.of upd_same
  have hF3 := u3.keep _ _ hF2 nmn
  have u23 := u2.trans (u3.nil (ps := [F]))
  generalize upd G T0 (.tup [.int (i : Nat), .bl (decide (i = j))]) = G3 at u3 hT0 hF3 u23
  refine ⟨T0, _, rfl, hT0, rfl, _, _, rfl, _, _, rfl, rfl, ?_⟩
  refine ⟨_, rfl, _, rfl, ?_⟩
  by_cases hij : i = j
  ·subst hij
   rw [decide_eq_true rfl]
   rw [if_neg (by omega)] at hF3
   refine iteT ⟨_, rfl, .inl ⟨rfl, _, SqL.of hF3⟩, ?_⟩
   refine ⟨by show 7 <= sizeLine; decide, fun W nW => ?_⟩
   have u4 := SB.new (ps := []) nW (.lst (W7.map V.str))
   have hW : upd G3 W (.lst (W7.map V.str)) W = some (.lst (W7.map V.str)) := upd_same
   have hF4 := u4.keep _ _ hF3 nmn
   have u24 := u23.trans (u4.nil (ps := [F]))
   have ew : upd G3 W (.lst [.str "kind", .str "place", .str "rule", .str "said", .str "rise", .str "great", .str "fall"]) = upd G3 W (.lst (W7.map V.str)) := rfl
   rw [ew]
   generalize upd G3 W (.lst (W7.map V.str)) = G4 at u4 hW hF4 u24
   obtain ⟨wd, ewd⟩ : ∃ wd, W7[i]? = some wd := ⟨_, List.getElem?_eq_getElem (by show i < 7; omega)⟩
   refine ⟨_, rfl, _, _, rfl, ?_⟩
   rw [show (if (6 : Int) < ((i : Nat) : Int) then (6 : Int) else ((i : Nat) : Int)) = ((i : Nat) : Int) from if_neg (by omega)]
   refine ⟨W, _, _, .str wd, rfl, rfl, SqL.of hW, atI_nat (by rw [List.getElem?_map, ewd]; rfl), F, _, _, rfl, rfl, hF4, by show 0 < sizeLine; decide, ?_⟩
   refine ⟨u24.trans (SB.set hF4 (by simp) _), _, _, rfl, ?_⟩
   rw [upd_same, if_pos (by omega), List.getD_eq_getElem?_getD, ewd]
   rfl
  ·rw [decide_eq_false hij]
   refine iteF ⟨u23, _, _, rfl, ?_⟩
   rw [hF3]
   by_cases h1 : j < i
   ·rw [if_pos h1, if_pos (by omega)]
   ·rw [if_neg h1, if_neg (by omega)]
 obtain ⟨u2, o3, o4, rfl, hF2⟩ := h2
 rw [if_pos (by simp; omega)] at hF2
 have hS2 := u2.keep _ _ hS (by simpa using fun z : S = F => FS z.symm)
 have s9 : SB [] H G := (s8.nil.trans u2).drop nF
 have hd9 := hd.sb s9
 refine ⟨_, rfl, F, _, rfl, .inl (SqL.of hF2), rfl, _, rfl, iteF ?_⟩
 refine ⟨_, rfl, _, rfl, S, _, rfl, SqL.of hS2, fun C1 nC1 => ?_⟩
 have ec : cutV ((List.range 12).map fun i => V.bl (decide (i = j))) (some 7) none = [.bl false, .bl false, .bl false, .bl false, .bl false] := by
  rcases (by omega : j = 0 \/ j = 1 \/ j = 2 \/ j = 3 \/ j = 4 \/ j = 5 \/ j = 6) with rfl | rfl | rfl | rfl | rfl | rfl | rfl <;> decide +kernel
 rw [ec]
 have v1 := SB.new (ps := []) nC1 (.lst [.bl false, .bl false, .bl false, .bl false, .bl false])
 have hC1 : upd G C1 (.lst [.bl false, .bl false, .bl false, .bl false, .bl false]) C1 = some (.lst [.bl false, .bl false, .bl false, .bl false, .bl false]) := upd_same
 have hF3 := v1.keep _ _ hF2 nmn
 have s10 := s9.trans v1
 generalize upd G C1 (.lst [.bl false, .bl false, .bl false, .bl false, .bl false]) = G1 at v1 hC1 hF3 s10
 refine ⟨by show 1 <= sizeLine; decide, fun C2 nC2 => ?_⟩
 have v2 := SB.new (ps := []) nC2 (.lst [.bl false])
 have hC2 : upd G1 C2 (.lst [.bl false]) C2 = some (.lst [.bl false]) := upd_same
 have hC12 := v2.keep _ _ hC1 nmn
 have hF4 := v2.keep _ _ hF3 nmn
 have s11 := s10.trans v2
 generalize upd G1 C2 (.lst [.bl false]) = G2 at v2 hC2 hC12 hF4 s11
 refine ⟨C2, 5, _, rfl, rfl, hC2, by decide, by decide, by decide, fun C3 nC3 => ?_⟩
 have v3 := SB.new (ps := []) nC3 (.lst [.bl false, .bl false, .bl false, .bl false, .bl false])
 have er : (List.replicate (5 : Int).toNat [V.bl false]).flatten = [.bl false, .bl false, .bl false, .bl false, .bl false] := rfl
 rw [er]
 have hC3 : upd G2 C3 (.lst [.bl false, .bl false, .bl false, .bl false, .bl false]) C3 = some (.lst [.bl false, .bl false, .bl false, .bl false, .bl false]) := upd_same
 have hC13 := v3.keep _ _ hC12 nmn
 have hF5 := v3.keep _ _ hF4 nmn
 have s12 := s11.trans v3
 generalize upd G2 C3 (.lst [.bl false, .bl false, .bl false, .bl false, .bl false]) = G3 at v3 hC3 hC13 hF5 s12
 have five : ∀ {z : Addr}, G3 z = some (.lst [.bl false, .bl false, .bl false, .bl false, .bl false]) -> Dp K G3 (.ref z) (.list [.bool false, .bool false, .bool false, .bool false, .bool false]) := fun h => .lst (SqL.of h) (.cons (.bl _) (.cons (.bl _) (.cons (.bl _) (.cons (.bl _) (.cons (.bl _) .nil)))))
 have w5 : Wd (.list [.bool false, .bool false, .bool false, .bool false, .bool false]) := ⟨by decide +kernel, by decide +kernel⟩
 refine ⟨_, _, five hC13, five hC3, w5, w5, _, rfl, ?_⟩
 rw [show PyData.eqv (.list [.bool false, .bool false, .bool false, .bool false, .bool false]) (.list [.bool false, .bool false, .bool false, .bool false, .bool false]) = true by decide +kernel]
 refine iteF ⟨_, rfl, _, _, _, true, rfl, T.exc _ hn, hd.sb s12, rfl, fun u r => r, T.kve _ hn, _, rfl, iteF (nextI ?_)⟩
 refine ⟨_, rfl, by show 1 <= sizeLine; decide, fun C4 nC4 => ?_⟩
 have v4 := SB.new (ps := []) nC4 (.lst [.str "kind"])
 have hC4 : upd G3 C4 (.lst [.str "kind"]) C4 = some (.lst [.str "kind"]) := upd_same
 have hF6 := v4.keep _ _ hF5 nmn
 have s13 := s12.trans v4
 generalize upd G3 C4 (.lst [.str "kind"]) = G4 at v4 hC4 hF6 s13
 clear nF nL s8 u2 hS hS2 s9 s10 s11 s12 hF2 hF3 hF4 hF5
 rcases (by omega : j = 0 \/ j = 1 \/ j = 2 \/ j = 3 \/ j = 4 \/ j = 5 \/ j = 6) with rfl | rfl | rfl | rfl | rfl | rfl | rfl
 ·refine ⟨.list [.str "kind"], .list [.str "kind"], .lst (SqL.of hF6) (.cons (.str _) .nil), .lst (SqL.of hC4) (.cons (.str _) .nil), ⟨by decide +kernel, by decide +kernel⟩, ⟨by decide +kernel, by decide +kernel⟩, _, rfl, ?_⟩
  rw [show PyData.eqv (.list [.str "kind"]) (.list [.str "kind"]) = true by decide +kernel]
  obtain ⟨dd, z, rfl, hdd, qz⟩ := qk rfl
  cases (show some ("NoKind" : Str) = some n from ej)
  refine iteT ⟨_, rfl, _, dd, _, .str z, rfl, rfl, T.exc _ hn, T.nok _ (by decide +kernel), rfl, s13.keep _ _ hdd nmn, rfl, by show 2 <= sizeLine; decide, fun R nR => ?_⟩
  exact qz R _ (s13.trans (SB.new nR _)) (SqT.of upd_same)
 all_goals
  refine ⟨.list [.str _], .list [.str "kind"], .lst (SqL.of hF6) (.cons (.str _) .nil), .lst (SqL.of hC4) (.cons (.str _) .nil), ⟨by decide +kernel, by decide +kernel⟩, ⟨by decide +kernel, by decide +kernel⟩, _, rfl, ?_⟩
  refine cast (congrArg (fun bb : Bool => ite (bb = true) _ _) (show false = PyData.eqv _ _ by decide +kernel)) ?_
  refine iteF (nextI ?_)
  refine ⟨_, rfl, F, _, _, .str _, rfl, rfl, SqL.of hF6, atI_nat (j := 0) rfl, by show 1 <= sizeLine; decide, fun R nR => ?_⟩
  exact qw (by decide) R _ _ (s13.trans (SB.new nR _)) rfl (SqT.of upd_same)
theorem sc_NoKind___init__ : FnScope ["self", "kind"] ["self", "kind"] (defScope s_NoKind___init__) := ⟨rfl, rfl, rfl, by decide +kernel, rfl, by decide +kernel, by decide +kernel⟩
theorem ok_NoKind___init__ {C : Addr} (F : Fun K "__init__" "NoKind.__init__" s_NoKind___init__ f fd) : FnOk P w K mg base CX0 1 f fd ["self", "kind"] (spKindI K C) := by
 refine F.ok sc_NoKind___init__ (fun vs H Q E h => ?_) (fun cdv A outer s H vs Q E hr h => ?_)
 ·obtain ⟨a, y, rfl, _⟩ := h
  rfl
 obtain ⟨a, y, rfl, T, no, ha, q⟩ := h
 refine ⟨_, pss_one (ps_ost (pv 0) (pv 1)), ?_⟩
 exact ⟨_, rfl, _, rfl, a, C, rfl, T, no, .inl ⟨ha, q⟩⟩
abbrev N_Book___init__ : List Str := ["self", "kinds", "name", "spreading", "rows"]
theorem sc_Book___init__ : FnScope N_Book___init__ ["self", "kinds"] (defScope s_Book___init__) := ⟨rfl, rfl, rfl, by decide +kernel, rfl, by decide +kernel, by decide +kernel⟩
theorem ok_Book___init__ {C_NoBook C_Book : Addr} (B : BI mg) (O_NoBook : Own K mg "NoBook" C_NoBook) (T_Book : ClsF K C_Book ["spread_by_name", "rows_by_name"]) (G_are_kinds : Got P w K mg base "are_kinds" ["things"] (87) (spAreKinds K)) (F : Fun K "__init__" "Book.__init__" s_Book___init__ f fd) : FnOk P w K mg base (L2N.CX P w) (88) f fd ["self", "kinds"] (spBInit K C_Book C_NoBook) := by
 refine F.okXN sc_Book___init__ (fun vs H Q E h => ?_) (fun cdv A outer s H vs Q E hr h => ?_)
 ·obtain ⟨x, dx, l, xs, ts, rfl, _⟩ := h
  rfl
 obtain ⟨x, dx, l, xs, ts, rfl, hx, hdx, hs, ha, hf, hl, q, qE⟩ := h
 have hun2 := hunT hr
 refine ⟨_, pss_cons (ps_if (pt_not (pt_val (pe_got G_are_kinds (hr.mono (by omega)) rfl (pa_cons (pv 1) pa_nil)))) (pss_one (L2N.ps_raise rfl (L2N.takes_of rfl rfl rfl rfl) (L2N.pmk_own PySem.F.excBase_ValueError O_NoBook.q O_NoBook.gC O_NoBook.k (raises_own O_NoBook.s O_NoBook.t) rfl))) pss_nil)
  (pss_cons (ps_fld (pv 0) (pe_dc (own := [("name", 2), ("spreading", 3), ("rows", 4)]) (g := (gTup K 3 (gCons (gName 2) (gCons (gName 3) (gCons (gName 4) gNil))))) (tt := tYes) (tk := (tVar 2)) (tv := (tVar 3)) rfl sc_Book___init__.nd (pi_list (pv 1)) (blkOk_by (N := N_Book___init__) (sc := defScope s_Book___init__) (by decide +kernel)) (fun _ _ _ _ _ => (pg_tup rfl (pgs_cons (pg_name (i := 2) sc_Book___init__.nd rfl (.inl rfl)) (pgs_cons (pg_name (i := 3) sc_Book___init__.nd rfl (.inl rfl)) (pgs_cons (pg_name (i := 4) sc_Book___init__.nd rfl (.inl rfl)) pgs_nil))))) (fun _ _ _ _ _ => pts_nil) (fun _ _ _ _ _ => (pv 2)) (fun _ _ _ _ _ => (pv 3))) rfl)
  (pss_one (ps_fld (pv 0) (pe_dc (own := [("name", 2), ("spreading", 3), ("rows", 4)]) (g := (gTup K 3 (gCons (gName 2) (gCons (gName 3) (gCons (gName 4) gNil))))) (tt := tYes) (tk := (tVar 2)) (tv := (tCB (fun xs H Q => ∃ p ys, xs = [.ref p] /\ ((SqL K H p ys /\ ∀ l, H l = none -> Q (.ref l) (upd H l (.tup ys))) \/ (SqT K H p ys /\ Q (.ref p) H))) (tCons (tVar 4) tNil))) rfl sc_Book___init__.nd (pi_list (pv 1)) (blkOk_by (N := N_Book___init__) (sc := defScope s_Book___init__) (by decide +kernel)) (fun _ _ _ _ _ => (pg_tup rfl (pgs_cons (pg_name (i := 2) sc_Book___init__.nd rfl (.inl rfl)) (pgs_cons (pg_name (i := 3) sc_Book___init__.nd rfl (.inl rfl)) (pgs_cons (pg_name (i := 4) sc_Book___init__.nd rfl (.inl rfl)) pgs_nil))))) (fun _ _ _ _ _ => pts_nil) (fun _ _ _ _ _ => (pv 2)) (fun _ _ _ _ _ => (pe_callTy call_tuple_of rfl B.tuple boot_tuple (pa_cons (pv 4) pa_nil)))) rfl))), ?_⟩
 refine ⟨_, rfl, l, xs, ts, rfl, SqL.of hs, ha, hf, hl, fun b H1 s1 hb => ?_⟩
 refine ⟨_, rfl, ?_⟩
 cases b with
 | false => exact iteT (qE (fun z => nomatch (hb.mpr z)) H1 s1)
 | true =>
 refine iteF ?_
 obtain ⟨bk, et, ok⟩ := hb.mp rfl
 subst et
 have q2 := q bk rfl ok
 have ha1 := (ha.sb s1).kd
 have hs1 := s1.keep _ _ hs nmn
 have hx1 := s1.keep _ _ hx nmn
 have xlen := ha1.length
 have szl := sizeLine_eq
 have b8 := ok.len
 have hlx : l ≠ x := ne_of hs hx (fun z => nomatch z)
 refine ⟨_, rfl, l, rfl, ⟨_, SqL.of hs1⟩, fun D hD => ?_⟩
 refine dc_seq (walk_list (xs := xs)) hD (by omega) (fun i kvs _ => kvs = Bk.spKV (bk.take i)) rfl (fun H2 s2 => s2.sqL nmn (SqL.of hs1)) (fun _ _ _ _ _ h => h) (fun Pv i y H2 H' kvs hi s2 yy hR hl2 fin _ => ?_) (fun kvs H2 s2 hD2 hR _ => ?_)
 ·obtain ⟨rfl, ey⟩ := yy
  obtain ⟨k, ek, t, r, zs, rfl, h1, h2, h3, _⟩ := ha1.get ey
  refine ⟨t, _, rfl, s2.sqT h1, rfl, _, _, rfl, _, _, rfl, _, _, rfl, rfl, rfl, ?_⟩
  refine ⟨_, rfl, _, rfl, fin (Sum.inr k.n) _ _ SB.refl ?_⟩
  rw [hR, putK_new, List.take_add_one, ek, Option.toList_some, Bk.spKV, Bk.spKV, List.map_append]
  ·rfl
  ·intro p hp e
   obtain ⟨j, hj, rfl⟩ := List.mem_map.mp hp
   injection e with e
   exact Bk.nodup_at ok.nd ek j hj e
 ·rw [xlen, List.take_length] at hR
  subst hR
  have hx2 := s2.keep _ _ hx1 nmn
  have hl2 := s2.keep _ _ hs1 nmn
  have ha2 := ha1.sb s2 NoLst.nil
  refine ⟨_, rfl, x, _, dx, _, rfl, hx2, T_Book.c, T_Book.no _ (by simp), by decide, ?_⟩
  have e1 : putF (Str.ofString "spread_by_name") (V.ref D) [] = [(Str.ofString "spread_by_name", V.ref D)] := rfl
  rw [e1]
  have t3 : SB [x] H2 (upd H2 x (.ins C_Book dx [(Str.ofString "spread_by_name", V.ref D)])) := SB.setG hx2 (by simp) (fun _ z => nomatch z) (fun _ _ z => nomatch z) _
  have nl3 : NoLst H2 [] [x] := fun p hp => .inr fun xs z => by rw [List.mem_singleton.mp hp, hx2] at z; cases z
  have ha3 := ha2.sb t3 nl3
  have hl3 := t3.keep _ _ hl2 (by simpa using hlx)
  have hx3 : upd H2 x (.ins C_Book dx [(Str.ofString "spread_by_name", V.ref D)]) x = some (.ins C_Book dx [(Str.ofString "spread_by_name", V.ref D)]) := upd_same
  have hD3 := t3.keep _ _ hD2 (by simpa using ne_of hD2 hx2 (fun z => nomatch z))
  have s03 := ((s1.trans s2).nil (ps := [x])).trans t3
  generalize upd H2 x (.ins C_Book dx [(Str.ofString "spread_by_name", V.ref D)]) = H3 at t3 ha3 hl3 hx3 hD3 s03
  refine ⟨_, rfl, l, rfl, ⟨_, SqL.of hl3⟩, fun D2 hn2 => ?_⟩
  refine dc_seq (walk_list (xs := xs)) hn2 (by omega) (fun i kvs H4 => ∃ us, kvs = Bk.rowKV (bk.take i) us /\ Bears K H4 Kd.rowE us (bk.take i)) ⟨[], rfl, .nil⟩ (fun H4 s4 => s4.sqL nmn (SqL.of hl3)) (fun i us H4 H5 s5 ⟨us', e, hb⟩ => ⟨us', e, hb.sb s5 Kd.noList_rowE⟩) (fun Pv i y H4 H' kvs hi s4 yy hR hl4 fin _ => ?_) (fun kvs H4 s4 hD4 hR _ => ?_)
  ·obtain ⟨rfl, ey⟩ := yy
   obtain ⟨us, rfl, hb⟩ := hR
   obtain ⟨k, ek, t, r, zs, rfl, h1, h2, h3, _⟩ := ha3.get ey
   refine ⟨t, _, rfl, s4.sqT h1, rfl, _, _, rfl, _, _, rfl, _, _, rfl, rfl, rfl, ?_⟩
   refine ⟨_, rfl, _, rfl, r, zs, rfl, .inl ⟨SqL.of (s4.keep _ _ h2 nmn), fun p hp => ?_⟩⟩
   have t5 := SB.new (ps := []) hp (.tup zs)
   refine fin (Sum.inr k.n) _ _ t5 ⟨us ++ [.ref p], ?_, ?_⟩
   ·rw [putK_new, List.take_add_one, ek, Option.toList_some, Bk.rowKV, Bk.rowKV, List.zipWith_append hb.length.symm]
    ·rfl
    ·intro p hp e
     obtain ⟨j, hj, e2⟩ := rowKV_mem hp
     rw [e2] at e
     injection e with e
     exact Bk.nodup_at ok.nd ek j hj e
   ·rw [List.take_add_one, ek, Option.toList_some]
    exact Bears.append (hb.sb t5 Kd.noList_rowE) (.cons (.tup (.inl (.inl upd_same)) (Bears.dp ((h3.sb s4 Ru.noList_enc).sb t5 Ru.noList_enc))) .nil)
  ·rw [xlen, List.take_length] at hR
   obtain ⟨us, rfl, hb⟩ := hR
   have hx4 := s4.keep _ _ hx3 nmn
   refine ⟨_, rfl, x, _, dx, _, rfl, hx4, T_Book.c, T_Book.no _ (by simp), by simp, ?_⟩
   have t5 : SB [x] H4 (upd H4 x (.ins C_Book dx (bkF D D2))) := SB.setG hx4 (by simp) (fun _ z => nomatch z) (fun _ _ z => nomatch z) _
   refine q2 _ ((s03.trans s4.nil).trans t5) ⟨x, dx, D, D2, us, rfl, upd_same, ?_, ?_, hb.sb t5 Kd.noList_rowE⟩
   ·exact t5.keep _ _ (s4.keep _ _ hD3 nmn) (by simpa using ne_of (s4.keep _ _ hD3 nmn) hx4 (fun z => nomatch z))
   ·exact t5.keep _ _ hD4 (by simpa using ne_of hD4 hx4 (fun z => nomatch z))
abbrev N_Book_names : List Str := ["self"]
theorem sc_Book_names : FnScope N_Book_names ["self"] (defScope s_Book_names) := ⟨rfl, rfl, rfl, by decide +kernel, rfl, by decide +kernel, by decide +kernel⟩
theorem ok_Book_names {C_Book : Addr} (B : BI mg) (T_Book : ClsF K C_Book ["spread_by_name", "rows_by_name"]) (F : Fun K "names" "Book.names" s_Book_names f fd) : FnOk P w K mg base CX0 (1) f fd ["self"] (spBNames K C_Book) := by
 refine F.ok sc_Book_names (fun vs H Q E h => ?_) (fun cdv A outer s H vs Q E hr h => ?_)
 ·obtain ⟨v, b, rfl, _⟩ := h
  rfl
 obtain ⟨v, b, rfl, hb, hl, q⟩ := h
 have hun2 := hunT hr
 refine ⟨_, pss_one (ps_ret (pe_callTy (call_listD rfl) rfl B.list boot_list (pa_cons (pe_fld (pv 0) rfl) pa_nil))), ?_⟩
 obtain ⟨a, dx, d1, d2, us, rfl, h1, h2, h3, h4⟩ := hb
 refine ⟨_, rfl, a, _, dx, _, _, rfl, h1, T_Book.c, T_Book.no _ (by simp), rfl, d1, _, rfl, .inl h2, fun p hp => ?_⟩
 exact q p _ (SB.new hp _) hp (by rw [upd_same, Bk.spKV, List.map_map, List.map_map]; rfl)
abbrev N_Book_spreads : List Str := ["self", "name"]
theorem sc_Book_spreads : FnScope N_Book_spreads ["self", "name"] (defScope s_Book_spreads) := ⟨rfl, rfl, rfl, by decide +kernel, rfl, by decide +kernel, by decide +kernel⟩
theorem ok_Book_spreads {C_Book C_NoKind : Addr} (B : BI mg) (T_Book : ClsF K C_Book ["spread_by_name", "rows_by_name"]) (G_check_kind : GotXN P w K mg base "check_kind" ["book", "name"] (3) (spCheckK K C_Book C_NoKind)) (F : Fun K "spreads" "Book.spreads" s_Book_spreads f fd) : FnOk P w K mg base (L2N.CX P w) (4) f fd ["self", "name"] (spBSpreads K C_Book C_NoKind) := by
 refine F.okXN sc_Book_spreads (fun vs H Q E h => ?_) (fun cdv A outer s H vs Q E hr h => ?_)
 ·obtain ⟨v, b, n, rfl, _⟩ := h
  rfl
 obtain ⟨v, b, n, rfl, hb, hl, qk, qE⟩ := h
 have hun2 := hunT hr
 refine ⟨_, pss_cons (ps_expr (pe_gotSN G_check_kind (hr.mono (by omega)) rfl (L2N.takes_of rfl rfl rfl rfl) (pa_cons (pv 0) (pa_cons (pv 1) pa_nil))))
  (pss_one (ps_ret (pe_dget (by show A.units + 3 + 1 < cLine; omega) (pe_fld (pv 0) rfl) (pv 1) (fun _ _ => rfl)))), ?_⟩
 refine ⟨_, rfl, _, rfl, _, b, n, rfl, hb, hl, fun k e H1 s1 => ?_, qE⟩
 obtain ⟨a, dx, d1, d2, us, rfl, h1, h2, h3, h4⟩ := hb.sb0 s1
 refine ⟨_, rfl, a, _, dx, _, _, rfl, h1, T_Book.c, T_Book.no _ (by simp), rfl, _, rfl, d1, V.bl k.w, rfl, getK h2 (by rw [Bk.spKV_val, e]; rfl), qk k e H1 s1⟩
abbrev N_Book_rules : List Str := ["self", "name"]
theorem sc_Book_rules : FnScope N_Book_rules ["self", "name"] (defScope s_Book_rules) := ⟨rfl, rfl, rfl, by decide +kernel, rfl, by decide +kernel, by decide +kernel⟩
theorem ok_Book_rules {C_Book C_NoKind : Addr} (B : BI mg) (T_Book : ClsF K C_Book ["spread_by_name", "rows_by_name"]) (G_check_kind : GotXN P w K mg base "check_kind" ["book", "name"] (3) (spCheckK K C_Book C_NoKind)) (F : Fun K "rules" "Book.rules" s_Book_rules f fd) : FnOk P w K mg base (L2N.CX P w) (4) f fd ["self", "name"] (spBRules K C_Book C_NoKind) := by
 refine F.okXN sc_Book_rules (fun vs H Q E h => ?_) (fun cdv A outer s H vs Q E hr h => ?_)
 ·obtain ⟨v, b, n, rfl, _⟩ := h
  rfl
 obtain ⟨v, b, n, rfl, hb, hl, hr4, qk, qE⟩ := h
 have hun2 := hunT hr
 refine ⟨_, pss_cons (ps_expr (pe_gotSN G_check_kind (hr.mono (by omega)) rfl (L2N.takes_of rfl rfl rfl rfl) (pa_cons (pv 0) (pa_cons (pv 1) pa_nil))))
  (pss_one (ps_ret (pe_callTy call_list_of rfl B.list boot_list (pa_cons (pe_dget (by show A.units + 3 + 1 < cLine; omega) (pe_fld (pv 0) rfl) (pv 1) (fun _ _ => rfl)) pa_nil)))), ?_⟩
 refine ⟨_, rfl, _, rfl, _, b, n, rfl, hb, hl, fun k e H1 s1 => ?_, qE⟩
 obtain ⟨a, dx, d1, d2, us, rfl, h1, h2, h3, h4⟩ := hb.sb0 s1
 obtain ⟨u, hv, hu⟩ := Bk.rowKV_val n h4 e
 refine ⟨_, rfl, a, _, dx, _, _, rfl, h1, T_Book.c, T_Book.no _ (by simp), rfl, _, rfl, d2, u, rfl, getK h3 hv, ?_⟩
 cases hu with
 | tup ht hd => exact ⟨_, _, rfl, .inr ht, fun l hl => qk k e l _ _ (s1.trans (SB.new hl _)) (s1.dom l hl) upd_same ((Bears.of hd).sb (SB.new (ps := []) hl _) Ru.noList_enc)⟩
abbrev N_Play___init__ : List Str := ["self", "book", "grove"]
theorem sc_Play___init__ : FnScope N_Play___init__ ["self", "book", "grove"] (defScope s_Play___init__) := ⟨rfl, rfl, rfl, by decide +kernel, rfl, by decide +kernel, by decide +kernel⟩
theorem ok_Play___init__ {C_Play C_Book : Addr} (B : BI mg) (T_Play : ClsF K C_Play ["book", "stood", "done", "undone"]) (G_check_kinds : GotXN P w K mg base "check_kinds" ["book", "grove"] (72) (spCheckKsF K C_Book)) (F : Fun K "__init__" "Play.__init__" s_Play___init__ f fd) : FnOk P w K mg base (L2N.CX P w) (75) f fd ["self", "book", "grove"] (spPyInit K C_Play C_Book) := by
 refine F.okXN sc_Play___init__ (fun vs H Q E h => ?_) (fun cdv A outer s H vs Q E hr h => ?_)
 ·obtain ⟨x, dx, bv, gv, b, g, rfl, _⟩ := h
  rfl
 obtain ⟨x, dx, bv, gv, b, g, rfl, hx, hbk, bl, hg, gd, gp, gn, q⟩ := h
 have hun2 := hunT hr
 refine ⟨_, pss_cons (ps_expr (pe_gotSN G_check_kinds (hr.mono (by omega)) rfl (L2N.takes_of rfl rfl rfl rfl) (pa_cons (pv 1) (pa_cons (pv 2) pa_nil))))
  (pss_cons (ps_fld (pv 0) (pv 1) rfl)
  (pss_cons (ps_fld (pv 0) (pe_lst (pa_cons (pv 2) pa_nil)) rfl)
  (pss_cons (ps_fld (pv 0) (pe_lst pa_nil) rfl)
  (pss_one (ps_fld (pv 0) (pe_lst pa_nil) rfl))))), ?_⟩
 refine ⟨_, rfl, _, rfl, bv, gv, b, g, rfl, hbk, hg, bl, gd, gp, gn, fun H1 s1 => ?_⟩
 have hx1 := s1.keep _ _ hx nmn
 refine ⟨_, rfl, _, rfl, x, _, dx, _, rfl, hx1, T_Play.c, T_Play.no _ (by simp), by decide, ?_⟩
 have e1 : putF (Str.ofString "book") bv [] = [(Str.ofString "book", bv)] := rfl
 rw [e1]
 have t2 : SB [x] H1 (upd H1 x (.ins C_Play dx [(Str.ofString "book", bv)])) := SB.setG hx1 (by simp) (fun _ z => nomatch z) (fun _ _ z => nomatch z) _
 have hx2 : upd H1 x (.ins C_Play dx [(Str.ofString "book", bv)]) x = some (.ins C_Play dx [(Str.ofString "book", bv)]) := upd_same
 have hg2 := GA.sb (hg.sb s1) t2
 have s02 := (s1.nil (ps := [x])).trans t2
 generalize upd H1 x (.ins C_Play dx [(Str.ofString "book", bv)]) = H2 at t2 hx2 hg2 s02
 refine ⟨_, rfl, by show 1 <= sizeLine; decide, fun ls nls => ?_⟩
 have t3 := SB.new (ps := []) nls (.lst [gv])
 have hs3 : upd H2 ls (.lst [gv]) ls = some (.lst [gv]) := upd_same
 have hx3 := t3.keep _ _ hx2 nmn
 have hg3 := hg2.sb t3
 have s03 := s02.trans (t3.nil (ps := [x]))
 have nls0 := s02.dom _ nls
 generalize upd H2 ls (.lst [gv]) = H3 at t3 hs3 hx3 hg3 s03
 refine ⟨_, rfl, x, _, dx, _, rfl, hx3, T_Play.c, T_Play.no _ (by simp), by simp, ?_⟩
 have e4 : putF (Str.ofString "stood") (V.ref ls) [(Str.ofString "book", bv)] = [(Str.ofString "book", bv), (Str.ofString "stood", V.ref ls)] := rfl
 rw [e4]
 have t4 : SB [x] H3 (upd H3 x (.ins C_Play dx [(Str.ofString "book", bv), (Str.ofString "stood", V.ref ls)])) := SB.setG hx3 (by simp) (fun _ z => nomatch z) (fun _ _ z => nomatch z) _
 have hx4 : upd H3 x (.ins C_Play dx [(Str.ofString "book", bv), (Str.ofString "stood", V.ref ls)]) x = some (.ins C_Play dx [(Str.ofString "book", bv), (Str.ofString "stood", V.ref ls)]) := upd_same
 have lx : ls ≠ x := ne_of hs3 hx3 (fun z => nomatch z)
 have hs4 := t4.keep _ _ hs3 (by simpa using lx)
 have hg4 := GA.sb hg3 t4
 have s04 := s03.trans t4
 generalize upd H3 x (.ins C_Play dx [(Str.ofString "book", bv), (Str.ofString "stood", V.ref ls)]) = H4 at t4 hx4 hs4 hg4 s04
 refine ⟨by show 0 <= sizeLine; decide, fun ld nld => ?_⟩
 have t5 := SB.new (ps := []) nld (.lst [])
 have hd5 : upd H4 ld (.lst []) ld = some (.lst []) := upd_same
 have hx5 := t5.keep _ _ hx4 nmn
 have hs5 := t5.keep _ _ hs4 nmn
 have hg5 := hg4.sb t5
 have s05 := s04.trans (t5.nil (ps := [x]))
 have nld0 := s04.dom _ nld
 have n1 : ls ≠ ld := ne_of_none hs4 nld
 generalize upd H4 ld (.lst []) = H5 at t5 hd5 hx5 hs5 hg5 s05
 refine ⟨_, rfl, x, _, dx, _, rfl, hx5, T_Play.c, T_Play.no _ (by simp), by simp, ?_⟩
 have e6 : putF (Str.ofString "done") (V.ref ld) [(Str.ofString "book", bv), (Str.ofString "stood", V.ref ls)] = [(Str.ofString "book", bv), (Str.ofString "stood", V.ref ls), (Str.ofString "done", V.ref ld)] := rfl
 rw [e6]
 have t6 : SB [x] H5 (upd H5 x (.ins C_Play dx [(Str.ofString "book", bv), (Str.ofString "stood", V.ref ls), (Str.ofString "done", V.ref ld)])) := SB.setG hx5 (by simp) (fun _ z => nomatch z) (fun _ _ z => nomatch z) _
 have hx6 : upd H5 x (.ins C_Play dx [(Str.ofString "book", bv), (Str.ofString "stood", V.ref ls), (Str.ofString "done", V.ref ld)]) x = some (.ins C_Play dx [(Str.ofString "book", bv), (Str.ofString "stood", V.ref ls), (Str.ofString "done", V.ref ld)]) := upd_same
 have dx' : ld ≠ x := ne_of hd5 hx5 (fun z => nomatch z)
 have hs6 := t6.keep _ _ hs5 (by simpa using lx)
 have hd6 := t6.keep _ _ hd5 (by simpa using dx')
 have hg6 := GA.sb hg5 t6
 have s06 := s05.trans t6
 generalize upd H5 x (.ins C_Play dx [(Str.ofString "book", bv), (Str.ofString "stood", V.ref ls), (Str.ofString "done", V.ref ld)]) = H6 at t6 hx6 hs6 hd6 hg6 s06
 refine ⟨by show 0 <= sizeLine; decide, fun lu nlu => ?_⟩
 have t7 := SB.new (ps := []) nlu (.lst [])
 have hu7 : upd H6 lu (.lst []) lu = some (.lst []) := upd_same
 have hx7 := t7.keep _ _ hx6 nmn
 have hs7 := t7.keep _ _ hs6 nmn
 have hd7 := t7.keep _ _ hd6 nmn
 have hg7 := hg6.sb t7
 have s07 := s06.trans (t7.nil (ps := [x]))
 have nlu0 := s06.dom _ nlu
 have n2 : ls ≠ lu := ne_of_none hs6 nlu
 have n3 : ld ≠ lu := ne_of_none hd6 nlu
 generalize upd H6 lu (.lst []) = H7 at t7 hu7 hx7 hs7 hd7 hg7 s07
 refine ⟨_, rfl, x, _, dx, _, rfl, hx7, T_Play.c, T_Play.no _ (by simp), by simp, ?_⟩
 have e8 : putF (Str.ofString "undone") (V.ref lu) [(Str.ofString "book", bv), (Str.ofString "stood", V.ref ls), (Str.ofString "done", V.ref ld)] = plF bv ls ld lu := rfl
 rw [e8]
 have t8 : SB [x] H7 (upd H7 x (.ins C_Play dx (plF bv ls ld lu))) := SB.setG hx7 (by simp) (fun _ z => nomatch z) (fun _ _ z => nomatch z) _
 have ux : lu ≠ x := ne_of hu7 hx7 (fun z => nomatch z)
 exact q ls ld lu _ (s07.trans t8) nls0 nld0 nlu0 ⟨⟨dx, upd_same⟩, ⟨_, t8.keep _ _ hs7 (by simpa using lx), .cons (GA.sb hg7 t8) .nil⟩, ⟨_, t8.keep _ _ hd7 (by simpa using dx'), .nil⟩, ⟨_, t8.keep _ _ hu7 (by simpa using ux), .nil⟩, n1, n2, n3⟩
abbrev N_Play_grove : List Str := ["self"]
theorem sc_Play_grove : FnScope N_Play_grove ["self"] (defScope s_Play_grove) := ⟨rfl, rfl, rfl, by decide +kernel, rfl, by decide +kernel, by decide +kernel⟩
theorem ok_Play_grove {C_Play : Addr} (B : BI mg) (T_Play : ClsF K C_Play ["book", "stood", "done", "undone"]) (F : Fun K "grove" "Play.grove" s_Play_grove f fd) : FnOk P w K mg base CX0 (1) f fd ["self"] (spPyGrove K C_Play) := by
 refine F.ok sc_Play_grove (fun vs H Q E h => ?_) (fun cdv A outer s H vs Q E hr h => ?_)
 ·obtain ⟨a, ls, ld, lu, bv, gs, g, ds, us, rfl, _⟩ := h
  rfl
 obtain ⟨a, ls, ld, lu, bv, gs, g, ds, us, rfl, hp, q⟩ := h
 have hun2 := hunT hr
 refine ⟨_, pss_one (ps_ret (pe_ix ix_list (pe_fld (pv 0) rfl) (pe_un un_neg pe_int) (fun _ _ => rfl))), ?_⟩
 obtain ⟨dx, hi⟩ := hp.ins
 obtain ⟨vs, hs, hb⟩ := hp.st
 obtain ⟨us', u, rfl, _, hu⟩ := hb.last
 exact ⟨_, rfl, a, _, dx, _, _, rfl, hi, T_Play.c, T_Play.no _ (by simp), rfl, 1, rfl, ls, _, -1, u, rfl, rfl, SqL.of hs, atI_app, q u hu⟩
abbrev N_Play_falls : List Str := ["self"]
theorem sc_Play_falls : FnScope N_Play_falls ["self"] (defScope s_Play_falls) := ⟨rfl, rfl, rfl, by decide +kernel, rfl, by decide +kernel, by decide +kernel⟩
theorem ok_Play_falls {C_Play : Addr} (B : BI mg) (T_Play : ClsF K C_Play ["book", "stood", "done", "undone"]) (F : Fun K "falls" "Play.falls" s_Play_falls f fd) : FnOk P w K mg base CX0 (1) f fd ["self"] (spPyFalls K C_Play) := by
 refine F.ok sc_Play_falls (fun vs H Q E h => ?_) (fun cdv A outer s H vs Q E hr h => ?_)
 ·obtain ⟨a, ls, ld, lu, bv, gs, ds, us, rfl, _⟩ := h
  rfl
 obtain ⟨a, ls, ld, lu, bv, gs, ds, us, rfl, hp, q⟩ := h
 have hun2 := hunT hr
 refine ⟨_, pss_one (ps_ret (pe_callTy call_list_of rfl B.list boot_list (pa_cons (pe_fld (pv 0) rfl) pa_nil))), ?_⟩
 obtain ⟨dx, hi⟩ := hp.ins
 obtain ⟨vs, hs, hb⟩ := hp.dn
 refine ⟨_, rfl, a, _, dx, _, _, rfl, hi, T_Play.c, T_Play.no _ (by simp), rfl, ld, vs, rfl, .inl (SqL.of hs), fun l nl => ?_⟩
 exact q l vs _ (SB.new nl _) nl upd_same (hb.sb (SB.new (ps := []) nl _) faE_noList)
abbrev N_Play_fall : List Str := ["self", "place", "rule", "number", "behind", "changed"]
theorem sc_Play_fall : FnScope N_Play_fall ["self", "place", "rule", "number"] (defScope s_Play_fall) := ⟨rfl, rfl, rfl, by decide +kernel, rfl, by decide +kernel, by decide +kernel⟩
theorem ok_Play_fall {C_Play C_Book C_NoPlace C_NoRule C_NoNumber C_TooGreat : Addr} (B : BI mg) (T_Play : ClsF K C_Play ["book", "stood", "done", "undone"]) (G_fallen : GotXN P w K mg base "fallen" ["book", "grove", "place", "rule", "number"] (74) (spFallen K C_Book C_NoPlace C_NoRule C_NoNumber C_TooGreat)) (G_Play_grove : GotM P w K mg base C_Play "grove" ["self"] (1) (spPyGrove K C_Play)) (F : Fun K "fall" "Play.fall" s_Play_fall f fd) : FnOk P w K mg base (L2N.CX P w) (76) f fd ["self", "place", "rule", "number"] (spPyFall K C_Play C_Book C_NoPlace C_NoRule C_NoNumber C_TooGreat) := by
 refine F.okXN sc_Play_fall (fun vs H Q E h => ?_) (fun cdv A outer s H vs Q E hr h => ?_)
 ·obtain ⟨a, ls, ld, lu, pa, bv, x, y, b, gs, g, ds, us, D, xs, os, ro, so, rfl, _⟩ := h
  rfl
 obtain ⟨a, ls, ld, lu, pa, bv, x, y, b, gs, g, ds, us, D, xs, os, ro, so, rfl, ⟨hp, gl, dl⟩, ⟨hbk, ok⟩, ⟨go, gd, gp, gn⟩, ⟨hpa, hos⟩, hx, hy, nb, qP, q⟩ := h
 have hun2 := hunT hr
 refine ⟨_, pss_cons (ps_asg (pe_gotSN G_fallen (hr.mono (by omega)) rfl (L2N.takes_of rfl rfl rfl rfl) (pa_cons (pe_fld (pv 0) rfl) (pa_cons (pe_gotM0 G_Play_grove (hr.mono (by omega)) (pv 0)) (pa_cons (pv 1) (pa_cons (pv 2) (pa_cons (pv 3) pa_nil)))))) (pg_tup rfl (pgs_cons (pg_name (i := 4) sc_Play_fall.nd rfl (.inl rfl)) (pgs_cons (pg_name (i := 5) sc_Play_fall.nd rfl (.inl rfl)) pgs_nil))))
  (pss_cons (ps_expr (pe_bm PySem.F.plainAttrs_list PySem.F.slot_list_append PySem.F.type_list_append mt_append (pe_fld (pv 0) rfl) (pa_cons (pv 4) pa_nil)))
  (pss_cons (ps_expr (pe_bm PySem.F.plainAttrs_list PySem.F.slot_list_append PySem.F.type_list_append mt_append (pe_fld (pv 0) rfl) (pa_cons (pe_tup (pa_cons (pv 1) (pa_cons (pv 2) (pa_cons (pv 3) pa_nil)))) pa_nil)))
  (pss_cons (ps_fld (pv 0) (pe_lst pa_nil) rfl)
  (pss_one (ps_ret (pv 5)))))), ?_⟩
 have szl := sizeLine_eq
 obtain ⟨dx, hi⟩ := hp.ins
 refine ⟨_, rfl, a, _, dx, _, _, rfl, hi, T_Play.c, T_Play.no _ (by simp), rfl, ?_⟩
 refine ⟨_, rfl, a, dx, _, rfl, hi, rfl, ?_⟩
 refine nilI ?_
 refine ⟨a, ls, ld, lu, bv, gs, g, ds, us, rfl, hp, fun gv hg => ?_⟩
 refine ⟨_, rfl, _, rfl, _, rfl, bv, gv, x, y, pa, b, g, D, xs, os, ro, so, rfl, ⟨hbk, ok⟩, ⟨hg, go, gd, gp, gn⟩, ⟨hpa, hos⟩, hx, hy, nb, qP, fun pl k kd e1 e2 e3 => ?_⟩
 obtain ⟨q1, q2⟩ := q pl k kd e1 e2 e3
 refine ⟨q1, fun i r e4 e5 => ?_⟩
 obtain ⟨q3, q4⟩ := q2 i r e4 e5
 refine ⟨q3, fun n e6 n0 => ?_⟩
 obtain ⟨q5, q6⟩ := q4 n e6 n0
 refine ⟨q5, fun hin t u p H1 s1 nt ht hu hpp => ?_⟩
 subst e1 e4 e6
 obtain rfl := hos.ints
 obtain rfl := hx.int
 obtain rfl := hy.int
 refine ⟨t, _, rfl, ht, rfl, _, _, rfl, _, _, rfl, rfl, ?_⟩
 have hp1 := hp.sb0 s1
 obtain ⟨⟨dx, hi⟩, ⟨v1, hs1, bs1⟩, ⟨v2, hd1, bd1⟩, _, m1, m2, m3⟩ := hp1
 have ns : a ≠ ls := ne_of hi hs1 (fun z => nomatch z)
 have nd : a ≠ ld := ne_of hi hd1 (fun z => nomatch z)
 have l1 := bs1.length
 have l2 := bd1.length
 rw [List.length_append, List.length_singleton] at l1
 refine ⟨_, rfl, a, _, dx, _, _, rfl, hi, T_Play.c, T_Play.no _ (by simp), rfl, .inl ⟨rfl, _, SqL.of hs1⟩, _, rfl, ls, _, _, rfl, rfl, hs1, by omega, ?_⟩
 have t2 := SB.set (ps := [ls]) hs1 (by simp) (.lst (v1 ++ [u]))
 have hs2 : upd H1 ls (.lst (v1 ++ [u])) ls = some (.lst (v1 ++ [u])) := upd_same
 have hi2 := t2.keep _ _ hi (by simpa using ns)
 have hd2 := t2.keep _ _ hd1 (by simpa using fun z : ld = ls => m1 z.symm)
 have hpa2 := t2.sqT (s1.sqT hpa)
 have hb2 : Bears K _ Gr.enc (v1 ++ [u]) (gs ++ [g] ++ [_]) := (bs1.sb t2 Gr.noList_enc).append (.cons (GA.sb hu t2) .nil)
 have hc2 := bd1.sb t2 faE_noList
 have hp2 := Dp_sb t2 _ _ (pl_noList _) hpp
 have s02 : SB [a, ls, ld] H _ := s1.nil.trans (t2.mono (by simp))
 generalize upd H1 ls (.lst (v1 ++ [u])) = H2 at t2 hs2 hi2 hd2 hpa2 hb2 hc2 hp2 s02
 refine ⟨_, rfl, a, _, dx, _, _, rfl, hi2, T_Play.c, T_Play.no _ (by simp), rfl, .inl ⟨rfl, _, SqL.of hd2⟩, _, rfl, _, rfl, _, rfl, by show 3 <= sizeLine; decide, fun T nT => ?_⟩
 have t3 := SB.new (ps := []) nT (.tup [.ref pa, .int (i : Nat), .int n])
 have hT : SqT K (upd H2 T (.tup [.ref pa, .int (i : Nat), .int n])) T [.ref pa, .int (i : Nat), .int n] := SqT.of upd_same
 have hs3 := t3.keep _ _ hs2 nmn
 have hi3 := t3.keep _ _ hi2 nmn
 have hd3 := t3.keep _ _ hd2 nmn
 have hf3 : Dp K _ (.ref T) (faE (pl, i, n)) := .tup hT (.cons (PL_of (t3.sqT hpa2)) (.cons (.int _) (.cons (.int _) .nil)))
 have hb3 := hb2.sb t3 Gr.noList_enc
 have hc3 := hc2.sb t3 faE_noList
 have hp3 := Dp_sb t3 _ _ (pl_noList _) hp2
 have s03 := s02.trans (t3.nil (ps := [a, ls, ld]))
 generalize upd H2 T (.tup [.ref pa, .int (i : Nat), .int n]) = H3 at t3 hT hs3 hi3 hd3 hf3 hb3 hc3 hp3 s03
 refine ⟨ld, _, _, rfl, rfl, hd3, by omega, ?_⟩
 have t4 := SB.set (ps := [ld]) hd3 (by simp) (.lst (v2 ++ [.ref T]))
 have hd4 : upd H3 ld (.lst (v2 ++ [.ref T])) ld = some (.lst (v2 ++ [.ref T])) := upd_same
 have hs4 := t4.keep _ _ hs3 (by simpa using m1)
 have hi4 := t4.keep _ _ hi3 (by simpa using nd)
 have hb4 := hb3.sb t4 Gr.noList_enc
 have hc4 : Bears K _ faE (v2 ++ [.ref T]) (ds ++ [(pl, i, n)]) := (hc3.sb t4 faE_noList).append (.cons (Dp_sb t4 _ _ (faE_noList _) hf3) .nil)
 have hp4 := Dp_sb t4 _ _ (pl_noList _) hp3
 have s04 := s03.trans (t4.mono (qs := [a, ls, ld]) (by simp))
 generalize upd H3 ld (.lst (v2 ++ [.ref T])) = H4 at t4 hd4 hs4 hi4 hb4 hc4 hp4 s04
 refine ⟨by show 0 <= sizeLine; decide, fun lu' nlu => ?_⟩
 have t5 := SB.new (ps := []) nlu (.lst [])
 have hu5 : upd H4 lu' (.lst []) lu' = some (.lst []) := upd_same
 have hd5 := t5.keep _ _ hd4 nmn
 have hs5 := t5.keep _ _ hs4 nmn
 have hi5 := t5.keep _ _ hi4 nmn
 have hb5 := hb4.sb t5 Gr.noList_enc
 have hc5 := hc4.sb t5 faE_noList
 have hp5 := Dp_sb t5 _ _ (pl_noList _) hp4
 have s05 := s04.trans (t5.nil (ps := [a, ls, ld]))
 have nlu0 := s04.dom _ nlu
 have w2 : ls ≠ lu' := ne_of_none hs4 nlu
 have w3 : ld ≠ lu' := ne_of_none hd4 nlu
 generalize upd H4 lu' (.lst []) = H5 at t5 hu5 hd5 hs5 hi5 hb5 hc5 hp5 s05
 refine ⟨_, rfl, a, _, dx, _, rfl, hi5, T_Play.c, T_Play.no _ (by simp), by simp, ?_⟩
 have e6 : putF (Str.ofString "undone") (V.ref lu') (plF bv ls ld lu) = plF bv ls ld lu' := rfl
 rw [e6]
 have t6 : SB [a] H5 (upd H5 a (.ins C_Play dx (plF bv ls ld lu'))) := SB.setG hi5 (by simp) (fun _ z => nomatch z) (fun _ _ z => nomatch z) _
 have au : lu' ≠ a := ne_of hu5 hi5 (fun z => nomatch z)
 refine ⟨_, rfl, q6 hin lu' p _ (s05.trans (t6.mono (by simp))) nlu0 ⟨⟨dx, upd_same⟩, ⟨_, t6.keep _ _ hs5 (by simpa using fun z : ls = a => ns z.symm), hb5.sb t6 Gr.noList_enc⟩, ⟨_, t6.keep _ _ hd5 (by simpa using fun z : ld = a => nd z.symm), hc5.sb t6 faE_noList⟩, ⟨_, t6.keep _ _ hu5 (by simpa using au), .nil⟩, m1, w2, w3⟩ (Dp_sb t6 _ _ (pl_noList _) hp5)⟩
abbrev N_Play_back : List Str := ["self"]
theorem sc_Play_back : FnScope N_Play_back ["self"] (defScope s_Play_back) := ⟨rfl, rfl, rfl, by decide +kernel, rfl, by decide +kernel, by decide +kernel⟩
theorem ok_Play_back {C_NoFall C_Play : Addr} (B : BI mg) (O_NoFall : Own K mg "NoFall" C_NoFall) (T_Play : ClsF K C_Play ["book", "stood", "done", "undone"]) (G_Play_grove : GotM P w K mg base C_Play "grove" ["self"] (1) (spPyGrove K C_Play)) (F : Fun K "back" "Play.back" s_Play_back f fd) : FnOk P w K mg base (L2N.CX P w) (3) f fd ["self"] (spPyBack K C_Play C_NoFall) := by
 refine F.okXN sc_Play_back (fun vs H Q E h => ?_) (fun cdv A outer s H vs Q E hr h => ?_)
 ·obtain ⟨a, ls, ld, lu, bv, gs, ds, us, rfl, _⟩ := h
  rfl
 obtain ⟨a, ls, ld, lu, bv, gs, ds, us, rfl, hp, ul, qE, q⟩ := h
 have hun2 := hunT hr
 refine ⟨_, pss_cons (ps_if (pt_not (pt_truth (pe_fld (pv 0) rfl) (by intro _; rfl))) (pss_one (L2N.ps_raise rfl (L2N.takes_of rfl rfl rfl rfl) (L2N.pmk_own PySem.F.excBase_ValueError O_NoFall.q O_NoFall.gC O_NoFall.k (raises_own O_NoFall.s O_NoFall.t) rfl))) pss_nil)
  (pss_cons (ps_expr (pe_bm PySem.F.plainAttrs_list PySem.F.slot_list_append PySem.F.type_list_append mt_append (pe_fld (pv 0) rfl) (pa_cons (pe_tup (pa_cons (pe_bm0 PySem.F.plainAttrs_list PySem.F.slot_list_pop PySem.F.type_list_pop mt_pop (pe_fld (pv 0) rfl)) (pa_cons (pe_bm0 PySem.F.plainAttrs_list PySem.F.slot_list_pop PySem.F.type_list_pop mt_pop (pe_fld (pv 0) rfl)) pa_nil))) pa_nil)))
  (pss_one (ps_ret (pe_gotM0 G_Play_grove (hr.mono (by omega)) (pv 0))))), ?_⟩
 have szl := sizeLine_eq
 have hp0 := hp
 obtain ⟨⟨dx, hi⟩, ⟨v1, hs, bs⟩, ⟨v2, hd, bd⟩, ⟨v3, hu, bu⟩, m1, m2, m3⟩ := hp
 refine ⟨_, rfl, a, _, dx, _, _, rfl, hi, T_Play.c, T_Play.no _ (by simp), rfl, _, .inl ⟨v2, SqL.of hd, rfl⟩, ?_⟩
 have l2 := bd.length
 by_cases hds : ds = []
 ·subst hds
  have e2 : v2 = [] := List.length_eq_zero_iff.mp l2
  subst e2
  exact iteT (qE rfl _ SB.refl)
 obtain ⟨g0, h, g, d0, f0, rfl, rfl, qq⟩ := q hds
 obtain ⟨w1, u1, rfl, bs1, hg⟩ := bs.last
 obtain ⟨w2, u2, rfl, bd1, hf0⟩ := bd.last
 rw [show (w2 ++ [u2]).isEmpty = false by simp]
 have ns : a ≠ ls := ne_of hi hs (fun z => nomatch z)
 have nd : a ≠ ld := ne_of hi hd (fun z => nomatch z)
 have nu : a ≠ lu := ne_of hi hu (fun z => nomatch z)
 refine iteF ⟨_, rfl, a, _, dx, _, _, rfl, hi, T_Play.c, T_Play.no _ (by simp), rfl, .inl ⟨rfl, _, SqL.of hu⟩, ?_⟩
 refine ⟨_, rfl, a, _, dx, _, _, rfl, hi, T_Play.c, T_Play.no _ (by simp), rfl, .inl ⟨rfl, _, SqL.of hd⟩, ld, _, u2, rfl, rfl, hd, by simp, ?_⟩
 rw [List.dropLast_concat]
 have t1 := SB.set (ps := [ld]) hd (by simp) (.lst w2)
 have hd1 : upd H ld (.lst w2) ld = some (.lst w2) := upd_same
 have hi1 := t1.keep _ _ hi (by simpa using nd)
 have hs1 := t1.keep _ _ hs (by simpa using m1)
 have hu1 := t1.keep _ _ hu (by simpa using fun z : lu = ld => m3 z.symm)
 have cs1 := bs1.sb t1 Gr.noList_enc
 have cd1 := bd1.sb t1 faE_noList
 have cu1 := bu.sb t1 fgE_noList
 have cg1 := Dp_sb t1 _ _ (Gr.noList_enc _) hg
 have cf1 := Dp_sb t1 _ _ (faE_noList _) hf0
 have s01 : SB [ls, ld, lu] H _ := t1.mono (by simp)
 generalize upd H ld (.lst w2) = H1 at t1 hd1 hi1 hs1 hu1 cs1 cd1 cu1 cg1 cf1 s01
 refine ⟨_, rfl, a, _, dx, _, _, rfl, hi1, T_Play.c, T_Play.no _ (by simp), rfl, .inl ⟨rfl, _, SqL.of hs1⟩, ls, _, u1, rfl, rfl, hs1, by simp, ?_⟩
 rw [List.dropLast_concat]
 have t2 := SB.set (ps := [ls]) hs1 (by simp) (.lst w1)
 have hs2 : upd H1 ls (.lst w1) ls = some (.lst w1) := upd_same
 have hi2 := t2.keep _ _ hi1 (by simpa using ns)
 have hd2 := t2.keep _ _ hd1 (by simpa using fun z : ld = ls => m1 z.symm)
 have hu2 := t2.keep _ _ hu1 (by simpa using fun z : lu = ls => m2 z.symm)
 have cs2 := cs1.sb t2 Gr.noList_enc
 have cd2 := cd1.sb t2 faE_noList
 have cu2 := cu1.sb t2 fgE_noList
 have cg2 := Dp_sb t2 _ _ (Gr.noList_enc _) cg1
 have cf2 := Dp_sb t2 _ _ (faE_noList _) cf1
 have s02 := s01.trans (t2.mono (qs := [ls, ld, lu]) (by simp))
 generalize upd H1 ls (.lst w1) = H2 at t2 hs2 hi2 hd2 hu2 cs2 cd2 cu2 cg2 cf2 s02
 refine ⟨by show 2 <= sizeLine; decide, fun T nT => ?_⟩
 have t3 := SB.new (ps := []) nT (.tup [u2, u1])
 have hT : SqT K (upd H2 T (.tup [u2, u1])) T [u2, u1] := SqT.of upd_same
 have hi3 := t3.keep _ _ hi2 nmn
 have hs3 := t3.keep _ _ hs2 nmn
 have hd3 := t3.keep _ _ hd2 nmn
 have hu3 := t3.keep _ _ hu2 nmn
 have cs3 := cs2.sb t3 Gr.noList_enc
 have cd3 := cd2.sb t3 faE_noList
 have cu3 := cu2.sb t3 fgE_noList
 have cT : Dp K _ (.ref T) (fgE (f0, g)) := .tup hT (.cons (Dp_sb t3 _ _ (faE_noList _) cf2) (.cons (Dp_sb t3 _ _ (Gr.noList_enc _) cg2) .nil))
 have s03 := s02.trans (t3.nil (ps := [ls, ld, lu]))
 generalize upd H2 T (.tup [u2, u1]) = H3 at t3 hT hi3 hs3 hd3 hu3 cs3 cd3 cu3 cT s03
 have l3 := cu3.length
 refine ⟨lu, _, _, rfl, rfl, hu3, by omega, ?_⟩
 have t4 := SB.set (ps := [lu]) hu3 (by simp) (.lst (v3 ++ [.ref T]))
 have s04 := s03.trans (t4.mono (qs := [ls, ld, lu]) (by simp))
 have hp4 : Ply K C_Play (upd H3 lu (.lst (v3 ++ [.ref T]))) bv a ls ld lu (g0 ++ [h]) d0 (us ++ [(f0, g)]) := ⟨⟨dx, t4.keep _ _ hi3 (by simpa using nu)⟩, ⟨w1, t4.keep _ _ hs3 (by simpa using m2), cs3.sb t4 Gr.noList_enc⟩, ⟨w2, t4.keep _ _ hd3 (by simpa using m3), cd3.sb t4 faE_noList⟩, ⟨_, upd_same, (cu3.sb t4 fgE_noList).append (.cons (Dp_sb t4 _ _ (fgE_noList _) cT) .nil)⟩, m1, m2, m3⟩
 generalize upd H3 lu (.lst (v3 ++ [.ref T])) = H4 at t4 s04 hp4
 obtain ⟨dx', hi4⟩ := hp4.ins
 refine ⟨_, rfl, a, dx', _, rfl, hi4, rfl, ?_⟩
 refine nilI ?_
 exact ⟨a, ls, ld, lu, bv, g0, h, d0, _, rfl, hp4, fun v hv => qq v _ s04 hp4 hv⟩
abbrev N_Play_again : List Str := ["self", "row", "behind"]
theorem sc_Play_again : FnScope N_Play_again ["self"] (defScope s_Play_again) := ⟨rfl, rfl, rfl, by decide +kernel, rfl, by decide +kernel, by decide +kernel⟩
theorem ok_Play_again {C_NoFall C_Play : Addr} (B : BI mg) (O_NoFall : Own K mg "NoFall" C_NoFall) (T_Play : ClsF K C_Play ["book", "stood", "done", "undone"]) (F : Fun K "again" "Play.again" s_Play_again f fd) : FnOk P w K mg base (L2N.CX P w) (3) f fd ["self"] (spPyAgain K C_Play C_NoFall) := by
 refine F.okXN sc_Play_again (fun vs H Q E h => ?_) (fun cdv A outer s H vs Q E hr h => ?_)
 ·obtain ⟨a, ls, ld, lu, bv, gs, ds, us, rfl, _⟩ := h
  rfl
 obtain ⟨a, ls, ld, lu, bv, gs, ds, us, rfl, hp, gl, dl, qE, q⟩ := h
 have hun2 := hunT hr
 refine ⟨_, pss_cons (ps_if (pt_not (pt_truth (pe_fld (pv 0) rfl) (by intro _; rfl))) (pss_one (L2N.ps_raise rfl (L2N.takes_of rfl rfl rfl rfl) (L2N.pmk_own PySem.F.excBase_ValueError O_NoFall.q O_NoFall.gC O_NoFall.k (raises_own O_NoFall.s O_NoFall.t) rfl))) pss_nil)
  (pss_cons (ps_asg (pe_bm0 PySem.F.plainAttrs_list PySem.F.slot_list_pop PySem.F.type_list_pop mt_pop (pe_fld (pv 0) rfl)) (pg_tup rfl (pgs_cons (pg_name (i := 1) sc_Play_again.nd rfl (.inl rfl)) (pgs_cons (pg_name (i := 2) sc_Play_again.nd rfl (.inl rfl)) pgs_nil))))
  (pss_cons (ps_expr (pe_bm PySem.F.plainAttrs_list PySem.F.slot_list_append PySem.F.type_list_append mt_append (pe_fld (pv 0) rfl) (pa_cons (pv 1) pa_nil)))
  (pss_cons (ps_expr (pe_bm PySem.F.plainAttrs_list PySem.F.slot_list_append PySem.F.type_list_append mt_append (pe_fld (pv 0) rfl) (pa_cons (pv 2) pa_nil)))
  (pss_one (ps_ret (pv 2)))))), ?_⟩
 have szl := sizeLine_eq
 obtain ⟨⟨dx, hi⟩, ⟨v1, hs, bs⟩, ⟨v2, hd, bd⟩, ⟨v3, hu, bu⟩, m1, m2, m3⟩ := hp
 refine ⟨_, rfl, a, _, dx, _, _, rfl, hi, T_Play.c, T_Play.no _ (by simp), rfl, _, .inl ⟨v3, SqL.of hu, rfl⟩, ?_⟩
 have l3 := bu.length
 by_cases hus : us = []
 ·subst hus
  have e3 : v3 = [] := List.length_eq_zero_iff.mp l3
  subst e3
  exact iteT (qE rfl _ SB.refl)
 obtain ⟨u0, f0, g, rfl, qq⟩ := q hus
 obtain ⟨w3, u3, rfl, bu1, hfg⟩ := bu.last
 rw [show (w3 ++ [u3]).isEmpty = false by simp]
 have ns : a ≠ ls := ne_of hi hs (fun z => nomatch z)
 have nd : a ≠ ld := ne_of hi hd (fun z => nomatch z)
 have nu : a ≠ lu := ne_of hi hu (fun z => nomatch z)
 refine iteF ⟨_, rfl, a, _, dx, _, _, rfl, hi, T_Play.c, T_Play.no _ (by simp), rfl, .inl ⟨rfl, _, SqL.of hu⟩, lu, _, u3, rfl, rfl, hu, by simp, ?_⟩
 rw [List.dropLast_concat]
 have t1 := SB.set (ps := [lu]) hu (by simp) (.lst w3)
 have hu1 : upd H lu (.lst w3) lu = some (.lst w3) := upd_same
 have hi1 := t1.keep _ _ hi (by simpa using nu)
 have hs1 := t1.keep _ _ hs (by simpa using m2)
 have hd1 := t1.keep _ _ hd (by simpa using m3)
 have cs1 := bs.sb t1 Gr.noList_enc
 have cd1 := bd.sb t1 faE_noList
 have cu1 := bu1.sb t1 fgE_noList
 have cf1 := Dp_sb t1 _ _ (fgE_noList _) hfg
 have s01 : SB [ls, ld, lu] H _ := t1.mono (by simp)
 generalize upd H lu (.lst w3) = H1 at t1 hu1 hi1 hs1 hd1 cs1 cd1 cu1 cf1 s01
 obtain ⟨T, x1, x2, rfl, hT, hf0, hg⟩ : ∃ T x1 x2, u3 = .ref T /\ SqT K H1 T [x1, x2] /\ Dp K H1 x1 (faE f0) /\ Dp K H1 x2 g.enc := by
  cases (cf1 : Dp K H1 u3 (.tuple [faE f0, g.enc])) with
  | tup hT hall =>
  cases hall with
  | cons hf0 hall =>
  cases hall with
  | cons hg hall =>
  cases hall
  exact ⟨_, _, _, rfl, hT, hf0, hg⟩
 refine ⟨_, _, rfl, hT, rfl, _, _, rfl, _, _, rfl, rfl, ?_⟩
 have l2 := cd1.length
 refine ⟨_, rfl, a, _, dx, _, _, rfl, hi1, T_Play.c, T_Play.no _ (by simp), rfl, .inl ⟨rfl, _, SqL.of hd1⟩, _, rfl, ld, _, _, rfl, rfl, hd1, by omega, ?_⟩
 have t2 := SB.set (ps := [ld]) hd1 (by simp) (.lst (v2 ++ [x1]))
 have hd2 : upd H1 ld (.lst (v2 ++ [x1])) ld = some (.lst (v2 ++ [x1])) := upd_same
 have hi2 := t2.keep _ _ hi1 (by simpa using nd)
 have hs2 := t2.keep _ _ hs1 (by simpa using m1)
 have hu2 := t2.keep _ _ hu1 (by simpa using fun z : lu = ld => m3 z.symm)
 have cs2 := cs1.sb t2 Gr.noList_enc
 have cd2 := (cd1.sb t2 faE_noList).append (.cons (Dp_sb t2 _ _ (faE_noList _) hf0) .nil)
 have cu2 := cu1.sb t2 fgE_noList
 have cg2 := Dp_sb t2 _ _ (Gr.noList_enc _) hg
 have s02 := s01.trans (t2.mono (qs := [ls, ld, lu]) (by simp))
 generalize upd H1 ld (.lst (v2 ++ [x1])) = H2 at t2 hd2 hi2 hs2 hu2 cs2 cd2 cu2 cg2 s02
 have l1 := cs2.length
 refine ⟨_, rfl, a, _, dx, _, _, rfl, hi2, T_Play.c, T_Play.no _ (by simp), rfl, .inl ⟨rfl, _, SqL.of hs2⟩, _, rfl, ls, _, _, rfl, rfl, hs2, by omega, ?_⟩
 have t3 := SB.set (ps := [ls]) hs2 (by simp) (.lst (v1 ++ [x2]))
 have s03 := s02.trans (t3.mono (qs := [ls, ld, lu]) (by simp))
 refine ⟨_, rfl, qq _ _ s03 ⟨⟨dx, t3.keep _ _ hi2 (by simpa using ns)⟩, ⟨_, upd_same, (cs2.sb t3 Gr.noList_enc).append (.cons (Dp_sb t3 _ _ (Gr.noList_enc _) cg2) .nil)⟩, ⟨_, t3.keep _ _ hd2 (by simpa using fun z : ld = ls => m1 z.symm), cd2.sb t3 faE_noList⟩, ⟨_, t3.keep _ _ hu2 (by simpa using fun z : lu = ls => m2 z.symm), cu2.sb t3 fgE_noList⟩, m1, m2, m3⟩ (Dp_sb t3 _ _ (Gr.noList_enc _) cg2)⟩
abbrev N__law_done : List Str := ["_law_play", "_law_deed", "_law_found", "_law_e"]
theorem sc__law_done : FnScope N__law_done ["_law_play", "_law_deed"] (defScope s__law_done) := ⟨rfl, rfl, rfl, by decide +kernel, rfl, by decide +kernel, by decide +kernel⟩
theorem ok__law_done {C_Play C_Book : Addr} {c : Str -> Addr} (B : BI mg) (T : ErrsM K mg c eC eN eK) (G_Play_fall : GotMXN P w K mg base C_Play "fall" ["self", "place", "rule", "number"] (76) (spPyFall K C_Play C_Book (c "NoPlace") (c "NoRule") (c "NoNumber") (c "TooGreat"))) (G_Play_back : GotMXN P w K mg base C_Play "back" ["self"] (3) (spPyBack K C_Play (c "NoFall"))) (G_Play_again : GotMXN P w K mg base C_Play "again" ["self"] (3) (spPyAgain K C_Play (c "NoFall"))) (G__law_which : GotPN P w K mg base "_law_which" ["_law_e"] (1) (spWhich K c eC)) (F : Fun K "_law_done" "_law_done" s__law_done f fd) : FnOk P w K mg base CX0 (80) f fd ["_law_play", "_law_deed"] (spDone37 K c eC C_Play C_Book) := by
 refine F.ok sc__law_done (fun vs H Q E h => ?_) (fun cdv A outer s H vs Q E hr h => ?_)
 ·obtain ⟨a, D, dx, bv0, m1, m2, m3, rfl, _⟩ := h
  rfl
 obtain ⟨a, D, dx, bv0, m1, m2, m3, rfl, hi, q⟩ := h
 have hun2 := hunT hr
 refine ⟨_, pss_cons (ps_set (i := 2) sc__law_done.nd rfl (.inl rfl) pe_non)
  (pss_cons (L2N.ps_try_as (i := 3) (tb := fun W => (tIfS (tTest (tOp rEq (tOp (rIxT K) (tVar 1) (tC (.int 0))) (tC (.str "fall")))) (tAsg (tMethZ C_Play "fall" (spPyFall K C_Play C_Book (c "NoPlace") (c "NoRule") (c "NoNumber") (c "TooGreat")) (WE W) (tVar 0) (tCons (tOp (rIxT K) (tVar 1) (tC (.int 1))) (tCons (tOp (rIxT K) (tVar 1) (tC (.int 2))) (tCons (tOp (rIxT K) (tVar 1) (tC (.int 3))) tNil)))) (gName 2)) (tIfS (tTest (tOp rEq (tOp (rIxT K) (tVar 1) (tC (.int 0))) (tC (.str "back")))) (tAsg (tMethZ C_Play "back" (spPyBack K C_Play (c "NoFall")) (WE W) (tVar 0) tNil) (gName 2)) (tAsg (tMethZ C_Play "again" (spPyAgain K C_Play (c "NoFall")) (WE W) (tVar 0) tNil) (gName 2))))) (ts := fun a cls d => (tRet (tCallP (spWhich K c eC) a cls d (tCons (tVar 3) tNil)))) (Wout := fun _ _ _ _ => False) rfl rfl sc__law_done.nd rfl rfl ⟨rfl, by decide, Or.inl T.FellError⟩ takes0N
   (fun W pn xe tk _ => by exact (pss_one (ps_if (pt_cmpR op_eq (pe_ix ix_tup (pv 1) pe_int (fun _ _ => rfl)) pe_str (nomark _)) (pss_one (ps_set (i := 2) sc__law_done.nd rfl (.inl rfl) (pe_gotMSN G_Play_fall (hr.mono (by omega)) tk (pv 0) (pa_cons (pe_ix ix_tup (pv 1) pe_int (fun _ _ => rfl)) (pa_cons (pe_ix ix_tup (pv 1) pe_int (fun _ _ => rfl)) (pa_cons (pe_ix ix_tup (pv 1) pe_int (fun _ _ => rfl)) pa_nil)))))) (pss_one (ps_if (pt_cmpR op_eq (pe_ix ix_tup (pv 1) pe_int (fun _ _ => rfl)) pe_str (nomark _)) (pss_one (ps_set (i := 2) sc__law_done.nd rfl (.inl rfl) (pe_gotMS0N G_Play_back (hr.mono (by omega)) tk (pv 0)))) (pss_one (ps_set (i := 2) sc__law_done.nd rfl (.inl rfl) (pe_gotMS0N G_Play_again (hr.mono (by omega)) tk (pv 0)))))))))
   (fun a oe cls d pn hzN hf => by
    have hz := hzN.zc
    exact (pss_one (ps_ret (pe_gotPN G__law_which (hr.sui (by omega)) rfl (.head _) rfl hzN hf (pa_cons (pv 3) pa_nil))))))
  (pss_one (ps_ret (pe_tup (pa_cons pe_str (pa_cons (pv 2) pa_nil)))))), ?_⟩
 have szl := sizeLine_eq
 refine nameI ?_
 rcases q with ⟨pa, x, y, hD, hF⟩ | ⟨hD, hF⟩ | ⟨hD, hF⟩
 ·refine ⟨_, rfl, D, _, _, _, rfl, rfl, hD, atI_nat (j := 0) rfl, rfl, _, rfl, iteT ?_⟩
  refine ⟨_, rfl, a, dx, _, rfl, hi, rfl, ?_⟩
  refine ⟨_, rfl, D, _, _, _, rfl, rfl, hD, atI_nat (j := 1) rfl, ?_⟩
  refine ⟨_, rfl, D, _, _, _, rfl, rfl, hD, atI_nat (j := 2) rfl, ?_⟩
  refine ⟨_, rfl, D, _, _, _, rfl, rfl, hD, atI_nat (j := 3) rfl, ?_⟩
  refine hF.mono (fun p H1 q1 => ?_) (fun v d H1 ⟨m, w, j, ev, ed, hm, j0, j7, e1, e2, q1⟩ => ?_)
  ·refine nameI ?_
   refine ⟨_, rfl, by show 2 <= sizeLine; decide, fun T2 nT2 => ?_⟩
   exact q1 T2 _ (SB.new nT2 _) nT2 (SqT.of upd_same)
  ·subst ev ed
   refine ⟨true, T.exm _ hm, fun _ x hx => ?_, fun z => nomatch z⟩
   refine ⟨_, rfl, fun oe hz hf => ?_⟩
   refine ⟨m, none, j, rfl, hz, hf, hm, .inl rfl, j7, e1, fun z => absurd z (by omega), fun _ T w' H' s e hT => ?_⟩
   obtain rfl := Option.some.inj (e2.symm.trans e)
   exact q1 T _ s hT
 ·refine ⟨_, rfl, D, _, _, _, rfl, rfl, hD, atI_nat (j := 0) rfl, rfl, _, rfl, iteF ?_⟩
  refine ⟨_, rfl, D, _, _, _, rfl, rfl, hD, atI_nat (j := 0) rfl, rfl, _, rfl, iteT ?_⟩
  refine ⟨_, rfl, a, dx, _, rfl, hi, rfl, ?_⟩
  refine nilI ?_
  refine hF.mono (fun p H1 q1 => ?_) (fun v d H1 ⟨m, w, j, ev, ed, hm, j0, j7, e1, e2, q1⟩ => ?_)
  ·refine nameI ?_
   refine ⟨_, rfl, by show 2 <= sizeLine; decide, fun T2 nT2 => ?_⟩
   exact q1 T2 _ (SB.new nT2 _) nT2 (SqT.of upd_same)
  ·subst ev ed
   refine ⟨true, T.exm _ hm, fun _ x hx => ?_, fun z => nomatch z⟩
   refine ⟨_, rfl, fun oe hz hf => ?_⟩
   refine ⟨m, none, j, rfl, hz, hf, hm, .inl rfl, j7, e1, fun z => absurd z (by omega), fun _ T w' H' s e hT => ?_⟩
   obtain rfl := Option.some.inj (e2.symm.trans e)
   exact q1 T _ s hT
 ·refine ⟨_, rfl, D, _, _, _, rfl, rfl, hD, atI_nat (j := 0) rfl, rfl, _, rfl, iteF ?_⟩
  refine ⟨_, rfl, D, _, _, _, rfl, rfl, hD, atI_nat (j := 0) rfl, rfl, _, rfl, iteF ?_⟩
  refine ⟨_, rfl, a, dx, _, rfl, hi, rfl, ?_⟩
  refine nilI ?_
  refine hF.mono (fun p H1 q1 => ?_) (fun v d H1 ⟨m, w, j, ev, ed, hm, j0, j7, e1, e2, q1⟩ => ?_)
  ·refine nameI ?_
   refine ⟨_, rfl, by show 2 <= sizeLine; decide, fun T2 nT2 => ?_⟩
   exact q1 T2 _ (SB.new nT2 _) nT2 (SqT.of upd_same)
  ·subst ev ed
   refine ⟨true, T.exm _ hm, fun _ x hx => ?_, fun z => nomatch z⟩
   refine ⟨_, rfl, fun oe hz hf => ?_⟩
   refine ⟨m, none, j, rfl, hz, hf, hm, .inl rfl, j7, e1, fun z => absurd z (by omega), fun _ T w' H' s e hT => ?_⟩
   obtain rfl := Option.some.inj (e2.symm.trans e)
   exact q1 T _ s hT
abbrev N__law_kept : List Str := ["_law_play", "_law_row", "_law_told"]
theorem sc__law_kept : FnScope N__law_kept ["_law_play", "_law_row"] (defScope s__law_kept) := ⟨rfl, rfl, rfl, by decide +kernel, rfl, by decide +kernel, by decide +kernel⟩
theorem ok__law_kept {C_Play C_Book : Addr} (B : BI mg) (G__law_plain : Got P w K mg base "_law_plain" ["_law_thing"] (200) (spPlR K 200)) (G_Play_grove : GotM P w K mg base C_Play "grove" ["self"] (1) (spPyGrove K C_Play)) (G_Play_falls : GotM P w K mg base C_Play "falls" ["self"] (1) (spPyFalls K C_Play)) (F : Fun K "_law_kept" "_law_kept" s__law_kept f fd) : FnOk P w K mg base CX0 (202) f fd ["_law_play", "_law_row"] (spKept37 K C_Play C_Book) := by
 refine F.ok sc__law_kept (fun vs H Q E h => ?_) (fun cdv A outer s H vs Q E hr h => ?_)
 ·obtain ⟨a, ls, ld, lu, r, l0, l1, l2, bv, b, gs, ds, us, n, rfl, _⟩ := h
  rfl
 obtain ⟨a, ls, ld, lu, r, l0, l1, l2, bv, b, gs, ds, us, n, rfl, hP, n50, q⟩ := h
 have hun2 := hunT hr
 refine ⟨_, pss_cons (ps_if (PW.pt (pw_or (pt_not (pt_val (pe_got G__law_plain (hr.mono (by omega)) rfl (pa_cons (pe_gotM0 G_Play_grove (hr.mono (by omega)) (pv 0)) pa_nil)))) (pw_or1 (pt_cmpR (op_neW (by show A.units + 3 + 195 < cLine; omega)) (pe_gotM0 G_Play_grove (hr.mono (by omega)) (pv 0)) (pe_ix ix_list (pe_ix ix_list (pv 1) pe_int (fun _ _ => rfl)) (pe_un un_neg pe_int) (fun _ _ => rfl)) (nomark _))))) (pss_one (ps_ret pe_bl)) pss_nil)
  (pss_cons (ps_set (i := 2) sc__law_kept.nd rfl (.inl rfl) (pe_gotM0 G_Play_falls (hr.mono (by omega)) (pv 0)))
  (pss_cons (ps_if (PW.pt (pw_or (pt_not (pt_val (pe_isi B (pv 2) B.list boot_list))) (pw_or (pt_not (pt_val (pe_got G__law_plain (hr.mono (by omega)) rfl (pa_cons (pe_callTy call_tuple_of rfl B.tuple boot_tuple (pa_cons (pv 2) pa_nil)) pa_nil)))) (pw_or1 (pt_cmpR (op_neW (by show A.units + 3 + 195 < cLine; omega)) (pv 2) (pe_ix ix_list (pv 1) pe_int (fun _ _ => rfl)) (nomark _)))))) (pss_one (ps_ret pe_bl)) pss_nil)
  (pss_cons (ps_expr (pe_bm PySem.F.plainAttrs_list PySem.F.slot_list_append PySem.F.type_list_append mt_append (pv 2) (pa_cons (pe_tup (pa_cons pe_str (pa_cons pe_int (pa_cons pe_int pa_nil)))) pa_nil)))
  (pss_one (ps_ret pe_bl))))), ?_⟩
 have szl := sizeLine_eq
 obtain ⟨g0, g, rfl, gl0, std⟩ := hP.pw.last
 have ply := hP.ply
 have row := hP.row
 have hlen := hP.pw.len
 have okg := std.ok
 have gd := std.deep
 have gp := std.parts
 have wg : Wd g.enc := Gr.wd okg (by omega)
 have ged := g.enc_depth
 have hr := row.rr
 obtain ⟨v0, h0, b0⟩ := row.st
 obtain ⟨v1, h1, b1⟩ := row.dn
 obtain ⟨w0, u0, rfl, b00, hg0⟩ := b0.last
 obtain ⟨dx, hi⟩ := ply.ins
 refine ⟨_, rfl, a, dx, _, rfl, hi, rfl, ?_⟩
 refine nilI ?_
 refine ⟨a, ls, ld, lu, bv, g0, g, ds, us, rfl, ply, fun gv hg => ?_⟩
 refine ⟨gv, g.enc, rfl, hg, plS_enc okg, by omega, ?_, fun H1 s1 => ⟨_, rfl, iteF ?_⟩⟩
 ·have := wides_gr g
  rw [Gr.enc, wide]
  omega
 have ply1 := ply.sb0 s1
 obtain ⟨dx1, hi1⟩ := ply1.ins
 refine ⟨_, rfl, a, dx1, _, rfl, hi1, rfl, ?_⟩
 refine nilI ?_
 refine ⟨a, ls, ld, lu, bv, g0, g, ds, us, rfl, ply1, fun gv1 hg1 => ?_⟩
 refine ⟨_, rfl, r, _, _, _, rfl, rfl, SqL.of (s1.keep _ _ hr nmn), atI_nat (j := 0) rfl, 1, rfl, l0, _, -1, _, rfl, rfl, SqL.of (s1.keep _ _ h0 nmn), atI_app, ?_⟩
 refine ⟨_, _, hg1, Dp_sb s1 _ _ (Gr.noList_enc _) hg0, wg, wg, _, rfl, ?_⟩
 rw [Gr.eqv_enc, decide_eq_true rfl]
 refine iteF (nextI ?_)
 refine ⟨_, rfl, a, dx1, _, rfl, hi1, rfl, ?_⟩
 refine nilI ?_
 refine ⟨a, ls, ld, lu, bv, _, ds, us, rfl, ply1, fun L8 w8 H2 s2 nL8 hL8 hw8 => ?_⟩
 have wl8 := hw8.length
 have s02 := s1.trans s2
 refine ⟨_, rfl, _, _, "list", true, rfl, SqL_ty (SqL.of hL8), by decide +kernel, _, rfl, iteF ?_⟩
 refine ⟨_, rfl, L8, w8, rfl, .inl ⟨SqL.of hL8, fun T9 nT9 => ?_⟩⟩
 have t9 := SB.new (ps := []) nT9 (.tup w8)
 have long := hP.pw.dl
 have dt9 : Dp K (upd H2 T9 (.tup w8)) (.ref T9) (.tuple (ds.map faE)) := .tup (SqT.of upd_same) (hw8.sb t9 faE_noList).dp
 refine ⟨.ref T9, _, rfl, dt9, fas_pl ds, ?_, ?_, fun H3 s3 => ⟨_, rfl, iteF ?_⟩⟩
 ·have := fas_depths ds
  simp only [PyData.depth]
  omega
 ·have := fas_wide long
  simp only [wide, List.length_map]
  omega
 have s23 := t9.trans s3
 have s03 := s02.trans s23
 have hL3 := s23.keep _ _ hL8 nmn
 refine ⟨_, rfl, _, rfl, r, _, _, _, rfl, rfl, SqL.of (s03.keep _ _ hr nmn), atI_nat (j := 1) rfl, ?_⟩
 refine ⟨_, _, .lst (SqL.of hL3) (hw8.sb s23 faE_noList).dp, .lst (SqL.of (s03.keep _ _ h1 nmn)) (b1.sb s03 faE_noList).dp, fas_wd _, fas_wd _, _, rfl, ?_⟩
 rw [fas_eqv, decide_eq_true rfl]
 refine iteF (nextI ?_)
 refine ⟨_, rfl, .inl ⟨rfl, _, SqL.of hL3⟩, by show 3 <= sizeLine; decide, fun T4 nT4 => ?_⟩
 have t4 := SB.new (ps := []) nT4 (.tup [.str "no", .int 1, .int 1])
 have hL4 := t4.keep _ _ hL3 nmn
 refine ⟨L8, _, _, rfl, rfl, hL4, by omega, ?_⟩
 have t5 := SB.set (ps := [L8]) hL4 (by simp) (.lst (w8 ++ [.ref T4]))
 exact q _ ((((s03.trans t4).nil (ps := [L8])).trans t5).drop (s1.dom _ nL8))
abbrev N__law_turned : List Str := ["_law_play", "_law_row", "_law_way", "_law_due", "_law_fall", "_law_grove_here"]
theorem sc__law_turned : FnScope N__law_turned ["_law_play", "_law_row", "_law_way"] (defScope s__law_turned) := ⟨rfl, rfl, rfl, by decide +kernel, rfl, by decide +kernel, by decide +kernel⟩
theorem ok__law_turned {C_Play C_Book : Addr} (B : BI mg) (G__law_done : Got P w K mg base "_law_done" ["_law_play", "_law_deed"] (80) (spDone37 K c eC C_Play C_Book)) (F : Fun K "_law_turned" "_law_turned" s__law_turned f fd) : FnOk P w K mg base CX0 (82) f fd ["_law_play", "_law_row", "_law_way"] (spTurned37 K C_Play C_Book) := by
 refine F.ok sc__law_turned (fun vs H Q E h => ?_) (fun cdv A outer s H vs Q E hr h => ?_)
 ·obtain ⟨a, ls, ld, lu, r, l0, l1, l2, bv, b, gs, ds, us, n, way, rfl, _⟩ := h
  rfl
 obtain ⟨a, ls, ld, lu, r, l0, l1, l2, bv, b, gs, ds, us, n, way, rfl, hway, hP, n50, q⟩ := h
 have hun2 := hunT hr
 refine ⟨_, pss_cons (ps_if (pt_cmpR op_eq (pv 2) pe_str (nomark _)) (pss_cons (ps_set (i := 3) sc__law_turned.nd rfl (.inl rfl) (pe_tup (pa_cons pe_str pa_nil)))
  (pss_one (ps_if (pt_cmpR (op_neW (by show A.units + 3 + 195 < cLine; omega)) (pe_ix ix_list (pv 1) pe_int (fun _ _ => rfl)) (pe_lst pa_nil) (nomark _)) (pss_cons (ps_expr (pe_bm PySem.F.plainAttrs_list PySem.F.slot_list_append PySem.F.type_list_append mt_append (pe_ix ix_list (pv 1) pe_int (fun _ _ => rfl)) (pa_cons (pe_tup (pa_cons (pe_bm0 PySem.F.plainAttrs_list PySem.F.slot_list_pop PySem.F.type_list_pop mt_pop (pe_ix ix_list (pv 1) pe_int (fun _ _ => rfl))) (pa_cons (pe_bm0 PySem.F.plainAttrs_list PySem.F.slot_list_pop PySem.F.type_list_pop mt_pop (pe_ix ix_list (pv 1) pe_int (fun _ _ => rfl))) pa_nil))) pa_nil)))
  (pss_one (ps_set (i := 3) sc__law_turned.nd rfl (.inl rfl) (pe_tup (pa_cons pe_str (pa_cons (pe_ix ix_list (pe_ix ix_list (pv 1) pe_int (fun _ _ => rfl)) (pe_un un_neg pe_int) (fun _ _ => rfl)) pa_nil)))))) pss_nil))) (pss_cons (ps_set (i := 3) sc__law_turned.nd rfl (.inl rfl) (pe_tup (pa_cons pe_str pa_nil)))
  (pss_one (ps_if (pt_cmpR (op_neW (by show A.units + 3 + 195 < cLine; omega)) (pe_ix ix_list (pv 1) pe_int (fun _ _ => rfl)) (pe_lst pa_nil) (nomark _)) (pss_cons (ps_asg (pe_bm0 PySem.F.plainAttrs_list PySem.F.slot_list_pop PySem.F.type_list_pop mt_pop (pe_ix ix_list (pv 1) pe_int (fun _ _ => rfl))) (pg_tup rfl (pgs_cons (pg_name (i := 4) sc__law_turned.nd rfl (.inl rfl)) (pgs_cons (pg_name (i := 5) sc__law_turned.nd rfl (.inl rfl)) pgs_nil))))
  (pss_cons (ps_expr (pe_bm PySem.F.plainAttrs_list PySem.F.slot_list_append PySem.F.type_list_append mt_append (pe_ix ix_list (pv 1) pe_int (fun _ _ => rfl)) (pa_cons (pv 4) pa_nil)))
  (pss_cons (ps_expr (pe_bm PySem.F.plainAttrs_list PySem.F.slot_list_append PySem.F.type_list_append mt_append (pe_ix ix_list (pv 1) pe_int (fun _ _ => rfl)) (pa_cons (pv 5) pa_nil)))
  (pss_one (ps_set (i := 3) sc__law_turned.nd rfl (.inl rfl) (pe_tup (pa_cons pe_str (pa_cons (pv 5) pa_nil)))))))) pss_nil))))
  (pss_one (ps_ret (pe_cmpR (op_eqW (by show A.units + 3 + 195 < cLine; omega)) (pe_got G__law_done (hr.mono (by omega)) rfl (pa_cons (pv 0) (pa_cons (pe_tup (pa_cons (pv 2) pa_nil)) pa_nil))) (pv 3) (nomark _)))), ?_⟩
 have szl := sizeLine_eq
 have wf : Wd (.tuple [.str "fall"]) := ⟨by decide +kernel, by decide +kernel⟩
 have ef : PyData.eqv (.tuple [.str "fall"]) (.tuple [.str "fall"]) = true := by decide +kernel
 rcases hway with rfl | rfl
 ·refine ⟨_, rfl, rfl, _, rfl, iteT ?_⟩
  refine ⟨by show 1 <= sizeLine; decide, fun F nF => ?_⟩
  have t1 := SB.new (ps := []) nF (.tup [.str "fall"])
  have hF1 : SqT K (upd H F (.tup [.str "fall"])) F [.str "fall"] := SqT.of upd_same
  have hP1 := hP.sb0 t1
  generalize upd H F (.tup [.str "fall"]) = G1 at t1 hF1 hP1
  refine nameI ?_
  have hr1 := hP1.row.rr
  obtain ⟨v1, h1, b1⟩ := hP1.row.dn
  refine ⟨_, rfl, r, _, _, _, rfl, rfl, SqL.of hr1, atI_nat (j := 1) rfl, by show 0 <= sizeLine; decide, fun E0 nE0 => ?_⟩
  have t2 := SB.new (ps := []) nE0 (.lst [])
  refine ⟨.list (ds.map faE), .list [], .lst (SqL.of (t2.keep _ _ h1 nmn)) (b1.sb t2 faE_noList).dp, .lst (SqL.of upd_same) .nil, fas_wd ds, fas_wd [], _, rfl, ?_⟩
  rw [show PyData.eqv (.list (ds.map faE)) (.list []) = decide (ds = []) from fas_eqv ds []]
  have hP2 := hP1.sb0 t2
  have hF2 := t2.sqT hF1
  have s2 := t1.trans t2
  generalize upd G1 E0 (.lst []) = G2 at t2 hP2 hF2 s2
  clear h1 b1 hr1 v1 hP1 hF1 nE0
  have ply := hP2.ply
  have pw := hP2.pw
  have ul := pw.len
  by_cases hds : ds = []
  ·subst hds
   rw [decide_eq_true rfl]
   refine iteF ?_
   obtain ⟨dx, hi⟩ := ply.ins
   refine ⟨_, rfl, _, rfl, by show 1 <= sizeLine; decide, fun D nD => ?_⟩
   have t3 := SB.new (ps := []) nD (.tup [.str "back"])
   have hD : SqT K (upd G2 D (.tup [.str "back"])) D [.str "back"] := SqT.of upd_same
   refine ⟨a, D, dx, _, _, _, _, rfl, t3.keep _ _ hi nmn, .inr (.inl ⟨hD, a, ls, ld, lu, bv, gs, [], us, rfl, ply.sb0 t3, by omega, fun _ G3 s3 => ⟨"NoFall", "fall", 6, rfl, rfl, by decide +kernel, by decide, by decide, rfl, rfl, fun T G4 s4 hT => ?_⟩, fun z => absurd rfl z⟩)⟩
   have s34 := s3.trans s4
   have s24 := t3.trans s34
   refine ⟨_, rfl, _, _, .tup hT (.cons (.str _) .nil), .tup (s24.sqT hF2) (.cons (.str _) .nil), wf, wf, ?_⟩
   rw [ef]
   exact q gs [] us _ ((s2.trans s24).nil) (hP2.sb0 s24)
  rw [decide_eq_false hds]
  obtain ⟨d0, f0, rfl⟩ : ∃ d0 f0, ds = d0 ++ [f0] := ⟨ds.dropLast, ds.getLast hds, (List.dropLast_concat_getLast hds).symm⟩
  obtain ⟨g0, gg, g, rfl⟩ : ∃ g0 h g, gs = g0 ++ [h] ++ [g] := by
   obtain ⟨g1, g, e, l, _⟩ := pw.last
   rw [List.length_append, List.length_singleton] at l
   rcases List.eq_nil_or_concat g1 with e2 | ⟨g0, h, e2⟩
   ·rw [e2] at l; simp at l
   ·exact ⟨g0, h, g, by rw [e, e2, List.concat_eq_append]⟩
  obtain ⟨hr, ⟨v0, h0, b0⟩, ⟨v1, h1, b1⟩, ⟨v2, h2, b2⟩, m0, m1, m2, k1, k2, k3⟩ := hP2.row
  obtain ⟨w0, u0, rfl, b00, hg⟩ := b0.last
  obtain ⟨w1, u1, rfl, b10, hf0⟩ := b1.last
  refine iteT ?_
  refine ⟨_, rfl, r, _, _, _, rfl, rfl, SqL.of hr, atI_nat (j := 2) rfl, .inl ⟨rfl, _, SqL.of h2⟩, ?_⟩
  refine ⟨_, rfl, r, _, _, _, rfl, rfl, SqL.of hr, atI_nat (j := 1) rfl, .inl ⟨rfl, _, SqL.of h1⟩, l1, _, u1, rfl, rfl, h1, by simp, ?_⟩
  rw [List.dropLast_concat]
  have t3 := SB.set (ps := [l1]) h1 (by simp) (.lst w1)
  have a1 : upd G2 l1 (.lst w1) l1 = some (.lst w1) := upd_same
  have ar := t3.keep _ _ hr (by simpa using m1)
  have a0 := t3.keep _ _ h0 (by simpa using k1)
  have a2 := t3.keep _ _ h2 (by simpa using fun z : l2 = l1 => k3 z.symm)
  have c0 := b00.sb t3 Gr.noList_enc
  have c1 := b10.sb t3 faE_noList
  have c2 := b2.sb t3 fgE_noList
  have cg := Dp_sb t3 _ _ (Gr.noList_enc _) hg
  have cf := Dp_sb t3 _ _ (faE_noList _) hf0
  have s3 : SB [l0, l1, l2] G2 _ := t3.mono (by simp)
  generalize upd G2 l1 (.lst w1) = G3 at t3 a1 ar a0 a2 c0 c1 c2 cg cf s3
  refine ⟨_, rfl, r, _, _, _, rfl, rfl, SqL.of ar, atI_nat (j := 0) rfl, .inl ⟨rfl, _, SqL.of a0⟩, l0, _, u0, rfl, rfl, a0, by simp, ?_⟩
  rw [List.dropLast_concat]
  have t4 := SB.set (ps := [l0]) a0 (by simp) (.lst w0)
  have e0 : upd G3 l0 (.lst w0) l0 = some (.lst w0) := upd_same
  have er := t4.keep _ _ ar (by simpa using m0)
  have e1 := t4.keep _ _ a1 (by simpa using fun z : l1 = l0 => k1 z.symm)
  have e2 := t4.keep _ _ a2 (by simpa using fun z : l2 = l0 => k2 z.symm)
  have c0 := c0.sb t4 Gr.noList_enc
  have c1 := c1.sb t4 faE_noList
  have c2 := c2.sb t4 fgE_noList
  have cg := Dp_sb t4 _ _ (Gr.noList_enc _) cg
  have cf := Dp_sb t4 _ _ (faE_noList _) cf
  have s4 := s3.trans (t4.mono (qs := [l0, l1, l2]) (by simp))
  generalize upd G3 l0 (.lst w0) = G4 at t4 e0 er e1 e2 c0 c1 c2 cg cf s4
  clear t3 a1 ar a0 a2 s3 t4
  refine ⟨by show 2 <= sizeLine; decide, fun T nT => ?_⟩
  have t5 := SB.new (ps := []) nT (.tup [u1, u0])
  have hT : SqT K (upd G4 T (.tup [u1, u0])) T [u1, u0] := SqT.of upd_same
  have e0 := t5.keep _ _ e0 nmn
  have er := t5.keep _ _ er nmn
  have e1 := t5.keep _ _ e1 nmn
  have e2 := t5.keep _ _ e2 nmn
  have c0 := c0.sb t5 Gr.noList_enc
  have c1 := c1.sb t5 faE_noList
  have c2 := c2.sb t5 fgE_noList
  have cT : Dp K _ (.ref T) (fgE (f0, g)) := .tup hT (.cons (Dp_sb t5 _ _ (faE_noList _) cf) (.cons (Dp_sb t5 _ _ (Gr.noList_enc _) cg) .nil))
  have s5 := s4.trans (t5.nil (ps := [l0, l1, l2]))
  generalize upd G4 T (.tup [u1, u0]) = G5 at t5 hT e0 er e1 e2 c0 c1 c2 cT s5
  have l3 := c2.length
  refine ⟨l2, _, _, rfl, rfl, e2, by omega, ?_⟩
  have t6 := SB.set (ps := [l2]) e2 (by simp) (.lst (v2 ++ [.ref T]))
  have s6 := s5.trans (t6.mono (qs := [l0, l1, l2]) (by simp))
  have row6 : Rw7 K (upd G5 l2 (.lst (v2 ++ [.ref T]))) r l0 l1 l2 (g0 ++ [gg]) d0 (us ++ [(f0, g)]) := ⟨t6.keep _ _ er (by simpa using m2), ⟨w0, t6.keep _ _ e0 (by simpa using k2), c0.sb t6 Gr.noList_enc⟩, ⟨w1, t6.keep _ _ e1 (by simpa using k3), c1.sb t6 faE_noList⟩, ⟨_, upd_same, (c2.sb t6 fgE_noList).append (.cons (Dp_sb t6 _ _ (fgE_noList _) cT) .nil)⟩, m0, m1, m2, k1, k2, k3⟩
  have dj := hP2.dj
  have dn : ∀ x ∈ [a, ls, ld, lu], x ∉ [l0, l1, l2] := fun x hx hy => dj x hx (mcm _ hy)
  have ply6 := ply.sb s6 (dn _ (by simp)) (dn _ (by simp)) (dn _ (by simp)) (dn _ (by simp))
  have bk6 := hP2.bk.sbF s6 ((Rw7.ftp (C := C_Play) hP2.row).sub fun x hx => mcm _ hx)
  have hF6 := s6.sqT hF2
  generalize upd G5 l2 (.lst (v2 ++ [.ref T])) = G6 at t6 s6 row6 ply6 bk6 hF6
  clear e0 er e1 e2 c0 c1 c2 cT hT s5 t5 t6 s4 cg cf b0 b1 b2 h0 h1 h2 hr
  have row60 := row6
  obtain ⟨hr, ⟨v0, h0, b0⟩, _⟩ := row6
  obtain ⟨w0, u0, rfl, b00, hg⟩ := b0.last
  refine ⟨_, rfl, r, _, _, _, rfl, rfl, SqL.of hr, atI_nat (j := 0) rfl, 1, rfl, l0, _, -1, _, rfl, rfl, SqL.of h0, atI_app, by show 2 <= sizeLine; decide, fun U nU => ?_⟩
  have t7 := SB.new (ps := []) nU (.tup [.str "done", u0])
  have hU : SqT K (upd G6 U (.tup [.str "done", u0])) U [.str "done", u0] := SqT.of upd_same
  have cU : Dp K _ (.ref U) (.tuple [.str "done", gg.enc]) := .tup hU (.cons (.str _) (.cons (Dp_sb t7 _ _ (Gr.noList_enc _) hg) .nil))
  have s7 := s6.trans (t7.nil (ps := [l0, l1, l2]))
  have row7 := row60.sb0 t7
  have ply7 := ply6.sb0 t7
  have bk7 := bk6.sb0 t7
  refine nameI ?_
  generalize upd G6 U (.tup [.str "done", u0]) = G7 at t7 cU s7 row7 ply7 bk7
  obtain ⟨dx, hi⟩ := ply7.ins
  refine ⟨_, rfl, _, rfl, by show 1 <= sizeLine; decide, fun D nD => ?_⟩
  have t8 := SB.new (ps := []) nD (.tup [.str "back"])
  have hD : SqT K (upd G7 D (.tup [.str "back"])) D [.str "back"] := SqT.of upd_same
  have row8 := row7.sb0 t8
  have bk8 := bk7.sb0 t8
  have s8 := s7.trans (t8.nil (ps := [l0, l1, l2]))
  have stg := pw.st gg (by simp)
  have wgg := dn_gr stg.ok stg.deep
  have nlu : ∀ x ∈ [r, l0, l1, l2], x ∉ [ls, ld, lu] := fun x hx hy => dj x (mcm _ hy) hx
  refine ⟨a, D, dx, _, _, _, _, rfl, t8.keep _ _ hi nmn, .inr (.inl ⟨hD, a, ls, ld, lu, bv, _, _, us, rfl, ply7.sb0 t8, by omega, fun z => absurd z hds, fun _ => ⟨g0, gg, g, d0, f0, rfl, rfl, fun v G8 s9 ply8 hv T G9 s10 nT9 hT9 => ?_⟩⟩)⟩
  have nog : ∀ x : Gr, noList (PyData.tuple [.str "done", x.enc]) = true := fun x => by simp [noList, noLists, Gr.noList_enc]
  have s89 := s9.trans (s10.nil (ps := [ls, ld, lu]))
  refine ⟨_, rfl, .tuple [.str "done", gg.enc], .tuple [.str "done", gg.enc], .tup hT9 (.cons (.str _) (.cons (Dp_sb s10 _ _ (Gr.noList_enc _) hv) .nil)), Dp_sb s89 _ _ (nog _) (Dp_sb t8 _ _ (nog _) cU), wgg, wgg, ?_⟩
  rw [dn_eqv (Gr.eqvT rfl)]
  refine q _ _ _ _ (((s2.nil (ps := [ls, ld, lu, l0, l1, l2])).trans (s8.mono (by simp))).trans (s89.mono (by simp))) ⟨ply8.sb0 s10, row8.sb s89 (nlu _ (by simp)) (nlu _ (by simp)) (nlu _ (by simp)) (nlu _ (by simp)), bk8.sbF s89 ((ply7.sb0 t8).ftp.sub (by simp)), hP2.ok, pw.back, dj⟩
 ·refine ⟨_, rfl, rfl, _, rfl, iteF ?_⟩
  refine ⟨by show 1 <= sizeLine; decide, fun F nF => ?_⟩
  have t1 := SB.new (ps := []) nF (.tup [.str "fall"])
  have hF1 : SqT K (upd H F (.tup [.str "fall"])) F [.str "fall"] := SqT.of upd_same
  have hP1 := hP.sb0 t1
  generalize upd H F (.tup [.str "fall"]) = G1 at t1 hF1 hP1
  refine nameI ?_
  have hr1 := hP1.row.rr
  obtain ⟨v2, h2, b2⟩ := hP1.row.un
  refine ⟨_, rfl, r, _, _, _, rfl, rfl, SqL.of hr1, atI_nat (j := 2) rfl, by show 0 <= sizeLine; decide, fun E0 nE0 => ?_⟩
  have t2 := SB.new (ps := []) nE0 (.lst [])
  refine ⟨.list (us.map fgE), .list [], .lst (SqL.of (t2.keep _ _ h2 nmn)) (b2.sb t2 fgE_noList).dp, .lst (SqL.of upd_same) .nil, fgs_wd hP.pw.un, fas_wd [], _, rfl, ?_⟩
  rw [fgs_eqnil]
  have hP2 := hP1.sb0 t2
  have hF2 := t2.sqT hF1
  have s2 := t1.trans t2
  generalize upd G1 E0 (.lst []) = G2 at t2 hP2 hF2 s2
  clear h2 b2 hr1 v2 hP1 hF1 nE0
  have ply := hP2.ply
  have pw := hP2.pw
  have ul := pw.len
  have gl := pw.gl
  by_cases hus : us = []
  ·subst hus
   rw [decide_eq_true rfl]
   refine iteF ?_
   obtain ⟨dx, hi⟩ := ply.ins
   refine ⟨_, rfl, _, rfl, by show 1 <= sizeLine; decide, fun D nD => ?_⟩
   have t3 := SB.new (ps := []) nD (.tup [.str "again"])
   have hD : SqT K (upd G2 D (.tup [.str "again"])) D [.str "again"] := SqT.of upd_same
   refine ⟨a, D, dx, _, _, _, _, rfl, t3.keep _ _ hi nmn, .inr (.inr ⟨hD, a, ls, ld, lu, bv, gs, ds, [], rfl, ply.sb0 t3, by omega, by omega, fun _ G3 s3 => ⟨"NoFall", "fall", 6, rfl, rfl, by decide +kernel, by decide, by decide, rfl, rfl, fun T G4 s4 hT => ?_⟩, fun z => absurd rfl z⟩)⟩
   have s34 := s3.trans s4
   have s24 := t3.trans s34
   refine ⟨_, rfl, _, _, .tup hT (.cons (.str _) .nil), .tup (s24.sqT hF2) (.cons (.str _) .nil), wf, wf, ?_⟩
   rw [ef]
   exact q gs ds [] _ ((s2.trans s24).nil) (hP2.sb0 s24)
  rw [decide_eq_false hus]
  obtain ⟨z0, ⟨f0, g⟩, rfl⟩ : ∃ z0 x, us = z0 ++ [x] := ⟨us.dropLast, us.getLast hus, (List.dropLast_concat_getLast hus).symm⟩
  obtain ⟨hr, ⟨v0, h0, b0⟩, ⟨v1, h1, b1⟩, ⟨v2, h2, b2⟩, m0, m1, m2, k1, k2, k3⟩ := hP2.row
  obtain ⟨w2, u2, rfl, b20, hfg⟩ := b2.last
  refine iteT ?_
  refine ⟨_, rfl, r, _, _, _, rfl, rfl, SqL.of hr, atI_nat (j := 2) rfl, .inl ⟨rfl, _, SqL.of h2⟩, l2, _, u2, rfl, rfl, h2, by simp, ?_⟩
  rw [List.dropLast_concat]
  have t3 := SB.set (ps := [l2]) h2 (by simp) (.lst w2)
  have a2 : upd G2 l2 (.lst w2) l2 = some (.lst w2) := upd_same
  have ar := t3.keep _ _ hr (by simpa using m2)
  have a0 := t3.keep _ _ h0 (by simpa using k2)
  have a1 := t3.keep _ _ h1 (by simpa using k3)
  have c0 := b0.sb t3 Gr.noList_enc
  have c1 := b1.sb t3 faE_noList
  have c2 := b20.sb t3 fgE_noList
  have cf := Dp_sb t3 _ _ (fgE_noList _) hfg
  have s3 : SB [l0, l1, l2] G2 _ := t3.mono (by simp)
  generalize upd G2 l2 (.lst w2) = G3 at t3 a1 ar a0 a2 c0 c1 c2 cf s3
  obtain ⟨T, x1, x2, rfl, hT, hf0, hg⟩ : ∃ T x1 x2, u2 = .ref T /\ SqT K G3 T [x1, x2] /\ Dp K G3 x1 (faE f0) /\ Dp K G3 x2 g.enc := by
   cases (cf : Dp K G3 u2 (.tuple [faE f0, g.enc])) with
   | tup hT hall =>
   cases hall with
   | cons hf0 hall =>
   cases hall with
   | cons hg hall =>
   cases hall
   exact ⟨_, _, _, rfl, hT, hf0, hg⟩
  refine ⟨_, _, rfl, hT, rfl, _, _, rfl, _, _, rfl, rfl, ?_⟩
  have l3 := c1.length
  have l4 := c0.length
  refine ⟨_, rfl, r, _, _, _, rfl, rfl, SqL.of ar, atI_nat (j := 1) rfl, .inl ⟨rfl, _, SqL.of a1⟩, _, rfl, l1, _, _, rfl, rfl, a1, by omega, ?_⟩
  have t4 := SB.set (ps := [l1]) a1 (by simp) (.lst (v1 ++ [x1]))
  have e1 : upd G3 l1 (.lst (v1 ++ [x1])) l1 = some (.lst (v1 ++ [x1])) := upd_same
  have er := t4.keep _ _ ar (by simpa using m1)
  have e0 := t4.keep _ _ a0 (by simpa using k1)
  have e2 := t4.keep _ _ a2 (by simpa using fun z : l2 = l1 => k3 z.symm)
  have c0 := c0.sb t4 Gr.noList_enc
  have c1 := (c1.sb t4 faE_noList).append (.cons (Dp_sb t4 _ _ (faE_noList _) hf0) .nil)
  have c2 := c2.sb t4 fgE_noList
  have cg := Dp_sb t4 _ _ (Gr.noList_enc _) hg
  have s4 := s3.trans (t4.mono (qs := [l0, l1, l2]) (by simp))
  generalize upd G3 l1 (.lst (v1 ++ [x1])) = G4 at t4 e0 er e1 e2 c0 c1 c2 cg s4
  refine ⟨_, rfl, r, _, _, _, rfl, rfl, SqL.of er, atI_nat (j := 0) rfl, .inl ⟨rfl, _, SqL.of e0⟩, _, rfl, l0, _, _, rfl, rfl, e0, by omega, ?_⟩
  have t5 := SB.set (ps := [l0]) e0 (by simp) (.lst (v0 ++ [x2]))
  have s6 := s4.trans (t5.mono (qs := [l0, l1, l2]) (by simp))
  have cg := Dp_sb t5 _ _ (Gr.noList_enc _) cg
  have row6 : Rw7 K (upd G4 l0 (.lst (v0 ++ [x2]))) r l0 l1 l2 (gs ++ [g]) (ds ++ [f0]) z0 := ⟨t5.keep _ _ er (by simpa using m0), ⟨_, upd_same, (c0.sb t5 Gr.noList_enc).append (.cons cg .nil)⟩, ⟨_, t5.keep _ _ e1 (by simpa using fun z : l1 = l0 => k1 z.symm), c1.sb t5 faE_noList⟩, ⟨_, t5.keep _ _ e2 (by simpa using fun z : l2 = l0 => k2 z.symm), c2.sb t5 fgE_noList⟩, m0, m1, m2, k1, k2, k3⟩
  have dj := hP2.dj
  have dn : ∀ x ∈ [a, ls, ld, lu], x ∉ [l0, l1, l2] := fun x hx hy => dj x hx (mcm _ hy)
  have ply6 := ply.sb s6 (dn _ (by simp)) (dn _ (by simp)) (dn _ (by simp)) (dn _ (by simp))
  have bk6 := hP2.bk.sbF s6 ((Rw7.ftp (C := C_Play) hP2.row).sub fun x hx => mcm _ hx)
  generalize upd G4 l0 (.lst (v0 ++ [x2])) = G6 at t5 s6 row6 ply6 bk6 cg
  clear e0 er e1 e2 c0 c1 c2 hT s4 t5 t4 b0 b1 b2 h0 h1 h2 hr
  refine ⟨_, rfl, by show 2 <= sizeLine; decide, fun U nU => ?_⟩
  have t7 := SB.new (ps := []) nU (.tup [.str "done", x2])
  have hU : SqT K (upd G6 U (.tup [.str "done", x2])) U [.str "done", x2] := SqT.of upd_same
  have cU : Dp K _ (.ref U) (.tuple [.str "done", g.enc]) := .tup hU (.cons (.str _) (.cons (Dp_sb t7 _ _ (Gr.noList_enc _) cg) .nil))
  have s7 := s6.trans (t7.nil (ps := [l0, l1, l2]))
  have row7 := row6.sb0 t7
  have ply7 := ply6.sb0 t7
  have bk7 := bk6.sb0 t7
  refine nameI ?_
  generalize upd G6 U (.tup [.str "done", x2]) = G7 at t7 cU s7 row7 ply7 bk7
  obtain ⟨dx, hi⟩ := ply7.ins
  refine ⟨_, rfl, _, rfl, by show 1 <= sizeLine; decide, fun D nD => ?_⟩
  have t8 := SB.new (ps := []) nD (.tup [.str "again"])
  have hD : SqT K (upd G7 D (.tup [.str "again"])) D [.str "again"] := SqT.of upd_same
  have row8 := row7.sb0 t8
  have bk8 := bk7.sb0 t8
  have s8 := s7.trans (t8.nil (ps := [l0, l1, l2]))
  have stg := pw.un (f0, g) (by simp)
  have wgg := dn_gr stg.ok stg.deep
  have nlu : ∀ x ∈ [r, l0, l1, l2], x ∉ [ls, ld, lu] := fun x hx hy => dj x (mcm _ hy) hx
  refine ⟨a, D, dx, _, _, _, _, rfl, t8.keep _ _ hi nmn, .inr (.inr ⟨hD, a, ls, ld, lu, bv, gs, ds, _, rfl, ply7.sb0 t8, by omega, by omega, fun z => absurd z hus, fun _ => ⟨z0, f0, g, rfl, fun v G8 s9 ply8 hv T G9 s10 nT9 hT9 => ?_⟩⟩)⟩
  have nog : ∀ x : Gr, noList (PyData.tuple [.str "done", x.enc]) = true := fun x => by simp [noList, noLists, Gr.noList_enc]
  have s89 := s9.trans (s10.nil (ps := [ls, ld, lu]))
  refine ⟨_, rfl, .tuple [.str "done", g.enc], .tuple [.str "done", g.enc], .tup hT9 (.cons (.str _) (.cons (Dp_sb s10 _ _ (Gr.noList_enc _) hv) .nil)), Dp_sb s89 _ _ (nog _) (Dp_sb t8 _ _ (nog _) cU), wgg, wgg, ?_⟩
  rw [dn_eqv (Gr.eqvT rfl)]
  refine q _ _ _ _ (((s2.nil (ps := [ls, ld, lu, l0, l1, l2])).trans (s8.mono (by simp))).trans (s89.mono (by simp))) ⟨ply8.sb0 s10, row8.sb s89 (nlu _ (by simp)) (nlu _ (by simp)) (nlu _ (by simp)) (nlu _ (by simp)), bk8.sbF s89 ((ply7.sb0 t8).ftp.sub (by simp)), hP2.ok, pw.again, dj⟩
abbrev N__law_refused : List Str := ["_law_play", "_law_row", "_law_purse_here", "_law_kinds_here", "_law_grove_here", "_law_place", "_law_due", "_law_rule", "_law_said", "_law_name"]
theorem sc__law_refused : FnScope N__law_refused ["_law_play", "_law_row", "_law_purse_here", "_law_kinds_here"] (defScope s__law_refused) := ⟨rfl, rfl, rfl, by decide +kernel, rfl, by decide +kernel, by decide +kernel⟩
theorem ok__law_refused {C_Play C_Book : Addr} (B : BI mg) (G__law_take : Got P w K mg base "_law_take" ["_law_purse_here", "_law_many_here"] (1) (spTakeW)) (G__law_drawn : Got P w K mg base "_law_drawn" ["_law_purse_here", "_law_kinds_here", "_law_grove_here"] (71) (spDrawn K)) (G__law_done : Got P w K mg base "_law_done" ["_law_play", "_law_deed"] (80) (spDone37 K c eC C_Play C_Book)) (F : Fun K "_law_refused" "_law_refused" s__law_refused f fd) : FnOk P w K mg base CX0 (82) f fd ["_law_play", "_law_row", "_law_purse_here", "_law_kinds_here"] (spRefu37 K C_Play C_Book) := by
 refine F.ok sc__law_refused (fun vs H Q E h => ?_) (fun cdv A outer s H vs Q E hr h => ?_)
 ·obtain ⟨a, ls, ld, lu, r, l0, l1, l2, p, l, xs, bv, b, gs, ds, us, n, rfl, _⟩ := h
  rfl
 obtain ⟨a, ls, ld, lu, r, l0, l1, l2, p, l, xs, bv, b, gs, ds, us, n, rfl, hP, n50, hp, np, ⟨hl, hk, lp⟩, q⟩ := h
 have hun2 := hunT hr
 refine ⟨_, pss_cons (ps_set (i := 4) sc__law_refused.nd rfl (.inl rfl) (pe_ix ix_list (pe_ix ix_list (pv 1) pe_int (fun _ _ => rfl)) (pe_un un_neg pe_int) (fun _ _ => rfl)))
  (pss_cons (ps_set (i := 5) sc__law_refused.nd rfl (.inl rfl) (pe_ix ix_list (pe_lst (pa_cons (pe_tup pa_nil) (pa_cons (pe_tup (pa_cons (pe_callB call_len_seq rfl B.len PySem.boot_len (pa_cons (pv 4) pa_nil)) pa_nil)) (pa_cons (pe_tup (pa_cons (pe_un un_neg pe_int) pa_nil)) pa_nil)))) (pe_got G__law_take (hr.mono (by omega)) rfl (pa_cons (pv 2) (pa_cons pe_int pa_nil))) (fun _ _ => rfl)))
  (pss_cons (ps_set (i := 6) sc__law_refused.nd rfl (.inl rfl) (pe_tup (pa_cons pe_str pa_nil)))
  (pss_cons (ps_set (i := 7) sc__law_refused.nd rfl (.inl rfl) (pe_got G__law_take (hr.mono (by omega)) rfl (pa_cons (pv 2) (pa_cons pe_int pa_nil))))
  (pss_cons (ps_set (i := 8) sc__law_refused.nd rfl (.inl rfl) pe_int)
  (pss_cons (ps_if (PW.pt (pw_and (pt_cmpR (op_neW (by show A.units + 3 + 195 < cLine; omega)) (pv 4) (pe_tup pa_nil) (nomark _)) (pw_and1 (pt_cmpR op_eq (pe_got G__law_take (hr.mono (by omega)) rfl (pa_cons (pv 2) (pa_cons pe_int pa_nil))) pe_int (nomark _))))) (pss_cons (ps_asg (pe_got G__law_drawn (hr.mono (by omega)) rfl (pa_cons (pv 2) (pa_cons (pv 3) (pa_cons (pv 4) pa_nil)))) (pg_tup rfl (pgs_cons (pg_name (i := 5) sc__law_refused.nd rfl (.inl rfl)) (pgs_cons (pg_name (i := 9) sc__law_refused.nd rfl (.inl rfl)) (pgs_cons (pg_name (i := 7) sc__law_refused.nd rfl (.inl rfl)) (pgs_cons (pg_name (i := 8) sc__law_refused.nd rfl (.inl rfl)) pgs_nil))))))
  (pss_cons (ps_set (i := 6) sc__law_refused.nd rfl (.inl rfl) (pe_tup (pa_cons pe_str pa_nil)))
  (pss_one (ps_if (pt_cmpR op_eq (pe_got G__law_take (hr.mono (by omega)) rfl (pa_cons (pv 2) (pa_cons pe_int pa_nil))) pe_int (nomark _)) (pss_cons (ps_set (i := 8) sc__law_refused.nd rfl (.inl rfl) (pe_ix ix_list (pe_lst (pa_cons (pe_un un_neg pe_int) (pa_cons pe_bl (pa_cons pe_non pa_nil)))) (pe_got G__law_take (hr.mono (by omega)) rfl (pa_cons (pv 2) (pa_cons pe_int pa_nil))) (fun _ _ => rfl)))
  (pss_one (ps_set (i := 6) sc__law_refused.nd rfl (.inl rfl) (pe_tup (pa_cons pe_str pa_nil))))) (pss_one (ps_set (i := 7) sc__law_refused.nd rfl (.inl rfl) (pe_ix ix_list (pe_lst (pa_cons pe_int (pa_cons (pe_un un_neg pe_int) (pa_cons pe_bl pa_nil)))) (pe_got G__law_take (hr.mono (by omega)) rfl (pa_cons (pv 2) (pa_cons pe_int pa_nil))) (fun _ _ => rfl)))))))) pss_nil)
  (pss_one (ps_ret (pe_cmpR (op_eqW (by show A.units + 3 + 195 < cLine; omega)) (pe_got G__law_done (hr.mono (by omega)) rfl (pa_cons (pv 0) (pa_cons (pe_tup (pa_cons pe_str (pa_cons (pv 5) (pa_cons (pv 7) (pa_cons (pv 8) pa_nil))))) pa_nil))) (pv 6) (nomark _))))))))), ?_⟩
 have szl := sizeLine_eq
 obtain ⟨g0, g, rfl, gl0, std⟩ := hP.pw.last
 have ok := hP.ok
 have okg := std.ok
 have gd := std.deep
 have gp := std.parts
 have gn := std.nm
 have b8 := ok.len
 have hr := hP.row.rr
 obtain ⟨v0, h0, b0⟩ := hP.row.st
 obtain ⟨w0, u0, rfl, b00, hg⟩ := b0.last
 obtain ⟨ga, zs, rfl, hga, hgb⟩ := GA_bears (show GA K H u0 g from hg)
 have zl := hgb.length
 have hg : GA K H (.ref ga) g := hg
 have glp := g.len_parts
 have wd1 : ∀ w : Str, (PyData.str w).canLay0 = true -> Wd (.tuple [.str w]) := fun w h => ⟨by rw [PyData.canLay0, PyData.canLayAll0, h]; rfl, by simp [PyData.depth, PyData.depthAll]⟩
 have ew1 : ∀ w : Str, PyData.eqv (.tuple [.str w]) (.tuple [.str w]) = true := fun w => by simp [PyData.eqv, PyData.eqvAll]
 refine ⟨_, rfl, r, _, _, _, rfl, rfl, SqL.of hr, atI_nat (j := 0) rfl, 1, rfl, l0, _, -1, _, rfl, rfl, SqL.of h0, atI_app, ?_⟩
 refine ⟨by show 0 <= sizeLine; decide, fun E0 nE0 => ?_⟩
 have t1 := SB.new (ps := []) nE0 (.tup [])
 have hE1 : SqT K (upd H E0 (.tup [])) E0 [] := SqT.of upd_same
 generalize upd H E0 (.tup []) = H1 at t1 hE1
 refine ⟨_, rfl, ga, zs, rfl, .inr (t1.sqT hga), by show 1 <= sizeLine; decide, fun T1 nT1 => ?_⟩
 have t2 := SB.new (ps := []) nT1 (.tup [.int (zs.length : Nat)])
 have hT2 : SqT K (upd H1 T1 (.tup [.int (zs.length : Nat)])) T1 [.int (zs.length : Nat)] := SqT.of upd_same
 have hE2 := t2.sqT hE1
 have s2 := t1.trans t2
 generalize upd H1 T1 (.tup [.int (zs.length : Nat)]) = H2 at t2 hT2 hE2 s2
 refine ⟨1, rfl, by show 1 <= sizeLine; decide, fun T2 nT2 => ?_⟩
 have t3 := SB.new (ps := []) nT2 (.tup [.int (-1)])
 have hU3 : SqT K (upd H2 T2 (.tup [.int (-1)])) T2 [.int (-1)] := SqT.of upd_same
 have hT3 := t3.sqT hT2
 have hE3 := t3.sqT hE2
 have s3 := s2.trans t3
 generalize upd H2 T2 (.tup [.int (-1)]) = H3 at t3 hU3 hT3 hE3 s3
 refine ⟨by show 3 <= sizeLine; decide, fun L nL => ?_⟩
 have t4 := SB.new (ps := []) nL (.lst [.ref E0, .ref T1, .ref T2])
 have hL4 : upd H3 L (.lst [.ref E0, .ref T1, .ref T2]) L = some (.lst [.ref E0, .ref T1, .ref T2]) := upd_same
 have hU4 := t4.sqT hU3
 have hT4 := t4.sqT hT3
 have hE4 := t4.sqT hE3
 have s4 := s3.trans t4
 have Lp : L ≠ p := fun z => (hp.sb s3).ne nL z.symm
 generalize upd H3 L (.lst [.ref E0, .ref T1, .ref T2]) = H4 at t4 hL4 hU4 hT4 hE4 s4
 have hp4 := hp.sb s4
 refine ⟨_, rfl, p, 3, rfl, hp4, by decide, by decide, fun r5 H5 r50 r51 s5 hp5 => ?_⟩
 obtain ⟨pa, ys, os, epa, hpa, hos, hno⟩ : ∃ pa ys os, atI [V.ref E0, V.ref T1, V.ref T2] r5 = some (.ref pa) /\ SqT K H5 pa ys /\ (∀ G, Whs K G ys os) /\ ∀ pl k, os = plO pl -> Gr.bareAt g pl ≠ some k := by
  rcases (by omega : r5 = 0 \/ r5 = 1 \/ r5 = 2) with rfl | rfl | rfl
  ·exact ⟨E0, [], [], rfl, s5.sqT hE4, fun _ => .nil, noPlace_nil g⟩
  ·refine ⟨T1, _, plO [g.ps.length], rfl, s5.sqT hT4, ?_, noPlace_len g⟩
   rw [zl]
   exact fun G => Whs.pl K G [g.ps.length]
  ·exact ⟨T2, _, [some (-1)], rfl, s5.sqT hU4, fun _ => .cons (.inl ⟨_, rfl, rfl⟩) .nil, noPlace_neg g⟩
 refine ⟨L, _, _, _, rfl, rfl, SqL.of (s5.keep _ _ hL4 (by simpa using Lp)), epa, ?_⟩
 have s05 : SB [p] H H5 := s4.nil.trans s5
 have hP5 := hP.sb s05 (by obtain ⟨_, _, e, _⟩ := hp; exact Ftp.one e) (fun x hx => by simpa using fun z : x = p => np (z ▸ hx))
 clear t1 t2 t3 t4 s2 s3 s4 s5 hE1 hE2 hE3 hE4 hT2 hT3 hT4 hU3 hU4 hL4 hp4
 refine ⟨by show 1 <= sizeLine; decide, fun F nF => ?_⟩
 have t6 := SB.new (ps := []) nF (.tup [.str "place"])
 have hF6 : SqT K (upd H5 F (.tup [.str "place"])) F [.str "place"] := SqT.of upd_same
 have hp6 := hp5.sb t6
 have hP6 := hP5.sb0 t6
 have hpa6 := t6.sqT hpa
 have s06 := s05.trans t6.nil
 refine nameI ?_
 generalize upd H5 F (.tup [.str "place"]) = H6 at t6 hF6 hp6 hP6 hpa6 s06
 refine ⟨_, rfl, p, 5, rfl, hp6, by decide, by decide, fun r7 H7 r70 r71 s7 hp7 => ?_⟩
 have hP7 := hP6.sb s7 (by obtain ⟨_, _, e, _⟩ := hp6; exact Ftp.one e) (fun x hx => by simpa using fun z : x = p => np (z ▸ hx))
 have s07 := s06.trans s7
 have hF7 := s7.sqT hF6
 have hpa7 := s7.sqT hpa6
 have hg7 := hg.sb s07
 refine nameI ?_
 refine ⟨_, rfl, by show 0 <= sizeLine; decide, fun e8 ne8 => ?_⟩
 have t8 := SB.new (ps := []) ne8 (.tup [])
 have he8 : SqT K (upd H7 e8 (.tup [])) e8 [] := SqT.of upd_same
 have hp8 := hp7.sb t8
 have hP8 := hP7.sb0 t8
 have hF8 := t8.sqT hF7
 have hpa8 := t8.sqT hpa7
 have hg8 := hg7.sb t8
 have s08 := s07.trans t8.nil
 generalize upd H7 e8 (.tup []) = H8 at t8 he8 hp8 hP8 hF8 hpa8 hg8 s08
 refine ⟨g.enc, .tuple [], hg8, .tup he8 .nil, Gr.wd okg (by omega), Gr.wd_nil, ?_⟩
 rw [Gr.enc_eq_nil]
 by_cases hgn : g = .nil
 ·rw [decide_eq_true hgn]
  refine ⟨_, rfl, iteF ?_⟩
  refine ⟨_, rfl, _, rfl, _, rfl, _, rfl, by show 4 <= sizeLine; decide, fun D nD => ?_⟩
  have tD := SB.new (ps := []) nD (.tup [.str "fall", .ref pa, .int r7, .int 0])
  have hP9 := hP8.sb0 tD
  obtain ⟨dx, hi⟩ := hP9.ply.ins
  refine ⟨a, D, dx, _, _, _, _, rfl, hi, .inl ⟨pa, _, _, SqT.of upd_same, hP9.bad (w := "place") (by omega) (tD.sqT hpa8) (hos _) (.inl ⟨_, rfl, rfl⟩) (.inl ⟨_, rfl, rfl⟩) (fun z e => by cases e; decide) (by decide +kernel) (by decide +kernel) (by decide +kernel) (.inl ⟨hno, rfl⟩) fun T G s hT => ?_⟩⟩
  refine ⟨_, rfl, _, _, .tup hT (.cons (.str _) .nil), .tup ((tD.trans s).sqT hF8) (.cons (.str _) .nil), wd1 _ (by decide +kernel), wd1 _ (by decide +kernel), ?_⟩
  rw [ew1]
  exact q _ (s08.trans (tD.trans s).nil) (hp8.sb (tD.trans s))
 rw [decide_eq_false hgn]
 refine ⟨_, rfl, iteT ?_⟩
 refine ⟨_, rfl, p, 2, rfl, hp8, by decide, by decide, fun r9 H9 r90 r91 s9 hp9 => ?_⟩
 have hP9 := hP8.sb s9 (by obtain ⟨_, _, e, _⟩ := hp8; exact Ftp.one e) (fun x hx => by simpa using fun z : x = p => np (z ▸ hx))
 have s09 := s08.trans s9
 have hF9 := s9.sqT hF8
 have hpa9 := s9.sqT hpa8
 have hg9 := hg8.sb s9
 refine ⟨rfl, _, rfl, ?_⟩
 by_cases hr9 : r9 = 1
 case neg =>
  rw [decide_eq_false (show ¬ V.int r9 = V.int 1 from fun z => hr9 (by cases z; rfl))]
  refine iteF ?_
  refine ⟨_, rfl, _, rfl, _, rfl, _, rfl, by show 4 <= sizeLine; decide, fun D nD => ?_⟩
  have tD := SB.new (ps := []) nD (.tup [.str "fall", .ref pa, .int r7, .int 0])
  have hP10 := hP9.sb0 tD
  obtain ⟨dx, hi⟩ := hP10.ply.ins
  refine ⟨a, D, dx, _, _, _, _, rfl, hi, .inl ⟨pa, _, _, SqT.of upd_same, hP10.bad (w := "place") (by omega) (tD.sqT hpa9) (hos _) (.inl ⟨_, rfl, rfl⟩) (.inl ⟨_, rfl, rfl⟩) (fun z e => by cases e; decide) (by decide +kernel) (by decide +kernel) (by decide +kernel) (.inl ⟨hno, rfl⟩) fun T G s hT => ?_⟩⟩
  refine ⟨_, rfl, _, _, .tup hT (.cons (.str _) .nil), .tup ((tD.trans s).sqT hF9) (.cons (.str _) .nil), wd1 _ (by decide +kernel), wd1 _ (by decide +kernel), ?_⟩
  rw [ew1]
  exact q _ (s09.trans (tD.trans s).nil) (hp9.sb (tD.trans s))
 subst hr9
 refine iteT ?_
 have hl9 := s09.keep _ _ hl (by simpa using lp)
 have hk9 : KdAll K H9 [p] xs b := KdAll.sb s09 NoLst.self hk
 refine ⟨_, rfl, _, rfl, _, rfl, p, l, .ref ga, xs, b, g, rfl, hp9, hl9, lp, hk9, ok, hg9, gd, gp, ⟨_, okg⟩, hgn, gn, fun T a' pl k kd ri ru m H10 s10 hp10 hT hpa' hbare eg er n0 n1 => ?_⟩
 refine ⟨T, _, rfl, hT, rfl, _, _, rfl, _, _, rfl, _, _, rfl, _, _, rfl, rfl, ?_⟩
 have hP10 := hP9.sb s10 (by obtain ⟨_, _, e, _⟩ := hp9; exact Ftp.one e) (fun x hx => by simpa using fun z : x = p => np (z ▸ hx))
 have s010 := s09.trans s10
 clear hF7 hF8 hF9 hpa hpa6 hpa7 hpa8 hpa9 hP5 hP6 hP7 hP8 hP9 s05 s06 s07 s08 s09 hos hno
 obtain ⟨km, ekn⟩ := Bk.get_some eg
 obtain ⟨_, rl4, rr⟩ := ok.kd kd km
 have nb : m < 2 ^ 900 := Int.lt_trans n1 (by decide +kernel)
 refine ⟨by show 1 <= sizeLine; decide, fun F1 nF1 => ?_⟩
 have t11 := SB.new (ps := []) nF1 (.tup [.str "rule"])
 have hF11 : SqT K (upd H10 F1 (.tup [.str "rule"])) F1 [.str "rule"] := SqT.of upd_same
 have hp11 := hp10.sb t11
 have hP11 := hP10.sb0 t11
 have hpa11 := t11.sqT hpa'
 have s011 := s010.trans t11.nil
 refine nameI ?_
 generalize upd H10 F1 (.tup [.str "rule"]) = H11 at t11 hF11 hp11 hP11 hpa11 s011
 refine ⟨_, rfl, p, 2, rfl, hp11, by decide, by decide, fun r12 H12 r120 r121 s12 hp12 => ?_⟩
 have hP12 := hP11.sb s12 (by obtain ⟨_, _, e, _⟩ := hp11; exact Ftp.one e) (fun x hx => by simpa using fun z : x = p => np (z ▸ hx))
 have s012 := s011.trans s12
 have hF12 := s12.sqT hF11
 have hpa12 := s12.sqT hpa11
 refine ⟨rfl, _, rfl, ?_⟩
 by_cases hr12 : r12 = 1
 ·subst hr12
  refine iteT ?_
  refine ⟨1, rfl, by show 3 <= sizeLine; decide, fun L1 nL1 => ?_⟩
  have t13 := SB.new (ps := []) nL1 (.lst [.int (-1), .bl true, .non])
  have hL13 : upd H12 L1 (.lst [.int (-1), .bl true, .non]) L1 = some (.lst [.int (-1), .bl true, .non]) := upd_same
  have hp13 := hp12.sb t13
  have hP13 := hP12.sb0 t13
  have hpa13 := t13.sqT hpa12
  have L1p : L1 ≠ p := fun z => hp12.ne nL1 z.symm
  have s013 := s012.trans t13.nil
  generalize upd H12 L1 (.lst [.int (-1), .bl true, .non]) = H13 at t13 hL13 hp13 hP13 hpa13 s013
  refine ⟨_, rfl, p, 3, rfl, hp13, by decide, by decide, fun r14 H14 r140 r141 s14 hp14 => ?_⟩
  have hP14 := hP13.sb s14 (by obtain ⟨_, _, e, _⟩ := hp13; exact Ftp.one e) (fun x hx => by simpa using fun z : x = p => np (z ▸ hx))
  have s014 := s013.trans s14
  have hpa14 := s14.sqT hpa13
  obtain ⟨y, so, ey, hy, hneg⟩ : ∃ y so, atI [V.int (-1), V.bl true, V.non] r14 = some y /\ (∀ G, Wh K G y so) /\ ∀ z, so = some z -> z < 0 := by
   rcases (by omega : r14 = 0 \/ r14 = 1 \/ r14 = 2) with rfl | rfl | rfl
   ·exact ⟨_, some (-1), rfl, fun _ => .inl ⟨_, rfl, rfl⟩, fun z e => by cases e; decide⟩
   ·exact ⟨_, none, rfl, fun G => Wh_of (d := .bool true) (.bl true), fun z e => by cases e⟩
   ·exact ⟨_, none, rfl, fun G => Wh_of (d := .none) .non, fun z e => by cases e⟩
  refine ⟨L1, _, _, _, rfl, rfl, SqL.of (s14.keep _ _ hL13 (by simpa using L1p)), ey, ?_⟩
  refine ⟨by show 1 <= sizeLine; decide, fun F2 nF2 => ?_⟩
  have t15 := SB.new (ps := []) nF2 (.tup [.str "said"])
  have hF15 : SqT K (upd H14 F2 (.tup [.str "said"])) F2 [.str "said"] := SqT.of upd_same
  have hp15 := hp14.sb t15
  have hP15 := hP14.sb0 t15
  have hpa15 := t15.sqT hpa14
  have s015 := s014.trans t15.nil
  refine nameI ?_
  generalize upd H14 F2 (.tup [.str "said"]) = H15 at t15 hF15 hp15 hP15 hpa15 s015
  refine ⟨_, rfl, _, rfl, _, rfl, _, rfl, by show 4 <= sizeLine; decide, fun D nD => ?_⟩
  have tD := SB.new (ps := []) nD (.tup [.str "fall", .ref a', .int (ri : Nat), y])
  have hP9 := hP15.sb0 tD
  obtain ⟨dx, hi⟩ := hP9.ply.ins
  refine ⟨a, D, dx, _, _, _, _, rfl, hi, .inl ⟨a', _, _, SqT.of upd_same, hP9.bad (w := "said") (by omega) (tD.sqT hpa15) (Whs.pl K _ pl) (.inl ⟨_, rfl, rfl⟩) (hy _) (fun z e => by have := hneg z e; exact Int.lt_trans this (by decide)) (by decide +kernel) (by decide +kernel) (by decide +kernel) (.inr ⟨pl, k, kd, rfl, hbare, eg, .inr ⟨ri, ru, rfl, er, hneg, rfl⟩⟩) fun T G s hT => ?_⟩⟩
  refine ⟨_, rfl, _, _, .tup hT (.cons (.str _) .nil), .tup ((tD.trans s).sqT hF15) (.cons (.str _) .nil), wd1 _ (by decide +kernel), wd1 _ (by decide +kernel), ?_⟩
  rw [ew1]
  exact q _ (s015.trans (tD.trans s).nil) (hp15.sb (tD.trans s))
 ·rw [decide_eq_false (show ¬ V.int r12 = V.int 1 from fun z => hr12 (by cases z; rfl))]
  refine iteF ?_
  refine ⟨1, rfl, by show 3 <= sizeLine; decide, fun L1 nL1 => ?_⟩
  have t13 := SB.new (ps := []) nL1 (.lst [.int 5, .int (-1), .bl false])
  have hL13 : upd H12 L1 (.lst [.int 5, .int (-1), .bl false]) L1 = some (.lst [.int 5, .int (-1), .bl false]) := upd_same
  have hp13 := hp12.sb t13
  have hP13 := hP12.sb0 t13
  have hpa13 := t13.sqT hpa12
  have hF13 := t13.sqT hF12
  have L1p : L1 ≠ p := fun z => hp12.ne nL1 z.symm
  have s013 := s012.trans t13.nil
  generalize upd H12 L1 (.lst [.int 5, .int (-1), .bl false]) = H13 at t13 hL13 hp13 hP13 hpa13 s013 hF13
  refine ⟨_, rfl, p, 3, rfl, hp13, by decide, by decide, fun r14 H14 r140 r141 s14 hp14 => ?_⟩
  have hP14 := hP13.sb s14 (by obtain ⟨_, _, e, _⟩ := hp13; exact Ftp.one e) (fun x hx => by simpa using fun z : x = p => np (z ▸ hx))
  have s014 := s013.trans s14
  have hpa14 := s14.sqT hpa13
  have hF14 := s14.sqT hF13
  obtain ⟨x, ro, ex, hx, hnor⟩ : ∃ x ro, atI [V.int 5, V.int (-1), V.bl false] r14 = some x /\ (∀ G, Wh K G x ro) /\ ∀ i : Nat, ro = some (i : Int) -> (noR :: kd.rs)[i]? = none := by
   rcases (by omega : r14 = 0 \/ r14 = 1 \/ r14 = 2) with rfl | rfl | rfl
   ·exact ⟨_, some 5, rfl, fun _ => .inl ⟨_, rfl, rfl⟩, fun i e => List.getElem?_eq_none (by have := Option.some.inj e; rw [List.length_cons]; omega)⟩
   ·exact ⟨_, some (-1), rfl, fun _ => .inl ⟨_, rfl, rfl⟩, fun i e => by have := Option.some.inj e; omega⟩
   ·exact ⟨_, none, rfl, fun G => Wh_of (d := .bool false) (.bl false), fun z e => by cases e⟩
  refine ⟨L1, _, _, _, rfl, rfl, SqL.of (s14.keep _ _ hL13 (by simpa using L1p)), ex, ?_⟩
  refine ⟨_, rfl, _, rfl, _, rfl, _, rfl, by show 4 <= sizeLine; decide, fun D nD => ?_⟩
  have tD := SB.new (ps := []) nD (.tup [.str "fall", .ref a', x, .int m])
  have hP9 := hP14.sb0 tD
  obtain ⟨dx, hi⟩ := hP9.ply.ins
  refine ⟨a, D, dx, _, _, _, _, rfl, hi, .inl ⟨a', _, _, SqT.of upd_same, hP9.bad (w := "rule") (by omega) (tD.sqT hpa14) (Whs.pl K _ pl) (hx _) (.inl ⟨_, rfl, rfl⟩) (fun z e => by cases e; exact nb) (by decide +kernel) (by decide +kernel) (by decide +kernel) (.inr ⟨pl, k, kd, rfl, hbare, eg, .inl ⟨hnor, rfl⟩⟩) fun T G s hT => ?_⟩⟩
  refine ⟨_, rfl, _, _, .tup hT (.cons (.str _) .nil), .tup ((tD.trans s).sqT hF14) (.cons (.str _) .nil), wd1 _ (by decide +kernel), wd1 _ (by decide +kernel), ?_⟩
  rw [ew1]
  exact q _ (s014.trans (tD.trans s).nil) (hp14.sb (tD.trans s))
abbrev N__law_new : List Str := ["_law_play", "_law_row", "_law_purse_here", "_law_kinds_here", "_law_book_here", "_law_grove_here", "_law_place", "_law_name", "_law_rule", "_law_said", "_law_due", "_law_there"]
theorem sc__law_new : FnScope N__law_new ["_law_play", "_law_row", "_law_purse_here", "_law_kinds_here", "_law_book_here"] (defScope s__law_new) := ⟨rfl, rfl, rfl, by decide +kernel, rfl, by decide +kernel, by decide +kernel⟩
theorem ok__law_new {C_Book C_NoPlace C_NoRule C_NoNumber C_TooGreat C_Play : Addr} (B : BI mg) (G__law_drawn : Got P w K mg base "_law_drawn" ["_law_purse_here", "_law_kinds_here", "_law_grove_here"] (71) (spDrawn K)) (G__law_fell : Got P w K mg base "_law_fell" ["_law_kinds_here", "_law_grove_here", "_law_place", "_law_laid_here", "_law_said"] (66) (spFell K 64)) (G__law_laid : Got P w K mg base "_law_laid" ["_law_kinds_here", "_law_name", "_law_rule"] (2) (spLaid K)) (G__law_great : Got P w K mg base "_law_great" ["_law_grove_here"] (71) (spGreat K)) (G_fallen : GotXN P w K mg base "fallen" ["book", "grove", "place", "rule", "number"] (74) (spFallen K C_Book C_NoPlace C_NoRule C_NoNumber C_TooGreat)) (G__law_done : Got P w K mg base "_law_done" ["_law_play", "_law_deed"] (80) (spDone37 K c eC C_Play C_Book)) (F : Fun K "_law_new" "_law_new" s__law_new f fd) : FnOk P w K mg base CX0 (82) f fd ["_law_play", "_law_row", "_law_purse_here", "_law_kinds_here", "_law_book_here"] (spNew37 K C_Play C_Book) := by
 refine F.ok sc__law_new (fun vs H Q E h => ?_) (fun cdv A outer s H vs Q E hr h => ?_)
 ·obtain ⟨a, ls, ld, lu, r, l0, l1, l2, p, l, xs, bv, b, gs, ds, us, n, rfl, _⟩ := h
  rfl
 obtain ⟨a, ls, ld, lu, r, l0, l1, l2, p, l, xs, bv, b, gs, ds, us, n, rfl, hP, n50, hp, np, ⟨hl, hk, lp⟩, q⟩ := h
 have hun2 := hunT hr
 refine ⟨_, pss_cons (ps_set (i := 5) sc__law_new.nd rfl (.inl rfl) (pe_ix ix_list (pe_ix ix_list (pv 1) pe_int (fun _ _ => rfl)) (pe_un un_neg pe_int) (fun _ _ => rfl)))
  (pss_cons (ps_if (pt_cmpR (op_eqW (by show A.units + 3 + 195 < cLine; omega)) (pv 5) (pe_tup pa_nil) (nomark _)) (pss_one (ps_ret pe_bl)) pss_nil)
  (pss_cons (ps_asg (pe_got G__law_drawn (hr.mono (by omega)) rfl (pa_cons (pv 2) (pa_cons (pv 3) (pa_cons (pv 5) pa_nil)))) (pg_tup rfl (pgs_cons (pg_name (i := 6) sc__law_new.nd rfl (.inl rfl)) (pgs_cons (pg_name (i := 7) sc__law_new.nd rfl (.inl rfl)) (pgs_cons (pg_name (i := 8) sc__law_new.nd rfl (.inl rfl)) (pgs_cons (pg_name (i := 9) sc__law_new.nd rfl (.inl rfl)) pgs_nil))))))
  (pss_cons (ps_set (i := 10) sc__law_new.nd rfl (.inl rfl) (pe_got G__law_fell (hr.mono (by omega)) rfl (pa_cons (pv 3) (pa_cons (pv 5) (pa_cons (pv 6) (pa_cons (pe_got G__law_laid (hr.mono (by omega)) rfl (pa_cons (pv 3) (pa_cons (pv 7) (pa_cons (pv 8) pa_nil)))) (pa_cons (pv 9) pa_nil)))))))
  (pss_cons (ps_if (pt_val (pe_got G__law_great (hr.mono (by omega)) rfl (pa_cons (pv 10) pa_nil))) (pss_one (ps_ret pe_bl)) pss_nil)
  (pss_cons (ps_set (i := 11) sc__law_new.nd rfl (.inl rfl) (pe_ix ix_tup (pe_gotXN G_fallen (hr.mono (by omega)) rfl (pa_cons (pv 4) (pa_cons (pv 5) (pa_cons (pv 6) (pa_cons (pv 8) (pa_cons (pv 9) pa_nil)))))) pe_int (fun _ _ => rfl)))
  (pss_cons (ps_expr (pe_bm PySem.F.plainAttrs_list PySem.F.slot_list_append PySem.F.type_list_append mt_append (pe_ix ix_list (pv 1) pe_int (fun _ _ => rfl)) (pa_cons (pv 10) pa_nil)))
  (pss_cons (ps_expr (pe_bm PySem.F.plainAttrs_list PySem.F.slot_list_append PySem.F.type_list_append mt_append (pe_ix ix_list (pv 1) pe_int (fun _ _ => rfl)) (pa_cons (pe_tup (pa_cons (pv 6) (pa_cons (pv 8) (pa_cons (pv 9) pa_nil)))) pa_nil)))
  (pss_cons (ps_expr (pe_bm0 PySem.F.plainAttrs_list PySem.F.slot_list_clear PySem.F.type_list_clear mt_clear (pe_ix ix_list (pv 1) pe_int (fun _ _ => rfl))))
  (pss_one (ps_ret (pe_cmpR (op_eqW (by show A.units + 3 + 195 < cLine; omega)) (pe_got G__law_done (hr.mono (by omega)) rfl (pa_cons (pv 0) (pa_cons (pe_tup (pa_cons pe_str (pa_cons (pv 6) (pa_cons (pv 8) (pa_cons (pv 9) pa_nil))))) pa_nil))) (pe_tup (pa_cons pe_str (pa_cons (pv 11) pa_nil))) (nomark _)))))))))))), ?_⟩
 have szl := sizeLine_eq
 obtain ⟨g0, g, rfl, gl0, std⟩ := hP.pw.last
 have pw := hP.pw
 have hlen := pw.len
 have ok := hP.ok
 have okg := std.ok
 have gd := std.deep
 have gp := std.parts
 have gn := std.nm
 have b8 := ok.len
 have hr := hP.row.rr
 obtain ⟨v0, h0, b0⟩ := hP.row.st
 obtain ⟨w0, u0, rfl, b00, hg⟩ := b0.last
 obtain ⟨ga, zs, rfl, hga, hgb⟩ := GA_bears (show GA K H u0 g from hg)
 have zl := hgb.length
 have hg : GA K H (.ref ga) g := hg
 have glp := g.len_parts
 refine ⟨_, rfl, r, _, _, _, rfl, rfl, SqL.of hr, atI_nat (j := 0) rfl, 1, rfl, l0, _, -1, _, rfl, rfl, SqL.of h0, atI_app, ?_⟩
 refine ⟨_, rfl, by show 0 <= sizeLine; decide, fun e1 ne1 => ?_⟩
 have t1 := SB.new (ps := []) ne1 (.tup [])
 have he1 : SqT K (upd H e1 (.tup [])) e1 [] := SqT.of upd_same
 generalize upd H e1 (.tup []) = H1 at t1 he1
 have hp1 := hp.sb t1
 have hP1 := hP.sb0 t1
 have hg1 := hg.sb t1
 have hl1 := t1.keep _ _ hl nmn
 have hk1 : KdAll K H1 [p] xs b := KdAll.sb t1 NoLst.nil hk
 refine ⟨g.enc, .tuple [], hg1, .tup he1 .nil, Gr.wd okg (by omega), Gr.wd_nil, ?_⟩
 rw [Gr.enc_eq_nil]
 by_cases hgn : g = .nil
 ·rw [decide_eq_true hgn]
  exact ⟨_, rfl, iteT (q _ _ _ lu _ t1.nil hp1 (.inl rfl) (hP1.mono (by omega)))⟩
 rw [decide_eq_false hgn]
 refine ⟨_, rfl, iteF (nextI ?_)⟩
 refine ⟨_, rfl, _, rfl, _, rfl, p, l, .ref ga, xs, b, g, rfl, hp1, hl1, lp, hk1, ok, hg1, gd, gp, ⟨_, okg⟩, hgn, gn, fun T pa pl k kd ri ru m H2 s2 hp2 hT hpa hbare eg er n0 n1 => ?_⟩
 refine ⟨T, _, rfl, hT, rfl, _, _, rfl, _, _, rfl, _, _, rfl, _, _, rfl, rfl, ?_⟩
 have nfp : ∀ x ∈ ft7 a ls ld lu r l0 l1 l2, x ∉ [p] := fun x hx => by simpa using fun z : x = p => np (z ▸ hx)
 have hP2 := hP1.sb s2 (by obtain ⟨_, _, e, _⟩ := hp1; exact Ftp.one e) nfp
 have s02 : SB [p] H H2 := t1.nil.trans s2
 have hl2 := s2.keep _ _ hl1 (by simpa using lp)
 have hk2 : KdAll K H2 [] xs b := (KdAll.sb s2 NoLst.self hk1).less (by simp)
 have hg2 := hg1.sb s2
 obtain ⟨km, ekn⟩ := Bk.get_some eg
 obtain ⟨_, _, rr⟩ := ok.kd kd km
 have rok := rule_ok (fun r hr => (rr r hr).1) er
 have nb : m < 2 ^ 900 := Int.lt_trans n1 (by decide +kernel)
 have fat : FlAt b g (pl, ri, m) k kd ru := ⟨hbare, eg, er, n0, n1⟩
 refine ⟨_, rfl, _, rfl, _, rfl, _, rfl, _, rfl, _, rfl, l, xs, b, kd, ri, ru, (by show [V.ref l, V.str k, V.int (ri : Int)] = _; rw [ekn]), hl2, hk2, ok, by rw [ekn]; exact eg, er, fun lv H3 s3 hlv => ?_⟩
 have pll := Gr.bare_len hbare
 refine ⟨_, rfl, l, pa, .ref ga, lv, xs, m, _, b, g, ru, pl, k, rfl, ⟨s3.keep _ _ hl2 nmn, KdAll.sb s3 NoLst.nil hk2, ok⟩, ⟨hg2.sb s3, okg, gd, gp, gn⟩, ⟨hlv, rok⟩, s3.sqT hpa, hbare, by omega, n0, nb, fun due H4 s4 hdue => ?_⟩
 rw [show Gr.stk b m (Gr.grw ru m) pl g = fl b g (pl, ri, m) from fat.eq.symm] at hdue
 have s24 := s3.trans s4
 have sp0 := Gr.stk_parts (b := b) (n := m) (fr := Gr.grw ru m) hbare
 have sd0 := Gr.stk_deep (b := b) (n := m) (fr := Gr.grw ru m) hbare
 have gd2 := Gr.grw_deep rok m
 have gp2 := Gr.grw_parts rok m
 have hmul : pl.length * (g.parts + 1) <= 60 * 2001 := Nat.mul_le_mul (by omega) (by omega)
 rw [show Gr.stk b m (Gr.grw ru m) pl g = fl b g (pl, ri, m) from fat.eq.symm] at sp0 sd0
 refine ⟨_, rfl, due, _, rfl, hdue, by omega, by omega, fun bb H5 s5 hbb => ?_⟩
 have s25 := s24.trans s5
 have hp5 := hp2.sb s25
 have hP5 := hP2.sb0 s25
 have s05 : SB [p] H H5 := s02.trans s25.nil
 cases bb with
 | true => exact ⟨_, rfl, iteT (q _ _ _ lu _ (s05.mono (by simp)) hp5 (.inl rfl) (hP5.mono (by omega)))⟩
 | false =>
 have hin : InBound (fl b g (pl, ri, m)).1 := by
  have : ¬ (500 < (fl b g (pl, ri, m)).1.parts \/ 60 < (fl b g (pl, ri, m)).1.deep) := fun z => by have := hbb.mpr z; cases this
  exact ⟨by omega, by omega⟩
 refine ⟨_, rfl, iteF (nextI ?_)⟩
 refine ⟨_, rfl, _, rfl, _, rfl, _, rfl, _, rfl, ?_⟩
 refine nilI ?_
 show spFallen _ _ _ _ _ _ _ _ _ _
 refine fall_fl (f := (pl, ri, m)) hP5.bk ok (hg2.sb s25) std (s25.sqT hpa) fat (fun _ t6 H6 s6 _ hgp => ?_) (fun hout => absurd hin hout)
 obtain ⟨t7, cv, ca, et, ht, hcv, hca⟩ := gp_parts hgp
 cases et
 refine ⟨t6, _, _, _, rfl, rfl, ht, atI_nat (j := 1) rfl, ?_⟩
 have s26 := s25.trans s6
 have s06 := s05.trans s6.nil
 have hp6 := hp5.sb s6
 have hP6 := hP5.sb0 s6
 have hdue6 := hdue.sb (s5.trans s6)
 have hpa6 := s26.sqT hpa
 have hth6 : Dp K H6 (.ref ca) (plEnc (fl b g (pl, ri, m)).2) := PL_of hca
 clear hP1 hP2 hP5 hg hg1 hg2 hl hl1 hl2 hk hk1 hk2 hp1 hp2 hp5 s05 s02 hT hpa hlv hdue h0 hr b0 b00 hga hgb
 obtain ⟨hr, ⟨v0, h0, b0⟩, ⟨v1, h1, b1⟩, ⟨v2, h2, b2⟩, m0, m1, m2, k1, k2, k3⟩ := hP6.row
 have x0 := b0.length
 have x1 := b1.length
 have gll := pw.gl
 -- row[0].append
 refine ⟨_, rfl, r, _, _, _, rfl, rfl, SqL.of hr, atI_nat (j := 0) rfl, .inl ⟨rfl, _, SqL.of h0⟩, _, rfl, l0, _, _, rfl, rfl, h0, by omega, ?_⟩
 have t7 := SB.set (ps := [l0]) h0 (by simp) (.lst (v0 ++ [due]))
 have e0 : upd H6 l0 (.lst (v0 ++ [due])) l0 = some (.lst (v0 ++ [due])) := upd_same
 have er' := t7.keep _ _ hr (by simpa using m0)
 have e1 := t7.keep _ _ h1 (by simpa using fun z : l1 = l0 => k1 z.symm)
 have e2 := t7.keep _ _ h2 (by simpa using fun z : l2 = l0 => k2 z.symm)
 have c0 := (b0.sb t7 Gr.noList_enc).append (.cons (GA.sb hdue6 t7) .nil)
 have c1 := b1.sb t7 faE_noList
 have hpa7 := t7.sqT hpa6
 have s7 : SB [l0, l1, l2] H6 _ := t7.mono (by simp)
 generalize upd H6 l0 (.lst (v0 ++ [due])) = H7 at t7 e0 er' e1 e2 c0 c1 hpa7 s7
 -- row[1].append
 refine ⟨_, rfl, r, _, _, _, rfl, rfl, SqL.of er', atI_nat (j := 1) rfl, .inl ⟨rfl, _, SqL.of e1⟩, _, rfl, _, rfl, _, rfl, by show 3 <= sizeLine; decide, fun T8 nT8 => ?_⟩
 have t8 := SB.new (ps := []) nT8 (.tup [.ref pa, .int (ri : Nat), .int m])
 have hT8 : SqT K (upd H7 T8 (.tup [.ref pa, .int (ri : Nat), .int m])) T8 [.ref pa, .int (ri : Nat), .int m] := SqT.of upd_same
 have e0 := t8.keep _ _ e0 nmn
 have er' := t8.keep _ _ er' nmn
 have e1 := t8.keep _ _ e1 nmn
 have e2 := t8.keep _ _ e2 nmn
 have c0 := c0.sb t8 Gr.noList_enc
 have c1 := c1.sb t8 faE_noList
 have cf : Dp K _ (.ref T8) (faE (pl, ri, m)) := .tup hT8 (.cons (PL_of (t8.sqT hpa7)) (.cons (.int _) (.cons (.int _) .nil)))
 have hpa8 := t8.sqT hpa7
 have s8 := s7.trans (t8.nil (ps := [l0, l1, l2]))
 generalize upd H7 T8 (.tup [.ref pa, .int (ri : Nat), .int m]) = H8 at t8 hT8 e0 er' e1 e2 c0 c1 cf hpa8 s8
 refine ⟨l1, _, _, rfl, rfl, e1, by omega, ?_⟩
 have t9 := SB.set (ps := [l1]) e1 (by simp) (.lst (v1 ++ [.ref T8]))
 have f1 : upd H8 l1 (.lst (v1 ++ [.ref T8])) l1 = some (.lst (v1 ++ [.ref T8])) := upd_same
 have fr := t9.keep _ _ er' (by simpa using m1)
 have f0 := t9.keep _ _ e0 (by simpa using k1)
 have f2 := t9.keep _ _ e2 (by simpa using fun z : l2 = l1 => k3 z.symm)
 have c0 := c0.sb t9 Gr.noList_enc
 have c1 := (c1.sb t9 faE_noList).append (.cons (Dp_sb t9 _ _ (faE_noList _) cf) .nil)
 have hpa9 := t9.sqT hpa8
 have s9 := s8.trans (t9.mono (qs := [l0, l1, l2]) (by simp))
 generalize upd H8 l1 (.lst (v1 ++ [.ref T8])) = H9 at t9 f0 fr f1 f2 c0 c1 hpa9 s9
 clear e0 er' e1 e2 t8 hT8 hpa8 s8 s7 t7 hpa7 cf
 -- row[2].clear
 refine ⟨_, rfl, r, _, _, _, rfl, rfl, SqL.of fr, atI_nat (j := 2) rfl, .inl ⟨rfl, _, SqL.of f2⟩, l2, _, rfl, rfl, f2, ?_⟩
 have t10 := SB.set (ps := [l2]) f2 (by simp) (.lst [])
 have s10 := s9.trans (t10.mono (qs := [l0, l1, l2]) (by simp))
 have row10 : Rw7 K (upd H9 l2 (.lst [])) r l0 l1 l2 (g0 ++ [g] ++ [(fl b g (pl, ri, m)).1]) (ds ++ [(pl, ri, m)]) [] := ⟨t10.keep _ _ fr (by simpa using m2), ⟨_, t10.keep _ _ f0 (by simpa using k2), c0.sb t10 Gr.noList_enc⟩, ⟨_, t10.keep _ _ f1 (by simpa using k3), c1.sb t10 faE_noList⟩, ⟨_, upd_same, .nil⟩, m0, m1, m2, k1, k2, k3⟩
 have dj := hP6.dj
 have dn : ∀ x ∈ [a, ls, ld, lu], x ∉ [l0, l1, l2] := fun x hx hy => dj x hx (mcm _ hy)
 have ply10 := hP6.ply.sb s10 (dn _ (by simp)) (dn _ (by simp)) (dn _ (by simp)) (dn _ (by simp))
 have bk10 := hP6.bk.sbF s10 ((Rw7.ftp (C := C_Play) hP6.row).sub fun x hx => mcm _ hx)
 have hpa10 := t10.sqT hpa9
 have hth10 := Dp_sb s10 _ _ (pl_noList _) hth6
 have hp10 := hp6.keep s10 (fun z => np (by
  simp only [List.mem_cons, nmn, or_false] at z
  rcases z with rfl | rfl | rfl <;> simp))
 have s010 : SB [p, a, ls, ld, l0, l1, l2] H _ := (s06.mono (by simp)).trans (s10.mono (by simp))
 generalize upd H9 l2 (.lst []) = H10 at t10 s10 row10 ply10 bk10 hpa10 hth10 hp10 s010
 clear f0 fr f1 f2 c0 c1 t9 hpa9 s9 h0 h1 h2 b0 b1 b2 hr hpa6 hdue6 hth6 hp6
 -- the fall
 refine ⟨_, rfl, _, rfl, _, rfl, _, rfl, by show 4 <= sizeLine; decide, fun D nD => ?_⟩
 have tD := SB.new (ps := []) nD (.tup [.str "fall", .ref pa, .int (ri : Nat), .int m])
 have hD : SqT K (upd H10 D (.tup [.str "fall", .ref pa, .int (ri : Nat), .int m])) D [.str "fall", .ref pa, .int (ri : Nat), .int m] := SqT.of upd_same
 have row11 := row10.sb0 tD
 have ply11 := ply10.sb0 tD
 have bk11 := bk10.sb0 tD
 have hpa11 := tD.sqT hpa10
 have hth11 := Dp_sb tD _ _ (pl_noList _) hth10
 have hp11 := hp10.sb tD
 have s011 := s010.trans tD.nil
 generalize upd H10 D (.tup [.str "fall", .ref pa, .int (ri : Nat), .int m]) = H11 at tD hD row11 ply11 bk11 hpa11 hth11 hp11 s011
 obtain ⟨dx, hi⟩ := ply11.ins
 refine ⟨a, D, dx, _, _, _, _, rfl, hi, .inl ⟨pa, _, _, hD, pyfall_fl (f := (pl, ri, m)) ply11 (by omega) (by omega) bk11 ok std hpa11 fat (fun _ lu' pv H12 s12 nlu ply12 hpv T13 H13 s13 nT13 hT13 => ?_) (fun hout => absurd hin hout)⟩⟩
 refine ⟨_, rfl, by show 2 <= sizeLine; decide, fun U nU => ?_⟩
 have tU := SB.new (ps := []) nU (.tup [.str "done", .ref ca])
 have hU : SqT K (upd H13 U (.tup [.str "done", .ref ca])) U [.str "done", .ref ca] := SqT.of upd_same
 have s1214 := s13.trans tU
 have s1114 : SB [a, ls, ld] H11 _ := s12.trans s1214.nil
 have wpl : plS (plEnc (fl b g (pl, ri, m)).2) = true := by simp [plEnc, plS, pl_plain]
 have wdd := dn_wd (d := plEnc (fl b g (pl, ri, m)).2) (plS_lay _ wpl) (by rw [pl_depth]; omega)
 refine ⟨_, _, .tup (tU.sqT hT13) (.cons (.str _) (.cons (Dp_sb s1214 _ _ (pl_noList _) hpv) .nil)), .tup hU (.cons (.str _) (.cons (Dp_sb s1114 _ _ (pl_noList _) hth11) .nil)), wdd, wdd, ?_⟩
 rw [dn_eqv (eqv_pl wpl)]
 have nrow : ∀ x ∈ [r, l0, l1, l2], x ∉ [a, ls, ld] := fun x hx hy => dj x (by
  simp only [List.mem_cons, nmn, or_false] at hy ⊢
  rcases hy with h | h | h <;> simp [h]) hx
 refine q _ _ _ lu' _ (s011.trans (s1114.mono (by simp))) (hp11.keep s1114 (fun z => np (by
  simp only [List.mem_cons, nmn, or_false] at z
  rcases z with rfl | rfl | rfl <;> simp))) (.inr (s011.dom _ nlu)) ⟨ply12.sb0 s1214, row11.sb s1114 (nrow _ (by simp)) (nrow _ (by simp)) (nrow _ (by simp)) (nrow _ (by simp)), bk11.sbF s1114 (ply11.ftp.sub (by simp)), ok, pw.fall (FlOk.std ok std ⟨⟨k, kd, ru, fat⟩, hin⟩) (by show pl.length <= 60; omega), fun x hx hy => ?_⟩
 simp only [List.mem_cons, nmn, or_false] at hx
 rcases hx with rfl | rfl | rfl | rfl
 ·exact dj x (by simp) hy
 ·exact dj x (by simp) hy
 ·exact dj x (by simp) hy
 ·obtain ⟨z, hz⟩ : ∃ z, H11 x = some z := by
   simp only [List.mem_cons, nmn, or_false] at hy
   rcases hy with rfl | rfl | rfl | rfl
   ·exact ⟨_, row11.rr⟩
   ·obtain ⟨_, e, _⟩ := row11.st; exact ⟨_, e⟩
   ·obtain ⟨_, e, _⟩ := row11.dn; exact ⟨_, e⟩
   ·obtain ⟨_, e, _⟩ := row11.un; exact ⟨_, e⟩
  rw [nlu] at hz; cases hz
abbrev N_law : List Str := ["_law_script", "_law_names_here", "_law_kinds_here", "_law_first", "_law_other", "_law_book_here", "_law_plays", "_law_rows", "_law_k", "_law_purse_here", "_law_at", "_law_way", "_law_good"]
theorem sc_law : FnScope N_law ["_law_script"] (defScope s_law) := ⟨rfl, rfl, rfl, by decide +kernel, rfl, by decide +kernel, by decide +kernel⟩
theorem ok_law {C_Book C_Play : Addr} (B : BI mg) (G__law_names : Got P w K mg base "_law_names" ["_law_purse_here", "_law_many_here"] (2) (spWords K)) (G__law_take : Got P w K mg base "_law_take" ["_law_purse_here", "_law_many_here"] (1) (spTakeW)) (G__law_purse : Got P w K mg base "_law_purse" ["_law_script", "_law_k"] (1) (spPurseW K)) (G__law_kinds : Got P w K mg base "_law_kinds" ["_law_script", "_law_names_here"] (16) (spKindsP K)) (G__law_grove : Got P w K mg base "_law_grove" ["_law_script", "_law_names_here"] (16) (spGroveP K)) (G__law_wood : Got P w K mg base "_law_wood" ["_law_purse_here", "_law_pool", "_law_room", "_law_low_here", "_law_most"] (15) (spWood K 13)) (G__law_book : Got P w K mg base "_law_book" ["_law_kinds_here"] (90) (spMkBook K C_Book)) (G_Play___init__ : GotIN P w K mg base "Play" C_Play ["self", "book", "grove"] (75) (spPyInit K C_Play C_Book)) (G__law_new : Got P w K mg base "_law_new" ["_law_play", "_law_row", "_law_purse_here", "_law_kinds_here", "_law_book_here"] (82) (spNew37 K C_Play C_Book)) (G__law_refused : Got P w K mg base "_law_refused" ["_law_play", "_law_row", "_law_purse_here", "_law_kinds_here"] (82) (spRefu37 K C_Play C_Book)) (G__law_turned : Got P w K mg base "_law_turned" ["_law_play", "_law_row", "_law_way"] (82) (spTurned37 K C_Play C_Book)) (G__law_kept : Got P w K mg base "_law_kept" ["_law_play", "_law_row"] (202) (spKept37 K C_Play C_Book)) (F : Fun K "law" "law" s_law f fd) : FnOk P w K mg base CX0 (215) f fd ["_law_script"] (spLaw K) := by
 refine F.ok sc_law (fun vs H Q E h => ?_) (fun cdv A outer s H vs Q E hr h => ?_)
 ·obtain ⟨a, ns, rfl, _⟩ := h
  rfl
 obtain ⟨a, ns, rfl, hs, nl, q⟩ := h
 have hun2 := hunT hr
 refine ⟨_, pss_cons (ps_set (i := 1) sc_law.nd rfl (.inl rfl) (pe_got G__law_names (hr.mono (by omega)) rfl (pa_cons (pe_got G__law_purse (hr.mono (by omega)) rfl (pa_cons (pv 0) (pa_cons pe_int pa_nil))) (pa_cons (pe_op op_add pe_int (pe_got G__law_take (hr.mono (by omega)) rfl (pa_cons (pe_got G__law_purse (hr.mono (by omega)) rfl (pa_cons (pv 0) (pa_cons pe_int pa_nil))) (pa_cons pe_int pa_nil)))) pa_nil))))
  (pss_cons (ps_set (i := 2) sc_law.nd rfl (.inl rfl) (pe_got G__law_kinds (hr.mono (by omega)) rfl (pa_cons (pv 0) (pa_cons (pv 1) pa_nil))))
  (pss_cons (ps_set (i := 3) sc_law.nd rfl (.inl rfl) (pe_got G__law_grove (hr.mono (by omega)) rfl (pa_cons (pv 0) (pa_cons (pv 1) pa_nil))))
  (pss_cons (ps_set (i := 4) sc_law.nd rfl (.inl rfl) (pe_got G__law_wood (hr.mono (by omega)) rfl (pa_cons (pe_got G__law_purse (hr.mono (by omega)) rfl (pa_cons (pv 0) (pa_cons pe_int pa_nil))) (pa_cons (pv 1) (pa_cons (pe_lst (pa_cons pe_int (pa_cons pe_int pa_nil))) (pa_cons pe_int (pa_cons (pe_op op_pow pe_int pe_int) pa_nil)))))))
  (pss_cons (ps_set (i := 5) sc_law.nd rfl (.inl rfl) (pe_got G__law_book (hr.mono (by omega)) rfl (pa_cons (pv 2) pa_nil)))
  (pss_cons (ps_set (i := 6) sc_law.nd rfl (.inl rfl) (pe_lst (pa_cons (pe_gotIN G_Play___init__ (hr.mono (by omega)) rfl (pa_cons (pv 5) (pa_cons (pv 3) pa_nil))) (pa_cons (pe_gotIN G_Play___init__ (hr.mono (by omega)) rfl (pa_cons (pv 5) (pa_cons (pv 4) pa_nil))) pa_nil))))
  (pss_cons (ps_set (i := 7) sc_law.nd rfl (.inl rfl) (pe_lst (pa_cons (pe_lst (pa_cons (pe_lst (pa_cons (pv 3) pa_nil)) (pa_cons (pe_lst pa_nil) (pa_cons (pe_lst pa_nil) pa_nil)))) (pa_cons (pe_lst (pa_cons (pe_lst (pa_cons (pv 4) pa_nil)) (pa_cons (pe_lst pa_nil) (pa_cons (pe_lst pa_nil) pa_nil)))) pa_nil))))
  (pss_cons (ps_for PassesOwn.never rfl (pi_range1 rfl B.range (pa_cons (pe_op op_add pe_int (pe_got G__law_take (hr.mono (by omega)) rfl (pa_cons (pe_got G__law_purse (hr.mono (by omega)) rfl (pa_cons (pv 0) (pa_cons pe_int pa_nil))) (pa_cons pe_int pa_nil)))) pa_nil)) (pg_name (i := 8) sc_law.nd rfl (.inl rfl))
   (pss_cons (ps_set (i := 9) sc_law.nd rfl (.inl rfl) (pe_got G__law_purse (hr.mono (by omega)) rfl (pa_cons (pv 0) (pa_cons (pe_op op_add pe_int (pv 8)) pa_nil))))
  (pss_cons (ps_set (i := 10) sc_law.nd rfl (.inl rfl) (pe_got G__law_take (hr.mono (by omega)) rfl (pa_cons (pv 9) (pa_cons pe_int pa_nil))))
  (pss_cons (ps_set (i := 11) sc_law.nd rfl (.inl rfl) (pe_got G__law_take (hr.mono (by omega)) rfl (pa_cons (pv 9) (pa_cons pe_int pa_nil))))
  (pss_cons (ps_if (pt_cmpR op_lt (pv 11) pe_int (nomark _)) (pss_one (ps_set (i := 12) sc_law.nd rfl (.inl rfl) (pe_got G__law_new (hr.mono (by omega)) rfl (pa_cons (pe_ix ix_list (pv 6) (pv 10) (fun _ _ => rfl)) (pa_cons (pe_ix ix_list (pv 7) (pv 10) (fun _ _ => rfl)) (pa_cons (pv 9) (pa_cons (pv 2) (pa_cons (pv 5) pa_nil)))))))) (pss_one (ps_if (pt_cmpR op_eq (pv 11) pe_int (nomark _)) (pss_one (ps_set (i := 12) sc_law.nd rfl (.inl rfl) (pe_got G__law_refused (hr.mono (by omega)) rfl (pa_cons (pe_ix ix_list (pv 6) (pv 10) (fun _ _ => rfl)) (pa_cons (pe_ix ix_list (pv 7) (pv 10) (fun _ _ => rfl)) (pa_cons (pv 9) (pa_cons (pv 2) pa_nil))))))) (pss_one (ps_set (i := 12) sc_law.nd rfl (.inl rfl) (pe_got G__law_turned (hr.mono (by omega)) rfl (pa_cons (pe_ix ix_list (pv 6) (pv 10) (fun _ _ => rfl)) (pa_cons (pe_ix ix_list (pv 7) (pv 10) (fun _ _ => rfl)) (pa_cons (pe_ix ix_list (pe_lst (pa_cons pe_str (pa_cons pe_str (pa_cons pe_str pa_nil)))) (pe_op op_sub (pv 11) pe_int) (fun _ _ => rfl)) pa_nil)))))))))
  (pss_one (ps_if (PW.pt (pw_or (pt_not (pt_val (pv 12))) (pw_or (pt_not (pt_val (pe_got G__law_kept (hr.mono (by omega)) rfl (pa_cons (pe_ix ix_list (pv 6) pe_int (fun _ _ => rfl)) (pa_cons (pe_ix ix_list (pv 7) pe_int (fun _ _ => rfl)) pa_nil))))) (pw_or1 (pt_not (pt_val (pe_got G__law_kept (hr.mono (by omega)) rfl (pa_cons (pe_ix ix_list (pv 6) pe_int (fun _ _ => rfl)) (pa_cons (pe_ix ix_list (pv 7) pe_int (fun _ _ => rfl)) pa_nil))))))))) (pss_one (ps_ret pe_bl)) pss_nil)))))))
  (pss_one (ps_ret pe_bl))))))))), ?_⟩
 have szl := sizeLine_eq
 refine ⟨_, rfl, a, ns, 0, rfl, hs, nl, by omega, fun p1 H1 s1 np1 hp1 => ?_⟩
 refine ⟨_, rfl, a, ns, 8, rfl, s1.sqL nmn hs, nl, by omega, fun p2 H2 s2 np2 hp2 => ?_⟩
 refine ⟨p2, 6, rfl, hp2, by decide, by decide, fun r3 H3 r30 r36 s3 hp3 => ?_⟩
 obtain ⟨m, hm, m1, m8⟩ : ∃ m : Nat, 1 + r3 = (m : Int) /\ 1 <= m /\ m <= 8 := ⟨(1 + r3).toNat, by omega, by omega, by omega⟩
 have p12 : p1 ≠ p2 := hp1.ne np2
 have hp13 : PuW H3 p1 := (hp1.sb s2).keep s3 (by simpa using p12)
 refine ⟨_, _, rfl, rfl, p1, m, by simp only [hm]; rfl, hp13, m1, m8, fun cl ks H4 s4 _ ncl hcl kl kn knd => ?_⟩
 have s14 : SB [p1] H1 H4 := (((s2.nil (ps := [p2])).trans s3).drop np2).nil.trans s4
 have s04 : SB [] H H4 := ((s1.nil (ps := [p1])).trans s14).drop np1
 clear s14 s4 s3 s2 s1 hp13 hp3 hp2 hp1
 refine ⟨_, rfl, _, rfl, a, cl, ns, ks, rfl, s04.sqL nmn hs, nl, hcl, by omega, by omega, knd, kn, fun kh xs b H5 s5 nkh hkh hb0 ok pn => ?_⟩
 have s05 := s04.trans s5
 have hb5 : KdAll K H5 [] xs b := hb0.less (bad' := []) (by simp)
 have hcl5 := s5.keep _ _ hcl nmn
 refine ⟨_, rfl, _, rfl, a, cl, ns, ks, rfl, s05.sqL nmn hs, nl, hcl5, by omega, kn, fun gv g H6 s6 hg gok gp gd gw => ?_⟩
 have s06 := s05.trans s6
 have hcl6 := s6.keep _ _ hcl5 nmn
 refine ⟨_, rfl, a, ns, 10, rfl, s06.sqL nmn hs, nl, by omega, fun p H7 s7 np hp => ?_⟩
 have hcl7 := s7.keep _ _ hcl6 nmn
 refine ⟨_, rfl, by show 2 <= sizeLine; decide, fun R nR => ?_⟩
 have t8 := SB.new (ps := []) nR (.lst [.int 20, .int 4])
 have hR8 : upd H7 R (.lst [.int 20, .int 4]) R = some (.lst [.int ((20 : Nat) : Int), .int ((4 : Nat) : Int)]) := upd_same
 have hp8 := hp.sb t8
 have hcl8 := t8.keep _ _ hcl7 nmn
 have Rp : R ≠ p := fun z => hp.ne nR z.symm
 have clp : cl ≠ p := fun z => by rw [z, np] at hcl6; cases hcl6
 have clR : cl ≠ R := fun z => by rw [z, nR] at hcl7; cases hcl7
 have s68 := s7.trans t8
 have nR6 : H6 R = none := s7.dom _ nR
 generalize upd H7 R (.lst [.int 20, .int 4]) = H8 at t8 hR8 hp8 hcl8 s68
 refine ⟨_, _, rfl, rfl, ⟨by decide, by decide, by decide⟩, p, cl, R, ks, 20, 4, 4, 10 ^ 20, rfl, hp8, hcl8, hR8, clp, clR, Rp, ⟨by omega, by omega, by omega⟩, ⟨by omega, by omega, by omega⟩, ⟨by decide, by decide⟩, ⟨by omega, kn⟩, fun ov g1 a' H9 s9 hp9 hR9 hov gok1 gp1 gd1 gw1 => ?_⟩
 have s69 : SB [] H6 H9 := ((s68.nil (ps := [R, p])).trans (s9.mono (by simp))).drops fun x hx => by
  simp only [List.mem_cons, nmn, or_false] at hx
  rcases hx with rfl | rfl
  ·exact nR6
  ·exact np
 have s59 := s6.trans s69
 have s09 := s05.trans s59
 have hkh9 := s59.keep _ _ hkh nmn
 have hb9 := KdAll.sb s59 NoLst.nil hb5
 have hg9 := hg.sb s69
 refine ⟨_, rfl, kh, xs, b, rfl, hkh9, hb9, ok, fun bk H10 s10 nbk hbk => ?_⟩
 have s010 := s09.trans s10
 have hkhA := s10.keep _ _ hkh9 nmn
 have hbA := KdAll.sb s10 NoLst.nil hb9
 have hf0 := hg9.sb s10
 have hf1 := hov.sb s10
 have b8 := ok.len
 have st0 : Std b 0 g := ⟨gok.mono (by decide), by omega, by omega, fun x hx => pn.mem_iff.mpr (gw x hx)⟩
 have st1 : Std b 0 g1 := ⟨gok1.mono (by decide), by omega, by omega, fun x hx => pn.mem_iff.mpr (gw1 x hx)⟩
 clear s04 s5 s05 s6 s06 s7 s68 s9 s69 s59 s10 t8 hR8 hR9 hp8 hp9 hp hcl hcl5 hcl6 hcl7 hcl8 hg hg9 hov hb0 hb5 hb9 hkh hkh9 nR nR6
 -- the first play
 refine ⟨_, rfl, _, rfl, fun y dx ny ndx ne => ?_⟩
 have t1 := SB.new (ps := []) ndx (.own y)
 have ny1 : upd H10 dx (.own y) y = none := by rw [upd_ne ne.symm]; exact ny
 have t2 := SB.new (ps := []) ny1 (.ins C_Play dx [])
 have s12 := t1.trans t2
 refine ⟨y, dx, .ref bk, gv, b, g, rfl, upd_same, hbk.sb0 s12, by omega, hf0.sb s12, by omega, by omega, st0.nm, fun ls ld lu G1 s1 n1 n2 n3 ply0 => ⟨rfl, ?_⟩⟩
 have u1 : SB [] H10 G1 := ((s12.nil (ps := [y])).trans s1).drop ny
 have k1 := s12.dom _ n1
 have k2 := s12.dom _ n2
 have k3 := s12.dom _ n3
 -- the second play
 refine ⟨_, rfl, _, rfl, fun y2 dx2 nyz ndx2 ne2 => ?_⟩
 have t1 := SB.new (ps := []) ndx2 (.own y2)
 have ny1 : upd G1 dx2 (.own y2) y2 = none := by rw [upd_ne ne2.symm]; exact nyz
 have t2 := SB.new (ps := []) ny1 (.ins C_Play dx2 [])
 have s12 := t1.trans t2
 have u12 := u1.trans s12
 refine ⟨y2, dx2, .ref bk, ov, b, g1, rfl, upd_same, hbk.sb0 u12, by omega, hf1.sb u12, by omega, by omega, st1.nm, fun ms md mu G2 s2 m1 m2 m3 ply1 => ⟨rfl, ?_⟩⟩
 have u2 : SB [] G1 G2 := ((s12.nil (ps := [y2])).trans s2).drop nyz
 have j1 := s12.dom _ m1
 have j2 := s12.dom _ m2
 have j3 := s12.dom _ m3
 have u02 := u1.trans u2
 have ply0' := ply0.sb0 u2
 have old : ∀ {F : Hp} {x : Addr} {z : HO}, F x = some z -> ∀ {w : Addr}, F w = none -> x ≠ w := fun h w hw z => by rw [z, hw] at h; cases h
 have in1 : ∀ x ∈ [y, ls, ld, lu], ∃ z, G1 x = some z := by
  obtain ⟨dx0, i0⟩ := ply0.ins
  obtain ⟨v1, e1, _⟩ := ply0.st
  obtain ⟨v2, e2, _⟩ := ply0.dn
  obtain ⟨v3, e3, _⟩ := ply0.un
  intro x hx
  simp only [List.mem_cons, nmn, or_false] at hx
  rcases hx with rfl | rfl | rfl | rfl
  ·exact ⟨_, i0⟩
  ·exact ⟨_, e1⟩
  ·exact ⟨_, e2⟩
  ·exact ⟨_, e3⟩
 have in2 : ∀ x ∈ [y2, ms, md, mu], ∃ z, G2 x = some z := by
  obtain ⟨dx0, i0⟩ := ply1.ins
  obtain ⟨v1, e1, _⟩ := ply1.st
  obtain ⟨v2, e2, _⟩ := ply1.dn
  obtain ⟨v3, e3, _⟩ := ply1.un
  intro x hx
  simp only [List.mem_cons, nmn, or_false] at hx
  rcases hx with rfl | rfl | rfl | rfl
  ·exact ⟨_, i0⟩
  ·exact ⟨_, e1⟩
  ·exact ⟨_, e2⟩
  ·exact ⟨_, e3⟩
 have no1 : ∀ x ∈ [y, ls, ld, lu], H10 x = none := by
  intro x hx
  simp only [List.mem_cons, nmn, or_false] at hx
  rcases hx with rfl | rfl | rfl | rfl
  ·exact ny
  ·exact k1
  ·exact k2
  ·exact k3
 have no2 : ∀ x ∈ [y2, ms, md, mu], G1 x = none := by
  intro x hx
  simp only [List.mem_cons, nmn, or_false] at hx
  rcases hx with rfl | rfl | rfl | rfl
  ·exact nyz
  ·exact j1
  ·exact j2
  ·exact j3
 refine ⟨by show 2 <= sizeLine; decide, fun P nP => ?_⟩
 have t3 := SB.new (ps := []) nP (.lst [.ref y, .ref y2])
 have hP3 : upd G2 P (.lst [.ref y, .ref y2]) P = some (.lst [.ref y, .ref y2]) := upd_same
 have u03 := u02.trans t3
 have ply03 := ply0'.sb0 t3
 have ply13 := ply1.sb0 t3
 generalize upd G2 P (.lst [.ref y, .ref y2]) = G3 at hP3 t3 u03 ply03 ply13
 -- the rows
 refine ⟨_, rfl, by show 1 <= sizeLine; decide, fun x0 nx0 => ?_⟩
 refine ⟨by show 0 <= sizeLine; decide, fun x1 nx1 => ?_⟩
 refine ⟨by show 0 <= sizeLine; decide, fun x2 nx2 => ?_⟩
 refine ⟨by show 3 <= sizeLine; decide, fun r1 nr1 => ?_⟩
 obtain ⟨row0, t4, w1, w2, w3⟩ := Rw7.new (hf0.sb u03) nx0 nx1 nx2 nr1
 have u04 := u03.trans t4
 have hP4 := t4.keep _ _ hP3 nmn
 generalize upd (upd (upd (upd G3 x0 (.lst [gv])) x1 (.lst [])) x2 (.lst [])) r1 (.lst [.ref x0, .ref x1, .ref x2]) = G4 at t4 row0 u04 hP4
 refine ⟨_, rfl, by show 1 <= sizeLine; decide, fun z0 nz0 => ?_⟩
 refine ⟨by show 0 <= sizeLine; decide, fun z1 nz1 => ?_⟩
 refine ⟨by show 0 <= sizeLine; decide, fun z2 nz2 => ?_⟩
 refine ⟨by show 3 <= sizeLine; decide, fun r2 nr2 => ?_⟩
 obtain ⟨row1, t5, w4, w5, w6⟩ := Rw7.new (hf1.sb u04) nz0 nz1 nz2 nr2
 have u05 := u04.trans t5
 have hP5 := t5.keep _ _ hP4 nmn
 have row05 := row0.sb0 t5
 have ply05 := (ply03.sb0 t4).sb0 t5
 have ply15 := (ply13.sb0 t4).sb0 t5
 generalize upd (upd (upd (upd G4 z0 (.lst [ov])) z1 (.lst [])) z2 (.lst [])) r2 (.lst [.ref z0, .ref z1, .ref z2]) = G5 at t5 row1 u05 hP5 row05 ply05 ply15
 refine ⟨by show 2 <= sizeLine; decide, fun RL nRL => ?_⟩
 have t6 := SB.new (ps := []) nRL (.lst [.ref r1, .ref r2])
 have hR6 : upd G5 RL (.lst [.ref r1, .ref r2]) RL = some (.lst [.ref r1, .ref r2]) := upd_same
 have u06 := u05.trans t6
 have hP6 := t6.keep _ _ hP5 nmn
 have row06 := row05.sb0 t6
 have row16 := row1.sb0 t6
 have ply06 := ply05.sb0 t6
 have ply16 := ply15.sb0 t6
 have in3 : ∀ x ∈ [r1, x0, x1, x2], ∃ z, G4 x = some z := by
  have i4 := row0.rr
  obtain ⟨v1, e1, _⟩ := row0.st
  obtain ⟨v2, e2, _⟩ := row0.dn
  obtain ⟨v3, e3, _⟩ := row0.un
  intro x hx
  simp only [List.mem_cons, nmn, or_false] at hx
  rcases hx with rfl | rfl | rfl | rfl
  ·exact ⟨_, i4⟩
  ·exact ⟨_, e1⟩
  ·exact ⟨_, e2⟩
  ·exact ⟨_, e3⟩
 have in4 : ∀ x ∈ [r2, z0, z1, z2], ∃ z, G5 x = some z := by
  have i4 := row1.rr
  obtain ⟨v1, e1, _⟩ := row1.st
  obtain ⟨v2, e2, _⟩ := row1.dn
  obtain ⟨v3, e3, _⟩ := row1.un
  intro x hx
  simp only [List.mem_cons, nmn, or_false] at hx
  rcases hx with rfl | rfl | rfl | rfl
  ·exact ⟨_, i4⟩
  ·exact ⟨_, e1⟩
  ·exact ⟨_, e2⟩
  ·exact ⟨_, e3⟩
 have no3 : ∀ x ∈ [r1, x0, x1, x2], G3 x = none := by
  intro x hx
  simp only [List.mem_cons, nmn, or_false] at hx
  rcases hx with rfl | rfl | rfl | rfl
  ·exact w3
  ·exact nx0
  ·exact w1
  ·exact w2
 have no4 : ∀ x ∈ [r2, z0, z1, z2], G4 x = none := by
  intro x hx
  simp only [List.mem_cons, nmn, or_false] at hx
  rcases hx with rfl | rfl | rfl | rfl
  ·exact w6
  ·exact nz0
  ·exact w4
  ·exact w5
 have pw0 : ∀ {q : Gr}, Std b 0 q -> Pw7 b 0 [q] [] [] := fun hq => ⟨fun x hx => by rw [List.mem_singleton.mp hx]; exact hq, (fun x z => nomatch z), (fun x z => nomatch z), (fun x z => nomatch z), rfl, Nat.le_refl _⟩
 have sp : ∀ {z a b c d e f g h : Addr}, z ∈ ft7 a b c d e f g h -> z ∈ [a, b, c, d] \/ z ∈ [e, f, g, h] := fun {z a b c d e f g h} hz => List.mem_append.mp (show z ∈ [a, b, c, d] ++ [e, f, g, h] from hz)
 have t23 := t3
 have two : Two7 K C_Play C_Book H10 (upd G5 RL (.lst [.ref r1, .ref r2])) P RL [.ref y, .ref y2] [.ref r1, .ref r2] (.ref bk) b y r1 y2 r2 0 := by
  have a1 : ∀ x ∈ [y, ls, ld, lu], ∃ z, G2 x = some z := fun x hx => by
   obtain ⟨z, hz⟩ := in1 x hx
   obtain ⟨_, i0⟩ := ply0'.ins
   obtain ⟨v1, e1, _⟩ := ply0'.st
   obtain ⟨v2, e2, _⟩ := ply0'.dn
   obtain ⟨v3, e3, _⟩ := ply0'.un
   simp only [List.mem_cons, nmn, or_false] at hx
   rcases hx with rfl | rfl | rfl | rfl
   ·exact ⟨_, i0⟩
   ·exact ⟨_, e1⟩
   ·exact ⟨_, e2⟩
   ·exact ⟨_, e3⟩
  have down : ∀ {F F' : Hp} {x : Addr}, SB [] F F' -> F' x = none -> F x = none := fun s h => s.dom _ h
  have nn : ∀ {F : Hp} {x w : Addr}, (∃ z, F x = some z) -> F w = none -> x ≠ w := fun h hw z => by
   obtain ⟨u, hu⟩ := h
   rw [z, hw] at hu; cases hu
  have up5 : ∀ {x : Addr}, G5 x = none -> G4 x = none := fun h => t5.dom _ h
  have up4 : ∀ {x : Addr}, G4 x = none -> G3 x = none := fun h => t4.dom _ h
  have up3 : ∀ {x : Addr}, G3 x = none -> G2 x = none := fun h => t3.dom _ h
  have up2 : ∀ {x : Addr}, G2 x = none -> G1 x = none := fun h => u2.dom _ h
  have up1 : ∀ {x : Addr}, G1 x = none -> H10 x = none := fun h => u1.dom _ h
  refine ⟨u06, hP6, hR6, ls, ld, lu, x0, x1, x2, ms, md, mu, z0, z1, z2, [g], [g1], [], [], [], [], ⟨ply06, row06, hbk.sb0 u06, ok, pw0 st0, fun x hx hy => nn (a1 x hx) (up3 (no3 x hy)) rfl⟩, ⟨ply16, row16, hbk.sb0 u06, ok, pw0 st1, fun x hx hy => nn (in2 x hx) (up3 (up4 (no4 x hy))) rfl⟩, fun z hz hy => ?_, fun z hz => ?_, fun z hz => ?_⟩
  ·rcases sp hz with h | h <;> rcases sp hy with k | k
   ·exact nn (in1 z h) (no2 z k) rfl
   ·exact nn (a1 z h) (up3 (up4 (no4 z k))) rfl
   ·exact nn (in2 z k) (up3 (no3 z h)) rfl
   ·exact nn (in3 z h) (no4 z k) rfl
  ·rcases sp hz with h | h
   ·exact ⟨no1 z h, nn (a1 z h) nP, nn (a1 z h) (up3 (up4 (up5 nRL)))⟩
   ·exact ⟨up1 (up2 (up3 (no3 z h))), fun e => nn ⟨_, hP3⟩ (no3 z h) e.symm, nn (in3 z h) (up5 nRL)⟩
  ·rcases sp hz with h | h
   ·exact ⟨up1 (no2 z h), nn (in2 z h) nP, nn (in2 z h) (up3 (up4 (up5 nRL)))⟩
   ·exact ⟨up1 (up2 (up3 (up4 (no4 z h)))), fun e => nn ⟨_, hP4⟩ (no4 z h) e.symm, nn (in4 z h) nRL⟩
 generalize upd G5 RL (.lst [.ref r1, .ref r2]) = G6 at two
 clear ply0 ply1 ply0' ply03 ply13 ply05 ply15 ply06 ply16 row0 row1 row05 row06 row16 t1 t2 t3 t4 t5 t6 u1 u2 u02 u03 u04 u05 u06 s1 s2 s12 u12 hP3 hP4 hP5 hP6 hR6 in1 in2 in3 in4 no1 no2 no3 no4 t23
 refine nameI ?_
 refine ⟨_, rfl, a, ns, 11, rfl, (s010.trans two.s0).sqL nmn hs, nl, by omega, fun p4 G7 s7 np4 hp4 => ?_⟩
 refine ⟨p4, 13, rfl, hp4, by decide, by decide, fun r5 G8 r50 r51 s8 hp5 => ?_⟩
 obtain ⟨c5, rfl⟩ : ∃ c : Nat, r5 = (c : Int) := ⟨r5.toNat, by omega⟩
 have s68 : SB [] G6 G8 := ((s7.nil (ps := [p4])).trans s8).drop np4
 have two8 := two.sb0 s68
 refine ⟨_, _, rfl, rfl, _, rfl, by omega, by omega, ?_⟩
 have e6 : ((2 : Int) + (c5 : Int)).toNat = 2 + c5 := by omega
 rw [e6]
 clear s7 s8 s68 hp4 hp5 np4 two
 refine for_it (walk_range (lo := 0) (n := 2 + c5)) (fun i σ G => Two7 K C_Play C_Book H10 G P RL [.ref y, .ref y2] [.ref r1, .ref r2] (.ref bk) b y r1 y2 r2 i /\ ∃ o8 o9 o10 o11 o12 : Option V, σ = [some (.ref a), some (.ref cl), some (.ref kh), some gv, some ov, some (.ref bk), some (.ref P), some (.ref RL), o8, o9, o10, o11, o12])
  ⟨two8, _, _, _, _, _, rfl⟩ (fun _ _ _ _ _ => trivial) (fun i x σ G G' hi h y0 => ?_) (fun σ G h => ?_)
 ·obtain ⟨twoG, o8, o9, o10, o11, o12, rfl⟩ := h
  obtain ⟨rfl, rfl⟩ := y0
  have e10 : (12 : Int) + (0 + (i : Int)) = ((12 + i : Nat) : Int) := by omega
  have i50 : i <= 50 := by omega
  refine ⟨_, rfl, _, rfl, _, _, rfl, rfl, a, ns, 12 + i, (by show [V.ref a, V.int (12 + (0 + (i : Int)))] = _; rw [e10]), (s010.trans twoG.s0).sqL nmn hs, nl, by omega, fun pw G7 s7 npw hpw => ?_⟩
  refine ⟨_, rfl, pw, 2, rfl, hpw, by decide, by decide, fun r8 G8 r80 r81 s8 hp8 => ?_⟩
  refine ⟨_, rfl, pw, 7, rfl, hp8, by decide, by decide, fun r9 G9 r90 r91 s9 hp9 => ?_⟩
  have s89 := s8.trans s9
  have s79 : SB [] _ G9 := ((s7.nil (ps := [pw])).trans s89).drop npw
  have two9 := twoG.sb0 s79
  have hkG := twoG.s0.keep _ _ hkhA nmn
  have khp : kh ≠ pw := fun z => by rw [z, npw] at hkG; cases hkG
  have hb9 : KdAll K G9 [pw] xs b := KdAll.sb s89 NoLst.self (KdAll.sb s7 NoLst.nil (KdAll.bad1 npw (KdAll.sb twoG.s0 NoLst.nil hbA)))
  have hk9 := s79.keep _ _ hkG nmn
  have pP : pw ≠ P := fun z => by rw [z, twoG.pl] at npw; cases npw
  have pR : pw ≠ RL := fun z => by rw [z, twoG.rl] at npw; cases npw
  have pw0 : H10 pw = none := twoG.s0.dom _ npw
  obtain ⟨x, rx, o, ro, ex, erx, twoR, twoQ, back⟩ : ∃ x rx o ro, atI [V.ref y, V.ref y2] r8 = some (.ref x) /\ atI [V.ref r1, V.ref r2] r8 = some (.ref rx) /\ Two7 K C_Play C_Book H10 G9 P RL [.ref y, .ref y2] [.ref r1, .ref r2] (.ref bk) b x rx o ro i /\ Two7 K C_Play C_Book H10 G' P RL [.ref y, .ref y2] [.ref r1, .ref r2] (.ref bk) b x rx o ro i /\ ∀ F, Two7 K C_Play C_Book H10 F P RL [.ref y, .ref y2] [.ref r1, .ref r2] (.ref bk) b x rx o ro (i + 1) -> Two7 K C_Play C_Book H10 F P RL [.ref y, .ref y2] [.ref r1, .ref r2] (.ref bk) b y r1 y2 r2 (i + 1) := by
   rcases (by omega : r8 = 0 \/ r8 = 1) with rfl | rfl
   ·exact ⟨y, r1, y2, r2, rfl, rfl, two9, twoG, fun _ h => h⟩
   ·exact ⟨y2, r2, y, r1, rfl, rfl, two9.swap, twoG.swap, fun _ h => h.swap⟩
  obtain ⟨u0, upl, url, ls, ld, lu, k0, k1, k2, ms, md, mu, j0, j1, j2, gs, hs', ds, es, us, vs, h1, h2, h3, h4, h5⟩ := twoQ
  have npx : pw ∉ ft7 x ls ld lu rx k0 k1 k2 := fun z => by
   obtain ⟨w, hw⟩ := h1.sm z
   rw [npw] at hw; cases hw
  have npo : pw ∉ ft7 o ms md mu ro j0 j1 j2 := fun z => by
   obtain ⟨w, hw⟩ := h2.sm z
   rw [npw] at hw; cases hw
  have h1 := h1.sb0 s79
  have h2 := h2.sb0 s79
  have u9 := u0.trans s79
  have hPl := s79.keep _ _ upl nmn
  have hRl := s79.keep _ _ url nmn
  clear upl url u0 s7 s8 s9 s89 hp8 hpw twoR two9 twoG hkG
  refine ⟨_, rfl, _, _, rfl, rfl, _, rfl, ?_⟩
  cases hd3 : decide (r9 < (3 : Int)) with
  | true =>
   refine iteT ⟨_, rfl, _, rfl, P, _, _, _, rfl, rfl, SqL.of hPl, ex, _, rfl, _, rfl, RL, _, _, _, rfl, rfl, SqL.of hRl, erx, _, rfl, _, rfl, _, rfl, x, ls, ld, lu, rx, k0, k1, k2, pw, kh, xs, .ref bk, b, gs, ds, us, i, rfl, h1, i50, hp9, npx, ⟨hk9, hb9, khp⟩, fun gs' ds' us' lu' F s10 hp10 hlu h1' => ?_⟩
   have twoF := back _ (Two7.go u9 hPl hRl h1 h2 h3 h4 h5 hp9 pw0 pP pR npo (s10.mono (by simp)) hlu h1' (Nat.le_succ i))
   have twoF0 := twoF
   refine ⟨_, rfl, _, rfl, iteF ?_⟩
   obtain ⟨_, qpl, qrl, ls, ld, lu, k0, k1, k2, ms, md, mu, j0, j1, j2, gs, hs', ds, es, us, vs, f1, f2, _, _, _⟩ := twoF
   refine ⟨_, rfl, P, _, _, _, rfl, rfl, SqL.of qpl, atI_nat (j := 0) rfl, _, rfl, RL, _, _, _, rfl, rfl, SqL.of qrl, atI_nat (j := 0) rfl, y, ls, ld, lu, r1, k0, k1, k2, .ref bk, b, gs, ds, us, i + 1, rfl, f1, by omega, fun F2 s11 => ⟨_, rfl, iteF ?_⟩⟩
   refine ⟨_, rfl, P, _, _, _, rfl, rfl, SqL.of (s11.keep _ _ qpl nmn), atI_nat (j := 1) rfl, _, rfl, RL, _, _, _, rfl, rfl, SqL.of (s11.keep _ _ qrl nmn), atI_nat (j := 1) rfl, y2, ms, md, mu, r2, j0, j1, j2, .ref bk, b, hs', es, vs, i + 1, rfl, f2.sb0 s11, by omega, fun F3 s12 => ⟨_, rfl, iteF ?_⟩⟩
   exact ⟨twoF0.sb0 (s11.trans s12), _, _, _, _, _, rfl⟩
  | false =>
  refine iteF ⟨_, rfl, rfl, _, rfl, ?_⟩
  cases decide (V.int r9 = V.int 3) with
  | true =>
   refine iteT ⟨_, rfl, _, rfl, P, _, _, _, rfl, rfl, SqL.of hPl, ex, _, rfl, _, rfl, RL, _, _, _, rfl, rfl, SqL.of hRl, erx, _, rfl, _, rfl, x, ls, ld, lu, rx, k0, k1, k2, pw, kh, xs, .ref bk, b, gs, ds, us, i, rfl, h1, i50, hp9, npx, ⟨hk9, hb9, khp⟩, fun F s10 hp10 => ?_⟩
   have h1' := (h1.sb s10 (by obtain ⟨_, _, e, _⟩ := hp9; exact Ftp.one e) (fun z hz => by simpa using fun e : z = pw => npx (e ▸ hz))).mono (Nat.le_succ i)
   have twoF := back _ (Two7.go u9 hPl hRl h1 h2 h3 h4 h5 hp9 pw0 pP pR npo (s10.mono (by simp)) (.inl rfl) h1' (Nat.le_succ i))
   have twoF0 := twoF
   refine ⟨_, rfl, _, rfl, iteF ?_⟩
   obtain ⟨_, qpl, qrl, ls, ld, lu, k0, k1, k2, ms, md, mu, j0, j1, j2, gs, hs', ds, es, us, vs, f1, f2, _, _, _⟩ := twoF
   refine ⟨_, rfl, P, _, _, _, rfl, rfl, SqL.of qpl, atI_nat (j := 0) rfl, _, rfl, RL, _, _, _, rfl, rfl, SqL.of qrl, atI_nat (j := 0) rfl, y, ls, ld, lu, r1, k0, k1, k2, .ref bk, b, gs, ds, us, i + 1, rfl, f1, by omega, fun F2 s11 => ⟨_, rfl, iteF ?_⟩⟩
   refine ⟨_, rfl, P, _, _, _, rfl, rfl, SqL.of (s11.keep _ _ qpl nmn), atI_nat (j := 1) rfl, _, rfl, RL, _, _, _, rfl, rfl, SqL.of (s11.keep _ _ qrl nmn), atI_nat (j := 1) rfl, y2, ms, md, mu, r2, j0, j1, j2, .ref bk, b, hs', es, vs, i + 1, rfl, f2.sb0 s11, by omega, fun F3 s12 => ⟨_, rfl, iteF ?_⟩⟩
   exact ⟨twoF0.sb0 (s11.trans s12), _, _, _, _, _, rfl⟩
  | false =>
  refine iteF ⟨_, rfl, _, rfl, P, _, _, _, rfl, rfl, SqL.of hPl, ex, _, rfl, _, rfl, RL, _, _, _, rfl, rfl, SqL.of hRl, erx, by show 3 <= sizeLine; decide, fun W nW => ?_⟩
  have tW := SB.new (ps := []) nW (.lst [.str "back", .str "again", .str "back"])
  have hW : SqL K (upd G9 W (.lst [.str "back", .str "again", .str "back"])) W [.str "back", .str "again", .str "back"] := SqL.of upd_same
  have h1 := h1.sb0 tW
  have h2 := h2.sb0 tW
  have u9 := u9.trans tW
  have hPl := tW.keep _ _ hPl nmn
  have hRl := tW.keep _ _ hRl nmn
  have hp9 := hp9.sb tW
  generalize upd G9 W (.lst [.str "back", .str "again", .str "back"]) = G10 at tW hW h1 h2 u9 hPl hRl hp9
  obtain ⟨way, eway, hway⟩ : ∃ way : Str, atI [V.str "back", V.str "again", V.str "back"] (r9 - 4) = some (.str way) /\ (way = "back" \/ way = "again") := by
   have := of_decide_eq_false hd3
   rcases (by omega : r9 = 3 \/ r9 = 4 \/ r9 = 5 \/ r9 = 6) with rfl | rfl | rfl | rfl
   ·exact ⟨_, rfl, .inl rfl⟩
   ·exact ⟨_, rfl, .inl rfl⟩
   ·exact ⟨_, rfl, .inr rfl⟩
   ·exact ⟨_, rfl, .inl rfl⟩
  refine ⟨_, rfl, _, _, rfl, rfl, W, _, _, _, rfl, rfl, hW, eway, x, ls, ld, lu, rx, k0, k1, k2, .ref bk, b, gs, ds, us, i, way, rfl, hway, h1, i50, fun gs' ds' us' F s10 h1' => ?_⟩
  have twoF := back _ (Two7.go u9 hPl hRl h1 h2 h3 h4 h5 hp9 pw0 pP pR npo (s10.mono (by simp)) (.inl rfl) (h1'.mono (Nat.le_succ i)) (Nat.le_succ i))
  have twoF0 := twoF
  refine ⟨_, rfl, _, rfl, iteF ?_⟩
  obtain ⟨_, qpl, qrl, ls, ld, lu, k0, k1, k2, ms, md, mu, j0, j1, j2, gs, hs', ds, es, us, vs, f1, f2, _, _, _⟩ := twoF
  refine ⟨_, rfl, P, _, _, _, rfl, rfl, SqL.of qpl, atI_nat (j := 0) rfl, _, rfl, RL, _, _, _, rfl, rfl, SqL.of qrl, atI_nat (j := 0) rfl, y, ls, ld, lu, r1, k0, k1, k2, .ref bk, b, gs, ds, us, i + 1, rfl, f1, by omega, fun F2 s11 => ⟨_, rfl, iteF ?_⟩⟩
  refine ⟨_, rfl, P, _, _, _, rfl, rfl, SqL.of (s11.keep _ _ qpl nmn), atI_nat (j := 1) rfl, _, rfl, RL, _, _, _, rfl, rfl, SqL.of (s11.keep _ _ qrl nmn), atI_nat (j := 1) rfl, y2, ms, md, mu, r2, j0, j1, j2, .ref bk, b, hs', es, vs, i + 1, rfl, f2.sb0 s11, by omega, fun F3 s12 => ⟨_, rfl, iteF ?_⟩⟩
  exact ⟨twoF0.sb0 (s11.trans s12), _, _, _, _, _, rfl⟩
 ·exact q _
end
theorem facts {P : Program} {w : World} {K : PySem.W.Frag} {h : Heap} {mg : Str -> Option Value} {f : Addr} (X : K.In h) (G : h.Ns mainGlobals mg) (hfa : mg ("law" : Str) = some (.ref f)) (c : He.SaysD fa fn K) (cx : exOk K = true) :
  ∃ fd : FuncData, (∀ (s : Shared) (v : Value), BindsTo s fd ⟨[v], []⟩ [("_law_script", v)]) /\ ∀ base : Heap, K.In base -> base.Ns mainGlobals mg -> FnOk P w K mg base CX0 215 f fd ["_law_script"] (spLaw K) := by
 obtain ⟨fd_is_whole, D_is_whole⟩ := c.def_ 0 (d := d_is_whole) rfl
 have F_is_whole : Fun K "is_whole" "is_whole" s_is_whole _ fd_is_whole := He5.fun_of D_is_whole
 have m_is_whole := He.glo_ok X G (c.fact 0 (f := .glo "is_whole") rfl)
 have b_is_whole := F_is_whole.binds (ps := ["thing"]) fun _ _ _ _ _ _ us hl => match us, hl with | [_], _ => rfl
 obtain ⟨fd_is_many, D_is_many⟩ := c.def_ 1 (d := d_is_many) rfl
 have F_is_many : Fun K "is_many" "is_many" s_is_many _ fd_is_many := He5.fun_of D_is_many
 have m_is_many := He.glo_ok X G (c.fact 1 (f := .glo "is_many") rfl)
 have b_is_many := F_is_many.binds (ps := ["thing"]) fun _ _ _ _ _ _ us hl => match us, hl with | [_], _ => rfl
 obtain ⟨fd_is_name, D_is_name⟩ := c.def_ 2 (d := d_is_name) rfl
 have F_is_name : Fun K "is_name" "is_name" s_is_name _ fd_is_name := He5.fun_of D_is_name
 have m_is_name := He.glo_ok X G (c.fact 2 (f := .glo "is_name") rfl)
 have b_is_name := F_is_name.binds (ps := ["thing"]) fun _ _ _ _ _ _ us hl => match us, hl with | [_], _ => rfl
 obtain ⟨fd_is_rising, D_is_rising⟩ := c.def_ 3 (d := d_is_rising) rfl
 have F_is_rising : Fun K "is_rising" "is_rising" s_is_rising _ fd_is_rising := He5.fun_of D_is_rising
 have m_is_rising := He.glo_ok X G (c.fact 3 (f := .glo "is_rising") rfl)
 have b_is_rising := F_is_rising.binds (ps := ["things"]) fun _ _ _ _ _ _ us hl => match us, hl with | [_], _ => rfl
 obtain ⟨fd_joined, D_joined⟩ := c.def_ 4 (d := d_joined) rfl
 have F_joined : Fun K "joined" "joined" s_joined _ fd_joined := He5.fun_of D_joined
 have m_joined := He.glo_ok X G (c.fact 4 (f := .glo "joined") rfl)
 have b_joined := F_joined.binds (ps := ["pairs"]) fun _ _ _ _ _ _ us hl => match us, hl with | [_], _ => rfl
 obtain ⟨fd_run_of, D_run_of⟩ := c.def_ 5 (d := d_run_of) rfl
 have F_run_of : Fun K "run_of" "run_of" s_run_of _ fd_run_of := He5.fun_of D_run_of
 have m_run_of := He.glo_ok X G (c.fact 5 (f := .glo "run_of") rfl)
 have b_run_of := F_run_of.binds (ps := ["text", "at", "signs"]) fun _ _ _ _ _ _ us hl => match us, hl with | [_, _, _], _ => rfl
 obtain ⟨fd_is_tree, D_is_tree⟩ := c.def_ 6 (d := d_is_tree) rfl
 have F_is_tree : Fun K "is_tree" "is_tree" s_is_tree _ fd_is_tree := He5.fun_of D_is_tree
 have m_is_tree := He.glo_ok X G (c.fact 6 (f := .glo "is_tree") rfl)
 have b_is_tree := F_is_tree.binds (ps := ["thing"]) fun _ _ _ _ _ _ us hl => match us, hl with | [_], _ => rfl
 obtain ⟨fd_is_grove, D_is_grove⟩ := c.def_ 7 (d := d_is_grove) rfl
 have F_is_grove : Fun K "is_grove" "is_grove" s_is_grove _ fd_is_grove := He5.fun_of D_is_grove
 have m_is_grove := He.glo_ok X G (c.fact 7 (f := .glo "is_grove") rfl)
 have b_is_grove := F_is_grove.binds (ps := ["thing"]) fun _ _ _ _ _ _ us hl => match us, hl with | [_], _ => rfl
 obtain ⟨fd_are_grove_pairs, D_are_grove_pairs⟩ := c.def_ 8 (d := d_are_grove_pairs) rfl
 have F_are_grove_pairs : Fun K "are_grove_pairs" "are_grove_pairs" s_are_grove_pairs _ fd_are_grove_pairs := He5.fun_of D_are_grove_pairs
 have m_are_grove_pairs := He.glo_ok X G (c.fact 8 (f := .glo "are_grove_pairs") rfl)
 have b_are_grove_pairs := F_are_grove_pairs.binds (ps := ["things"]) fun _ _ _ _ _ _ us hl => match us, hl with | [_], _ => rfl
 obtain ⟨fd_together, D_together⟩ := c.def_ 9 (d := d_together) rfl
 have F_together : Fun K "together" "together" s_together _ fd_together := He5.fun_of D_together
 have m_together := He.glo_ok X G (c.fact 9 (f := .glo "together") rfl)
 have b_together := F_together.binds (ps := ["one", "other"]) fun _ _ _ _ _ _ us hl => match us, hl with | [_, _], _ => rfl
 obtain ⟨fd_without, D_without⟩ := c.def_ 10 (d := d_without) rfl
 have F_without : Fun K "without" "without" s_without _ fd_without := He5.fun_of D_without
 have m_without := He.glo_ok X G (c.fact 10 (f := .glo "without") rfl)
 have b_without := F_without.binds (ps := ["grove", "tree", "many"]) fun _ _ _ _ _ _ us hl => match us, hl with | [_, _, _], _ => rfl
 obtain ⟨fd_times, D_times⟩ := c.def_ 11 (d := d_times) rfl
 have F_times : Fun K "times" "times" s_times _ fd_times := He5.fun_of D_times
 have m_times := He.glo_ok X G (c.fact 11 (f := .glo "times") rfl)
 have b_times := F_times.binds (ps := ["grove", "many"]) fun _ _ _ _ _ _ us hl => match us, hl with | [_, _], _ => rfl
 obtain ⟨fd_pairs_within, D_pairs_within⟩ := c.def_ 12 (d := d_pairs_within) rfl
 have F_pairs_within : Fun K "pairs_within" "pairs_within" s_pairs_within _ fd_pairs_within := He5.fun_of D_pairs_within
 have m_pairs_within := He.glo_ok X G (c.fact 12 (f := .glo "pairs_within") rfl)
 have b_pairs_within := F_pairs_within.binds (ps := ["grove"]) fun _ _ _ _ _ _ us hl => match us, hl with | [_], _ => rfl
 obtain ⟨fd_kinds_within, D_kinds_within⟩ := c.def_ 13 (d := d_kinds_within) rfl
 have F_kinds_within : Fun K "kinds_within" "kinds_within" s_kinds_within _ fd_kinds_within := He5.fun_of D_kinds_within
 have m_kinds_within := He.glo_ok X G (c.fact 13 (f := .glo "kinds_within") rfl)
 have b_kinds_within := F_kinds_within.binds (ps := ["grove"]) fun _ _ _ _ _ _ us hl => match us, hl with | [_], _ => rfl
 obtain ⟨fd_parts_of, D_parts_of⟩ := c.def_ 14 (d := d_parts_of) rfl
 have F_parts_of : Fun K "parts_of" "parts_of" s_parts_of _ fd_parts_of := He5.fun_of D_parts_of
 have m_parts_of := He.glo_ok X G (c.fact 14 (f := .glo "parts_of") rfl)
 have b_parts_of := F_parts_of.binds (ps := ["grove"]) fun _ _ _ _ _ _ us hl => match us, hl with | [_], _ => rfl
 obtain ⟨fd_deep_of, D_deep_of⟩ := c.def_ 15 (d := d_deep_of) rfl
 have F_deep_of : Fun K "deep_of" "deep_of" s_deep_of _ fd_deep_of := He5.fun_of D_deep_of
 have m_deep_of := He.glo_ok X G (c.fact 15 (f := .glo "deep_of") rfl)
 have b_deep_of := F_deep_of.binds (ps := ["grove"]) fun _ _ _ _ _ _ us hl => match us, hl with | [_], _ => rfl
 obtain ⟨fd_rules_from_nought, D_rules_from_nought⟩ := c.def_ 16 (d := d_rules_from_nought) rfl
 have F_rules_from_nought : Fun K "rules_from_nought" "rules_from_nought" s_rules_from_nought _ fd_rules_from_nought := He5.fun_of D_rules_from_nought
 have m_rules_from_nought := He.glo_ok X G (c.fact 16 (f := .glo "rules_from_nought") rfl)
 have b_rules_from_nought := F_rules_from_nought.binds (ps := ["book", "name"]) fun _ _ _ _ _ _ us hl => match us, hl with | [_, _], _ => rfl
 obtain ⟨fd_check_kind, D_check_kind⟩ := c.def_ 17 (d := d_check_kind) rfl
 have F_check_kind : Fun K "check_kind" "check_kind" s_check_kind _ fd_check_kind := He5.fun_of D_check_kind
 have m_check_kind := He.glo_ok X G (c.fact 17 (f := .glo "check_kind") rfl)
 have b_check_kind := F_check_kind.binds (ps := ["book", "name"]) fun _ _ _ _ _ _ us hl => match us, hl with | [_, _], _ => rfl
 obtain ⟨fd_check_kinds, D_check_kinds⟩ := c.def_ 18 (d := d_check_kinds) rfl
 have F_check_kinds : Fun K "check_kinds" "check_kinds" s_check_kinds _ fd_check_kinds := He5.fun_of D_check_kinds
 have m_check_kinds := He.glo_ok X G (c.fact 18 (f := .glo "check_kinds") rfl)
 have b_check_kinds := F_check_kinds.binds (ps := ["book", "grove"]) fun _ _ _ _ _ _ us hl => match us, hl with | [_, _], _ => rfl
 obtain ⟨fd_are_kinds, D_are_kinds⟩ := c.def_ 19 (d := d_are_kinds) rfl
 have F_are_kinds : Fun K "are_kinds" "are_kinds" s_are_kinds _ fd_are_kinds := He5.fun_of D_are_kinds
 have m_are_kinds := He.glo_ok X G (c.fact 19 (f := .glo "are_kinds") rfl)
 have b_are_kinds := F_are_kinds.binds (ps := ["things"]) fun _ _ _ _ _ _ us hl => match us, hl with | [_], _ => rfl
 obtain ⟨fd_is_kind, D_is_kind⟩ := c.def_ 20 (d := d_is_kind) rfl
 have F_is_kind : Fun K "is_kind" "is_kind" s_is_kind _ fd_is_kind := He5.fun_of D_is_kind
 have m_is_kind := He.glo_ok X G (c.fact 20 (f := .glo "is_kind") rfl)
 have b_is_kind := F_is_kind.binds (ps := ["thing"]) fun _ _ _ _ _ _ us hl => match us, hl with | [_], _ => rfl
 obtain ⟨fd_is_rule, D_is_rule⟩ := c.def_ 21 (d := d_is_rule) rfl
 have F_is_rule : Fun K "is_rule" "is_rule" s_is_rule _ fd_is_rule := He5.fun_of D_is_rule
 have m_is_rule := He.glo_ok X G (c.fact 21 (f := .glo "is_rule") rfl)
 have b_is_rule := F_is_rule.binds (ps := ["thing"]) fun _ _ _ _ _ _ us hl => match us, hl with | [_], _ => rfl
 obtain ⟨fd_is_rule_of, D_is_rule_of⟩ := c.def_ 22 (d := d_is_rule_of) rfl
 have F_is_rule_of : Fun K "is_rule_of" "is_rule_of" s_is_rule_of _ fd_is_rule_of := He5.fun_of D_is_rule_of
 have m_is_rule_of := He.glo_ok X G (c.fact 22 (f := .glo "is_rule_of") rfl)
 have b_is_rule_of := F_is_rule_of.binds (ps := ["rule", "names"]) fun _ _ _ _ _ _ us hl => match us, hl with | [_, _], _ => rfl
 obtain ⟨fd_tree_at, D_tree_at⟩ := c.def_ 23 (d := d_tree_at) rfl
 have F_tree_at : Fun K "tree_at" "tree_at" s_tree_at _ fd_tree_at := He5.fun_of D_tree_at
 have m_tree_at := He.glo_ok X G (c.fact 23 (f := .glo "tree_at") rfl)
 have b_tree_at := F_tree_at.binds (ps := ["grove", "place"]) fun _ _ _ _ _ _ us hl => match us, hl with | [_, _], _ => rfl
 obtain ⟨fd_number_of, D_number_of⟩ := c.def_ 24 (d := d_number_of) rfl
 have F_number_of : Fun K "number_of" "number_of" s_number_of _ fd_number_of := He5.fun_of D_number_of
 have m_number_of := He.glo_ok X G (c.fact 24 (f := .glo "number_of") rfl)
 have b_number_of := F_number_of.binds (ps := ["grove", "tree"]) fun _ _ _ _ _ _ us hl => match us, hl with | [_, _], _ => rfl
 obtain ⟨fd_fallen, D_fallen⟩ := c.def_ 25 (d := d_fallen) rfl
 have F_fallen : Fun K "fallen" "fallen" s_fallen _ fd_fallen := He5.fun_of D_fallen
 have m_fallen := He.glo_ok X G (c.fact 25 (f := .glo "fallen") rfl)
 have b_fallen := F_fallen.binds (ps := ["book", "grove", "place", "rule", "number"]) fun _ _ _ _ _ _ us hl => match us, hl with | [_, _, _, _, _], _ => rfl
 obtain ⟨fd_rule_at, D_rule_at⟩ := c.def_ 26 (d := d_rule_at) rfl
 have F_rule_at : Fun K "rule_at" "rule_at" s_rule_at _ fd_rule_at := He5.fun_of D_rule_at
 have m_rule_at := He.glo_ok X G (c.fact 26 (f := .glo "rule_at") rfl)
 have b_rule_at := F_rule_at.binds (ps := ["book", "kind", "rule"]) fun _ _ _ _ _ _ us hl => match us, hl with | [_, _, _], _ => rfl
 obtain ⟨fd_check_number, D_check_number⟩ := c.def_ 27 (d := d_check_number) rfl
 have F_check_number : Fun K "check_number" "check_number" s_check_number _ fd_check_number := He5.fun_of D_check_number
 have m_check_number := He.glo_ok X G (c.fact 27 (f := .glo "check_number") rfl)
 have b_check_number := F_check_number.binds (ps := ["thing"]) fun _ _ _ _ _ _ us hl => match us, hl with | [_], _ => rfl
 obtain ⟨fd_check_bound, D_check_bound⟩ := c.def_ 28 (d := d_check_bound) rfl
 have F_check_bound : Fun K "check_bound" "check_bound" s_check_bound _ fd_check_bound := He5.fun_of D_check_bound
 have m_check_bound := He.glo_ok X G (c.fact 28 (f := .glo "check_bound") rfl)
 have b_check_bound := F_check_bound.binds (ps := ["grove"]) fun _ _ _ _ _ _ us hl => match us, hl with | [_], _ => rfl
 obtain ⟨fd_grown, D_grown⟩ := c.def_ 29 (d := d_grown) rfl
 have F_grown : Fun K "grown" "grown" s_grown _ fd_grown := He5.fun_of D_grown
 have m_grown := He.glo_ok X G (c.fact 29 (f := .glo "grown") rfl)
 have b_grown := F_grown.binds (ps := ["rule", "number"]) fun _ _ _ _ _ _ us hl => match us, hl with | [_, _], _ => rfl
 obtain ⟨fd_further_ones, D_further_ones⟩ := c.def_ 30 (d := d_further_ones) rfl
 have F_further_ones : Fun K "further_ones" "further_ones" s_further_ones _ fd_further_ones := He5.fun_of D_further_ones
 have m_further_ones := He.glo_ok X G (c.fact 30 (f := .glo "further_ones") rfl)
 have b_further_ones := F_further_ones.binds (ps := ["book", "kind", "number"]) fun _ _ _ _ _ _ us hl => match us, hl with | [_, _, _], _ => rfl
 obtain ⟨fd_struck, D_struck⟩ := c.def_ 31 (d := d_struck) rfl
 have F_struck : Fun K "struck" "struck" s_struck _ fd_struck := He5.fun_of D_struck
 have m_struck := He.glo_ok X G (c.fact 31 (f := .glo "struck") rfl)
 have b_struck := F_struck.binds (ps := ["book", "grove", "place", "fresh", "number"]) fun _ _ _ _ _ _ us hl => match us, hl with | [_, _, _, _, _], _ => rfl
 obtain ⟨fd__law_purse, D__law_purse⟩ := c.def_ 32 (d := d__law_purse) rfl
 have F__law_purse : Fun K "_law_purse" "_law_purse" s__law_purse _ fd__law_purse := He5.fun_of D__law_purse
 have m__law_purse := He.glo_ok X G (c.fact 32 (f := .glo "_law_purse") rfl)
 have b__law_purse := F__law_purse.binds (ps := ["_law_script", "_law_k"]) fun _ _ _ _ _ _ us hl => match us, hl with | [_, _], _ => rfl
 obtain ⟨fd__law_take, D__law_take⟩ := c.def_ 33 (d := d__law_take) rfl
 have F__law_take : Fun K "_law_take" "_law_take" s__law_take _ fd__law_take := He5.fun_of D__law_take
 have m__law_take := He.glo_ok X G (c.fact 33 (f := .glo "_law_take") rfl)
 have b__law_take := F__law_take.binds (ps := ["_law_purse_here", "_law_many_here"]) fun _ _ _ _ _ _ us hl => match us, hl with | [_, _], _ => rfl
 obtain ⟨fd__law_names, D__law_names⟩ := c.def_ 34 (d := d__law_names) rfl
 have F__law_names : Fun K "_law_names" "_law_names" s__law_names _ fd__law_names := He5.fun_of D__law_names
 have m__law_names := He.glo_ok X G (c.fact 34 (f := .glo "_law_names") rfl)
 have b__law_names := F__law_names.binds (ps := ["_law_purse_here", "_law_many_here"]) fun _ _ _ _ _ _ us hl => match us, hl with | [_, _], _ => rfl
 obtain ⟨fd__law_many, D__law_many⟩ := c.def_ 35 (d := d__law_many) rfl
 have F__law_many : Fun K "_law_many" "_law_many" s__law_many _ fd__law_many := He5.fun_of D__law_many
 have m__law_many := He.glo_ok X G (c.fact 35 (f := .glo "_law_many") rfl)
 have b__law_many := F__law_many.binds (ps := ["_law_purse_here", "_law_most"]) fun _ _ _ _ _ _ us hl => match us, hl with | [_, _], _ => rfl
 obtain ⟨fd__law_wood, D__law_wood⟩ := c.def_ 36 (d := d__law_wood) rfl
 have F__law_wood : Fun K "_law_wood" "_law_wood" s__law_wood _ fd__law_wood := He5.fun_of D__law_wood
 have m__law_wood := He.glo_ok X G (c.fact 36 (f := .glo "_law_wood") rfl)
 have b__law_wood := F__law_wood.binds (ps := ["_law_purse_here", "_law_pool", "_law_room", "_law_low_here", "_law_most"]) fun _ _ _ _ _ _ us hl => match us, hl with | [_, _, _, _, _], _ => rfl
 obtain ⟨fd__law_kinds, D__law_kinds⟩ := c.def_ 37 (d := d__law_kinds) rfl
 have F__law_kinds : Fun K "_law_kinds" "_law_kinds" s__law_kinds _ fd__law_kinds := He5.fun_of D__law_kinds
 have m__law_kinds := He.glo_ok X G (c.fact 37 (f := .glo "_law_kinds") rfl)
 have b__law_kinds := F__law_kinds.binds (ps := ["_law_script", "_law_names_here"]) fun _ _ _ _ _ _ us hl => match us, hl with | [_, _], _ => rfl
 obtain ⟨fd__law_kind, D__law_kind⟩ := c.def_ 38 (d := d__law_kind) rfl
 have F__law_kind : Fun K "_law_kind" "_law_kind" s__law_kind _ fd__law_kind := He5.fun_of D__law_kind
 have m__law_kind := He.glo_ok X G (c.fact 38 (f := .glo "_law_kind") rfl)
 have b__law_kind := F__law_kind.binds (ps := ["_law_kinds_here", "_law_name"]) fun _ _ _ _ _ _ us hl => match us, hl with | [_, _], _ => rfl
 obtain ⟨fd__law_book, D__law_book⟩ := c.def_ 39 (d := d__law_book) rfl
 have F__law_book : Fun K "_law_book" "_law_book" s__law_book _ fd__law_book := He5.fun_of D__law_book
 have m__law_book := He.glo_ok X G (c.fact 39 (f := .glo "_law_book") rfl)
 have b__law_book := F__law_book.binds (ps := ["_law_kinds_here"]) fun _ _ _ _ _ _ us hl => match us, hl with | [_], _ => rfl
 obtain ⟨fd__law_grove, D__law_grove⟩ := c.def_ 40 (d := d__law_grove) rfl
 have F__law_grove : Fun K "_law_grove" "_law_grove" s__law_grove _ fd__law_grove := He5.fun_of D__law_grove
 have m__law_grove := He.glo_ok X G (c.fact 40 (f := .glo "_law_grove") rfl)
 have b__law_grove := F__law_grove.binds (ps := ["_law_script", "_law_names_here"]) fun _ _ _ _ _ _ us hl => match us, hl with | [_, _], _ => rfl
 obtain ⟨fd__law_bare, D__law_bare⟩ := c.def_ 41 (d := d__law_bare) rfl
 have F__law_bare : Fun K "_law_bare" "_law_bare" s__law_bare _ fd__law_bare := He5.fun_of D__law_bare
 have m__law_bare := He.glo_ok X G (c.fact 41 (f := .glo "_law_bare") rfl)
 have b__law_bare := F__law_bare.binds (ps := ["_law_grove_here", "_law_ahead"]) fun _ _ _ _ _ _ us hl => match us, hl with | [_, _], _ => rfl
 obtain ⟨fd__law_plain, D__law_plain⟩ := c.def_ 42 (d := d__law_plain) rfl
 have F__law_plain : Fun K "_law_plain" "_law_plain" s__law_plain _ fd__law_plain := He5.fun_of D__law_plain
 have m__law_plain := He.glo_ok X G (c.fact 42 (f := .glo "_law_plain") rfl)
 have b__law_plain := F__law_plain.binds (ps := ["_law_thing"]) fun _ _ _ _ _ _ us hl => match us, hl with | [_], _ => rfl
 obtain ⟨fd__law_drawn, D__law_drawn⟩ := c.def_ 43 (d := d__law_drawn) rfl
 have F__law_drawn : Fun K "_law_drawn" "_law_drawn" s__law_drawn _ fd__law_drawn := He5.fun_of D__law_drawn
 have m__law_drawn := He.glo_ok X G (c.fact 43 (f := .glo "_law_drawn") rfl)
 have b__law_drawn := F__law_drawn.binds (ps := ["_law_purse_here", "_law_kinds_here", "_law_grove_here"]) fun _ _ _ _ _ _ us hl => match us, hl with | [_, _, _], _ => rfl
 obtain ⟨fd__law_laid, D__law_laid⟩ := c.def_ 44 (d := d__law_laid) rfl
 have F__law_laid : Fun K "_law_laid" "_law_laid" s__law_laid _ fd__law_laid := He5.fun_of D__law_laid
 have m__law_laid := He.glo_ok X G (c.fact 44 (f := .glo "_law_laid") rfl)
 have b__law_laid := F__law_laid.binds (ps := ["_law_kinds_here", "_law_name", "_law_rule"]) fun _ _ _ _ _ _ us hl => match us, hl with | [_, _, _], _ => rfl
 obtain ⟨fd__law_put, D__law_put⟩ := c.def_ 45 (d := d__law_put) rfl
 have F__law_put : Fun K "_law_put" "_law_put" s__law_put _ fd__law_put := He5.fun_of D__law_put
 have m__law_put := He.glo_ok X G (c.fact 45 (f := .glo "_law_put") rfl)
 have b__law_put := F__law_put.binds (ps := ["_law_grove_here", "_law_tree", "_law_many_here"]) fun _ _ _ _ _ _ us hl => match us, hl with | [_, _, _], _ => rfl
 obtain ⟨fd__law_fell, D__law_fell⟩ := c.def_ 46 (d := d__law_fell) rfl
 have F__law_fell : Fun K "_law_fell" "_law_fell" s__law_fell _ fd__law_fell := He5.fun_of D__law_fell
 have m__law_fell := He.glo_ok X G (c.fact 46 (f := .glo "_law_fell") rfl)
 have b__law_fell := F__law_fell.binds (ps := ["_law_kinds_here", "_law_grove_here", "_law_place", "_law_laid_here", "_law_said"]) fun _ _ _ _ _ _ us hl => match us, hl with | [_, _, _, _, _], _ => rfl
 obtain ⟨fd__law_parts, D__law_parts⟩ := c.def_ 47 (d := d__law_parts) rfl
 have F__law_parts : Fun K "_law_parts" "_law_parts" s__law_parts _ fd__law_parts := He5.fun_of D__law_parts
 have m__law_parts := He.glo_ok X G (c.fact 47 (f := .glo "_law_parts") rfl)
 have b__law_parts := F__law_parts.binds (ps := ["_law_grove_here"]) fun _ _ _ _ _ _ us hl => match us, hl with | [_], _ => rfl
 obtain ⟨fd__law_low, D__law_low⟩ := c.def_ 48 (d := d__law_low) rfl
 have F__law_low : Fun K "_law_low" "_law_low" s__law_low _ fd__law_low := He5.fun_of D__law_low
 have m__law_low := He.glo_ok X G (c.fact 48 (f := .glo "_law_low") rfl)
 have b__law_low := F__law_low.binds (ps := ["_law_grove_here"]) fun _ _ _ _ _ _ us hl => match us, hl with | [_], _ => rfl
 obtain ⟨fd__law_great, D__law_great⟩ := c.def_ 49 (d := d__law_great) rfl
 have F__law_great : Fun K "_law_great" "_law_great" s__law_great _ fd__law_great := He5.fun_of D__law_great
 have m__law_great := He.glo_ok X G (c.fact 49 (f := .glo "_law_great") rfl)
 have b__law_great := F__law_great.binds (ps := ["_law_grove_here"]) fun _ _ _ _ _ _ us hl => match us, hl with | [_], _ => rfl
 obtain ⟨fd__law_which, D__law_which⟩ := c.def_ 50 (d := d__law_which) rfl
 have F__law_which : Fun K "_law_which" "_law_which" s__law_which _ fd__law_which := He5.fun_of D__law_which
 have m__law_which := He.glo_ok X G (c.fact 50 (f := .glo "_law_which") rfl)
 have b__law_which := F__law_which.binds (ps := ["_law_e"]) fun _ _ _ _ _ _ us hl => match us, hl with | [_], _ => rfl
 obtain ⟨fd__law_done, D__law_done⟩ := c.def_ 51 (d := d__law_done) rfl
 have F__law_done : Fun K "_law_done" "_law_done" s__law_done _ fd__law_done := He5.fun_of D__law_done
 have m__law_done := He.glo_ok X G (c.fact 51 (f := .glo "_law_done") rfl)
 have b__law_done := F__law_done.binds (ps := ["_law_play", "_law_deed"]) fun _ _ _ _ _ _ us hl => match us, hl with | [_, _], _ => rfl
 obtain ⟨fd__law_kept, D__law_kept⟩ := c.def_ 52 (d := d__law_kept) rfl
 have F__law_kept : Fun K "_law_kept" "_law_kept" s__law_kept _ fd__law_kept := He5.fun_of D__law_kept
 have m__law_kept := He.glo_ok X G (c.fact 52 (f := .glo "_law_kept") rfl)
 have b__law_kept := F__law_kept.binds (ps := ["_law_play", "_law_row"]) fun _ _ _ _ _ _ us hl => match us, hl with | [_, _], _ => rfl
 obtain ⟨fd__law_turned, D__law_turned⟩ := c.def_ 53 (d := d__law_turned) rfl
 have F__law_turned : Fun K "_law_turned" "_law_turned" s__law_turned _ fd__law_turned := He5.fun_of D__law_turned
 have m__law_turned := He.glo_ok X G (c.fact 53 (f := .glo "_law_turned") rfl)
 have b__law_turned := F__law_turned.binds (ps := ["_law_play", "_law_row", "_law_way"]) fun _ _ _ _ _ _ us hl => match us, hl with | [_, _, _], _ => rfl
 obtain ⟨fd__law_refused, D__law_refused⟩ := c.def_ 54 (d := d__law_refused) rfl
 have F__law_refused : Fun K "_law_refused" "_law_refused" s__law_refused _ fd__law_refused := He5.fun_of D__law_refused
 have m__law_refused := He.glo_ok X G (c.fact 54 (f := .glo "_law_refused") rfl)
 have b__law_refused := F__law_refused.binds (ps := ["_law_play", "_law_row", "_law_purse_here", "_law_kinds_here"]) fun _ _ _ _ _ _ us hl => match us, hl with | [_, _, _, _], _ => rfl
 obtain ⟨fd__law_new, D__law_new⟩ := c.def_ 55 (d := d__law_new) rfl
 have F__law_new : Fun K "_law_new" "_law_new" s__law_new _ fd__law_new := He5.fun_of D__law_new
 have m__law_new := He.glo_ok X G (c.fact 55 (f := .glo "_law_new") rfl)
 have b__law_new := F__law_new.binds (ps := ["_law_play", "_law_row", "_law_purse_here", "_law_kinds_here", "_law_book_here"]) fun _ _ _ _ _ _ us hl => match us, hl with | [_, _, _, _, _], _ => rfl
 obtain ⟨fd_law, D_law⟩ := c.def_ 56 (d := d_law) rfl
 have F_law : Fun K "law" "law" s_law _ fd_law := He5.fun_of D_law
 have m_law := He.glo_ok X G (c.fact 56 (f := .glo "law") rfl)
 obtain ⟨fd_NoKind___init__, D_NoKind___init__⟩ := c.def_ 57 (d := d_NoKind___init__) rfl
 have F_NoKind___init__ : Fun K "__init__" "NoKind.__init__" s_NoKind___init__ _ fd_NoKind___init__ := He5.fun_of D_NoKind___init__
 have b_NoKind___init__ := F_NoKind___init__.binds (ps := ["self", "kind"]) fun _ _ _ _ _ _ us hl => match us, hl with | [_, _], _ => rfl
 obtain ⟨fd_Endless___init__, D_Endless___init__⟩ := c.def_ 58 (d := d_Endless___init__) rfl
 have F_Endless___init__ : Fun K "__init__" "Endless.__init__" s_Endless___init__ _ fd_Endless___init__ := He5.fun_of D_Endless___init__
 have b_Endless___init__ := F_Endless___init__.binds (ps := ["self", "kind"]) fun _ _ _ _ _ _ us hl => match us, hl with | [_, _], _ => rfl
 obtain ⟨fd_Book___init__, D_Book___init__⟩ := c.def_ 59 (d := d_Book___init__) rfl
 have F_Book___init__ : Fun K "__init__" "Book.__init__" s_Book___init__ _ fd_Book___init__ := He5.fun_of D_Book___init__
 have b_Book___init__ := F_Book___init__.binds (ps := ["self", "kinds"]) fun _ _ _ _ _ _ us hl => match us, hl with | [_, _], _ => rfl
 obtain ⟨fd_Book_names, D_Book_names⟩ := c.def_ 60 (d := d_Book_names) rfl
 have F_Book_names : Fun K "names" "Book.names" s_Book_names _ fd_Book_names := He5.fun_of D_Book_names
 have b_Book_names := F_Book_names.binds (ps := ["self"]) fun _ _ _ _ _ _ us hl => match us, hl with | [_], _ => rfl
 obtain ⟨fd_Book_spreads, D_Book_spreads⟩ := c.def_ 61 (d := d_Book_spreads) rfl
 have F_Book_spreads : Fun K "spreads" "Book.spreads" s_Book_spreads _ fd_Book_spreads := He5.fun_of D_Book_spreads
 have b_Book_spreads := F_Book_spreads.binds (ps := ["self", "name"]) fun _ _ _ _ _ _ us hl => match us, hl with | [_, _], _ => rfl
 obtain ⟨fd_Book_rules, D_Book_rules⟩ := c.def_ 62 (d := d_Book_rules) rfl
 have F_Book_rules : Fun K "rules" "Book.rules" s_Book_rules _ fd_Book_rules := He5.fun_of D_Book_rules
 have b_Book_rules := F_Book_rules.binds (ps := ["self", "name"]) fun _ _ _ _ _ _ us hl => match us, hl with | [_, _], _ => rfl
 obtain ⟨fd_Play___init__, D_Play___init__⟩ := c.def_ 63 (d := d_Play___init__) rfl
 have F_Play___init__ : Fun K "__init__" "Play.__init__" s_Play___init__ _ fd_Play___init__ := He5.fun_of D_Play___init__
 have b_Play___init__ := F_Play___init__.binds (ps := ["self", "book", "grove"]) fun _ _ _ _ _ _ us hl => match us, hl with | [_, _, _], _ => rfl
 obtain ⟨fd_Play_grove, D_Play_grove⟩ := c.def_ 64 (d := d_Play_grove) rfl
 have F_Play_grove : Fun K "grove" "Play.grove" s_Play_grove _ fd_Play_grove := He5.fun_of D_Play_grove
 have b_Play_grove := F_Play_grove.binds (ps := ["self"]) fun _ _ _ _ _ _ us hl => match us, hl with | [_], _ => rfl
 obtain ⟨fd_Play_falls, D_Play_falls⟩ := c.def_ 65 (d := d_Play_falls) rfl
 have F_Play_falls : Fun K "falls" "Play.falls" s_Play_falls _ fd_Play_falls := He5.fun_of D_Play_falls
 have b_Play_falls := F_Play_falls.binds (ps := ["self"]) fun _ _ _ _ _ _ us hl => match us, hl with | [_], _ => rfl
 obtain ⟨fd_Play_fall, D_Play_fall⟩ := c.def_ 66 (d := d_Play_fall) rfl
 have F_Play_fall : Fun K "fall" "Play.fall" s_Play_fall _ fd_Play_fall := He5.fun_of D_Play_fall
 have b_Play_fall := F_Play_fall.binds (ps := ["self", "place", "rule", "number"]) fun _ _ _ _ _ _ us hl => match us, hl with | [_, _, _, _], _ => rfl
 obtain ⟨fd_Play_back, D_Play_back⟩ := c.def_ 67 (d := d_Play_back) rfl
 have F_Play_back : Fun K "back" "Play.back" s_Play_back _ fd_Play_back := He5.fun_of D_Play_back
 have b_Play_back := F_Play_back.binds (ps := ["self"]) fun _ _ _ _ _ _ us hl => match us, hl with | [_], _ => rfl
 obtain ⟨fd_Play_again, D_Play_again⟩ := c.def_ 68 (d := d_Play_again) rfl
 have F_Play_again : Fun K "again" "Play.again" s_Play_again _ fd_Play_again := He5.fun_of D_Play_again
 have b_Play_again := F_Play_again.binds (ps := ["self"]) fun _ _ _ _ _ _ us hl => match us, hl with | [_], _ => rfl
 have B : BI mg := ⟨He.free_ok X G (c.fact 57 (f := .free "len") rfl), He.free_ok X G (c.fact 58 (f := .free "isinstance") rfl), He.free_ok X G (c.fact 59 (f := .free "int") rfl), He.free_ok X G (c.fact 60 (f := .free "bool") rfl), He.free_ok X G (c.fact 61 (f := .free "str") rfl), He.free_ok X G (c.fact 62 (f := .free "tuple") rfl), He.free_ok X G (c.fact 63 (f := .free "list") rfl), He.free_ok X G (c.fact 64 (f := .free "all") rfl), He.free_ok X G (c.fact 65 (f := .free "zip") rfl), He.free_ok X G (c.fact 66 (f := .free "sum") rfl), He.free_ok X G (c.fact 67 (f := .free "max") rfl), He.free_ok X G (c.fact 68 (f := .free "range") rfl), He.free_ok X G (c.fact 69 (f := .free "enumerate") rfl), He.free_ok X G (c.fact 70 (f := .free "abs") rfl), He.free_ok X G (c.fact 71 (f := .free "sorted") rfl), He.free_ok X G (c.fact 72 (f := .free "min") rfl), He.free_ok X G (c.fact 73 (f := .free "reversed") rfl), He.free_ok X G (c.fact 74 (f := .free "any") rfl), He.free_ok X G (c.fact 75 (f := .free "set") rfl), He.free_ok X G (c.fact 76 (f := .free "dict") rfl), He.free_ok X G (c.fact 77 (f := .free "repr") rfl)⟩
 obtain ⟨xk_NoKind, cx⟩ := He.ba cx
 obtain ⟨xk_Endless, cx⟩ := He.ba cx
 obtain ⟨xt_NO_GROVES, cx⟩ := He.ba cx
 have W_NO_GROVES := no2B_ok xt_NO_GROVES
 have T : ErrsM K mg (He.ga K) eC eN eK := ermB_ok cx (fun n hn => by
   rcases List.mem_cons.mp hn with e | hn
   ·rw [e]; exact He.glo_ok X G (c.fact 80 (f := .glo "NoGrove") rfl)
   rcases List.mem_cons.mp hn with e | hn
   ·rw [e]; exact He.glo_ok X G (c.fact 81 (f := .glo "NoPlace") rfl)
   rcases List.mem_cons.mp hn with e | hn
   ·rw [e]; exact He.glo_ok X G (c.fact 82 (f := .glo "NoBook") rfl)
   rcases List.mem_cons.mp hn with e | hn
   ·rw [e]; exact He.glo_ok X G (c.fact 83 (f := .glo "NoKind") rfl)
   rcases List.mem_cons.mp hn with e | hn
   ·rw [e]; exact He.glo_ok X G (c.fact 84 (f := .glo "NoRule") rfl)
   rcases List.mem_cons.mp hn with e | hn
   ·rw [e]; exact He.glo_ok X G (c.fact 85 (f := .glo "NoNumber") rfl)
   rcases List.mem_cons.mp hn with e | hn
   ·rw [e]; exact He.glo_ok X G (c.fact 86 (f := .glo "TooGreat") rfl)
   rcases List.mem_cons.mp hn with e | hn
   ·rw [e]; exact He.glo_ok X G (c.fact 87 (f := .glo "NoRise") rfl)
   rcases List.mem_cons.mp hn with e | hn
   ·rw [e]; exact He.glo_ok X G (c.fact 88 (f := .glo "NoFall") rfl)
   rcases List.mem_cons.mp hn with e | hn
   ·rw [e]; exact He.glo_ok X G (c.fact 89 (f := .glo "Endless") rfl)
   rcases List.mem_cons.mp hn with e | hn
   ·rw [e]; exact He.glo_ok X G (c.fact 90 (f := .glo "NoRow") rfl)
   rcases List.mem_cons.mp hn with e | hn
   ·rw [e]; exact He.glo_ok X G (c.fact 91 (f := .glo "NoName") rfl)
   exact nomatch hn) (He.glo_ok X G (c.fact 78 (f := .glo "FellError") rfl)) (He.free_ok X G (c.fact 79 (f := .free "ValueError") rfl)) (fun n hn => by
   rcases List.mem_cons.mp hn with e | hn
   ·rw [e]; exact He.noat_ok (c.fact 92 (f := .noat "NoKind" "kind") rfl)
   exact nomatch hn)
 have L_LETTERS := He.str_ok X G (c.fact 93 (f := .str "LETTERS" "abcdefghijklmnopqrstuvwxyz") rfl)
 have L_LONGEST_NAME := He.int_ok X G (c.fact 94 (f := .int "LONGEST_NAME" (8)) rfl)
 have L_MOST_KINDS := He.int_ok X G (c.fact 95 (f := .int "MOST_KINDS" (8)) rfl)
 have L_MOST_RULES := He.int_ok X G (c.fact 96 (f := .int "MOST_RULES" (4)) rfl)
 have L_MOST_RULE_PARTS := He.int_ok X G (c.fact 97 (f := .int "MOST_RULE_PARTS" (4)) rfl)
 have L_MOST_MANY := He.int_ok X G (c.fact 98 (f := .int "MOST_MANY" (1000000000)) rfl)
 have L_MOST_PARTS_STANDING := He.int_ok X G (c.fact 99 (f := .int "MOST_PARTS_STANDING" (2000)) rfl)
 have L_MOST_DEEP_STANDING := He.int_ok X G (c.fact 100 (f := .int "MOST_DEEP_STANDING" (60)) rfl)
 have V_NO_GROVES := He.glo_ok X G (c.fact 101 (f := .glo "NO_GROVES") rfl)
 have O_NoBook : Own K mg "NoBook" (He.ga K "NoBook") := by
  obtain ⟨y1, y2, y3, y4⟩ := He.exc_ok (c.fact 102 (f := .exc "NoBook") rfl)
  exact ⟨He.glo_ok X G (c.fact 82 (f := .glo "NoBook") rfl), y1, y2, y3, y4⟩
 have O_NoFall : Own K mg "NoFall" (He.ga K "NoFall") := by
  obtain ⟨y1, y2, y3, y4⟩ := He.exc_ok (c.fact 103 (f := .exc "NoFall") rfl)
  exact ⟨He.glo_ok X G (c.fact 88 (f := .glo "NoFall") rfl), y1, y2, y3, y4⟩
 have O_NoNumber : Own K mg "NoNumber" (He.ga K "NoNumber") := by
  obtain ⟨y1, y2, y3, y4⟩ := He.exc_ok (c.fact 104 (f := .exc "NoNumber") rfl)
  exact ⟨He.glo_ok X G (c.fact 85 (f := .glo "NoNumber") rfl), y1, y2, y3, y4⟩
 have O_NoPlace : Own K mg "NoPlace" (He.ga K "NoPlace") := by
  obtain ⟨y1, y2, y3, y4⟩ := He.exc_ok (c.fact 105 (f := .exc "NoPlace") rfl)
  exact ⟨He.glo_ok X G (c.fact 81 (f := .glo "NoPlace") rfl), y1, y2, y3, y4⟩
 have O_NoRule : Own K mg "NoRule" (He.ga K "NoRule") := by
  obtain ⟨y1, y2, y3, y4⟩ := He.exc_ok (c.fact 106 (f := .exc "NoRule") rfl)
  exact ⟨He.glo_ok X G (c.fact 84 (f := .glo "NoRule") rfl), y1, y2, y3, y4⟩
 have O_TooGreat : Own K mg "TooGreat" (He.ga K "TooGreat") := by
  obtain ⟨y1, y2, y3, y4⟩ := He.exc_ok (c.fact 107 (f := .exc "TooGreat") rfl)
  exact ⟨He.glo_ok X G (c.fact 86 (f := .glo "TooGreat") rfl), y1, y2, y3, y4⟩
 have m_NoKind := He.glo_ok X G (c.fact 83 (f := .glo "NoKind") rfl)
 have h_NoKind := He.meth_ok (c.fact 108 (f := .meth "NoKind" "__init__") rfl)
 have n_NoKind := He.noat_ok (c.fact 92 (f := .noat "NoKind" "kind") rfl)
 have m_Endless := He.glo_ok X G (c.fact 89 (f := .glo "Endless") rfl)
 have h_Endless := He.meth_ok (c.fact 109 (f := .meth "Endless" "__init__") rfl)
 have n_Endless := He.noat_ok (c.fact 110 (f := .noat "Endless" "kind") rfl)
 have m_Book := He.glo_ok X G (c.fact 111 (f := .glo "Book") rfl)
 have c_Book := He.cls_ok (c.fact 112 (f := .cls "Book") rfl)
 have T_Book : ClsF K (He.ga K "Book") ["spread_by_name", "rows_by_name"] := ⟨c_Book, fun f hf => by
   rcases List.mem_cons.mp hf with e | hf
   ·rw [e]; exact He.noat_ok (c.fact 113 (f := .noat "Book" "spread_by_name") rfl)
   rcases List.mem_cons.mp hf with e | hf
   ·rw [e]; exact He.noat_ok (c.fact 114 (f := .noat "Book" "rows_by_name") rfl)
   exact nomatch hf⟩
 have h_Book___init__ := He.mkr_ok (c.fact 115 (f := .mkr "Book") rfl)
 have h_Book_names := He.meth_ok (c.fact 116 (f := .meth "Book" "names") rfl)
 have h_Book_spreads := He.meth_ok (c.fact 117 (f := .meth "Book" "spreads") rfl)
 have h_Book_rules := He.meth_ok (c.fact 118 (f := .meth "Book" "rules") rfl)
 have m_Play := He.glo_ok X G (c.fact 119 (f := .glo "Play") rfl)
 have c_Play := He.cls_ok (c.fact 120 (f := .cls "Play") rfl)
 have T_Play : ClsF K (He.ga K "Play") ["book", "stood", "done", "undone"] := ⟨c_Play, fun f hf => by
   rcases List.mem_cons.mp hf with e | hf
   ·rw [e]; exact He.noat_ok (c.fact 121 (f := .noat "Play" "book") rfl)
   rcases List.mem_cons.mp hf with e | hf
   ·rw [e]; exact He.noat_ok (c.fact 122 (f := .noat "Play" "stood") rfl)
   rcases List.mem_cons.mp hf with e | hf
   ·rw [e]; exact He.noat_ok (c.fact 123 (f := .noat "Play" "done") rfl)
   rcases List.mem_cons.mp hf with e | hf
   ·rw [e]; exact He.noat_ok (c.fact 124 (f := .noat "Play" "undone") rfl)
   exact nomatch hf⟩
 have h_Play___init__ := He.mkr_ok (c.fact 125 (f := .mkr "Play") rfl)
 have h_Play_grove := He.meth_ok (c.fact 126 (f := .meth "Play" "grove") rfl)
 have h_Play_falls := He.meth_ok (c.fact 127 (f := .meth "Play" "falls") rfl)
 have h_Play_fall := He.meth_ok (c.fact 128 (f := .meth "Play" "fall") rfl)
 have h_Play_back := He.meth_ok (c.fact 129 (f := .meth "Play" "back") rfl)
 have h_Play_again := He.meth_ok (c.fact 130 (f := .meth "Play" "again") rfl)
 have e := hfa.symm.trans m_law
 cases e
 have b := FunD.bindsA (ps := ["_law_script"]) D_law fun _ _ _ _ _ _ us hl => match us, hl with | [_], _ => rfl
 refine ⟨fd_law, fun s v => b s [v] rfl, fun base _ _ => ?_⟩
 have g_is_whole : Got P w K mg base "is_whole" ["thing"] 1 (spWhole K) := ⟨_, _, ok_is_whole B F_is_whole, F_is_whole.kp, b_is_whole, m_is_whole⟩
 have g_is_many : Got P w K mg base "is_many" ["thing"] 2 (spMany K []) := ⟨_, _, ok_is_many B g_is_whole F_is_many, F_is_many.kp, b_is_many, m_is_many⟩
 have g_is_rising : Got P w K mg base "is_rising" ["things"] 1 (spRising K) := ⟨_, _, ok_is_rising B F_is_rising, F_is_rising.kp, b_is_rising, m_is_rising⟩
 have g_run_of : Got P w K mg base "run_of" ["text", "at", "signs"] 1 (spRunOf K) := ⟨_, _, ok_run_of B F_run_of, F_run_of.kp, b_run_of, m_run_of⟩
 have g_is_name : Got P w K mg base "is_name" ["thing"] 2 (spName K) := ⟨_, _, ok_is_name B L_LETTERS L_LONGEST_NAME g_run_of F_is_name, F_is_name.kp, b_is_name, m_is_name⟩
 have r_grove : ∀ n, Got P w K mg base "is_tree" ["thing"] (n + 3) (spIsTree K n) /\ Got P w K mg base "is_grove" ["thing"] (n + 3) (spIsGrove K n) /\ Got P w K mg base "are_grove_pairs" ["things"] (n + 3) (spPairsQ K true n) := by
  intro n
  induction n with
  | zero => exact ⟨⟨_, _, none_is_tree, F_is_tree.kp, b_is_tree, m_is_tree⟩, ⟨_, _, none_is_grove, F_is_grove.kp, b_is_grove, m_is_grove⟩, ⟨_, _, none_are_grove_pairs, F_are_grove_pairs.kp, b_are_grove_pairs, m_are_grove_pairs⟩⟩
  | succ n ih => exact ⟨⟨_, _, ok_is_tree B g_is_name ih.2.1 F_is_tree, F_is_tree.kp, b_is_tree, m_is_tree⟩, ⟨_, _, ok_is_grove B g_is_rising ih.2.2 F_is_grove, F_is_grove.kp, b_is_grove, m_is_grove⟩, ⟨_, _, ok_are_grove_pairs B g_is_many ih.1 F_are_grove_pairs, F_are_grove_pairs.kp, b_are_grove_pairs, m_are_grove_pairs⟩⟩
 have g_is_tree : Got P w K mg base "is_tree" ["thing"] 84 (spIsTree K 81) := (r_grove 81).1
 have g_is_grove : Got P w K mg base "is_grove" ["thing"] 84 (spIsGrove K 81) := (r_grove 81).2.1
 have gL_are_grove_pairs : Got P w K mg base "are_grove_pairs" ["things"] 63 (spPairsQ K false 60) := ⟨_, _, ok_are_grove_pairsL B g_is_many (r_grove 59).1 F_are_grove_pairs, F_are_grove_pairs.kp, b_are_grove_pairs, m_are_grove_pairs⟩
 have r_pairs_within : ∀ n, Got P w K mg base "pairs_within" ["grove"] (n) (spPairsW K n) := by
  intro n
  induction n with
  | zero => exact ⟨_, _, none_pairs_within, F_pairs_within.kp, b_pairs_within, m_pairs_within⟩
  | succ n ih => exact ⟨_, _, ok_pairs_within ih F_pairs_within, F_pairs_within.kp, b_pairs_within, m_pairs_within⟩
 have g_pairs_within := r_pairs_within 70
 have g_parts_of : Got P w K mg base "parts_of" ["grove"] 71 (spPartsOf K 70) := ⟨_, _, ok_parts_of B g_pairs_within F_parts_of, F_parts_of.kp, b_parts_of, m_parts_of⟩
 have r_deep_of : ∀ n, Got P w K mg base "deep_of" ["grove"] (n) (spDeepOf K n) := by
  intro n
  induction n with
  | zero => exact ⟨_, _, none_deep_of, F_deep_of.kp, b_deep_of, m_deep_of⟩
  | succ n ih => exact ⟨_, _, ok_deep_of B ih F_deep_of, F_deep_of.kp, b_deep_of, m_deep_of⟩
 have g_deep_of := r_deep_of 70
 have g_tree_at : GotXN P w K mg base "tree_at" ["grove", "place"] 2 (spTreeAt K (He.ga K "NoPlace")) := ⟨_, _, ok_tree_at B O_NoPlace g_is_whole F_tree_at, F_tree_at.kp, b_tree_at, m_tree_at⟩
 have g_joined : Got P w K mg base "joined" ["pairs"] (1) (spJoinedW K Gr.tEnc) := ⟨_, _, ok_joined B F_joined, F_joined.kp, b_joined, m_joined⟩
 have g_together : Got P w K mg base "together" ["one", "other"] (2) (spTogetherF K) := ⟨_, _, ok_together B g_joined F_together, F_together.kp, b_together, m_together⟩
 have g_without : Got P w K mg base "without" ["grove", "tree", "many"] (1) (spWithout K) := ⟨_, _, ok_without B F_without, F_without.kp, b_without, m_without⟩
 have g_times : Got P w K mg base "times" ["grove", "many"] (1) (spTimes K) := ⟨_, _, ok_times B F_times, F_times.kp, b_times, m_times⟩
 have g_kinds_within : Got P w K mg base "kinds_within" ["grove"] (71) (spKindsF K) := ⟨_, _, ok_kinds_within B g_pairs_within F_kinds_within, F_kinds_within.kp, b_kinds_within, m_kinds_within⟩
 have O_NoKind : OwnI P w K mg base "NoKind" (He.ga K "NoKind") 1 := ⟨m_NoKind, oexCB_ok xk_NoKind, n_NoKind, ⟨_, _, h_NoKind.at_, beq_iff_eq.mp h_NoKind.fn, ok_NoKind___init__ F_NoKind___init__, b_NoKind___init__⟩⟩
 have g_Book_names : GotM P w K mg base (He.ga K "Book") "names" ["self"] (1) (spBNames K (He.ga K "Book")) := ⟨_, _, ok_Book_names B T_Book F_Book_names, h_Book_names, b_Book_names, c_Book⟩
 have g_check_kind : GotXN P w K mg base "check_kind" ["book", "name"] (3) (spCheckK K (He.ga K "Book") (He.ga K "NoKind")) := ⟨_, _, ok_check_kind B O_NoKind g_Book_names F_check_kind, F_check_kind.kp, b_check_kind, m_check_kind⟩
 have g_Book_rules : GotMXN P w K mg base (He.ga K "Book") "rules" ["self", "name"] (4) (spBRules K (He.ga K "Book") (He.ga K "NoKind")) := ⟨_, _, ok_Book_rules B T_Book g_check_kind F_Book_rules, h_Book_rules, b_Book_rules, c_Book⟩
 have g_rules_from_nought : GotXN P w K mg base "rules_from_nought" ["book", "name"] (5) (spRulesN K (He.ga K "Book") (He.ga K "NoKind")) := ⟨_, _, ok_rules_from_nought B V_NO_GROVES W_NO_GROVES g_Book_rules F_rules_from_nought, F_rules_from_nought.kp, b_rules_from_nought, m_rules_from_nought⟩
 have g_check_kinds : GotXN P w K mg base "check_kinds" ["book", "grove"] (72) (spCheckKsF K (He.ga K "Book")) := ⟨_, _, ok_check_kinds B g_kinds_within g_check_kind F_check_kinds, F_check_kinds.kp, b_check_kinds, m_check_kinds⟩
 have g_is_rule : Got P w K mg base "is_rule" ["thing"] (85) (spIsRule K) := ⟨_, _, ok_is_rule B L_MOST_RULE_PARTS L_MOST_MANY g_is_grove g_pairs_within F_is_rule, F_is_rule.kp, b_is_rule, m_is_rule⟩
 have g_is_kind : Got P w K mg base "is_kind" ["thing"] (86) (spIsKind K) := ⟨_, _, ok_is_kind B L_MOST_RULES g_is_name g_is_rule F_is_kind, F_is_kind.kp, b_is_kind, m_is_kind⟩
 have g_is_rule_of : Got P w K mg base "is_rule_of" ["rule", "names"] (71) (spIsRuleOf K) := ⟨_, _, ok_is_rule_of B g_pairs_within F_is_rule_of, F_is_rule_of.kp, b_is_rule_of, m_is_rule_of⟩
 have g_are_kinds : Got P w K mg base "are_kinds" ["things"] (87) (spAreKinds K) := ⟨_, _, ok_are_kinds B L_MOST_KINDS g_is_kind g_is_rule_of F_are_kinds, F_are_kinds.kp, b_are_kinds, m_are_kinds⟩
 have g_number_of : Got P w K mg base "number_of" ["grove", "tree"] (1) (spNumOf K) := ⟨_, _, ok_number_of B F_number_of, F_number_of.kp, b_number_of, m_number_of⟩
 have g_rule_at : GotXN P w K mg base "rule_at" ["book", "kind", "rule"] (6) (spRuleAt K (He.ga K "Book") (He.ga K "NoRule")) := ⟨_, _, ok_rule_at B O_NoRule g_rules_from_nought g_is_whole F_rule_at, F_rule_at.kp, b_rule_at, m_rule_at⟩
 have g_check_number : GotXN P w K mg base "check_number" ["thing"] (2) (spChkNum K (He.ga K "NoNumber")) := ⟨_, _, ok_check_number B O_NoNumber g_is_whole F_check_number, F_check_number.kp, b_check_number, m_check_number⟩
 have g_Book_spreads : GotMXN P w K mg base (He.ga K "Book") "spreads" ["self", "name"] (4) (spBSpreads K (He.ga K "Book") (He.ga K "NoKind")) := ⟨_, _, ok_Book_spreads B T_Book g_check_kind F_Book_spreads, h_Book_spreads, b_Book_spreads, c_Book⟩
 have g_further_ones : Got P w K mg base "further_ones" ["book", "kind", "number"] (5) (spFar K (He.ga K "Book")) := ⟨_, _, ok_further_ones B g_Book_spreads F_further_ones, F_further_ones.kp, b_further_ones, m_further_ones⟩
 have r_struck : ∀ n, Got P w K mg base "struck" ["book", "grove", "place", "fresh", "number"] (n + 6) (spStruck K (He.ga K "Book") n) := by
  intro n
  induction n with
  | zero => exact ⟨_, _, none_struck, F_struck.kp, b_struck, m_struck⟩
  | succ n ih => exact ⟨_, _, ok_struck B g_without g_together ih g_further_ones g_number_of F_struck, F_struck.kp, b_struck, m_struck⟩
 have g_struck : Got P w K mg base "struck" ["book", "grove", "place", "fresh", "number"] (64 + 6) (spStruck K (He.ga K "Book") 64) := r_struck 64
 have g_grown : Got P w K mg base "grown" ["rule", "number"] (3) (spGrown K) := ⟨_, _, ok_grown B g_together g_times F_grown, F_grown.kp, b_grown, m_grown⟩
 have g_check_bound : GotXN P w K mg base "check_bound" ["grove"] (72) (spChkBound K (He.ga K "TooGreat")) := ⟨_, _, ok_check_bound B O_TooGreat L_MOST_PARTS_STANDING L_MOST_DEEP_STANDING g_parts_of g_deep_of F_check_bound, F_check_bound.kp, b_check_bound, m_check_bound⟩
 have g_fallen : GotXN P w K mg base "fallen" ["book", "grove", "place", "rule", "number"] (74) (spFallen K (He.ga K "Book") (He.ga K "NoPlace") (He.ga K "NoRule") (He.ga K "NoNumber") (He.ga K "TooGreat")) := ⟨_, _, ok_fallen B O_NoPlace g_check_kinds g_tree_at g_rule_at g_check_number g_struck g_grown g_check_bound F_fallen, F_fallen.kp, b_fallen, m_fallen⟩
 have g__law_purse : Got P w K mg base "_law_purse" ["_law_script", "_law_k"] (1) (spPurseW K) := ⟨_, _, ok__law_purse B F__law_purse, F__law_purse.kp, b__law_purse, m__law_purse⟩
 have g__law_take : Got P w K mg base "_law_take" ["_law_purse_here", "_law_many_here"] (1) (spTakeW) := ⟨_, _, ok__law_take B F__law_take, F__law_take.kp, b__law_take, m__law_take⟩
 have g__law_names : Got P w K mg base "_law_names" ["_law_purse_here", "_law_many_here"] (2) (spWords K) := ⟨_, _, ok__law_names B g__law_take F__law_names, F__law_names.kp, b__law_names, m__law_names⟩
 have g__law_many : Got P w K mg base "_law_many" ["_law_purse_here", "_law_most"] (2) (spManyP) := ⟨_, _, ok__law_many B g__law_take F__law_many, F__law_many.kp, b__law_many, m__law_many⟩
 have r__law_wood : ∀ n, Got P w K mg base "_law_wood" ["_law_purse_here", "_law_pool", "_law_room", "_law_low_here", "_law_most"] (n + 2) (spWood K n) := by
  intro n
  induction n with
  | zero => exact ⟨_, _, none__law_wood, F__law_wood.kp, b__law_wood, m__law_wood⟩
  | succ n ih => exact ⟨_, _, ok__law_wood B g__law_take ih g__law_many F__law_wood, F__law_wood.kp, b__law_wood, m__law_wood⟩
 have g__law_wood : Got P w K mg base "_law_wood" ["_law_purse_here", "_law_pool", "_law_room", "_law_low_here", "_law_most"] (13 + 2) (spWood K 13) := r__law_wood 13
 have g__law_kinds : Got P w K mg base "_law_kinds" ["_law_script", "_law_names_here"] (16) (spKindsP K) := ⟨_, _, ok__law_kinds B g__law_purse g__law_take g__law_wood F__law_kinds, F__law_kinds.kp, b__law_kinds, m__law_kinds⟩
 have g__law_kind : Got P w K mg base "_law_kind" ["_law_kinds_here", "_law_name"] (1) (spKindP K) := ⟨_, _, ok__law_kind B F__law_kind, F__law_kind.kp, b__law_kind, m__law_kind⟩
 have g_Book___init__ : GotIN P w K mg base "Book" (He.ga K "Book") ["self", "kinds"] (88) (spBInit K (He.ga K "Book") (He.ga K "NoBook")) := ⟨_, _, ok_Book___init__ B O_NoBook T_Book g_are_kinds F_Book___init__, h_Book___init__, b_Book___init__, m_Book⟩
 have g__law_book : Got P w K mg base "_law_book" ["_law_kinds_here"] (90) (spMkBook K (He.ga K "Book")) := ⟨_, _, ok__law_book B g_Book___init__ F__law_book, F__law_book.kp, b__law_book, m__law_book⟩
 have g__law_grove : Got P w K mg base "_law_grove" ["_law_script", "_law_names_here"] (16) (spGroveP K) := ⟨_, _, ok__law_grove B g__law_purse g__law_take g__law_wood F__law_grove, F__law_grove.kp, b__law_grove, m__law_grove⟩
 have r__law_bare : ∀ n, Got P w K mg base "_law_bare" ["_law_grove_here", "_law_ahead"] (n) (spBareF K n) := by
  intro n
  induction n with
  | zero => exact ⟨_, _, none__law_bare, F__law_bare.kp, b__law_bare, m__law_bare⟩
  | succ n ih => exact ⟨_, _, ok__law_bare B ih F__law_bare, F__law_bare.kp, b__law_bare, m__law_bare⟩
 have g__law_bare : Got P w K mg base "_law_bare" ["_law_grove_here", "_law_ahead"] (70) (spBareF K 70) := r__law_bare 70
 have r__law_plain : ∀ n, Got P w K mg base "_law_plain" ["_law_thing"] (n) (spPlR K n) := by
  intro n
  induction n with
  | zero => exact ⟨_, _, none__law_plain, F__law_plain.kp, b__law_plain, m__law_plain⟩
  | succ n ih => exact ⟨_, _, ok__law_plain B ih F__law_plain, F__law_plain.kp, b__law_plain, m__law_plain⟩
 have g__law_plain : Got P w K mg base "_law_plain" ["_law_thing"] (200) (spPlR K 200) := r__law_plain 200
 have g__law_drawn : Got P w K mg base "_law_drawn" ["_law_purse_here", "_law_kinds_here", "_law_grove_here"] (71) (spDrawn K) := ⟨_, _, ok__law_drawn B g__law_bare g__law_take g__law_kind F__law_drawn, F__law_drawn.kp, b__law_drawn, m__law_drawn⟩
 have g__law_laid : Got P w K mg base "_law_laid" ["_law_kinds_here", "_law_name", "_law_rule"] (2) (spLaid K) := ⟨_, _, ok__law_laid B g__law_kind F__law_laid, F__law_laid.kp, b__law_laid, m__law_laid⟩
 have g__law_put : Got P w K mg base "_law_put" ["_law_grove_here", "_law_tree", "_law_many_here"] (1) (spPut33 K) := ⟨_, _, ok__law_put B F__law_put, F__law_put.kp, b__law_put, m__law_put⟩
 have r__law_fell : ∀ n, Got P w K mg base "_law_fell" ["_law_kinds_here", "_law_grove_here", "_law_place", "_law_laid_here", "_law_said"] (n + 2) (spFell K n) := by
  intro n
  induction n with
  | zero => exact ⟨_, _, none__law_fell, F__law_fell.kp, b__law_fell, m__law_fell⟩
  | succ n ih => exact ⟨_, _, ok__law_fell B g__law_put ih g__law_kind F__law_fell, F__law_fell.kp, b__law_fell, m__law_fell⟩
 have g__law_fell : Got P w K mg base "_law_fell" ["_law_kinds_here", "_law_grove_here", "_law_place", "_law_laid_here", "_law_said"] (64 + 2) (spFell K 64) := r__law_fell 64
 have r__law_parts : ∀ n, Got P w K mg base "_law_parts" ["_law_grove_here"] (n) (spParts33 K n) := by
  intro n
  induction n with
  | zero => exact ⟨_, _, none__law_parts, F__law_parts.kp, b__law_parts, m__law_parts⟩
  | succ n ih => exact ⟨_, _, ok__law_parts B ih F__law_parts, F__law_parts.kp, b__law_parts, m__law_parts⟩
 have g__law_parts : Got P w K mg base "_law_parts" ["_law_grove_here"] (70) (spParts33 K 70) := r__law_parts 70
 have r__law_low : ∀ n, Got P w K mg base "_law_low" ["_law_grove_here"] (n) (spLow33 K n) := by
  intro n
  induction n with
  | zero => exact ⟨_, _, none__law_low, F__law_low.kp, b__law_low, m__law_low⟩
  | succ n ih => exact ⟨_, _, ok__law_low B ih F__law_low, F__law_low.kp, b__law_low, m__law_low⟩
 have g__law_low : Got P w K mg base "_law_low" ["_law_grove_here"] (70) (spLow33 K 70) := r__law_low 70
 have g__law_great : Got P w K mg base "_law_great" ["_law_grove_here"] (71) (spGreat K) := ⟨_, _, ok__law_great B g__law_parts g__law_low F__law_great, F__law_great.kp, b__law_great, m__law_great⟩
 have g__law_which : GotPN P w K mg base "_law_which" ["_law_e"] (1) (spWhich K (He.ga K) eC) := ⟨_, _, ok__law_which B T F__law_which, F__law_which.kp, b__law_which, m__law_which⟩
 have g_Play_grove : GotM P w K mg base (He.ga K "Play") "grove" ["self"] (1) (spPyGrove K (He.ga K "Play")) := ⟨_, _, ok_Play_grove B T_Play F_Play_grove, h_Play_grove, b_Play_grove, c_Play⟩
 have g_Play_fall : GotMXN P w K mg base (He.ga K "Play") "fall" ["self", "place", "rule", "number"] (76) (spPyFall K (He.ga K "Play") (He.ga K "Book") (He.ga K "NoPlace") (He.ga K "NoRule") (He.ga K "NoNumber") (He.ga K "TooGreat")) := ⟨_, _, ok_Play_fall B T_Play g_fallen g_Play_grove F_Play_fall, h_Play_fall, b_Play_fall, c_Play⟩
 have g_Play_back : GotMXN P w K mg base (He.ga K "Play") "back" ["self"] (3) (spPyBack K (He.ga K "Play") (He.ga K "NoFall")) := ⟨_, _, ok_Play_back B O_NoFall T_Play g_Play_grove F_Play_back, h_Play_back, b_Play_back, c_Play⟩
 have g_Play_again : GotMXN P w K mg base (He.ga K "Play") "again" ["self"] (3) (spPyAgain K (He.ga K "Play") (He.ga K "NoFall")) := ⟨_, _, ok_Play_again B O_NoFall T_Play F_Play_again, h_Play_again, b_Play_again, c_Play⟩
 have g__law_done : Got P w K mg base "_law_done" ["_law_play", "_law_deed"] (80) (spDone37 K (He.ga K) eC (He.ga K "Play") (He.ga K "Book")) := ⟨_, _, ok__law_done B T g_Play_fall g_Play_back g_Play_again g__law_which F__law_done, F__law_done.kp, b__law_done, m__law_done⟩
 have g_Play_falls : GotM P w K mg base (He.ga K "Play") "falls" ["self"] (1) (spPyFalls K (He.ga K "Play")) := ⟨_, _, ok_Play_falls B T_Play F_Play_falls, h_Play_falls, b_Play_falls, c_Play⟩
 have g__law_kept : Got P w K mg base "_law_kept" ["_law_play", "_law_row"] (202) (spKept37 K (He.ga K "Play") (He.ga K "Book")) := ⟨_, _, ok__law_kept B g__law_plain g_Play_grove g_Play_falls F__law_kept, F__law_kept.kp, b__law_kept, m__law_kept⟩
 have g__law_turned : Got P w K mg base "_law_turned" ["_law_play", "_law_row", "_law_way"] (82) (spTurned37 K (He.ga K "Play") (He.ga K "Book")) := ⟨_, _, ok__law_turned B g__law_done F__law_turned, F__law_turned.kp, b__law_turned, m__law_turned⟩
 have g__law_refused : Got P w K mg base "_law_refused" ["_law_play", "_law_row", "_law_purse_here", "_law_kinds_here"] (82) (spRefu37 K (He.ga K "Play") (He.ga K "Book")) := ⟨_, _, ok__law_refused B g__law_take g__law_drawn g__law_done F__law_refused, F__law_refused.kp, b__law_refused, m__law_refused⟩
 have g__law_new : Got P w K mg base "_law_new" ["_law_play", "_law_row", "_law_purse_here", "_law_kinds_here", "_law_book_here"] (82) (spNew37 K (He.ga K "Play") (He.ga K "Book")) := ⟨_, _, ok__law_new B g__law_drawn g__law_fell g__law_laid g__law_great g_fallen g__law_done F__law_new, F__law_new.kp, b__law_new, m__law_new⟩
 have g_Play___init__ : GotIN P w K mg base "Play" (He.ga K "Play") ["self", "book", "grove"] (75) (spPyInit K (He.ga K "Play") (He.ga K "Book")) := ⟨_, _, ok_Play___init__ B T_Play g_check_kinds F_Play___init__, h_Play___init__, b_Play___init__, m_Play⟩
 exact ok_law B g__law_names g__law_take g__law_purse g__law_kinds g__law_grove g__law_wood g__law_book g_Play___init__ g__law_new g__law_refused g__law_turned g__law_kept F_law
end FT
open PySem PySem.W PySem.Calls PyProof.Rows
set_option maxRecDepth 100000 in
set_option maxHeartbeats 0 in
theorem PySem.Challenge.cw_felltimber_k37_plays_holds : PySem.Challenge.rw_felltimber_k37_plays.Holds := by
 w_on; o_law
 refine HandSHeadRun.head_any (r := OpenLaw.row PySem.Challenge.rw_felltimber_k37_plays) (q := view (OpenLaw.row PySem.Challenge.rw_felltimber_k37_plays).prog [88]) (H := FT.hk) (ob := FT.ob) (M := 6000) (loose := FT.loose) (d := HandSHeadRun.topDef (OpenLaw.row PySem.Challenge.rw_felltimber_k37_plays).prog 88) (kwd := []) FT.ob_eq
  (by kernel_rfl) (fun s => by kernel_rfl) FT.run (by kernel_rfl) (by kernel_rfl) (by kernel_rfl) (by rfl) (by first | assumption | decide +kernel) (by decide +kernel) ⟨rfl, rfl, rfl, rfl, rfl, by decide +kernel⟩ ?hw ?hc
 case hw => w_witness2
 case hc =>
  refine L2.walk_ofE (l := PySem.Challenge.rw_felltimber_k37_plays) (n := 63) (k := 215) (x := "_law_script") (CX := L2.CX0) rfl (by decide) (by kernel_rfl) ⟨rfl, by decide, by decide⟩ ?F (fun _ _ _ _ z => z)
  intro w mg fa h Y G hmg0
  obtain ⟨K, KX, c, cx⟩ := Y
  have hmg : mg ("law" : PySem.Str) = some (.ref fa) := by
   have e : (HandSHeadRun.topDef (OpenLaw.row PySem.Challenge.rw_felltimber_k37_plays).prog 88).name = ("law" : PySem.Str) := by kernel_rfl
   rw [<- e]
   exact hmg0
  obtain ⟨fd, hb, hF⟩ := FT.facts (P := (PySem.Challenge.rw_felltimber_k37_plays).prog) (w := w) KX G hmg c cx
  exact ⟨K, fd, FT.spLaw K, KX, hb, fun H a ns hl _ hS => ⟨a, ns, rfl, hS, hl, fun _ => rfl⟩, hF⟩
