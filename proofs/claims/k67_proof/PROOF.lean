import PyProof.Rows.All
import Wide.All
import OpenK.AllK
import Wide.FinOn
import KE.KStateDown
import KE.SortData
import HandS.ForMost
import HandS.More
import HandS.Walk
import HandS.Zip
import HandS.Style
import HandS.TupAny
import HandS.IsInst
import HandS.Wide
import HandS.Flow
import HandS.WordsExc
import HandS.Defaults
import HandS.Head0
import HandS.Head1
import HandS.Head2
import HandS.HeadEnd
import HandS.HeadHook1
import HandS.HeadHook2
import HandS.HeadNt
import KE.DataCmp
import HandS.SortKw
import PyProof.TupleOfSeq
import HandS.NoneIn
import HandS.ExcIs
import HandS.RevRange
import KE.GoesEnum
import KE.DataAny
import HandS.Conv
import HandS.SortInts
import HandS.FStr
import HandS.Strs
import HandS.TupSets
import HandS.DictComp
import HandS.ExcInit
import HandS.SetKeys
import HandS.SetTxt0
import HandS.SetBool
import HandS.SetFor
import KE.GoesEnumKw
import PyProof.Rows.CallKwBuiltin
import KE.DatumOrd
import HandS.ExcField
import HandS.HotCalls
import HandS.Replace
import HandS.TupLe
import KE.DataMinMax
import PyProof.StrBlock2
import HandS.WordsDict
import HandS.TupMul
import HandS.TryOnly
import PyProof.MaxThree
import PyProof.NeKinds
import HandS.Deep
import HandS.Dict
import KE.GoesMore
import PyProof.EqKinds
import HandS.Hot
import HandS.ExcCtx
import KE.KDictSum
import HandS.ExcValue
import PySem.Challenge.RW_felltimber_k67_counts_refused
set_option Elab.async false
set_option linter.all false
set_option maxRecDepth 100000
set_option maxHeartbeats 16000000
namespace FT
open PySem PySem.W PySem.Spec PyProof.Rows L2
theorem hunT {A : Around} {e : Env} {k : Nat} (hr : Room k (A.deeper e)) : A.units + 3 + 200 < cLine := by
 have := hr.un
 have h3 : (A.deeper e).units = A.units + 3 := rfl
 omega
theorem nmn {α : Type} {a : α} : ¬ a ∈ ([] : List α) := List.not_mem_nil
theorem mcs {α : Type} {a : α} {l : List α} : a ∈ a :: l := List.mem_cons_self
theorem mcm {α : Type} (y : α) {a : α} {l : List α} (h : a ∈ l) : a ∈ y :: l := List.mem_cons_of_mem y h
theorem mal {α : Type} {a : α} {l : List α} (k : List α) (h : a ∈ l) : a ∈ l ++ k := List.mem_append_left k h
theorem mar {α : Type} {a : α} {l : List α} (k : List α) (h : a ∈ l) : a ∈ k ++ l := List.mem_append_right k h
theorem small1000 {n : Nat} (h : n <= 10000000) : n < sizeLine := Nat.lt_of_le_of_lt h (by decide)
structure SB (ps : List Addr) (H H' : Hp) : Prop where
 keep : ∀ b o, H b = some o -> b ∉ ps -> H' b = some o
 tups : ∀ b xs, H b = some (.tup xs) -> H' b = some (.tup xs)
 frzs : ∀ b o u, H b = some (.frz o u) -> H' b = some (.frz o u)
 dom : ∀ b, H' b = none -> H b = none
section
variable {K : PySem.W.Frag} {ps qs : List Addr} {H H' H1 H2 : Hp} {a p : Addr} {xs : List V}
theorem SB.refl : SB ps H H := ⟨fun _ _ h _ => h, fun _ _ h => h, fun _ _ _ h => h, fun _ h => h⟩
theorem SB.trans (a : SB ps H H1) (b : SB ps H1 H2) : SB ps H H2 :=
 ⟨fun c o h n => b.keep c o (a.keep c o h n) n, fun c x h => b.tups c x (a.tups c x h), fun c o u h => b.frzs c o u (a.frzs c o u h), fun c h => a.dom c (b.dom c h)⟩
theorem SB.mono (h : SB ps H H') (hs : ∀ b ∈ ps, b ∈ qs) : SB qs H H' := ⟨fun c o e n => h.keep c o e fun z => n (hs c z), h.tups, h.frzs, h.dom⟩
theorem SB.nil (h : SB [] H H') : SB ps H H' := h.mono fun _ z => absurd z (nmn)
theorem SB.new (h : H p = none) (o : HO) : SB ps H (upd H p o) := by
 refine ⟨fun b u e _ => ?_, fun b u e => ?_, fun b v u e => ?_, fun b e => ?_⟩
 ·rw [upd_ne (ne_of_none e h)]; exact e
 ·rw [upd_ne (ne_of_none e h)]; exact e
 ·rw [upd_ne (ne_of_none e h)]; exact e
 ·by_cases q : b = p
  ·subst q; exact h
  ·rw [upd_ne q] at e; exact e
theorem SB.set (h : H p = some (.lst xs)) (hp : p ∈ ps) (o : HO) : SB ps H (upd H p o) := by
 refine ⟨fun b u e n => ?_, fun b u e => ?_, fun b v u e => ?_, fun b e => ?_⟩
 ·rw [upd_ne (fun (z : b = p) => n (by rw [z]; exact hp))]; exact e
 ·rw [upd_ne (fun (z : b = p) => by subst z; rw [h] at e; cases e)]; exact e
 ·rw [upd_ne (fun (z : b = p) => by subst z; rw [h] at e; cases e)]; exact e
 ·by_cases q : b = p
  ·subst q; rw [upd_same] at e; cases e
  ·rw [upd_ne q] at e; exact e
theorem SB.drop (h : SB (p :: ps) H H') (n : H p = none) : SB ps H H' := by
 refine ⟨fun b o e m => h.keep b o e fun z => ?_, h.tups, h.frzs, h.dom⟩
 rcases List.mem_cons.mp z with z | z
 ·subst z; rw [n] at e; cases e
 ·exact m z
theorem SB.sqT (e : SB ps H H') (h : SqT K H a xs) : SqT K H' a xs := by
 rcases h with (h | ⟨o, h⟩) | h
 ·exact .inl (.inl (e.tups _ _ h))
 ·exact .inl (.inr ⟨o, e.frzs _ _ _ h⟩)
 ·exact .inr h
theorem SB.sqL (e : SB ps H H') (n : a ∉ ps) (h : SqL K H a xs) : SqL K H' a xs := by
 rcases h with (h | ⟨o, h⟩) | h
 ·exact .inl (.inl (e.keep _ _ h n))
 ·exact .inl (.inr ⟨o, e.frzs _ _ _ h⟩)
 ·exact .inr h
end
inductive Lad where
 | nil
 | cons (e : Lad) (m : Int) (r : Lad)
 deriving DecidableEq
def rLtD (K : PySem.W.Frag) : R2 := fun x y H Q => ∃ d e, Dp K H x d /\ Dp K H y e /\ alike d e = true /\ d ≠ .none /\ d.depth <= 100 /\ Q (.bl (dataLt d e)) H
section
variable {X : Cx}
theorem op_ltD (hu : X.A.units + 100 < cLine) : OpR X (compareOp .Lt) (rLtD X.K) := by
 intro pins s σ H x y v u Q I rx ry h
 obtain ⟨d, e, hd, he, al, hn, hdp, q⟩ := h
 obtain ⟨as, r1⟩ := Dp.reads I d x v hd rx
 obtain ⟨bs, r2⟩ := Dp.reads I e y u he ry
 exact rcLt_alike d e X.A s v u as bs r1 r2 al hn (by have := Nat.min_le_left d.depth e.depth; omega) X.prog X.w X.xe _ ⟨.bl _, H, I, rfl, q⟩
end
mutual
def noList : PyData -> Bool
 | .list _ => false
 | .dict _ => false
 | .tuple ds => noLists ds
 | _ => true
def noLists : List PyData -> Bool
 | [] => true
 | d :: ds => noList d && noLists ds
end
section
variable {K : PySem.W.Frag} {ps : List Addr} {H H' : Hp}
mutual
theorem Dp_sb (e : SB ps H H') : ∀ (d : PyData) (v : V), noList d = true -> Dp K H v d -> Dp K H' v d
 | .none, _, _, h => by cases h; exact .non
 | .bool b, _, _, h => by cases h; exact .bl b
 | .int i, _, _, h => by cases h; exact .int i
 | .str x, _, _, h => by cases h; exact .str x
 | .list ds, _, n, _ => by simp [noList] at n
 | .dict ds, _, n, _ => by simp [noList] at n
 | .tuple ds, _, n, h => by
  cases h with
  | tup hs ha => exact .tup (e.sqT hs) (DpAll_sb e ds _ (by simpa [noList] using n) ha)
theorem DpAll_sb (e : SB ps H H') : ∀ (ds : List PyData) (vs : List V), noLists ds = true -> DpAll K H vs ds -> DpAll K H' vs ds
 | [], _, _, h => by cases h; exact .nil
 | d :: ds, _, n, h => by
  cases h with
  | cons h1 h2 =>
   simp [noLists] at n
   exact .cons (Dp_sb e d _ n.1 h1) (DpAll_sb e ds _ n.2 h2)
end
end
section
variable {K : PySem.W.Frag} {ps : List Addr} {H H' : Hp} {v : V} {l : Lad}
theorem DpAll.length : ∀ {vs : List V} {ds : List PyData}, DpAll K H vs ds -> vs.length = ds.length
 | _, _, .nil => rfl
 | _, _, .cons _ t => by rw [List.length_cons, List.length_cons, DpAll.length t]
theorem DpAll.get : ∀ {vs : List V} {ds : List PyData} {i : Nat} {v : V}, DpAll K H vs ds -> vs[i]? = some v -> ∃ d, ds[i]? = some d /\ Dp K H v d
 | _, _, _, _, .nil, e => by simp at e
 | _, _, 0, _, .cons h t, e => by simp at e; subst e; exact ⟨_, rfl, h⟩
 | _, _, i + 1, v, .cons h t, e => by
  obtain ⟨d, h1, h2⟩ := DpAll.get (i := i) (v := v) t (by simpa using e)
  exact ⟨d, by simpa using h1, h2⟩
end
structure BI (mg : Str -> Option Value) : Prop where
 len : mg "len" = none
 isinstance : mg "isinstance" = none
 int : mg "int" = none
 bool : mg "bool" = none
 str : mg "str" = none
 tuple : mg "tuple" = none
 list : mg "list" = none
 all : mg "all" = none
 zip : mg "zip" = none
 sum : mg "sum" = none
 max : mg "max" = none
 range : mg "range" = none
 enumerate : mg "enumerate" = none
 abs : mg "abs" = none
 sorted : mg "sorted" = none
 min : mg "min" = none
 reversed : mg "reversed" = none
 any : mg "any" = none
 set : mg "set" = none
 dict : mg "dict" = none
 repr : mg "repr" = none
structure Got (P : Program) (w : World) (K : PySem.W.Frag) (mg : Str -> Option Value) (base : Heap) (x : Str) (ps : List Str) (k : Nat) (sp : Sp) : Prop where
 ex : ∃ (f : Addr) (fd : FuncData), FnOk P w K mg base CX0 k f fd ps sp /\ PySem.W.keepIn K (.ref f) = true /\ Binds K fd ps [] /\ mg x = some (.ref f)
section
variable {X : Cx} {x : Str} {ps : List Str} {k : Nat} {sp : Sp} {e : Expr} {es : List Expr} {t : TA} {p pos : Pos}
theorem pe_got (G : Got X.prog X.w X.K X.mg X.base x ps k sp) (hr : Room k X.A) (hg : Gl X x) (ha : PA X (e :: es) t) (hdb : (x == ("__debug__" : Str)) = false := by decide) (he : starEach (e :: es) X.env = (false, eval e X.env) :: starEach es X.env := by rfl) (hpl : (backTo pos (starEach es X.env)).any (·.1) = false := by rfl) :
  PE X (.Call (.Name x p) (e :: es) [] pos) (tCall sp [] E0 t) := by
 obtain ⟨f, fd, h1, h2, h3, h4⟩ := G.ex
 exact pe_call h1 hr hg h4 h2 h3 .nil pass0 ha hdb he hpl
end
def rIsiN (K : PySem.W.Frag) : List V -> Hp -> VK -> Prop := fun xs H Q => ∃ (x : V) (T n : String) (b : Bool), xs = [x, .ty T] /\ TyX K H x (.type n) /\ kitB n T = some b /\ Q (.bl b) H
section
variable {X : Cx}
theorem call_isiN : CallR X (.builtin "isinstance") (rIsiN X.K) := by
 intro pins s σ H xs us Q I r h
 obtain ⟨x, T, n, b, rfl, ty, e, q⟩ := h
 exact call_isi pins s σ H _ us Q I r ⟨x, .ty T, .type n, .type T, b, rfl, .ty T, ty, kit_ty e, q⟩
theorem pe_ty {T : Str} {T' : String} {pos : Pos} (hg : Gl X T) (hm : X.mg T = none) (hv : bootBuiltins T = some (.type T')) (hn : T ≠ "__name__" := by decide) (hd : (T == ("__debug__" : Str)) = false := by decide) : PE X (.Name T pos) (tC (.ty T')) := pe_bltn hg hm hv rfl hn hd
theorem pe_isi {e : Expr} {te : TE} {T : Str} {T' : String} {p p2 pos : Pos} (B : BI X.mg) (he : PE X e te) (hm : X.mg T = none) (hv : bootBuiltins T = some (.type T')) (hg : Gl X "isinstance" := by rfl) (hg2 : Gl X T := by rfl) (hn : T ≠ "__name__" := by decide) (hd : (T == ("__debug__" : Str)) = false := by decide)
  (hs : starEach [e, .Name T p2] X.env = (false, eval e X.env) :: starEach [.Name T p2] X.env := by rfl) (hpl : (backTo pos (starEach [.Name T p2] X.env)).any (·.1) = false := by rfl) :
  PE X (.Call (.Name "isinstance" p) [e, .Name T p2] [] pos) (tCB (rIsiN X.K) (tCons te (tCons (tC (.ty T')) tNil))) :=
 pe_callB call_isiN hg B.isinstance boot_isinstance (pa_cons he (pa_cons (pe_ty hg2 hm hv hn hd) pa_nil) hs) (by decide) (by decide) hs hpl
end
mutual
inductive Th (K : PySem.W.Frag) (ps : List Addr) (H : Hp) : V -> PyData -> Prop
 | int (i : Int) : Th K ps H (.int i) (.int i)
 | tup {a : Addr} {xs : List V} {ds : List PyData} : SqT K H a xs -> ThAll K ps H xs ds -> Th K ps H (.ref a) (.tuple ds)
 | oth {v : V} {n : String} : TyX K H v (.type n) -> kitB n "tuple" = some false -> (kitB n "int" = some false \/ n = "bool") -> (∀ a, v = .ref a -> a ∉ ps) -> Th K ps H v .none
inductive ThAll (K : PySem.W.Frag) (ps : List Addr) (H : Hp) : List V -> List PyData -> Prop
 | nil : ThAll K ps H [] []
 | cons {v : V} {vs : List V} {d : PyData} {ds : List PyData} : Th K ps H v d -> ThAll K ps H vs ds -> ThAll K ps H (v :: vs) (d :: ds)
end
def manyD : PyData -> Bool
 | .int i => decide (1 <= i)
 | _ => false
section
variable {K : PySem.W.Frag} {ps : List Addr} {H H' : Hp}
theorem SqT_ty {a : Addr} {xs : List V} (h : SqT K H a xs) : TyX K H (.ref a) (.type "tuple") := by
 rcases h with (h | ⟨o, h⟩) | ⟨o, its, n, h, c, _⟩
 ·exact .base (.tup h)
 ·exact .fTuple h
 ·exact .kTuple h c
theorem Th.whole {v : V} {d : PyData} (h : Th K ps H v d) : ∃ n b1 b2, TyX K H v (.type n) /\ kitB n "int" = some b1 /\ (b1 = true -> kitB n "bool" = some b2) /\ ((b1 && !b2) = true -> ∃ i, v = .int i /\ d = .int i) /\ ((b1 && !b2) = false -> manyD d = false) := by
 cases h with
 | int i => exact ⟨"int", true, false, .base (.int i), by decide +kernel, fun _ => by decide +kernel, fun _ => ⟨i, rfl, rfl⟩, fun z => (nomatch z)⟩
 | tup hs ha => exact ⟨"tuple", false, false, (SqT_ty hs), by decide +kernel, fun z => (nomatch z), fun z => (nomatch z), fun _ => rfl⟩
 | @oth v n ty k1 k2 _ =>
  rcases k2 with k2 | k2
  ·exact ⟨n, false, false, ty, k2, fun z => (nomatch z), fun z => (nomatch z), fun _ => rfl⟩
  ·subst k2
   exact ⟨"bool", true, true, ty, by decide +kernel, fun _ => by decide +kernel, fun z => (nomatch z), fun _ => rfl⟩
theorem TyX_sb {v : V} {n : String} (e : SB ps H H') (hn : ∀ a, v = .ref a -> a ∉ ps) (h : TyX K H v (.type n)) : TyX K H' v (.type n) := by
 cases h with
 | base h =>
  cases h with
  | non => exact .base .non
  | bl x => exact .base (.bl x)
  | int i => exact .base (.int i)
  | str x => exact .base (.str x)
  | flt x => exact .base (.flt x)
  | lst h => exact .base (.lst (e.keep _ _ h (hn _ rfl)))
  | frz h => exact .base (.frz (e.frzs _ _ _ h))
  | tup h => exact .base (.tup (e.tups _ _ h))
  | dK h => exact .base (.dK (e.keep _ _ h (hn _ rfl)))
  | dT h => exact .base (.dT (e.keep _ _ h (hn _ rfl)))
 | byt b => exact .byt b
 | set h => exact .set (e.keep _ _ h (hn _ rfl))
 | kList h c => exact .kList h c
 | kTuple h c => exact .kTuple h c
 | kDict h c => exact .kDict h c
 | fTuple h => exact .fTuple (e.frzs _ _ _ h)
 | fDict h => exact .fDict (e.frzs _ _ _ h)
end
inductive Bears (K : PySem.W.Frag) (H : Hp) {β : Type} (enc : β -> PyData) : List V -> List β -> Prop
 | nil : Bears K H enc [] []
 | cons {v : V} {vs : List V} {b : β} {bs : List β} : Dp K H v (enc b) -> Bears K H enc vs bs -> Bears K H enc (v :: vs) (b :: bs)
section
variable {K : PySem.W.Frag} {H H' : Hp} {β : Type} {enc : β -> PyData} {ps : List Addr}
theorem Bears.length : ∀ {vs : List V} {bs : List β}, Bears K H enc vs bs -> vs.length = bs.length
 | _, _, .nil => rfl
 | _, _, .cons _ t => by rw [List.length_cons, List.length_cons, Bears.length t]
theorem Bears.dp : ∀ {vs : List V} {bs : List β}, Bears K H enc vs bs -> DpAll K H vs (bs.map enc)
 | _, _, .nil => .nil
 | _, _, .cons h t => .cons h (Bears.dp t)
theorem Bears.of : ∀ {vs : List V} {bs : List β}, DpAll K H vs (bs.map enc) -> Bears K H enc vs bs
 | [], [], _ => .nil
 | _ :: _, [], h => by cases h
 | [], _ :: _, h => by cases h
 | v :: vs, b :: bs, h => by
  cases h with
  | cons h1 h2 => exact .cons h1 (Bears.of h2)
theorem Bears.get : ∀ {vs : List V} {bs : List β} {i : Nat} {v : V}, Bears K H enc vs bs -> vs[i]? = some v -> ∃ b, bs[i]? = some b /\ Dp K H v (enc b)
 | _, _, _, _, .nil, e => by simp at e
 | _, _, 0, _, .cons h t, e => by simp at e; subst e; exact ⟨_, rfl, h⟩
 | _, _, i + 1, v, .cons h t, e => by
  obtain ⟨d, h1, h2⟩ := Bears.get (i := i) (v := v) t (by simpa using e)
  exact ⟨d, by simpa using h1, h2⟩
theorem Bears.append : ∀ {xs ys : List V} {bs cs : List β}, Bears K H enc xs bs -> Bears K H enc ys cs -> Bears K H enc (xs ++ ys) (bs ++ cs)
 | _, _, _, _, .nil, h => h
 | _, _, _, _, .cons a b, h => .cons a (Bears.append b h)
theorem Bears.sb (e : SB ps H H') (hn : ∀ b, noList (enc b) = true) : ∀ {xs : List V} {bs : List β}, Bears K H enc xs bs -> Bears K H' enc xs bs
 | _, _, .nil => .nil
 | _, _, .cons a b => .cons (Dp_sb e _ _ (hn _) a) (Bears.sb e hn b)
end
section
variable {X : Cx} {pins : List (Addr × Obj)} {σ : L2.St} {H : Hp} {s : Shared} {β : Type} {enc : β -> PyData}
theorem each_of (I : Inv X pins σ H s) : ∀ {vs : List V} {us : List Value} {bs : List β}, Bears X.K H enc vs bs -> Vals vs us ->
  EachIs (fun u b => ∃ v, RelV v u /\ Dp X.K H v (enc b)) us bs /\ EachIs (fun u b => ∃ as, Reads s.heap u (enc b) as) us bs
 | _, _, _, .nil, .nil => ⟨.nil, .nil⟩
 | _, _, _, .cons h t, .cons r u => by
  obtain ⟨h1, h2⟩ := each_of I t u
  exact ⟨.cons ⟨_, r, h⟩ h1, .cons (Dp.reads I _ _ _ h r) h2⟩
theorem of_each {K : PySem.W.Frag} : ∀ {us : List Value} {bs : List β}, EachIs (fun u b => ∃ v, RelV v u /\ Dp K H v (enc b)) us bs -> ∃ vs, Vals vs us /\ Bears K H enc vs bs
 | _, _, .nil => ⟨[], .nil, .nil⟩
 | _, _, .cons ⟨v, r, h⟩ t => by
  obtain ⟨vs, h1, h2⟩ := of_each t
  exact ⟨v :: vs, .cons r h1, .cons h h2⟩
end
section
variable {P : Program} {w : World} {K : PySem.W.Frag} {mg : Str -> Option Value} {base : Heap} {f : Addr} {fd : FuncData}
def spWhole (K : PySem.W.Frag) : Sp := fun vs H Q _ => ∃ (v : V) (n : String) (b1 b2 : Bool), vs = [v] /\ TyX K H v (.type n) /\ kitB n "int" = some b1 /\ (b1 = true -> kitB n "bool" = some b2) /\ Q (.bl (b1 && !b2)) H
def spMany (K : PySem.W.Frag) (ps : List Addr) : Sp := fun vs H Q _ => ∃ (v : V) (d : PyData), vs = [v] /\ Th K ps H v d /\ Q (.bl (manyD d)) H
end
def ltsD : List PyData -> List Bool
 | [] => []
 | [_] => []
 | a :: b :: r => dataLt a b :: ltsD (b :: r)
def risingD (ds : List PyData) : Bool := (ltsD ds).all id
theorem ltsD_length : ∀ ds : List PyData, (ltsD ds).length = ds.length - 1
 | [] => rfl
 | [_] => rfl
 | a :: b :: r => by
  have h := ltsD_length (b :: r)
  show (ltsD (b :: r)).length + 1 = _
  rw [h]; simp
theorem ltsD_get : ∀ (ds : List PyData) (i : Nat) (d e : PyData), ds[i]? = some d -> ds[i + 1]? = some e -> (ltsD ds)[i]? = some (dataLt d e)
 | [], _, _, _, h, _ => by simp at h
 | [_], _, _, _, _, h => by simp at h
 | a :: b :: r, 0, d, e, h1, h2 => by simp at h1 h2; subst h1 h2; rfl
 | a :: b :: r, i + 1, d, e, h1, h2 => by
  have := ltsD_get (b :: r) i d e (by simpa using h1) (by simpa using h2)
  simpa [ltsD] using this
theorem cut1 (xs : List V) : cutV xs (some 1) none = xs.drop 1 := by
 unfold cutV
 have h1 : HT.sIx xs.length 0 (some 1) = min 1 xs.length := HT.sIx_nat xs.length 0 1
 have h2 : HT.sIx xs.length xs.length none = xs.length := rfl
 rw [h1, h2]
 cases xs with
 | nil => rfl
 | cons x r =>
  have : min 1 (x :: r).length = 1 := by simp
  rw [this]
  simp
section
variable {P : Program} {w : World} {K : PySem.W.Frag} {mg : Str -> Option Value} {base : Heap} {f : Addr} {fd : FuncData}
def OkD (d : PyData) : Prop := noList d = true /\ d ≠ .none /\ d.depth <= 100
def spRising (K : PySem.W.Frag) : Sp := fun vs H Q _ => ∃ (a : Addr) (xs : List V) (ds : List PyData), vs = [.ref a] /\ SqL K H a xs /\ DpAll K H xs ds /\ (∀ d ∈ ds, OkD d) /\ AllAlike ds /\ xs.length <= 1000 /\
 ∀ H', SB [] H H' -> Q (.bl (risingD ds)) H'
abbrev N_rising : List Str := ["things", "low", "high"]
end
def exp0 : PyData -> PyData
 | .tuple (e :: _) => e
 | _ => .none
mutual
def ladD : PyData -> Bool
 | .tuple ds => ladPs ds && risingD (ds.map exp0).reverse
 | _ => false
def ladPs : List PyData -> Bool
 | [] => true
 | d :: ds => ladP d && ladPs ds
def ladP : PyData -> Bool
 | .tuple ds => ladP2 ds
 | _ => false
def ladP2 : List PyData -> Bool
 | [] => false
 | e :: r => ladD e && ladP3 r
def ladP3 : List PyData -> Bool
 | [] => false
 | m :: r => manyD m && r.isEmpty
end
theorem depthAll_get {ds : List PyData} {i : Nat} {d : PyData} (h : ds[i]? = some d) : d.depth <= PyData.depthAll ds := PyData.depth_le_depthAll ds d (List.mem_of_getElem? h)
section
variable {P : Program} {w : World} {K : PySem.W.Frag} {mg : Str -> Option Value} {base : Heap} {f : Addr} {fd : FuncData} {ps : List Addr}
mutual
def wide : PyData -> Nat
 | .tuple ds => max ds.length (wides ds)
 | _ => 0
def wides : List PyData -> Nat
 | [] => 0
 | d :: ds => max (wide d) (wides ds)
end
theorem wide_mem : ∀ (ds : List PyData) (d : PyData), d ∈ ds -> wide d <= wides ds
 | [], _, h => by simp at h
 | e :: ds, d, h => by
  rw [wides]
  rcases List.mem_cons.mp h with h | h
  ·subst h; omega
  ·have := wide_mem ds d h; omega
theorem wide_tuple (ds : List PyData) : wide (.tuple ds) = max ds.length (wides ds) := by rw [wide]
end
section
variable {K : PySem.W.Frag} {H : Hp}
theorem DpAll.append : ∀ {xs ys : List V} {ds es : List PyData}, DpAll K H xs ds -> DpAll K H ys es -> DpAll K H (xs ++ ys) (ds ++ es)
 | _, _, _, _, .nil, h => h
 | _, _, _, _, .cons a b, h => .cons a (DpAll.append b h)
end
section
variable {P : Program} {w : World} {K : PySem.W.Frag} {mg : Str -> Option Value} {base : Heap} {f : Addr} {fd : FuncData}
theorem ix0 {x y : V} : atI [x, y] 0 = some x := rfl
theorem ix1 {x y : V} : atI [x, y] 1 = some y := rfl
end
theorem ib (m m' : Int) : (m == m') = decide (m = m') := by by_cases h : m = m' <;> simp [h]
section
variable {P : Program} {w : World} {K : PySem.W.Frag} {mg : Str -> Option Value} {base : Heap} {f : Addr} {fd : FuncData}
def spLaw (K : PySem.W.Frag) : Sp := fun vs H Q _ => ∃ (a : Addr) (ns : List Int), vs = [.ref a] /\ SqL K H a (ns.map V.int) /\ ns.length <= 63 /\ ∀ H', Q (.bl true) H'
theorem none_sp {ps : List Str} {k : Nat} {sp : Sp} (no : ∀ vs H Q E, ¬ sp vs H Q E) : FnOk P w K mg base CX0 k f fd ps sp :=
 ⟨fun vs H Q E h => absurd h (no vs H Q E), fun A outer s H args us vs Q E _ _ _ _ h => absurd h (no vs H Q E)⟩
end
def rCatB (K : PySem.W.Frag) : R2 := fun x y H Q => ∃ a b xs ys, x = .ref a /\ y = .ref b /\ SqT K H a xs /\ SqT K H b ys /\ xs.length + ys.length <= 10000000 /\ ∀ c H', SB [] H H' -> SqT K H' c (xs ++ ys) -> Q (.ref c) H'
section
variable {X : Cx}
theorem op_catB : OpR X (binaryOp .Add) (rCatB X.K) := by
 intro pins s σ H x y v u Q I rx ry h
 obtain ⟨a, b, xs, ys, rfl, rfl, ha, hb, hz, q⟩ := h
 refine op_catA pins s σ H _ _ v u Q I rx ry ⟨a, b, xs, ys, rfl, rfl, ha, hb, by rw [sizeLine_eq]; omega, fun e => ?_, fun e1 e2 => ?_, fun e1 e2 p hp => ?_⟩
 ·subst e; exact q b H SB.refl hb
 ·subst e2; exact q a H SB.refl (by rw [List.append_nil]; exact ha)
 ·exact q p _ (SB.new hp _) (SqT.of upd_same)
end
theorem cutTake (xs : List V) (k : Nat) : cutV xs none (some (k : Int)) = xs.take k := by
 unfold cutV
 have h1 : HT.sIx xs.length 0 none = 0 := rfl
 have h2 : HT.sIx xs.length xs.length (some (k : Int)) = min k xs.length := HT.sIx_nat xs.length xs.length k
 rw [h1, h2]
 simp
theorem cutDrop (xs : List V) (k : Nat) : cutV xs (some (k : Int)) none = xs.drop k := by
 unfold cutV
 have h1 : HT.sIx xs.length 0 (some (k : Int)) = min k xs.length := HT.sIx_nat xs.length 0 k
 have h2 : HT.sIx xs.length xs.length none = xs.length := rfl
 rw [h1, h2]
 by_cases h : k <= xs.length
 ·rw [Nat.min_eq_left h, List.take_of_length_le (by rw [List.length_drop]; omega)]
 ·rw [Nat.min_eq_right (by omega), List.drop_eq_nil_of_le (Nat.le_refl _), List.drop_eq_nil_of_le (by omega)]
  simp
section
variable {prog : Program} {w : World} {A : Around} {E : Value -> Shared -> Prop} {s : Shared} {β : Type} {vs : List Value} {bs : List β} {enc : β -> PyData} {R : Value -> β -> Prop}
theorem sorted_tupK {t : Addr} {kw : List (Str × Value)} {b : Bool} {Q : Value -> Shared -> Prop} (hkw : ∀ a, Builtin.«list.sort» ⟨[.ref a], kw⟩ = Builtin.«list.sort» ⟨[.ref a], [(Str.ofString "reverse", .bool b)]⟩) (ha1 : argsOk "sorted" ⟨[.ref t], kw⟩) (ha2 : ∀ x, argsOk "list.sort" ⟨[.ref x], kw⟩)
  (ht : IsTup s.heap t vs.toArray) (e : EachIs R vs bs) (er : EachIs (fun v b => ∃ as, Reads s.heap v (enc b) as) vs bs) (hal : AllAlike (bs.map enc)) (hk : Sortable (bs.map enc)) (hL : bs.length <= sizeLine)
  (hu : ∀ b, b ∈ bs -> A.units + 2 + (enc b).depth < cLine)
  (h : ∀ (out : List Value) (h' h2 : Heap) (n : Nat), (∀ b o, s.heap.get? b = some o -> h'.get? b = some o) -> (∀ b o, h'.get? b = some o -> h2.get? b = some o) -> h2.get? h'.objs.size = some (seqObj "list" out.toArray n) -> out.length = bs.length -> EachIs R out (bs.mergeSort (dataLe b enc)) -> Q (.ref h'.objs.size) { s with heap := h2 }) :
  wpAny (model prog w) A (call (.builtin "sorted") [.ref t] kw) Q E s := by
 have hlen : vs.length <= sizeLine := by rw [e.length]; exact hL
 obtain ⟨o, ho, hc, n0, hd⟩ := id ht
 refine call_function_entry_kw kind_sorted plain_sorted entry_sorted ha1 ?_
 unfold Builtin.«sorted»
 refine wpAny_bind (m := checkCount "sorted" 1 1 _) (wpAny_pure ?_)
 refine wpAny_bind (wpAny_collect_seq t (.inr rfl) ho hc hd (fun h' hk' => ?_) (by rw [List.size_toArray]; exact hlen))
 refine wpAny_bind (wpAny_newList ?_ hlen)
 show wpAny _ _ _ _ _ { s with heap := h'.push (seqObj "list" vs.toArray 0) }
 have hat : (h'.push (seqObj "list" vs.toArray 0)).get? h'.objs.size = some (seqObj "list" vs.toArray 0) := Heap.get?_push_size _ rfl
 refine wpAny_bind (wpAny_holding (wpAny_call_entry_kw slot_list_sort ⟨_, hat, rfl⟩ entry_list_sort ?body (ha2 _)))
 case body =>
  rw [hkw]
  have old : ∀ b o, h'.get? b = some o -> (sortingHeap (h'.push (seqObj "list" vs.toArray 0)) h'.objs.size vs).get? b = some o := fun b o q => sortingHeap_old (Nat.ne_of_lt (Heap.lt_size q)) (Heap.get?_push_of_some _ q)
  have er' : EachIs (fun v b => ∃ as, Reads (sortingHeap (h'.push (seqObj "list" vs.toArray 0)) h'.objs.size vs) v (enc b) as) vs bs := er.mono fun _ _ ⟨as, r⟩ => ⟨as, PyProof.Rows.Reads.keeps (fun b o q => old b o (hk' b o q)) r⟩
  refine list_sort_rev_vals (s := { s with heap := h'.push (seqObj "list" vs.toArray 0) }) (κ := dataKind (sortingHeap (h'.push (seqObj "list" vs.toArray 0)) h'.objs.size vs) (bs.map enc)) hat (SortsAt.data (s := { s with heap := sortingHeap (h'.push (seqObj "list" vs.toArray 0)) h'.objs.size vs }) (each_map (R := fun v d => ∃ as, Reads (sortingHeap (h'.push (seqObj "list" vs.toArray 0)) h'.objs.size vs) v d as) enc er') hal hk (bound_map hu)) hlen ?_
  refine ⟨_, rfl, wpAny_pure ⟨_, rfl, ?_⟩⟩
  obtain ⟨n2, hn2⟩ := sortedHeap_at (out := (sortVals (dataKind (sortingHeap (h'.push (seqObj "list" vs.toArray 0)) h'.objs.size vs) (bs.map enc)) b vs vs).toArray) hat
  refine h _ h' _ n2 hk' (fun b o q => ?_) hn2 (by rw [sortVals_length b rfl]; exact e.length) (sortVals_data b e er' hal)
  rw [sortedHeap_old (Nat.ne_of_lt (Heap.lt_size q)) (by rw [size_push']; exact Nat.lt_succ_of_lt (Heap.lt_size q))]
  exact Heap.get?_push_of_some _ q
end
def rSortedT (K : PySem.W.Frag) {β : Type} (enc : β -> PyData) (b : Bool) (vs : List V) (H : Hp) (Q : VK) : Prop := ∃ (a : Addr) (xs : List V) (bs : List β), vs = [V.ref a] /\ SqT K H a xs /\ Bears K H enc xs bs /\ AllAlike (bs.map enc) /\ Sortable (bs.map enc) /\ bs.length <= 10000000 /\ (∀ b ∈ bs, (enc b).depth <= 100) /\
 ∀ (p : Addr) (ys : List V), H p = none -> Bears K H enc ys (bs.mergeSort (dataLe b enc)) -> Q (.ref p) (upd H p (.lst ys))
section
variable {X : Cx}
theorem sortedT_run {β : Type} {enc : β -> PyData} {b : Bool} {kw : List (Str × Value)} (hu : X.A.units + 110 < cLine) (hkw : ∀ a, Builtin.«list.sort» ⟨[.ref a], kw⟩ = Builtin.«list.sort» ⟨[.ref a], [(Str.ofString "reverse", .bool b)]⟩) (ha1 : ∀ t, argsOk "sorted" ⟨[.ref t], kw⟩) (ha2 : ∀ x, argsOk "list.sort" ⟨[.ref x], kw⟩)
  {pins : List (Addr × Obj)} {s : Shared} {σ : L2.St} {H : Hp} {vs : List V} {us : List Value} {Q : VK} (I : Inv X pins σ H s) (r : Vals vs us) (h : rSortedT X.K enc b vs H Q) : wpAny (model X.prog X.w) X.A (call (.builtin "sorted") us kw) (EP X pins σ Q) X.xe s := by
 obtain ⟨a, xs, bs, rfl, hs, hb, hal, hsr, hl, hd, q⟩ := h
 obtain ⟨its, rv, hli, _⟩ := I.tuple hs
 rw [Vals.ref1 r]
 obtain ⟨e1, e2⟩ := each_of I hb rv
 refine sorted_tupK (vs := its) (bs := bs) (enc := enc) (R := fun u b => ∃ v, RelV v u /\ Dp X.K H v (enc b)) hkw (ha1 _) ha2 hli e1 e2 hal hsr (by rw [sizeLine_eq]; omega) (fun b m => by have := hd b m; omega) fun out h' h2 n k1 k2 hat ho h1 => ?_
 obtain ⟨ys, g2, g3⟩ := of_each h1
 have I' : Inv X pins σ H { s with heap := h' } := I.kept (t' := s.toks) k1
 have hlen : ys.length <= sizeLine := by rw [g2.length, ho, sizeLine_eq]; omega
 exact ⟨.ref _, upd H h'.objs.size (.lst ys), I'.laid (t' := s.toks) (fun b o e => k2 b o e) (Nat.le_refl _) ⟨hlen, out, n, g2, hat⟩, rfl, q _ ys (I'.hok.fresh (Nat.le_refl _)) g3⟩
theorem cr_sortedT {β : Type} (enc : β -> PyData) (hu : X.A.units + 110 < cLine) : CallR X (.builtin "sorted") (rSortedT X.K enc false) := by
 intro pins s σ H vs us Q I r h
 exact sortedT_run (kw := []) hu plain_is_rev (fun _ => args_sorted1 _) (fun _ => args_list_sort _) I r h
end
section
variable {γ : Type} [DecidableEq γ]
def pairE (enc : γ -> PyData) (p : γ × Int) : PyData := .tuple [enc p.1, .int p.2]
def jstep (acc : List (γ × Int)) (p : γ × Int) : List (γ × Int) := match acc.getLast? with
 | some q => if q.1 = p.1 then acc.dropLast ++ [(p.1, q.2 + p.2)] else acc ++ [p]
 | none => [p]
def jn (bs : List (γ × Int)) : List (γ × Int) := bs.foldl jstep []
theorem jstep_nil (p : γ × Int) : jstep [] p = [p] := rfl
theorem jstep_snoc (acc : List (γ × Int)) (q p : γ × Int) : jstep (acc ++ [q]) p = if q.1 = p.1 then acc ++ [(p.1, q.2 + p.2)] else acc ++ [q] ++ [p] := by
 unfold jstep
 rw [List.getLast?_append]
 simp
theorem jstep_length (acc : List (γ × Int)) (p : γ × Int) : (jstep acc p).length <= acc.length + 1 := by
 rcases List.eq_nil_or_concat acc with h | ⟨a, q, h⟩
 ·subst h; simp [jstep]
 ·subst h
  rw [List.concat_eq_append, jstep_snoc]
  split <;> simp
theorem jn_take (bs : List (γ × Int)) (i : Nat) (p : γ × Int) (h : bs[i]? = some p) : jn (bs.take (i + 1)) = jstep (jn (bs.take i)) p := by
 unfold jn
 rw [List.take_add_one, h, List.foldl_append]
 rfl
theorem jn_length (bs : List (γ × Int)) : (jn bs).length <= bs.length := by
 have key : ∀ (bs acc : List (γ × Int)), (bs.foldl jstep acc).length <= acc.length + bs.length := by
  intro bs
  induction bs with
  | nil => intro acc; simp
  | cons p r ih =>
   intro acc
   have h1 := ih (jstep acc p)
   have h2 := jstep_length acc p
   show (r.foldl jstep (jstep acc p)).length <= _
   rw [List.length_cons]
   omega
 have := key bs []
 simpa [jn] using this
theorem jn_keys (bs : List (γ × Int)) : ∀ p ∈ jn bs, ∃ q ∈ bs, q.1 = p.1 := by
 have key : ∀ (bs acc : List (γ × Int)), ∀ p ∈ bs.foldl jstep acc, (∃ q ∈ acc, q.1 = p.1) \/ ∃ q ∈ bs, q.1 = p.1 := by
  intro bs
  induction bs with
  | nil => intro acc p hp; exact .inl ⟨p, hp, rfl⟩
  | cons x r ih =>
   intro acc p hp
   rcases ih (jstep acc x) p hp with ⟨q, hq, e⟩ | ⟨q, hq, e⟩
   ·rcases List.eq_nil_or_concat acc with h | ⟨a, z, h⟩
    ·subst h
     rw [jstep_nil] at hq
     have : q = x := by simpa using hq
     subst this
     exact .inr ⟨q, mcs .., e⟩
    ·subst h
     rw [List.concat_eq_append] at hq ⊢
     rw [jstep_snoc] at hq
     by_cases hz : z.1 = x.1
     ·rw [if_pos hz] at hq
      rcases List.mem_append.mp hq with hq | hq
      ·exact .inl ⟨q, mal _ hq, e⟩
      ·have : q = (x.1, z.2 + x.2) := by simpa using hq
       subst this
       exact .inr ⟨x, mcs .., e⟩
     ·rw [if_neg hz] at hq
      rcases List.mem_append.mp hq with hq | hq
      ·exact .inl ⟨q, hq, e⟩
      ·have : q = x := by simpa using hq
       subst this
       exact .inr ⟨q, mcs .., e⟩
   ·exact .inr ⟨q, mcm _ hq, e⟩
 intro p hp
 rcases key bs [] p hp with ⟨q, hq, _⟩ | h
 ·cases hq
 ·exact h
end
theorem Bears.snoc {K : PySem.W.Frag} {H : Hp} {β : Type} {enc : β -> PyData} {vs : List V} {bs : List β} {b : β} (h : Bears K H enc vs (bs ++ [b])) : ∃ us u, vs = us ++ [u] /\ Bears K H enc us bs /\ Dp K H u (enc b) := by
 induction bs generalizing vs with
 | nil =>
  cases h with
  | cons h1 h2 => cases h2; exact ⟨[], _, rfl, .nil, h1⟩
 | cons c r ih =>
  cases h with
  | cons h1 h2 =>
   obtain ⟨us, u, e, h3, h4⟩ := ih h2
   exact ⟨_ :: us, u, by rw [e]; rfl, .cons h1 h3, h4⟩
theorem at_last {xs : List V} {x : V} : atI (xs ++ [x]) (-1) = some x := by
 unfold atI ixN
 rw [if_neg (by decide), if_pos (by rw [List.length_append, List.length_singleton]; omega)]
 simp only [List.length_append, List.length_singleton, Option.bind_some]
 have : ((-1 : Int) + ((xs.length + 1 : Nat) : Int)).toNat = xs.length := by omega
 rw [this]
 simp
structure Own (K : PySem.W.Frag) (mg : Str -> Option Value) (x : Str) (C : Addr) : Prop where
 gC : mg x = some (.ref C)
 q : PySem.W.excIn K C He.veBase "ValueError.__new__" = true
 k : PySem.W.keepIn K (.ref C) = true
 s : PySem.W.subIn K (.ref C) (.type "BaseException") = some true
 t : PySem.W.typeIn K (.ref C) = some (.type "type")
abbrev AlE : Type := He.AlD × Bool
def excCB (K : PySem.W.Frag) (D : Addr) : Bool :=
 He.eqO (PySem.W.findIn K (.ref D) "__getattribute__") (some (some (.builtin "BaseException.__getattribute__"))) && (He.eqO (PySem.W.findIn K (.ref D) "__getattr__") (some none) && (decide (PySem.W.subIn K (.ref D) (.type "BaseException") = some true) && (PySem.W.hasDictIn K D && (He.eqO (PySem.W.findIn K (.ref D) "__class__") (some (some (.builtin "object.__class__"))) &&
 (He.eqO (PySem.W.specialIn K (.builtin "object.__class__") "__get__") (some (some (.builtin "getset_descriptor.__get__"))) && (decide (PySem.W.takesIn K (.builtin "object.__class__") = some true) && decide (PySem.W.mroIn K D (.type "object") = some true)))))))
theorem excCB_ok {K : PySem.W.Frag} {D : Addr} (h : excCB K D = true) : ExcC K D := by
 obtain ⟨h1, h⟩ := He.ba h
 obtain ⟨h2, h⟩ := He.ba h
 obtain ⟨h3, h⟩ := He.ba h
 obtain ⟨h4, h⟩ := He.ba h
 obtain ⟨h5, h⟩ := He.ba h
 obtain ⟨h6, h⟩ := He.ba h
 obtain ⟨h7, h8⟩ := He.ba h
 exact ⟨He.eqO_ok h1, He.eqO_ok h2, of_decide_eq_true h3, h4, He.eqO_ok h5, He.eqO_ok h6, of_decide_eq_true h7, of_decide_eq_true h8⟩
section
variable {J : It} {n : Nat} {G : Hp -> Prop} {Y : Nat -> Hp -> V -> Hp -> Prop}
theorem lcG (w : Walk J n G Y) {H0 : Hp} {Qd : Hp -> Prop} {body : (Hp -> Prop) -> V -> Hp -> Prop} (Pv : Nat -> Hp -> Prop) (h0 : Pv 0 H0) (hG : ∀ i H, i <= n -> Pv i H -> G H)
  (hs : ∀ i x H H', i < n -> Pv i H -> Y i H x H' -> body (Pv (i + 1)) x H') (hd : ∀ H, Pv n H -> Qd H) :
  ∃ W : Nat -> Nat -> Hp -> Prop, (∃ m, W 0 m H0) /\ ∀ i m H, W i m H ->
   (J.stop i H /\ Qd H) \/ (J.go i H /\ ∃ Nx : Hp -> Prop, (∀ H', Nx H' -> ∃ m', m' < m /\ W (i + 1) m' H') /\ ∀ x H', J.yld i H x H' -> body Nx x H') := by
 refine ⟨fun i m H => m = n - i /\ i <= n /\ Pv i H, ⟨n, by simp, Nat.zero_le _, h0⟩, ?_⟩
 rintro i m H ⟨rfl, hi, p⟩
 have q := hG i H hi p
 by_cases hlt : i < n
 ·exact .inr ⟨w.goes i H hlt q, Pv (i + 1), fun H' p' => ⟨n - (i + 1), by omega, rfl, hlt, p'⟩, fun x H' y => hs i x H H' hlt p (w.yields i H x H' hlt q y)⟩
 ·have e : i = n := by omega
  subst e
  exact .inl ⟨w.stops H q, hd H p⟩
end
section
variable {prog : Program} {w : World} {A : Around} {E : Value -> Shared -> Prop} {s : Shared} {β : Type} {vs : List Value} {bs : List β} {enc : β -> PyData} {R : Value -> β -> Prop}
theorem sorted_lstK {t : Addr} {kw : List (Str × Value)} {b : Bool} {Q : Value -> Shared -> Prop} (hkw : ∀ a, Builtin.«list.sort» ⟨[.ref a], kw⟩ = Builtin.«list.sort» ⟨[.ref a], [(Str.ofString "reverse", .bool b)]⟩) (ha1 : argsOk "sorted" ⟨[.ref t], kw⟩) (ha2 : ∀ x, argsOk "list.sort" ⟨[.ref x], kw⟩)
  (ht : PlainL s.heap t vs.toArray) (e : EachIs R vs bs) (er : EachIs (fun v b => ∃ as, Reads s.heap v (enc b) as) vs bs) (hal : AllAlike (bs.map enc)) (hk : Sortable (bs.map enc)) (hL : bs.length <= sizeLine)
  (hu : ∀ b, b ∈ bs -> A.units + 2 + (enc b).depth < cLine)
  (h : ∀ (out : List Value) (h' h2 : Heap) (n : Nat), (∀ b o, s.heap.get? b = some o -> h'.get? b = some o) -> (∀ b o, h'.get? b = some o -> h2.get? b = some o) -> h2.get? h'.objs.size = some (seqObj "list" out.toArray n) -> out.length = bs.length -> EachIs R out (bs.mergeSort (dataLe b enc)) -> Q (.ref h'.objs.size) { s with heap := h2 }) :
  wpAny (model prog w) A (call (.builtin "sorted") [.ref t] kw) Q E s := by
 have hlen : vs.length <= sizeLine := by rw [e.length]; exact hL
 obtain ⟨o, n0, ho, hc, _, hd⟩ := id ht
 refine call_function_entry_kw kind_sorted plain_sorted entry_sorted ha1 ?_
 unfold Builtin.«sorted»
 refine wpAny_bind (m := checkCount "sorted" 1 1 _) (wpAny_pure ?_)
 refine wpAny_bind (wpAny_collect_seq t (.inl rfl) ho hc hd (fun h' hk' => ?_) (by rw [List.size_toArray]; exact hlen))
 refine wpAny_bind (wpAny_newList ?_ hlen)
 show wpAny _ _ _ _ _ { s with heap := h'.push (seqObj "list" vs.toArray 0) }
 have hat : (h'.push (seqObj "list" vs.toArray 0)).get? h'.objs.size = some (seqObj "list" vs.toArray 0) := Heap.get?_push_size _ rfl
 refine wpAny_bind (wpAny_holding (wpAny_call_entry_kw slot_list_sort ⟨_, hat, rfl⟩ entry_list_sort ?body (ha2 _)))
 case body =>
  rw [hkw]
  have old : ∀ b o, h'.get? b = some o -> (sortingHeap (h'.push (seqObj "list" vs.toArray 0)) h'.objs.size vs).get? b = some o := fun b o q => sortingHeap_old (Nat.ne_of_lt (Heap.lt_size q)) (Heap.get?_push_of_some _ q)
  have er' : EachIs (fun v b => ∃ as, Reads (sortingHeap (h'.push (seqObj "list" vs.toArray 0)) h'.objs.size vs) v (enc b) as) vs bs := er.mono fun _ _ ⟨as, r⟩ => ⟨as, PyProof.Rows.Reads.keeps (fun b o q => old b o (hk' b o q)) r⟩
  refine list_sort_rev_vals (s := { s with heap := h'.push (seqObj "list" vs.toArray 0) }) (κ := dataKind (sortingHeap (h'.push (seqObj "list" vs.toArray 0)) h'.objs.size vs) (bs.map enc)) hat (SortsAt.data (s := { s with heap := sortingHeap (h'.push (seqObj "list" vs.toArray 0)) h'.objs.size vs }) (each_map (R := fun v d => ∃ as, Reads (sortingHeap (h'.push (seqObj "list" vs.toArray 0)) h'.objs.size vs) v d as) enc er') hal hk (bound_map hu)) hlen ?_
  refine ⟨_, rfl, wpAny_pure ⟨_, rfl, ?_⟩⟩
  obtain ⟨n2, hn2⟩ := sortedHeap_at (out := (sortVals (dataKind (sortingHeap (h'.push (seqObj "list" vs.toArray 0)) h'.objs.size vs) (bs.map enc)) b vs vs).toArray) hat
  refine h _ h' _ n2 hk' (fun b o q => ?_) hn2 (by rw [sortVals_length b rfl]; exact e.length) (sortVals_data b e er' hal)
  rw [sortedHeap_old (Nat.ne_of_lt (Heap.lt_size q)) (by rw [size_push']; exact Nat.lt_succ_of_lt (Heap.lt_size q))]
  exact Heap.get?_push_of_some _ q
end
def rSortedL (K : PySem.W.Frag) {β : Type} (enc : β -> PyData) (b : Bool) (vs : List V) (H : Hp) (Q : VK) : Prop := ∃ (a : Addr) (xs : List V) (bs : List β), vs = [V.ref a] /\ SqL K H a xs /\ Bears K H enc xs bs /\ AllAlike (bs.map enc) /\ Sortable (bs.map enc) /\ bs.length <= 10000000 /\ (∀ b ∈ bs, (enc b).depth <= 100) /\
 ∀ (p : Addr) (ys : List V), H p = none -> Bears K H enc ys (bs.mergeSort (dataLe b enc)) -> Q (.ref p) (upd H p (.lst ys))
section
variable {X : Cx}
theorem sortedL_run {β : Type} {enc : β -> PyData} {b : Bool} {kw : List (Str × Value)} (hu : X.A.units + 110 < cLine) (hkw : ∀ a, Builtin.«list.sort» ⟨[.ref a], kw⟩ = Builtin.«list.sort» ⟨[.ref a], [(Str.ofString "reverse", .bool b)]⟩) (ha1 : ∀ t, argsOk "sorted" ⟨[.ref t], kw⟩) (ha2 : ∀ x, argsOk "list.sort" ⟨[.ref x], kw⟩)
  {pins : List (Addr × Obj)} {s : Shared} {σ : L2.St} {H : Hp} {vs : List V} {us : List Value} {Q : VK} (I : Inv X pins σ H s) (r : Vals vs us) (h : rSortedL X.K enc b vs H Q) : wpAny (model X.prog X.w) X.A (call (.builtin "sorted") us kw) (EP X pins σ Q) X.xe s := by
 obtain ⟨a, xs, bs, rfl, hs, hb, hal, hsr, hl, hd, q⟩ := h
 obtain ⟨its, rv, hli, _⟩ := I.list hs
 rw [Vals.ref1 r]
 obtain ⟨e1, e2⟩ := each_of I hb rv
 refine sorted_lstK (vs := its) (bs := bs) (enc := enc) (R := fun u b => ∃ v, RelV v u /\ Dp X.K H v (enc b)) hkw (ha1 _) ha2 hli e1 e2 hal hsr (by rw [sizeLine_eq]; omega) (fun b m => by have := hd b m; omega) fun out h' h2 n k1 k2 hat ho h1 => ?_
 obtain ⟨ys, g2, g3⟩ := of_each h1
 have I' : Inv X pins σ H { s with heap := h' } := I.kept (t' := s.toks) k1
 have hlen : ys.length <= sizeLine := by rw [g2.length, ho, sizeLine_eq]; omega
 exact ⟨.ref _, upd H h'.objs.size (.lst ys), I'.laid (t' := s.toks) (fun b o e => k2 b o e) (Nat.le_refl _) ⟨hlen, out, n, g2, hat⟩, rfl, q _ ys (I'.hok.fresh (Nat.le_refl _)) g3⟩
theorem cr_sortedL {β : Type} (enc : β -> PyData) (hu : X.A.units + 110 < cLine) : CallR X (.builtin "sorted") (rSortedL X.K enc false) := by
 intro pins s σ H vs us Q I r h
 exact sortedL_run (kw := []) hu plain_is_rev (fun _ => args_sorted1 _) (fun _ => args_list_sort _) I r h
end
theorem dl_irrefl (x : PyData) : dataLt x x = false := lex_irrefl (O := itemOrd) _
theorem dl_trans {x y z : PyData} (h : dataLt x y = true) (h2 : dataLt y z = true) : dataLt x z = true := lex_trans (O := itemOrd) _ _ _ h h2
theorem dl_total {x y : PyData} (al : alike x y = true) (h : dataLt x y = false) (h2 : dataLt y x = false) : PyData.eqv x y = true := by
 have e : keyToks x = keyToks y := lex_total (O := itemOrd) _ _ h h2
 cases hq : PyData.eqv x y with
 | true => rfl
 | false =>
  have t := (toks_eqv x y al).2 hq [.inl 0] [.inl 1]
  rw [e] at t
  have t2 : PyProof.Rows.lexLt itemOrd (keyToks y ++ [.inl 0]) (keyToks y ++ [.inl 1]) = PyProof.Rows.lexLt itemOrd [.inl 0] [.inl 1] := lex_pre _ _ _
  have t3 : PyProof.Rows.lexLt itemOrd (keyToks y) (keyToks y) = false := lex_irrefl (O := itemOrd) _
  rw [t2, t3, lex_one] at t
  revert t
  decide
theorem dl_asymm {x y : PyData} (h : dataLt x y = true) : dataLt y x = false := by
 cases e : dataLt y x with
 | false => rfl
 | true => have := dl_trans h e; rw [dl_irrefl] at this; cases this
class Orderly {γ : Type} [DecidableEq γ] (enc : γ -> PyData) : Prop where
 al : ∀ a b, alike (enc a) (enc b) = true
 eq : ∀ a b, PyData.eqv (enc a) (enc b) = decide (a = b)
section
variable {γ : Type} [DecidableEq γ] {enc : γ -> PyData} [O : Orderly enc]
theorem ol_tri {a b : γ} (hne : a ≠ b) (h : dataLt (enc a) (enc b) = false) : dataLt (enc b) (enc a) = true := by
 cases e : dataLt (enc b) (enc a) with
 | true => rfl
 | false =>
  have := dl_total (O.al a b) h e
  rw [O.eq] at this
  exact absurd (of_decide_eq_true this) hne
theorem ol_ne {a b : γ} (h : dataLt (enc a) (enc b) = true) : a ≠ b := fun z => by subst z; rw [dl_irrefl] at h; cases h
instance : Orderly (pairE enc) where
 al a b := by simp [pairE, alike, alikeAll, O.al a.1 b.1]
 eq a b := by
  simp only [pairE, PyData.eqv, PyData.eqvAll, O.eq, Bool.and_true, ib]
  by_cases h : a = b
  ·subst h; simp
  ·rw [decide_eq_false h]
   rw [Bool.and_eq_false_iff]
   by_cases h1 : a.1 = b.1
   ·exact .inr (decide_eq_false fun h2 => h (Prod.ext h1 h2))
   ·exact .inl (decide_eq_false h1)
theorem pairE_lt (p q : γ × Int) : dataLt (pairE enc p) (pairE enc q) = if p.1 = q.1 then decide (p.2 < q.2) else dataLt (enc p.1) (enc q.1) := by
 unfold pairE
 rw [dataLt_pair (O.al p.1 q.1) (by simp [alike]), O.eq]
 by_cases h : p.1 = q.1
 ·rw [if_pos (by simp [h]), if_pos h, dataLt_int]
  by_cases h2 : p.2 = q.2
  ·simp [PyData.eqv, h2]
  ·simp [PyData.eqv, h2]
 ·rw [if_neg (by simp [h]), if_neg h]
def srtE (enc : γ -> PyData) (bs : List γ) : List γ := bs.mergeSort (dataLe false enc)
theorem srtE_perm (bs : List γ) : (srtE enc bs).Perm bs := List.mergeSort_perm _ _
theorem srtE_le (bs : List γ) : (srtE enc bs).Pairwise (fun a b => dataLt (enc b) (enc a) = false) := by
 have h := List.pairwise_mergeSort (le := dataLe false enc) (fun a b c h1 h2 => ?_) (fun a b => ?_) bs
 ·refine h.imp fun {a b} hab => ?_
  rw [dataLe_eq] at hab
  simpa using hab
 ·rw [dataLe_eq] at h1 h2 ⊢
  simp only [cond_false, Bool.not_eq_true'] at h1 h2 ⊢
  by_cases hab : a = b
  ·subst hab; exact h2
  ·by_cases hbc : b = c
   ·subst hbc; exact h1
   ·exact dl_asymm (dl_trans (ol_tri (fun z => hab z.symm) h1) (ol_tri (fun z => hbc z.symm) h2))
 ·rw [dataLe_eq]
  simp only [cond_false]
  cases e : dataLt (enc b) (enc a) with
  | false => rfl
  | true => rw [dl_asymm e]; rfl
def sumE (ps : List (γ × Int)) (x : γ) : Int := match ps with
 | [] => 0
 | p :: r => (if p.1 = x then p.2 else 0) + sumE r x
theorem sumE_append (x : γ) : ∀ (as bs : List (γ × Int)), sumE (as ++ bs) x = sumE as x + sumE bs x
 | [], bs => by simp [sumE]
 | p :: r, bs => by show _ + sumE (r ++ bs) x = _; rw [sumE_append x r bs, sumE]; omega
theorem sumE_perm {as bs : List (γ × Int)} (h : as.Perm bs) (x : γ) : sumE as x = sumE bs x := by
 induction h with
 | nil => rfl
 | cons y _ ih => simp only [sumE]; omega
 | swap y z l => simp only [sumE]; omega
 | trans _ _ h1 h2 => omega
theorem sumE_jstep (acc : List (γ × Int)) (p : γ × Int) (x : γ) : sumE (jstep acc p) x = sumE acc x + (if p.1 = x then p.2 else 0) := by
 rcases List.eq_nil_or_concat acc with h | ⟨a, z, h⟩
 ·subst h; rw [jstep_nil]; simp [sumE]
 ·subst h
  rw [List.concat_eq_append, jstep_snoc]
  by_cases hz : z.1 = p.1
  ·rw [if_pos hz, sumE_append, sumE_append]
   simp only [sumE, hz]
   by_cases hx : p.1 = x
   ·simp only [if_pos hx]; omega
   ·simp only [if_neg hx]; omega
  ·rw [if_neg hz, sumE_append]; simp only [sumE]; omega
theorem sumE_jn (bs : List (γ × Int)) (x : γ) : sumE (jn bs) x = sumE bs x := by
 have key : ∀ (bs acc : List (γ × Int)), sumE (bs.foldl jstep acc) x = sumE acc x + sumE bs x := by
  intro bs
  induction bs with
  | nil => intro acc; simp [sumE]
  | cons p r ih =>
   intro acc
   show sumE (r.foldl jstep (jstep acc p)) x = _
   rw [ih, sumE_jstep, sumE]; omega
 have := key bs []
 simpa [jn, sumE] using this
theorem jn_rise {bs : List (γ × Int)} (h : bs.Pairwise (fun a b => dataLt (enc b.1) (enc a.1) = false)) : (jn bs).Pairwise (fun p q => dataLt (enc p.1) (enc q.1) = true) := by
 have key : ∀ (bs acc : List (γ × Int)), acc.Pairwise (fun p q => dataLt (enc p.1) (enc q.1) = true) -> (∀ a ∈ acc, ∀ b ∈ bs, dataLt (enc b.1) (enc a.1) = false) -> bs.Pairwise (fun a b => dataLt (enc b.1) (enc a.1) = false) -> (bs.foldl jstep acc).Pairwise (fun p q => dataLt (enc p.1) (enc q.1) = true) := by
  intro bs
  induction bs with
  | nil => intro acc h _ _; exact h
  | cons p r ih =>
   intro acc h1 h2 h3
   obtain ⟨h31, h32⟩ := List.pairwise_cons.mp h3
   refine ih (jstep acc p) ?_ ?_ h32
   ·rcases List.eq_nil_or_concat acc with h | ⟨a, z, h⟩
    ·subst h; rw [jstep_nil]; exact List.pairwise_singleton _ _
    ·subst h
     rw [List.concat_eq_append] at h1 h2 ⊢
     rw [jstep_snoc]
     obtain ⟨a1, _, a3⟩ := List.pairwise_append.mp h1
     by_cases hz : z.1 = p.1
     ·rw [if_pos hz, List.pairwise_append]
      refine ⟨a1, List.pairwise_singleton _ _, fun x hx y hy => ?_⟩
      have hy' : y = (p.1, z.2 + p.2) := by simpa using hy
      subst hy'
      show dataLt (enc x.1) (enc p.1) = true
      rw [<- hz]; exact a3 x hx z (by simp)
     ·rw [if_neg hz, List.pairwise_append]
      refine ⟨h1, List.pairwise_singleton _ _, fun x hx y hy => ?_⟩
      have hy' : y = p := by simpa using hy
      subst hy'
      have hzp : dataLt (enc z.1) (enc y.1) = true := ol_tri (fun q => hz q.symm) (h2 z (by simp) y (mcs ..))
      rcases List.mem_append.mp hx with hx | hx
      ·exact dl_trans (a3 x hx z (by simp)) hzp
      ·have hx' : x = z := by simpa using hx
       subst hx'; exact hzp
   ·intro a ha b hb
    have hpb := h31 b hb
    rcases List.eq_nil_or_concat acc with h | ⟨c, z, h⟩
    ·subst h
     rw [jstep_nil] at ha
     have : a = p := by simpa using ha
     subst this; exact hpb
    ·subst h
     rw [List.concat_eq_append] at ha h2
     rw [jstep_snoc] at ha
     by_cases hz : z.1 = p.1
     ·rw [if_pos hz] at ha
      rcases List.mem_append.mp ha with ha | ha
      ·exact h2 a (mal _ ha) b (mcm _ hb)
      ·have : a = (p.1, z.2 + p.2) := by simpa using ha
       subst this; exact hpb
     ·rw [if_neg hz] at ha
      rcases List.mem_append.mp ha with ha | ha
      ·exact h2 a ha b (mcm _ hb)
      ·have : a = p := by simpa using ha
       subst this; exact hpb
 exact key bs [] List.Pairwise.nil (by simp) h
theorem srt_keys (bs : List (γ × Int)) : (srtE (pairE enc) bs).Pairwise (fun a b => dataLt (enc b.1) (enc a.1) = false) := by
 refine (srtE_le (enc := pairE enc) bs).imp fun {a b} hab => ?_
 rw [pairE_lt] at hab
 by_cases h : b.1 = a.1
 ·rw [h]; exact dl_irrefl _
 ·rw [if_neg h] at hab; exact hab
def tdy (enc : γ -> PyData) (bs : List (γ × Int)) : List (γ × Int) := jn (srtE (pairE enc) bs)
theorem tdy_rise (bs : List (γ × Int)) : (tdy enc bs).Pairwise (fun p q => dataLt (enc p.1) (enc q.1) = true) := jn_rise (srt_keys bs)
theorem tdy_sum (bs : List (γ × Int)) (x : γ) : sumE (tdy enc bs) x = sumE bs x := by
 unfold tdy
 rw [sumE_jn, sumE_perm (srtE_perm bs)]
theorem tdy_keys (bs : List (γ × Int)) : ∀ p ∈ tdy enc bs, ∃ q ∈ bs, q.1 = p.1 := fun p hp => by
 obtain ⟨q, hq, e⟩ := jn_keys _ p hp
 exact ⟨q, (srtE_perm bs).mem_iff.mp hq, e⟩
def allE : List (γ × Int) -> Int
 | [] => 0
 | p :: r => p.2 + allE r
theorem allE_append : ∀ as bs : List (γ × Int), allE (as ++ bs) = allE as + allE bs
 | [], bs => by simp [allE]
 | p :: r, bs => by show _ + allE (r ++ bs) = _; rw [allE_append r bs, allE]; omega
theorem allE_perm {as bs : List (γ × Int)} (h : as.Perm bs) : allE as = allE bs := by
 induction h with
 | nil => rfl
 | cons y _ ih => simp only [allE]; omega
 | swap y z l => simp only [allE]; omega
 | trans _ _ h1 h2 => omega
theorem jn_all (bs : List (γ × Int)) : allE (jn bs) = allE bs := by
 have key : ∀ (bs acc : List (γ × Int)), allE (bs.foldl jstep acc) = allE acc + allE bs := by
  intro bs
  induction bs with
  | nil => intro acc; simp [allE]
  | cons p r ih =>
   intro acc
   show allE (r.foldl jstep (jstep acc p)) = _
   rw [ih]
   have e : allE (jstep acc p) = allE acc + p.2 := by
    rcases List.eq_nil_or_concat acc with h | ⟨a, z, h⟩
    ·subst h; rw [jstep_nil]; simp [allE]
    ·subst h
     rw [List.concat_eq_append, jstep_snoc]
     split
     ·rw [allE_append, allE_append]; simp only [allE]; omega
     ·rw [allE_append]; simp only [allE]; omega
   rw [e, allE]; omega
 have := key bs []
 simpa [jn, allE] using this
theorem jn_pos {bs : List (γ × Int)} (h : ∀ p ∈ bs, 1 <= p.2) : ∀ p ∈ jn bs, 1 <= p.2 := by
 have key : ∀ (bs acc : List (γ × Int)), (∀ p ∈ acc, 1 <= p.2) -> (∀ p ∈ bs, 1 <= p.2) -> ∀ p ∈ bs.foldl jstep acc, 1 <= p.2 := by
  intro bs
  induction bs with
  | nil => intro acc h _; exact h
  | cons p r ih =>
   intro acc h1 h2
   refine ih (jstep acc p) (fun q hq => ?_) fun q hq => h2 q (mcm _ hq)
   have hp := h2 p (mcs ..)
   rcases List.eq_nil_or_concat acc with h | ⟨a, z, h⟩
   ·subst h
    rw [jstep_nil] at hq
    have : q = p := by simpa using hq
    subst this; exact hp
   ·subst h
    rw [List.concat_eq_append] at h1 hq
    rw [jstep_snoc] at hq
    have hz := h1 z (by simp)
    by_cases e : z.1 = p.1
    ·rw [if_pos e] at hq
     rcases List.mem_append.mp hq with hq | hq
     ·exact h1 q (mal _ hq)
     ·have : q = (p.1, z.2 + p.2) := by simpa using hq
      subst this; show 1 <= z.2 + p.2; omega
    ·rw [if_neg e] at hq
     rcases List.mem_append.mp hq with hq | hq
     ·exact h1 q hq
     ·have : q = p := by simpa using hq
      subst this; exact hp
 exact key bs [] (by simp) h
theorem le_all {bs : List (γ × Int)} (h : ∀ p ∈ bs, 1 <= p.2) : ∀ p ∈ bs, p.2 <= allE bs := by
 induction bs with
 | nil => intro p hp; cases hp
 | cons a r ih =>
  intro p hp
  have hr : 0 <= allE r := by
   clear ih hp
   have : ∀ p ∈ r, 1 <= p.2 := fun p hp => h p (mcm _ hp)
   clear h
   induction r with
   | nil => exact Int.le_refl _
   | cons b r ih2 =>
    have h1 := this b (mcs ..)
    have h2 := ih2 fun p hp => this p (mcm _ hp)
    show 0 <= b.2 + allE r; omega
  have ha := h a (mcs ..)
  rcases List.mem_cons.mp hp with hp | hp
  ·subst hp; show p.2 <= p.2 + allE r; omega
  ·have := ih (fun p hp => h p (mcm _ hp)) p hp
   show p.2 <= a.2 + allE r; omega
theorem all_le {bs : List (γ × Int)} {C : Int} (h : ∀ p ∈ bs, p.2 <= C) : allE bs <= bs.length * C := by
 induction bs with
 | nil => simp [allE]
 | cons a r ih =>
  have h1 := h a (mcs ..)
  have h2 := ih fun p hp => h p (mcm _ hp)
  show a.2 + allE r <= ((r.length + 1 : Nat) : Int) * C
  rw [Int.natCast_add, Int.add_mul]
  simp only [Int.natCast_one, Int.one_mul]
  omega
theorem tdy_pos {bs : List (γ × Int)} (h : ∀ p ∈ bs, 1 <= p.2) : ∀ p ∈ tdy enc bs, 1 <= p.2 /\ p.2 <= allE bs := fun p hp => by
 have h0 : ∀ p ∈ srtE (pairE enc) bs, 1 <= p.2 := fun p hp => h p ((srtE_perm bs).mem_iff.mp hp)
 have h1 := jn_pos h0
 refine ⟨h1 p hp, ?_⟩
 have h2 := le_all h1 p hp
 rw [jn_all, allE_perm (srtE_perm bs)] at h2
 exact h2
end
inductive Gr where
 | nil
 | cons (k : Str) (g : Gr) (m : Int) (r : Gr)
 deriving DecidableEq
abbrev Tr := Str × Gr
def NameOk (k : Str) : Prop := 1 <= k.cps.toList.length /\ k.cps.toList.length <= 8 /\ ∀ c ∈ k.cps.toList, 97 <= c /\ c <= 122
namespace Gr
def encs : Gr -> List PyData
 | .nil => []
 | .cons k g m r => .tuple [.tuple [.str k, .tuple g.encs], .int m] :: r.encs
def enc (g : Gr) : PyData := .tuple g.encs
def tEnc (t : Tr) : PyData := .tuple [.str t.1, t.2.enc]
abbrev pEnc : Tr × Int -> PyData := pairE tEnc
def ps : Gr -> List (Tr × Int)
 | .nil => []
 | .cons k g m r => ((k, g), m) :: r.ps
def ofPs : List (Tr × Int) -> Gr
 | [] => .nil
 | p :: r => .cons p.1.1 p.1.2 p.2 (ofPs r)
theorem ofPs_ps : ∀ g : Gr, ofPs g.ps = g
 | .nil => rfl
 | .cons k g m r => by show Gr.cons k g m (ofPs r.ps) = _; rw [ofPs_ps r]
theorem ps_ofPs : ∀ bs : List (Tr × Int), (ofPs bs).ps = bs
 | [] => rfl
 | p :: r => by show ((p.1.1, p.1.2), p.2) :: (ofPs r).ps = _; rw [ps_ofPs r]
theorem encs_ps : ∀ g : Gr, g.encs = g.ps.map pEnc
 | .nil => rfl
 | .cons k g m r => by show _ :: r.encs = _ :: r.ps.map pEnc; rw [encs_ps r]; rfl
def parts : Gr -> Nat
 | .nil => 0
 | .cons _ g _ r => 1 + g.parts + r.parts
def deep : Gr -> Nat
 | .nil => 0
 | .cons _ g _ r => max (1 + g.deep) r.deep
def size : Gr -> Int
 | .nil => 0
 | .cons _ g m r => m * (1 + g.size) + r.size
def tot : List (Tr × Int) -> Nat
 | [] => 0
 | p :: r => 1 + p.1.2.parts + tot r
theorem parts_ofPs : ∀ bs : List (Tr × Int), (ofPs bs).parts = tot bs
 | [] => rfl
 | p :: r => by show 1 + p.1.2.parts + (ofPs r).parts = 1 + p.1.2.parts + tot r; rw [parts_ofPs r]
theorem tot_ps (g : Gr) : tot g.ps = g.parts := by rw [<- parts_ofPs, ofPs_ps]
theorem tot_append : ∀ bs cs : List (Tr × Int), tot (bs ++ cs) = tot bs + tot cs
 | [], cs => by simp [tot]
 | p :: r, cs => by show 1 + p.1.2.parts + tot (r ++ cs) = _; rw [tot_append r cs, tot]; omega
theorem tot_perm {bs cs : List (Tr × Int)} (h : bs.Perm cs) : tot bs = tot cs := by
 induction h with
 | nil => rfl
 | cons x _ ih => simp only [tot]; omega
 | swap x y l => simp only [tot]; omega
 | trans _ _ h1 h2 => omega
theorem len_tot : ∀ bs : List (Tr × Int), bs.length <= tot bs
 | [] => Nat.le_refl _
 | p :: r => by have := len_tot r; show r.length + 1 <= 1 + p.1.2.parts + tot r; omega
theorem tot_jn (bs : List (Tr × Int)) : tot (jn bs) <= tot bs := by
 have key : ∀ (bs acc : List (Tr × Int)), tot (bs.foldl jstep acc) <= tot acc + tot bs := by
  intro bs
  induction bs with
  | nil => intro acc; simp [tot]
  | cons x r ih =>
   intro acc
   have h1 := ih (jstep acc x)
   have h2 : tot (jstep acc x) <= tot acc + (1 + x.1.2.parts) := by
    rcases List.eq_nil_or_concat acc with h | ⟨a, z, h⟩
    ·subst h; simp [jstep_nil, tot]
    ·subst h
     rw [List.concat_eq_append, jstep_snoc]
     by_cases hz : z.1 = x.1
     ·rw [if_pos hz, tot_append, tot_append]; simp only [tot]; rw [hz]; omega
     ·rw [if_neg hz, tot_append, tot_append]; simp only [tot]; omega
   show tot (r.foldl jstep (jstep acc x)) <= tot acc + (1 + x.1.2.parts + tot r)
   omega
 have := key bs []
 simpa [jn, tot] using this
theorem mem_deep : ∀ (g : Gr) (p : Tr × Int), p ∈ g.ps -> p.1.2.deep < g.deep
 | .nil, p, h => by cases h
 | .cons k g m r, p, h => by
  rcases List.mem_cons.mp h with h | h
  ·subst h; show g.deep < max (1 + g.deep) r.deep; omega
  ·have := mem_deep r p h; show _ < max (1 + g.deep) r.deep; omega
theorem mem_parts : ∀ (g : Gr) (p : Tr × Int), p ∈ g.ps -> p.1.2.parts < g.parts
 | .nil, p, h => by cases h
 | .cons k g m r, p, h => by
  rcases List.mem_cons.mp h with h | h
  ·subst h; show g.parts < 1 + g.parts + r.parts; omega
  ·have := mem_parts r p h; show _ < 1 + g.parts + r.parts; omega
theorem deep_le {n : Nat} : ∀ {g : Gr}, (∀ p ∈ g.ps, p.1.2.deep < n) -> g.deep <= n
 | .nil, _ => Nat.zero_le _
 | .cons k g m r, h => by
  have h1 := h ((k, g), m) (mcs ..)
  have h2 := deep_le (g := r) fun p hp => h p (mcm _ hp)
  show max (1 + g.deep) r.deep <= n
  have : g.deep < n := h1
  omega
theorem len_parts (g : Gr) : g.ps.length <= g.parts := by have := len_tot g.ps; rw [tot_ps] at this; exact this
theorem alikes : ∀ g h : Gr, alikeAll g.encs h.encs = true
 | .nil, _ => by simp [encs, alikeAll]
 | .cons _ _ _ _, .nil => by simp [encs, alikeAll]
 | .cons k g m r, .cons k' g' m' r' => by
  have h1 := alikes g g'
  have h2 := alikes r r'
  simp [encs, alikeAll, alike, h1, h2]
theorem alike_enc (g h : Gr) : alike g.enc h.enc = true := by
 show alike (.tuple g.encs) (.tuple h.encs) = true
 rw [alike]; exact alikes g h
theorem sb (a b : Str) : (a == b) = decide (a = b) := by by_cases h : a = b <;> simp [h]
theorem eqvs : ∀ g h : Gr, PyData.eqvAll g.encs h.encs = decide (g = h)
 | .nil, .nil => by simp [encs, PyData.eqvAll]
 | .nil, .cons _ _ _ _ => by simp [encs, PyData.eqvAll]
 | .cons _ _ _ _, .nil => by simp [encs, PyData.eqvAll]
 | .cons k g m r, .cons k' g' m' r' => by
  have h1 := eqvs g g'
  have h2 := eqvs r r'
  simp [encs, PyData.eqvAll, PyData.eqv, h1, h2, Bool.and_assoc, ib, sb]
theorem eqv_enc (g h : Gr) : PyData.eqv g.enc h.enc = decide (g = h) := by
 rw [enc, enc, PyData.eqv]; exact eqvs g h
instance : Orderly tEnc where
 al a b := by simp [tEnc, alike, alikeAll, alike_enc]
 eq a b := by
  simp only [tEnc, PyData.eqv, PyData.eqvAll, eqv_enc, Bool.and_true, sb]
  by_cases h : a = b
  ·subst h; simp
  ·rw [decide_eq_false h, Bool.and_eq_false_iff]
   by_cases h1 : a.1 = b.1
   ·exact .inr (decide_eq_false fun h2 => h (Prod.ext h1 h2))
   ·exact .inl (decide_eq_false h1)
theorem noLists_encs : ∀ g : Gr, noLists g.encs = true
 | .nil => by simp [encs, noLists]
 | .cons k g m r => by simp [encs, noLists, noList, noLists_encs g, noLists_encs r]
theorem noList_enc (g : Gr) : noList g.enc = true := by simp [enc, noList, noLists_encs g]
theorem noList_tEnc (t : Tr) : noList (tEnc t) = true := by simp [tEnc, noList, noLists, noList_enc]
theorem noList_pEnc (p : Tr × Int) : noList (pEnc p) = true := by simp [pEnc, pairE, noList, noLists, noList_tEnc]
theorem encs_depth : ∀ g : Gr, PyData.depthAll g.encs <= 3 * g.deep
 | .nil => by simp [encs, PyData.depthAll, deep]
 | .cons k g m r => by
  have h1 := encs_depth g
  have h2 := encs_depth r
  simp only [encs, PyData.depthAll, PyData.depth, deep]
  omega
theorem enc_depth (g : Gr) : g.enc.depth <= 3 * g.deep + 1 := by
 have := encs_depth g
 simp only [enc, PyData.depth]
 omega
theorem tEnc_depth (t : Tr) : (tEnc t).depth <= 3 * t.2.deep + 2 := by
 have := enc_depth t.2
 simp only [tEnc, PyData.depth, PyData.depthAll]; omega
theorem pEnc_depth (p : Tr × Int) : (pEnc p).depth <= 3 * p.1.2.deep + 3 := by
 have := tEnc_depth p.1
 simp only [pEnc, pairE, PyData.depth, PyData.depthAll]; omega
def Ok (C : Int) : Gr -> Prop
 | .nil => True
 | .cons k g m r => NameOk k /\ g.Ok C /\ 1 <= m /\ m < C /\ r.Ok C /\ ∀ p ∈ r.ps, dataLt (tEnc (k, g)) (tEnc p.1) = true
theorem Ok.mono {B C : Int} (h : B <= C) : ∀ {g : Gr}, g.Ok B -> g.Ok C
 | .nil, _ => trivial
 | .cons k g m r, ⟨h0, h1, h2, h3, h4, h5⟩ => ⟨h0, Ok.mono h h1, h2, by omega, Ok.mono h h4, h5⟩
theorem ok_ps {C : Int} : ∀ {bs : List (Tr × Int)}, (ofPs bs).Ok C ↔ (∀ p ∈ bs, NameOk p.1.1 /\ p.1.2.Ok C /\ 1 <= p.2 /\ p.2 < C) /\ bs.Pairwise (fun p q => dataLt (tEnc p.1) (tEnc q.1) = true)
 | [] => by simp [ofPs, Ok]
 | x :: r => by
  have ih := ok_ps (C := C) (bs := r)
  show (NameOk x.1.1 /\ x.1.2.Ok C /\ 1 <= x.2 /\ x.2 < C /\ (ofPs r).Ok C /\ ∀ p ∈ (ofPs r).ps, dataLt (tEnc x.1) (tEnc p.1) = true) ↔ _
  rw [ps_ofPs, List.pairwise_cons, ih]
  constructor
  ·rintro ⟨h0, h1, h2, h3, ⟨h4, h5⟩, h6⟩
   refine ⟨fun p hp => ?_, h6, h5⟩
   rcases List.mem_cons.mp hp with hp | hp
   ·subst hp; exact ⟨h0, h1, h2, h3⟩
   ·exact h4 p hp
  ·rintro ⟨h1, h2, h3⟩
   have h4 := h1 x (mcs ..)
   exact ⟨h4.1, h4.2.1, h4.2.2.1, h4.2.2.2, ⟨fun p hp => h1 p (mcm _ hp), h3⟩, h2⟩
theorem ok_iff {C : Int} {g : Gr} : g.Ok C ↔ (∀ p ∈ g.ps, NameOk p.1.1 /\ p.1.2.Ok C /\ 1 <= p.2 /\ p.2 < C) /\ g.ps.Pairwise (fun p q => dataLt (tEnc p.1) (tEnc q.1) = true) := by
 have := ok_ps (C := C) (bs := g.ps)
 rw [ofPs_ps] at this
 exact this
theorem strOk_name {k : Str} (h : NameOk k) : PySem.PyData.strOk k = true := by
 show k.cps.all (· < 0x110000) = true
 rw [Array.all_eq_true']
 intro c hc
 have := h.2.2 c (by simpa using hc)
 simp; omega
theorem lays {C : Int} : ∀ {g : Gr}, g.Ok C -> PyData.canLayAll0 g.encs = true
 | .nil, _ => by simp [encs, PyData.canLayAll0]
 | .cons k g m r, ⟨h0, h1, _, _, h4, _⟩ => by
  have e1 := lays h1
  have e2 := lays h4
  simp [encs, PyData.canLayAll0, PyData.canLay0, e1, e2, strOk_name h0]
theorem shaped_enc {C : Int} {g : Gr} (h : g.Ok C) (hd : g.deep <= 20) : SeqAt.shaped g.enc = true := by
 have := g.enc_depth
 unfold SeqAt.shaped
 rw [show g.enc.canLay0 = true by rw [enc, PyData.canLay0]; exact lays h]
 simp; omega
theorem shaped_tEnc {C : Int} {t : Tr} (h0 : NameOk t.1) (h : t.2.Ok C) (hd : t.2.deep <= 20) : SeqAt.shaped (tEnc t) = true := by
 have := tEnc_depth t
 unfold SeqAt.shaped
 rw [show (tEnc t).canLay0 = true by simp [tEnc, PyData.canLay0, PyData.canLayAll0, strOk_name h0, enc, lays h]]
 simp; omega
theorem pEnc_all (bs : List (Tr × Int)) : AllAlike (bs.map pEnc) := AllAlike.of fun a b => Orderly.al (enc := pEnc) a b
theorem pEnc_sortable (bs : List (Tr × Int)) : Sortable (bs.map pEnc) := Sortable.tuples fun b => ⟨_, _, rfl⟩
def tidy (bs : List (Tr × Int)) : Gr := ofPs (tdy tEnc bs)
theorem tidy_parts (bs : List (Tr × Int)) : (tidy bs).parts <= tot bs := by
 unfold tidy
 rw [parts_ofPs]
 have h1 := tot_jn (srtE (pairE tEnc) bs)
 rw [tot_perm (srtE_perm bs)] at h1
 exact h1
theorem tidy_deep {n : Nat} {bs : List (Tr × Int)} (h : ∀ p ∈ bs, p.1.2.deep < n) : (tidy bs).deep <= n := by
 refine deep_le fun p hp => ?_
 unfold tidy at hp
 rw [ps_ofPs] at hp
 obtain ⟨q, hq, e⟩ := tdy_keys bs p hp
 rw [<- e]; exact h q hq
theorem tidy_ok {C D : Int} {bs : List (Tr × Int)} (h : ∀ p ∈ bs, NameOk p.1.1 /\ p.1.2.Ok C /\ 1 <= p.2) (hD : allE bs < D) (hCD : C <= D) : (tidy bs).Ok D := by
 unfold tidy
 rw [ok_ps]
 refine ⟨fun p hp => ?_, tdy_rise bs⟩
 obtain ⟨q, hq, e⟩ := tdy_keys bs p hp
 have hq2 := h q hq
 obtain ⟨h1, h2⟩ := tdy_pos (enc := tEnc) (fun p hp => (h p hp).2.2) p hp
 rw [<- e]
 exact ⟨hq2.1, hq2.2.1.mono hCD, h1, by omega⟩
end Gr
def GA (K : PySem.W.Frag) (H : Hp) (v : V) (g : Gr) : Prop := Dp K H v g.enc
section
variable {K : PySem.W.Frag} {ps : List Addr} {H H' : Hp} {v : V} {g : Gr}
theorem GA.sb (h : GA K H v g) (e : SB ps H H') : GA K H' v g := Dp_sb e _ _ g.noList_enc h
theorem GA_bears (h : GA K H v g) : ∃ a xs, v = .ref a /\ SqT K H a xs /\ Bears K H Gr.pEnc xs g.ps := by
 have h' : Dp K H v (.tuple g.encs) := h
 cases h' with
 | tup hs ha =>
  rw [Gr.encs_ps] at ha
  exact ⟨_, _, rfl, hs, Bears.of ha⟩
theorem Bears_ga {a : Addr} {xs : List V} {bs : List (Tr × Int)} (h : SqT K H a xs) (hb : Bears K H Gr.pEnc xs bs) : GA K H (.ref a) (Gr.ofPs bs) := by
 refine Dp.tup h ?_
 rw [Gr.encs_ps, Gr.ps_ofPs]
 exact hb.dp
theorem GA_nil {p : Addr} (h : SqT K H p []) : GA K H (.ref p) .nil := Dp.tup h .nil
theorem TA_parts {t : Tr} (h : Dp K H v (Gr.tEnc t)) : ∃ a u, v = .ref a /\ SqT K H a [.str t.1, u] /\ GA K H u t.2 := by
 cases h with
 | tup hs ha =>
  cases ha with
  | cons h1 h2 =>
   cases h2 with
   | cons h3 h4 =>
    cases h4
    cases h1
    exact ⟨_, _, rfl, hs, h3⟩
theorem PA_parts {p : Tr × Int} (h : Dp K H v (Gr.pEnc p)) : ∃ a b u, v = .ref a /\ SqT K H a [.ref b, .int p.2] /\ SqT K H b [.str p.1.1, u] /\ GA K H u p.1.2 /\ Dp K H (.ref b) (Gr.tEnc p.1) := by
 cases h with
 | tup hs ha =>
  cases ha with
  | cons h1 h2 =>
   cases h2 with
   | cons h3 h4 =>
    cases h4
    cases h3
    obtain ⟨b, u, rfl, hb, hg⟩ := TA_parts h1
    exact ⟨_, b, u, rfl, hs, hb, hg, h1⟩
end
def PuG (H : Hp) (p : Addr) : Prop := ∃ x y : Int, H p = some (.lst [.int x, .int y]) /\ 0 <= x /\ 1 <= y /\ y <= 18446744073709551557
theorem PuG.sb {H H' : Hp} {p : Addr} (h : PuG H p) (e : SB [] H H') : PuG H' p := by
 obtain ⟨x, y, h1, h2⟩ := h
 exact ⟨x, y, e.keep _ _ h1 nmn, h2⟩
theorem PuG.keep {H H' : Hp} {p : Addr} {ps : List Addr} (h : PuG H p) (e : SB ps H H') (n : p ∉ ps) : PuG H' p := by
 obtain ⟨x, y, h1, h2⟩ := h
 exact ⟨x, y, e.keep _ _ h1 n, h2⟩
theorem PuG.new {H : Hp} {p q : Addr} (h : PuG H p) (n : H q = none) {o : HO} : PuG (upd H q o) p := by
 obtain ⟨x, y, h1, h2⟩ := h
 exact ⟨x, y, by rw [upd_ne (ne_of_none h1 n)]; exact h1, h2⟩
theorem PuG.ne {H : Hp} {p q : Addr} (h : PuG H p) (n : H q = none) : p ≠ q := by
 obtain ⟨x, y, h1, h2⟩ := h
 exact ne_of_none h1 n
def spPurseG (K : PySem.W.Frag) : Sp := fun vs H Q _ => ∃ (a : Addr) (ns : List Int) (k : Nat), vs = [.ref a, .int (k : Int)] /\ SqL K H a (ns.map V.int) /\ ns.length <= 63 /\ k <= 1000 /\ ∀ p H', SB [] H H' -> H p = none -> PuG H' p -> Q (.ref p) H'
def spTakeG : Sp := fun vs H Q _ => ∃ (p : Addr) (m : Int), vs = [.ref p, .int m] /\ PuG H p /\ 1 <= m /\ m < 2 ^ 250 /\ ∀ r H', 0 <= r -> r < m -> SB [p] H H' -> PuG H' p -> Q (.int r) H'
def spTidyG (K : PySem.W.Frag) : Sp := fun vs H Q _ => ∃ (a : Addr) (xs : List V) (bs : List (Tr × Int)), vs = [.ref a] /\ (SqL K H a xs \/ SqT K H a xs) /\ Bears K H Gr.pEnc xs bs /\ bs.length <= 1000 /\ (∃ C, ∀ p ∈ bs, NameOk p.1.1 /\ p.1.2.Ok C /\ p.1.2.deep <= 18) /\
 ∀ (v : V) (H' : Hp), SB [] H H' -> GA K H' v (Gr.tidy bs) -> Q v H'
abbrev abc : Str := Str.ofString "abcdefghijklmnopqrstuvwxyz"
theorem atI_natN {xs : List Nat} {j : Nat} {c : Nat} (h : xs[j]? = some c) : atI xs (j : Int) = some c := by
 have hj : j < xs.length := (List.getElem?_eq_some_iff.mp h).1
 unfold atI ixN
 rw [if_pos (by omega), if_pos (by omega)]
 simpa using h
theorem cutTakeS (ks : List Str) (k : Nat) : cutV (ks.map V.str) none (some (k : Int)) = (ks.take k).map V.str := by rw [cutTake, List.map_take]
theorem cutDropS (ks : List Str) (k : Nat) : cutV (ks.map V.str) (some (k : Int)) none = (ks.drop k).map V.str := by rw [cutDrop, List.map_drop]
def rSortedB (K : PySem.W.Frag) {β : Type} (enc : β -> PyData) (vs : List V) (H : Hp) (Q : VK) : Prop := ∃ (a : Addr) (xs : List V) (bs : List β), vs = [V.ref a] /\ (SqL K H a xs \/ SqT K H a xs) /\ Bears K H enc xs bs /\ AllAlike (bs.map enc) /\ Sortable (bs.map enc) /\ bs.length <= 10000000 /\ (∀ b ∈ bs, (enc b).depth <= 100) /\
 ∀ (p : Addr) (ys : List V), H p = none -> Bears K H enc ys (bs.mergeSort (dataLe false enc)) -> Q (.ref p) (upd H p (.lst ys))
theorem cr_sortedB {X : Cx} {β : Type} (enc : β -> PyData) (hu : X.A.units + 110 < cLine) : CallR X (.builtin "sorted") (rSortedB X.K enc) := by
 intro pins s σ H vs us Q I r h
 obtain ⟨a, xs, bs, h1, h2, h3⟩ := h
 rcases h2 with h2 | h2
 ·exact cr_sortedL enc hu pins s σ H vs us Q I r ⟨a, xs, bs, h1, h2, h3⟩
 ·exact cr_sortedT enc hu pins s σ H vs us Q I r ⟨a, xs, bs, h1, h2, h3⟩
theorem Gr.shaped_rows {bs : List (Tr × Int)} (h : ∃ C, ∀ b ∈ bs, NameOk b.1.1 /\ b.1.2.Ok C /\ b.1.2.deep <= 18) : SeqAt.shaped (.list (bs.map Gr.pEnc)) = true := by
 obtain ⟨C, h⟩ := h
 have h1 : PyData.canLayAll0 (bs.map Gr.pEnc) = true := by
  induction bs with
  | nil => simp [PyData.canLayAll0]
  | cons b r ih =>
   have e := ih fun c hc => h c (mcm _ hc)
   obtain ⟨n, o, _⟩ := h b (mcs ..)
   rw [List.map_cons, PyData.canLayAll0, e]
   simp [Gr.pEnc, pairE, Gr.tEnc, PyData.canLay0, PyData.canLayAll0, Gr.enc, Gr.lays o, Gr.strOk_name n]
 have h2 : PyData.depthAll (bs.map Gr.pEnc) <= 57 := by
  clear h1
  induction bs with
  | nil => simp [PyData.depthAll]
  | cons b r ih =>
   have e1 := ih (fun c hc => h c (mcm _ hc))
   have e2 := (h b (mcs ..)).2.2
   have e3 := Gr.pEnc_depth b
   rw [List.map_cons, PyData.depthAll]
   omega
 have h3 : (PyData.list (bs.map Gr.pEnc)).depth = PyData.depthAll (bs.map Gr.pEnc) + 1 := by simp [PyData.depth]
 unfold SeqAt.shaped
 rw [PyData.canLay0, h1, Bool.true_and]
 exact decide_eq_true (by omega)
namespace Gr
def within : Gr -> List (Tr × Int)
 | .nil => []
 | .cons k g m r => ((k, g), m) :: (g.within ++ r.within)
theorem within_ps : ∀ g : Gr, g.within = g.ps.flatMap fun p => p :: p.1.2.within
 | .nil => rfl
 | .cons k g m r => by show ((k, g), m) :: (g.within ++ r.within) = _; rw [within_ps r]; rfl
theorem within_length : ∀ g : Gr, g.within.length = g.parts
 | .nil => rfl
 | .cons k g m r => by show (g.within ++ r.within).length + 1 = 1 + g.parts + r.parts; rw [List.length_append, within_length g, within_length r]; omega
theorem size_ps : ∀ g : Gr, g.size = (g.ps.map fun p => p.2 * (1 + p.1.2.size)).sum
 | .nil => rfl
 | .cons k g m r => by show m * (1 + g.size) + r.size = m * (1 + g.size) + (r.ps.map fun p => p.2 * (1 + p.1.2.size)).sum; rw [size_ps r]
end Gr
def spPairsW (K : PySem.W.Frag) (n : Nat) : Sp := fun vs H Q _ => ∃ (v : V) (g : Gr), vs = [v] /\ GA K H v g /\ g.deep < n /\ g.parts <= 200000 /\ ∀ (D : Addr) (us : List V) (H' : Hp), SB [] H H' -> H D = none -> H' D = some (.lst us) -> Bears K H' Gr.pEnc us g.within -> Q (.ref D) H'
section
variable {P : Program} {w : World} {K : PySem.W.Frag} {mg : Str -> Option Value} {base : Heap} {f : Addr} {fd : FuncData}
theorem none_pairs_within {ps : List Str} {k : Nat} : FnOk P w K mg base CX0 k f fd ps (spPairsW K 0) := none_sp fun vs H Q E ⟨v, l, _, _, h, _⟩ => by omega
end
mutual
def plS : PyData -> Bool
 | .int _ => true
 | .str x => PyData.strOk x
 | .tuple ds => plSs ds
 | _ => false
def plSs : List PyData -> Bool
 | [] => true
 | d :: ds => plS d && plSs ds
end
mutual
theorem plS_lay : ∀ d : PyData, plS d = true -> d.canLay0 = true
 | .int _, _ => by simp [PyData.canLay0]
 | .str _, h => by rw [plS] at h; rw [PyData.canLay0]; exact h
 | .tuple ds, h => by rw [plS] at h; rw [PyData.canLay0]; exact plSs_lay ds h
 | .none, h => by simp [plS] at h
 | .bool _, h => by simp [plS] at h
 | .list _, h => by simp [plS] at h
 | .dict _, h => by simp [plS] at h
theorem plSs_lay : ∀ ds : List PyData, plSs ds = true -> PyData.canLayAll0 ds = true
 | [], _ => by simp [PyData.canLayAll0]
 | d :: ds, h => by
  rw [plSs, Bool.and_eq_true] at h
  rw [PyData.canLayAll0, plS_lay d h.1, plSs_lay ds h.2]; rfl
end
namespace Gr
def tgt (g k : Gr) : Gr := tidy (g.ps ++ k.ps)
theorem tgt_ps (g k : Gr) : (tgt g k).ps = tdy tEnc (g.ps ++ k.ps) := ps_ofPs _
abbrev S (g : Gr) (t : Tr) : Int := sumE g.ps t
theorem S_tgt (g k : Gr) (t : Tr) : S (tgt g k) t = S g t + S k t := by
 show sumE (tgt g k).ps t = _
 rw [tgt_ps, tdy_sum, sumE_append]
theorem S_zero {bs : List (Tr × Int)} {t : Tr} (h : ∀ p ∈ bs, p.1 ≠ t) : sumE bs t = 0 := by
 induction bs with
 | nil => rfl
 | cons p r ih =>
  show (if p.1 = t then p.2 else 0) + sumE r t = 0
  rw [if_neg (h p (mcs ..)), ih fun q hq => h q (mcm _ hq)]; rfl
end Gr
theorem small5 {n : Nat} (h : n <= 1000000) : n < sizeLine := by
 have : sizeLine = 16777216 := sizeLine_eq
 omega
open PySem.Sem in
theorem enumT_new {v : Value} {o : Obj} {Hh : Heap -> Prop} (Bg : Begins v o Hh) :
  Meets (Builtin.«enumerate.__new__» ⟨[.type "enumerate", v], []⟩) (fun _ R s => Hh s.heap /\ R (.ok (.ret (.ref (s.heap.push o).objs.size))) { s with heap := (s.heap.push o).push { cls := .type "enumerate", data := .fields #[.none, .bool false, .ref s.heap.objs.size, rawInt 0, .none, .none] } }) :=
 .of_wp fun prog w A R s h => by
  obtain ⟨hp, g, d, tk, os⟩ := s
  obtain ⟨h1, h⟩ := h
  have hsub := sub_enumerate
  have go : ∀ {A2 : Around} {E2 : Value -> Shared -> Prop} {Q2 : Value -> Shared -> Prop}, Q2 (.ref hp.objs.size) ⟨hp.push o, g, d, tk, os⟩ -> wpAny (model prog w) A2 (pyIter v) Q2 E2 ⟨hp, g, d, tk, os⟩ := fun z => Bg.iter prog w _ _ ⟨hp, g, d, tk, os⟩ _ h1 z
  wp_walk using go
  refine wpAny_stack_any fun stk => wpAny_pure ?_
  split
  ·rename_i cl _ _ _ _ _
   cases (cl == Value.type "enumerate") <;> (wp_walk using go; exact ⟨_, rfl, h⟩)
  ·wp_walk using go; exact ⟨_, rfl, h⟩
section
variable {prog : Program} {w : World} {A : Around} {E : Value -> Shared -> Prop} {s : Shared}
theorem call_enumT {t : Addr} {items : Array Value} {Q : Value -> Shared -> Prop} (hT : s.heap.IsTuple t items)
  (h : ∀ h2, IsEnum h2 (s.heap.objs.size + 1) s.heap.objs.size 0 .none -> h2.IsTupleIter s.heap.objs.size t 0 -> (∀ b ob, s.heap.get? b = some ob -> h2.get? b = some ob) -> Q (.ref (s.heap.objs.size + 1)) { s with heap := h2 }) : wpAny (model prog w) A (call (.type "enumerate") [.ref t]) Q E s := by
 have Bg := begins_tuple t items
 refine callType_new F.called_enumerate (by decide) (F.typeCall_enumerate_1 _) (F.newCall_enumerate_1 _) (fun ob => F.args_object_init_2 ob _) F.entry_enumerate_new (enumT_new Bg) ⟨hT, ?_⟩
 have hz : (s.heap.push { cls := .type "tuple_iterator", data := .fields #[.ref t, .int 0 0] }).objs.size = s.heap.objs.size + 1 := Heap.size_push ..
 show _ /\ _
 rw [hz]
 have he : IsEnum ((s.heap.push { cls := .type "tuple_iterator", data := .fields #[.ref t, .int 0 0] }).push { cls := .type "enumerate", data := .fields #[.none, .bool false, .ref s.heap.objs.size, rawInt 0, .none, .none] }) (s.heap.objs.size + 1) s.heap.objs.size 0 .none := by
  have z := Heap.get?_push_size (s.heap.push { cls := .type "tuple_iterator", data := .fields #[.ref t, .int 0 0] }) (o := { cls := .type "enumerate", data := .fields #[.none, .bool false, .ref s.heap.objs.size, rawInt 0, .none, .none] }) rfl
  rw [hz] at z
  exact z
 exact ⟨⟨_, he, rfl⟩, h _ he ⟨_, Heap.get?_push_of_some _ (Heap.get?_push_size _ rfl), rfl, rfl⟩ fun b ob x => Heap.get?_push_of_some _ (Heap.get?_push_of_some _ x)⟩
end
def IteT (K : PySem.W.Frag) (a : Addr) : It :=
 ⟨fun i H => ∃ (xs : List V) (x : V), SqT K H a xs /\ xs[i]? = some x,
  fun i H v H2 => ∃ T x, v = .ref T /\ H T = none /\ H2 = upd H T (.tup [.int (i : Nat), x]) /\ ∀ xs, SqT K H a xs -> xs[i]? = some x,
  fun i H => ∃ xs : List V, SqT K H a xs /\ xs.length = i⟩
theorem turn_enumT {P : Program} {w : World} {K : PySem.W.Frag} {elts : List Expr} {kk : Nat} {tpos : Pos} (a e it : Addr) (hei : e ≠ it) (hai : a ≠ it) (hea : e ≠ a) :
  Turn P w K (.Tuple elts kk tpos) (IteT K a) [e, it] e (fun i h => (∃ old, IsEnum h e it ((i : Nat) : Int) old) /\ h.IsTupleIter it a i) where
 mem := by simp
 obj := fun i h st b hb => by
  obtain ⟨⟨old, he⟩, o, ho, hc, hd⟩ := st
  rcases (show b = e \/ b = it by simpa using hb) with z | z
  ·rw [z]; exact ⟨_, he, fun v q => nomatch q⟩
  ·rw [z]; exact ⟨o, ho, fun v q => by rw [hd] at q; cases q⟩
 keep := fun i h h2 st k => let ⟨⟨old, he⟩, o, ho, r⟩ := st; ⟨⟨old, k e (by simp) _ he⟩, o, k it (by simp) o ho, r⟩
 item := by
  intro X hP hw hK hc i pins s σ H E I hf st hg
  subst hP hw hK
  obtain ⟨⟨old, he⟩, hit⟩ := st
  obtain ⟨xs, x, hq, hx⟩ := hg
  obtain ⟨its, rv, p, hz⟩ := I.tuple hq
  obtain ⟨u, hu, ru⟩ := rv.get hx
  have hel : e < s.heap.objs.size := Heap.lt_size he
  have hil : it < s.heap.objs.size := by obtain ⟨_, z, _⟩ := hit; exact Heap.lt_size z
  have Dr := Draws.tuple (prog := X.prog) (w := X.w) (A := X.A.in1) (I.ok.hd hc) it a hai its.toArray
  have hlt : i < its.toArray.size := by
   have := (List.getElem?_eq_some_iff.mp hu).1
   simpa using this
  refine wpAny_pyNext_enum_itemD Dr he ⟨hit, p⟩ hlt hei (by simp [hei, hea]) fun y h2 tk hy ho hst hT hsz hk => ?_
  have hyu : y = u := by
   have h3 : its[i]? = some y := by simpa using hy
   rw [hu] at h3; exact (Option.some.inj h3).symm
  subst hyu
  refine ⟨_, rfl, wpAny_letOwnedTupleGo_enum (s := { s with heap := h2, toks := tk + 1 }) ho fun h3 he3 sb => ?_⟩
  have hT2 : h3.get? s.heap.objs.size = some { cls := .type "tuple", data := .seq #[.int i tk, y] } := (sb.2 _ (Nat.ne_of_gt hel)).trans hT
  have nw : ObjOk X.prog X.w (upd H s.heap.objs.size (.tup [.int (i : Nat), x])) h3 s.heap.objs.size (.tup [.int (i : Nat), x]) := ⟨by show 2 <= sizeLine; decide, [.int i tk, y], .cons ⟨_, rfl⟩ (.cons ru .nil), ⟨_, hT2, rfl, _, rfl⟩⟩
  have I1 : Inv X pins σ (upd H s.heap.objs.size (.tup [.int (i : Nat), x])) { s with heap := h3, toks := tk + 1 } := I.turnedNew (ch := [e, it]) (fun b ob hb z => (sb.2 b (fun y => hb (by simp [y]))).trans (hk b ob (fun y => hb (by simp [y])) (fun y => hb (by simp [y])) z)) hf (Nat.le_refl _) nw
  refine ⟨.ref s.heap.objs.size, _, I1, rfl, ⟨_, x, rfl, I.hok.fresh (Nat.le_refl _), rfl, fun ys hy => by rw [I.tuple_inj hy hq]; exact hx⟩, ⟨⟨y, ?_⟩, ?_⟩, fun b hb => ?_⟩
  ·rw [show ((i + 1 : Nat) : Int) = (i : Int) + 1 by omega]; exact he3
  ·obtain ⟨o, ho2, r⟩ := hst.1
   exact ⟨o, (sb.2 it (Ne.symm hei)).trans ho2, r⟩
  ·have hb2 : b < s.heap.objs.size := by
    rcases (show b = e \/ b = it by simpa using hb) with z | z
    ·rw [z]; exact hel
    ·rw [z]; exact hil
   rw [upd_ne (Nat.ne_of_lt hb2)]; exact (hf b hb).1
 done := by
  intro X hP hw hK hc i pins s σ H E I hf st hg
  subst hP hw hK
  obtain ⟨⟨old, he⟩, hit⟩ := st
  obtain ⟨xs, hq, hx⟩ := hg
  obtain ⟨its, rv, p, hz⟩ := I.tuple hq
  obtain ⟨f0, f1, f2, f3, f4, f5⟩ := hf it (by simp)
  have hl := rv.length
  have ht : s.heap.IsTuple a its.toArray := p
  have Dr := Draws.tuple (prog := X.prog) (w := X.w) (A := X.A.in1) (I.ok.hd hc) it a hai its.toArray
  have hn : its.toArray.size = i := by simp; omega
  refine wpAny_pyNext_enum_endD Dr he ⟨by rw [hn]; exact hit, ht⟩ fun h2 eb => ⟨rfl, I.turned (t' := s.toks) (fun b o hb z => eb b o hb z) f0 f1 f3 f4 f5⟩
 self := fun A i s Q E st h => let ⟨⟨_, he⟩, _⟩ := st; wpAny_pyIter_enum he h
def iEnumT (K : PySem.W.Frag) (te : TE) : TI := fun σ H R => te σ H fun v H1 => ∃ a xs, v = .ref a /\ SqT K H1 a xs /\ R (IteT K a) H1
theorem pi_enumT {X : Cx} {ex : Expr} {te : TE} {p pos tpos : Pos} {elts : List Expr} {kk : Nat} (hg : Gl X "enumerate") (hm : X.mg "enumerate" = none) (he : PE X ex te) (hs : starEach [ex] X.env = (false, eval ex X.env) :: starEach [] X.env := by rfl) :
  PI X (.Tuple elts kk tpos) (.Call (.Name "enumerate" p) [ex] [] pos) (iEnumT X.K te) := by
 refine ⟨fun pins s σ H R I h => ?_⟩
 refine Call_ (ld_blt I hg hm boot_enumerate (PyProof.Rows.callWith_type1 (args_cons (thn (he.run pins s σ H _ I h) fun u s1 ⟨v, H1, I1, r1, q1⟩ => args_nil ?_) hs) hs rfl))
 obtain ⟨a, xs, ev, hq, q⟩ := q1
 subst ev
 cases r1
 obtain ⟨its, rv, pt, hz⟩ := I1.tuple hq
 have ht : s1.heap.IsTuple a its.toArray := pt
 have hal : a < s1.heap.objs.size := by obtain ⟨_, z, _⟩ := ht; exact Heap.lt_size z
 refine call_enumT ht fun h2 he2 hit hk => wpAny_pyIter_enum he2 ?_
 have I2 : Inv X pins σ H1 { s1 with heap := h2 } := I1.kept (t' := s1.toks) hk
 refine ⟨s1.heap.objs.size + 1, [s1.heap.objs.size + 1, s1.heap.objs.size], _, _, H1, rfl, I2, turn_enumT a (s1.heap.objs.size + 1) s1.heap.objs.size (Nat.succ_ne_self _) (Nat.ne_of_lt hal) (Nat.ne_of_gt (Nat.lt_succ_of_lt hal)), ⟨⟨.none, he2⟩, hit⟩, fun b hb => ?_, q⟩
 have hle : s1.heap.objs.size <= b := by
  rcases (show b = s1.heap.objs.size + 1 \/ b = s1.heap.objs.size by simpa using hb) with z | z
  ·rw [z]; exact Nat.le_add_right _ _
  ·rw [z]; exact Nat.le_refl _
 exact I1.fpOk hle (I1.hok.fresh hle)
theorem walk_enumT {K : PySem.W.Frag} {a : Addr} {xs : List V} : Walk (IteT K a) xs.length (fun H => SqT K H a xs) (YPair (fun i => some (.int (i : Nat))) (fun i => xs[i]?)) := by
 refine ⟨fun i _ hi q => ⟨xs, xs[i], q, by simp [hi]⟩, fun _ q => ⟨xs, q, rfl⟩, fun i H v H2 _ q y => ?_⟩
 obtain ⟨T, x, h1, h2, h3, h4⟩ := y
 exact ⟨T, .int (i : Nat), x, h1, h2, h3, rfl, h4 xs q⟩
abbrev Pl := List Nat
def plInts (p : Pl) : List PyData := p.map fun n : Nat => .int (n : Int)
def plEnc (p : Pl) : PyData := .tuple (plInts p)
theorem pl_alikes : ∀ p q : Pl, alikeAll (plInts p) (plInts q) = true
 | [], _ => by simp [plInts, alikeAll]
 | _ :: _, [] => by simp [plInts, alikeAll]
 | a :: p, b :: q => by
  have := pl_alikes p q
  show alikeAll (.int a :: plInts p) (.int b :: plInts q) = true
  simp [alikeAll, alike, this]
theorem pl_eqvs : ∀ p q : Pl, PyData.eqvAll (plInts p) (plInts q) = decide (p = q)
 | [], [] => by simp [plInts, PyData.eqvAll]
 | [], _ :: _ => by simp [plInts, PyData.eqvAll]
 | _ :: _, [] => by simp [plInts, PyData.eqvAll]
 | a :: p, b :: q => by
  have ih := pl_eqvs p q
  show PyData.eqvAll (.int a :: plInts p) (.int b :: plInts q) = _
  simp only [PyData.eqvAll, PyData.eqv, ih, ib]
  by_cases h : a = b
  ·subst h; simp
  ·have : ¬ ((a : Int) = (b : Int)) := by omega
   simp [h, this]
instance : Orderly plEnc where
 al a b := by show alike (.tuple _) (.tuple _) = true; rw [alike]; exact pl_alikes a b
 eq a b := by show PyData.eqv (.tuple _) (.tuple _) = _; rw [PyData.eqv]; exact pl_eqvs a b
theorem pl_noList (p : Pl) : noList (plEnc p) = true := by
 have : ∀ p : Pl, noLists (plInts p) = true := by
  intro p
  induction p with
  | nil => simp [plInts, noLists]
  | cons a r ih => show noLists (.int a :: plInts r) = true; simp [noLists, noList, ih]
 show noList (.tuple _) = true
 rw [noList]; exact this p
theorem PL_ints {K : PySem.W.Frag} {H : Hp} {v : V} {p : Pl} (h : Dp K H v (plEnc p)) : ∃ a, v = .ref a /\ SqT K H a (p.map fun n : Nat => V.int (n : Int)) := by
 have key : ∀ {p : Pl} {xs : List V}, DpAll K H xs (plInts p) -> xs = p.map fun n : Nat => V.int (n : Int) := by
  intro p
  induction p with
  | nil => intro xs h; cases h; rfl
  | cons a r ih =>
   intro xs h
   cases h with
   | cons h1 h2 => cases h1; rw [ih h2]; rfl
 cases h with
 | tup hs ha => rw [key ha] at hs; exact ⟨_, rfl, hs⟩
theorem PL_of {K : PySem.W.Frag} {H : Hp} {a : Addr} {p : Pl} (h : SqT K H a (p.map fun n : Nat => V.int (n : Int))) : Dp K H (.ref a) (plEnc p) := by
 refine Dp.tup h ?_
 have key : ∀ p : Pl, DpAll K H (p.map fun n : Nat => V.int (n : Int)) (plInts p) := by
  intro p
  induction p with
  | nil => exact .nil
  | cons a r ih => exact .cons (.int _) ih
 exact key p
namespace Gr
def bp : Gr -> Nat -> List Pl
 | .nil, _ => []
 | .cons _ g _ r, i => (if g = .nil then [[i]] else (g.bp 0).map (i :: ·)) ++ r.bp (i + 1)
def bpP (p : Tr × Int) (i : Nat) : List Pl := if p.1.2 = .nil then [[i]] else (p.1.2.bp 0).map (i :: ·)
def bps : List (Tr × Int) -> Nat -> List Pl
 | [], _ => []
 | p :: r, i => bpP p i ++ bps r (i + 1)
theorem bp_ps : ∀ (g : Gr) (i : Nat), g.bp i = bps g.ps i
 | .nil, _ => rfl
 | .cons k g m r, i => by show _ ++ r.bp (i + 1) = _ ++ bps r.ps (i + 1); rw [bp_ps r]; rfl
theorem bps_append : ∀ (as bs : List (Tr × Int)) (i : Nat), bps (as ++ bs) i = bps as i ++ bps bs (i + as.length)
 | [], bs, i => by simp [bps]
 | p :: r, bs, i => by
  show bpP p i ++ bps (r ++ bs) (i + 1) = _
  rw [bps_append r bs (i + 1)]
  show _ = (bpP p i ++ bps r (i + 1)) ++ bps bs (i + (r.length + 1))
  rw [List.append_assoc, show i + 1 + r.length = i + (r.length + 1) by omega]
theorem bps_take {bs : List (Tr × Int)} {i : Nat} {p : Tr × Int} (h : bs[i]? = some p) : bps (bs.take (i + 1)) 0 = bps (bs.take i) 0 ++ bpP p i := by
 have hl : i < bs.length := (List.getElem?_eq_some_iff.mp h).1
 rw [List.take_add_one, h, bps_append, List.length_take, Nat.min_eq_left (by omega), Nat.zero_add]
 show _ ++ (bpP p i ++ []) = _
 rw [List.append_nil]
theorem bp_len : ∀ (g : Gr) (i : Nat), (g.bp i).length <= g.parts
 | .nil, _ => Nat.zero_le _
 | .cons k g m r, i => by
  have h1 := bp_len g 0
  have h2 := bp_len r (i + 1)
  show (_ ++ r.bp (i + 1)).length <= 1 + g.parts + r.parts
  rw [List.length_append]
  split
  ·show 1 + _ <= _; omega
  ·rw [List.length_map]; omega
theorem bp_long : ∀ (g : Gr) (i : Nat), ∀ p ∈ g.bp i, p.length <= g.deep
 | .nil, _, p, h => by cases h
 | .cons k g m r, i, p, h => by
  have h1 := bp_long g 0
  have h2 := bp_long r (i + 1)
  show p.length <= max (1 + g.deep) r.deep
  rcases List.mem_append.mp h with h | h
  ·by_cases hg : g = .nil
   ·rw [if_pos hg] at h
    have : p = [i] := by simpa using h
    subst this; show 1 <= _; omega
   ·rw [if_neg hg] at h
    obtain ⟨q, hq, rfl⟩ := List.mem_map.mp h
    have := h1 q hq
    show q.length + 1 <= _; omega
  ·have := h2 p h; omega
end Gr
def spBareP (K : PySem.W.Frag) (n : Nat) : Sp := fun vs H Q _ => ∃ (v : V) (g : Gr), vs = [v] /\ GA K H v g /\ g.deep < n /\ g.deep <= 100 /\ g.parts <= 1000 /\ ∀ (D : Addr) (us : List V) (H' : Hp), SB [] H H' -> H D = none -> H' D = some (.lst us) -> Bears K H' plEnc us (g.bp 0) -> Q (.ref D) H'
section
variable {P : Program} {w : World} {K : PySem.W.Frag} {mg : Str -> Option Value} {base : Heap} {f : Addr} {fd : FuncData}
theorem none_bare_places {ps : List Str} {k : Nat} : FnOk P w K mg base CX0 k f fd ps (spBareP K 0) := none_sp fun vs H Q E ⟨v, l, _, _, h, _⟩ => by omega
end
def Wh (K : PySem.W.Frag) (H : Hp) (v : V) (o : Option Int) : Prop := (∃ i, v = .int i /\ o = some i) \/ (o = none /\ ∃ (n : String) (b1 b2 : Bool), TyX K H v (.type n) /\ kitB n "int" = some b1 /\ (b1 = true -> kitB n "bool" = some b2) /\ (b1 && !b2) = false)
inductive Whs (K : PySem.W.Frag) (H : Hp) : List V -> List (Option Int) -> Prop where
 | nil : Whs K H [] []
 | cons {v : V} {o : Option Int} {vs : List V} {os : List (Option Int)} : Wh K H v o -> Whs K H vs os -> Whs K H (v :: vs) (o :: os)
section
variable {K : PySem.W.Frag} {H H' : Hp}
theorem Whs.length : ∀ {vs : List V} {os : List (Option Int)}, Whs K H vs os -> vs.length = os.length
 | _, _, .nil => rfl
 | _, _, .cons _ h => congrArg (· + 1) h.length
theorem Whs.get : ∀ {vs : List V} {os : List (Option Int)}, Whs K H vs os -> ∀ {i : Nat} {v : V}, vs[i]? = some v -> ∃ o, os[i]? = some o /\ Wh K H v o
 | _, _, .nil, i, v, e => by simp at e
 | _, _, .cons (o := o) h hs, 0, v, e => by
  have : _ = v := Option.some.inj e
  subst this; exact ⟨o, rfl, h⟩
 | _, _, .cons h hs, i + 1, v, e => hs.get (i := i) e
theorem Wh.sb {v : V} {o : Option Int} (h : Wh K H v o) (e : SB [] H H') : Wh K H' v o := by
 rcases h with h | ⟨h, n, b1, b2, ty, k⟩
 ·exact .inl h
 ·exact .inr ⟨h, n, b1, b2, TyX_sb e (fun _ _ => nmn) ty, k⟩
theorem Whs.sb (e : SB [] H H') : ∀ {vs : List V} {os : List (Option Int)}, Whs K H vs os -> Whs K H' vs os
 | _, _, .nil => .nil
 | _, _, .cons h hs => .cons (h.sb e) (Whs.sb e hs)
def plO (p : Pl) : List (Option Int) := p.map fun n : Nat => some (n : Int)
theorem Whs.pl (K : PySem.W.Frag) (H : Hp) : ∀ p : Pl, Whs K H (p.map fun n : Nat => V.int (n : Int)) (plO p)
 | [] => .nil
 | n :: r => .cons (.inl ⟨_, rfl, rfl⟩) (Whs.pl K H r)
end
def stp (g : Gr) : Option Int -> Option Tr
 | none => none
 | some n => if 0 <= n then (g.ps[n.toNat]?).map (·.1) else none
def lk : Tr -> List (Option Int) -> Option Tr
 | t, [] => some t
 | t, o :: r => (stp t.2 o).bind fun u => lk u r
theorem lk_append : ∀ (t : Tr) (as bs : List (Option Int)), lk t (as ++ bs) = (lk t as).bind fun u => lk u bs
 | t, [], bs => rfl
 | t, o :: r, bs => by
  show (stp t.2 o).bind (fun u => lk u (r ++ bs)) = ((stp t.2 o).bind fun u => lk u r).bind fun u => lk u bs
  cases stp t.2 o with
  | none => rfl
  | some u => exact lk_append u r bs
theorem lk_none {t : Tr} {os : List (Option Int)} {i : Nat} {o : Option Int} {u : Tr} (h1 : lk t (os.take i) = some u) (h2 : os[i]? = some o) (h3 : stp u.2 o = none) : lk t os = none := by
 have hl : i < os.length := (List.getElem?_eq_some_iff.mp h2).1
 have e : os = os.take i ++ o :: os.drop (i + 1) := by
  have := List.drop_eq_getElem_cons hl
  rw [(List.getElem?_eq_some_iff.mp h2).2] at this
  rw [<- this, List.take_append_drop]
 rw [e, lk_append, h1]
 show (stp u.2 o).bind _ = none
 rw [h3]; rfl
theorem lk_next {t : Tr} {os : List (Option Int)} {i : Nat} {o : Option Int} {u x : Tr} (h1 : lk t (os.take i) = some u) (h2 : os[i]? = some o) (h3 : stp u.2 o = some x) : lk t (os.take (i + 1)) = some x := by
 rw [List.take_add_one, h2, lk_append, h1]
 show (stp u.2 o).bind _ = some x
 rw [h3]; rfl
def spTreeAt (K : PySem.W.Frag) (C : Addr) : Sp := fun vs H Q E => ∃ (v : V) (g : Gr) (a : Addr) (xs : List V) (os : List (Option Int)), vs = [v, .ref a] /\ GA K H v g /\ SqT K H a xs /\ Whs K H xs os /\
 (∀ t, os ≠ [] -> lk ("", g) os = some t -> ∀ (x : V) (H' : Hp), SB [] H H' -> Dp K H' x (Gr.tEnc t) -> Q x H') /\ ((os = [] \/ lk ("", g) os = none) -> ∀ H', SB [] H H' -> E (.ref C) none H')
mutual
inductive Tg (K : PySem.W.Frag) (H : Hp) : V -> PyData -> Prop
 | int (i : Int) : Tg K H (.int i) (.int i)
 | str (z : Str) : z.length <= 1000 -> Tg K H (.str z) (.str z)
 | tup {a : Addr} {xs : List V} {ds : List PyData} : SqT K H a xs -> TgAll K H xs ds -> Tg K H (.ref a) (.tuple ds)
 | oth {v : V} {n : String} : TyX K H v (.type n) -> kitB n "tuple" = some false -> kitB n "str" = some false -> (kitB n "int" = some false \/ n = "bool") -> Tg K H v .none
inductive TgAll (K : PySem.W.Frag) (H : Hp) : List V -> List PyData -> Prop
 | nil : TgAll K H [] []
 | cons {v : V} {vs : List V} {d : PyData} {ds : List PyData} : Tg K H v d -> TgAll K H vs ds -> TgAll K H (v :: vs) (d :: ds)
end
mutual
def strip : PyData -> PyData
 | .int i => .int i
 | .tuple ds => .tuple (strips ds)
 | _ => .none
def strips : List PyData -> List PyData
 | [] => []
 | d :: r => strip d :: strips r
end
theorem many_strip (d : PyData) : manyD (strip d) = manyD d := by cases d <;> simp [strip, manyD]
section
variable {K : PySem.W.Frag} {H H' : Hp}
mutual
theorem Tg.th : ∀ {v : V} {d : PyData}, Tg K H v d -> Th K [] H v (strip d)
 | _, _, .int i => by rw [strip]; exact .int i
 | _, _, .str z _ => by rw [strip] <;> first | exact .oth (.base (.str z)) (by decide +kernel) (.inl (by decide +kernel)) (fun _ _ => nmn) | simp
 | _, _, .tup hs ha => by rw [strip]; exact .tup hs (TgAll.th ha)
 | _, _, .oth ty k1 _ k2 => by rw [strip] <;> first | exact .oth ty k1 k2 (fun _ _ => nmn) | simp
theorem TgAll.th : ∀ {vs : List V} {ds : List PyData}, TgAll K H vs ds -> ThAll K [] H vs (strips ds)
 | _, _, .nil => by rw [strips]; exact .nil
 | _, _, .cons h t => by rw [strips]; exact .cons (Tg.th h) (TgAll.th t)
end
mutual
theorem Tg_sb (e : SB [] H H') : ∀ {v : V} {d : PyData}, Tg K H v d -> Tg K H' v d
 | _, _, .int i => .int i
 | _, _, .str z hz => .str z hz
 | _, _, .tup hs ha => .tup (e.sqT hs) (TgAll_sb e ha)
 | _, _, .oth ty k0 k1 k2 => .oth (TyX_sb e (fun _ _ => nmn) ty) k0 k1 k2
theorem TgAll_sb (e : SB [] H H') : ∀ {vs : List V} {ds : List PyData}, TgAll K H vs ds -> TgAll K H' vs ds
 | _, _, .nil => .nil
 | _, _, .cons h t => .cons (Tg_sb e h) (TgAll_sb e t)
end
theorem TgAll.length : ∀ {vs : List V} {ds : List PyData}, TgAll K H vs ds -> vs.length = ds.length
 | _, _, .nil => rfl
 | _, _, .cons _ t => by rw [List.length_cons, List.length_cons, TgAll.length t]
theorem TgAll.get : ∀ {vs : List V} {ds : List PyData} {i : Nat} {v : V}, TgAll K H vs ds -> vs[i]? = some v -> ∃ d, ds[i]? = some d /\ Tg K H v d
 | _, _, _, _, .nil, e => by simp at e
 | _, _, 0, _, .cons h t, e => by simp at e; subst e; exact ⟨_, rfl, h⟩
 | _, _, i + 1, v, .cons h t, e => by
  obtain ⟨d, h1, h2⟩ := TgAll.get (i := i) (v := v) t (by simpa using e)
  exact ⟨d, by simpa using h1, h2⟩
theorem Tg.ty {v : V} {d : PyData} (h : Tg K H v d) : ∃ n b, TyX K H v (.type n) /\ kitB n "tuple" = some b /\ (b = true -> ∃ a xs ds, v = .ref a /\ d = .tuple ds /\ SqT K H a xs /\ TgAll K H xs ds) /\ (b = false -> ∀ ds, d ≠ .tuple ds) := by
 cases h with
 | int i => exact ⟨"int", false, .base (.int i), by decide +kernel, fun z => (nomatch z), fun _ ds z => nomatch z⟩
 | str z hz => exact ⟨"str", false, .base (.str z), by decide +kernel, fun z => (nomatch z), fun _ ds z => nomatch z⟩
 | tup hs ha => exact ⟨"tuple", true, (SqT_ty hs), by decide +kernel, fun _ => ⟨_, _, _, rfl, rfl, hs, ha⟩, fun z => (nomatch z)⟩
 | oth ty k1 _ k2 => exact ⟨_, false, ty, k1, fun z => (nomatch z), fun _ ds z => nomatch z⟩
theorem Tg.txt {v : V} {d : PyData} (h : Tg K H v d) : ∃ n b, TyX K H v (.type n) /\ kitB n "str" = some b /\ (b = true -> ∃ z, v = .str z /\ d = .str z /\ z.length <= 1000) /\ (b = false -> ∀ z, d ≠ .str z) := by
 cases h with
 | int i => exact ⟨"int", false, .base (.int i), by decide +kernel, fun z => (nomatch z), fun _ ds z => nomatch z⟩
 | str z hz => exact ⟨"str", true, .base (.str z), by decide +kernel, fun _ => ⟨z, rfl, rfl, hz⟩, fun z => (nomatch z)⟩
 | tup hs ha => exact ⟨"tuple", false, (SqT_ty hs), by decide +kernel, fun z => (nomatch z), fun _ ds z => nomatch z⟩
 | oth ty _ k1 k2 => exact ⟨_, false, ty, k1, fun z => (nomatch z), fun _ ds z => nomatch z⟩
end
instance (z : Str) : Decidable (NameOk z) := inferInstanceAs (Decidable (_ /\ _ /\ _))
def nameD : PyData -> Bool
 | .str z => decide (NameOk z)
 | _ => false
mutual
def groveD : PyData -> Bool
 | .tuple ds => grPs ds && risingD (ds.map exp0)
 | _ => false
def grPs : List PyData -> Bool
 | [] => true
 | d :: ds => grP d && grPs ds
def grP : PyData -> Bool
 | .tuple ds => grP2 ds
 | _ => false
def grP2 : List PyData -> Bool
 | [] => false
 | t :: r => treeD t && ladP3 r
def treeD : PyData -> Bool
 | .tuple ds => trD2 ds
 | _ => false
def trD2 : List PyData -> Bool
 | [] => false
 | k :: r => nameD k && trD3 r
def trD3 : List PyData -> Bool
 | [] => false
 | g :: r => groveD g && r.isEmpty
end
theorem ladP3_iff {r : List PyData} (h : ladP3 r = true) : ∃ i, r = [.int i] /\ (1 : Int) <= i := by
 match r, h with
 | [], h => simp [ladP3] at h
 | .int i :: [], h => simp [ladP3, manyD] at h; exact ⟨i, rfl, h⟩
 | .int i :: _ :: _, h => simp [ladP3] at h
 | .none :: _, h => simp [ladP3, manyD] at h
 | .bool _ :: _, h => simp [ladP3, manyD] at h
 | .str _ :: _, h => simp [ladP3, manyD] at h
 | .list _ :: _, h => simp [ladP3, manyD] at h
 | .dict _ :: _, h => simp [ladP3, manyD] at h
 | .tuple _ :: _, h => simp [ladP3, manyD] at h
theorem nameD_iff {d : PyData} (h : nameD d = true) : ∃ z, d = .str z /\ NameOk z := by
 cases d with
 | str z => exact ⟨z, rfl, of_decide_eq_true h⟩
 | _ => simp [nameD] at h
mutual
theorem groveD_gr : ∀ d : PyData, groveD d = true -> ∃ g : Gr, d = g.enc
 | .tuple ds, h => by
  rw [groveD, Bool.and_eq_true] at h
  obtain ⟨g, e⟩ := grPs_enc ds h.1
  exact ⟨g, by rw [e]; rfl⟩
 | .none, h => by simp [groveD] at h
 | .bool _, h => by simp [groveD] at h
 | .int _, h => by simp [groveD] at h
 | .str _, h => by simp [groveD] at h
 | .list _, h => by simp [groveD] at h
 | .dict _, h => by simp [groveD] at h
theorem grPs_enc : ∀ ds : List PyData, grPs ds = true -> ∃ g : Gr, ds = g.encs
 | [], _ => ⟨.nil, rfl⟩
 | d :: ds, h => by
  rw [grPs, Bool.and_eq_true] at h
  obtain ⟨r, er⟩ := grPs_enc ds h.2
  obtain ⟨t, i, ed, he⟩ := grP_enc d h.1
  exact ⟨.cons t.1 t.2 i r, by rw [er, ed]; rfl⟩
theorem grP_enc : ∀ d : PyData, grP d = true -> ∃ (t : Tr) (i : Int), d = .tuple [Gr.tEnc t, .int i] /\ (1 : Int) <= i
 | .tuple ds, h => by
  rw [grP] at h
  obtain ⟨e, i, ed, he⟩ := grP2_enc ds h
  exact ⟨e, i, by rw [ed], he⟩
 | .none, h => by simp [grP] at h
 | .bool _, h => by simp [grP] at h
 | .int _, h => by simp [grP] at h
 | .str _, h => by simp [grP] at h
 | .list _, h => by simp [grP] at h
 | .dict _, h => by simp [grP] at h
theorem grP2_enc : ∀ ds : List PyData, grP2 ds = true -> ∃ (t : Tr) (i : Int), ds = [Gr.tEnc t, .int i] /\ (1 : Int) <= i
 | [], h => by simp [grP2] at h
 | d :: r, h => by
  rw [grP2, Bool.and_eq_true] at h
  obtain ⟨t, et⟩ := treeD_tr d h.1
  obtain ⟨i, er, hi⟩ := ladP3_iff h.2
  exact ⟨t, i, by rw [et, er], hi⟩
theorem treeD_tr : ∀ d : PyData, treeD d = true -> ∃ t : Tr, d = Gr.tEnc t
 | .tuple ds, h => by
  rw [treeD] at h
  obtain ⟨t, et⟩ := trD2_enc ds h
  exact ⟨t, by rw [et]; rfl⟩
 | .none, h => by simp [treeD] at h
 | .bool _, h => by simp [treeD] at h
 | .int _, h => by simp [treeD] at h
 | .str _, h => by simp [treeD] at h
 | .list _, h => by simp [treeD] at h
 | .dict _, h => by simp [treeD] at h
theorem trD2_enc : ∀ ds : List PyData, trD2 ds = true -> ∃ t : Tr, ds = [.str t.1, t.2.enc]
 | [], h => by simp [trD2] at h
 | d :: r, h => by
  rw [trD2, Bool.and_eq_true] at h
  obtain ⟨z, ez, _⟩ := nameD_iff h.1
  obtain ⟨g, eg⟩ := trD3_enc r h.2
  exact ⟨(z, g), by rw [ez, eg]⟩
theorem trD3_enc : ∀ ds : List PyData, trD3 ds = true -> ∃ g : Gr, ds = [g.enc]
 | [], h => by simp [trD3] at h
 | d :: r, h => by
  rw [trD3, Bool.and_eq_true] at h
  obtain ⟨g, eg⟩ := groveD_gr d h.1
  have : r = [] := by cases r with | nil => rfl | cons _ _ => simp at h
  exact ⟨g, by rw [eg, this]⟩
end
section
variable {K : PySem.W.Frag} {H : Hp}
theorem GA_tg {C : Int} : ∀ (g : Gr) {vs : List V}, g.Ok C -> DpAll K H vs g.encs -> TgAll K H vs g.encs
 | .nil, vs, _, h => by cases h; exact .nil
 | .cons k g m r, vs, ho, h => by
  cases h with
  | cons h1 h2 =>
   refine .cons ?_ (GA_tg r ho.2.2.2.2.1 h2)
   cases h1 with
   | tup hs ha =>
    cases ha with
    | cons h3 h4 =>
     cases h4 with
     | cons h5 h6 =>
      cases h6; cases h5
      refine .tup hs (.cons ?_ (.cons (.int _) .nil))
      cases h3 with
      | tup hs2 hb =>
       cases hb with
       | cons h7 h8 =>
        cases h8 with
        | cons h9 h10 =>
         cases h10; cases h7
         cases h9 with
         | tup hs3 hc => exact .tup hs2 (.cons (.str _ (by have := ho.1.2.1; simp [Str.length]; simp at this; omega)) (.cons (.tup hs3 (GA_tg g ho.2.1 hc)) .nil))
theorem Tg_ga : ∀ (g : Gr) {vs : List V}, TgAll K H vs g.encs -> DpAll K H vs g.encs
 | .nil, vs, h => by cases h; exact .nil
 | .cons k g m r, vs, h => by
  cases h with
  | cons h1 h2 =>
   refine .cons ?_ (Tg_ga r h2)
   cases h1 with
   | tup hs ha =>
    cases ha with
    | cons h3 h4 =>
     cases h4 with
     | cons h5 h6 =>
      cases h6; cases h5
      refine .tup hs (.cons ?_ (.cons (.int _) .nil))
      cases h3 with
      | tup hs2 hb =>
       cases hb with
       | cons h7 h8 =>
        cases h8 with
        | cons h9 h10 =>
         cases h10; cases h7
         cases h9 with
         | tup hs3 hc => exact .tup hs2 (.cons (.str _) (.cons (.tup hs3 (Tg_ga g hc)) .nil))
end
def spName (K : PySem.W.Frag) : Sp := fun vs H Q _ => ∃ (v : V) (d : PyData), vs = [v] /\ Tg K H v d /\ ∀ H', SB [] H H' -> Q (.bl (nameD d)) H'
def spIsTree (K : PySem.W.Frag) (n : Nat) : Sp := fun vs H Q _ => ∃ (v : V) (d : PyData), vs = [v] /\ Tg K H v d /\ d.depth < n /\ d.depth <= 80 /\ wide d <= 1000 /\ ∀ H', SB [] H H' -> Q (.bl (treeD d)) H'
def spIsGrove (K : PySem.W.Frag) (n : Nat) : Sp := fun vs H Q _ => ∃ (v : V) (d : PyData), vs = [v] /\ Tg K H v d /\ d.depth < n /\ d.depth <= 80 /\ wide d <= 1000 /\ ∀ H', SB [] H H' -> Q (.bl (groveD d)) H'
def spPairsQ (K : PySem.W.Frag) (tp : Bool) (n : Nat) : Sp := fun vs H Q _ => ∃ (a : Addr) (xs : List V) (ds : List PyData), vs = [.ref a] /\ (if tp = true then SqT K H a xs else SqL K H a xs) /\ TgAll K H xs ds /\ PyData.depthAll ds < n /\ PyData.depthAll ds <= 79 /\ wide (.tuple ds) <= 1000 /\ ∀ H', SB [] H H' -> Q (.bl (grPs ds)) H'
def spRunOf (K : PySem.W.Frag) : Sp := fun vs H Q _ => ∃ (z y : Str) (k : Nat), vs = [.str z, .int (k : Int), .str y] /\ z.length <= 100000 /\ k <= z.length /\ ∀ e : Nat, k <= e -> e <= z.length -> (∀ j c, k <= j -> j < e -> z.cps.toList[j]? = some c -> c ∈ y.cps.toList) -> (∀ c, z.cps.toList[e]? = some c -> c ∉ y.cps.toList) -> Q (.str (cutS z (some (k : Int)) (some (e : Int)))) H
theorem mem_abc (c : Nat) : c ∈ abc.cps.toList ↔ 97 <= c /\ c <= 122 := by
 have e : abc.cps.toList = (List.range 26).map (· + 97) := by decide +kernel
 rw [e, List.mem_map]
 constructor
 ·rintro ⟨x, hx, rfl⟩
  have := List.mem_range.mp hx
  omega
 ·intro h
  exact ⟨c - 97, List.mem_range.mpr (by omega), by omega⟩
theorem len_cps (z : Str) : z.cps.toList.length = z.length := by simp [Str.length]
theorem cut0 (z : Str) {e : Nat} (he : e <= z.length) : (cutS z (some ((0 : Nat) : Int)) (some (e : Int))).cps.toList = z.cps.toList.take e := by
 unfold cutS
 rw [HT.sIx_nat, HT.sIx_nat]
 simp [Nat.min_eq_left he]
theorem run_name {z : Str} {e : Nat} (h1 : 1 <= z.length) (h8 : z.length <= 8) (he : e <= z.length) (hin : ∀ j c, 0 <= j -> j < e -> z.cps.toList[j]? = some c -> c ∈ abc.cps.toList) (hout : ∀ c, z.cps.toList[e]? = some c -> c ∉ abc.cps.toList) :
  decide (V.str (cutS z (some ((0 : Nat) : Int)) (some (e : Int))) = V.str z) = nameD (.str z) := by
 have hl := len_cps z
 rw [Bool.eq_iff_iff, decide_eq_true_iff, nameD, decide_eq_true_iff]
 constructor
 ·intro h
  injection h with h
  have h2 := cut0 z he
  rw [h] at h2
  have h3 : z.cps.toList.length = min e z.cps.toList.length := by
   have := congrArg List.length h2
   rwa [List.length_take] at this
  refine ⟨by omega, by omega, fun c hc => ?_⟩
  obtain ⟨j, hj⟩ := List.mem_iff_getElem?.mp hc
  have hj2 := (List.getElem?_eq_some_iff.mp hj).1
  exact (mem_abc c).mp (hin j c (Nat.zero_le _) (by omega) hj)
 ·rintro ⟨_, _, hall⟩
  have e1 : e = z.length := by
   rcases Nat.lt_or_ge e z.length with h | h
   ·obtain ⟨c, hc⟩ : ∃ c, z.cps.toList[e]? = some c := ⟨_, List.getElem?_eq_getElem (by omega)⟩
    exact absurd ((mem_abc c).mpr (hall c (List.mem_of_getElem? hc))) (hout c hc)
   ·omega
  have h2 := cut0 z he
  rw [e1, <- hl, List.take_length] at h2
  congr 1
  have h3 : ∀ a b : Str, a.cps.toList = b.cps.toList -> a = b := by
   intro a b hab
   cases a; cases b
   congr 1
   exact Array.toList_inj.mp hab
  rw [e1, <- hl]
  exact h3 _ _ h2
theorem name_out {z : Str} (h : ¬ (1 <= z.length /\ z.length <= 8)) : nameD (.str z) = false := by
 have hl := len_cps z
 rw [nameD]
 exact decide_eq_false fun ⟨h1, h2, _⟩ => h ⟨by omega, by omega⟩
theorem nameD_ok {z : Str} (h : NameOk z) : nameD (.str z) = true := decide_eq_true h
theorem treeD_of {t : Tr} (h0 : NameOk t.1) (h : groveD t.2.enc = true) : treeD (Gr.tEnc t) = true := by
 rw [Gr.tEnc, treeD, trD2, trD3, nameD_ok h0, h]; rfl
theorem grP_of {t : Tr} {m : Int} (h0 : NameOk t.1) (h : groveD t.2.enc = true) (hm : 1 <= m) : grP (Gr.pEnc (t, m)) = true := by
 show grP (.tuple [Gr.tEnc t, .int m]) = true
 rw [grP, grP2, ladP3, treeD_of h0 h]
 simp [manyD, hm]
theorem groveD_ok {C : Int} : ∀ {g : Gr}, g.Ok C -> groveD g.enc = true
 | .nil, _ => by decide +kernel
 | .cons k g m r, ⟨h0, h1, h2, h3, h4, h5⟩ => by
  have a1 := groveD_ok h1
  have a2 := groveD_ok h4
  rw [Gr.enc, groveD, Bool.and_eq_true] at a2
  have hp : grP (Gr.pEnc ((k, g), m)) = true := grP_of h0 a1 h2
  have e : (Gr.cons k g m r).encs = Gr.pEnc ((k, g), m) :: r.encs := rfl
  rw [Gr.enc, groveD, e, grPs, hp, a2.1, Bool.true_and, Bool.true_and, List.map_cons]
  cases r with
  | nil => rfl
  | cons k2 g2 m2 r2 =>
   have hlt : dataLt (Gr.tEnc (k, g)) (Gr.tEnc (k2, g2)) = true := h5 ((k2, g2), m2) (mcs ..)
   have e2 : (Gr.cons k2 g2 m2 r2).encs = Gr.pEnc ((k2, g2), m2) :: r2.encs := rfl
   have a3 := a2.2
   rw [e2, List.map_cons] at a3 ⊢
   show (dataLt (Gr.tEnc (k, g)) (Gr.tEnc (k2, g2)) :: ltsD _).all id = true
   rw [List.all_cons, show id (dataLt (Gr.tEnc (k, g)) (Gr.tEnc (k2, g2))) = true from hlt, Bool.true_and]
   exact a3
theorem wides_gr : ∀ g : Gr, wides g.encs <= 2 + g.parts /\ g.encs.length <= g.parts
 | .nil => ⟨by show wides [] <= _; rw [wides]; omega, Nat.le_refl _⟩
 | .cons k g m r => by
  obtain ⟨h1, h2⟩ := wides_gr g
  obtain ⟨h3, h4⟩ := wides_gr r
  have e : (Gr.cons k g m r).encs = Gr.pEnc ((k, g), m) :: r.encs := rfl
  have e2 : wide (Gr.pEnc ((k, g), m)) <= 2 + g.parts := by
   show wide (.tuple [.tuple [.str k, .tuple g.encs], .int m]) <= _
   simp only [wide, wides, List.length_cons, List.length_nil]
   omega
  rw [e, wides, List.length_cons]
  show _ <= 2 + (1 + g.parts + r.parts) /\ _ <= 1 + g.parts + r.parts
  omega
section
variable {K : PySem.W.Frag} {H : Hp} {C : Int}
theorem GA_thing {g : Gr} {v : V} (ho : g.Ok C) (h : GA K H v g) : Tg K H v g.enc := by
 cases (h : Dp K H v (.tuple g.encs)) with
 | tup hs ha => exact .tup hs (GA_tg g ho ha)
theorem name_short {z : Str} (h : NameOk z) : z.length <= 1000 := by
 have := h.2.1
 rw [len_cps] at this
 omega
end
theorem jstep_full {γ : Type} [DecidableEq γ] (acc : List (γ × Int)) (p : γ × Int) : jstep acc p ≠ [] := by
 rcases List.eq_nil_or_concat acc with h | ⟨as, q, h⟩
 ·subst h; rw [jstep_nil]; simp
 ·rw [List.concat_eq_append] at h
  subst h
  rw [jstep_snoc]
  split <;> simp
theorem jn_full {γ : Type} [DecidableEq γ] {bs : List (γ × Int)} (h : bs ≠ []) : jn bs ≠ [] := by
 have key : ∀ (bs acc : List (γ × Int)), acc ≠ [] -> bs.foldl jstep acc ≠ [] := by
  intro bs
  induction bs with
  | nil => intro acc h; exact h
  | cons p r ih => intro acc _; exact ih _ (jstep_full acc p)
 cases bs with
 | nil => exact absurd rfl h
 | cons p r => exact key r _ (jstep_full [] p)
theorem Gr.tidy_full {bs : List (Tr × Int)} (h : bs ≠ []) : Gr.tidy bs ≠ .nil := fun z => by
 have e : (Gr.tidy bs).ps = [] := by rw [z]; rfl
 rw [Gr.tidy, Gr.ps_ofPs, tdy] at e
 refine jn_full (fun z2 => h ?_) e
 have := (srtE_perm (enc := Gr.pEnc) bs).length_eq
 rw [z2] at this
 exact List.length_eq_zero_iff.mp this.symm
theorem SB.setD {H : Hp} {p : Addr} {kvs : List (Key × V)} {ps : List Addr} (h : H p = some (.dK kvs)) (hp : p ∈ ps) (o : HO) : SB ps H (upd H p o) := by
 refine ⟨fun b u e n => ?_, fun b u e => ?_, fun b v u e => ?_, fun b e => ?_⟩
 ·rw [upd_ne (fun (z : b = p) => n (by rw [z]; exact hp))]; exact e
 ·rw [upd_ne (fun (z : b = p) => by subst z; rw [h] at e; cases e)]; exact e
 ·rw [upd_ne (fun (z : b = p) => by subst z; rw [h] at e; cases e)]; exact e
 ·by_cases q : b = p
  ·subst q; rw [upd_same] at e; cases e
  ·rw [upd_ne q] at e; exact e
section
variable {K : PySem.W.Frag} {β : Type} {enc : β -> PyData}
theorem while_left {j : Nat} {D : Addr} {tb rest : TS} {De : Ends} {σ : L2.St} {H : Hp} (meas : List β -> Nat) (Pv : List β -> L2.St -> Hp -> Prop) {ws0 : List β} (h0 : Pv ws0 σ H)
  (hl : ∀ ws σ H, Pv ws σ H -> σ[j]? = some (some (.ref D)) /\ ∃ us, H D = some (.lst us) /\ Bears K H enc us ws) (hn : ∀ b, noList (enc b) = true) (hsh : ∀ ws σ H, Pv ws σ H -> SeqAt.shaped (.list (ws.map enc)) = true)
  (hk : ∀ ws σ H z, Pv ws σ H -> H z = none -> Pv ws σ (upd H z (.lst [])))
  (step : ∀ js x σ H, Pv (js ++ [x]) σ H -> tb { De with nx := fun σ' H' => ∃ ws', meas ws' < meas (js ++ [x]) /\ Pv ws' σ' H', ct := fun σ' H' => ∃ ws', meas ws' < meas (js ++ [x]) /\ Pv ws' σ' H', bk := rest De } σ H)
  (done : ∀ σ H, Pv [] σ H -> rest De σ H) : tSeq (tWhile (tTest (tOp (rNeD K) (tVar j) (tLst tNil))) tb) rest De σ H := by
 refine ⟨fun m σ H => ∃ ws, m = meas ws /\ Pv ws σ H, ⟨_, ws0, rfl, h0⟩, fun m σ1 H1 h1 => ?_⟩
 obtain ⟨ws, rfl, p1⟩ := h1
 obtain ⟨e1, us, hD1, hb1⟩ := hl ws σ1 H1 p1
 refine ⟨_, e1, (by show 0 <= sizeLine; decide), fun z0 hz0 => ?_⟩
 have p2 := hk ws σ1 H1 z0 p1 hz0
 have t2 := SB.new (ps := []) hz0 (.lst [])
 have hD2 := t2.keep _ _ hD1 nmn
 have hb2 := hb1.sb t2 hn
 refine ⟨.list (ws.map enc), .list [], Dp.lst (SqL.of hD2) hb2.dp, Dp.lst (SqL.of upd_same) .nil, hsh ws σ1 H1 p1, by decide +kernel, _, rfl, ?_⟩
 rcases List.eq_nil_or_concat ws with he | ⟨js, x, he⟩
 ·subst he
  exact iteF (done _ _ p2)
 ·rw [List.concat_eq_append] at he
  subst he
  have ez : (!PyData.eqv (.list ((js ++ [x]).map enc)) (.list [])) = true := by
   cases js <;> simp [PyData.eqv, PyData.eqvAll]
  rw [ez]
  exact iteT ⟨_, fun σ' H' ⟨ws', h1, h2⟩ => ⟨_, h1, ws', rfl, h2⟩, step js x σ1 _ p2⟩
theorem pop_left {j : Nat} {D : Addr} {σ : L2.St} {H : Hp} {us : List V} {js : List β} {x : β} {Q : VK} (hσ : σ[j]? = some (some (.ref D))) (hD : H D = some (.lst us)) (hb : Bears K H enc us (js ++ [x])) (hn : ∀ b, noList (enc b) = true)
  (k : ∀ (us' : List V) (u : V) (H' : Hp), SB [D] H H' -> H' D = some (.lst us') -> Bears K H' enc us' js -> Dp K H' u (enc x) -> (∀ b, b ≠ D -> H' b = H b) -> Q u H') : tBM0 K "list" rPop (tVar j) σ H Q := by
 obtain ⟨us', u, rfl, hus, hu⟩ := hb.snoc
 refine ⟨_, hσ, .inl ⟨rfl, _, SqL.of hD⟩, D, _, _, rfl, rfl, hD, (by simp : (us' ++ [u])[(us' ++ [u]).length - 1]? = some u), ?_⟩
 have edl : (us' ++ [u]).dropLast = us' := by simp
 rw [edl]
 have t5 := SB.set (ps := [D]) hD (by simp) (.lst us')
 exact k us' u _ t5 upd_same (hus.sb t5 hn) (Dp_sb t5 _ _ (hn _) hu) fun b hb => upd_ne hb
end
def met (xs : List Str) : Nat -> List Str
 | 0 => []
 | i + 1 => if (met xs i).any (· == xs.getD i Str.empty) = true then met xs i else met xs i ++ [xs.getD i Str.empty]
theorem met_le (xs : List Str) : ∀ i, (met xs i).length <= i
 | 0 => Nat.le_refl _
 | i + 1 => by
  have := met_le xs i
  unfold met
  split
  ·omega
  ·rw [List.length_append]; simp; omega
theorem met_any (xs : List Str) (i : Nat) (k : Str) : (met xs (i + 1)).any (· == k) = ((met xs i).any (· == k) || decide (k = xs.getD i Str.empty)) := by
 rw [met]
 by_cases e : k = xs.getD i Str.empty
 ·subst e
  split
  ·rename_i h; rw [h]; simp
  ·simp
 ·rw [decide_eq_false e, Bool.or_false]
  split
  ·rfl
  ·rw [List.any_append]
   have : ([xs.getD i Str.empty].any (· == k)) = false := by
    simp only [List.any_cons, List.any_nil, Bool.or_false, beq_eq_false_iff_ne]
    exact fun z => e z.symm
   rw [this, Bool.or_false]
theorem met_len (xs : List Str) (i : Nat) : (met xs (i + 1)).length = if (met xs i).any (· == xs.getD i Str.empty) = true then (met xs i).length else (met xs i).length + 1 := by
 rw [met]; split <;> simp
abbrev SetOfS (P : Program) (w : World) (h : Heap) (a : Addr) (L : List Str) : Prop := h.SetOf (PySem.strKind P w) a (fun k => L.any (· == k)) L.length
theorem SetOfS.keep {P : Program} {w : World} {h h' : Heap} {a : Addr} {L : List Str} (S : SetOfS P w h a L) (k : ∀ o, h.get? a = some o -> h'.get? a = some o) : SetOfS P w h' a L := by
 obtain ⟨o, es, ep, t, ho, r⟩ := S; exact ⟨o, es, ep, t, k o ho, r⟩
section
variable {P : Program} {w : World} {A : Around}
theorem met_loop {R : Result -> Shared -> Prop} {I : Addr} {fp wr : List Addr} {G : Array GenState -> Array GenState -> Prop} {n : Nat} {Pv : Nat -> Value -> Prop} {St : Nat -> Shared -> Prop} (W : WalksS P w A.in1 I fp wr G n Pv St) (S : Addr) (hSf : S ∉ fp) (xs : List Str) (hn : n + 1 < scanBound)
  (hval : ∀ i v, Pv i v -> ∃ t, v = .str (xs.getD i Str.empty) t) : ∀ (k i : Nat) (s : Shared), k + i = n -> St i s -> SetOfS P w s.heap S (met xs i) ->
   (∀ s', Moved (S :: wr) G s s' -> SetOfS P w s'.heap S (met xs n) -> R (.ok (.ret .none)) s') -> codeAny (model P w) A (.builtin "set.update.loop" ⟨[.ref S, .ref I], []⟩) R s := by
 have out : S ∉ wr := fun z => hSf (W.sub _ z)
 have up : ∀ b ∈ wr, b ∈ S :: wr := fun b z => mcm _ z
 intro k
 induction k with
 | zero =>
  intro i s e st hS hR
  rw [Nat.zero_add] at e; subst e
  refine codeAny_builtin F.entry_set_update_loop (by
   rw [Around.under_plainId F.plain_set_update_loop _]
   show wpAny _ A.in1 (pyNext (.ref I) >>= _) _ _ s
   refine wpAny_bind (W.done s _ _ st fun s' hm => ?_)
   show wpAny _ A.in1 (ret Value.none) _ _ s'
   exact wpAny_pure (hR s' (hm.mono up) (hS.keep fun o e => hm.heap S o out e)))
 | succ k ih =>
  intro i s e st hS hR
  have lt : i < n := by omega
  refine codeAny_builtin F.entry_set_update_loop (by
   rw [Around.under_plainId F.plain_set_update_loop _]
   show wpAny _ A.in1 (pyNext (.ref I) >>= _) _ _ s
   refine wpAny_bind (W.item i s _ _ lt st fun v s' hP st' hm => ?_)
   obtain ⟨t, rfl⟩ := hval i v hP
   have hS' : SetOfS P w s'.heap S (met xs i) := hS.keep fun o e => hm.heap S o out e
   show wpAny _ A.in1 (holding [Value.str (xs.getD i Str.empty) t] (setAdd S (.str (xs.getD i Str.empty) t)) >>= _) _ _ s'
   refine wpAny_bind (wpAny_holding ?_)
   unfold setAdd
   refine wpAny_holding (wpAny_bind ((PySem.strKind P w).pyHash (k := xs.getD i Str.empty) (PySem.Froz.is_str _ _) ?_))
   have room : (met xs i).length + 1 < scanBound := by have := met_le xs i; omega
   refine wpAny_setAddHashed_of (knd := PySem.strKind P w) (s := { s' with toks := s'.toks + 1 }) (PySem.Froz.is_str _ _) rfl hS' room fun h' hsb hS2 => ?_
   have hSi : SetOfS P w h' S (met xs (i + 1)) := SetOf_congr hS2 (fun k' => (met_any xs i k').symm) (met_len xs i).symm
   refine wpAny_pure ⟨plainId_quiet F.plain_set_update_loop _, ih (i + 1) _ (by omega) (W.frame _ s' _ _ st' (Nat.le_succ _) fun b hb o e => ?_) hSi fun s'' hm'' hS'' => ?_⟩
   ·rw [hsb.2 b fun z : b = S => hSf (z ▸ hb)]; exact e
   ·refine hR s'' (Moved.trans W.gtrans ((hm.mono up).then_heap (Nat.le_succ _) fun b o hb e => ?_) hm'') hS''
    rw [hsb.2 b fun z : b = S => hb (z ▸ mcs)]; exact e)
abbrev eo (led : Bool) : Obj := { cls := .type "set", dict := none, data := .set #[] 0 (.fresh 0 0 led) }
set_option maxHeartbeats 8000000 in
theorem call_setS {E : Value -> Shared -> Prop} {s : Shared} {l : Addr} {its : Array Value} {xs : List Str} {Q : Value -> Shared -> Prop} (hh : A.handled = none) (hl : s.heap.IsList l its) (hi : StrsAre its.toList xs) (hb : its.size + 1 < scanBound)
  (h : ∀ (h' : Heap) (tk : Nat), SetOfS P w h' s.heap.objs.size (met xs its.size) -> (∀ b o, b < s.heap.objs.size -> s.heap.get? b = some o -> h'.get? b = some o) -> Q (.ref s.heap.objs.size) { s with heap := h', toks := tk }) :
  wpAny (model P w) A (call (.type "set") [.ref l]) Q E s := by
 obtain ⟨c, tl', hmro⟩ := PySem.F.called_set.mro
 have k1 := PySem.F.called_set.made; have k2 := PySem.F.called_set.sub
 refine wpAny_call (codeAny_of_tree (by
  show wpAny _ _ (callAny (.type "set") _) _ _ _
  refine wpAny_pure ⟨Code.quiet_builtin _ (by decide +kernel), codeAny_builtin PySem.F.entry_type_call ?_⟩
  rw [Around.under_plain (weight_type_call_type "set" [.ref l] []) rfl]
  have k3 := PySem.F.called_set.notType; have k4 := PySem.F.called_set.canCreate; have k5 := PySem.F.typeCall_set_1 (.ref l)
  repeat (any_goals (first | assumption | wp_step))
  refine codeAny_mono (code_set_new_1 (.ref l) (E := E) (Q₁ := fun ob z => ∃ led : Bool, ob = .ref s.heap.objs.size /\ z = { s with heap := s.heap.push (eo led) }) fun led => ⟨led, rfl, rfl⟩) fun r z hr => ?_
  cases r with
  | error e => exact hr
  | ok fl =>
  cases fl with
  | ret ob =>
   obtain ⟨led, rfl, rfl⟩ := hr
   have at0 : (s.heap.push (eo led)).get? s.heap.objs.size = some (eo led) := Heap.get?_push_size _ rfl
   have ty0 : Shared.TypeIs { s with heap := s.heap.push (eo led) } (.ref s.heap.objs.size) "set" := ⟨_, at0, rfl⟩
   have k6 := PySem.F.called_set.init.lookup; have k7 := PySem.F.called_set.init.bind (.ref s.heap.objs.size)
   repeat (any_goals (first | assumption | wp_step))
   refine codeAny_mono (codeAny_call_builtin (R := wants (fun r s₂ => r = .none /\ ∃ h' tk, s₂ = { s with heap := h', toks := tk } /\ SetOfS P w h' s.heap.objs.size (met xs its.size) /\ (∀ b o, b < s.heap.objs.size -> s.heap.get? b = some o -> h'.get? b = some o)) E) PySem.F.called_set.init.plain PySem.F.entry_set_init (check_set_init_1 ty0 ?_)) fun r₂ s₂ hr₂ => ?_
   ·obtain ⟨⟨oc, od, oda, osl⟩, hol, hcl, nl, hdl⟩ := hl
    simp only at hcl hdl
    subst hcl hdl
    have hol' : (s.heap.push (eo led)).get? l = some ⟨.type "list", od, .seq its nl, osl⟩ := Heap.get?_push_of_some _ hol
    have k8 := PySem.F.sub_list_set; have k9 := PySem.F.sub_list_frozenset
    have k10 : (Value.type "list" == Value.type "dict") = false := by decide
    have isl : (s.heap.push (eo led)).IsList l its := ⟨_, hol', rfl, nl, rfl⟩
    unfold Builtin.«set.__init__» noKeywords Builtin.Frozenset.updateFrom
    generalize hPI : pyIter = PI
    wp_walk
    subst hPI
    refine wpAny_pyIter_list isl (wpAny_bind (wpAny_runValue ?_))
    have ltl : l < s.heap.objs.size := Heap.lt_size hol
    have sz1 : (s.heap.push (eo led)).objs.size = s.heap.objs.size + 1 := Heap.size_push ..
    have lne : l ≠ (s.heap.push (eo led)).objs.size := Nat.ne_of_lt (sz1 ▸ Nat.lt_succ_of_lt ltl)
    have nin : s.heap.objs.size ∉ [(s.heap.push (eo led)).objs.size, l] := by
     intro z
     rcases List.mem_cons.mp z with z | z
     ·exact absurd (z.trans sz1) (Nat.ne_of_lt (Nat.lt_succ_self _))
     ·have : s.heap.objs.size = l := by simpa using z
      exact absurd this.symm (Nat.ne_of_lt ltl)
    refine met_loop ((Walks.list (show A.in1.in1.in1.handled = none by simp [hh]) _ l lne its).toS) s.heap.objs.size nin xs hb (fun i v hv => SS.strs_at hi i v (by rw [Array.getElem?_toList]; exact hv)) its.size 0 _ rfl ⟨⟨_, Heap.get?_push_size _ rfl, rfl, rfl⟩, isl.push _⟩ ?c1 ?c2
    case c1 => exact SetOf_congr ((setObjOf_fresh (knd := PySem.strKind P w) led).setOf (Heap.get?_push_of_some _ at0) (by unfold scanBound; omega)) (fun _ => rfl) rfl
    case c2 =>
     rintro ⟨h', g', d', tk', os'⟩ hm hS'
     have eg : g' = s.gens := hm.gens; have ed : d' = s.drawn := hm.drawn; have eo' : os' = s.os := hm.os
     subst eg ed eo'
     show wpAny _ _ _ _ _ _
     refine wpAny_pure (show wpAny _ _ (ret Value.none) _ _ _ from wpAny_pure ⟨rfl, h', tk', rfl, hS', fun b o hb' e => hm.heap b o (fun z => ?_) (Heap.get?_push_of_some _ (Heap.get?_push_of_some _ e))⟩)
     rcases List.mem_cons.mp z with z | z
     ·exact absurd z (Nat.ne_of_lt hb')
     ·have : b = (s.heap.push (eo led)).objs.size := by simpa using z
      exact absurd (this.trans sz1) (Nat.ne_of_lt (Nat.lt_succ_of_lt hb'))
   ·cases r₂ with
    | error e => exact hr₂
    | ok fl₂ =>
    cases fl₂ with
    | ret r =>
     obtain ⟨rfl, h', tk, rfl, hS', hk'⟩ := hr₂
     repeat (any_goals (first | assumption | wp_step))
     exact h _ _ hS' hk'
    | _ => exact hr₂.elim
  | _ => exact hr.elim))
end
theorem met_mem (xs : List Str) : ∀ (i : Nat) (k : Str), k ∈ met xs i ↔ ∃ j, j < i /\ xs.getD j Str.empty = k
 | 0, k => by simp [met]
 | i + 1, k => by
  rw [met]
  have ih := met_mem xs i k
  split
  ·rename_i h
   rw [ih]
   refine ⟨fun ⟨j, a, b⟩ => ⟨j, by omega, b⟩, fun ⟨j, a, b⟩ => ?_⟩
   by_cases e : j = i
   ·subst e
    obtain ⟨y, hy, he⟩ := List.any_eq_true.mp h
    have := (met_mem xs j y).mp hy
    rw [beq_iff_eq.mp he, b] at this
    exact this
   ·exact ⟨j, by omega, b⟩
  ·rw [List.mem_append, ih]
   refine ⟨fun z => ?_, fun ⟨j, a, b⟩ => ?_⟩
   ·rcases z with ⟨j, a, b⟩ | z
    ·exact ⟨j, by omega, b⟩
    ·exact ⟨i, by omega, (List.mem_singleton.mp z).symm⟩
   ·by_cases e : j = i
    ·subst e; exact .inr (List.mem_singleton.mpr b.symm)
    ·exact .inl ⟨j, by omega, b⟩
theorem met_nodup (xs : List Str) : ∀ i, (met xs i).Nodup
 | 0 => List.nodup_nil
 | i + 1 => by
  rw [met]
  split
  ·exact met_nodup xs i
  ·rename_i h
   refine List.nodup_append.mpr ⟨met_nodup xs i, by simp, fun a ha b hb e => h ?_⟩
   rw [List.mem_singleton.mp hb] at e
   exact List.any_eq_true.mpr ⟨a, ha, beq_iff_eq.mpr e⟩
theorem met_all (xs : List Str) (k : Str) : k ∈ met xs xs.length ↔ k ∈ xs := by
 rw [met_mem]
 refine ⟨fun ⟨j, a, b⟩ => ?_, fun h => ?_⟩
 ·rw [<- b, List.getD_eq_getElem?_getD, List.getElem?_eq_getElem a]; exact List.getElem_mem a
 ·obtain ⟨j, a, b⟩ := List.getElem_of_mem h
  exact ⟨j, a, by rw [List.getD_eq_getElem?_getD, List.getElem?_eq_getElem a]; exact b⟩
theorem met_take (xs : List Str) : ∀ i, i <= xs.length -> (met xs i).length = i -> met xs i = xs.take i
 | 0, _, _ => by simp [met]
 | i + 1, hi, h => by
  have hl := met_le xs i
  rw [met] at h ⊢
  split at h
  ·omega
  ·rename_i hn
   rw [if_neg hn]
   rw [List.length_append, List.length_singleton] at h
   rw [met_take xs i (by omega) (by omega), List.take_add_one, List.getD_eq_getElem?_getD, List.getElem?_eq_getElem (by omega)]
   rfl
theorem met_len_nodup (xs : List Str) : (met xs xs.length).length = xs.length ↔ xs.Nodup := by
 constructor
 ·intro h
  have e := met_take xs xs.length (Nat.le_refl _) h
  rw [List.take_length] at e
  rw [<- e]; exact met_nodup xs _
 ·intro h
  exact ((List.perm_ext_iff_of_nodup (met_nodup xs _) h).mpr fun k => met_all xs k).length_eq
section
variable {X : Cx}
def tLenSetS (K : PySem.W.Frag) (ta : TE) : TE := fun σ H Q => ta σ H fun x H1 => ∃ (l : Addr) (zs : List Str), x = V.ref l /\ SqL K H1 l (zs.map V.str) /\ zs.length < 1000 /\ Q (.int (met zs zs.length).length) H1
theorem pe_lenSetS {a : Expr} {ta : TE} {p p2 q pos : Pos} (hc : X.calm = true) (B : BI X.mg) (g1 : Gl X "len") (g2 : Gl X "set") (ha : PE X a ta)
  (na : starEach [a] X.env = (false, eval a X.env) :: starEach [] X.env := by rfl) : PE X (.Call (.Name "len" p) [.Call (.Name "set" p2) [a] [] q] [] pos) (tLenSetS X.K ta) := by
 refine ⟨fun pins s σ H Q I h => Call_ (ld_blt I g1 B.len PySem.boot_len ?_)⟩
 refine PyProof.Rows.callWith_builtin1 (PyProof.Rows.args_cons (Call_ (ld_blt I g2 B.set PyProof.Rows.boot_set ?_)) rfl) rfl rfl
 refine PyProof.Rows.callWith_type1 (PyProof.Rows.args_cons (thn (ha.run pins s σ H _ I h) fun v s1 ⟨x, H1, I1, r1, l, zs, ex, hq, h1, q1⟩ => PyProof.Rows.args_nil ?_) na) na rfl
 subst ex
 cases r1
 obtain ⟨its, rv, pl, hz⟩ := I1.list hq
 have hlen : its.toArray.size = zs.length := by rw [List.size_toArray, <- rv.length, List.length_map]
 refine call_setS (xs := zs) (I1.ok.hd hc) pl.isList (by simpa using rv.strs) (by rw [hlen]; unfold scanBound; omega) fun h' tk hS hk => PyProof.Rows.args_nil ?_
 rw [hlen] at hS
 have hm := met_le zs zs.length
 obtain ⟨o, es, ep, t, ho, hex, hd, _, _, _, hf, hn⟩ := hS
 have J : Inv X pins σ H1 { s1 with heap := h', toks := tk } := I1.kept fun b o e => hk b o (Heap.lt_size e) e
 exact call_len_set ho hex hd hf (by rw [hn]; omega) ⟨.int (met zs zs.length).length, H1, J.tok _, ⟨_, by rw [hn]⟩, q1⟩
end
section
variable {X : Cx} {CX : CXT} {k : Nat} {f C : Addr} {fd : FuncData} {ps : List Str} {sp : Sp} {E : L2.St -> XK} {x m : Str} {p pos apos : Pos} {e o : Expr} {es : List Expr} {ta : TE} {t : TA}
def tMethZ (C : Addr) (m : Str) (sp : Sp) (E : L2.St -> XK) (ta : TE) (t : TA) : TE := fun σ H Q => ta σ H fun y H1 => ∃ a dx fs, y = .ref a /\ H1 a = some (.ins C dx fs) /\ fs.lookup m = none /\ t σ H1 fun vs H2 => sp (y :: vs) H2 Q (E σ)
def tMakeZ (C : Addr) (sp : Sp) (E : L2.St -> XK) (t : TA) : TE := fun σ H Q => t σ H fun vs H1 => ∀ y dx, H1 y = none -> H1 dx = none -> dx ≠ y ->
 sp (.ref y :: vs) (upd (upd H1 dx (.own y)) y (.ins C dx [])) (fun v H2 => v = .non /\ Q (.ref y) H2) (E σ)
theorem pe_methZ {pl : Sem Bool} (ho : PE X o ta) (c : Cls X.K C) (hm : Meth X.K C m f) (F : FnOk X.prog X.w X.K X.mg X.base CX k f fd ps sp) (hr : Room k X.A) (hb : Binds X.K fd ps []) (hx : ∀ σ, PassesAt CX X σ (E σ)) (ha : PA X (e :: es) t)
  (hst : starEach (e :: es) X.env = (false, eval e X.env) :: starEach es X.env := by rfl) (hpl : (backTo pos (starEach es X.env)).any (·.1) = false := by rfl)
  (ht : eval (.Call (.Attribute o m apos) (e :: es) [] pos) X.env = (do
    let ov <- eval o X.env
    standAt apos.atName
    let (g, first) <- holding [ov] (getMethod ov m pl)
    callWith pos g first (backTo pos (starEach (e :: es) X.env)) (backToKw pos (keywordEach [] X.env))) := by rfl) :
  PE X (.Call (.Attribute o m apos) (e :: es) [] pos) (tMethZ C m sp E ta t) := by
 refine ⟨fun pins s σ H Q I h => PySem.W.methodCall_KW (pl := pl) (thn (ho.run pins s σ H _ I h) fun u s1 ⟨y, H1, I1, ry, a, dx, fs, ey, ea, l, q⟩ => ?_) ht⟩
 subst ey
 cases (show u = Value.ref a from ry)
 exact getmeth_ok I1 ea c hm l (PySem.W.callWith_K (first := [.ref a]) (h₀ := X.base) I.ok.mod.kin hm.kp
  (thn (ha.run pos pins s1 σ H1 _ I1 q) fun us s2 ⟨vs, H2, I2, r, q2⟩ => ⟨I2.kIn, run_fnS (us := .ref a :: us) (vs := .ref a :: vs) F hr hb (hx σ) I2 (.cons rfl r) q2⟩) hst hpl)
theorem pe_methZ0 {pl : Sem Bool} (ho : PE X o ta) (c : Cls X.K C) (hm : Meth X.K C m f) (F : FnOk X.prog X.w X.K X.mg X.base CX k f fd ps sp) (hr : Room k X.A) (hb : Binds X.K fd ps []) (hx : ∀ σ, PassesAt CX X σ (E σ))
  (ht : eval (.Call (.Attribute o m apos) [] [] pos) X.env = (do
    let ov <- eval o X.env
    standAt apos.atName
    let (g, first) <- holding [ov] (getMethod ov m pl)
    callWith pos g first (backTo pos (starEach [] X.env)) (backToKw pos (keywordEach [] X.env))) := by rfl) :
  PE X (.Call (.Attribute o m apos) [] [] pos) (tMethZ C m sp E ta tNil) := by
 refine ⟨fun pins s σ H Q I h => PySem.W.methodCall_KW (pl := pl) (thn (ho.run pins s σ H _ I h) fun u s1 ⟨y, H1, I1, ry, a, dx, fs, ey, ea, l, q⟩ => ?_) ht⟩
 subst ey
 cases (show u = Value.ref a from ry)
 exact getmeth_ok I1 ea c hm l (PySem.W.callWith_K0 (first := [.ref a]) I1.kIn hm.kp (run_fnS (us := [.ref a]) (vs := [.ref a]) F hr hb (hx σ) I1 (.cons rfl .nil) q))
theorem pe_makeZ (M : Mk X.K C f) (F : FnOk X.prog X.w X.K X.mg X.base CX k f fd ps sp) (hr : Room (k + 1) X.A) (hg : Gl X x) (hm : X.mg x = some (.ref C)) (hb : Binds X.K fd ps []) (hx : ∀ σ, PassesAt CX X σ (E σ))
  (ha : PA X (e :: es) t) (hdb : (x == ("__debug__" : Str)) = false := by decide) (he : starEach (e :: es) X.env = (false, eval e X.env) :: starEach es X.env := by rfl) (hpl : (backTo pos (starEach es X.env)).any (·.1) = false := by rfl) :
  PE X (.Call (.Name x p) (e :: es) [] pos) (tMakeZ C sp E t) := by
 refine ⟨fun pins s σ H Q I h => wpAny_Call_Name_kw (ld_glob I hg hm ?_ hdb)⟩
 refine PySem.W.callWith_K (h₀ := X.base) I.ok.mod.kin M.kp (thn (ha.run pos pins s σ H _ I h) fun us s1 ⟨vs, H1, I1, r, q⟩ => ⟨I1.kIn, ?_⟩) he hpl
 have hq := q (s1.heap.objs.size + 1) s1.heap.objs.size (I1.hok.fresh (Nat.le_succ _)) (I1.hok.fresh (Nat.le_refl _)) (Nat.ne_of_lt (Nat.lt_succ_self _))
 have J := Inv.made (C := C) I1
 have r2 : Vals (V.ref (s1.heap.objs.size + 1) :: vs) (Value.ref (s1.heap.objs.size + 1) :: us) := .cons rfl r
 have hl : (Value.ref (s1.heap.objs.size + 1) :: us).length = ps.length := by rw [<- r2.length]; exact F.len _ _ _ _ hq
 have b := hb _ (Value.ref (s1.heap.objs.size + 1) :: us) J.kIn (by rw [List.append_nil]; exact hl)
 rw [List.append_nil] at b
 refine wpAny_call (make_map (f := f) I1.kIn M.makes M.init (beq_iff_eq.mp M.fn) (codeAny_mono (F.run _ X.stack _ _ ⟨Value.ref (s1.heap.objs.size + 1) :: us, []⟩ (Value.ref (s1.heap.objs.size + 1) :: us) _ _ (E σ) (hr.make C us [])
  (J.env0.make C us []) b r2 hq) fun r s' hq' => ?_))
 match r, hq' with
 | .error er, hq' => exact hx σ pins _ _ er s' J hq'
 | .ok (.ret u), hq' =>
  obtain ⟨v, H', J3, rv, ev, q3⟩ := J.after hq'
  subst ev
  exact ⟨rv, ⟨V.ref (s1.heap.objs.size + 1), H', J3, rfl, q3⟩⟩
 | .ok .next, hq' => exact hq'.elim
 | .ok .brk, hq' => exact hq'.elim
 | .ok .cont, hq' => exact hq'.elim
end
structure GotM (P : Program) (w : World) (K : PySem.W.Frag) (mg : Str -> Option Value) (base : Heap) (C : Addr) (m : Str) (ps : List Str) (k : Nat) (sp : Sp) : Prop where
 ex : ∃ (f : Addr) (fd : FuncData), FnOk P w K mg base CX0 k f fd ps sp /\ Meth K C m f /\ Binds K fd ps [] /\ Cls K C
section
variable {X : Cx} {C : Addr} {x m : Str} {ps : List Str} {k : Nat} {sp : Sp} {e o : Expr} {es : List Expr} {ta : TE} {t : TA} {p pos apos : Pos} {pl : Sem Bool}
theorem pe_gotM0 (G : GotM X.prog X.w X.K X.mg X.base C m ps k sp) (hr : Room k X.A) (ho : PE X o ta)
  (ht : eval (.Call (.Attribute o m apos) [] [] pos) X.env = (do
    let ov <- eval o X.env
    standAt apos.atName
    let (g, first) <- holding [ov] (getMethod ov m pl)
    callWith pos g first (backTo pos (starEach [] X.env)) (backToKw pos (keywordEach [] X.env))) := by rfl) :
  PE X (.Call (.Attribute o m apos) [] [] pos) (tMethZ C m sp (fun _ => E0) ta tNil) := by
 obtain ⟨f, fd, h1, h2, h3, h4⟩ := G.ex
 exact pe_methZ0 ho h4 h2 h1 hr h3 (fun σ pins H s e s' I c => pass0 pins σ H s e s' I c) ht
end
def spKindI (K : PySem.W.Frag) (C : Addr) : Sp := fun vs H Q _ => ∃ (a : Addr) (y : V), vs = [.ref a, y] /\ OexC K C /\ PySem.W.findIn K (.ref C) "kind" = some none /\ H a = some (exo a C none) /\ ∀ dx, H dx = none -> dx ≠ a -> Q .non (upd (upd H dx (exd dx [("kind", y)])) a (exo a C (some dx)))
structure OwnI (P : Program) (w : World) (K : PySem.W.Frag) (mg : Str -> Option Value) (base : Heap) (x : Str) (C : Addr) (k : Nat) : Prop where
 gC : mg x = some (.ref C)
 T : OexC K C
 no : PySem.W.findIn K (.ref C) "kind" = some none
 ex : ∃ (f : Addr) (fd : FuncData), PySem.W.findIn K (.ref C) "__init__" = some (some (.ref f)) /\ PySem.W.typeIn K (.ref f) = some (.type "function") /\ FnOk P w K mg base CX0 k f fd ["self", "kind"] (spKindI K C) /\ Binds K fd ["self", "kind"] []
def oexCB (K : PySem.W.Frag) (C : Addr) : Bool := (match K.lookup C with
 | some ⟨.type "type", _, .cls cd, sl⟩ => (match cd.mro, sl.toList with
  | .ref D :: bm, [_, _, _, _, some (.builtin n), _] => decide (D = C) && (n == "ValueError.__new__" && (!cd.hasDel && (cd.hasDict && PySem.HandSPX.refsVE bm)))
  | _, _ => false)
 | _ => false) && (He.eqO (PySem.W.findIn K (.ref C) "__setattr__") (some (some (.builtin "object.__setattr__"))) && (decide (PySem.W.subIn K (.ref C) (.type "BaseException") = some true) && (decide (PySem.W.typeIn K (.ref C) = some (.type "type")) && PySem.W.keepIn K (.ref C))))
theorem oexCB_ok {K : PySem.W.Frag} {C : Addr} (h : oexCB K C = true) : OexC K C := by
 obtain ⟨h1, h⟩ := He.ba h
 obtain ⟨h2, h⟩ := He.ba h
 obtain ⟨h3, h⟩ := He.ba h
 obtain ⟨h4, h5⟩ := He.ba h
 refine ⟨?_, He.eqO_ok h2, of_decide_eq_true h3, of_decide_eq_true h4, h5⟩
 split at h1
 ·rename_i dd cd sl ho
  split at h1
  ·rename_i D bm k0 k1 k2 k3 n k5 hm hs
   obtain ⟨e1, h1⟩ := He.ba h1
   obtain ⟨e2, h1⟩ := He.ba h1
   obtain ⟨e3, h1⟩ := He.ba h1
   obtain ⟨e4, e5⟩ := He.ba h1
   have e1 := of_decide_eq_true e1
   have e2 := beq_iff_eq.mp e2
   obtain ⟨nm, bs, mro, ns, qn, hd, sn, sb, ab, col, del⟩ := cd
   simp only at hm e3 e4
   subst e1 e2 hm e4
   have e3 : del = false := by simpa using e3
   subst e3
   obtain ⟨sl⟩ := sl
   simp only at hs
   subst hs
   exact ⟨nm, qn, ns, bs, bm, sn, sb, ab, col, dd, k0, k1, k2, k3, k5, ho, e5⟩
  ·cases h1
 ·cases h1
theorem _root_.L2.PE.wide {X : Cx} {e : Expr} {te : TE} (h : PE X e te) : PE X e (fun σ H Q => ∃ Q' : VK, te σ H Q' /\ ∀ v H', Q' v H' -> Q v H') :=
 ⟨fun pins s σ H Q I ⟨Q', h1, h2⟩ => thn (h.run pins s σ H Q' I h1) fun v s1 ⟨y, H1, I1, r, q⟩ => ⟨y, H1, I1, r, h2 _ _ q⟩⟩
section
variable {X : Cx} {C : Addr} {x : Str} {k : Nat} {e : Expr} {te : TE} {p pos : Pos}
def tKind (C : Addr) (te : TE) : L2.St -> Hp -> XK -> Prop := fun σ H Q => te σ H fun y H1 => ∀ d, H1 d = none -> Q (.ref C) (some d) (upd H1 d (.xd [("kind", y)]))
end
abbrev Ru := Gr × Gr
def Ru.enc (r : Ru) : PyData := .tuple [r.1.enc, r.2.enc]
def Ru.within (r : Ru) : List (Tr × Int) := r.1.within ++ r.2.within
structure Kd where
 n : Str
 w : Bool
 rs : List Ru
abbrev Bk := List Kd
abbrev Bk.names (b : Bk) : List Str := b.map (·.n)
def Kd.rowE (k : Kd) : PyData := .tuple (k.rs.map Ru.enc)
def Bk.get (b : Bk) (n : Str) : Option Kd := b.find? fun k => decide (k.n = n)
def RuOk (r : Ru) : Prop := r.1.Ok 1000000001 /\ r.2.Ok 1000000001 /\ r.1.parts + r.2.parts <= 4
def KdOk (ns : List Str) (k : Kd) : Prop := NameOk k.n /\ k.rs.length <= 4 /\ ∀ r ∈ k.rs, RuOk r /\ ∀ p ∈ Ru.within r, p.1.1 ∈ ns
structure Bk.Ok (b : Bk) : Prop where
 pos : 1 <= b.length
 len : b.length <= 8
 nd : b.names.Nodup
 kd : ∀ k ∈ b, KdOk b.names k
theorem Ru.noList_enc (r : Ru) : noList (Ru.enc r) = true := by simp [Ru.enc, noList, noLists, Gr.noList_enc]
theorem Kd.noList_rowE (k : Kd) : noList k.rowE = true := by
 unfold Kd.rowE noList
 induction k.rs with
 | nil => rfl
 | cons r l ih => rw [List.map_cons, noLists, Ru.noList_enc, ih]; rfl
theorem Bk.get_some {b : Bk} {n : Str} {k : Kd} (h : b.get n = some k) : k ∈ b /\ k.n = n :=
 ⟨List.mem_of_find?_eq_some h, of_decide_eq_true (List.find?_some (p := fun k : Kd => decide (k.n = n)) h)⟩
theorem Bk.get_none {b : Bk} {n : Str} (h : b.get n = none) : n ∉ b.names := fun z => by
 obtain ⟨k, hk, e⟩ := List.mem_map.mp z
 have := List.find?_eq_none.mp h k hk
 exact this (decide_eq_true e)
theorem Bk.get_of {b : Bk} {n : Str} (h : n ∈ b.names) : ∃ k, b.get n = some k := by
 cases e : b.get n with
 | none => exact absurd h (Bk.get_none e)
 | some k => exact ⟨k, rfl⟩
theorem Bk.get_self {b : Bk} (nd : b.names.Nodup) {k : Kd} (hk : k ∈ b) : b.get k.n = some k := by
 induction b with
 | nil => cases hk
 | cons x r ih =>
  have nd' : (x.n :: Bk.names r).Nodup := nd
  unfold Bk.get
  rcases List.mem_cons.mp hk with e | e
  ·subst e; rw [List.find?_cons_of_pos (by simp)]
  ·have : ¬ x.n = k.n := fun z => (List.nodup_cons.mp nd').1 (by rw [z]; exact List.mem_map.mpr ⟨k, e, rfl⟩)
   rw [List.find?_cons_of_neg (by simpa using this)]
   exact ih (List.nodup_cons.mp nd').2 e
def Bk.rowKV (b : Bk) (us : List V) : List (Key × V) := List.zipWith (fun (k : Kd) (u : V) => (Sum.inr k.n, u)) b us
def Bk.spKV (b : Bk) : List (Key × V) := b.map fun k => (Sum.inr k.n, V.bl k.w)
theorem Bk.spKV_val (b : Bk) (n : Str) : valV b.spKV (Sum.inr n) = (b.get n).map fun k => V.bl k.w := by
 induction b with
 | nil => rfl
 | cons x r ih =>
  by_cases e : x.n = n
  ·subst e
   rw [show Bk.spKV (x :: r) = (Sum.inr x.n, V.bl x.w) :: Bk.spKV r from rfl, valV_pos rfl]
   simp [Bk.get]
  ·rw [show Bk.spKV (x :: r) = (Sum.inr x.n, V.bl x.w) :: Bk.spKV r from rfl, valV_neg (by simpa using e), ih]
   simp [Bk.get, e]
theorem Bk.rowKV_val {K : PySem.W.Frag} {H : Hp} (n : Str) : ∀ {b : Bk} {us : List V}, Bears K H Kd.rowE us b -> ∀ {k : Kd}, b.get n = some k -> ∃ u, valV (b.rowKV us) (Sum.inr n) = some u /\ Dp K H u k.rowE
 | [], _, _, k, h => by cases h
 | x :: r, _, .cons (v := u) (vs := us) h0 h1, k, h => by
  have e0 : Bk.rowKV (x :: r) (u :: us) = (Sum.inr x.n, u) :: Bk.rowKV r us := rfl
  by_cases e : x.n = n
  ·subst e
   have : x = k := by simpa [Bk.get] using h
   subst this
   exact ⟨u, by rw [e0, valV_pos rfl], h0⟩
  ·have h' : Bk.get r n = some k := by simpa [Bk.get, e] using h
   obtain ⟨v, a, c⟩ := Bk.rowKV_val n h1 h'
   exact ⟨v, by rw [e0, valV_neg (by simpa using e)]; exact a, c⟩
abbrev bkF (d1 d2 : Addr) : List (Str × V) := [("spread_by_name", .ref d1), ("rows_by_name", .ref d2)]
def BkA (K : PySem.W.Frag) (C : Addr) (H : Hp) (v : V) (b : Bk) : Prop := ∃ (a dx d1 d2 : Addr) (us : List V), v = .ref a /\ H a = some (.ins C dx (bkF d1 d2)) /\ H d1 = some (.dK b.spKV) /\ H d2 = some (.dK (b.rowKV us)) /\ Bears K H Kd.rowE us b
def Lsts (H : Hp) (ps : List Addr) : Prop := ∀ p ∈ ps, H p = none \/ ∃ xs, H p = some (.lst xs)
theorem Lsts.nil {H : Hp} : Lsts H [] := fun _ h => nomatch h
theorem Lsts.notin {H : Hp} {ps : List Addr} (h : Lsts H ps) {a : Addr} {o : HO} (e : H a = some o) (n : ∀ xs, o ≠ .lst xs) : a ∉ ps := fun z => by
 rcases h a z with q | ⟨xs, q⟩
 ·rw [e] at q; cases q
 ·rw [e] at q; exact n xs (Option.some.inj q)
section
variable {K : PySem.W.Frag} {C : Addr} {H H' : Hp} {v : V} {b : Bk} {ps : List Addr}
theorem BkA.sb (h : BkA K C H v b) (e : SB ps H H') (hp : Lsts H ps) : BkA K C H' v b := by
 obtain ⟨a, dx, d1, d2, us, rfl, h1, h2, h3, h4⟩ := h
 exact ⟨a, dx, d1, d2, us, rfl, e.keep _ _ h1 (hp.notin h1 fun _ z => nomatch z), e.keep _ _ h2 (hp.notin h2 fun _ z => nomatch z), e.keep _ _ h3 (hp.notin h3 fun _ z => nomatch z), h4.sb e Kd.noList_rowE⟩
theorem BkA.sb0 (h : BkA K C H v b) (e : SB [] H H') : BkA K C H' v b := h.sb e Lsts.nil
theorem BkA.at (h : BkA K C H v b) : ∃ a dx d1 d2, v = .ref a /\ H a = some (.ins C dx (bkF d1 d2)) := by
 obtain ⟨a, dx, d1, d2, us, e, h1, _⟩ := h
 exact ⟨a, dx, d1, d2, e, h1⟩
end
structure ClsF (K : PySem.W.Frag) (C : Addr) (fs : List Str) : Prop where
 c : Cls K C
 no : ∀ f ∈ fs, NoAttr K C f
def spBNames (K : PySem.W.Frag) (C : Addr) : Sp := fun vs H Q _ => ∃ (v : V) (b : Bk), vs = [v] /\ BkA K C H v b /\ b.length <= 1000 /\ ∀ (l : Addr) (H' : Hp), SB [] H H' -> H l = none -> H' l = some (.lst (b.names.map V.str)) -> Q (.ref l) H'
def kindOr (N : Addr) (b : Bk) (n : Str) (H : Hp) (E : XK) (q : Kd -> Prop) : Prop := (∀ k, b.get n = some k -> q k) /\ (b.get n = none -> ∀ (d : Addr) (H' : Hp), SB [] H H' -> H d = none -> H' d = some (.xd [("kind", .str n)]) -> E (.ref N) (some d) H')
def spCheckK (K : PySem.W.Frag) (C N : Addr) : Sp := fun vs H Q E => ∃ (v : V) (b : Bk) (n : Str), vs = [v, .str n] /\ BkA K C H v b /\ b.length <= 1000 /\ kindOr N b n H E fun _ => ∀ H', SB [] H H' -> Q .non H'
def spBSpreads (K : PySem.W.Frag) (C N : Addr) : Sp := fun vs H Q E => ∃ (v : V) (b : Bk) (n : Str), vs = [v, .str n] /\ BkA K C H v b /\ b.length <= 1000 /\ kindOr N b n H E fun k => ∀ H', SB [] H H' -> Q (.bl k.w) H'
def spBRules (K : PySem.W.Frag) (C N : Addr) : Sp := fun vs H Q E => ∃ (v : V) (b : Bk) (n : Str), vs = [v, .str n] /\ BkA K C H v b /\ b.length <= 1000 /\ (∀ k ∈ b, k.rs.length <= 1000) /\
 kindOr N b n H E fun k => ∀ (l : Addr) (us : List V) (H' : Hp), SB [] H H' -> H l = none -> H' l = some (.lst us) -> Bears K H' Ru.enc us k.rs -> Q (.ref l) H'
inductive KT where
 | other
 | three (d : PyData) (w : Option Bool) (rs : Option (List PyData))
def Kd.kt (k : Kd) : KT := .three (.str k.n) (some k.w) (some (k.rs.map Ru.enc))
def KTA (K : PySem.W.Frag) (H : Hp) (v : V) : KT -> Prop
 | .other => ∃ d, Tg K H v d /\ ∀ ds, d = .tuple ds -> ds.length ≠ 3
 | .three d w rs => ∃ (t : Addr) (x y z : V), v = .ref t /\ SqT K H t [x, y, z] /\ Tg K H x d /\ (match w with
   | some b => y = .bl b
   | none => ∃ n, TyX K H y (.type n) /\ kitB n "bool" = some false) /\ (match rs with
   | some ds => ∃ (l : Addr) (zs : List V), z = .ref l /\ H l = some (.lst zs) /\ TgAll K H zs ds
   | none => ∃ n, TyX K H z (.type n) /\ kitB n "list" = some false)
def RuD (d : PyData) : Prop := ∃ r : Ru, d = Ru.enc r /\ RuOk r
def RuFit (d : PyData) : Prop := d.depth <= 60 /\ wide d <= 1000 /\ ∀ a b, d = .tuple [a, b] -> ∀ g : Gr, a = g.enc \/ b = g.enc -> g.deep <= 18 /\ g.parts <= 450
def KTFit : KT -> Prop
 | .other => True
 | .three d w rs => ∀ ds, rs = some ds -> ds.length <= 1000 /\ ∀ x ∈ ds, RuFit x
def KTKd (t : KT) : Prop := ∃ k : Kd, t = k.kt /\ NameOk k.n /\ k.rs.length <= 4 /\ ∀ r ∈ k.rs, RuOk r
def KTBk (ts : List KT) : Prop := ∃ b : Bk, ts = b.map Kd.kt /\ Bk.Ok b
inductive KTAll (K : PySem.W.Frag) (H : Hp) : List V -> List KT -> Prop
 | nil : KTAll K H [] []
 | cons {v : V} {t : KT} {vs : List V} {ts : List KT} : KTA K H v t -> KTAll K H vs ts -> KTAll K H (v :: vs) (t :: ts)
def spIsRule (K : PySem.W.Frag) : Sp := fun vs H Q _ => ∃ (v : V) (d : PyData), vs = [v] /\ Tg K H v d /\ RuFit d /\ ∀ (b : Bool) (H' : Hp), SB [] H H' -> (b = true ↔ RuD d) -> Q (.bl b) H'
def spIsKind (K : PySem.W.Frag) : Sp := fun vs H Q _ => ∃ (v : V) (t : KT), vs = [v] /\ KTA K H v t /\ KTFit t /\ ∀ (b : Bool) (H' : Hp), SB [] H H' -> (b = true ↔ KTKd t) -> Q (.bl b) H'
def spIsRuleOf (K : PySem.W.Frag) : Sp := fun vs H Q _ => ∃ (v : V) (l : Addr) (r : Ru) (ns : List Str), vs = [v, .ref l] /\ Dp K H v (Ru.enc r) /\ RuOk r /\ SqL K H l (ns.map V.str) /\ ns.length <= 1000 /\ ∀ H', SB [] H H' -> Q (.bl (decide (∀ p ∈ Ru.within r, p.1.1 ∈ ns))) H'
def spAreKinds (K : PySem.W.Frag) : Sp := fun vs H Q _ => ∃ (l : Addr) (xs : List V) (ts : List KT), vs = [.ref l] /\ SqL K H l xs /\ KTAll K H xs ts /\ (∀ t ∈ ts, KTFit t) /\ ts.length <= 1000 /\ ∀ (b : Bool) (H' : Hp), SB [] H H' -> (b = true ↔ KTBk ts) -> Q (.bl b) H'
def spBInit (K : PySem.W.Frag) (C B : Addr) : Sp := fun vs H Q E => ∃ (x dx l : Addr) (xs : List V) (ts : List KT), vs = [.ref x, .ref l] /\ H x = some (.ins C dx []) /\ H dx = some (.own x) /\ H l = some (.lst xs) /\ KTAll K H xs ts /\ (∀ t ∈ ts, KTFit t) /\ ts.length <= 1000 /\
 (∀ b : Bk, ts = b.map Kd.kt -> b.Ok -> ∀ H', SB [x] H H' -> BkA K C H' (.ref x) b -> Q .non H') /\ (¬ KTBk ts -> ∀ H', SB [] H H' -> E (.ref B) none H')
theorem inV_strs (n : Str) (zs : List Str) : inV (.str n) (zs.map V.str) = decide (n ∈ zs) := by
 induction zs with
 | nil => rfl
 | cons z r ih =>
  show ((z == n) || inV (.str n) (r.map V.str)) = _
  rw [ih]
  by_cases e : z = n
  ·subst e; simp
  ·have e' : ¬ n = z := fun y => e y.symm
   rw [show (z == n) = false from beq_eq_false_iff_ne.mpr e, Bool.false_or]
   by_cases h : n ∈ r <;> simp [h, e']
theorem flat_strs (zs : List Str) : (zs.map V.str).all flatV = true := by simp [flatV]
theorem getK {H : Hp} {d : Addr} {kvs : List (Key × V)} {n : Str} {v : V} (h : H d = some (.dK kvs)) (e : valV kvs (Sum.inr n) = some v) : DGet H d (.str n) (some v) := .inl ⟨kvs, Sum.inr n, .inl h, rfl, e.symm⟩
theorem Bk.get_isSome (b : Bk) (n : Str) : decide (n ∈ b.names) = (b.get n).isSome := by
 cases e : b.get n with
 | none => simpa using Bk.get_none e
 | some k => simpa using List.mem_map.mpr ⟨k, (Bk.get_some e).1, (Bk.get_some e).2⟩
section
variable {J : It} {n : Nat} {G : Hp -> Prop} {Y : Nat -> Hp -> V -> Hp -> Prop}
theorem lc_seq (w : Walk J n G Y) {g : TG} {tt : TT} {te : TE} {vs : List Nat} {σ : L2.St} {H : Hp} {D : Addr} {Qd : Hp -> Prop} (hD : H D = none) (hn : n < sizeLine) (R : Nat -> List V -> Hp -> Prop) (h0 : R 0 [] H) (hG : ∀ H2, SB [] H H2 -> G H2)
  (st : ∀ i us H2 H3, SB [D] H2 H3 -> R i us H2 -> R i us H3)
  (turn : ∀ (Pv : Hp -> Prop) i x H2 H' us, i < n -> SB [] H H2 -> Y i H2 x H' -> R i us H2 -> us.length <= i -> (∀ y H5, SB [] H2 H5 -> R (i + 1) (us ++ [y]) H5 -> ∃ acc, H5 D = some (.lst acc) /\ acc.length < sizeLine /\ Pv (upd H5 D (.lst (acc ++ [y])))) ->
   (∀ H4, SB [] H2 H4 -> R (i + 1) us H4 -> Pv H4) -> g x (wipe σ vs) H' fun σ2 H3 => wipe σ2 vs = wipe σ vs /\ tt σ2 H3 fun b H4 =>
    if b = true then te σ2 H4 fun y H5 => ∃ acc, H5 D = some (.lst acc) /\ acc.length < sizeLine /\ Pv (upd H5 D (.lst (acc ++ [y]))) else Pv H4)
  (done : ∀ us H2, SB [] H H2 -> H2 D = some (.lst us) -> R n us H2 -> us.length <= n -> Qd H2) :
  ∃ W : Nat -> Nat -> Hp -> Prop, (∃ m, W 0 m (upd H D (.lst []))) /\ ∀ i m H, W i m H ->
   (J.stop i H /\ Qd H) \/ (J.go i H /\ ∃ Nx : Hp -> Prop, (∀ H', Nx H' -> ∃ m', m' < m /\ W (i + 1) m' H') /\ ∀ x H', J.yld i H x H' -> g x (wipe σ vs) H' fun σ2 H2 => wipe σ2 vs = wipe σ vs /\ tt σ2 H2 fun b H3 =>
    if b = true then te σ2 H3 fun y H4 => ∃ acc, H4 D = some (.lst acc) /\ acc.length < sizeLine /\ Nx (upd H4 D (.lst (acc ++ [y]))) else Nx H3) := by
 refine lc_it w (fun i H2 => SB [D] H H2 /\ ∃ us, H2 D = some (.lst us) /\ R i us H2 /\ us.length <= i) ⟨SB.new hD _, [], upd_same, st _ _ _ _ (SB.new hD _) h0, Nat.le_refl _⟩ (fun i H2 _ h => hG H2 (h.1.drop hD)) (fun i x H2 H' hi h y => ?_) (fun H2 h => ?_)
 ·obtain ⟨s2, us, hD2, hR, hl⟩ := h
  refine turn _ i x H2 H' us hi (s2.drop hD) y hR hl (fun y H5 s5 r5 => ?_) (fun H4 s4 r4 => ⟨s2.trans s4.nil, us, s4.keep _ _ hD2 nmn, r4, by omega⟩)
  have hD5 := s5.keep _ _ hD2 nmn
  refine ⟨us, hD5, by omega, (s2.trans s5.nil).trans (SB.set hD5 (by simp) _), _, upd_same, st _ _ _ _ (SB.set hD5 (by simp) _) r5, ?_⟩
  rw [List.length_append, List.length_singleton]; omega
 ·obtain ⟨s2, us, hD2, hR, hl⟩ := h
  exact done us H2 (s2.drop hD) hD2 hR hl
end
theorem groveD_Ok {C : Int} : ∀ {g : Gr}, groveD g.enc = true -> (∀ p ∈ g.within, p.2 < C) -> g.Ok C := by
 have key : ∀ (g : Gr), (∀ p ∈ g.within, p.2 < C) -> grPs g.encs = true -> (risingD (g.encs.map exp0) = true -> g.Ok C) := by
  intro g
  induction g with
  | nil => intro _ _ _; trivial
  | cons k g m r ihg ihr =>
   intro hb hps hri
   have hb1 : ∀ p ∈ g.within, p.2 < C := fun p hp => hb p (mcm _ (mal _ hp))
   have hb2 : ∀ p ∈ r.within, p.2 < C := fun p hp => hb p (mcm _ (mar _ hp))
   have e : (Gr.cons k g m r).encs = Gr.pEnc ((k, g), m) :: r.encs := rfl
   rw [e, grPs, Bool.and_eq_true] at hps
   rw [e, List.map_cons] at hri
   have hp : grP (.tuple [.tuple [.str k, .tuple g.encs], .int m]) = true := hps.1
   rw [grP, grP2, Bool.and_eq_true, treeD, trD2, Bool.and_eq_true, trD3, Bool.and_eq_true, groveD, Bool.and_eq_true, ladP3, Bool.and_eq_true] at hp
   obtain ⟨⟨hn, ⟨hgp, hgr⟩, _⟩, hmm, _⟩ := hp
   have hname : NameOk k := by
    obtain ⟨z, ez, hz⟩ := nameD_iff hn
    cases ez; exact hz
   have hri2 : risingD (r.encs.map exp0) = true := by
    cases hre : r.encs with
    | nil => rfl
    | cons d ds =>
     rw [hre, List.map_cons] at hri
     have : (dataLt (exp0 (Gr.pEnc ((k, g), m))) (exp0 d) :: ltsD (exp0 d :: ds.map exp0)).all id = true := hri
     rw [List.all_cons, Bool.and_eq_true] at this
     rw [List.map_cons]; exact this.2
   have hro := ihr hb2 hps.2 hri2
   refine ⟨hname, ihg hb1 hgp hgr, of_decide_eq_true hmm, hb _ (mcs ..), hro, fun p hpm => ?_⟩
   cases r with
   | nil => cases hpm
   | cons k2 g2 m2 r2 =>
    have h12 : dataLt (Gr.tEnc (k, g)) (Gr.tEnc (k2, g2)) = true := by
     have : (dataLt (Gr.tEnc (k, g)) (Gr.tEnc (k2, g2)) :: ltsD (Gr.tEnc (k2, g2) :: r2.encs.map exp0)).all id = true := hri
     rw [List.all_cons, Bool.and_eq_true] at this
     exact this.1
    rcases List.mem_cons.mp hpm with h | h
    ·subst h; exact h12
    ·exact dl_trans h12 (hro.2.2.2.2.2 p h)
 intro g hg hb
 rw [Gr.enc, groveD, Bool.and_eq_true] at hg
 exact key g hb hg.1 hg.2
theorem Ok_within {C : Int} : ∀ {g : Gr}, g.Ok C -> ∀ p ∈ g.within, NameOk p.1.1 /\ p.1.2.Ok C /\ 1 <= p.2 /\ p.2 < C
 | .nil, _, p, h => by cases h
 | .cons k g m r, ⟨h0, h1, h2, h3, h4, _⟩, p, h => by
  rcases List.mem_cons.mp h with h | h
  ·subst h; exact ⟨h0, h1, h2, h3⟩
  ·rcases List.mem_append.mp h with h | h
   ·exact Ok_within h1 p h
   ·exact Ok_within h4 p h
theorem Gr.enc_inj {g h : Gr} (e : g.enc = h.enc) : g = h := by
 have := Gr.eqv_enc g h
 rw [e, Gr.eqv_enc h h, decide_eq_true rfl] at this
 exact of_decide_eq_true this.symm
theorem RuD_iff {g h : Gr} (hg : groveD g.enc = true) (hh : groveD h.enc = true) : RuD (.tuple [g.enc, h.enc]) ↔ g.parts + h.parts <= 4 /\ ∀ p ∈ g.within ++ h.within, p.2 <= 1000000000 := by
 constructor
 ·rintro ⟨r, e, h1, h2, h3⟩
  have e' : PyData.tuple [g.enc, h.enc] = .tuple [r.1.enc, r.2.enc] := e
  injection e' with e'
  injection e' with a e'
  injection e' with b _
  rw [Gr.enc_inj a, Gr.enc_inj b]
  refine ⟨h3, fun p hp => ?_⟩
  rcases List.mem_append.mp hp with hp | hp
  ·have := (Ok_within h1 p hp).2.2.2; omega
  ·have := (Ok_within h2 p hp).2.2.2; omega
 ·rintro ⟨h1, h2⟩
  exact ⟨(g, h), rfl, groveD_Ok hg fun p hp => by have := h2 p (mal _ hp); omega, groveD_Ok hh fun p hp => by have := h2 p (mar _ hp); omega, h1⟩
theorem RuD_two {d : PyData} (h : RuD d) : ∃ g k : Gr, d = .tuple [g.enc, k.enc] /\ groveD g.enc = true /\ groveD k.enc = true := by
 obtain ⟨r, e, h1, h2, _⟩ := h
 exact ⟨r.1, r.2, e, groveD_ok h1, groveD_ok h2⟩
theorem within_deep : ∀ g : Gr, g.deep <= g.parts
 | .nil => Nat.le_refl _
 | .cons k g m r => by
  have h1 := within_deep g
  have h2 := within_deep r
  show max (1 + g.deep) r.deep <= 1 + g.parts + r.parts
  omega
theorem RuD_all : ∀ {ds : List PyData}, (∀ x ∈ ds, RuD x) -> ∃ rs : List Ru, ds = rs.map Ru.enc /\ ∀ r ∈ rs, RuOk r
 | [], _ => ⟨[], rfl, fun _ h => nomatch h⟩
 | d :: ds, h => by
  obtain ⟨r, e, hr⟩ := h d (mcs ..)
  obtain ⟨rs, e2, hrs⟩ := RuD_all fun x hx => h x (mcm _ hx)
  refine ⟨r :: rs, by rw [e, e2]; rfl, fun x hx => ?_⟩
  rcases List.mem_cons.mp hx with hx | hx
  ·rw [hx]; exact hr
  ·exact hrs x hx
theorem SqL_ty {K : PySem.W.Frag} {H : Hp} {a : Addr} {xs : List V} (h : SqL K H a xs) : TyX K H (.ref a) (.type "list") := by
 rcases h with (h | ⟨o, h⟩) | ⟨o, its, n, h, c, _⟩
 ·exact .base (.lst h)
 ·exact .base (.frz h)
 ·exact .kList h c
section
variable {K : PySem.W.Frag} {H H' : Hp}
theorem KTA_sb (e : SB [] H H') : ∀ {t : KT} {v : V}, KTA K H v t -> KTA K H' v t
 | .other, v, ⟨d, h1, h2⟩ => ⟨d, Tg_sb e h1, h2⟩
 | .three d w rs, v, ⟨t, x, y, z, e0, h1, h2, h3, h4⟩ => by
  refine ⟨t, x, y, z, e0, e.sqT h1, Tg_sb e h2, ?_, ?_⟩
  ·cases w with
   | some b => exact h3
   | none =>
    obtain ⟨n, a, b⟩ := h3
    exact ⟨n, TyX_sb e (fun _ _ => nmn) a, b⟩
  ·cases rs with
   | some ds =>
    obtain ⟨l, zs, e1, h5, h6⟩ := h4
    exact ⟨l, zs, e1, e.keep _ _ h5 nmn, TgAll_sb e h6⟩
   | none =>
    obtain ⟨n, a, b⟩ := h4
    exact ⟨n, TyX_sb e (fun _ _ => nmn) a, b⟩
theorem KTAll.sb (e : SB [] H H') : ∀ {vs : List V} {ts : List KT}, KTAll K H vs ts -> KTAll K H' vs ts
 | _, _, .nil => .nil
 | _, _, .cons h t => .cons (KTA_sb e h) (KTAll.sb e t)
theorem KTAll.length : ∀ {vs : List V} {ts : List KT}, KTAll K H vs ts -> vs.length = ts.length
 | _, _, .nil => rfl
 | _, _, .cons h t => by rw [List.length_cons, List.length_cons, KTAll.length t]
theorem KTAll.get : ∀ {vs : List V} {ts : List KT} {i : Nat} {v : V}, KTAll K H vs ts -> vs[i]? = some v -> ∃ t, ts[i]? = some t /\ KTA K H v t
 | _, _, i, v, .nil, h => by simp at h
 | _, _, 0, v, .cons h t, e => by simp at e; subst e; exact ⟨_, rfl, h⟩
 | _, _, i + 1, v, .cons h t, e => by
  simp at e
  obtain ⟨t', e', h'⟩ := KTAll.get (i := i) t e
  exact ⟨t', by simpa using e', h'⟩
theorem KT_all : ∀ {ts : List KT}, (∀ t ∈ ts, KTKd t) -> ∃ b : Bk, ts = b.map Kd.kt /\ ∀ k ∈ b, NameOk k.n /\ k.rs.length <= 4 /\ ∀ r ∈ k.rs, RuOk r
 | [], _ => ⟨[], rfl, fun _ h => nomatch h⟩
 | t :: ts, h => by
  obtain ⟨k, e, hk⟩ := h t (mcs ..)
  obtain ⟨b, e2, hb⟩ := KT_all fun x hx => h x (mcm _ hx)
  refine ⟨k :: b, by rw [e, e2]; rfl, fun x hx => ?_⟩
  rcases List.mem_cons.mp hx with hx | hx
  ·rw [hx]; exact hk
  ·exact hb x hx
theorem kt_inj {k j : Kd} (e : k.kt = j.kt) : k = j := by
 obtain ⟨n, w, rs⟩ := k
 obtain ⟨n2, w2, rs2⟩ := j
 injection e with e1 e2 e3
 injection e1 with e1
 injection e2 with e2
 injection e3 with e3
 have e3 : rs.map Ru.enc = rs2.map Ru.enc := e3
 have e1 : n = n2 := e1
 have e2 : w = w2 := e2
 subst e1 e2
 have : rs = rs2 := by
  refine (List.map_inj_right ?_).mp e3
  intro x y h
  have h' : PyData.tuple [x.1.enc, x.2.enc] = .tuple [y.1.enc, y.2.enc] := h
  injection h' with h'
  injection h' with a h'
  injection h' with b _
  exact Prod.ext (Gr.enc_inj a) (Gr.enc_inj b)
 rw [this]
theorem kts_inj {b c : Bk} (e : b.map Kd.kt = c.map Kd.kt) : b = c := (List.map_inj_right (fun _ _ => kt_inj)).mp e
theorem TgAll_rules : ∀ {rs : List Ru} {zs : List V}, TgAll K H zs (rs.map Ru.enc) -> Bears K H Ru.enc zs rs
 | [], _, .nil => .nil
 | r :: rs, _, .cons h t => by
  refine .cons ?_ (TgAll_rules t)
  cases (h : Tg K H _ (.tuple [r.1.enc, r.2.enc])) with
  | tup hs ha =>
   cases ha with
   | cons h1 ha =>
   cases ha with
   | cons h2 ha =>
   cases ha
   cases h1 with
   | tup a1 b1 =>
   cases h2 with
   | tup a2 b2 => exact .tup hs (.cons (.tup a1 (Tg_ga r.1 b1)) (.cons (.tup a2 (Tg_ga r.2 b2)) .nil))
def KdA (K : PySem.W.Frag) (H : Hp) (bad : List Addr) (v : V) (k : Kd) : Prop := ∃ (t l : Addr) (zs : List V), v = .ref t /\ SqT K H t [.str k.n, .bl k.w, .ref l] /\ H l = some (.lst zs) /\ Bears K H Ru.enc zs k.rs /\ l ∉ bad
theorem KTA_kd {k : Kd} {v : V} (h : KTA K H v k.kt) : KdA K H [] v k := by
 obtain ⟨t, x, y, z, e0, h1, h2, h3, l, zs, rfl, h5, h6⟩ := h
 have h3 : y = .bl k.w := h3
 subst h3
 cases h2
 exact ⟨t, l, zs, e0, h1, h5, TgAll_rules h6, nmn⟩
def NoLst (H : Hp) (bad ps : List Addr) : Prop := ∀ p ∈ ps, p ∈ bad \/ ∀ xs, H p ≠ some (.lst xs)
theorem NoLst.nil {bad : List Addr} : NoLst H bad [] := fun _ z => nomatch z
theorem KdA.sb {k : Kd} {v : V} {ps bad : List Addr} (h : KdA K H bad v k) (e : SB ps H H') (n : NoLst H bad ps) : KdA K H' bad v k := by
 obtain ⟨t, l, zs, e0, h1, h2, h3, h4⟩ := h
 exact ⟨t, l, zs, e0, e.sqT h1, e.keep _ _ h2 fun z => (n _ z).elim h4 fun y => y _ h2, h3.sb e Ru.noList_enc, h4⟩
inductive KdAll (K : PySem.W.Frag) (H : Hp) (bad : List Addr) : List V -> Bk -> Prop
 | nil : KdAll K H bad [] []
 | cons {v : V} {k : Kd} {vs : List V} {b : Bk} : KdA K H bad v k -> KdAll K H bad vs b -> KdAll K H bad (v :: vs) (k :: b)
theorem KdAll.sb {ps bad : List Addr} (e : SB ps H H') (n : NoLst H bad ps) : ∀ {vs : List V} {b : Bk}, KdAll K H bad vs b -> KdAll K H' bad vs b
 | _, _, .nil => .nil
 | _, _, .cons h t => .cons (h.sb e n) (KdAll.sb e n t)
theorem KdAll.less {bad bad' : List Addr} (hb : ∀ x ∈ bad', x ∈ bad) : ∀ {vs : List V} {b : Bk}, KdAll K H bad vs b -> KdAll K H bad' vs b
 | _, _, .nil => .nil
 | _, _, .cons ⟨t, l, zs, h1, h2, h3, h4, h5⟩ r => .cons ⟨t, l, zs, h1, h2, h3, h4, fun z => h5 (hb l z)⟩ (KdAll.less hb r)
theorem KdAll.append {bad : List Addr} : ∀ {xs ys : List V} {bs cs : Bk}, KdAll K H bad xs bs -> KdAll K H bad ys cs -> KdAll K H bad (xs ++ ys) (bs ++ cs)
 | _, _, _, _, .nil, h => h
 | _, _, _, _, .cons a b, h => .cons a (KdAll.append b h)
theorem KdAll.length {bad : List Addr} : ∀ {vs : List V} {ts : Bk}, KdAll K H bad vs ts -> vs.length = ts.length
 | _, _, .nil => rfl
 | _, _, .cons h t => by rw [List.length_cons, List.length_cons, KdAll.length t]
theorem KdAll.get {bad : List Addr} : ∀ {vs : List V} {ts : Bk} {i : Nat} {v : V}, KdAll K H bad vs ts -> vs[i]? = some v -> ∃ t, ts[i]? = some t /\ KdA K H bad v t
 | _, _, i, v, .nil, h => by simp at h
 | _, _, 0, v, .cons h t, e => by simp at e; subst e; exact ⟨_, rfl, h⟩
 | _, _, i + 1, v, .cons h t, e => by
  simp at e
  obtain ⟨t', e', h'⟩ := KdAll.get (i := i) t e
  exact ⟨t', by simpa using e', h'⟩
theorem KTAll.kd : ∀ {b : Bk} {vs : List V}, KTAll K H vs (b.map Kd.kt) -> KdAll K H [] vs b
 | [], _, .nil => .nil
 | k :: b, _, .cons h t => .cons (KTA_kd h) (KTAll.kd t)
theorem rules_TgAll {zs : List V} : ∀ {rs : List Ru} {zs : List V}, (∀ r ∈ rs, RuOk r) -> Bears K H Ru.enc zs rs -> TgAll K H zs (rs.map Ru.enc)
 | [], _, _, .nil => .nil
 | r :: rs, _, ok, .cons h t => by
  refine .cons ?_ (rules_TgAll (zs := zs) (fun x hx => ok x (mcm _ hx)) t)
  obtain ⟨o1, o2, _⟩ := ok r (mcs ..)
  cases (h : Dp K H _ (.tuple [r.1.enc, r.2.enc])) with
  | tup hs ha =>
   cases ha with
   | cons h1 ha =>
   cases ha with
   | cons h2 ha =>
   cases ha
   exact .tup hs (.cons (GA_thing o1 h1) (.cons (GA_thing o2 h2) .nil))
theorem KdAll.kt {bad : List Addr} : ∀ {b : Bk} {vs : List V}, (∀ k ∈ b, NameOk k.n /\ ∀ r ∈ k.rs, RuOk r) -> KdAll K H bad vs b -> KTAll K H vs (b.map Kd.kt)
 | [], _, _, .nil => .nil
 | k :: b, _, ok, .cons h t => by
  refine .cons ?_ (KdAll.kt (fun x hx => ok x (mcm _ hx)) t)
  obtain ⟨t, l, zs, e0, h1, h2, h3, _⟩ := h
  obtain ⟨o1, o2⟩ := ok k (mcs ..)
  exact ⟨t, _, _, _, e0, h1, .str _ (name_short o1), rfl, l, zs, rfl, h2, rules_TgAll (zs := zs) o2 h3⟩
theorem RuFit_of {r : Ru} (h : RuOk r) : RuFit (Ru.enc r) := by
 obtain ⟨h1, h2, h3⟩ := h
 have d1 := within_deep r.1
 have d2 := within_deep r.2
 have e1 := r.1.encs_depth
 have e2 := r.2.encs_depth
 obtain ⟨w1, w2⟩ := wides_gr r.1
 obtain ⟨w3, w4⟩ := wides_gr r.2
 refine ⟨?_, ?_, fun a b e g hg => ?_⟩
 ·show PyData.depth (.tuple [.tuple r.1.encs, .tuple r.2.encs]) <= 60
  simp only [PyData.depth, PyData.depthAll]; omega
 ·show wide (.tuple [.tuple r.1.encs, .tuple r.2.encs]) <= 1000
  simp only [wide, wides, List.length_cons, List.length_nil]; omega
 ·have e' : PyData.tuple [r.1.enc, r.2.enc] = .tuple [a, b] := e
  injection e' with e'
  injection e' with ea e'
  injection e' with eb _
  rcases hg with hg | hg
  ·rw [<- ea] at hg; rw [<- Gr.enc_inj hg]; omega
  ·rw [<- eb] at hg; rw [<- Gr.enc_inj hg]; omega
theorem KTFit_of {k : Kd} (h : k.rs.length <= 4 /\ ∀ r ∈ k.rs, RuOk r) : KTFit k.kt := by
 intro ds e
 have e : some (k.rs.map Ru.enc) = some ds := e
 injection e with e
 subst e
 refine ⟨by rw [List.length_map]; omega, fun x hx => ?_⟩
 obtain ⟨r, hr, rfl⟩ := List.mem_map.mp hx
 exact RuFit_of (h.2 r hr)
end
section
variable {J : It} {n : Nat} {G : Hp -> Prop} {Y : Nat -> Hp -> V -> Hp -> Prop}
theorem dc_seq (w : Walk J n G Y) {g : TG} {tt : TT} {tk tv : TE} {vs : List Nat} {σ : L2.St} {H : Hp} {D : Addr} {Qd : Hp -> Prop} (hD : H D = none) (hn : n < sizeLine) (R : Nat -> List (Key × V) -> Hp -> Prop) (h0 : R 0 [] H) (hG : ∀ H2, SB [] H H2 -> G H2)
  (st : ∀ i us H2 H3, SB [D] H2 H3 -> R i us H2 -> R i us H3)
  (turn : ∀ (Pv : Hp -> Prop) i x H2 H' kvs, i < n -> SB [] H H2 -> Y i H2 x H' -> R i kvs H2 -> kvs.length <= i -> (∀ k z H5, SB [] H2 H5 -> R (i + 1) (putK kvs k z) H5 -> ∃ kvs k', kV k = kV k' /\ H5 D = some (.dK kvs) /\ kvs.length < sizeLine /\ Pv (upd H5 D (.dK (putK kvs k' z)))) ->
   (∀ H4, SB [] H2 H4 -> R (i + 1) kvs H4 -> Pv H4) -> g x (wipe σ vs) H' fun σ2 H3 => wipe σ2 vs = wipe σ vs /\ tt σ2 H3 fun b H4 =>
    if b = true then tk σ2 H4 fun y H5 => tv σ2 H5 fun z H6 => ∃ kvs k, y = kV k /\ H6 D = some (.dK kvs) /\ kvs.length < sizeLine /\ Pv (upd H6 D (.dK (putK kvs k z))) else Pv H4)
  (done : ∀ kvs H2, SB [] H H2 -> H2 D = some (.dK kvs) -> R n kvs H2 -> kvs.length <= n -> Qd H2) :
  ∃ W : Nat -> Nat -> Hp -> Prop, (∃ m, W 0 m (upd H D (.dK []))) /\ ∀ i m H, W i m H ->
   (J.stop i H /\ Qd H) \/ (J.go i H /\ ∃ Nx : Hp -> Prop, (∀ H', Nx H' -> ∃ m', m' < m /\ W (i + 1) m' H') /\ ∀ x H', J.yld i H x H' -> g x (wipe σ vs) H' fun σ2 H2 => wipe σ2 vs = wipe σ vs /\ tt σ2 H2 fun b H3 =>
    if b = true then tk σ2 H3 fun y H4 => tv σ2 H4 fun z H5 => ∃ kvs k, y = kV k /\ H5 D = some (.dK kvs) /\ kvs.length < sizeLine /\ Nx (upd H5 D (.dK (putK kvs k z))) else Nx H3) := by
 refine lcG (body := fun Nx x H' => g x (wipe σ vs) H' fun σ2 H2 => wipe σ2 vs = wipe σ vs /\ tt σ2 H2 fun b H3 =>
    if b = true then tk σ2 H3 fun y H4 => tv σ2 H4 fun z H5 => ∃ kvs k, y = kV k /\ H5 D = some (.dK kvs) /\ kvs.length < sizeLine /\ Nx (upd H5 D (.dK (putK kvs k z))) else Nx H3) w (fun i H2 => SB [D] H H2 /\ ∃ kvs, H2 D = some (.dK kvs) /\ R i kvs H2 /\ kvs.length <= i)
  ⟨SB.new hD _, [], upd_same, st _ _ _ _ (SB.new hD _) h0, Nat.le_refl _⟩ (fun i H2 _ h => hG H2 (h.1.drop hD)) (fun i x H2 H' hi h y => ?_) (fun H2 h => ?_)
 ·obtain ⟨s2, kvs, hD2, hR, hl⟩ := h
  refine turn _ i x H2 H' kvs hi (s2.drop hD) y hR hl (fun k z H5 s5 r5 => ?_) (fun H4 s4 r4 => ⟨s2.trans s4.nil, kvs, s4.keep _ _ hD2 nmn, r4, by omega⟩)
  have hD5 := s5.keep _ _ hD2 nmn
  refine ⟨kvs, k, rfl, hD5, by omega, (s2.trans s5.nil).trans (SB.setD hD5 (by simp) _), _, upd_same, st _ _ _ _ (SB.setD hD5 (by simp) _) r5, ?_⟩
  have := length_putK kvs k z
  omega
 ·obtain ⟨s2, kvs, hD2, hR, hl⟩ := h
  exact done kvs H2 (s2.drop hD) hD2 hR hl
end
theorem putK_new {kvs : List (Key × V)} {k : Key} {v : V} (h : ∀ p ∈ kvs, p.1 ≠ k) : putK kvs k v = kvs ++ [(k, v)] := by
 unfold putK
 rw [if_neg]
 intro z
 obtain ⟨p, hp, e⟩ := List.any_eq_true.mp z
 exact h p hp (of_decide_eq_true e)
theorem Bk.nodup_at {b : Bk} (nd : b.names.Nodup) {i : Nat} {k : Kd} (h : b[i]? = some k) : ∀ j ∈ b.take i, j.n ≠ k.n := by
 intro j hj e
 have e1 : b.names = (b.take i).map (·.n) ++ (b.drop i).map (·.n) := by rw [<- List.map_append, List.take_append_drop]
 rw [e1] at nd
 exact (List.nodup_append.mp nd).2.2 j.n (List.mem_map.mpr ⟨j, hj, rfl⟩) k.n (List.mem_map.mpr ⟨k, List.mem_of_getElem? (i := 0) (by rw [List.getElem?_drop]; exact h), rfl⟩) e
theorem SB.setG {H : Hp} {p : Addr} {o : HO} {ps : List Addr} (h : H p = some o) (hp : p ∈ ps) (n1 : ∀ xs, o ≠ .tup xs) (n2 : ∀ u v, o ≠ .frz u v) (o' : HO) : SB ps H (upd H p o') := by
 refine ⟨fun b u e n => ?_, fun b u e => ?_, fun b v u e => ?_, fun b e => ?_⟩
 ·rw [upd_ne (fun (z : b = p) => n (by rw [z]; exact hp))]; exact e
 ·rw [upd_ne (fun (z : b = p) => by subst z; rw [h] at e; exact n1 _ (Option.some.inj e))]; exact e
 ·rw [upd_ne (fun (z : b = p) => by subst z; rw [h] at e; exact n2 _ _ (Option.some.inj e))]; exact e
 ·by_cases q : b = p
  ·subst q; rw [upd_same] at e; cases e
  ·rw [upd_ne q] at e; exact e
theorem rowKV_mem : ∀ {b : Bk} {us : List V} {p : Key × V}, p ∈ b.rowKV us -> ∃ j ∈ b, p.1 = Sum.inr j.n
 | [], _, p, h => by cases h
 | k :: b, [], p, h => by cases h
 | k :: b, u :: us, p, h => by
  rcases List.mem_cons.mp (show p ∈ (Sum.inr k.n, u) :: Bk.rowKV b us from h) with h | h
  ·exact ⟨k, mcs .., by rw [h]⟩
  ·obtain ⟨j, hj, e⟩ := rowKV_mem h
   exact ⟨j, mcm _ hj, e⟩
section
variable {D : Ends} {σ : L2.St} {H : Hp} {t u : TS} {te : TE} {g : TG} {c : TT}
theorem asgI (h : te σ H fun x H1 => g x σ H1 D.nx) : tAsg te g D σ H := h
end
theorem names_shaped {zs : List Str} (h : ∀ z ∈ zs, NameOk z) : SeqAt.shaped (.list (zs.map .str)) = true := by
 have h1 : PyData.canLayAll0 (zs.map .str) = true := by
  induction zs with
  | nil => simp [PyData.canLayAll0]
  | cons z r ih =>
   rw [List.map_cons, PyData.canLayAll0, ih fun y hy => h y (mcm _ hy)]
   simp [PyData.canLay0, Gr.strOk_name (h z (mcs ..))]
 have h2 : PyData.depthAll (zs.map .str) = 0 := by
  clear h1 h
  induction zs with
  | nil => simp [PyData.depthAll]
  | cons z r ih => rw [List.map_cons, PyData.depthAll, ih]; simp [PyData.depth]
 unfold SeqAt.shaped
 rw [PyData.canLay0, h1, Bool.true_and]
 exact decide_eq_true (by simp only [PyData.depth, h2]; omega)
theorem eqv_nil (zs : List Str) : PyData.eqv (.list (zs.map .str)) (.list []) = decide (zs = []) := by
 cases zs with
 | nil => decide +kernel
 | cons z r => simp [PyData.eqv, PyData.eqvAll]
def fac : Nat -> Nat
 | 0 => 1
 | n + 1 => (n + 1) * fac n
theorem fac_pos : ∀ n, 0 < fac n
 | 0 => by decide
 | n + 1 => Nat.mul_pos (by omega) (fac_pos n)
theorem fac_two : ∀ n a b, a + b = n -> fac a * fac b ∣ fac n
 | 0, a, b, h => by
  have h1 : a = 0 := by omega
  have h2 : b = 0 := by omega
  subst h1 h2; exact ⟨1, rfl⟩
 | n + 1, a, b, h => by
  cases a with
  | zero => rw [show b = n + 1 by omega]; exact ⟨1, by simp [fac]⟩
  | succ a =>
   cases b with
   | zero => rw [show a + 1 = n + 1 by omega]; exact ⟨1, by simp [fac]⟩
   | succ b =>
    have h1 := fac_two n a (b + 1) (by omega)
    have h2 := fac_two n (a + 1) b (by omega)
    have e : fac (n + 1) = (a + 1) * fac n + (b + 1) * fac n := by
     rw [<- Nat.add_mul, show a + 1 + (b + 1) = n + 1 by omega]; rfl
    rw [e]
    refine Nat.dvd_add ?_ ?_
    ·rw [show fac (a + 1) * fac (b + 1) = (a + 1) * (fac a * fac (b + 1)) by rw [fac]; exact Nat.mul_assoc _ _ _]
     exact Nat.mul_dvd_mul (Nat.dvd_refl _) h1
    ·rw [show fac (a + 1) * fac (b + 1) = (b + 1) * (fac (a + 1) * fac b) by rw [show fac (b + 1) = (b + 1) * fac b from rfl]; exact Nat.mul_left_comm _ _ _]
     exact Nat.mul_dvd_mul (Nat.dvd_refl _) h2
theorem fac_many (s : Nat) : ∀ m, fac s ^ m ∣ fac (m * s)
 | 0 => by simp [fac]
 | m + 1 => by
  rw [Nat.pow_succ]
  exact Nat.dvd_trans (Nat.mul_dvd_mul (fac_many s m) (Nat.dvd_refl _)) (fac_two _ _ _ (by rw [Nat.add_mul, Nat.one_mul]))
def prN : List Nat -> Nat
 | [] => 1
 | x :: r => x * prN r
theorem prN_append : ∀ a b : List Nat, prN (a ++ b) = prN a * prN b
 | [], b => by simp [prN]
 | x :: r, b => by rw [List.cons_append, prN, prN, prN_append r b, Nat.mul_assoc]
theorem prN_rep (l : List Nat) : ∀ m, prN (List.replicate m l).flatten = prN l ^ m
 | 0 => rfl
 | m + 1 => by rw [List.replicate_succ, List.flatten_cons, prN_append, prN_rep l m, Nat.pow_succ, Nat.mul_comm]
theorem prN_pos : ∀ {l : List Nat}, (∀ x ∈ l, 1 <= x) -> 0 < prN l
 | [], _ => by decide
 | x :: r, h => Nat.mul_pos (h x (mcs ..)) (prN_pos fun y hy => h y (mcm _ hy))
def Gr.szs : Gr -> List Nat
 | .nil => []
 | .cons _ g m r => (List.replicate m.toNat ((1 + g.size).toNat :: g.szs)).flatten ++ r.szs
theorem flat_len {α : Type} (l : List α) (m : Nat) : (List.replicate m l).flatten.length = m * l.length := by simp
theorem Gr.szs_len {C : Int} : ∀ {g : Gr}, g.Ok C -> ((g.szs.length : Nat) : Int) = g.size
 | .nil, _ => rfl
 | .cons k g m r, ⟨h0, h1, h2, h3, h4, _⟩ => by
  have e1 := Gr.szs_len h1
  have e2 := Gr.szs_len h4
  show (((List.replicate m.toNat ((1 + g.size).toNat :: g.szs)).flatten ++ r.szs).length : Int) = m * (1 + g.size) + r.size
  rw [List.length_append, flat_len, List.length_cons, Int.natCast_add, Int.natCast_mul, e2, Int.natCast_add, e1, Int.toNat_of_nonneg (by omega)]
  show m * (g.size + 1) + r.size = _
  rw [Int.add_comm g.size 1]
theorem Gr.szs_mem {C : Int} : ∀ {g : Gr}, g.Ok C -> ∀ x ∈ g.szs, 1 <= x /\ (x : Int) <= g.size
 | .nil, _, x, h => by cases h
 | .cons k g m r, ⟨h0, h1, h2, h3, h4, _⟩, x, h => by
  have e1 := Gr.szs_len h1
  have e2 := Gr.szs_len h4
  have hm : m * (1 + g.size) ≥ 1 * (1 + g.size) := Int.mul_le_mul_of_nonneg_right h2 (by omega)
  have es : (Gr.cons k g m r).size = m * (1 + g.size) + r.size := rfl
  rcases List.mem_append.mp h with h | h
  ·obtain ⟨l, hl, hx⟩ := List.mem_flatten.mp h
   obtain ⟨_, rfl⟩ := List.mem_replicate.mp hl
   rcases List.mem_cons.mp hx with hx | hx
   ·subst hx; rw [es]; omega
   ·have := Gr.szs_mem h1 x hx
    rw [es]; omega
  ·have := Gr.szs_mem h4 x h
   rw [es]; omega
theorem Gr.szs_dvd {C : Int} : ∀ {g : Gr}, g.Ok C -> prN g.szs ∣ fac g.size.toNat
 | .nil, _ => ⟨1, rfl⟩
 | .cons k g m r, ⟨h0, h1, h2, h3, h4, _⟩ => by
  have e1 := Gr.szs_len h1
  have e2 := Gr.szs_len h4
  have d1 := Gr.szs_dvd h1
  have d2 := Gr.szs_dvd h4
  have en : (Gr.cons k g m r).size.toNat = m.toNat * (1 + g.size).toNat + r.size.toNat := by
   show (m * (1 + g.size) + r.size).toNat = _
   have : ((m.toNat * (1 + g.size).toNat : Nat) : Int) = m * (1 + g.size) := by rw [Int.natCast_mul, Int.toNat_of_nonneg (by omega), Int.toNat_of_nonneg (by omega)]
   omega
  rw [en]
  show prN ((List.replicate m.toNat ((1 + g.size).toNat :: g.szs)).flatten ++ r.szs) ∣ _
  rw [prN_append, prN_rep, prN]
  have et : (1 + g.size).toNat = g.size.toNat + 1 := by omega
  have d3 : (1 + g.size).toNat * prN g.szs ∣ fac (1 + g.size).toNat := by
   rw [et]; exact Nat.mul_dvd_mul (Nat.dvd_refl _) d1
  have d4 : ((1 + g.size).toNat * prN g.szs) ^ m.toNat ∣ fac (1 + g.size).toNat ^ m.toNat := by
   obtain ⟨c, hc⟩ := d3
   exact ⟨c ^ m.toNat, by rw [hc, Nat.mul_pow]⟩
  exact Nat.dvd_trans (Nat.mul_dvd_mul (Nat.dvd_trans d4 (fac_many _ _)) d2) (fac_two _ _ _ rfl)
open TL (tl)
theorem seq_via {t rest : TS} {D : Ends} {σ : L2.St} {H : Hp} (R : L2.St -> Hp -> Prop) (h : ∀ nx : L2.St -> Hp -> Prop, (∀ σ' H', R σ' H' -> nx σ' H') -> t { D with nx := nx } σ H) (k : ∀ σ' H', R σ' H' -> rest D σ' H') : tSeq t rest D σ H := h (rest D) k
theorem nameI {i : Nat} {v : V} {σ : L2.St} {H : Hp} {f : L2.St -> Hp -> Prop} {r : VK} {b c : L2.St -> Hp -> Prop} (h : f (σ.set i (some v)) H) : gName i v σ H (Ends.mk f r b c).nx := h
theorem Bk.Ok.two {b : Bk} (ok : b.Ok) : ∀ k ∈ b, k.rs.length <= 4 /\ ∀ r ∈ k.rs, RuOk r := fun k hk => ⟨(ok.kd k hk).2.1, fun r hr => ((ok.kd k hk).2.2 r hr).1⟩
theorem Bk.Ok.three {b : Bk} (ok : b.Ok) : ∀ k ∈ b, NameOk k.n /\ ∀ r ∈ k.rs, RuOk r := fun k hk => ⟨(ok.kd k hk).1, (ok.two k hk).2⟩
theorem make_core {K : PySem.W.Frag} {C B : Addr} {b : Bk} {H : Hp} {l : Addr} {xs : List V} {bad : List Addr} {Q : VK} {E : XK} (hl : H l = some (.lst xs)) (ha : KdAll K H bad xs b) (ok : b.Ok) (k : ∀ y H', SB [] H H' -> H y = none -> BkA K C H' (.ref y) b -> Q (.ref y) H') :
  ∀ y dx, H y = none -> H dx = none -> dx ≠ y -> spBInit K C B (.ref y :: [.ref l]) (upd (upd H dx (.own y)) y (.ins C dx [])) (fun v H2 => v = .non /\ Q (.ref y) H2) E := by
 intro y dx hy hdx hne
 have b8 := ok.len
 have hy' : upd H dx (.own y) y = none := by rw [upd_ne (fun z => hne z.symm)]; exact hy
 have t4 := (SB.new (ps := []) hdx (.own y)).trans (SB.new hy' (.ins C dx []))
 have hdx4 : upd (upd H dx (.own y)) y (.ins C dx []) dx = some (.own y) := by rw [upd_ne hne, upd_same]
 have hx4 : upd (upd H dx (.own y)) y (.ins C dx []) y = some (.ins C dx []) := upd_same
 refine ⟨y, dx, l, xs, b.map Kd.kt, rfl, hx4, hdx4, t4.keep _ _ hl nmn, (ha.sb t4 NoLst.nil).kt ok.three, fun t ht => ?_, by rw [List.length_map]; omega, fun b' e ok' H5 s5 hbk => ?_, fun z => absurd ⟨b, rfl, ok⟩ z⟩
 ·obtain ⟨k, hk, rfl⟩ := List.mem_map.mp ht
  exact KTFit_of (ok.two k hk)
 ·have e := kts_inj e
  subst e
  exact ⟨rfl, k y H5 (((t4.nil (ps := [y])).trans s5).drop hy) hy hbk⟩
open TL (tl)
theorem str_ext {x y : Str} (h : tl x = tl y) : x = y := by
 have hc : x.cps = y.cps := Array.toList_inj.mp h
 cases x; cases y; cases hc; rfl
open PySem.Froz (SD sObj TxOk addTx tailTx)
structure TxS (P : Program) (w : World) (D : SD) (l : List Str) : Prop where
 ok : TxOk P w D l
 nd : l.Nodup
 ris : Ris D.2.2.place.toList
 led : w.params.followText "set-order" = true \/ D.2.2.led = true
def insS (k : Str) (l : List Str) : List Str := if k ∈ l then l else k :: l
section
variable {P : Program} {w : World} {A : Around} {E : Value -> Shared -> Prop} {s : Shared} {D : SD} {l : List Str} {k : Str} {u : Tok} {a : Addr} {T : String}
theorem tail_walk {es : Array (Int × Value)} {ep : Nat} {t : SetTable} {b : Bool} (r : Ris t.place.toList) (d : w.params.followText "set-order" = true \/ t.led = true) :
  Ris (tailTx ep es t b).2.2.place.toList /\ (w.params.followText "set-order" = true \/ (tailTx ep es t b).2.2.led = true) := by
 unfold tailTx
 split
 ·exact ⟨relayAll_ris .., d.imp id fun z => by rw [relayAll_led]; exact z⟩
 ·exact ⟨r, d⟩
theorem TxS.add (F : TxS P w D l) (hk : k ∉ l) : TxS P w (addTx (hashStr w k) (.str k u) D) (k :: l) := by
 obtain ⟨es, ep, t⟩ := D
 have r1 := layNew_ris t es (hashStr w k) (.str k u) F.ris
 have d1 := F.led.imp id fun z => (layNew_led t es (hashStr w k) (.str k u)).trans z
 have key : ∀ t' : SetTable, t'.place = (layNew t es (hashStr w k) (.str k u)).2.1.place -> t'.led = (layNew t es (hashStr w k) (.str k u)).2.1.led -> ∀ es' b, Ris (tailTx ep es' t' b).2.2.place.toList /\ (w.params.followText "set-order" = true \/ (tailTx ep es' t' b).2.2.led = true) :=
  fun t' e1 e2 es' b => tail_walk (by rw [e1]; exact r1) (by rw [e2]; exact d1)
 have z := key (if (layNew t es (hashStr w k) (.str k u)).2.1.plain = true then { (layNew t es (hashStr w k) (.str k u)).2.1 with plain := false } else (layNew t es (hashStr w k) (.str k u)).2.1) (by split <;> rfl) (by split <;> rfl) (layNew t es (hashStr w k) (.str k u)).1 (layNew t es (hashStr w k) (.str k u)).2.2.1
 exact ⟨PySem.Froz.add_ok u F.ok, List.nodup_cons.mpr ⟨hk, F.nd⟩, z.1, z.2⟩
theorem add_there {Q : Bool -> Shared -> Prop} (ho : s.heap.get? a = some (sObj T D)) (F : TxOk P w D l) (hk : k ∈ l) (hb : l.length < scanBound) (h : Q false s) : wpAny (model P w) A (setAddHashed a (.str k u) (hashStr w k)) Q E s := by
 obtain ⟨es, ep, t⟩ := D
 have hd : (sObj T (es, ep, t)).data = .set es ep t := rfl
 have hel : ElemsOf (strKind P w) es.toList := F.el
 have hsz : es.size = l.length := F.sz
 have is0 : (strKind P w).is k (.str k u) = true := PySem.Froz.is_str k u
 obtain ⟨j, hj⟩ : ∃ j, List.findIdx? (fun e => (strKind P w).is k e.2) es.toList = some j := by
  cases e : List.findIdx? (fun e => (strKind P w).is k e.2) es.toList with
  | some j => exact ⟨j, rfl⟩
  | none =>
   obtain ⟨x, hx, hi⟩ := (F.mem k).mp hk
   have := List.findIdx?_eq_none_iff.mp e x hx
   rw [hi] at this
   cases this
 unfold setAddHashed setAddHashedIn
 refine wpAny_holding (wpAny_bind (wpAny_setState_of ho hd F.fit ?_))
 dsimp only
 rw [byScan_of rfl (by rw [hsz]; exact hb) hel]
 simp only [↓reduceIte]
 unfold setAddByScan
 refine wpAny_bind (wpAny_bind (wpAny_rule (wpAny_bind (wpAny_setScan_of (knd := strKind P w) (k := k) is0 ho hd F.fit hel ?_))))
 rw [hj]
 exact wpAny_pure (wpAny_pure h)
theorem add_any {Q : Bool -> Shared -> Prop} (ho : s.heap.get? a = some (sObj T D)) (F : TxS P w D l) (hb : l.length + 1 < scanBound)
  (h : ∀ (b : Bool) (h' : Heap) (D' : SD), Heap.SameBut a s.heap h' -> h'.get? a = some (sObj T D') -> TxS P w D' (insS k l) -> Q b { s with heap := h' }) : wpAny (model P w) A (setAddHashed a (.str k u) (hashStr w k)) Q E s := by
 by_cases hk : k ∈ l
 ·refine add_there ho F.ok hk (by omega) (h false s.heap D (Heap.SameBut.refl a s.heap) ho ?_)
  unfold insS
  rw [if_pos hk]
  exact F
 ·refine PySem.Froz.add_x ho F.ok hk hb (h true _ _ (Heap.SameBut.update ..) (PySem.Froz.get_upd _ ho rfl) ?_)
  unfold insS
  rw [if_neg hk]
  exact F.add hk
end
section
variable {P : Program} {w : World} {A : Around} {E : Value -> Shared -> Prop} {s : Shared} {D : SD} {l : List Str} {k : Str} {u : Tok} {a : Addr}
theorem call_add {Q : Value -> Shared -> Prop} (ho : s.heap.get? a = some (sObj "set" D)) (F : TxS P w D l) (hb : l.length + 1 < scanBound)
  (h : ∀ (h' : Heap) (D' : SD), Heap.SameBut a s.heap h' -> h'.get? a = some (sObj "set" D') -> TxS P w D' (insS k l) -> Q .none { s with heap := h', toks := s.toks + 1 }) : wpAny (model P w) A (call (.builtin "set.add") [.ref a, .str k u]) Q E s := by
 refine wpAny_call_entry PySem.F.slot_set_add ⟨_, ho, rfl⟩ PySem.F.entry_set_add ?_ (PySem.F.args_set_add_2 _ _)
 unfold Builtin.«set.add» Builtin.Frozenset.oneOther
 simp only [List.isEmpty_nil, bind_assoc]
 unfold Builtin.Frozenset.addrOf setAdd
 refine wpAny_bind (wpAny_pure ?_)
 try dsimp only
 refine wpAny_bind (wpAny_pure ?_)
 try dsimp only
 refine wpAny_bind (wpAny_holding (wpAny_bind ((strKind P w).pyHash (k := k) (PySem.Froz.is_str k u) ?_)))
 refine add_any (s := { s with toks := s.toks + 1 }) ho F hb fun b h' D' sb o' F' => ?_
 refine (?_ : wpAny (model P w) _ (ret Value.none) _ E _)
 exact wpAny_pure ⟨_, rfl, h h' D' sb o' F'⟩
end
def SetSO (P : Program) (w : World) (a : Addr) (l : List Str) : HO := .ext fun h => ∃ D : SD, h.get? a = some (sObj "set" D) /\ TxS P w D l
theorem setSO_new {P : Program} {w : World} {H : Hp} {h : Heap} {a : Addr} {l : List Str} {D : SD} (ho : h.get? a = some (sObj "set" D)) (F : TxS P w D l) : ObjOk P w H h a (SetSO P w a l) :=
 ⟨⟨D, ho, F⟩, ⟨_, ho⟩, fun h1 h2 ⟨D', q, F'⟩ k => ⟨D', k _ q, F'⟩⟩
section
variable {X : Cx} {pins : List (Addr × Obj)} {σ : L2.St} {H : Hp} {s : Shared} {l : List Str}
theorem setSO_get {a : Addr} (I : Inv X pins σ H s) (ha : H a = some (SetSO X.prog X.w a l)) : ∃ D : SD, s.heap.get? a = some (sObj "set" D) /\ TxS X.prog X.w D l := (I.hok a _ ha).1
theorem addS_ok {E : Value -> Shared -> Prop} {a : Addr} {k : Str} {u : Tok} {Q : Value -> Shared -> Prop} (I : Inv X pins σ H s) (ha : H a = some (SetSO X.prog X.w a l)) (room : l.length + 1 < scanBound)
  (h : ∀ s', Inv X pins σ (upd H a (SetSO X.prog X.w a (insS k l))) s' -> Q .none s') : wpAny (model X.prog X.w) X.A (call (.builtin "set.add") [.ref a, .str k u]) Q E s := by
 obtain ⟨D, ho, F⟩ := setSO_get I ha
 refine call_add ho F room fun h' D' sb o' F' => ?_
 exact h _ (I.write (e := a) (t' := s.toks + 1) (by rw [ha]; trivial) (.inl rfl) (fun b o hb hu => (sb.2 b hb).trans hu) ⟨_, o'⟩ (setSO_new o' F'))
end
theorem fresh_txs (P : Program) (w : World) : TxS P w (#[], 0, .fresh 0 0 (!w.params.followText "set-order")) [] := by
 refine ⟨PySem.Froz.TxOk.nil rfl, List.nodup_nil, List.Pairwise.nil, ?_⟩
 show _ \/ (!w.params.followText "set-order") = true
 cases w.params.followText "set-order"
 ·exact .inr rfl
 ·exact .inl rfl
theorem is_shape {P : Program} {w : World} {k : Str} {v : Value} (h : (strKind P w).is k v = true) : ∃ tk, v = Value.str k tk := by
 have h : Value.isStrOf k v = true := h
 cases v <;> simp [Value.isStrOf] at h
 exact ⟨_, by rw [h]⟩
theorem strs_of : ∀ (l : List Value), (∀ v ∈ l, ∃ k tk, v = Value.str k tk) -> ∃ ss : List Str, StrsAre l ss /\ ∀ k, k ∈ ss ↔ ∃ v ∈ l, ∃ tk, v = Value.str k tk
 | [], _ => ⟨[], .nil, fun k => by simp⟩
 | v :: r, h => by
  obtain ⟨k, tk, rfl⟩ := h v (mcs ..)
  obtain ⟨ss, h1, h2⟩ := strs_of r fun x hx => h x (mcm _ hx)
  refine ⟨k :: ss, .cons k tk h1, fun j => ?_⟩
  rw [List.mem_cons, h2 j]
  refine ⟨fun z => ?_, fun ⟨x, hx, t', e⟩ => ?_⟩
  ·rcases z with rfl | ⟨x, hx, e⟩
   ·exact ⟨_, mcs .., tk, rfl⟩
   ·exact ⟨x, mcm _ hx, e⟩
  ·rcases List.mem_cons.mp hx with q | q
   ·rw [q] at e; cases e; exact .inl rfl
   ·exact .inr ⟨x, q, t', e⟩
theorem perm_of {α : Type} : ∀ {a b : List α}, b.Nodup -> a.length = b.length -> (∀ k, k ∈ b -> k ∈ a) -> a.Perm b
 | a, [], _, hl, _ => by
  have : a = [] := List.eq_nil_of_length_eq_zero hl
  rw [this]
 | a, x :: b, nd, hl, hm => by
  obtain ⟨p, q, e⟩ := List.append_of_mem (hm x (mcs ..))
  subst e
  obtain ⟨n1, n2⟩ := List.nodup_cons.mp nd
  have ih := perm_of (a := p ++ q) (b := b) n2 (by simp at hl ⊢; omega) fun k hk => by
   have hx : k ≠ x := fun z => n1 (z ▸ hk)
   have := hm k (mcm _ hk)
   simp only [List.mem_append, List.mem_cons] at this ⊢
   rcases this with z | z | z
   ·exact .inl z
   ·exact absurd z hx
   ·exact .inr z
  exact List.perm_middle.trans (ih.cons x)
section
variable {P : Program} {w : World} {A : Around} {E : Value -> Shared -> Prop} {s : Shared} {D : SD} {l : List Str} {a : Addr}
theorem sorted_txt {Q : Value -> Shared -> Prop} (hh : A.handled = none) (ho : s.heap.get? a = some (sObj "set" D)) (F : TxS P w D l) (h64 : l.length < 64)
  (h : ∀ (s' : Shared) (p : Addr) (out : Array Value) (c : Nat) (ss : List Str), (∀ b o, s.heap.get? b = some o -> s'.heap.get? b = some o) -> s'.gens = s.gens -> s'.os = s.os -> s.heap.objs.size <= p -> s'.heap.get? p = some (seqObj "list" out c) -> StrsAre out.toList ss -> ss.Perm l -> sortedS ss = true -> Q (.ref p) s') :
  wpAny (model P w) A (call (.builtin "sorted") [.ref a]) Q E s := by
 obtain ⟨es, ep, t⟩ := D
 have hsz : es.size = l.length := F.ok.sz
 have hsc : es.size < scanBound := by rw [hsz]; unfold scanBound; omega
 refine Calls.call_function_entry kind_sorted plain_sorted entry_sorted (args_sorted1 _) ?_
 unfold Builtin.«sorted»
 refine wpAny_bind (m := checkCount "sorted" 1 1 _) (wpAny_pure ?_)
 refine wpAny_bind (collect_set (A := A.in1) hh ⟨_, ho, rfl, rfl⟩ F.ok.fit hsc F.ris F.led fun s1 vs k1 z1 g1 o1 pm => ?_)
 have vl : vs.length = l.length := by rw [pm.length_eq, List.length_map, Array.length_toList, hsz]
 have shape : ∀ v ∈ vs, ∃ k tk, v = Value.str k tk := fun v hv => by
  obtain ⟨e, he, rfl⟩ := List.mem_map.mp (pm.mem_iff.mp hv)
  obtain ⟨⟨k, hk, _⟩, _⟩ := F.ok.el e he
  obtain ⟨tk, q⟩ := is_shape hk
  exact ⟨k, tk, q⟩
 obtain ⟨ss, hS, hmem⟩ := strs_of vs shape
 have hp : ss.Perm l := by
  refine perm_of F.nd (by rw [<- hS.length]; exact vl) fun k hk => ?_
  obtain ⟨e, he, hi⟩ := (F.ok.mem k).mp hk
  obtain ⟨tk, q⟩ := is_shape hi
  exact (hmem k).mpr ⟨e.2, pm.mem_iff.mpr (List.mem_map_of_mem he), tk, q⟩
 refine wpAny_bind (wpAny_newList ?_ (by rw [vl, sizeLine_eq]; omega))
 have at1 : (s1.heap.push (seqObj "list" vs.toArray 0)).get? s1.heap.objs.size = some (seqObj "list" vs.toArray 0) := Heap.get?_push_size _ rfl
 refine wpAny_bind (wpAny_holding (wpAny_call_entry slot_list_sort ⟨_, at1, rfl⟩ entry_list_sort (list_sort_treeK strKind_oneLt at1 hS.keysOf (fun v1 v2 r e => keyKind_strs (by rw [<- e]; exact hS)) (by rw [vl]; exact h64) fun st' p1 p2 => ⟨_, rfl, ?_⟩) (args_list_sort _)))
 obtain ⟨ss', q1, q2, q3⟩ := sorted_out_str hS p1 p2
 obtain ⟨c, hc⟩ := sortedHeap_at (vs := vs) (out := (arrOf st').map (·.2)) at1
 refine wpAny_pure ⟨_, rfl, h _ s1.heap.objs.size _ c ss' (fun b o e => ?_) g1 o1 z1 hc q1 (q2.trans hp) q3⟩
 have e1 := k1 b o e
 have lt := Heap.lt_size e1
 show (sortedHeap (s1.heap.push (seqObj "list" vs.toArray 0)) s1.heap.objs.size vs _).get? b = some o
 rw [sortedHeap_old (Nat.ne_of_lt lt) (by rw [size_push']; exact Nat.lt_succ_of_lt lt)]
 exact Heap.get?_push_of_some _ e1
end
section
variable {X : Cx}
def rSortedTx (P : Program) (w : World) : List V -> Hp -> VK -> Prop := fun vs H Q => ∃ (a : Addr) (l : List Str), vs = [.ref a] /\ H a = some (SetSO P w a l) /\ l.length < 64 /\ ∀ (ss : List Str) (p : Addr), ss.Perm l -> sortedS ss = true -> H p = none -> Q (.ref p) (upd H p (.lst (ss.map V.str)))
theorem cr_sortedTx (hc : X.calm = true) : CallR X (.builtin "sorted") (rSortedTx X.prog X.w) := by
 intro pins s σ H vs us Q I r h
 obtain ⟨a, l, rfl, ha, h64, q⟩ := h
 obtain ⟨D, ho, F⟩ := setSO_get I ha
 rw [Vals.ref1 r]
 refine sorted_txt (I.ok.hd hc) ho F h64 fun s' p out c ss kp eg eo hp at' hS pm srt => ?_
 have hn : H p = none := I.hok.fresh hp
 have hz : (ss.map V.str).length <= sizeLine := by rw [List.length_map, pm.length_eq, sizeLine_eq]; omega
 obtain ⟨h', g', d', tk', os'⟩ := s'
 have eo : os' = s.os := eo
 subst eo
 exact ⟨.ref p, upd H p (.lst (ss.map V.str)), I.call (ch := []) (Un.laid kp hp hn) (I.hok.laid kp hp ⟨hz, out.toList, c, vals_of_strs hS, at'⟩) (by rw [show g' = s.gens from eg]; exact I.bare) (fun _ z => nomatch z), rfl, q ss p pm srt hn⟩
end
section
variable {X : Cx}
def tScS (P : Program) (w : World) (wi : TI) (g : TG) (tt : TT) (te : TE) (vs : List Nat) : TE := fun σ H Q => wi σ H fun J H1 => ∀ D, H1 D = none -> ∃ W : Nat -> Nat -> Hp -> Prop, (∃ m, W 0 m (upd H1 D (SetSO P w D []))) /\ ∀ i m Hi, W i m Hi ->
 (J.stop i Hi /\ Q (.ref D) Hi) \/ (J.go i Hi /\ ∃ Nx : Hp -> Prop, (∀ H', Nx H' -> ∃ m', m' < m /\ W (i + 1) m' H') /\ ∀ x H', J.yld i Hi x H' -> g x (wipe σ vs) H' fun σ2 H2 => wipe σ2 vs = wipe σ vs /\ tt σ2 H2 fun b H3 =>
  if b = true then te σ2 H3 fun y H4 => ∃ (z : Str) (l : List Str), y = .str z /\ H4 D = some (SetSO P w D l) /\ l.length + 1 < scanBound /\ Nx (upd H4 D (SetSO P w D (insS z l))) else Nx H3)
theorem pe_scS {elt tg iter : Expr} {ifs : List Expr} {scope : Scope} {own : List (PySem.Str × Nat)} {pos : Pos} {wi : TI} {g : TG} {tt : TT} {te : TE} (hc : X.calm = true) (hN : X.N.Nodup) (hi : PI X tg iter wi) (ok : BlkOk X.N X.env.scope scope own)
  (hg : ∀ (s1 : Shared) (H1 : Hp) (C : Addr) (cl : List (PySem.Str × Addr)) (fp : List Addr), L2.PG (X.blk s1 H1 scope (compEnvC scope cl C X.env) fp) tg g) (ht : ∀ (s1 : Shared) (H1 : Hp) (C : Addr) (cl : List (PySem.Str × Addr)) (fp : List Addr), L2.PTs (X.blk s1 H1 scope (compEnvC scope cl C X.env) fp) ifs tt)
  (he : ∀ (s1 : Shared) (H1 : Hp) (C : Addr) (cl : List (PySem.Str × Addr)) (fp : List Addr), L2.PE (X.blk s1 H1 scope (compEnvC scope cl C X.env) fp) elt te) (hs : ∀ x, foldedSetIterable iter X.env x = pure x := by intro _; rfl) :
  PE X (.SetComp elt [⟨tg, iter, ifs, 0⟩] scope pos) (tScS X.prog X.w wi g tt te (own.map (·.2))) := by
 refine ⟨fun pins s σ H Q I h => ?_⟩
 rw [PpSet.eval_SetComp]
 have clo : ∀ y ∈ scope.names, y.2 = .free -> ∃ c, X.env.cells.lookup y.1 = some c := fun y hy e => (ok.free y hy e).elim (fun k => I.ok.has _ (.inl k)) fun k => I.ok.has _ (.inr k)
 refine wpAny_comprehension_free (use := none) rfl hs (closure_ok clo) ok.kind (fun y hy e => by rw [ok.uniq y hy, e]) (thn (hi.run pins s σ H _ I h) fun xv s1 hx => thn hx fun itv s2 got => ?_)
 obtain ⟨it, fp, tn, J, Ha, e0, Ia, Tn, sta, fpa, walk⟩ := got
 subst e0
 refine PpSet.newSet_ok (newEnv_comp ?_)
 -- the new set, at the heap's end
 generalize eD : s2.heap.objs.size = D
 have freeD : Ha D = none := Ia.hok.fresh (Nat.le_of_eq eD)
 obtain ⟨W, ⟨m0, w0⟩, turn⟩ := walk D freeD
 generalize eb : ({ s2 with heap := s2.heap.push { cls := .type "set", dict := none, data := .set #[] 0 (.fresh 0 0 (!X.w.params.followText "set-order")) } } : Shared) = sb
 have hpb : sb.heap = s2.heap.push { cls := .type "set", dict := none, data := .set #[] 0 (.fresh 0 0 (!X.w.params.followText "set-order")) } := by rw [<- eb]
 have Ib : Inv X pins σ (upd Ha D (SetSO X.prog X.w D [])) sb := by
  rw [<- eb]
  refine Ia.laid (t' := s2.toks) (fun b o e => Heap.get?_push_of_some _ e) (Nat.le_of_eq eD) ?_
  rw [<- eD]
  exact setSO_new (Heap.get?_push_size _ rfl) (fresh_txs X.prog X.w)
 have low : ∀ b ∈ fp, b < s2.heap.objs.size := fun b hb => let ⟨o, e, _⟩ := Tn.obj _ _ sta b hb; Heap.lt_size e
 have fpb : ∀ b ∈ fp, FpOk X pins (upd Ha D (SetSO X.prog X.w D [])) b /\ b < sb.heap.objs.size := fun b hb => by
  refine ⟨⟨?_, (fpa b hb).2⟩, by rw [hpb, Heap.size_push]; exact Nat.lt_succ_of_lt (low b hb)⟩
  rw [upd_ne (by rw [<- eD]; exact Nat.ne_of_lt (low b hb))]
  exact (fpa b hb).1
 have stb : tn 0 sb.heap := Tn.keep _ _ _ sta fun b _ o e => by rw [hpb]; exact Heap.get?_push_of_some _ e
 have Ic := block_start Ib ok hN fpb
 generalize eHb : upd Ha D (SetSO X.prog X.w D []) = Hb at Ib Ic w0 fpb
 have pg := hg sb Hb sb.heap.objs.size (cellsFrom (sb.heap.objs.size + 1) scope.names (cloFrom X.env.cells scope.names [])) fp
 have pt := ht sb Hb sb.heap.objs.size (cellsFrom (sb.heap.objs.size + 1) scope.names (cloFrom X.env.cells scope.names [])) fp
 have pe := he sb Hb sb.heap.objs.size (cellsFrom (sb.heap.objs.size + 1) scope.names (cloFrom X.env.cells scope.names [])) fp
 show codeAny (model X.prog X.w) X.A (.compStart (.SetComp elt [⟨tg, iter, ifs, 0⟩] scope pos) 0 (.ref it) (.ref D) (compEnvC scope (cellsFrom (sb.heap.objs.size + 1) scope.names (cloFrom X.env.cells scope.names [])) sb.heap.objs.size X.env)) (compPost (model X.prog X.w) X.A X.xe none (EP X pins σ Q) (.ref D) sb.heap.objs.size) { sb with heap := pushCells (sb.heap.push { cls := .type "dict", data := .dict #[] }) scope.names }
 have noneF : ∀ b ∈ fp, Hb b = none := fun b hb => (fpb b hb).1.1
 generalize ece : compEnvC scope (cellsFrom (sb.heap.objs.size + 1) scope.names (cloFrom X.env.cells scope.names [])) sb.heap.objs.size X.env = ce at Ic pg pt pe ⊢
 have ecl : ce.locals = sb.heap.objs.size := by subst ece; rfl
 generalize esc : ({ sb with heap := pushCells (sb.heap.push { cls := .type "dict", data := .dict #[] }) scope.names } : Shared) = sc at Ic ⊢
 have stc : tn 0 sc.heap := Tn.keep _ _ _ stb fun b _ o e => by rw [<- esc]; exact pushCells_keeps _ _ _ _ (Heap.get?_push_of_some _ e)
 -- the block's context
 let XB : Cx := X.blk sb Hb scope ce fp
 have still : ∀ {τ : L2.St} {G : Hp} {t : Shared}, Inv XB [] τ G t -> (∀ b ∈ fp, G b = none) -> ∀ b ∈ fp, FpOk XB [] G b := fun {τ G t} I' hn b hb =>
  ⟨hn b hb, (I'.ok.exf b hb).1, I'.ok.exfs b hb, .inl hb, fun x c e => (I'.ok.exf b hb).2 x c e, fun p hp => absurd (show p ∈ ([] : List (Addr × Obj)) ++ [] from hp) (by simp)⟩
 have loop : codeAny (model X.prog X.w) X.A (.compLoop (.SetComp elt [⟨tg, iter, ifs, 0⟩] scope pos) 0 (.ref it) (.ref D) ce) (compPost (model X.prog X.w) X.A X.xe none (EP X pins σ Q) (.ref D) sb.heap.objs.size) sc := by
  refine PpSet.compLoopS_any (fun n t => ∃ i G, Inv XB [] (wipe σ (own.map (·.2))) G t /\ tn i t.heap /\ (∀ b ∈ fp, G b = none) /\ W i n G) ?_ m0 ⟨0, Hb, Ic, stc, noneF, w0⟩
  rintro n t ⟨i, G, It, stt, nt, wt⟩
  rcases turn i n G wt with ⟨ends, qq⟩ | ⟨goes, Nx, hNx, step⟩
  ·refine thnF (Tn.done XB rfl rfl rfl hc i [] t _ G (fun _ _ => False) It (still It nt) stt ends) fun r t6 ⟨er, I6⟩ => ?_
   subst er
   have I7 : Inv X pins σ G t6 := Ib.call' (ch := fp) I6.os I6.base I6.hok I6.bare fun b hb => ⟨(fpb b hb).1.2.2.2.1, (fpb b hb).1.2.1, (fpb b hb).1.2.2.2.2.1, (fpb b hb).1.2.2.2.2.2⟩
   have nC : G sb.heap.objs.size = none := ecl ▸ (show G ce.locals = none from I6.free)
   obtain ⟨m, hn, _⟩ := I6.loc
   have hn : t6.heap.Ns sb.heap.objs.size m := ecl ▸ (show t6.heap.Ns ce.locals m from hn)
   obtain ⟨f0, f1, f2, f3, f4, f5⟩ := Ib.fpOk (Nat.le_refl _) nC
   exact ⟨m, hn, fun h'' same => ⟨.ref D, G, I7.turned (t' := t6.toks) (fun b o hb e => (same.2 b hb).trans e) f0 f1 f3 f4 f5, rfl, qq⟩⟩
  ·refine thnF (Tn.item XB rfl rfl rfl hc i [] t _ G (fun _ _ => False) It (still It nt) stt goes) fun r t6 ⟨u, er, h6⟩ => ?_
   subst er
   refine thnF h6 fun _ t7 ⟨x, G7, I7, r7, y7, st7, n7⟩ => ?_
   have P7 := I7.pinned (still I7 n7) (Tn.obj _ _ st7)
   refine thnF (pg.run _ t7 _ G7 x u _ P7 r7 (step x G7 y7)) fun _ t8 ⟨τ, G8, I8, hw, q8⟩ => ?_
   refine thnF (pt.run _ t8 τ G8 _ I8 q8) fun b t9 ⟨G9, I9, q9⟩ => ?_
   have back : ∀ {t' : Shared} {G' : Hp}, Inv XB ([] ++ pinsAt fp t7.heap) τ G' t' -> Nx G' -> ∃ m, m < n /\ ∃ i G, Inv XB [] (wipe σ (own.map (·.2))) G t' /\ tn i t'.heap /\ (∀ b ∈ fp, G b = none) /\ W i m G := fun {t' G'} I' nx => by
    obtain ⟨m', hm, w'⟩ := hNx G' nx
    have keep : ∀ b ∈ fp, ∀ o, t7.heap.get? b = some o -> t'.heap.get? b = some o /\ G' b = none := fun b hb o e =>
     have z := I'.pin (b, o) (mar _ (mar _ (mem_pinsAt hb e)))
     ⟨z.1, z.2.1⟩
    refine ⟨m', hm, i + 1, G', (I'.unpinned (pins := [])).weak (by rw [<- hw, wipe_length]) (fun j v e => (wipe_some (hw ▸ e)).1), Tn.keep _ _ _ st7 fun b hb o e => (keep b hb o e).1, fun b hb => ?_, w'⟩
    obtain ⟨o, e, _⟩ := Tn.obj _ _ st7 b hb
    exact (keep b hb o e).2
   cases b with
   | false => exact back I9 q9
   | true =>
    refine thnF (pe.run _ t9 τ G9 _ I9 q9) fun z t10 ⟨yv, G10, I10, r10, zz, l0, ey, hD10, room, nx⟩ => ?_
    subst ey
    obtain ⟨tk, rfl⟩ := r10
    exact addS_ok (X := XB) I10 hD10 room fun t11 I11 => back I11 nx
 exact PpSet.codeAny_compStart_set loop (Tn.self X.A 0 _ _ _ stc loop)
end
open PySem.Froz (SD sObj TxOk addTx tailTx)
theorem insS_mem {k x : Str} {l : List Str} : k ∈ insS x l ↔ k = x \/ k ∈ l := by
 unfold insS
 split
 ·rename_i h
  exact ⟨.inr, fun z => z.elim (fun e => e ▸ h) id⟩
 ·exact List.mem_cons
theorem insS_len (x : Str) (l : List Str) : (insS x l).length <= l.length + 1 := by
 unfold insS
 split
 ·omega
 ·simp
theorem rising_all : ∀ {l : List Str} {p : Str}, risingS p l = true -> ∀ x ∈ l, ¬ x.cps.toList < p.cps.toList
 | [], _, _, x, h => by cases h
 | y :: r, p, h, x, hx => by
  rw [risingS, Bool.and_eq_true, Bool.not_eq_true', ltCps_eq] at h
  have h1 : ¬ y.cps.toList < p.cps.toList := of_decide_eq_false h.1
  rcases List.mem_cons.mp hx with e | e
  ·rw [e]; exact h1
  ·exact List.le_trans h1 (rising_all h.2 x e)
theorem sortedS_tail {x : Str} {r : List Str} (h : sortedS (x :: r) = true) : sortedS r = true := by
 cases r with
 | nil => rfl
 | cons y s =>
  have h : risingS x (y :: s) = true := h
  rw [risingS, Bool.and_eq_true] at h
  exact h.2
theorem sorted_same : ∀ {a b : List Str}, a.Perm b -> sortedS a = true -> sortedS b = true -> a = b
 | [], b, p, _, _ => (List.nil_perm.mp p).symm
 | x :: r, [], p, _, _ => absurd p.length_eq (by simp)
 | x :: r, y :: s, p, ha, hb => by
  have ha' : risingS x r = true := ha
  have hb' : risingS y s = true := hb
  have e : x = y := by
   refine str_ext (List.le_antisymm ?_ ?_)
   ·rcases List.mem_cons.mp (p.mem_iff.mpr (mcs (a := y))) with z | z
    ·rw [z]; exact List.lt_irrefl _
    ·exact rising_all ha' y z
   ·rcases List.mem_cons.mp (p.mem_iff.mp (mcs (a := x))) with z | z
    ·rw [z]; exact List.lt_irrefl _
    ·exact rising_all hb' x z
  subst e
  rw [sorted_same (List.perm_cons x |>.mp p) (sortedS_tail ha) (sortedS_tail hb)]
section
variable {J : It} {n : Nat} {G : Hp -> Prop} {Y : Nat -> Hp -> V -> Hp -> Prop} {P : Program} {w' : World}
theorem SetSO.noTup {a : Addr} {l : List Str} : (∀ xs, SetSO P w' a l ≠ .tup xs) /\ ∀ u v, SetSO P w' a l ≠ .frz u v := ⟨(fun _ z => nomatch z), (fun _ _ z => nomatch z)⟩
theorem sc_seq (w : Walk J n G Y) {g : TG} {tt : TT} {te : TE} {vs : List Nat} {σ : L2.St} {H : Hp} {D : Addr} {Qd : Hp -> Prop} (hD : H D = none) (hn : n + 1 < scanBound) (R : Nat -> List Str -> Hp -> Prop) (h0 : R 0 [] H) (hG : ∀ H2, SB [] H H2 -> G H2)
  (st : ∀ i us H2 H3, SB [D] H2 H3 -> R i us H2 -> R i us H3)
  (turn : ∀ (Pv : Hp -> Prop) i x H2 H' us, i < n -> SB [] H H2 -> Y i H2 x H' -> R i us H2 -> us.length <= i -> (∀ z H5, SB [] H2 H5 -> R (i + 1) (insS z us) H5 -> ∃ (z' : Str) (l : List Str), V.str z = .str z' /\ H5 D = some (SetSO P w' D l) /\ l.length + 1 < scanBound /\ Pv (upd H5 D (SetSO P w' D (insS z' l)))) ->
   (∀ H4, SB [] H2 H4 -> R (i + 1) us H4 -> Pv H4) -> g x (wipe σ vs) H' fun σ2 H3 => wipe σ2 vs = wipe σ vs /\ tt σ2 H3 fun b H4 =>
    if b = true then te σ2 H4 fun y H5 => ∃ (z : Str) (l : List Str), y = .str z /\ H5 D = some (SetSO P w' D l) /\ l.length + 1 < scanBound /\ Pv (upd H5 D (SetSO P w' D (insS z l))) else Pv H4)
  (done : ∀ us H2, SB [] H H2 -> H2 D = some (SetSO P w' D us) -> R n us H2 -> us.length <= n -> Qd H2) :
  ∃ W : Nat -> Nat -> Hp -> Prop, (∃ m, W 0 m (upd H D (SetSO P w' D []))) /\ ∀ i m Hi, W i m Hi ->
   (J.stop i Hi /\ Qd Hi) \/ (J.go i Hi /\ ∃ Nx : Hp -> Prop, (∀ H', Nx H' -> ∃ m', m' < m /\ W (i + 1) m' H') /\ ∀ x H', J.yld i Hi x H' -> g x (wipe σ vs) H' fun σ2 H2 => wipe σ2 vs = wipe σ vs /\ tt σ2 H2 fun b H3 =>
    if b = true then te σ2 H3 fun y H4 => ∃ (z : Str) (l : List Str), y = .str z /\ H4 D = some (SetSO P w' D l) /\ l.length + 1 < scanBound /\ Nx (upd H4 D (SetSO P w' D (insS z l))) else Nx H3) := by
 refine lcG (body := fun Nx x H' => g x (wipe σ vs) H' fun σ2 H2 => wipe σ2 vs = wipe σ vs /\ tt σ2 H2 fun b H3 =>
    if b = true then te σ2 H3 fun y H4 => ∃ (z : Str) (l : List Str), y = .str z /\ H4 D = some (SetSO P w' D l) /\ l.length + 1 < scanBound /\ Nx (upd H4 D (SetSO P w' D (insS z l))) else Nx H3) w (fun i H2 => SB [D] H H2 /\ ∃ us, H2 D = some (SetSO P w' D us) /\ R i us H2 /\ us.length <= i) ⟨SB.new hD _, [], upd_same, st _ _ _ _ (SB.new hD _) h0, Nat.le_refl _⟩ (fun i H2 _ h => hG H2 (h.1.drop hD)) (fun i x H2 H' hi h y => ?_) (fun H2 h => ?_)
 ·obtain ⟨s2, us, hD2, hR, hl⟩ := h
  refine turn _ i x H2 H' us hi (s2.drop hD) y hR hl (fun z H5 s5 r5 => ?_) (fun H4 s4 r4 => ⟨s2.trans s4.nil, us, s4.keep _ _ hD2 nmn, r4, by omega⟩)
  have hD5 := s5.keep _ _ hD2 nmn
  have t6 : SB [D] H5 (upd H5 D (SetSO P w' D (insS z us))) := SB.setG hD5 (by simp) SetSO.noTup.1 SetSO.noTup.2 _
  refine ⟨z, us, rfl, hD5, by omega, (s2.trans s5.nil).trans t6, _, upd_same, st _ _ _ _ t6 r5, ?_⟩
  have := insS_len z us
  omega
 ·obtain ⟨s2, us, hD2, hR, hl⟩ := h
  exact done us H2 (s2.drop hD) hD2 hR hl
end
def spRulesN (K : PySem.W.Frag) (C N : Addr) : Sp := fun vs H Q E => ∃ (v : V) (b : Bk) (n : Str), vs = [v, .str n] /\ BkA K C H v b /\ b.length <= 1000 /\ (∀ k ∈ b, k.rs.length <= 1000) /\
 kindOr N b n H E fun k => ∀ (l : Addr) (us : List V) (H' : Hp), SB [] H H' -> H l = none -> H' l = some (.lst us) -> Bears K H' Ru.enc us ((.nil, .nil) :: k.rs) -> Q (.ref l) H'
def Gr.bk : Gr -> Nat -> List (Pl × Str)
 | .nil, _ => []
 | .cons k g _ r, i => (if g = .nil then [([i], k)] else (g.bk 0).map fun x => (i :: x.1, x.2)) ++ r.bk (i + 1)
section
variable {M : Model} {A : Around} {E : Value -> Shared -> Prop} {s : Shared} {env : Env}
theorem CallK_ {func : Expr} {args : List Expr} {kws : List Keyword} {pos : Pos} {Q : Value -> Shared -> Prop}
  (h : wpAny M A (eval func env) (fun f s₁ => wpAny M A (callWith pos f [] (backTo pos (starEach args env)) (backToKw pos (keywordEach kws env))) Q E s₁) E s)
  (he : eval (.Call func args kws pos) env = (do callWith pos (<- eval func env) [] (backTo pos (starEach args env)) (backToKw pos (keywordEach kws env))) := by rfl) :
  wpAny M A (eval (.Call func args kws pos) env) Q E s := by
 rw [he]; exact wpAny_bind h
theorem callWith_typeK {pos : Pos} {T : String} {e : Expr} {rest : List Expr} {kws : List Keyword} {Q : Value -> Shared -> Prop}
  (h : wpAny M A (spliced (backTo pos (starEach (e :: rest) env))) (fun vs s₁ => wpAny M A (evalAll ((backToKw pos (keywordEach kws env)).map (·.2)))
   (fun kvs s₂ => wpAny M A (call (.type T) vs (((backToKw pos (keywordEach kws env)).filterMap (·.1)).zip kvs)) Q E s₂) E s₁) E s)
  (he : starEach (e :: rest) env = (false, eval e env) :: starEach rest env)
  (hplain : (backTo pos (starEach rest env)).any (·.1) = false)
  (hall : (backToKw pos (keywordEach kws env)).all (·.1.isSome) = true)
  (hkw : (backToKw pos (keywordEach kws env)).any (·.1.isNone) = false) :
  wpAny M A (callWith pos (.type T) [] (backTo pos (starEach (e :: rest) env)) (backToKw pos (keywordEach kws env))) Q E s := by
 rw [he] at h ⊢
 have h2 : (backTo pos ((false, eval e env) :: starEach rest env)).any (·.1) = false := by
  show (false || (backTo pos (starEach rest env)).any (·.1)) = false
  rw [hplain]; rfl
 have h3 : backTo pos ((false, eval e env) :: starEach rest env) = (false, eval e env) :: backTo pos (starEach rest env) := rfl
 rw [h3] at h h2 ⊢
 unfold callWith
 refine wpAny_bind (wpAny_holding (wpAny_mono (evalArgs_kwB (Q := fun a s₁ => wpAny M A (call (.type T) ([] ++ a.pos) a.kw) Q E s₁) hall h) (fun a s₁ h₁ => wpAny_bind (wpAny_standAt ?_)) fun _ _ x => x))
 simp only [h2, hkw, Bool.or_false]
 refine wpAny_bind (wpAny_pure ?_)
 exact wpAny_bind (wpAny_mono h₁ (fun r s₂ hr => wpAny_bind (wpAny_holding (wpAny_point (wpAny_pure hr)))) fun _ _ x => x)
end
def IteS (K : PySem.W.Frag) (a : Addr) : It :=
 ⟨fun i H => ∃ (xs : List V) (x : V), SqL K H a xs /\ xs[i]? = some x,
  fun i H v H2 => ∃ T x, v = .ref T /\ H T = none /\ H2 = upd H T (.tup [.int ((i + 1 : Nat) : Int), x]) /\ ∀ xs, SqL K H a xs -> xs[i]? = some x,
  fun i H => ∃ xs : List V, SqL K H a xs /\ xs.length = i⟩
theorem turn_enumS {P : Program} {w : World} {K : PySem.W.Frag} {elts : List Expr} {kk : Nat} {tpos : Pos} (a e it : Addr) (hei : e ≠ it) (hai : a ≠ it) (hea : e ≠ a) :
  Turn P w K (.Tuple elts kk tpos) (IteS K a) [e, it] e (fun i h => (∃ old, IsEnum h e it ((i + 1 : Nat) : Int) old) /\ h.IsListIter it a i) where
 mem := by simp
 obj := fun i h st b hb => by
  obtain ⟨⟨old, he⟩, o, ho, hc, hd⟩ := st
  rcases (show b = e \/ b = it by simpa using hb) with z | z
  ·rw [z]; exact ⟨_, he, fun v q => nomatch q⟩
  ·rw [z]; exact ⟨o, ho, fun v q => by rw [hd] at q; cases q⟩
 keep := fun i h h2 st k => let ⟨⟨old, he⟩, hi⟩ := st; ⟨⟨old, k e (by simp) _ he⟩, hi.at fun o q => k it (by simp) o q⟩
 item := by
  intro X hP hw hK hc i pins s σ H E I hf st hg
  subst hP hw hK
  obtain ⟨⟨old, he⟩, hit⟩ := st
  obtain ⟨xs, x, hq, hx⟩ := hg
  obtain ⟨its, rv, p, hz⟩ := I.list hq
  obtain ⟨u, hu, ru⟩ := rv.get hx
  have hel : e < s.heap.objs.size := Heap.lt_size he
  have hil : it < s.heap.objs.size := by obtain ⟨_, z, _⟩ := hit; exact Heap.lt_size z
  have Dr := Draws.list (prog := X.prog) (w := X.w) (A := X.A.in1) (I.ok.hd hc) it a hai its.toArray
  have hlt : i < its.toArray.size := by
   have := (List.getElem?_eq_some_iff.mp hu).1
   simpa using this
  refine wpAny_pyNext_enum_itemC Dr he ⟨hit, p.isList⟩ hlt hei (by simp [hei, hea]) fun y h2 tk hy ho hst hT hsz hk => ?_
  have hyu : y = u := by
   have h3 : its[i]? = some y := by simpa using hy
   rw [hu] at h3; exact (Option.some.inj h3).symm
  subst hyu
  refine ⟨_, rfl, wpAny_letOwnedTupleGo_enum (s := { s with heap := h2, toks := tk + 1 }) ho fun h3 he3 sb => ?_⟩
  have hT2 : h3.get? s.heap.objs.size = some { cls := .type "tuple", data := .seq #[.int ((i + 1 : Nat) : Int) tk, y] } := (sb.2 _ (Nat.ne_of_gt hel)).trans hT
  have nw : ObjOk X.prog X.w (upd H s.heap.objs.size (.tup [.int ((i + 1 : Nat) : Int), x])) h3 s.heap.objs.size (.tup [.int ((i + 1 : Nat) : Int), x]) := ⟨by show 2 <= sizeLine; decide, [.int ((i + 1 : Nat) : Int) tk, y], .cons ⟨_, rfl⟩ (.cons ru .nil), ⟨_, hT2, rfl, _, rfl⟩⟩
  have I1 : Inv X pins σ (upd H s.heap.objs.size (.tup [.int ((i + 1 : Nat) : Int), x])) { s with heap := h3, toks := tk + 1 } := I.turnedNew (ch := [e, it]) (fun b ob hb z => (sb.2 b (fun y => hb (by simp [y]))).trans (hk b ob (fun y => hb (by simp [y])) (fun y => hb (by simp [y])) z)) hf (Nat.le_refl _) nw
  refine ⟨.ref s.heap.objs.size, _, I1, rfl, ⟨_, x, rfl, I.hok.fresh (Nat.le_refl _), rfl, fun ys hy => by rw [I.list_inj hy hq]; exact hx⟩, ⟨⟨y, ?_⟩, hst.1.at fun o q => (sb.2 it (Ne.symm hei)).trans q⟩, fun b hb => ?_⟩
  ·rw [show ((i + 1 + 1 : Nat) : Int) = ((i + 1 : Nat) : Int) + 1 by omega]; exact he3
  ·have hb2 : b < s.heap.objs.size := by
    rcases (show b = e \/ b = it by simpa using hb) with z | z
    ·rw [z]; exact hel
    ·rw [z]; exact hil
   rw [upd_ne (Nat.ne_of_lt hb2)]; exact (hf b hb).1
 done := by
  intro X hP hw hK hc i pins s σ H E I hf st hg
  subst hP hw hK
  obtain ⟨⟨old, he⟩, hit⟩ := st
  obtain ⟨xs, hq, hx⟩ := hg
  obtain ⟨its, rv, p, hz⟩ := I.list hq
  obtain ⟨f0, f1, f2, f3, f4, f5⟩ := hf it (by simp)
  have hl := rv.length
  have Dr := Draws.list (prog := X.prog) (w := X.w) (A := X.A.in1) (I.ok.hd hc) it a hai its.toArray
  have hn : its.toArray.size = i := by simp; omega
  refine wpAny_pyNext_enum_endD Dr he ⟨by rw [hn]; exact hit, p.isList⟩ fun h2 eb => ⟨rfl, I.turned (t' := s.toks) (fun b o hb z => eb b o hb z) f0 f1 f3 f4 f5⟩
 self := fun A i s Q E st h => let ⟨⟨_, he⟩, _⟩ := st; wpAny_pyIter_enum he h
def iEnumS (K : PySem.W.Frag) (te : TE) : TI := fun σ H R => te σ H fun v H1 => ∃ a xs, v = .ref a /\ SqL K H1 a xs /\ R (IteS K a) H1
theorem pi_enumS {X : Cx} {ex : Expr} {te : TE} {p pos tpos kp cp : Pos} {elts : List Expr} {kk ck : Nat} (hg : Gl X "enumerate") (hm : X.mg "enumerate" = none) (he : PE X ex te) (hs : starEach [ex] X.env = (false, eval ex X.env) :: starEach [] X.env := by rfl) :
  PI X (.Tuple elts kk tpos) (.Call (.Name "enumerate" p) [ex] [⟨some "start", .Constant (.int 1) ck cp, kp⟩] pos) (iEnumS X.K te) := by
 refine ⟨fun pins s σ H R I h => ?_⟩
 refine CallK_ (ld_blt I hg hm boot_enumerate (callWith_typeK (args_cons (thn (he.run pins s σ H _ I h) fun u s1 ⟨v, H1, I1, r1, q1⟩ => args_nil ?_) hs) hs rfl rfl rfl))
 obtain ⟨a, xs, ev, hq, q⟩ := q1
 subst ev
 cases r1
 refine kws_cons (thn ((pe_int (X := X) (i := 1) (j := ck) (pos := cp)).run pins s1 σ H1 (fun v H2 => v = .int 1 /\ H2 = H1) I1 ⟨rfl, rfl⟩) fun u s2 ⟨v, H2, I2, r2, q2⟩ => kws_nil ?_)
 obtain ⟨rfl, rfl⟩ := q2
 obtain ⟨t, rfl⟩ : ∃ t, u = .int 1 t := r2
 obtain ⟨its, rv, pt, hz⟩ := I2.list hq
 have ht : s2.heap.IsList a its.toArray := pt.isList
 have hal : a < s2.heap.objs.size := by obtain ⟨_, z, _⟩ := ht; exact Heap.lt_size z
 show wpAny _ _ (call (.type "enumerate") [.ref a] [(Str.ofString "start", .int 1 t)]) _ _ _
 refine enum_begins_start (begins_list a its.toArray) ht (by decide) (by decide) fun h2 he2 hit hsz hk => wpAny_pyIter_enum he2 ?_
 have I3 : Inv X pins σ H2 { s2 with heap := h2 } := I2.kept (t' := s2.toks) hk
 refine ⟨s2.heap.objs.size + 1, [s2.heap.objs.size + 1, s2.heap.objs.size], _, _, H2, rfl, I3, turn_enumS a (s2.heap.objs.size + 1) s2.heap.objs.size (Nat.succ_ne_self _) (Nat.ne_of_lt hal) (Nat.ne_of_gt (Nat.lt_succ_of_lt hal)), ⟨⟨.none, he2⟩, ⟨_, hit, rfl, rfl⟩⟩, fun b hb => ?_, q⟩
 have hle : s2.heap.objs.size <= b := by
  rcases (show b = s2.heap.objs.size + 1 \/ b = s2.heap.objs.size by simpa using hb) with z | z
  ·rw [z]; exact Nat.le_add_right _ _
  ·rw [z]; exact Nat.le_refl _
 exact I2.fpOk hle (I2.hok.fresh hle)
theorem walk_enumS {K : PySem.W.Frag} {a : Addr} {xs : List V} : Walk (IteS K a) xs.length (fun H => SqL K H a xs) (YPair (fun i => some (.int ((i + 1 : Nat) : Int))) (fun i => xs[i]?)) := by
 refine ⟨fun i _ hi q => ⟨xs, xs[i], q, by simp [hi]⟩, fun _ q => ⟨xs, q, rfl⟩, fun i H v H2 _ q y => ?_⟩
 obtain ⟨T, x, h1, h2, h3, h4⟩ := y
 exact ⟨T, .int ((i + 1 : Nat) : Int), x, h1, h2, h3, rfl, h4 xs q⟩
namespace Gr
def ak : Gr -> Nat -> List (Pl × Str)
 | .nil, _ => []
 | .cons k g _ r, i => (([i], k) :: (g.ak 0).map fun x => (i :: x.1, x.2)) ++ r.ak (i + 1)
def akP (p : Tr × Int) (i : Nat) : List (Pl × Str) := ([i], p.1.1) :: (p.1.2.ak 0).map fun x => (i :: x.1, x.2)
def aks : List (Tr × Int) -> Nat -> List (Pl × Str)
 | [], _ => []
 | p :: r, i => akP p i ++ aks r (i + 1)
theorem ak_ps : ∀ (g : Gr) (i : Nat), g.ak i = aks g.ps i
 | .nil, _ => rfl
 | .cons k g m r, i => by show _ ++ r.ak (i + 1) = _ ++ aks r.ps (i + 1); rw [ak_ps r]; rfl
theorem aks_append : ∀ (as bs : List (Tr × Int)) (i : Nat), aks (as ++ bs) i = aks as i ++ aks bs (i + as.length)
 | [], bs, i => by simp [aks]
 | p :: r, bs, i => by
  show akP p i ++ aks (r ++ bs) (i + 1) = _
  rw [aks_append r bs (i + 1)]
  show _ = (akP p i ++ aks r (i + 1)) ++ aks bs (i + (r.length + 1))
  rw [List.append_assoc, show i + 1 + r.length = i + (r.length + 1) by omega]
theorem aks_take {bs : List (Tr × Int)} {i : Nat} {p : Tr × Int} (h : bs[i]? = some p) : aks (bs.take (i + 1)) 0 = aks (bs.take i) 0 ++ akP p i := by
 have hl : i < bs.length := (List.getElem?_eq_some_iff.mp h).1
 rw [List.take_add_one, h, aks_append, List.length_take, Nat.min_eq_left (by omega), Nat.zero_add]
 show _ ++ (akP p i ++ []) = _
 rw [List.append_nil]
theorem ak_kinds : ∀ (g : Gr) (i : Nat), (g.ak i).map (·.2) = g.within.map (·.1.1)
 | .nil, _ => rfl
 | .cons k g m r, i => by
  have h1 := ak_kinds g 0
  have h2 := ak_kinds r (i + 1)
  show ((([i], k) :: (g.ak 0).map fun x => (i :: x.1, x.2)) ++ r.ak (i + 1)).map (·.2) = (((k, g), m) :: (g.within ++ r.within)).map (·.1.1)
  rw [List.map_append, List.map_cons, List.map_map, h2, List.map_cons, List.map_append, <- h1]
  rfl
theorem ak_len (g : Gr) (i : Nat) : (g.ak i).length = g.parts := by
 have := congrArg List.length (ak_kinds g i)
 rw [List.length_map, List.length_map, within_length] at this
 exact this
theorem ak_long : ∀ (g : Gr) (i : Nat), ∀ x ∈ g.ak i, x.1.length <= g.deep
 | .nil, _, x, h => by cases h
 | .cons k g m r, i, x, h => by
  have h1 := ak_long g 0
  have h2 := ak_long r (i + 1)
  show x.1.length <= max (1 + g.deep) r.deep
  rcases List.mem_append.mp h with h | h
  ·rcases List.mem_cons.mp h with h | h
   ·rw [h]; show 1 <= _; omega
   ·obtain ⟨q, hq, rfl⟩ := List.mem_map.mp h
    have := h1 q hq
    show q.1.length + 1 <= _; omega
  ·have := h2 x h; omega
theorem lk_root {a b : Str} {g : Gr} {os : List (Option Int)} (h : os ≠ []) : lk (a, g) os = lk (b, g) os := by
 cases os with
 | nil => exact absurd rfl h
 | cons o r => rfl
theorem ak_at {G : Gr} : ∀ (g : Gr) (i : Nat), G.ps.drop i = g.ps -> ∀ x ∈ g.ak i, plO x.1 ≠ [] /\ ∃ t : Tr, lk ("", G) (plO x.1) = some t /\ t.1 = x.2
 | .nil, _, _, x, h => by cases h
 | .cons k g m r, i, hd, x, h => by
  have hd' : G.ps.drop i = ((k, g), m) :: r.ps := hd
  have hi : G.ps[i]? = some ((k, g), m) := by
   have := congrArg (·[0]?) hd'
   simpa using this
  have hs : stp G (some ((i : Nat) : Int)) = some (k, g) := by
   show (if (0 : Int) <= ((i : Nat) : Int) then (G.ps[((i : Nat) : Int).toNat]?).map (·.1) else none) = _
   rw [if_pos (by omega), Int.toNat_natCast, hi]; rfl
  rcases List.mem_append.mp h with h | h
  ·rcases List.mem_cons.mp h with h | h
   ·rw [h]
    refine ⟨by simp [plO], (k, g), ?_, rfl⟩
    show (stp G (some ((i : Nat) : Int))).bind _ = _
    rw [hs]; rfl
   ·obtain ⟨q, hq, rfl⟩ := List.mem_map.mp h
    obtain ⟨n1, t, e1, e2⟩ := ak_at (G := g) g 0 rfl q hq
    refine ⟨by simp [plO], t, ?_, e2⟩
    show (stp G (some ((i : Nat) : Int))).bind (fun u => lk u (plO q.1)) = _
    rw [hs]
    show lk (k, g) (plO q.1) = some t
    rw [lk_root (b := "") n1, e1]
  ·refine ak_at r (i + 1) ?_ x h
   rw [<- List.drop_drop, hd']; rfl
theorem ak_place (g : Gr) : ∀ x ∈ g.ak 0, plO x.1 ≠ [] /\ ∃ t : Tr, lk ("", g) (plO x.1) = some t /\ t.1 = x.2 := ak_at g 0 rfl
theorem deep_parts : ∀ g : Gr, g.deep <= g.parts
 | .nil => Nat.le_refl _
 | .cons k g m r => by
  have h1 := deep_parts g
  have h2 := deep_parts r
  show max (1 + g.deep) r.deep <= 1 + g.parts + r.parts
  omega
theorem bk_ak : ∀ (g : Gr) (i : Nat), ∀ x ∈ g.bk i, x ∈ g.ak i
 | .nil, _, x, h => by cases h
 | .cons k g m r, i, x, h => by
  have h1 := bk_ak g 0
  have h2 := bk_ak r (i + 1)
  rcases List.mem_append.mp h with h | h
  ·refine mal _ ?_
   by_cases hg : g = .nil
   ·rw [if_pos hg] at h
    rw [show x = ([i], k) by simpa using h]; exact mcs
   ·rw [if_neg hg] at h
    obtain ⟨q, hq, rfl⟩ := List.mem_map.mp h
    exact mcm _ (List.mem_map.mpr ⟨q, h1 q hq, rfl⟩)
  ·exact mar _ (h2 x h)
theorem bk_bp : ∀ (g : Gr) (i : Nat), (g.bk i).map (·.1) = g.bp i
 | .nil, _ => rfl
 | .cons k g m r, i => by
  have h1 := bk_bp g 0
  have h2 := bk_bp r (i + 1)
  show ((if g = .nil then [([i], k)] else (g.bk 0).map fun x => (i :: x.1, x.2)) ++ r.bk (i + 1)).map (·.1) = (if g = .nil then [[i]] else (g.bp 0).map (i :: ·)) ++ r.bp (i + 1)
  rw [List.map_append, h2]
  by_cases hg : g = .nil
  ·rw [if_pos hg, if_pos hg]; rfl
  ·rw [if_neg hg, if_neg hg, List.map_map, <- h1, List.map_map]; rfl
end Gr
def spAllP (K : PySem.W.Frag) (n : Nat) : Sp := fun vs H Q _ => ∃ (v : V) (g : Gr), vs = [v] /\ GA K H v g /\ g.deep < n /\ g.deep <= 100 /\ g.parts <= 1000 /\ ∀ (D : Addr) (us : List V) (H' : Hp), SB [] H H' -> H D = none -> H' D = some (.lst us) -> Bears K H' plEnc us ((g.ak 0).map (·.1)) -> Q (.ref D) H'
structure Sx where
 n : Str
 i : Nat
 wd : Str
 p : Pl
 k : Str
def Sx.st (s : Sx) : PyData := .tuple [.str s.n, .int (s.i : Int), .str s.wd, plEnc s.p]
def Sx.enc (s : Sx) : PyData := .tuple [s.st, .str s.k]
theorem Sx.noList_st (s : Sx) : noList s.st = true := by simp [Sx.st, noList, noLists, pl_noList]
theorem Sx.noList_enc (s : Sx) : noList s.enc = true := by simp [Sx.enc, noList, noLists, Sx.noList_st]
def stG (n : Str) (i : Nat) (wd : Str) (g : Gr) : List Sx := (g.ak 0).map fun x => ⟨n, i, wd, x.1, x.2⟩
def stR (n : Str) (x : Ru × Nat) : List Sx := stG n x.2 "once" x.1.1 ++ stG n x.2 "each" x.1.2
def Kd.steps (k : Kd) : List Sx := (k.rs.zipIdx 1).flatMap (stR k.n)
def ledR (rs : List Ru) : List Str := rs.flatMap fun r => r.within.map (·.1.1)
theorem stG_kinds (n : Str) (i : Nat) (wd : Str) (g : Gr) : (stG n i wd g).map (·.k) = g.within.map (·.1.1) := by
 unfold stG
 rw [List.map_map, <- Gr.ak_kinds g 0]; rfl
theorem stG_len (n : Str) (i : Nat) (wd : Str) (g : Gr) : (stG n i wd g).length = g.parts := by
 unfold stG
 rw [List.length_map, Gr.ak_len]
theorem stR_kinds (n : Str) (x : Ru × Nat) : (stR n x).map (·.k) = x.1.within.map (·.1.1) := by
 unfold stR Ru.within
 rw [List.map_append, List.map_append, stG_kinds, stG_kinds]
theorem stR_len (n : Str) (x : Ru × Nat) : (stR n x).length = x.1.1.parts + x.1.2.parts := by
 unfold stR
 rw [List.length_append, stG_len, stG_len]
theorem steps_from (n : Str) : ∀ (rs : List Ru) (i : Nat), ((rs.zipIdx i).flatMap (stR n)).map (·.k) = ledR rs
 | [], _ => rfl
 | r :: rs, i => by
  rw [List.zipIdx_cons, List.flatMap_cons, List.map_append, steps_from n rs (i + 1), stR_kinds]
  rfl
theorem Kd.steps_kinds (k : Kd) : k.steps.map (·.k) = ledR k.rs := steps_from _ _ _
theorem stR_le (n : Str) : ∀ (xs : List (Ru × Nat)), (∀ x ∈ xs, x.1.1.parts + x.1.2.parts <= 4) -> (xs.flatMap (stR n)).length <= 4 * xs.length
 | [], _ => Nat.le_refl _
 | x :: xs, h => by
  have h1 := stR_le n xs fun y hy => h y (mcm _ hy)
  have h2 := h x mcs
  rw [List.flatMap_cons, List.length_append, stR_len, List.length_cons]
  omega
theorem Kd.steps_len {k : Kd} (h4 : k.rs.length <= 4) (h : ∀ r ∈ k.rs, RuOk r) : k.steps.length <= 16 := by
 have := stR_le k.n (k.rs.zipIdx 1) fun x hx => (h x.1 (by
  have := List.mem_zipIdx hx
  rw [this.2.2]; exact List.getElem_mem _)).2.2
 rw [List.length_zipIdx] at this
 show ((k.rs.zipIdx 1).flatMap (stR k.n)).length <= 16
 omega
def spStepsIn (K : PySem.W.Frag) : Sp := fun vs H Q _ => ∃ (n wd : Str) (i : Nat) (v : V) (g : Gr), vs = [.str n, .int (i : Int), .str wd, v] /\ GA K H v g /\ g.deep < 20 /\ g.parts <= 60 /\ ∀ (l : Addr) (us : List V) (H' : Hp), SB [] H H' -> H l = none -> H' l = some (.lst us) -> Bears K H' Sx.enc us (stG n i wd g) -> Q (.ref l) H'
def spStepsOf (K : PySem.W.Frag) (C N : Addr) : Sp := fun vs H Q E => ∃ (v : V) (b : Bk) (n : Str), vs = [v, .str n] /\ BkA K C H v b /\ b.Ok /\
 kindOr N b n H E fun k => ∀ (l : Addr) (us : List V) (H' : Hp), SB [] H H' -> H l = none -> H' l = some (.lst us) -> Bears K H' Sx.enc us k.steps -> Q (.ref l) H'
structure SrtOf (ss ks : List Str) : Prop where
 srt : sortedS ss = true
 nd : ss.Nodup
 mem : ∀ x, x ∈ ss ↔ x ∈ ks
theorem SrtOf.same {a b ks : List Str} (h : SrtOf a ks) (g : SrtOf b ks) : a = b :=
 sorted_same ((List.perm_ext_iff_of_nodup h.nd g.nd).mpr fun x => (h.mem x).trans (g.mem x).symm) h.srt g.srt
theorem insS_nodup {x : Str} {l : List Str} (h : l.Nodup) : (insS x l).Nodup := by
 unfold insS
 split
 ·exact h
 ·rename_i hx
  exact List.nodup_cons.mpr ⟨hx, h⟩
theorem SrtOf.perm {ss l ks : List Str} (pm : ss.Perm l) (s : sortedS ss = true) (nd : l.Nodup) (h : ∀ x, x ∈ l ↔ x ∈ ks) : SrtOf ss ks :=
 ⟨s, pm.nodup_iff.mpr nd, fun x => pm.mem_iff.trans (h x)⟩
def spLeads (K : PySem.W.Frag) (C N : Addr) : Sp := fun vs H Q E => ∃ (v : V) (b : Bk) (n : Str), vs = [v, .str n] /\ BkA K C H v b /\ b.Ok /\
 kindOr N b n H E fun k => ∀ (l : Addr) (ss : List Str) (H' : Hp), SB [] H H' -> H l = none -> H' l = some (.lst (ss.map V.str)) -> SrtOf ss (ledR k.rs) -> Q (.ref l) H'
theorem plain_shaped {ds : List PyData} (h : plSs ds = true) (hd : PyData.depthAll ds <= 60) : SeqAt.shaped (.list ds) = true := by
 unfold SeqAt.shaped
 rw [PyData.canLay0, plSs_lay _ h, Bool.true_and]
 have : (PyData.list ds).depth = PyData.depthAll ds + 1 := by simp [PyData.depth]
 exact decide_eq_true (by omega)
theorem strs_pl : ∀ {ss : List Str}, (∀ s ∈ ss, NameOk s) -> plSs (ss.map PyData.str) = true
 | [], _ => by simp [plSs]
 | s :: ss, h => by
  rw [List.map_cons, plSs, strs_pl fun x hx => h x (mcm _ hx), plS, Gr.strOk_name (h s mcs)]; rfl
theorem strs_depth (ss : List Str) : PyData.depthAll (ss.map PyData.str) = 0 := by
 induction ss with
 | nil => simp [PyData.depthAll]
 | cons s ss ih => rw [List.map_cons, PyData.depthAll, ih]; simp [PyData.depth]
theorem strs_dp (K : PySem.W.Frag) (H : Hp) : ∀ ss : List Str, DpAll K H (ss.map V.str) (ss.map PyData.str)
 | [] => .nil
 | s :: ss => .cons (.str _) (strs_dp K H ss)
theorem strs_shaped {ss : List Str} (h : ∀ s ∈ ss, NameOk s) : SeqAt.shaped (.list (ss.map PyData.str)) = true := plain_shaped (strs_pl h) (by rw [strs_depth]; omega)
theorem Bk.Ok.led {b : Bk} (ok : b.Ok) {k : Kd} (hk : k ∈ b) : ∀ x ∈ ledR k.rs, x ∈ b.names := fun x hx => by
 obtain ⟨r, hr, hx⟩ := List.mem_flatMap.mp hx
 obtain ⟨p, hp, rfl⟩ := List.mem_map.mp hx
 exact ((ok.kd k hk).2.2 r hr).2 p hp
theorem Bk.Ok.names {b : Bk} (ok : b.Ok) : ∀ x ∈ b.names, NameOk x := fun x hx => by
 obtain ⟨k, hk, rfl⟩ := List.mem_map.mp hx
 exact (ok.kd k hk).1
def emptyB (K : PySem.W.Frag) (x : Addr) : Bool := match K.lookup x with
 | some o => (match o.cls, o.data with
  | .type t, .seq its _ => decide (t = "tuple") && decide (its.toList.length = 0)
  | _, _ => false)
 | none => false
def no2B (K : PySem.W.Frag) (a : Addr) : Bool := match K.lookup a with
 | some o => (match o.cls, o.data with
  | .type t, .seq its _ => decide (t = "tuple") && (match its.toList with
   | [.ref x, .ref y] => emptyB K x && emptyB K y
   | _ => false)
  | _, _ => false)
 | none => false
theorem emptyB_ok {K : PySem.W.Frag} {x : Addr} (h : emptyB K x = true) (H : Hp) : SqT K H x [] := by
 unfold emptyB at h
 split at h
 ·rename_i o ho
  split at h
  ·rename_i t its n hc hd
   rw [Bool.and_eq_true, decide_eq_true_eq, decide_eq_true_eq] at h
   have hz : its.size = 0 := by simpa using h.2
   have he : its.toList = [] := List.length_eq_zero_iff.mp h.2
   refine .inr ⟨o, its, n, ho, by rw [hc, h.1], hd, by rw [hz]; exact Nat.zero_le _, by rw [he]; exact .nil⟩
  ·cases h
 ·cases h
theorem no2B_ok {K : PySem.W.Frag} {a : Addr} (h : no2B K a = true) (H : Hp) : Dp K H (.ref a) (Ru.enc (.nil, .nil)) := by
 unfold no2B at h
 split at h
 ·rename_i o ho
  split at h
  ·rename_i t its n hc hd
   rw [Bool.and_eq_true, decide_eq_true_eq] at h
   obtain ⟨h1, h2⟩ := h
   split at h2
   ·rename_i x y he
    rw [Bool.and_eq_true] at h2
    have hz : its.size = 2 := by have := congrArg List.length he; simpa using this
    have hs : SqT K H a [.ref x, .ref y] := .inr ⟨o, its, n, ho, by rw [hc, h1], hd, by rw [hz]; decide, by rw [he]; exact .cons rfl (.cons rfl .nil)⟩
    exact .tup hs (.cons (.tup (emptyB_ok h2.1 H) .nil) (.cons (.tup (emptyB_ok h2.2 H) .nil) .nil))
   ·cases h2
  ·cases h
 ·cases h
namespace Gr
def bkP (p : Tr × Int) (i : Nat) : List (Pl × Str) := if p.1.2 = .nil then [([i], p.1.1)] else (p.1.2.bk 0).map fun x => (i :: x.1, x.2)
def bks : List (Tr × Int) -> Nat -> List (Pl × Str)
 | [], _ => []
 | p :: r, i => bkP p i ++ bks r (i + 1)
theorem bk_ps : ∀ (g : Gr) (i : Nat), g.bk i = bks g.ps i
 | .nil, _ => rfl
 | .cons k g m r, i => by show _ ++ r.bk (i + 1) = _ ++ bks r.ps (i + 1); rw [bk_ps r]; rfl
end Gr
theorem SB.drops : ∀ {ps : List Addr} {H H' : Hp}, SB ps H H' -> (∀ p ∈ ps, H p = none) -> SB [] H H'
 | [], _, _, e, _ => e
 | p :: ps, _, _, e, h => SB.drops (e.drop (h p mcs)) fun q hq => h q (mcm _ hq)
theorem make_var {K : PySem.W.Frag} {C B : Addr} {b : Bk} {H : Hp} {l : Addr} {xs : List V} {bad : List Addr} {Q : VK} {E : L2.St -> XK} {σ : L2.St} {i : Nat} (hσ : σ[i]? = some (some (.ref l))) (hl : H l = some (.lst xs)) (ha : KdAll K H bad xs b) (ok : b.Ok) (k : ∀ y H', SB [] H H' -> H y = none -> BkA K C H' (.ref y) b -> Q (.ref y) H') :
  tMakeZ C (spBInit K C B) E (tCons (tVar i) tNil) σ H Q := ⟨_, hσ, make_core hl ha ok k⟩
section
variable {X : Cx}
theorem ps_setDc {i : Nat} {y : PySem.Str} {py : Pos} {kx vx tg iter : Expr} {ifs : List Expr} {scope : Scope} {own : List (PySem.Str × Nat)} {pos spos : Pos} {wi : TI} {g : TG} {tt : TT} {tk tv : TE} (hc : X.calm = true) (hN : X.N.Nodup) (hy : X.N[i]? = some y) (hyl : X.env.scope.names.lookup y = some .local)
  (hsw : swapsWith (.DictComp kx vx [⟨tg, iter, ifs, 0⟩] scope pos) (some (.Name y py)) spos.line X.env = pure true) (hi : PI X tg iter wi) (ok : BlkOk X.N X.env.scope scope own)
  (hg : ∀ (s : Shared) (H : Hp) (C : Addr) (cl : List (PySem.Str × Addr)) (fp : List Addr), L2.PG (X.blk s H scope (compEnvC scope cl C X.env) fp) tg g) (ht : ∀ (s : Shared) (H : Hp) (C : Addr) (cl : List (PySem.Str × Addr)) (fp : List Addr), L2.PTs (X.blk s H scope (compEnvC scope cl C X.env) fp) ifs tt)
  (hk : ∀ (s : Shared) (H : Hp) (C : Addr) (cl : List (PySem.Str × Addr)) (fp : List Addr), L2.PE (X.blk s H scope (compEnvC scope cl C X.env) fp) kx tk)
  (he : ∀ (s : Shared) (H : Hp) (C : Addr) (cl : List (PySem.Str × Addr)) (fp : List Addr), L2.PE (X.blk s H scope (compEnvC scope cl C X.env) fp) vx tv) (hs : ∀ x, foldedSetIterable iter X.env x = pure x := by intro _; rfl) :
  PS X (.Assign [.Name y py] (.DictComp kx vx [⟨tg, iter, ifs, 0⟩] scope pos) spos) (tAsg (tDc wi g tt tk tv (own.map (·.2))) (gName i)) := by
 refine ⟨fun pins s σ H D I h => ?_⟩
 rw [exec_Assign_Name_used _ _ _ _ hsw]
 refine wpAny_bind (wpAny_standAt (wpAny_bind ?_))
 show wpAny _ X.A (do let _ <- comprehension (.DictComp kx vx [⟨tg, iter, ifs, 0⟩] scope pos) scope X.env (firstIterPos [⟨tg, iter, ifs, 0⟩] pos) newDict false (eval iter X.env) (some (assign (.Name y py) X.env))) _ _ s
 have h : tDc wi g tt tk tv (own.map (·.2)) σ H (fun x H1 => gName i x σ H1 D.nx) := h
 refine wpAny_bind (thn (dc_core (Qf := fun _ s' => SP X pins D .next s') hc hN I hi ok hg ht hk he hs h fun L C s' m H' I' q hn f => ?_) fun _ s' hq => wpAny_pure (wpAny_pure hq))
 show wpAny _ _ (assign (.Name y py) X.env (.ref L)) _ _ _
 refine wpAny_assign_Name (store_ok2 (v := V.ref L) I' hN hy (.inl hyl) rfl (fun s2 I2 ⟨a, sb, ha⟩ => ?_) (.inr hyl))
 obtain ⟨f0, f1, f2, f3, f4, f5⟩ := f
 have haC : C ≠ a := by
  rcases ha with z | z
  ·rw [z]; exact f1
  ·exact fun e => f4 y a z e.symm
 refine ⟨m, hn.sameBut sb haC, fun h3 sb3 => ?_⟩
 exact ⟨_, H', I2.turned (t' := s2.toks) (fun b o hb e => (sb3.2 b hb).trans e) f0 f1 f3 f4 f5, q⟩
theorem sw_trueD {kx vx : Expr} {gs : List Comprehension} {scope : Scope} {pos py : Pos} {y : PySem.Str} {l : Nat} {env : Env} (hk : env.scope.kind = .function) (hy : env.scope.names.lookup y = some .local) (hl : (py.line == pos.line) = true)
  (ha : (scope.names.any fun (n, k) => n == y && (k == .local || k == .cell)) = false) : swapsWith (.DictComp kx vx gs scope pos) (some (.Name y py)) l env = pure true := by
 have ky : env.kindOf y = some .local := hy
 have hb : env.blockKind = .function := by unfold Env.blockKind; rw [hk]; rfl
 unfold swapsWith
 simp only [hb, ky, ha, Expr.pos, hl]
 rfl
end
def adj (b : Bk) (n : Str) : List Str := match b.get n with
 | some k => ledR k.rs
 | none => []
inductive EndK (b : Bk) : Str -> Prop
 | mk {n : Str} : (∀ k, k ∈ adj b n -> EndK b k) -> EndK b n
inductive Rch (b : Bk) : Str -> Str -> Prop
 | one {n k : Str} : k ∈ adj b n -> Rch b n k
 | step {n m k : Str} : Rch b n m -> k ∈ adj b m -> Rch b n k
section
variable {b : Bk}
theorem adj_get {n : Str} {k : Kd} (h : b.get n = some k) : adj b n = ledR k.rs := by unfold adj; rw [h]
theorem adj_names (ok : b.Ok) {n k : Str} (h : k ∈ adj b n) : k ∈ b.names := by
 unfold adj at h
 split at h
 ·rename_i kd e
  exact ok.led (Bk.get_some e).1 k h
 ·cases h
theorem adj_self {k : Kd} (ok : b.Ok) (hk : k ∈ b) : adj b k.n = ledR k.rs := adj_get (Bk.get_self ok.nd hk)
theorem Rch.split {n k : Str} (h : Rch b n k) : ∃ m, m ∈ adj b n /\ (m = k \/ Rch b m k) := by
 induction h with
 | one e => exact ⟨_, e, .inl rfl⟩
 | step _ e ih =>
  obtain ⟨m, hm, h⟩ := ih
  refine ⟨m, hm, .inr ?_⟩
  rcases h with h | h
  ·rw [h]; exact .one e
  ·exact .step h e
theorem Rch.mem (ok : b.Ok) {n k : Str} (h : Rch b n k) : k ∈ b.names := by
 cases h with
 | one e => exact adj_names ok e
 | step _ e => exact adj_names ok e
theorem EndK.next {n k : Str} (h : EndK b n) (e : k ∈ adj b n) : EndK b k := by
 cases h with
 | mk h => exact h k e
theorem EndK.rch {n k : Str} (h : EndK b n) (g : Rch b n k) : EndK b k := by
 induction g with
 | one e => exact h.next e
 | step _ e ih => exact ih.next e
theorem EndK.noring {n : Str} (h : EndK b n) : ¬ Rch b n n := by
 induction h with
 | mk h ih =>
  intro g
  obtain ⟨m, hm, e⟩ := g.split
  refine ih m hm ?_
  rcases e with e | e
  ·rw [e]; exact g
  ·exact .step e hm
theorem not_ends {n : Str} (h : ¬ EndK b n) : ∃ k, k ∈ adj b n /\ ¬ EndK b k := Classical.byContradiction fun g => h (.mk fun k hk => Classical.byContradiction fun z => g ⟨k, hk, z⟩)
theorem ring_of (ok : b.Ok) {n : Str} (hn : n ∈ b.names) (h : ¬ EndK b n) : ∃ r, Rch b r r /\ (r = n \/ Rch b n r) := by
 have ch : ∀ x : { x : Str // ¬ EndK b x }, ∃ y : { y : Str // ¬ EndK b y }, y.1 ∈ adj b x.1 := fun x => by
  obtain ⟨k, h1, h2⟩ := not_ends x.2
  exact ⟨⟨k, h2⟩, h1⟩
 let nx : { x : Str // ¬ EndK b x } -> { x : Str // ¬ EndK b x } := fun x => (ch x).choose
 have hnx : ∀ x, (nx x).1 ∈ adj b x.1 := fun x => (ch x).choose_spec
 let w : Nat -> { x : Str // ¬ EndK b x } := fun i => Nat.rec ⟨n, h⟩ (fun _ x => nx x) i
 have ws : ∀ i, (w (i + 1)).1 ∈ adj b (w i).1 := fun i => hnx (w i)
 have wm : ∀ i, (w i).1 ∈ b.names := fun i => by
  cases i with
  | zero => exact hn
  | succ i => exact adj_names ok (ws i)
 have wr : ∀ i d, Rch b (w i).1 (w (i + d + 1)).1 := by
  intro i d
  induction d with
  | zero => exact .one (ws i)
  | succ d ih => exact .step ih (ws (i + d + 1))
 have rep : ∃ i j, i < j /\ (w i).1 = (w j).1 := by
  refine Classical.byContradiction fun z => ?_
  have nd : ((List.range (b.names.length + 1)).map fun i => (w i).1).Nodup := by
   refine List.pairwise_map.mpr (List.Pairwise.imp ?_ List.pairwise_lt_range)
   intro i j hij e
   exact z ⟨i, j, hij, e⟩
  have := nd.length_le_of_subset (l₂ := b.names) fun x hx => by
   obtain ⟨i, _, rfl⟩ := List.mem_map.mp hx
   exact wm i
  rw [List.length_map, List.length_range] at this
  omega
 obtain ⟨i, j, hij, e⟩ := rep
 refine ⟨(w i).1, ?_, ?_⟩
 ·have := wr i (j - i - 1)
  rw [show i + (j - i - 1) + 1 = j by omega, <- e] at this
  exact this
 ·cases i with
  | zero => exact .inl rfl
  | succ i =>
   have := wr 0 i
   rw [show 0 + i + 1 = i + 1 by omega] at this
   exact .inr this
theorem endless_iff (ok : b.Ok) {n : Str} (hn : n ∈ b.names) : ¬ EndK b n ↔ ∃ r, Rch b r r /\ (r = n \/ Rch b n r) := by
 refine ⟨ring_of ok hn, fun ⟨r, h1, h2⟩ h => ?_⟩
 rcases h2 with h2 | h2
 ·rw [h2] at h1; exact h.noring h1
 ·exact (h.rch h2).noring h1
end
inductive LedAll (K : PySem.W.Frag) (H : Hp) : List (Key × V) -> Bk -> Prop
 | nil : LedAll K H [] []
 | cons {l : Addr} {ss : List Str} {k : Kd} {kvs : List (Key × V)} {b : Bk} : H l = some (.lst (ss.map V.str)) -> SrtOf ss (ledR k.rs) -> LedAll K H kvs b -> LedAll K H ((Sum.inr k.n, .ref l) :: kvs) (k :: b)
section
variable {K : PySem.W.Frag} {H H' : Hp}
theorem LedAll.length : ∀ {kvs : List (Key × V)} {b : Bk}, LedAll K H kvs b -> kvs.length = b.length
 | _, _, .nil => rfl
 | _, _, .cons _ _ t => congrArg (· + 1) t.length
theorem LedAll.keep (h : ∀ l xs, H l = some (.lst xs) -> H' l = some (.lst xs)) : ∀ {kvs : List (Key × V)} {b : Bk}, LedAll K H kvs b -> LedAll K H' kvs b
 | _, _, .nil => .nil
 | _, _, .cons a s t => .cons (h _ _ a) s (LedAll.keep h t)
theorem LedAll.append : ∀ {kvs kws : List (Key × V)} {b c : Bk}, LedAll K H kvs b -> LedAll K H kws c -> LedAll K H (kvs ++ kws) (b ++ c)
 | _, _, _, _, .nil, h => h
 | _, _, _, _, .cons a s t, h => .cons a s (t.append h)
theorem LedAll.val {n : Str} {k : Kd} : ∀ {kvs : List (Key × V)} {b : Bk}, LedAll K H kvs b -> b.get n = some k -> ∃ l ss, valV kvs (Sum.inr n) = some (.ref l) /\ H l = some (.lst (ss.map V.str)) /\ SrtOf ss (ledR k.rs)
 | _, _, .nil, e => by simp [Bk.get] at e
 | _, _, .cons (l := l) (ss := ss) (k := kk) (b := bb) a s t, e => by
  by_cases h : kk.n = n
  ·have e' : kk = k := by
    have : Bk.get (kk :: bb) n = some kk := by simp [Bk.get, h]
    rw [this] at e; exact Option.some.inj e
   subst e'
   exact ⟨l, ss, valV_pos (by rw [h]), a, s⟩
  ·have e' : Bk.get bb n = some k := by
    unfold Bk.get at e
    rw [List.find?_cons_of_neg (by simpa using h)] at e
    exact e
   obtain ⟨l', ss', h1, h2, h3⟩ := t.val e'
   exact ⟨l', ss', by rw [valV_neg (fun z => h (Sum.inr.inj z))]; exact h1, h2, h3⟩
theorem LedAll.get : ∀ {kvs : List (Key × V)} {b : Bk} {i : Nat} {p : Key × V}, LedAll K H kvs b -> kvs[i]? = some p -> ∃ k, b[i]? = some k /\ p.1 = Sum.inr k.n
 | _, _, _, _, .nil, e => by simp at e
 | _, _, 0, _, .cons a s t, e => by
  obtain rfl := Option.some.inj e
  exact ⟨_, rfl, rfl⟩
 | _, _, i + 1, _, .cons a s t, e => t.get (i := i) e
end
def into (b : Bk) (es : List Str) (n : Str) : Bool := decide (n ∉ es) && (adj b n).all fun k => decide (k ∈ es)
def spLeadInto (K : PySem.W.Frag) : Sp := fun vs H Q _ => ∃ (d e : Addr) (b : Bk) (es : List Str) (kvs : List (Key × V)), vs = [.ref d, .ref e] /\ H d = some (.dK kvs) /\ LedAll K H kvs b /\ H e = some (.lst (es.map V.str)) /\ b.Ok /\ ∀ (l : Addr) (H' : Hp), SB [] H H' -> H l = none -> H' l = some (.lst ((b.names.filter (into b es)).map V.str)) -> Q (.ref l) H'
def spEndless (K : PySem.W.Frag) (C N : Addr) : Sp := fun vs H Q E => ∃ (v : V) (b : Bk), vs = [v] /\ BkA K C H v b /\ b.Ok /\ ∀ (l : Addr) (ss : List Str) (H' : Hp), SB [] H H' -> H l = none -> H' l = some (.lst (ss.map V.str)) -> sortedS ss = true -> ss.Nodup -> (∀ n, n ∈ ss ↔ n ∈ b.names /\ ¬ EndK b n) -> Q (.ref l) H'
theorem SB.unlock {H H' : Hp} {d : Addr} {od : Obj} {u : HO} (s : SB [] (upd H d (.frz od u)) H') (hd : H d = some u) (n1 : ∀ xs, u ≠ .tup xs) (n2 : ∀ o v, u ≠ .frz o v) : SB [] H (upd H' d u) := by
 refine ⟨fun b o e _ => ?_, fun b xs e => ?_, fun b o v e => ?_, fun b e => ?_⟩
 ·by_cases z : b = d
  ·rw [z, upd_same]; rw [z, hd] at e; exact e
  ·rw [upd_ne z]; exact s.keep b o (by rw [upd_ne z]; exact e) nmn
 ·have z : b ≠ d := fun z => by rw [z, hd] at e; exact n1 _ (Option.some.inj e)
  rw [upd_ne z]; exact s.tups b xs (by rw [upd_ne z]; exact e)
 ·have z : b ≠ d := fun z => by rw [z, hd] at e; exact n2 _ _ (Option.some.inj e)
  rw [upd_ne z]; exact s.frzs b o v (by rw [upd_ne z]; exact e)
 ·have z : b ≠ d := fun z => by rw [z, upd_same] at e; cases e
  rw [upd_ne z] at e
  have := s.dom b e
  rwa [upd_ne z] at this
theorem all_srt {ss ks : List Str} (so : SrtOf ss ks) (p : Str -> Bool) : ss.all p = ks.all p := by
 rw [Bool.eq_iff_iff, List.all_eq_true, List.all_eq_true]
 exact ⟨fun h x hx => h x ((so.mem x).mpr hx), fun h x hx => h x ((so.mem x).mp hx)⟩
theorem getKR {H : Hp} {d : Addr} {kvs : List (Key × V)} {n : Str} {v : V} (h : L2.Rd H d (.dK kvs)) (e : valV kvs (Sum.inr n) = some v) : DGet H d (.str n) (some v) := .inl ⟨kvs, Sum.inr n, h, rfl, e.symm⟩
theorem LedAll.sb {K : PySem.W.Frag} {H H' : Hp} {ps : List Addr} (e : SB ps H H') : ∀ {kvs : List (Key × V)} {b : Bk}, LedAll K H kvs b -> (∀ p ∈ kvs, ∀ q ∈ ps, p.2 ≠ .ref q) -> LedAll K H' kvs b
 | _, _, .nil, _ => .nil
 | _, _, .cons a s t, h => .cons (e.keep _ _ a fun z => h _ mcs _ z rfl) s (LedAll.sb e t fun p hp => h p (mcm _ hp))
theorem LedAll.ne {K : PySem.W.Frag} {H : Hp} {q : Addr} (hq : H q = none) : ∀ {kvs : List (Key × V)} {b : Bk}, LedAll K H kvs b -> ∀ p ∈ kvs, p.2 ≠ .ref q
 | _, _, .nil, p, hp => by cases hp
 | _, _, .cons a s t, p, hp => by
  rcases List.mem_cons.mp hp with e | e
  ·rw [e]
   intro z
   rw [V.ref.inj z] at a
   rw [a] at hq; cases hq
  ·exact LedAll.ne hq t p e
theorem LedAll.keys {K : PySem.W.Frag} {H : Hp} : ∀ {kvs : List (Key × V)} {b : Bk}, LedAll K H kvs b -> kvs.map (·.1) = b.names.map Sum.inr
 | _, _, .nil => rfl
 | _, _, .cons a s t => by rw [List.map_cons, LedAll.keys t]; rfl
theorem end_closed {b : Bk} (ok : b.Ok) {es : List Str} (h : b.names.filter (into b es) = []) {n : Str} (e : EndK b n) : n ∈ b.names -> n ∈ es := by
 induction e with
 | @mk n _ ih =>
  intro hn
  refine Classical.byContradiction fun z => ?_
  have : n ∈ b.names.filter (into b es) := List.mem_filter.mpr ⟨hn, by
   unfold into
   rw [Bool.and_eq_true, decide_eq_true_eq, List.all_eq_true]
   exact ⟨z, fun k hk => decide_eq_true (ih k hk (adj_names ok hk))⟩⟩
  rw [h] at this; cases this
section
variable {J : It} {n : Nat} {G : Hp -> Prop} {Y : Nat -> Hp -> V -> Hp -> Prop}
theorem dc_seqQ (w : Walk J n G Y) {g : TG} {tt : TT} {tk tv : TE} {vs : List Nat} {σ : L2.St} {H : Hp} {D : Addr} {Qd : Hp -> Prop} (hD : H D = none) (hn : n < sizeLine) (R : Nat -> List (Key × V) -> Hp -> Prop) (h0 : R 0 [] H) (hG : ∀ H2, SB [] H H2 -> G H2)
  (st : ∀ i us H2 H3, SB [D] H2 H3 -> R i us H2 -> R i us H3)
  (turn : ∀ (Pv : Hp -> Prop) i x H2 H' kvs, i < n -> SB [] H H2 -> Y i H2 x H' -> R i kvs H2 -> kvs.length <= i -> H2 D = some (.dK kvs) -> (∀ k z H5, SB [] H2 H5 -> R (i + 1) (putK kvs k z) H5 -> ∃ kvs k', kV k = kV k' /\ H5 D = some (.dK kvs) /\ kvs.length < sizeLine /\ Pv (upd H5 D (.dK (putK kvs k' z)))) ->
   (∀ H4, SB [] H2 H4 -> R (i + 1) kvs H4 -> Pv H4) -> g x (wipe σ vs) H' fun σ2 H3 => wipe σ2 vs = wipe σ vs /\ tt σ2 H3 fun b H4 =>
    if b = true then tk σ2 H4 fun y H5 => tv σ2 H5 fun z H6 => ∃ kvs k, y = kV k /\ H6 D = some (.dK kvs) /\ kvs.length < sizeLine /\ Pv (upd H6 D (.dK (putK kvs k z))) else Pv H4)
  (done : ∀ kvs H2, SB [] H H2 -> H2 D = some (.dK kvs) -> R n kvs H2 -> kvs.length <= n -> Qd H2) :
  ∃ W : Nat -> Nat -> Hp -> Prop, (∃ m, W 0 m (upd H D (.dK []))) /\ ∀ i m H, W i m H ->
   (J.stop i H /\ Qd H) \/ (J.go i H /\ ∃ Nx : Hp -> Prop, (∀ H', Nx H' -> ∃ m', m' < m /\ W (i + 1) m' H') /\ ∀ x H', J.yld i H x H' -> g x (wipe σ vs) H' fun σ2 H2 => wipe σ2 vs = wipe σ vs /\ tt σ2 H2 fun b H3 =>
    if b = true then tk σ2 H3 fun y H4 => tv σ2 H4 fun z H5 => ∃ kvs k, y = kV k /\ H5 D = some (.dK kvs) /\ kvs.length < sizeLine /\ Nx (upd H5 D (.dK (putK kvs k z))) else Nx H3) := by
 refine lcG (body := fun Nx x H' => g x (wipe σ vs) H' fun σ2 H2 => wipe σ2 vs = wipe σ vs /\ tt σ2 H2 fun b H3 =>
    if b = true then tk σ2 H3 fun y H4 => tv σ2 H4 fun z H5 => ∃ kvs k, y = kV k /\ H5 D = some (.dK kvs) /\ kvs.length < sizeLine /\ Nx (upd H5 D (.dK (putK kvs k z))) else Nx H3) w (fun i H2 => SB [D] H H2 /\ ∃ kvs, H2 D = some (.dK kvs) /\ R i kvs H2 /\ kvs.length <= i)
  ⟨SB.new hD _, [], upd_same, st _ _ _ _ (SB.new hD _) h0, Nat.le_refl _⟩ (fun i H2 _ h => hG H2 (h.1.drop hD)) (fun i x H2 H' hi h y => ?_) (fun H2 h => ?_)
 ·obtain ⟨s2, kvs, hD2, hR, hl⟩ := h
  refine turn _ i x H2 H' kvs hi (s2.drop hD) y hR hl hD2 (fun k z H5 s5 r5 => ?_) (fun H4 s4 r4 => ⟨s2.trans s4.nil, kvs, s4.keep _ _ hD2 nmn, r4, by omega⟩)
  have hD5 := s5.keep _ _ hD2 nmn
  refine ⟨kvs, k, rfl, hD5, by omega, (s2.trans s5.nil).trans (SB.setD hD5 (by simp) _), _, upd_same, st _ _ _ _ (SB.setD hD5 (by simp) _) r5, ?_⟩
  have := length_putK kvs k z
  omega
 ·obtain ⟨s2, kvs, hD2, hR, hl⟩ := h
  exact done kvs H2 (s2.drop hD) hD2 hR hl
end
theorem take_fresh {b : Bk} (nd : b.names.Nodup) {i : Nat} {k : Kd} (ek : b[i]? = some k) : k.n ∉ Bk.names (b.take i) := by
 have e : b = b.take i ++ k :: b.drop (i + 1) := by
  have hl : i < b.length := (List.getElem?_eq_some_iff.mp ek).1
  have := List.drop_eq_getElem_cons hl
  rw [(List.getElem?_eq_some_iff.mp ek).2] at this
  rw [<- this, List.take_append_drop]
 have h : b.names = Bk.names (b.take i) ++ k.n :: Bk.names (b.drop (i + 1)) := by
  conv => lhs; rw [e]
  rw [Bk.names, List.map_append]; rfl
 rw [h] at nd
 exact fun z => (List.nodup_append.mp nd).2.2 _ z _ mcs rfl
section
variable {b : Bk} {K : PySem.W.Frag} {H H' : Hp} {F F' : Addr -> Prop} {n k h : Str} {l : Addr} {A B A' B' : Nat} {ps : List Addr}
theorem rch_closed {ks : List Str} (h : ∀ x, x = n \/ x ∈ ks -> ∀ y ∈ adj b x, y ∈ ks) (r : Rch b n k) : k ∈ ks := by
 induction r with
 | one e => exact h n (.inl rfl) _ e
 | step _ e ih => exact h _ (.inr ih) _ e
end
theorem filt_step (f : Str -> Bool) {ss : List Str} {j : Nat} {x : Str} (e : ss[j]? = some x) : ((ss.take (j + 1)).filter f).map V.str = ((ss.take j).filter f).map V.str ++ (if f x = true then [V.str x] else []) := by
 rw [List.take_add_one, e, List.filter_append, List.map_append]
 congr 1
 by_cases z : f x = true
 ·simp [z]
 ·simp [z]
theorem sumE_cons {γ : Type} [DecidableEq γ] (p : γ × Int) (r : List (γ × Int)) (x : γ) : sumE (p :: r) x = (if p.1 = x then p.2 else 0) + sumE r x := rfl
namespace Gr
def woL (t : Tr) (m : Int) : List (Tr × Int) -> List (Tr × Int)
 | [] => []
 | p :: r => if p.1 ≠ t then p :: woL t m r else if m < p.2 then (p.1, p.2 - m) :: woL t m r else woL t m r
theorem woL_none {t : Tr} {m : Int} : ∀ {bs : List (Tr × Int)}, (∀ p ∈ bs, p.1 ≠ t) -> woL t m bs = bs
 | [], _ => rfl
 | p :: r, h => by
  rw [woL, if_pos (h p (by simp)), woL_none fun q hq => h q (by simp [hq])]
theorem woL_mem {t : Tr} {m : Int} (hm : 0 <= m) : ∀ {bs : List (Tr × Int)} {p : Tr × Int}, p ∈ woL t m bs -> ∃ q ∈ bs, q.1 = p.1 /\ p.2 <= q.2 /\ (1 <= q.2 -> 1 <= p.2)
 | [], _, h => nomatch h
 | q :: r, p, h => by
  rw [woL] at h
  split at h
  ·rcases List.mem_cons.mp h with e | h
   ·exact ⟨q, by simp, by rw [e], by rw [e]; exact Int.le_refl _, by rw [e]; exact id⟩
   ·obtain ⟨q', h1, h2⟩ := woL_mem hm h; exact ⟨q', by simp [h1], h2⟩
  ·split at h
   ·rcases List.mem_cons.mp h with e | h
    ·exact ⟨q, by simp, by rw [e], by rw [e]; show q.2 - m <= q.2; omega, by rw [e]; show _ -> 1 <= q.2 - m; omega⟩
    ·obtain ⟨q', h1, h2⟩ := woL_mem hm h; exact ⟨q', by simp [h1], h2⟩
   ·obtain ⟨q', h1, h2⟩ := woL_mem hm h; exact ⟨q', by simp [h1], h2⟩
theorem woL_key {t : Tr} {m : Int} : ∀ {bs : List (Tr × Int)} {p : Tr × Int}, p ∈ woL t m bs -> ∃ q ∈ bs, q.1 = p.1
 | [], _, h => nomatch h
 | q :: r, p, h => by
  rw [woL] at h
  split at h
  ·rcases List.mem_cons.mp h with e | h
   ·exact ⟨q, by simp, by rw [e]⟩
   ·obtain ⟨q', h1, h2⟩ := woL_key h; exact ⟨q', by simp [h1], h2⟩
  ·split at h
   ·rcases List.mem_cons.mp h with e | h
    ·exact ⟨q, by simp, by rw [e]⟩
    ·obtain ⟨q', h1, h2⟩ := woL_key h; exact ⟨q', by simp [h1], h2⟩
   ·obtain ⟨q', h1, h2⟩ := woL_key h; exact ⟨q', by simp [h1], h2⟩
theorem woL_pair {R : Tr -> Tr -> Prop} {t : Tr} {m : Int} : ∀ {bs : List (Tr × Int)}, bs.Pairwise (fun p q => R p.1 q.1) -> (woL t m bs).Pairwise (fun p q => R p.1 q.1)
 | [], _ => .nil
 | p :: r, h => by
  obtain ⟨h1, h2⟩ := List.pairwise_cons.mp h
  have ih := woL_pair (t := t) (m := m) h2
  have hk : ∀ q ∈ woL t m r, R p.1 q.1 := fun q hq => by
   obtain ⟨q', hq', e⟩ := woL_key hq
   rw [<- e]; exact h1 q' hq'
  rw [woL]
  split
  ·exact List.pairwise_cons.mpr ⟨hk, ih⟩
  ·split
   ·exact List.pairwise_cons.mpr ⟨hk, ih⟩
   ·exact ih
theorem sumE_woL {t : Tr} {m : Int} (x : Tr) : ∀ {bs : List (Tr × Int)}, bs.Pairwise (fun p q => p.1 ≠ q.1) -> (∀ p ∈ bs, 0 < p.2) -> 0 <= m -> sumE (woL t m bs) x = if x = t then (if m < sumE bs t then sumE bs t - m else 0) else sumE bs x
 | [], _, _, hm => by
  show (0 : Int) = if x = t then (if m < 0 then 0 - m else 0) else 0
  split
  ·rw [if_neg (by omega)]
  ·rfl
 | p :: r, h, hp, hm => by
  obtain ⟨h1, h2⟩ := List.pairwise_cons.mp h
  have ih := sumE_woL (t := t) (m := m) x h2 (fun q hq => hp q (by simp [hq])) hm
  rw [woL]
  by_cases e : p.1 = t
  ·rw [if_neg (by simpa using e)]
   have hr : ∀ q ∈ r, q.1 ≠ t := fun q hq z => h1 q hq (by rw [e, z])
   have z0 : sumE r t = 0 := S_zero hr
   rw [woL_none hr, sumE_cons p r t, if_pos e, z0, Int.add_zero]
   by_cases hlt : m < p.2
   ·rw [if_pos hlt, if_pos hlt, sumE_cons]
    by_cases hx : x = t
    ·rw [if_pos hx, hx, if_pos (by exact e), z0]; simp
    ·rw [if_neg hx, if_neg (by rw [e]; exact fun z => hx z.symm), sumE_cons, if_neg (by rw [e]; exact fun z => hx z.symm)]
   ·rw [if_neg hlt, if_neg hlt]
    by_cases hx : x = t
    ·rw [if_pos hx, hx, z0]
    ·rw [if_neg hx, sumE_cons, if_neg (by rw [e]; exact fun z => hx z.symm), Int.zero_add]
  ·rw [if_pos e, sumE_cons, ih, sumE_cons p r t, if_neg e, Int.zero_add]
   by_cases hx : x = t
   ·rw [if_pos hx, if_pos hx, hx, if_neg e, Int.zero_add]
   ·rw [if_neg hx, if_neg hx, sumE_cons]
def wo (g : Gr) (t : Tr) (m : Int) : Gr := ofPs (woL t m g.ps)
theorem wo_ps (g : Gr) (t : Tr) (m : Int) : (wo g t m).ps = woL t m g.ps := ps_ofPs _
variable {C D E : Int} {g k : Gr}
theorem ok_ne (h : g.Ok C) : g.ps.Pairwise (fun p q => p.1 ≠ q.1) := (ok_iff.mp h).2.imp fun z => ol_ne z
theorem ok_pos (h : g.Ok C) : ∀ p ∈ g.ps, 0 < p.2 := fun p hp => by have := ((ok_iff.mp h).1 p hp).2.2.1; omega
theorem wo_ok (h : g.Ok C) {t : Tr} {m : Int} (hm : 0 <= m) : (wo g t m).Ok C := by
 obtain ⟨h1, h2⟩ := ok_iff.mp h
 refine ok_ps.mpr ⟨fun p hp => ?_, woL_pair (R := fun a b => dataLt (tEnc a) (tEnc b) = true) h2⟩
 obtain ⟨q, hq, e, l, o⟩ := woL_mem hm hp
 obtain ⟨a, b, c, d⟩ := h1 q hq
 rw [<- e]
 exact ⟨a, b, o c, by omega⟩
theorem S_wo (h : g.Ok C) {t : Tr} {m : Int} (hm : 0 <= m) (x : Tr) : S (wo g t m) x = if x = t then (if m < S g t then S g t - m else 0) else S g x := by
 show sumE (wo g t m).ps x = _
 rw [wo_ps]; exact sumE_woL x (ok_ne h) (ok_pos h) hm
theorem sumE_mem : ∀ {bs : List (Tr × Int)}, bs.Pairwise (fun p q => p.1 ≠ q.1) -> ∀ p ∈ bs, sumE bs p.1 = p.2
 | [], _, _, h => nomatch h
 | q :: r, h, p, hp => by
  obtain ⟨h1, h2⟩ := List.pairwise_cons.mp h
  rw [sumE_cons]
  rcases List.mem_cons.mp hp with e | hp
  ·rw [e, if_pos rfl, S_zero fun q' hq' z => h1 q' hq' z.symm, Int.add_zero]
  ·rw [if_neg (h1 p hp), Int.zero_add]; exact sumE_mem h2 p hp
theorem S_mem (h : g.Ok C) {p : Tr × Int} (hp : p ∈ g.ps) : S g p.1 = p.2 := sumE_mem (ok_ne h) p hp
theorem S_cases (h : g.Ok C) (x : Tr) : (S g x = 0 /\ ∀ p ∈ g.ps, p.1 ≠ x) \/ ∃ m, (x, m) ∈ g.ps /\ S g x = m /\ 1 <= m /\ m < C := by
 by_cases e : ∃ p ∈ g.ps, p.1 = x
 ·obtain ⟨p, hp, rfl⟩ := e
  obtain ⟨_, _, c, d⟩ := (ok_iff.mp h).1 p hp
  exact .inr ⟨p.2, hp, S_mem h hp, c, d⟩
 ·have h' : ∀ p ∈ g.ps, p.1 ≠ x := fun p hp z => e ⟨p, hp, z⟩
  exact .inl ⟨S_zero h', h'⟩
theorem S_nonneg (h : g.Ok C) (x : Tr) : 0 <= S g x := by
 rcases S_cases h x with ⟨e, _⟩ | ⟨m, _, e, h1, _⟩
 ·omega
 ·omega
theorem S_lt (h : g.Ok C) (hC : 1 <= C) (x : Tr) : S g x < C := by
 rcases S_cases h x with ⟨e, _⟩ | ⟨m, _, e, _, h1⟩
 ·omega
 ·omega
theorem tgt_okM (hg : ∀ p ∈ g.ps, NameOk p.1.1 /\ p.1.2.Ok E /\ 1 <= p.2) (hk : ∀ p ∈ k.ps, NameOk p.1.1 /\ p.1.2.Ok E /\ 1 <= p.2) (h : ∀ t, S g t + S k t < E) : (tgt g k).Ok E := by
 have hr := tdy_rise (enc := tEnc) (g.ps ++ k.ps)
 have hall : ∀ p ∈ g.ps ++ k.ps, NameOk p.1.1 /\ p.1.2.Ok E /\ 1 <= p.2 := fun p hp => (List.mem_append.mp hp).elim (hg p) (hk p)
 refine ok_ps.mpr ⟨fun p hp => ?_, hr⟩
 obtain ⟨q, hq, e⟩ := tdy_keys (enc := tEnc) _ p hp
 obtain ⟨a, b, _⟩ := hall q hq
 have h1 := (tdy_pos (enc := tEnc) (fun p hp => (hall p hp).2.2) p hp).1
 have e2 : sumE (tdy tEnc (g.ps ++ k.ps)) p.1 = p.2 := sumE_mem (hr.imp fun z => ol_ne z) p hp
 rw [tdy_sum, sumE_append] at e2
 have := h p.1
 refine ⟨e ▸ a, e ▸ b, h1, ?_⟩
 show p.2 < E
 rw [<- e2]; exact this
theorem ok_three (h : g.Ok C) (hC : C <= E) : ∀ p ∈ g.ps, NameOk p.1.1 /\ p.1.2.Ok E /\ 1 <= p.2 := fun p hp => by
 obtain ⟨a, b, c, _⟩ := (ok_iff.mp h).1 p hp
 exact ⟨a, b.mono hC, c⟩
theorem tgt_ok2 (hg : g.Ok C) (hk : k.Ok D) (hC : 1 <= C) (hD : 1 <= D) : (tgt g k).Ok (C + D) := by
 refine tgt_okM (ok_three hg (by omega)) (ok_three hk (by omega)) fun t => ?_
 have := S_lt hg hC t
 have := S_lt hk hD t
 omega
def pos (g : Gr) (t : Tr) : Nat := (g.ps.map (·.1)).idxOf t
def Named (ns : List Str) (g : Gr) : Prop := ∀ x ∈ g.within, x.1.1 ∈ ns
theorem named_iff {ns : List Str} : Named ns g ↔ ∀ p ∈ g.ps, p.1.1 ∈ ns /\ Named ns p.1.2 := by
 unfold Named
 rw [within_ps]
 constructor
 ·intro h p hp
  exact ⟨h p (List.mem_flatMap.mpr ⟨p, hp, by simp⟩), fun x hx => h x (List.mem_flatMap.mpr ⟨p, hp, by simp [hx]⟩)⟩
 ·intro h x hx
  obtain ⟨p, hp, hx⟩ := List.mem_flatMap.mp hx
  rcases List.mem_cons.mp hx with e | hx
  ·rw [e]; exact (h p hp).1
  ·exact (h p hp).2 x hx
def one (t : Tr) (m : Int) : Gr := .cons t.1 t.2 m .nil
theorem one_ps (t : Tr) (m : Int) : (one t m).ps = [(t, m)] := rfl
theorem S_one (t : Tr) (m : Int) (x : Tr) : S (one t m) x = if t = x then m else 0 := by
 show sumE [(t, m)] x = _
 rw [sumE_cons]; exact Int.add_zero _
end Gr
def Bk.far (b : Bk) (k : Str) (n : Int) : Int := match b.get k with
 | some kd => if kd.w = true then n else 0
 | none => 0
theorem Bk.far_le (b : Bk) (k : Str) {n : Int} (h : 0 <= n) : 0 <= b.far k n /\ b.far k n <= n := by
 unfold Bk.far
 split
 ·split <;> omega
 ·omega
namespace Gr
variable {b : Bk} {n : Int} {C F E : Int} {g fr : Gr}
def stk (b : Bk) (n : Int) (fr : Gr) : Pl -> Gr -> Gr × Pl
 | [], g => (g, [])
 | i :: r, g => match g.ps[i]? with
  | none => (g, [])
  | some p => if r = [] then (tgt (wo g p.1 1) fr, []) else
    (tgt (wo g p.1 1) (one (p.1.1, (stk b n fr r p.1.2).1) (1 + b.far p.1.1 n)), pos (tgt (wo g p.1 1) (one (p.1.1, (stk b n fr r p.1.2).1) (1 + b.far p.1.1 n))) (p.1.1, (stk b n fr r p.1.2).1) :: (stk b n fr r p.1.2).2)
def bareAt : Gr -> Pl -> Option Str
 | _, [] => none
 | g, i :: r => match g.ps[i]? with
  | none => none
  | some p => if r = [] then (if p.1.2 = .nil then some p.1.1 else none) else bareAt p.1.2 r
theorem stk_one {i : Nat} {p : Tr × Int} (e : g.ps[i]? = some p) : stk b n fr [i] g = (tgt (wo g p.1 1) fr, []) := by
 rw [stk, e]; rfl
def chg (b : Bk) (n : Int) (fr : Gr) (r : Pl) (p : Tr × Int) : Tr := (p.1.1, (stk b n fr r p.1.2).1)
def chR (b : Bk) (n : Int) (fr : Gr) (r : Pl) (g : Gr) (p : Tr × Int) : Gr := tgt (wo g p.1 1) (one (chg b n fr r p) (1 + b.far p.1.1 n))
theorem stk_more {i : Nat} {r : Pl} {p : Tr × Int} (e : g.ps[i]? = some p) (hr : r ≠ []) : stk b n fr (i :: r) g = (chR b n fr r g p, pos (chR b n fr r g p) (chg b n fr r p) :: (stk b n fr r p.1.2).2) := by
 rw [stk, e]
 simp only [if_neg hr]
 rfl
theorem bare_one {i : Nat} {k : Str} (h : bareAt g [i] = some k) : ∃ p, g.ps[i]? = some p /\ p.1 = (k, .nil) := by
 rw [bareAt] at h
 cases e : g.ps[i]? with
 | none => rw [e] at h; cases h
 | some p =>
  rw [e] at h
  simp only [if_true] at h
  by_cases z : p.1.2 = .nil
  ·rw [if_pos z] at h
   exact ⟨p, rfl, Prod.ext (Option.some.inj h) z⟩
  ·rw [if_neg z] at h; cases h
theorem bare_more {i : Nat} {r : Pl} {k : Str} (hr : r ≠ []) (h : bareAt g (i :: r) = some k) : ∃ p, g.ps[i]? = some p /\ bareAt p.1.2 r = some k := by
 rw [bareAt] at h
 cases e : g.ps[i]? with
 | none => rw [e] at h; cases h
 | some p =>
  rw [e] at h
  simp only [if_neg hr] at h
  exact ⟨p, rfl, h⟩
theorem bare_ne {pl : Pl} {k : Str} (h : bareAt g pl = some k) : pl ≠ [] := fun z => by rw [z] at h; cases h
theorem wo_okM {t : Tr} {m : Int} (h : g.Ok C) (hm : 0 <= m) (hC : C <= E) : ∀ p ∈ (wo g t m).ps, NameOk p.1.1 /\ p.1.2.Ok E /\ 1 <= p.2 := ok_three (wo_ok h hm) hC
theorem S_wo_le (h : g.Ok C) {t : Tr} {m : Int} (hm : 0 <= m) (x : Tr) : S (wo g t m) x <= S g x := by
 rw [S_wo h hm]
 split
 ·next e => 
  subst e
  have := S_nonneg h x
  split <;> omega
 ·exact Int.le_refl _
theorem ok_mem (h : g.Ok C) {p : Tr × Int} (hp : p ∈ g.ps) : NameOk p.1.1 /\ p.1.2.Ok C /\ 1 <= p.2 /\ p.2 < C := (ok_iff.mp h).1 p hp
theorem C_pos {p : Tr × Int} (h : g.Ok C) (hp : p ∈ g.ps) : 2 <= C := by have := (ok_mem h hp).2.2; omega
theorem stk_ok (hn : 0 <= n) (hF : 1 <= F) (hfr : fr.Ok F) : ∀ {pl : Pl} {g : Gr} {k : Str}, g.Ok C -> bareAt g pl = some k -> (stk b n fr pl g).1.Ok (C + F + n + 2)
 | [], _, _, _, h => nomatch h
 | i :: r, g, k, ho, h => by
  by_cases hr : r = []
  ·subst hr
   obtain ⟨p, e, _⟩ := bare_one h
   rw [stk_one e]
   have hC := C_pos ho (List.mem_of_getElem? e)
   exact (tgt_ok2 (wo_ok ho (by omega)) hfr (by omega) hF).mono (by omega)
  ·obtain ⟨p, e, h2⟩ := bare_more hr h
   rw [stk_more e hr]
   have pm := List.mem_of_getElem? e
   have hC := C_pos ho pm
   obtain ⟨a, o, _, _⟩ := ok_mem ho pm
   have ih := stk_ok hn hF hfr o h2
   obtain ⟨f1, f2⟩ := Bk.far_le b p.1.1 hn
   refine tgt_okM (wo_okM ho (by omega) (by omega)) (fun q hq => ?_) fun t => ?_
   ·rw [one_ps] at hq
    rw [List.mem_singleton.mp hq]
    exact ⟨a, ih, by show 1 <= 1 + b.far p.1.1 n; omega⟩
   ·have h1 := S_wo_le ho (t := p.1) (m := 1) (by omega) t
    have h3 := S_lt ho (by omega) t
    rw [S_one]
    split <;> omega
theorem bks_at : ∀ {ps : List (Tr × Int)} {j : Nat} {x : Pl × Str}, x ∈ bks ps j -> ∃ i p, ps[i]? = some p /\ x ∈ bkP p (j + i)
 | [], _, _, h => nomatch h
 | p :: r, j, x, h => by
  rcases List.mem_append.mp h with h | h
  ·exact ⟨0, p, rfl, h⟩
  ·obtain ⟨i, q, e, h2⟩ := bks_at h
   exact ⟨i + 1, q, e, by rw [show j + (i + 1) = j + 1 + i by omega]; exact h2⟩
theorem bk_bare : ∀ (m : Nat) {g : Gr} {x : Pl × Str}, x.1.length <= m -> x ∈ g.bk 0 -> bareAt g x.1 = some x.2
 | 0, g, x, hl, h => by
  rw [bk_ps] at h
  obtain ⟨i, p, e, h2⟩ := bks_at h
  unfold bkP at h2
  split at h2
  ·rw [List.mem_singleton.mp h2] at hl; simp at hl
  ·obtain ⟨y, _, rfl⟩ := List.mem_map.mp h2; simp at hl
 | m + 1, g, x, hl, h => by
  rw [bk_ps] at h
  obtain ⟨i, p, e, h2⟩ := bks_at h
  rw [Nat.zero_add] at h2
  unfold bkP at h2
  split at h2
  ·next z =>
   rw [List.mem_singleton.mp h2]
   show bareAt g [i] = _
   rw [bareAt, e]
   simp [z]
  ·obtain ⟨y, hy, rfl⟩ := List.mem_map.mp h2
   have h3 : y.1 ≠ [] := by
    rw [bk_ps] at hy
    obtain ⟨i', p', e', h'⟩ := bks_at hy
    unfold bkP at h'
    split at h'
    ·rw [List.mem_singleton.mp h']; simp
    ·obtain ⟨y', _, rfl⟩ := List.mem_map.mp h'; simp
   have ih := bk_bare m (x := y) (by simp only [List.length_cons] at hl; omega) hy
   show bareAt g (i :: y.1) = _
   rw [bareAt, e]
   simp only [if_neg h3]
   exact ih
end Gr
abbrev noR : Ru := (.nil, .nil)
def spKindsF (K : PySem.W.Frag) : Sp := fun vs H Q _ => ∃ (v : V) (g : Gr) (ns : List Str), vs = [v] /\ GA K H v g /\ g.deep <= 68 /\ g.parts <= 3000 /\ Gr.Named ns g /\ ns.length <= 60 /\ ∀ (l : Addr) (ss : List Str) (H' : Hp), SB [] H H' -> H l = none -> H' l = some (.lst (ss.map V.str)) -> SrtOf ss (g.within.map (·.1.1)) -> ss.length <= 60 -> Q (.ref l) H'
theorem Gr.lk_bare : ∀ {os : List (Option Int)} {g : Gr} {a : Str} {t : Tr}, os ≠ [] -> lk (a, g) os = some t -> ∃ pl, os = plO pl /\ (t.2 = .nil -> Gr.bareAt g pl = some t.1)
 | [], _, _, _, h, _ => absurd rfl h
 | o :: r, g, a, t, _, h => by
  rw [lk] at h
  obtain ⟨u, hu, h2⟩ := Option.bind_eq_some_iff.mp h
  cases o with
  | none => cases hu
  | some n =>
   change (if 0 <= n then (g.ps[n.toNat]?).map (·.1) else none) = some u at hu
   by_cases h0 : 0 <= n
   ·rw [if_pos h0] at hu
    obtain ⟨p, ep, rfl⟩ := Option.map_eq_some_iff.mp hu
    have en : some n = some ((n.toNat : Nat) : Int) := by rw [Int.toNat_of_nonneg h0]
    by_cases hr : r = []
    ·subst hr
     have e : p.1 = t := Option.some.inj h2
     refine ⟨[n.toNat], by rw [en]; rfl, fun z => ?_⟩
     rw [Gr.bareAt, ep]
     simp only [if_true]
     rw [e, if_pos z]
    ·obtain ⟨pl, e, h3⟩ := lk_bare (a := p.1.1) (g := p.1.2) hr h2
     refine ⟨n.toNat :: pl, by rw [e, en]; rfl, fun z => ?_⟩
     have hp : pl ≠ [] := fun z => hr (by rw [e, z]; rfl)
     rw [Gr.bareAt, ep]
     simp only [if_neg hp]
     exact h3 z
   ·rw [if_neg h0] at hu; cases hu
theorem Gr.bare_named {ns : List Str} : ∀ {pl : Pl} {g : Gr} {k : Str}, Gr.Named ns g -> Gr.bareAt g pl = some k -> k ∈ ns
 | [], _, _, _, h => nomatch h
 | i :: r, g, k, hn, h => by
  by_cases hr : r = []
  ·subst hr
   obtain ⟨p, e, e2⟩ := Gr.bare_one h
   have := (Gr.named_iff.mp hn p (List.mem_of_getElem? e)).1
   rwa [e2] at this
  ·obtain ⟨p, e, h2⟩ := Gr.bare_more hr h
   exact bare_named (Gr.named_iff.mp hn p (List.mem_of_getElem? e)).2 h2
theorem plO_inj : ∀ {p q : Pl}, plO p = plO q -> p = q
 | [], [], _ => rfl
 | [], _ :: _, h => nomatch h
 | _ :: _, [], h => nomatch h
 | i :: r, j :: s, h => by
  obtain ⟨h1, h2⟩ := List.cons.inj (show some (i : Int) :: plO r = some (j : Int) :: plO s from h)
  have := Option.some.inj h1
  rw [plO_inj h2, show i = j by omega]
theorem SB.drops2 {p q : Addr} {H H' : Hp} (s : SB [p, q] H H') (hp : H p = none) (hq : H q = none) : SB [] H H' := s.drops fun x hx => by
 rcases List.mem_cons.mp hx with e | hx
 ·rw [e]; exact hp
 ·rw [List.mem_singleton.mp hx]; exact hq
section
variable {γ : Type} [DecidableEq γ]
def wsum (f : γ -> Int) (l : List (γ × Int)) : Int := match l with
 | [] => 0
 | p :: r => f p.1 * p.2 + wsum f r
theorem wsum_append (f : γ -> Int) : ∀ as bs : List (γ × Int), wsum f (as ++ bs) = wsum f as + wsum f bs
 | [], bs => by simp [wsum]
 | p :: r, bs => by show _ + wsum f (r ++ bs) = _; rw [wsum_append f r bs, wsum]; omega
theorem wsum_out (f : γ -> Int) (t : γ) : ∀ l : List (γ × Int), wsum f l = f t * sumE l t + wsum f (l.filter fun p => decide (p.1 ≠ t))
 | [] => by simp [wsum, sumE]
 | p :: r => by
  have ih := wsum_out f t r
  by_cases e : p.1 = t
  ·rw [List.filter_cons_of_neg (by simpa using e)]
   show f p.1 * p.2 + wsum f r = f t * ((if p.1 = t then p.2 else 0) + sumE r t) + _
   rw [if_pos e, Int.mul_add, e, ih]; omega
  ·rw [List.filter_cons_of_pos (by simpa using e)]
   show f p.1 * p.2 + wsum f r = f t * ((if p.1 = t then p.2 else 0) + sumE r t) + (f p.1 * p.2 + _)
   rw [if_neg e, Int.zero_add, ih]; omega
theorem sumE_out (t x : γ) : ∀ l : List (γ × Int), sumE (l.filter fun p => decide (p.1 ≠ t)) x = if x = t then 0 else sumE l x
 | [] => by simp [sumE]
 | p :: r => by
  have ih := sumE_out t x r
  by_cases e : p.1 = t
  ·rw [List.filter_cons_of_neg (by simpa using e), ih]
   by_cases hx : x = t
   ·rw [if_pos hx, if_pos hx]
   ·rw [if_neg hx, if_neg hx, sumE_cons, if_neg (by rw [e]; exact fun z => hx z.symm), Int.zero_add]
  ·rw [List.filter_cons_of_pos (by simpa using e), sumE_cons, ih]
   by_cases hx : x = t
   ·rw [if_pos hx, if_pos hx, if_neg (by rw [hx]; exact e)]; rfl
   ·rw [if_neg hx, if_neg hx, sumE_cons]
theorem filter_short {p : γ × Int} {r : List (γ × Int)} : ((p :: r).filter fun q => decide (q.1 ≠ p.1)).length <= r.length := by
 rw [List.filter_cons_of_neg (by simp)]; exact List.length_filter_le _ _
theorem wsum_ext (f : γ -> Int) : ∀ (n : Nat) (as bs : List (γ × Int)), as.length + bs.length <= n -> (∀ x, sumE as x = sumE bs x) -> wsum f as = wsum f bs
 | n, [], [], _, _ => rfl
 | 0, p :: r, bs, h, _ => by simp at h
 | 0, [], p :: r, h, _ => by simp at h
 | n + 1, p :: r, bs, h, e => by
  rw [wsum_out f p.1 (p :: r), wsum_out f p.1 bs, e p.1, wsum_ext f n ((p :: r).filter fun q => decide (q.1 ≠ p.1)) (bs.filter fun q => decide (q.1 ≠ p.1)) ?_ fun x => ?_]
  ·have h1 := filter_short (p := p) (r := r)
   have h2 := List.length_filter_le (fun q : γ × Int => decide (q.1 ≠ p.1)) bs
   simp only [List.length_cons] at h
   omega
  ·rw [sumE_out, sumE_out, e]
 | n + 1, [], p :: r, h, e => by
  rw [wsum_out f p.1 (p :: r), wsum_out f p.1 [], <- e p.1, wsum_ext f n (([] : List (γ × Int)).filter fun q => decide (q.1 ≠ p.1)) ((p :: r).filter fun q => decide (q.1 ≠ p.1)) ?_ fun x => ?_]
  ·have h1 := filter_short (p := p) (r := r)
   simp only [List.length_cons, List.length_nil, List.filter_nil] at h ⊢
   omega
  ·rw [sumE_out, sumE_out, e]
end
namespace Gr
theorem S_mem1 {C : Int} {g : Gr} (h : g.Ok C) {p : Tr × Int} (hp : p ∈ g.ps) : 1 <= S g p.1 := by
 have h1 := ok_pos h p hp
 rw [S_mem h hp]; omega
end Gr
theorem SB.unlockP {ps : List Addr} {H H' : Hp} {d : Addr} {od : Obj} {u : HO} (s : SB ps (upd H d (.frz od u)) H') (hd : H d = some u) (n1 : ∀ xs, u ≠ .tup xs) (n2 : ∀ o v, u ≠ .frz o v) : SB ps H (upd H' d u) := by
 refine ⟨fun b o e hb => ?_, fun b xs e => ?_, fun b o v e => ?_, fun b e => ?_⟩
 ·by_cases z : b = d
  ·rw [z, upd_same]; rw [z, hd] at e; exact e
  ·rw [upd_ne z]; exact s.keep b o (by rw [upd_ne z]; exact e) hb
 ·have z : b ≠ d := fun z => by rw [z, hd] at e; exact n1 _ (Option.some.inj e)
  rw [upd_ne z]; exact s.tups b xs (by rw [upd_ne z]; exact e)
 ·have z : b ≠ d := fun z => by rw [z, hd] at e; exact n2 _ _ (Option.some.inj e)
  rw [upd_ne z]; exact s.frzs b o v (by rw [upd_ne z]; exact e)
 ·have z : b ≠ d := fun z => by rw [z, upd_same] at e; cases e
  rw [upd_ne z] at e
  have := s.dom b e
  rwa [upd_ne z] at this
section
variable {prog : Program} {w : World} {A : Around} {E : Value -> Shared -> Prop} {st : Shared} {K : PySem.W.Frag} {e D : Addr} {oe : Obj} {dd : Option Obj}
theorem look_cls (C : ExcC K D) : PySem.W.findObj K D dd "__class__" = some (.bind (.builtin "getset_descriptor.__get__") (.builtin "object.__class__")) := by
 obtain ⟨cd, hcd, _⟩ := PySem.W.any_some C.hd
 simp only [PySem.W.findObj, hcd, C.ha, C.hn, C.ht, Option.bind_some]
theorem cls_exc {Q : Option Value -> Shared -> Prop} (C : ExcC K D) (X : K.In st.heap) (I : PySem.W.InstAt st.heap e oe D dd) (q : Q (some (.ref D)) { st with toks := st.toks + 1 }) : wpAny (model prog w) A (getAttr? (.ref e) "__class__") Q E st := by
 have kf := look_cls (dd := dd) C
 obtain ⟨hp, gn, dc, tk, ows⟩ := st
 have K0 := I.type (M := model prog w)
 have K1 := PySem.W.looks_findIn (M := model prog w) X C.hg
 have K2 := PySem.W.looks_findIn (M := model prog w) X C.hk
 have K3 := PySem.W.looks_find (M := model prog w) X I kf
 have kb : Looks (model prog w) hp (isInstance (.ref e) (.type "BaseException")) true := K0.andThen (PySem.W.looks_subIn X C.hs)
 have z2 : (Value.builtin "BaseException.__getattribute__" == Value.builtin "object.__getattribute__") = false := by decide +kernel
 have z1 : (onTheHeap (Value.ref D) && Value.builtin "BaseException.__getattribute__" == Value.builtin "object.__getattribute__") = false := by rw [z2, Bool.and_false]
 unfold getAttr? getAttrBy? getAttrBy
 refine wpAny_bind (wpAny_mkText (wpAny_bind (wpAny_attempt (wpAny_holding (wpAny_bind (K0.at (wpAny_bind (K1.at ?gb))))))))
 case gb =>
 show wpAny _ _ (if (onTheHeap (Value.ref D) && Value.builtin "BaseException.__getattribute__" == Value.builtin "object.__getattribute__") = true then _ else _) _ _ _
 rw [z1, if_neg Bool.false_ne_true]
 unfold getAttrByItsOwn hookBefore
 refine wpAny_bind ?gc
 case gc =>
 rw [if_pos (show onTheHeap (Value.ref D) = true from rfl)]
 refine K2.at (wpAny_bind (wpAny_attempt (wpAny_holding ?gd)))
 case gd =>
 unfold callGetattribute
 rw [show (false && onTheHeap (Value.builtin "BaseException.__getattribute__")) = false from rfl, if_neg Bool.false_ne_true]
 unfold boundAndCalled
 rw [PySem.F.excAttr_ValueError.ga.bind (.ref e)]
 refine wpAny_bind (wpAny_pure ?ge)
 case ge =>
 show wpAny _ _ (call (.builtin "BaseException.__getattribute__") [.ref e, .str "__class__" tk]) _ _ _
 refine wpAny_call (codeAny_call_builtin PySem.F.excAttr_ValueError.ga.plain PySem.F.entry_bexc_ga ?gf)
 case gf =>
 refine @check_slot (model prog w) _ _ ⟨hp, gn, dc, tk + 1, ows⟩ "BaseException.__getattribute__" "BaseException" "__getattribute__" (.ref e) [.str "__class__" tk] [] _ (by decide +kernel) (by decide +kernel) kb (PySem.F.args_bexc_ga (.ref e) (.str "__class__" tk)) ?gg
 case gg =>
 unfold Builtin.«object.__getattribute__»
 refine wpAny_bind (wpAny_of_eq (a := ((Value.ref e : Value), [Value.str "__class__" tk])) (by first | rfl | (simp only [slotArgs]; rfl)) ?gh)
 case gh =>
 refine wpAny_bind (wpAny_pure (wpAny_bind (K0.at (wpAny_bind (K3.at ?gi)))))
 case gi =>
 show wpAny _ _ (holding [Value.builtin "object.__class__"] (call (.builtin "getset_descriptor.__get__") [.builtin "object.__class__", .ref e, .ref D]) >>= ret) _ _ _
 refine wpAny_bind (wpAny_holding (wpAny_call (PySem.W.class_get (s := ⟨hp, gn, dc, tk + 1, ows⟩) (ox := oe) (od := dd) X I C.hm ?gj)))
 case gj =>
 refine wpAny_pure ?gk
 case gk =>
 show wpAny _ _ (handedOut (.ref D)) _ _ _
 rw [handedOut_of (v := .ref D) rfl]
 first
  | exact wpAny_pure (wpAny_pure q)
  | exact wpAny_pure q
  | exact wpAny_pure (wpAny_bind (wpAny_pure (wpAny_pure q)))
theorem kit_exc (C : ExcC K D) : PySem.W.KitX K (.ref e) (.ref D) (fun h => PySem.W.InstAt h e oe D dd) where
 ty := fun _ _ _ I => I.type
 it := fun M h X _ => by
  obtain ⟨cd, hcd, _⟩ := PySem.W.any_some C.hd
  unfold PySem.W.clsIn at hcd
  split at hcd
  ·next ho => exact fun A' Q' E' s' k q => by unfold isType loadHead; exact wpAny_bind (wpAny_loadPart (k _ _ (X _ _ ho)) (wpAny_pure q))
  ·cases hcd
 ne := fun h tp dd' its n sl X htp => Bool.eq_false_iff.mpr fun q => by
  obtain ⟨cd, hcd, _⟩ := PySem.W.any_some C.hd
  cases Value.ref.inj (beq_iff_eq.mp q)
  unfold PySem.W.clsIn at hcd
  split at hcd
  ·next ho => exact absurd ((X _ _ ho).symm.trans htp) (fun z => by cases z)
  ·cases hcd
 ca := fun X I k => cls_exc C X I k
end
def ExD (H : Hp) (d : Option Addr) : Prop := d = none \/ ∃ dd fs, d = some dd /\ H dd = some (.xd fs)
def rIsEg (K : PySem.W.Frag) (a : Addr) (cls : Value) (d : Option Addr) : List V -> Hp -> VK -> Prop := fun xs H Q => ∃ (D : Addr) (c : V) (cv : Value) (b : Bool), cls = .ref D /\ ExcC K D /\ ExD H d /\ xs = [.ref a, c] /\ (∀ u, RelV c u -> u = cv) /\ PySem.W.kitOne K (.ref D) cv = some b /\ Q (.bl b) H
def rIsEgT (K : PySem.W.Frag) (a : Addr) (cls : Value) (d : Option Addr) : List V -> Hp -> VK -> Prop := fun xs H Q => ∃ (D tp : Addr) (cs : List V) (ws : List Value) (b : Bool), cls = .ref D /\ ExcC K D /\ ExD H d /\ xs = [.ref a, .ref tp] /\ H tp = some (.tup cs) /\ Paired ClsV cs ws /\ PySem.W.kitAny K (.ref D) ws = some b /\ Q (.bl b) H
def tXfg (K : PySem.W.Frag) (a : Addr) (cls : Value) (d : Option Addr) (f : Str) (te : TE) : TE := fun σ H Q => te σ H fun x H1 => ∃ (C dd : Addr) (fs : List (Str × V)) (v : V), x = .ref a /\ cls = .ref C /\ ExcC K C /\ PySem.W.findIn K (.ref C) f = some none /\ d = some dd /\ H1 dd = some (.xd fs) /\ fs.lookup f = some v /\ Q v H1
section
variable {X : Cx} {a : Addr} {oe : Obj} {cls : Value} {d : Option Addr}
theorem inst_e {D : Addr} {pins : List (Addr × Obj)} {σ : L2.St} {H : Hp} {s : Shared} (hm : (a, oe) ∈ X.pn) (hz : Zc (.ref D) d oe) (hf : ∃ vs, oe.data = .fields vs) (I : Inv X pins σ H s) (hd : ExD H d) : ∃ dd, PySem.W.InstAt s.heap a oe D dd := by
 obtain ⟨h, _⟩ := I.pin (a, oe) (List.mem_append.mpr (.inl hm))
 obtain ⟨vs, hv⟩ := hf
 obtain ⟨h1, h2⟩ := hz
 have nc : PySem.W.notCls oe = true := by unfold PySem.W.notCls; rw [hv]
 rcases hd with e | ⟨dd, fs, e, g⟩
 ·exact ⟨none, h, h1, nc, by rw [h2, e]; trivial⟩
 ·obtain ⟨mA, hns, _⟩ := (show ObjOk X.prog X.w H s.heap dd (.xd fs) from I.hok dd _ g)
  obtain ⟨od, ho, _⟩ := lookIn_ns hns
  exact ⟨some od, h, h1, nc, by rw [h2, e]; exact ho⟩
theorem call_isEg (hm : (a, oe) ∈ X.pn) (hz : Zc cls d oe) (hf : ∃ vs, oe.data = .fields vs) : CallR X (.builtin "isinstance") (rIsEg X.K a cls d) := by
 intro pins s σ H xs us Q I r h
 obtain ⟨D, c, cv, b, ec, C, hd, rfl, hcv, e, q⟩ := h
 subst ec
 obtain ⟨u1, u2, rfl, r1, r2⟩ := vals2 r
 cases (show u1 = Value.ref a from r1)
 cases hcv _ r2
 obtain ⟨dd, J⟩ := inst_e hm hz hf I hd
 exact PySem.W.kia_one (kit_exc C) I.kIn J e (fun z => nomatch z) fun tk => ⟨.bl b, H, I.kept (t' := tk) fun _ _ z => z, rfl, q⟩
theorem call_isEgT (hm : (a, oe) ∈ X.pn) (hz : Zc cls d oe) (hf : ∃ vs, oe.data = .fields vs) : CallR X (.builtin "isinstance") (rIsEgT X.K a cls d) := by
 intro pins s σ H xs us Q I r h
 obtain ⟨D, tp, cs, ws, b, ec, C, hd, rfl, hT, k, e, q⟩ := h
 subst ec
 obtain ⟨u1, u2, rfl, r1, r2⟩ := vals2 r
 cases (show u2 = Value.ref tp from r2)
 cases (show u1 = Value.ref a from r1)
 obtain ⟨_, its, rv, o, h1, h2, n, h3⟩ := (show ObjOk X.prog X.w H s.heap tp (.tup cs) from I.hok tp _ hT)
 have e3 := ClsV.all k rv
 subst e3
 obtain ⟨oc, od, dt, sl⟩ := o
 simp only at h2 h3
 subst h2 h3
 obtain ⟨dd, J⟩ := inst_e hm hz hf I hd
 exact PySem.W.kia_tup (kit_exc C) I.kIn J h1 e (fun z => nomatch z) fun tk => ⟨.bl b, H, I.kept (t' := tk) fun _ _ z => z, rfl, q⟩
theorem pe_xfg {e : Expr} {te : TE} {pos : Pos} {n : Str} (hm : (a, oe) ∈ X.pn) (hz : Zc cls d oe) (hf : ∃ vs, oe.data = .fields vs) (he : PE X e te) (hb : attributeBase e n X.env (eval e X.env) = eval e X.env := by rfl) : PE X (.Attribute e n pos) (tXfg X.K a cls d n te) := by
 refine ⟨fun pins st σ H Q I h => attr_of hb (thn (he.run pins st σ H _ I h) fun u s1 hh => ?_)⟩
 obtain ⟨x, H1, J1, rx, C, dd, fs, v, ex, ec, T, hno, ed, hx, l, q⟩ := hh
 subst ex ec ed
 cases (show u = Value.ref a from rx)
 obtain ⟨ga, _⟩ := J1.pin (a, oe) (List.mem_append.mpr (.inl hm))
 obtain ⟨mA, hns, hr⟩ := (show ObjOk X.prog X.w H1 s1.heap dd (.xd fs) from J1.hok dd _ hx)
 obtain ⟨od, ho, hl⟩ := lookIn_ns hns
 obtain ⟨w, hw, rw'⟩ := RelO.some_of (v := v) (o := mA n) (by rw [<- l]; exact hr n)
 obtain ⟨vs, hv⟩ := hf
 have nc : PySem.W.notCls oe = true := by unfold PySem.W.notCls; rw [hv]
 have ins : PySem.W.InstAt s1.heap a oe C (some od) := ⟨ga, hz.1, nc, by rw [hz.2]; exact ho⟩
 exact HandSPX.exc_get J1.kIn ins T.hg T.hk T.hs (PySem.W.findObj_own T.hd hno rfl (by rw [hl, hw])) (handed_of rw') ⟨v, H1, J1.tok _, rw', q⟩
end
structure ErrsM (K : PySem.W.Frag) (mg : Str -> Option Value) (c : Str -> Addr) (caught names kinds : List Str) : Prop where
 glo : ∀ n ∈ names, mg n = some (.ref (c n))
 FellError : mg "FellError" = some (.ref (c "FellError"))
 ve : mg "ValueError" = none
 exc : ∀ n ∈ caught, ExcC K (c n)
 exm : ∀ n ∈ caught, PySem.W.exmOne K (.ref (c n)) (.ref (c "FellError")) = some true
 kve : ∀ n ∈ caught, PySem.W.kitOne K (.ref (c n)) (.type "ValueError") = some true
 kit : ∀ n ∈ caught, ∀ m ∈ names, PySem.W.kitOne K (.ref (c n)) (.ref (c m)) = some (decide (n = m))
 nok : ∀ n ∈ kinds, PySem.W.findIn K (.ref (c n)) "kind" = some none
 exo : ∀ n ∈ caught, ∀ m ∈ names, PySem.W.exmOne K (.ref (c n)) (.ref (c m)) = some (decide (n = m))
theorem ErrsM.any {K : PySem.W.Frag} {mg : Str -> Option Value} {c : Str -> Addr} {caught names kinds : List Str} (T : ErrsM K mg c caught names kinds) {n : Str} (hn : n ∈ caught) : ∀ {ms : List Str}, (∀ m ∈ ms, m ∈ names) -> PySem.W.kitAny K (.ref (c n)) (ms.map fun m => .ref (c m)) = some (decide (n ∈ ms))
 | [], _ => by simp [PySem.W.kitAny]
 | m :: r, h => by
  have e := T.kit n hn m (h m mcs)
  have e2 := T.any hn (ms := r) fun x hx => h x (mcm _ hx)
  rw [List.map_cons, PySem.W.kitAny, e]
  by_cases z : n = m
  ·simp [z]
  ·simp [z, e2]
theorem ErrsM.no {K : PySem.W.Frag} {mg : Str -> Option Value} {c : Str -> Addr} {caught names kinds : List Str} (T : ErrsM K mg c caught names kinds) {n : Str} (hn : n ∈ caught) {ms : List Str} (h : ∀ m ∈ ms, m ∈ names) (k : n ∉ ms) : PySem.W.kitAny K (.ref (c n)) (ms.map fun m => .ref (c m)) = some false := (T.any hn h).trans (by rw [decide_eq_false k])
theorem ErrsM.is {K : PySem.W.Frag} {mg : Str -> Option Value} {c : Str -> Addr} {caught names kinds : List Str} (T : ErrsM K mg c caught names kinds) {n : Str} (hn : n ∈ caught) (h : n ∈ names) : PySem.W.kitOne K (.ref (c n)) (.ref (c n)) = some true := (T.kit n hn n h).trans (by rw [decide_eq_true rfl])
theorem ErrsM.isno {K : PySem.W.Frag} {mg : Str -> Option Value} {c : Str -> Addr} {caught names kinds : List Str} (T : ErrsM K mg c caught names kinds) {n m : Str} (hn : n ∈ caught) (h : m ∈ names) (k : n ≠ m) : PySem.W.kitOne K (.ref (c n)) (.ref (c m)) = some false := (T.kit n hn m h).trans (by rw [decide_eq_false k])
def ermB (K : PySem.W.Frag) (c : Str -> Addr) (caught names : List Str) : Bool := caught.all fun n => excCB K (c n) && (decide (PySem.W.exmOne K (.ref (c n)) (.ref (c "FellError")) = some true) && (decide (PySem.W.kitOne K (.ref (c n)) (.type "ValueError") = some true) && names.all fun m => decide (PySem.W.kitOne K (.ref (c n)) (.ref (c m)) = some (decide (n = m))) && decide (PySem.W.exmOne K (.ref (c n)) (.ref (c m)) = some (decide (n = m)))))
theorem ermB_ok {K : PySem.W.Frag} {mg : Str -> Option Value} {c : Str -> Addr} {caught names kinds : List Str} (h : ermB K c caught names = true) (g : ∀ n ∈ names, mg n = some (.ref (c n))) (f : mg "FellError" = some (.ref (c "FellError"))) (v : mg "ValueError" = none) (k : ∀ n ∈ kinds, PySem.W.findIn K (.ref (c n)) "kind" = some none) : ErrsM K mg c caught names kinds := by
 have hh : ∀ n ∈ caught, excCB K (c n) = true /\ PySem.W.exmOne K (.ref (c n)) (.ref (c "FellError")) = some true /\ PySem.W.kitOne K (.ref (c n)) (.type "ValueError") = some true /\ ∀ m ∈ names, PySem.W.kitOne K (.ref (c n)) (.ref (c m)) = some (decide (n = m)) /\ PySem.W.exmOne K (.ref (c n)) (.ref (c m)) = some (decide (n = m)) := fun n hn => by
  have := List.all_eq_true.mp h n hn
  simp only [Bool.and_eq_true, decide_eq_true_eq, List.all_eq_true] at this
  exact this
 exact ⟨g, f, v, fun n hn => excCB_ok (hh n hn).1, fun n hn => (hh n hn).2.1, fun n hn => (hh n hn).2.2.1, fun n hn m hm => ((hh n hn).2.2.2 m hm).1, k, fun n hn m hm => ((hh n hn).2.2.2 m hm).2⟩
theorem paired_refs {c : Str -> Addr} : ∀ ms : List Str, Paired ClsV (ms.map fun m => V.ref (c m)) (ms.map fun m => Value.ref (c m))
 | [] => .nil
 | _ :: r => .cons (.own _) (paired_refs r)
abbrev Rw := Pl × Tr × Int
namespace Gr
def ar : Gr -> Nat -> Int -> List Rw
 | .nil, _, _ => []
 | .cons k g m r, i, f => (([i], (k, g), f * m) :: (g.ar 0 (f * m)).map fun x => (i :: x.1, x.2)) ++ r.ar (i + 1) f
theorem ar_at {G : Gr} : ∀ (g : Gr) (i : Nat) (f : Int), G.ps.drop i = g.ps -> ∀ x ∈ g.ar i f, plO x.1 ≠ [] /\ lk ("", G) (plO x.1) = some x.2.1
 | .nil, _, _, _, x, h => by cases h
 | .cons k g m r, i, f, hd, x, h => by
  have hd' : G.ps.drop i = ((k, g), m) :: r.ps := hd
  have hi : G.ps[i]? = some ((k, g), m) := by
   have := congrArg (·[0]?) hd'
   simpa using this
  have hs : stp G (some ((i : Nat) : Int)) = some (k, g) := by
   show (if (0 : Int) <= ((i : Nat) : Int) then (G.ps[((i : Nat) : Int).toNat]?).map (·.1) else none) = _
   rw [if_pos (by omega), Int.toNat_natCast, hi]; rfl
  rcases List.mem_append.mp h with h | h
  ·rcases List.mem_cons.mp h with h | h
   ·rw [h]
    refine ⟨by simp [plO], ?_⟩
    show (stp G (some ((i : Nat) : Int))).bind _ = _
    rw [hs]; rfl
   ·obtain ⟨q, hq, rfl⟩ := List.mem_map.mp h
    obtain ⟨n1, e1⟩ := ar_at (G := g) g 0 _ rfl q hq
    refine ⟨by simp [plO], ?_⟩
    show (stp G (some ((i : Nat) : Int))).bind (fun u => lk u (plO q.1)) = _
    rw [hs]
    show lk (k, g) (plO q.1) = some q.2.1
    rw [lk_root (b := "") n1, e1]
  ·exact ar_at r (i + 1) f (by rw [<- List.drop_drop, hd']; rfl) x h
variable {C : Int}
theorem ar_bare : ∀ (g : Gr) (i : Nat) (f : Int), ((g.ar i f).filter fun x => decide (x.2.1.2 = .nil)).map (·.1) = g.bp i
 | .nil, _, _ => rfl
 | .cons k g m r, i, f => by
  show (((([i], (k, g), f * m) :: (g.ar 0 (f * m)).map fun x => (i :: x.1, x.2)) ++ r.ar (i + 1) f).filter _).map _ = (if g = .nil then [[i]] else (g.bp 0).map (i :: ·)) ++ r.bp (i + 1)
  rw [List.filter_append, List.map_append, ar_bare r]
  congr 1
  by_cases hg : g = .nil
  ·subst hg
   rw [if_pos rfl]; rfl
  ·rw [if_neg hg, List.filter_cons, if_neg (by simpa using hg), <- ar_bare g 0 (f * m), List.filter_map, List.map_map, List.map_map]
   rfl
theorem size_wsum : ∀ g : Gr, g.size = wsum (fun t => 1 + t.2.size) g.ps
 | .nil => rfl
 | .cons k g m r => by
  show m * (1 + g.size) + r.size = (1 + g.size) * m + wsum _ r.ps
  rw [size_wsum r, Int.mul_comm]
theorem size_pos : ∀ {g : Gr}, g.Ok C -> 0 <= g.size
 | .nil, _ => Int.le_refl _
 | .cons k g m r, h => by
  obtain ⟨_, h2, h3, _, h5, _⟩ := h
  have e1 := size_pos h2
  have e2 := size_pos h5
  have e3 : 0 <= m * (1 + g.size) := Int.mul_nonneg (by omega) (by omega)
  show 0 <= m * (1 + g.size) + r.size
  omega
theorem size_pos1 {g : Gr} (h : g.Ok C) (hn : g ≠ .nil) : 1 <= g.size := by
 cases g with
 | nil => exact absurd rfl hn
 | cons k g m r =>
  obtain ⟨_, h2, h3, _, h5, _⟩ := h
  have e1 := size_pos h2
  have e2 := size_pos h5
  have e3 : 1 * 1 <= m * (1 + g.size) := Int.mul_le_mul h3 (by omega) (by decide) (by omega)
  show 1 <= m * (1 + g.size) + r.size
  omega
end Gr
def Bk.wide (b : Bk) (n : Str) : Bool := match b.get n with
 | some k => k.w
 | none => false
theorem Bk.wide_get {b : Bk} {n : Str} {k : Kd} (h : b.get n = some k) : b.wide n = k.w := by unfold Bk.wide; rw [h]
structure EndO (b : Bk) (es : List Str) : Prop where
 nd : es.Nodup
 len : es.length <= 8
 mem : ∀ n, n ∈ es ↔ n ∈ b.names /\ EndK b n
 ord : ∀ (i : Nat) (n : Str), es[i]? = some n -> ∀ k ∈ adj b n, k ∈ es.take i
def spEndingO (K : PySem.W.Frag) (C N : Addr) : Sp := fun vs H Q E => ∃ (v : V) (b : Bk), vs = [v] /\ BkA K C H v b /\ b.Ok /\ ∀ (l : Addr) (es : List Str) (H' : Hp), SB [] H H' -> H l = none -> H' l = some (.lst (es.map V.str)) -> EndO b es -> Q (.ref l) H'
theorem bears_strs {K : PySem.W.Frag} {H : Hp} : ∀ ks : List Str, Bears K H PyData.str (ks.map V.str) ks
 | [] => .nil
 | k :: r => .cons (.str k) (bears_strs r)
theorem nodup_at {ks : List Str} (nd : ks.Nodup) {i j : Nat} {n : Str} (hi : ks[i]? = some n) (hj : ks[j]? = some n) : i = j := by
 obtain ⟨h1, e1⟩ := List.getElem?_eq_some_iff.mp hi
 obtain ⟨h2, e2⟩ := List.getElem?_eq_some_iff.mp hj
 rcases Nat.lt_trichotomy i j with h | h | h
 ·exact absurd (e1.trans e2.symm) (List.pairwise_iff_getElem.mp nd i j h1 h2 h)
 ·exact h
 ·exact absurd (e2.trans e1.symm) (List.pairwise_iff_getElem.mp nd j i h2 h1 h)
theorem KdAll.more {K : PySem.W.Frag} {H : Hp} {bad : List Addr} {R : Addr} (hR : H R = none) : ∀ {vs : List V} {b : Bk}, KdAll K H bad vs b -> KdAll K H (R :: bad) vs b
 | _, _, .nil => .nil
 | _, _, .cons a t => by
  obtain ⟨t1, l, zs, e, h1, h2, h3, h4⟩ := a
  refine .cons ⟨t1, l, zs, e, h1, h2, h3, fun z => ?_⟩ (KdAll.more hR t)
  rcases List.mem_cons.mp z with z | z
  ·rw [z, hR] at h2; cases h2
  ·exact h4 z
theorem ledR_within {rs : List Ru} {r : Ru} (hr : r ∈ rs) {x : Tr × Int} (hx : x ∈ Ru.within r) : x.1.1 ∈ ledR rs := List.mem_flatMap.mpr ⟨r, hr, List.mem_map.mpr ⟨x, hx, rfl⟩⟩
def Bk.rules (b : Bk) (n : Str) : List Ru := match b.get n with
 | some k => k.rs
 | none => []
def leadsTo (b : Bk) (k n : Str) : Prop := k ∈ adj b n /\ EndK b n
theorem leads_wf (b : Bk) : WellFounded (leadsTo b) := by
 have h1 : ∀ n, EndK b n -> Acc (leadsTo b) n := fun n h => by
  induction h with
  | mk _ ih => exact ⟨_, fun y hy => ih y hy.1⟩
 exact ⟨fun n => ⟨n, fun y hy => h1 y (hy.2.next hy.1)⟩⟩
theorem filter_lt {α : Type} {p q : α -> Bool} : ∀ {l : List α}, (∀ x ∈ l, p x = true -> q x = true) -> (∃ x ∈ l, q x = true /\ p x = false) -> (l.filter p).length < (l.filter q).length
 | [], _, ⟨x, hx, _⟩ => nomatch hx
 | a :: r, h, ⟨x, hx, hq, hp⟩ => by
  have hr : ∀ x ∈ r, p x = true -> q x = true := fun y hy => h y (mcm _ hy)
  have le : ∀ l : List α, (∀ x ∈ l, p x = true -> q x = true) -> (l.filter p).length <= (l.filter q).length := by
   intro l
   induction l with
   | nil => intro _; exact Nat.le_refl _
   | cons c s ih =>
    intro hc
    have := ih fun y hy => hc y (mcm _ hy)
    cases hpc : p c with
    | true =>
     rw [List.filter_cons_of_pos hpc, List.filter_cons_of_pos (hc c (mcs ..) hpc)]
     simpa using this
    | false =>
     rw [List.filter_cons_of_neg (by simp [hpc])]
     cases hqc : q c with
     | true => rw [List.filter_cons_of_pos hqc, List.length_cons]; omega
     | false => rw [List.filter_cons_of_neg (by simp [hqc])]; exact this
  rcases List.mem_cons.mp hx with rfl | hx
  ·rw [List.filter_cons_of_neg (by simp [hp]), List.filter_cons_of_pos hq, List.length_cons]
   have := le r hr
   omega
  ·have ih := filter_lt hr ⟨x, hx, hq, hp⟩
   cases hpc : p a with
   | true =>
    rw [List.filter_cons_of_pos hpc, List.filter_cons_of_pos (h a (mcs ..) hpc)]
    simpa using ih
   | false =>
    rw [List.filter_cons_of_neg (by simp [hpc])]
    cases hqc : q a with
    | true => rw [List.filter_cons_of_pos hqc, List.length_cons]; omega
    | false => rw [List.filter_cons_of_neg (by simp [hqc])]; exact ih
def Gr.ins : Gr -> List Tr
 | .nil => []
 | .cons k g m r => (k, g) :: (g.ins ++ r.ins)
theorem Gr.ins_within : ∀ g : Gr, g.ins = g.within.map (·.1)
 | .nil => rfl
 | .cons k g m r => by
  show (k, g) :: (g.ins ++ r.ins) = (k, g) :: (g.within ++ r.within).map (·.1)
  rw [Gr.ins_within g, Gr.ins_within r, List.map_append]
theorem putK_last {kvs : List (Key × V)} {k : Key} {u v : V} (h : ∀ p ∈ kvs, p.1 ≠ k) : putK (kvs ++ [(k, u)]) k v = kvs ++ [(k, v)] := by
 induction kvs with
 | nil => simp [putK]
 | cons p r ih =>
  have h1 : p.1 ≠ k := h p (mcs ..)
  have h2 := ih fun q hq => h q (mcm _ hq)
  unfold putK at h2 ⊢
  simp_all
theorem valV_last : ∀ {kvs : List (Key × V)} {k : Key} {v : V}, (∀ p ∈ kvs, p.1 ≠ k) -> valV (kvs ++ [(k, v)]) k = some v
 | [], _, _, _ => valV_pos rfl
 | p :: r, k, v, h => by
  obtain ⟨a, x⟩ := p
  rw [List.cons_append, valV_neg (h (a, x) (mcs ..))]
  exact valV_last fun q hq => h q (mcm _ hq)
theorem ledR_snoc {rs : List Ru} {i : Nat} {r : Ru} (er : rs[i]? = some r) : ledR (rs.take (i + 1)) = ledR (rs.take i) ++ (r.1.ins ++ r.2.ins).map (·.1) := by
 rw [List.take_add_one, er]
 unfold ledR
 rw [List.flatMap_append]
 simp [Ru.within, Gr.ins_within, Function.comp_def]
def zk (ns : List Str) (us : List V) : List (Key × V) := List.zipWith (fun (n : Str) (u : V) => ((Sum.inr n : Key), u)) ns us
theorem zk_keys : ∀ {ns : List Str} {us : List V}, us.length = ns.length -> (zk ns us).map (·.1) = ns.map Sum.inr
 | [], [], _ => rfl
 | [], _ :: _, h => by simp at h
 | _ :: _, [], h => by simp at h
 | n :: r, u :: us, h => by
  have := zk_keys (ns := r) (us := us) (by simpa using h)
  show Sum.inr n :: (zk r us).map (·.1) = _
  rw [this]; rfl
namespace Gr
def wT (t : Tr) : Nat := (1 + t.2.size).toNat * prN t.2.szs
def prL : List (Tr × Int) -> Nat
 | [] => 1
 | p :: r => wT p.1 ^ p.2.toNat * prL r
theorem szs_prL : ∀ g : Gr, prN g.szs = prL g.ps
 | .nil => rfl
 | .cons k g m r => by
  show prN ((List.replicate m.toNat ((1 + g.size).toNat :: g.szs)).flatten ++ r.szs) = wT (k, g) ^ m.toNat * prL r.ps
  rw [prN_append, prN_rep, szs_prL r]
  rfl
theorem prL_append : ∀ as bs : List (Tr × Int), prL (as ++ bs) = prL as * prL bs
 | [], bs => by simp [prL]
 | p :: r, bs => by
  show wT p.1 ^ p.2.toNat * prL (r ++ bs) = wT p.1 ^ p.2.toNat * prL r * prL bs
  rw [prL_append r bs, Nat.mul_assoc]
theorem prL_one (t : Tr) : prL [(t, 1)] = wT t := by
 show wT t ^ (1 : Int).toNat * 1 = wT t
 rw [Nat.mul_one, show (1 : Int).toNat = 1 from rfl, Nat.pow_one]
theorem sumE_pos (t : Tr) : ∀ {l : List (Tr × Int)}, (∀ p ∈ l, 0 <= p.2) -> 0 <= sumE l t
 | [], _ => Int.le_refl _
 | p :: r, h => by
  have := sumE_pos t fun q hq => h q (mcm _ hq)
  have h2 := h p (mcs ..)
  rw [sumE_cons]
  split <;> omega
theorem prL_out (t : Tr) : ∀ l : List (Tr × Int), (∀ p ∈ l, 0 <= p.2) -> prL l = wT t ^ (sumE l t).toNat * prL (l.filter fun p => decide (p.1 ≠ t))
 | [], _ => by simp [prL, sumE]
 | p :: r, h => by
  have hr : ∀ q ∈ r, 0 <= q.2 := fun q hq => h q (mcm _ hq)
  have ih := prL_out t r hr
  have h0 := sumE_pos t hr
  have h2 := h p (mcs ..)
  by_cases e : p.1 = t
  ·rw [List.filter_cons_of_neg (by simpa using e)]
   show wT p.1 ^ p.2.toNat * prL r = _
   rw [sumE_cons, if_pos e, ih, e, Int.toNat_add h2 h0, Nat.pow_add, Nat.mul_assoc]
  ·rw [List.filter_cons_of_pos (by simpa using e)]
   show wT p.1 ^ p.2.toNat * prL r = _ * (wT p.1 ^ p.2.toNat * _)
   rw [sumE_cons, if_neg e, Int.zero_add, ih, Nat.mul_left_comm]
theorem prL_ext : ∀ (n : Nat) (as bs : List (Tr × Int)), as.length + bs.length <= n -> (∀ p ∈ as, 0 <= p.2) -> (∀ p ∈ bs, 0 <= p.2) -> (∀ x, sumE as x = sumE bs x) -> prL as = prL bs
 | n, [], [], _, _, _, _ => rfl
 | 0, p :: r, bs, h, _, _, _ => by simp at h
 | 0, [], p :: r, h, _, _, _ => by simp at h
 | n + 1, p :: r, bs, h, ha, hb, e => by
  rw [prL_out p.1 (p :: r) ha, prL_out p.1 bs hb, e p.1, prL_ext n ((p :: r).filter fun q => decide (q.1 ≠ p.1)) (bs.filter fun q => decide (q.1 ≠ p.1)) ?_ (fun q hq => ha q (List.mem_filter.mp hq).1) (fun q hq => hb q (List.mem_filter.mp hq).1) fun x => ?_]
  ·have h1 := filter_short (p := p) (r := r)
   have h2 := List.length_filter_le (fun q : Tr × Int => decide (q.1 ≠ p.1)) bs
   simp only [List.length_cons] at h
   omega
  ·rw [sumE_out, sumE_out, e]
 | n + 1, [], p :: r, h, ha, hb, e => by
  rw [prL_out p.1 (p :: r) hb, prL_out p.1 [] ha, <- e p.1, prL_ext n (([] : List (Tr × Int)).filter fun q => decide (q.1 ≠ p.1)) ((p :: r).filter fun q => decide (q.1 ≠ p.1)) ?_ (fun q hq => ha q (List.mem_filter.mp hq).1) (fun q hq => hb q (List.mem_filter.mp hq).1) fun x => ?_]
  ·have h1 := filter_short (p := p) (r := r)
   simp only [List.length_cons, List.length_nil, List.filter_nil] at h ⊢
   omega
  ·rw [sumE_out, sumE_out, e]
variable {b : Bk} {C : Int} {g : Gr}
theorem S_ps (g : Gr) (x : Tr) : S g x = sumE g.ps x := rfl
theorem stk0_nn (ho : g.Ok C) {pl : Pl} {k : Str} (h : bareAt g pl = some k) : ∀ p ∈ (stk b 0 .nil pl g).1.ps, 0 <= p.2 := fun p hp => by
 have := ok_pos (stk_ok (b := b) (fr := .nil) (F := 1) (Int.le_refl 0) (by decide) trivial ho h) p hp
 omega
theorem stk0_last (ho : g.Ok C) {i : Nat} {p : Tr × Int} (e : g.ps[i]? = some p) (x : Tr) : sumE ((stk b 0 .nil [i] g).1.ps ++ [(p.1, 1)]) x = sumE g.ps x := by
 have h1 := S_mem1 ho (List.mem_of_getElem? e)
 rw [stk_one e, sumE_append, <- S_ps, S_tgt, S_wo ho (by decide)]
 show _ + S .nil x + ((if p.1 = x then (1 : Int) else 0) + 0) = S g x
 show _ + (0 : Int) + _ = _
 by_cases hx : x = p.1
 ·subst hx
  rw [if_pos rfl, if_pos rfl]
  split <;> omega
 ·rw [if_neg hx, if_neg fun z => hx z.symm]
  omega
theorem stk0_more (ho : g.Ok C) {i : Nat} {r : Pl} {p : Tr × Int} (e : g.ps[i]? = some p) (hr : r ≠ []) (x : Tr) : sumE ((stk b 0 .nil (i :: r) g).1.ps ++ [(p.1, 1)]) x = sumE (g.ps ++ [((p.1.1, (stk b 0 .nil r p.1.2).1), 1)]) x := by
 have h1 := S_mem1 ho (List.mem_of_getElem? e)
 obtain ⟨f1, f2⟩ := Bk.far_le b p.1.1 (n := 0) (by decide)
 have ef : b.far p.1.1 0 = 0 := by omega
 rw [stk_more e hr, sumE_append, sumE_append, <- S_ps, <- S_ps]
 show S (tgt (wo g p.1 1) (one (p.1.1, (stk b 0 .nil r p.1.2).1) (1 + b.far p.1.1 0))) x + ((if p.1 = x then (1 : Int) else 0) + 0) = S g x + ((if (p.1.1, (stk b 0 .nil r p.1.2).1) = x then (1 : Int) else 0) + 0)
 rw [S_tgt, S_wo ho (by decide), S_one, ef]
 generalize (p.1.1, (stk b 0 .nil r p.1.2).1) = q
 by_cases hx : x = p.1
 ·subst hx
  rw [if_pos (rfl : p.1 = p.1), if_pos (rfl : p.1 = p.1)]
  by_cases hq : q = p.1
  ·rw [if_pos hq, if_pos hq]
   split <;> omega
  ·rw [if_neg hq, if_neg hq]
   split <;> omega
 ·rw [if_neg hx, if_neg (show ¬ p.1 = x from fun z => hx z.symm)]
  split <;> omega
theorem nn_snoc {l : List (Tr × Int)} (h : ∀ p ∈ l, 0 <= p.2) (t : Tr) : ∀ p ∈ l ++ [(t, (1 : Int))], 0 <= p.2 := fun p hp => by
 rcases List.mem_append.mp hp with hp | hp
 ·exact h p hp
 ·rw [List.mem_singleton.mp hp]; show (0 : Int) <= 1; decide
theorem nn_ps (ho : g.Ok C) : ∀ p ∈ g.ps, 0 <= p.2 := fun p hp => by have := ok_pos ho p hp; omega
theorem pr_last (ho : g.Ok C) {i : Nat} {p : Tr × Int} {k : Str} (e : g.ps[i]? = some p) (h : bareAt g [i] = some k) : prN (stk b 0 .nil [i] g).1.szs * wT p.1 = prN g.szs := by
 have := prL_ext _ _ _ (Nat.le_refl _) (nn_snoc (stk0_nn (b := b) ho h) p.1) (nn_ps ho) (stk0_last ho e)
 rw [prL_append, prL_one] at this
 rw [szs_prL, szs_prL, this]
theorem pr_more (ho : g.Ok C) {i : Nat} {r : Pl} {p : Tr × Int} {k : Str} (e : g.ps[i]? = some p) (hr : r ≠ []) (h : bareAt g (i :: r) = some k) : prN (stk b 0 .nil (i :: r) g).1.szs * wT p.1 = prN g.szs * wT (p.1.1, (stk b 0 .nil r p.1.2).1) := by
 have := prL_ext _ _ _ (Nat.le_refl _) (nn_snoc (stk0_nn (b := b) ho h) p.1) (nn_snoc (nn_ps ho) _) (stk0_more (b := b) ho e hr)
 rw [prL_append, prL_one, prL_append, prL_one] at this
 rw [szs_prL, szs_prL, this]
theorem wsum_snoc (f : Tr -> Int) (l : List (Tr × Int)) (t : Tr) : wsum f (l ++ [(t, 1)]) = wsum f l + f t := by
 rw [wsum_append]
 show _ + (f t * 1 + 0) = _
 omega
theorem size_stk0 : ∀ {pl : Pl} {g : Gr} {k : Str}, g.Ok C -> bareAt g pl = some k -> (stk b 0 .nil pl g).1.size = g.size - 1
 | [], _, _, _, h => nomatch h
 | i :: r, g, k, ho, h => by
  by_cases hr : r = []
  ·subst hr
   obtain ⟨p, e, hp⟩ := bare_one h
   have := wsum_ext (fun t : Tr => 1 + t.2.size) _ _ _ (Nat.le_refl _) (stk0_last (b := b) ho e)
   rw [wsum_snoc, <- size_wsum, <- size_wsum, hp] at this
   have e0 : (1 : Int) + (Gr.nil).size = 1 := rfl
   simp only [e0] at this
   omega
  ·obtain ⟨p, e, h2⟩ := bare_more hr h
   obtain ⟨_, o, _, _⟩ := ok_mem ho (List.mem_of_getElem? e)
   have ih := size_stk0 o h2
   have := wsum_ext (fun t : Tr => 1 + t.2.size) _ _ _ (Nat.le_refl _) (stk0_more (b := b) ho e hr)
   rw [wsum_snoc, wsum_snoc, <- size_wsum, <- size_wsum] at this
   simp only [ih] at this
   omega
def trs : Pl -> Gr -> Int
 | [], _ => 1
 | i :: r, g => match g.ps[i]? with
  | none => 0
  | some p => p.2 * trs r p.1.2
theorem trs_at {i : Nat} {r : Pl} {p : Tr × Int} (e : g.ps[i]? = some p) : trs (i :: r) g = p.2 * trs r p.1.2 := by rw [trs, e]
theorem bp_bare : ∀ (m : Nat) {g : Gr} {pl : Pl}, pl.length <= m -> pl ∈ g.bp 0 -> ∃ k, bareAt g pl = some k
 | m, g, pl, hl, h => by
  rw [<- ar_bare g 0 1] at h
  obtain ⟨x, hx, rfl⟩ := List.mem_map.mp h
  obtain ⟨hx1, hx2⟩ := List.mem_filter.mp hx
  obtain ⟨h1, h2⟩ := ar_at (G := g) g 0 1 rfl x hx1
  obtain ⟨pl', e, h3⟩ := lk_bare h1 h2
  rw [plO_inj e]
  exact ⟨_, h3 (of_decide_eq_true hx2)⟩
def sumP (f : Pl -> Int) : List Pl -> Int
 | [] => 0
 | p :: r => f p + sumP f r
theorem sumP_append (f : Pl -> Int) : ∀ as bs : List Pl, sumP f (as ++ bs) = sumP f as + sumP f bs
 | [], bs => by simp [sumP]
 | p :: r, bs => by
  show f p + sumP f (r ++ bs) = f p + sumP f r + sumP f bs
  rw [sumP_append f r bs]; omega
theorem sumP_map (f : Pl -> Int) (h : Pl -> Pl) : ∀ l : List Pl, sumP f (l.map h) = sumP (fun p => f (h p)) l
 | [] => rfl
 | p :: r => by
  show f (h p) + sumP f (r.map h) = _ + _
  rw [sumP_map f h r]
theorem sumP_ext {f h : Pl -> Int} : ∀ {l : List Pl}, (∀ p ∈ l, f p = h p) -> sumP f l = sumP h l
 | [], _ => rfl
 | p :: r, e => by
  show f p + sumP f r = h p + sumP h r
  rw [e p (mcs ..), sumP_ext fun q hq => e q (mcm _ hq)]
theorem sumP_mul (c : Int) (f : Pl -> Int) : ∀ l : List Pl, sumP (fun p => c * f p) l = c * sumP f l
 | [] => by simp [sumP]
 | p :: r => by
  show c * f p + sumP _ r = c * (f p + sumP f r)
  rw [sumP_mul c f r, Int.mul_add]
theorem pr_pos (ho : g.Ok C) : 0 < prN g.szs := prN_pos fun x hx => (szs_mem ho x hx).1
theorem sumP_bps (f : Pl -> Int) (h : Tr × Int -> Int) (M : Int) : ∀ (l : List (Tr × Int)) (i : Nat), (∀ j p, l[j]? = some p -> sumP f (bpP p (i + j)) = p.2 * (1 + p.1.2.size) * M) -> sumP f (bps l i) = (l.map fun p => p.2 * (1 + p.1.2.size)).sum * M
 | [], i, _ => by simp [bps, sumP]
 | p :: r, i, e => by
  show sumP f (bpP p i ++ bps r (i + 1)) = _
  have e0 : sumP f (bpP p i) = p.2 * (1 + p.1.2.size) * M := e 0 p rfl
  rw [sumP_append, e0, sumP_bps f h M r (i + 1) fun j q hq => by rw [show i + 1 + j = i + (j + 1) by omega]; exact e (j + 1) q hq, List.map_cons, List.sum_cons, Int.add_mul]
theorem ord_core : ∀ (n : Nat) {g : Gr}, g.deep <= n -> g.Ok C -> ∀ (v : Pl -> Int) (M : Int), (∀ pl ∈ g.bp 0, v pl * (prN (stk b 0 .nil pl g).1.szs : Int) = M * (prN g.szs : Int)) -> sumP (fun pl => trs pl g * v pl) (g.bp 0) = g.size * M
 | n, g, hd, ho, v, M, h => by
  rw [bp_ps, size_ps]
  refine sumP_bps _ (fun _ => 0) M g.ps 0 fun i p e => ?_
  have pm := List.mem_of_getElem? e
  obtain ⟨pn, po, p1, _⟩ := ok_mem ho pm
  have pd := g.mem_deep p pm
  rw [Nat.zero_add]
  have hin : ∀ pl ∈ bpP p i, pl ∈ g.bp 0 := fun pl hpl => by
   rw [bp_ps]
   have : bps g.ps 0 = bps (g.ps.take i) 0 ++ bpP p i ++ bps (g.ps.drop (i + 1)) (i + 1) := by
    conv => lhs; rw [<- List.take_append_drop (i + 1) g.ps]
    rw [bps_append, bps_take e, List.length_take, Nat.min_eq_left (by have := (List.getElem?_eq_some_iff.mp e).1; omega), Nat.zero_add]
   rw [this]
   exact mal _ (mar _ hpl)
  by_cases hn : p.1.2 = .nil
  ·have eb : bpP p i = [[i]] := by unfold bpP; rw [if_pos hn]
   have hm := hin [i] (by rw [eb]; simp)
   obtain ⟨k, hk⟩ := bp_bare _ (Nat.le_refl _) hm
   have e1 := h [i] hm
   have e2 := pr_last (b := b) ho e hk
   have ew : wT p.1 = 1 := by
    unfold wT; rw [hn]; rfl
   rw [ew, Nat.mul_one] at e2
   have hP := pr_pos ho
   rw [e2] at e1
   have ev : v [i] = M := Int.eq_of_mul_eq_mul_right (by omega) e1
   rw [eb]
   show trs [i] g * v [i] + 0 = _
   rw [trs_at e, ev, hn]
   show p.2 * 1 * M + 0 = p.2 * (1 + 0) * M
   rw [Int.add_zero, Int.add_zero]
  ·have eb : bpP p i = (p.1.2.bp 0).map (i :: ·) := by unfold bpP; rw [if_neg hn]
   have hz := size_pos1 po hn
   cases n with
   | zero => omega
   | succ n =>
   have ih := ord_core n (g := p.1.2) (by omega) po (fun r => v (i :: r) * p.1.2.size) (M * (1 + p.1.2.size)) fun r hr => by
    have hm := hin (i :: r) (by rw [eb]; exact List.mem_map.mpr ⟨r, hr, rfl⟩)
    obtain ⟨k2, hk2⟩ := bp_bare _ (Nat.le_refl _) hr
    have hrn : r ≠ [] := bare_ne hk2
    obtain ⟨k, hk⟩ := bp_bare _ (Nat.le_refl _) hm
    have e1 := h (i :: r) hm
    have e2 := pr_more (b := b) ho e hrn hk
    have e3 := size_stk0 (b := b) po hk2
    have e4 : wT (p.1.1, (stk b 0 .nil r p.1.2).1) = p.1.2.size.toNat * prN (stk b 0 .nil r p.1.2).1.szs := by
     unfold wT
     show (1 + (stk b 0 .nil r p.1.2).1.size).toNat * _ = _
     rw [e3, show 1 + (p.1.2.size - 1) = p.1.2.size by omega]
    have e5 : wT p.1 = (1 + p.1.2.size).toNat * prN p.1.2.szs := rfl
    rw [e4, e5] at e2
    have e6 : (prN (stk b 0 .nil (i :: r) g).1.szs : Int) * ((1 + p.1.2.size) * (prN p.1.2.szs : Int)) = (prN g.szs : Int) * (p.1.2.size * (prN (stk b 0 .nil r p.1.2).1.szs : Int)) := by
     have := congrArg (fun z : Nat => (z : Int)) e2
     simp only [Int.natCast_mul] at this
     rw [Int.toNat_of_nonneg (by omega), Int.toNat_of_nonneg (by omega)] at this
     exact this
    have hP := pr_pos ho
    generalize (prN (stk b 0 .nil (i :: r) g).1.szs : Int) = X at e1 e6
    generalize (prN (stk b 0 .nil r p.1.2).1.szs : Int) = Y at e6 ⊢
    generalize (prN p.1.2.szs : Int) = Z at e6 ⊢
    have hP2 : (prN g.szs : Int) ≠ 0 := by omega
    generalize (prN g.szs : Int) = W at e1 e6 hP2
    generalize v (i :: r) = vv at e1 ⊢
    refine Int.eq_of_mul_eq_mul_left hP2 ?_
    show W * (vv * p.1.2.size * Y) = W * (M * (1 + p.1.2.size) * Z)
    have a1 : W * (vv * p.1.2.size * Y) = vv * (W * (p.1.2.size * Y)) := by ac_rfl
    have a2 : W * (M * (1 + p.1.2.size) * Z) = (M * W) * ((1 + p.1.2.size) * Z) := by ac_rfl
    rw [a1, <- e6, a2, <- e1]
    ac_rfl
   rw [eb, sumP_map]
   have e7 : sumP (fun r => trs (i :: r) g * v (i :: r)) (p.1.2.bp 0) = p.2 * sumP (fun r => trs r p.1.2 * v (i :: r)) (p.1.2.bp 0) := by
    rw [<- sumP_mul]
    exact sumP_ext fun r _ => by rw [trs_at e, Int.mul_assoc]
   have e8 : sumP (fun r => trs r p.1.2 * (v (i :: r) * p.1.2.size)) (p.1.2.bp 0) = p.1.2.size * sumP (fun r => trs r p.1.2 * v (i :: r)) (p.1.2.bp 0) := by
    rw [<- sumP_mul]
    exact sumP_ext fun r _ => by ac_rfl
   rw [e8] at ih
   have ih := Int.eq_of_mul_eq_mul_left (by omega) ih
   rw [e7, ih]
   ac_rfl
def ordN (g : Gr) : Nat := fac g.size.toNat / prN g.szs
theorem ordN_mul (ho : g.Ok C) : ordN g * prN g.szs = fac g.size.toNat := Nat.div_mul_cancel (szs_dvd ho)
theorem ord_sum (ho : g.Ok C) (hn : g ≠ .nil) : sumP (fun pl => trs pl g * (ordN (stk b 0 .nil pl g).1 : Int)) (g.bp 0) = (ordN g : Int) := by
 have hz := size_pos1 ho hn
 have hP := pr_pos ho
 have := ord_core (b := b) _ (Nat.le_refl _) ho (fun pl => (ordN (stk b 0 .nil pl g).1 : Int) * (prN g.szs : Int)) (fac (g.size.toNat - 1) : Int) fun pl hpl => by
  obtain ⟨k, hk⟩ := bp_bare _ (Nat.le_refl _) hpl
  have o2 := stk_ok (b := b) (fr := .nil) (F := 1) (Int.le_refl 0) (by decide) trivial ho hk
  have e1 := congrArg (fun z : Nat => (z : Int)) (ordN_mul o2)
  simp only [Int.natCast_mul] at e1
  rw [size_stk0 ho hk, show (g.size - 1).toNat = g.size.toNat - 1 by omega] at e1
  rw [<- e1]
  ac_rfl
 have e2 : sumP (fun pl => trs pl g * ((ordN (stk b 0 .nil pl g).1 : Int) * (prN g.szs : Int))) (g.bp 0) = (prN g.szs : Int) * sumP (fun pl => trs pl g * (ordN (stk b 0 .nil pl g).1 : Int)) (g.bp 0) := by
  rw [<- sumP_mul]
  exact sumP_ext fun r _ => by ac_rfl
 rw [e2] at this
 refine Int.eq_of_mul_eq_mul_left (a := (prN g.szs : Int)) (by omega) ?_
 rw [this]
 have e3 := congrArg (fun z : Nat => (z : Int)) (ordN_mul ho)
 simp only [Int.natCast_mul] at e3
 rw [Int.mul_comm, Int.mul_comm (prN g.szs : Int), e3]
 obtain ⟨m, em⟩ : ∃ m, g.size.toNat = m + 1 := ⟨g.size.toNat - 1, by omega⟩
 rw [em, Nat.add_sub_cancel]
 show _ = (((m + 1) * fac m : Nat) : Int)
 rw [Int.natCast_mul, Int.mul_comm, show g.size = ((m + 1 : Nat) : Int) by omega]
end Gr
theorem Gr.bp_some {C : Int} {g : Gr} (ho : g.Ok C) (hn : g ≠ .nil) : 1 <= (g.bp 0).length := by
 have h1 := Gr.ord_sum (b := []) ho hn
 have h2 := Gr.ordN_mul ho
 have h3 := fac_pos g.size.toNat
 cases e : g.bp 0 with
 | cons p r => simp
 | nil =>
  rw [e] at h1
  have h1 : (0 : Int) = (g.ordN : Int) := h1
  have h4 : g.ordN = 0 := by omega
  rw [h4, Nat.zero_mul] at h2
  omega
def misN (b : Bk) (fs : List Str) : Nat := (b.names.filter fun x => decide (x ∉ fs)).length
theorem misN_le (b : Bk) (fs : List Str) : misN b fs <= b.length := by
 have := List.length_filter_le (fun x => decide (x ∉ fs)) b.names
 rw [List.length_map] at this
 exact this
theorem misN_add {b : Bk} {fs more : List Str} (h : ∀ x ∈ more, x ∈ b.names /\ x ∉ fs) (hl : more.length <= 4) : more.length + 5 * misN b (fs ++ more) <= 5 * misN b fs := by
 cases more with
 | nil => simp
 | cons x r =>
  obtain ⟨hx, hn⟩ := h x (mcs ..)
  have : misN b (fs ++ x :: r) < misN b fs := by
   refine filter_lt (fun y _ hy => ?_) ⟨x, hx, decide_eq_true hn, ?_⟩
   ·have hy := of_decide_eq_true hy
    exact decide_eq_true fun z => hy (mal _ z)
   ·exact decide_eq_false fun z => z (mar _ (mcs ..))
  omega
theorem first_idx {α : Type} [DecidableEq α] {x : α} : ∀ {l : List α}, x ∈ l -> ∃ j : Nat, l[j]? = some x /\ ∀ (i : Nat), i < j -> l[i]? ≠ some x
 | [], h => nomatch h
 | a :: l, h => by
  by_cases e : a = x
  ·exact ⟨0, by rw [e]; rfl, fun i hi => by omega⟩
  ·have hx : x ∈ l := by
    rcases List.mem_cons.mp h with z | z
    ·exact absurd z.symm e
    ·exact z
   obtain ⟨j, h1, h2⟩ := first_idx hx
   refine ⟨j + 1, by simpa using h1, fun i hi => ?_⟩
   cases i with
   | zero => simpa using e
   | succ i => simpa using h2 i (by omega)
def CAP : Int := 1000000000000000000000000000000000000000000000000000000000000000000000000000000000000000000000000000000000000000000000000000000000000000000000000000000000000000000000000000000000000000000000000000000000000000000000000000000000000000000000000000000000000000000000000000000000000000000000000000000000000
theorem CAP_pos : 1 < CAP := by unfold CAP; decide
def capI (x : Int) : Int := if x <= CAP then x else CAP
theorem capI_le (x : Int) : capI x <= CAP := by unfold capI; split <;> omega
theorem capI_self {x : Int} (h : x <= CAP) : capI x = x := if_pos h
theorem capI_great {x : Int} (h : CAP <= x) : capI x = CAP := by unfold capI; split <;> omega
theorem capI_nn {x : Int} (h : 0 <= x) : 0 <= capI x := by
 have := CAP_pos
 unfold capI; split <;> omega
theorem capI_pos {x : Int} (h : 1 <= x) : 1 <= capI x := by
 have := CAP_pos
 unfold capI; split <;> omega
def spF (b m : Int) : Int := 1 + (1 + b) * m
def itF (b : Int) : Nat -> Int -> Int
 | 0, m => m
 | k + 1, m => itF b k (spF b m)
theorem spF_ge {b m : Int} (hb : 0 <= b) (hm : 0 <= m) : m + 1 <= spF b m := by
 unfold spF
 have h : 0 <= b * m := Int.mul_nonneg hb hm
 rw [Int.add_mul, Int.one_mul]
 omega
theorem itF_ge {b : Int} (hb : 0 <= b) : ∀ (k : Nat) {m : Int}, 0 <= m -> m <= itF b k m
 | 0, m, _ => Int.le_refl _
 | k + 1, m, hm => by
  have h1 := spF_ge hb hm
  have h2 := itF_ge hb k (m := spF b m) (by omega)
  show m <= itF b k (spF b m)
  omega
def spcI (own inner b : Int) : Int := if b = 0 then capI (own + inner) else capI (itF b inner.toNat own)
def cofI (w : Bool) (o i b : Int) : Int := if w = true then spcI o i b else capI (o + i)
theorem cofI_nn {w : Bool} {o i b : Int} (ho : 0 <= o) (hi : 0 <= i) (hb : 0 <= b) : 0 <= cofI w o i b /\ cofI w o i b <= CAP := by
 unfold cofI spcI
 split
 ·split
  ·exact ⟨capI_nn (by omega), capI_le _⟩
  ·exact ⟨capI_nn (by have := itF_ge hb i.toNat ho; omega), capI_le _⟩
 ·exact ⟨capI_nn (by omega), capI_le _⟩
namespace Gr
def cu (b : Bk) (κ : Str -> Int) (d : Int) : Gr -> Int
 | .nil => 0
 | .cons k g m r => m * cofI (b.wide k) (κ k) (capI (cu b κ d g)) d + cu b κ d r
def cin (b : Bk) (κ : Str -> Int) (d : Int) (g : Gr) : Int := capI (cu b κ d g)
def cot (b : Bk) (κ : Str -> Int) (d : Int) (t : Tr) : Int := cofI (b.wide t.1) (κ t.1) (cin b κ d t.2) d
variable {b : Bk} {κ : Str -> Int} {d : Int}
theorem cu_ps : ∀ g : Gr, cu b κ d g = (g.ps.map fun p => p.2 * cot b κ d p.1).sum
 | .nil => rfl
 | .cons k g m r => by
  show m * cofI (b.wide k) (κ k) (capI (cu b κ d g)) d + cu b κ d r = (((k, g), m) :: r.ps |>.map fun p : Tr × Int => p.2 * cot b κ d p.1).sum
  rw [List.map_cons, List.sum_cons, <- cu_ps r]
  rfl
theorem cu_nn (hk : ∀ n, 0 <= κ n) (hd : 0 <= d) {C : Int} : ∀ {g : Gr}, g.Ok C -> 0 <= cu b κ d g
 | .nil, _ => Int.le_refl _
 | .cons k g m r, h => by
  obtain ⟨_, hg, hm1, _, hr, _⟩ := h
  have h1 := cu_nn hk hd hg
  have h2 := cu_nn hk hd hr
  have h3 := (cofI_nn (w := b.wide k) (hk k) (capI_nn h1) hd).1
  have h4 := Int.mul_nonneg (show 0 <= m by omega) h3
  show 0 <= m * cofI (b.wide k) (κ k) (capI (cu b κ d g)) d + cu b κ d r
  omega
theorem cin_nn (hk : ∀ n, 0 <= κ n) (hd : 0 <= d) {C : Int} {g : Gr} (h : g.Ok C) : 0 <= cin b κ d g /\ cin b κ d g <= CAP := ⟨capI_nn (cu_nn hk hd h), capI_le _⟩
theorem cu_congr {κ' : Str -> Int} : ∀ {g : Gr}, (∀ x ∈ g.within, κ x.1.1 = κ' x.1.1) -> cu b κ d g = cu b κ' d g
 | .nil, _ => rfl
 | .cons k g m r, h => by
  show m * cofI (b.wide k) (κ k) (capI (cu b κ d g)) d + cu b κ d r = m * cofI (b.wide k) (κ' k) (capI (cu b κ' d g)) d + cu b κ' d r
  rw [h ((k, g), m) (mcs ..), cu_congr fun x hx => h x (mcm _ (mal _ hx)), cu_congr fun x hx => h x (mcm _ (mar _ hx))]
end Gr
def CntD (H : Hp) (d : Addr) (κ : Str -> Int) (ns : List Str) : Prop := H d = some (.dK (ns.map fun n => ((Sum.inr n : Key), V.int (κ n))))
theorem cnt_val {κ : Str -> Int} {n : Str} : ∀ {ns : List Str}, n ∈ ns -> valV (ns.map fun n => ((Sum.inr n : Key), V.int (κ n))) (Sum.inr n) = some (.int (κ n))
 | [], h => nomatch h
 | a :: r, h => by
  by_cases e : a = n
  ·subst e
   simp [valV]
  ·have hn : n ∈ r := by
    rcases List.mem_cons.mp h with z | z
    ·exact absurd z.symm e
    ·exact z
   have ih := cnt_val (κ := κ) hn
   unfold valV at ih ⊢
   rw [List.map_cons, List.find?_cons]
   have : decide ((Sum.inr a : Key) = Sum.inr n) = false := decide_eq_false fun z => e (Sum.inr.inj z)
   simp only [this]
   exact ih
theorem CntD.val {H : Hp} {d : Addr} {κ : Str -> Int} {ns : List Str} {n : Str} (h : CntD H d κ ns) (hn : n ∈ ns) : DGet H d (.str n) (some (.int (κ n))) := getK h (cnt_val hn)
theorem CntD.sb {H H' : Hp} {d : Addr} {κ : Str -> Int} {ns : List Str} {ps : List Addr} (h : CntD H d κ ns) (s : SB ps H H') (hd : d ∉ ps) : CntD H' d κ ns := s.keep _ _ h hd
theorem CntD.sb0 {H H' : Hp} {d : Addr} {κ : Str -> Int} {ns : List Str} (h : CntD H d κ ns) (s : SB [] H H') : CntD H' d κ ns := h.sb s nmn
theorem CntD.put {H : Hp} {d : Addr} {κ : Str -> Int} {ns : List Str} {n : Str} (h : CntD H d κ ns) (hn : n ∉ ns) (hl : ns.length <= 1000) : ∃ H', DPut H d (.str n) (.int (κ n)) H' /\ SB [d] H H' /\ CntD H' d κ (ns ++ [n]) := by
 have szl := sizeLine_eq
 have t := SB.setD (ps := [d]) h (by simp) (.dK (putK (ns.map fun n => ((Sum.inr n : Key), V.int (κ n))) (Sum.inr n) (.int (κ n))))
 have e : putK (ns.map fun n => ((Sum.inr n : Key), V.int (κ n))) (Sum.inr n) (.int (κ n)) = (ns ++ [n]).map fun n => ((Sum.inr n : Key), V.int (κ n)) := by
  rw [putK_new fun p hp z => ?_, List.map_append]
  ·rfl
  ·obtain ⟨m, hm, rfl⟩ := List.mem_map.mp hp
   exact hn (by rw [<- Sum.inr.inj z]; exact hm)
 refine ⟨_, DPut.k (k := Sum.inr n) h (by rw [List.length_map]; omega), t, ?_⟩
 unfold CntD
 rw [upd_same, e]
def lmx (l : List Int) : Int := l.foldr max 0
theorem lmx_ge : ∀ {l : List Int} {x : Int}, x ∈ l -> x <= lmx l
 | a :: r, x, h => by
  show x <= max a (lmx r)
  rcases List.mem_cons.mp h with e | h
  ·omega
  ·have := lmx_ge h; omega
theorem lmx_nn : ∀ l : List Int, 0 <= lmx l
 | [] => Int.le_refl _
 | a :: r => by have := lmx_nn r; show 0 <= max a (lmx r); omega
theorem lmx_in : ∀ l : List Int, lmx l = 0 \/ lmx l ∈ l
 | [] => .inl rfl
 | a :: r => by
  show max a (lmx r) = 0 \/ max a (lmx r) ∈ a :: r
  by_cases h : lmx r <= a
  ·right; rw [show max a (lmx r) = a by omega]; exact mcs ..
  ·rw [show max a (lmx r) = lmx r by omega]
   rcases lmx_in r with e | e
   ·exact .inl e
   ·exact .inr (mcm _ e)
theorem lmx_of {l : List Int} {m : Int} (h : m ∈ l) (g : ∀ y ∈ l, y <= m) (z : 0 ∈ l) : m = lmx l := by
 have h1 := lmx_ge h
 have h0 := g 0 z
 rcases lmx_in l with e | e
 ·omega
 ·have := g _ e; omega
def laidI (b : Bk) (d : Int) (κ : Str -> Int) (r : Ru) : Int := Gr.cin b κ d r.1 + d * Gr.cin b κ d r.2
theorem laidI_no (b : Bk) (d : Int) (κ : Str -> Int) : laidI b d κ (.nil, .nil) = 0 := by
 have e : Gr.cin b κ d .nil = 0 := capI_self (by have := CAP_pos; show (0 : Int) <= CAP; omega)
 unfold laidI
 rw [e, Int.mul_zero]; rfl
theorem laidI_congr {b : Bk} {d : Int} {κ κ' : Str -> Int} {r : Ru} (h : ∀ x ∈ Ru.within r, κ x.1.1 = κ' x.1.1) : laidI b d κ r = laidI b d κ' r := by
 unfold laidI Gr.cin
 rw [Gr.cu_congr fun x hx => h x (mal _ hx), Gr.cu_congr fun x hx => h x (mar _ hx)]
open Classical in
noncomputable def cntF (b : Bk) (d : Int) (n : Str) (rec : ∀ k, leadsTo b k n -> Int) : Int := capI (1 + lmx ((b.rules n).map (laidI b d fun k => if h : leadsTo b k n then rec k h else 0)))
noncomputable def cntOf (b : Bk) (d : Int) : Str -> Int := (leads_wf b).fix (cntF b d)
open Classical in
theorem cntOf_pos (b : Bk) (d : Int) (n : Str) : 1 <= cntOf b d n /\ cntOf b d n <= CAP := by
 unfold cntOf
 rw [WellFounded.fix_eq]
 unfold cntF
 exact ⟨capI_pos (Int.le_add_of_nonneg_right (lmx_nn _)), capI_le _⟩
open Classical in
theorem cntOf_eq {b : Bk} {d : Int} (ok : b.Ok) {k : Kd} (hk : k ∈ b) (he : EndK b k.n) : cntOf b d k.n = capI (1 + lmx (k.rs.map (laidI b d (cntOf b d)))) := by
 unfold cntOf
 rw [WellFounded.fix_eq]
 unfold cntF
 have er : b.rules k.n = k.rs := by unfold Bk.rules; rw [Bk.get_self ok.nd hk]
 rw [er]
 congr 3
 refine List.map_congr_left fun r hr => laidI_congr fun x hx => ?_
 have hl : leadsTo b x.1.1 k.n := ⟨by rw [adj_self ok hk]; exact ledR_within hr hx, he⟩
 rw [dif_pos hl]
def Dok (D : Int) : Prop := 0 <= D /\ D < 2 ^ 1000
theorem cmulw {x y : Int} (hx : x.natAbs < 2 ^ 2000) (hy : y.natAbs < 2 ^ 2000) : CMulW x y := by
 unfold CMulW
 have f : ∀ z : Int, z.natAbs < 2 ^ 2000 -> z.natAbs.log2 < 2000 := fun z hz => by
  by_cases h : z.natAbs = 0
  ·rw [h]; decide
  ·exact (Nat.log2_lt h).mpr hz
 have h1 := f x hx
 have h2 := f y hy
 omega
theorem CAP_bits {x : Int} (h0 : 0 <= x) (h : x <= CAP) : x.natAbs < 2 ^ 2000 := by
 have h1 : CAP < 2 ^ 2000 := by unfold CAP; decide +kernel
 have h2 : ((2 ^ 2000 : Nat) : Int) = 2 ^ 2000 := by rw [Int.natCast_pow]; rfl
 omega
theorem Dok.bits {D : Int} (h : Dok D) : D.natAbs < 2 ^ 2000 := by
 obtain ⟨h0, h1⟩ := h
 have h3 : (2 : Int) ^ 1000 < 2 ^ 2000 := by decide +kernel
 have h2 : ((2 ^ 2000 : Nat) : Int) = 2 ^ 2000 := by rw [Int.natCast_pow]; rfl
 omega
theorem Dok.bits1 {D : Int} (h : Dok D) : (1 + D).natAbs < 2 ^ 2000 := by
 obtain ⟨h0, h1⟩ := h
 have h3 : (2 : Int) ^ 1000 + 1 < 2 ^ 2000 := by decide +kernel
 have h2 : ((2 ^ 2000 : Nat) : Int) = 2 ^ 2000 := by rw [Int.natCast_pow]; rfl
 omega
def spCap : Sp := fun vs H Q _ => ∃ x : Int, vs = [.int x] /\ ∀ H', SB [] H H' -> Q (.int (capI x)) H'
def spChkLong (N : Addr) : Sp := fun vs H Q E => ∃ x : Int, vs = [.int x] /\ (x < CAP -> ∀ H', SB [] H H' -> Q .non H') /\ (CAP <= x -> ∀ H', SB [] H H' -> E (.ref N) none H')
def spSpc : Sp := fun vs H Q _ => ∃ o i b : Int, vs = [.int o, .int i, .int b] /\ 0 <= o /\ 0 <= i /\ Dok b /\ ∀ H', SB [] H H' -> Q (.int (spcI o i b)) H'
def spCntIn (K : PySem.W.Frag) (C : Addr) (n : Nat) : Sp := fun vs H Q _ => ∃ (v w : V) (d : Addr) (b : Bk) (κ : Str -> Int) (ns : List Str) (g : Gr) (D B : Int), vs = [v, .ref d, w, .int D] /\ BkA K C H v b /\ b.length <= 1000 /\ CntD H d κ ns /\ GA K H w g /\ g.Ok B /\ B <= 2 ^ 1000 /\ g.deep < n /\ g.parts <= 100000 /\ (∀ x ∈ g.within, x.1.1 ∈ ns /\ x.1.1 ∈ b.names) /\ (∀ n, 0 <= κ n) /\ Dok D /\ ∀ H', SB [] H H' -> Q (.int (Gr.cin b κ D g)) H'
def spCntOf (K : PySem.W.Frag) (C : Addr) (n : Nat) : Sp := fun vs H Q _ => ∃ (v t : V) (d : Addr) (b : Bk) (κ : Str -> Int) (ns : List Str) (k : Str) (g : Gr) (D B : Int), vs = [v, .ref d, t, .int D] /\ BkA K C H v b /\ b.length <= 1000 /\ CntD H d κ ns /\ Dp K H t (Gr.tEnc (k, g)) /\ g.Ok B /\ B <= 2 ^ 1000 /\ g.deep < n /\ g.parts <= 100000 /\ (k ∈ ns /\ k ∈ b.names) /\ (∀ x ∈ g.within, x.1.1 ∈ ns /\ x.1.1 ∈ b.names) /\ (∀ n, 0 <= κ n) /\ Dok D /\ ∀ H', SB [] H H' -> Q (.int (Gr.cot b κ D (k, g))) H'
def spLaidC (K : PySem.W.Frag) (C : Addr) : Sp := fun vs H Q _ => ∃ (v u : V) (d : Addr) (b : Bk) (κ : Str -> Int) (ns : List Str) (r : Ru) (D B : Int), vs = [v, .ref d, u, .int D] /\ BkA K C H v b /\ b.length <= 1000 /\ CntD H d κ ns /\ Dp K H u (Ru.enc r) /\ (r.1.Ok B /\ r.2.Ok B) /\ B <= 2 ^ 1000 /\ r.1.parts + r.2.parts <= 4 /\ (∀ x ∈ Ru.within r, x.1.1 ∈ ns /\ x.1.1 ∈ b.names) /\ (∀ n, 0 <= κ n) /\ Dok D /\ ∀ H', SB [] H H' -> Q (.int (laidI b D κ r)) H'
def spLaidBy (K : PySem.W.Frag) (C : Addr) : Sp := fun vs H Q _ => ∃ (v : V) (d : Addr) (b : Bk) (κ : Str -> Int) (ns : List Str) (k : Kd) (D : Int), vs = [v, .ref d, .str k.n, .int D] /\ BkA K C H v b /\ b.Ok /\ k ∈ b /\ CntD H d κ ns /\ (∀ n ∈ adj b k.n, n ∈ ns) /\ (∀ n, 0 <= κ n) /\ Dok D /\ ∀ (l : Addr) (H' : Hp), SB [] H H' -> H l = none -> H' l = some (.lst (((noR :: k.rs).map (laidI b D κ)).map V.int)) -> Q (.ref l) H'
def spMostK (K : PySem.W.Frag) (C : Addr) : Sp := fun vs H Q _ => ∃ (v : V) (b : Bk) (D : Int), vs = [v, .int D] /\ BkA K C H v b /\ b.Ok /\ Dok D /\ ∀ (d : Addr) (es : List Str) (H' : Hp), SB [] H H' -> H d = none -> CntD H' d (cntOf b D) es -> EndO b es -> Q (.ref d) H'
theorem itF_stop {b : Int} (hb : 0 <= b) {k : Nat} {m : Int} (hm : 0 <= m) (h : CAP <= m) : capI (itF b k m) = CAP := capI_great (Int.le_trans h (itF_ge hb k hm))
theorem none_cin {P : Program} {w : World} {K : PySem.W.Frag} {mg : Str -> Option Value} {base : Heap} {f : Addr} {fd : FuncData} {C : Addr} {ps : List Str} {k : Nat} : FnOk P w K mg base CX0 k f fd ps (spCntIn K C 0) := none_sp fun vs H Q E ⟨_, _, _, _, _, _, _, _, _, _, _, _, _, _, _, _, h, _⟩ => by omega
theorem tidy_all {Pd : Str -> Prop} {bs : List (Tr × Int)} (h : ∀ p ∈ bs, Pd p.1.1 /\ ∀ x ∈ p.1.2.within, Pd x.1.1) : ∀ x ∈ (Gr.tidy bs).within, Pd x.1.1 := fun x hx => by
 rw [Gr.within_ps] at hx
 obtain ⟨p, hp, hx⟩ := List.mem_flatMap.mp hx
 unfold Gr.tidy at hp
 rw [Gr.ps_ofPs] at hp
 obtain ⟨q, hq, e⟩ := tdy_keys _ p hp
 obtain ⟨h1, h2⟩ := h q hq
 rcases List.mem_cons.mp hx with rfl | hx
 ·rw [<- e]; exact h1
 ·rw [<- e] at hx; exact h2 x hx
def Later (ks : List Str) (b : Bk) : Prop := ∀ k ∈ b, ∀ j, ks[j]? = some k.n -> ∀ r ∈ k.rs, ∀ x ∈ Ru.within r, x.1.1 ∈ ks.drop (j + 1)
theorem itF_add {b : Int} (hb : 0 <= b) : ∀ (k : Nat) {m : Int}, 0 <= m -> m + k <= itF b k m
 | 0, m, _ => by show m + ((0 : Nat) : Int) <= m; omega
 | k + 1, m, hm => by
  have h1 := spF_ge hb hm
  have h2 := itF_add hb k (m := spF b m) (by omega)
  show m + ((k + 1 : Nat) : Int) <= itF b k (spF b m)
  omega
theorem capI_lt {x : Int} (h : capI x < CAP) : x < CAP := Int.not_le.mp fun z => by rw [capI_great z] at h; exact absurd h (Int.lt_irrefl _)
theorem capI_lt' {x : Int} (h : capI x < CAP) : capI x = x := capI_self (Int.le_of_lt (capI_lt h))
theorem cofI_cap {w : Bool} {o i d : Int} (ho : 0 <= o) (hi : 0 <= i) (hd : 0 <= d) (h : cofI w o (capI i) d < CAP) : i < CAP /\ o < CAP := by
 have h0 := capI_nn hi
 have main : ∀ x, capI x < CAP -> o + capI i <= x -> i < CAP /\ o < CAP := fun x hx hle => by
  have h1 := capI_lt hx
  exact ⟨capI_lt (show capI i < CAP by omega), by omega⟩
 unfold cofI spcI at h
 split at h
 ·split at h
  ·exact main _ h (Int.le_refl _)
  ·refine main _ h ?_
   have := itF_add hd (capI i).toNat ho
   omega
 ·exact main _ h (Int.le_refl _)
namespace Gr
variable {b : Bk} {κ : Str -> Int} {d C : Int} {g h : Gr}
theorem cu_w : ∀ g : Gr, cu b κ d g = wsum (fun t => cot b κ d t) g.ps
 | .nil => rfl
 | .cons k g m r => by
  show m * cofI (b.wide k) (κ k) (capI (cu b κ d g)) d + cu b κ d r = cot b κ d (k, g) * m + wsum _ r.ps
  rw [cu_w r, Int.mul_comm]
  rfl
theorem cu_wo (ho : g.Ok C) {t : Tr} {m : Int} (hm : 0 <= m) (hle : m <= sumE g.ps t) : cu b κ d (wo g t m) + m * cot b κ d t = cu b κ d g := by
 have e : cu b κ d (wo g t m) + m * cot b κ d t = wsum (fun t => cot b κ d t) ((wo g t m).ps ++ [(t, m)]) := by
  rw [wsum_append, <- cu_w]
  show _ = _ + (cot b κ d t * m + 0)
  rw [Int.mul_comm m]
  omega
 rw [e, cu_w g]
 refine wsum_ext _ _ _ _ (Nat.le_refl _) fun x => ?_
 rw [sumE_append, wo_ps, sumE_woL x (ok_ne ho) (fun p hp => by have := ((ok_iff.mp ho).1 p hp).2.2.1; omega) hm, sumE_cons]
 by_cases hx : x = t
 ·subst hx
  rw [if_pos rfl, if_pos rfl]
  show _ + (m + 0) = _
  split <;> omega
 ·rw [if_neg hx, if_neg (fun z => hx z.symm)]
  show _ + (0 + 0) = _
  omega
theorem cu_pick (hk : ∀ n, 0 <= κ n) (hd : 0 <= d) (ho : g.Ok C) {p : Tr × Int} (hp : p ∈ g.ps) : cu b κ d (wo g p.1 1) + cot b κ d p.1 = cu b κ d g /\ 0 <= cu b κ d (wo g p.1 1) := by
 have h1 := ((ok_iff.mp ho).1 p hp).2.2.1
 have h2 := sumE_mem (ok_ne ho) p hp
 have h3 := cu_wo (b := b) (κ := κ) (d := d) ho (t := p.1) (m := 1) (by omega) (by omega)
 exact ⟨by omega, cu_nn hk hd (wo_ok ho (by omega))⟩
end Gr
theorem cin_zero {b : Bk} {d C : Int} {g : Gr} (ho : g.Ok C) (hd : 0 <= d) : Gr.cin b (cntOf b d) d g = 0 ↔ g = .nil := by
 have hk : ∀ m, 0 <= cntOf b d m := fun m => by have := (cntOf_pos b d m).1; omega
 constructor
 ·intro h
  cases g with
  | nil => rfl
  | cons k g m r =>
   exfalso
   have h1 : Gr.cu b (cntOf b d) d (Gr.wo (.cons k g m r) (k, g) 1) + Gr.cot b (cntOf b d) d (k, g) = Gr.cu b (cntOf b d) d (.cons k g m r) /\ 0 <= Gr.cu b (cntOf b d) d (Gr.wo (.cons k g m r) (k, g) 1) := Gr.cu_pick (b := b) (κ := cntOf b d) (d := d) hk hd ho (p := ((k, g), m)) (mcs ..)
   have h2 : 1 <= Gr.cot b (cntOf b d) d (k, g) := by
    obtain ⟨_, og, _⟩ := ho
    have h3 := (cntOf_pos b d k).1
    have h4 := Gr.cin_nn (b := b) hk hd og
    show 1 <= cofI (b.wide k) (cntOf b d k) (Gr.cin b (cntOf b d) d g) d
    unfold cofI spcI
    split
    ·split
     ·exact capI_pos (by omega)
     ·exact capI_pos (by have := itF_ge hd (Gr.cin b (cntOf b d) d g).toNat (hk k); omega)
    ·exact capI_pos (by omega)
   have h5 : 1 <= Gr.cu b (cntOf b d) d (.cons k g m r) := by
    have := h1.1
    have := h1.2
    omega
   unfold Gr.cin at h
   have := capI_pos h5
   omega
 ·rintro rfl
  exact capI_self (by have := CAP_pos; show (0 : Int) <= CAP; omega)
namespace Gr
variable {b : Bk} {κ : Str -> Int} {d C : Int} {g h : Gr}
theorem cofI_ge {w : Bool} {o i d : Int} (ho : 0 <= o) (hi : 0 <= i) (hd : 0 <= d) (h : cofI w o i d < CAP) : o + i <= cofI w o i d := by
 unfold cofI spcI at h ⊢
 split at h
 ·rename_i hw
  rw [if_pos hw]
  split at h
  ·rename_i h0
   rw [if_pos h0, capI_lt' h]; exact Int.le_refl _
  ·rename_i h0
   rw [if_neg h0, capI_lt' h]
   have := itF_add hd i.toNat ho
   omega
 ·rename_i hw
  rw [if_neg hw, capI_lt' h]; exact Int.le_refl _
theorem parts_cu (hk : ∀ n, 1 <= κ n) (hd : 0 <= d) : ∀ {g : Gr} {C : Int}, g.Ok C -> cu b κ d g < CAP -> (g.parts : Int) <= cu b κ d g
 | .nil, _, _, _ => Int.le_refl _
 | .cons k g m r, C, ho, hc => by
  obtain ⟨_, og, m1, _, or_, _⟩ := ho
  have hk0 : ∀ n, 0 <= κ n := fun n => Int.le_trans (by decide) (hk n)
  have hr := cu_nn (b := b) hk0 hd or_
  have hg := cu_nn (b := b) hk0 hd og
  have x0 := (cofI_nn (w := b.wide k) (hk0 k) (capI_nn hg) hd).1
  have hc' : m * cofI (b.wide k) (κ k) (capI (cu b κ d g)) d + cu b κ d r < CAP := hc
  show ((1 + g.parts + r.parts : Nat) : Int) <= m * cofI (b.wide k) (κ k) (capI (cu b κ d g)) d + cu b κ d r
  generalize hx : cofI (b.wide k) (κ k) (capI (cu b κ d g)) d = x at x0 hc' ⊢
  have hm : x <= m * x := by
   have := Int.mul_le_mul_of_nonneg_right m1 x0
   omega
  have hcc := cofI_cap (w := b.wide k) (i := cu b κ d g) (hk0 k) hg hd (by rw [hx]; omega)
  have h1 := parts_cu hk hd og hcc.1
  have h2 := parts_cu hk hd or_ (show cu b κ d r < CAP by omega)
  have h3 := cofI_ge (w := b.wide k) (hk0 k) (capI_nn hg) hd (by rw [hx]; omega)
  rw [hx, capI_self (by omega)] at h3
  have := hk k
  omega
theorem parts_cin (hk : ∀ n, 1 <= κ n) (hd : 0 <= d) (ho : g.Ok C) (hc : cin b κ d g < CAP) : (g.parts : Int) <= cin b κ d g := by
 have h1 : cu b κ d g < CAP := capI_lt hc
 have h2 : cin b κ d g = cu b κ d g := capI_lt' hc
 rw [h2]; exact parts_cu hk hd ho h1
abbrev fw (b : Bk) (d : Int) (g : Gr) : Int := cin b (fun _ => 1) d g
theorem fw_zero (ho : g.Ok C) (hd : 0 <= d) : fw b d g = 0 ↔ g = .nil := by
 constructor
 ·intro h
  have hc : fw b d g < CAP := by have := CAP_pos; omega
  have := parts_cin (b := b) (κ := fun _ => 1) (fun _ => Int.le_refl 1) hd ho hc
  cases g with
  | nil => rfl
  | cons k g m r =>
   exfalso
   have h2 : (Gr.cons k g m r).parts = 1 + g.parts + r.parts := rfl
   have h3 : cin b (fun _ => 1) d (Gr.cons k g m r) = 0 := h
   omega
 ·intro h
  subst h
  show capI 0 = 0
  exact capI_self (by have := CAP_pos; omega)
end Gr
def spKindsM (K : PySem.W.Frag) : Sp := fun vs H Q _ => ∃ (a : Addr) (f0 : Nat) (nl : Addr) (ns : List Int) (ks : List Str) (c cc : Int) (rd : Bool), vs = [.ref a, .int (f0 : Int), .ref nl, .int c, .bl rd] /\ (SqL K H a (ns.map V.int) /\ ns.length <= 63 /\ f0 <= 900) /\ (H nl = some (.lst (ks.map V.str)) /\ 1 <= ks.length /\ ks.length <= 8 /\ ks.Nodup /\ ∀ k ∈ ks, NameOk k) /\ 1 <= c /\ 2 <= cc /\ c <= cc /\ cc <= 250000000 /\
 ∀ (L : Addr) (xs : List V) (b : Bk) (H' : Hp), SB [] H H' -> H L = none -> H' L = some (.lst xs) -> KdAll K H' [L] xs b -> b.Ok -> b.names = ks -> (∀ k ∈ b, ∀ r ∈ k.rs, (r.1.Ok (4 * cc + 1) /\ r.1.deep <= 3) /\ (r.2.Ok (4 * cc + 1) /\ r.2.deep <= 3)) -> (rd = false -> Later ks b) -> Q (.ref L) H'
variable {K : PySem.W.Frag} {H : Hp} {Q : VK} {σ : L2.St} {i j : Nat}
theorem KdA.pu {K : PySem.W.Frag} {H : Hp} {bad : List Addr} {v : V} {k : Kd} {p : Addr} (hp : ∃ x y : Int, H p = some (.lst [.int x, .int y])) (h : KdA K H bad v k) : KdA K H (p :: bad) v k := by
 obtain ⟨t, l, zs, e, hT, hl, hb, hn⟩ := h
 refine ⟨t, l, zs, e, hT, hl, hb, fun z => ?_⟩
 rcases List.mem_cons.mp z with z | z
 ·subst z
  obtain ⟨x, y, e2⟩ := hp
  rw [hl] at e2
  cases e2
  generalize k.rs = rs at hb
  cases hb with
  | cons h _ => cases h
 ·exact hn z
theorem KdAll.pu {K : PySem.W.Frag} {H : Hp} {bad : List Addr} {p : Addr} (hp : ∃ x y : Int, H p = some (.lst [.int x, .int y])) : ∀ {vs : List V} {b : Bk}, KdAll K H bad vs b -> KdAll K H (p :: bad) vs b
 | _, _, .nil => .nil
 | _, _, .cons h r => .cons (h.pu hp) (KdAll.pu hp r)
theorem PuG.at2 {H : Hp} {p : Addr} (h : PuG H p) : ∃ x y : Int, H p = some (.lst [.int x, .int y]) := by
 obtain ⟨x, y, e, _⟩ := h
 exact ⟨x, y, e⟩
theorem KdAll.sbP {K : PySem.W.Frag} {H H' : Hp} {bad : List Addr} {p : Addr} {vs : List V} {b : Bk} (h : KdAll K H bad vs b) (hp : PuG H p) (s : SB [p] H H') : KdAll K H' bad vs b :=
 ((KdAll.pu hp.at2 h).sb s (fun q hq => .inl (by rw [List.mem_singleton.mp hq]; exact mcs ..))).less (fun x hx => mcm _ hx)
theorem BkA.sbP {K : PySem.W.Frag} {C : Addr} {H H' : Hp} {v : V} {b : Bk} {p : Addr} (h : BkA K C H v b) (hp : PuG H p) (s : SB [p] H H') : BkA K C H' v b := h.sb s fun q hq => by
 rw [List.mem_singleton.mp hq]
 obtain ⟨_, _, e, _⟩ := hp
 exact .inr ⟨_, e⟩
inductive PairedL {α β : Type} (F : α -> β -> Prop) : List α -> List β -> Prop
 | nil : PairedL F [] []
 | cons {a : α} {b : β} {as : List α} {bs : List β} : F a b -> PairedL F as bs -> PairedL F (a :: as) (b :: bs)
namespace PairedL
variable {α β : Type} {F G : α -> β -> Prop}
theorem length : ∀ {as : List α} {bs : List β}, PairedL F as bs -> as.length = bs.length
 | _, _, .nil => rfl
 | _, _, .cons _ h => by rw [List.length_cons, List.length_cons, h.length]
theorem mono : ∀ {as : List α} {bs : List β}, PairedL F as bs -> (∀ a b, F a b -> G a b) -> PairedL G as bs
 | _, _, .nil, _ => .nil
 | _, _, .cons h r, g => .cons (g _ _ h) (r.mono g)
theorem append : ∀ {as as' : List α} {bs bs' : List β}, PairedL F as bs -> PairedL F as' bs' -> PairedL F (as ++ as') (bs ++ bs')
 | _, _, _, _, .nil, h => h
 | _, _, _, _, .cons h r, g => .cons h (r.append g)
end PairedL
def NoL (H : Hp) (ps : List Addr) : Prop := ∀ a ∈ ps, ∀ zs, H a ≠ some (.lst zs)
abbrev nKV (ns : List Str) (us : List V) : List (Key × V) := List.zipWith (fun (n : Str) (u : V) => ((Sum.inr n : Key), u)) ns us
theorem nKV_val {F : V -> Kd -> Prop} {n : Str} {kd : Kd} : ∀ {b : Bk} {us : List V}, PairedL F us b -> b.get n = some kd -> ∃ v, valV (nKV b.names us) (Sum.inr n) = some v /\ F v kd
 | [], _, _, h => nomatch h
 | k :: r, us, hp, h => by
  cases hp with
  | @cons u _ us' _ h1 h2 =>
  by_cases e : k.n = n
  ·have : kd = k := by
    unfold Bk.get at h
    rw [List.find?_cons_of_pos (by simpa using e)] at h
    exact (Option.some.inj h).symm
   rw [this]
   refine ⟨u, ?_, h1⟩
   show valV (((Sum.inr k.n : Key), u) :: _) (Sum.inr n) = some u
   rw [e]
   simp [valV]
  ·have h' : Bk.get r n = some kd := by
    unfold Bk.get at h
    rw [List.find?_cons_of_neg (by simpa using e)] at h
    exact h
   obtain ⟨v, h3, h4⟩ := nKV_val h2 h'
   refine ⟨v, ?_, h4⟩
   show valV (((Sum.inr k.n : Key), u) :: nKV (Bk.names r) us') (Sum.inr n) = some v
   unfold valV
   rw [List.find?_cons_of_neg (by simp only [decide_eq_true_eq]; exact fun z => e (Sum.inr.inj z))]
   exact h3
theorem nKV_put {ns : List Str} {us : List V} {n : Str} {x : V} (hl : us.length = ns.length) (hn : n ∉ ns) : putK (nKV ns us) (Sum.inr n) x = nKV (ns ++ [n]) (us ++ [x]) := by
 unfold nKV
 rw [putK_new fun p hp z => ?_, List.zipWith_append (by omega)]
 ·rfl
 ·induction ns generalizing us with
  | nil => cases hp
  | cons m r ih =>
   cases us with
   | nil => cases hp
   | cons u us =>
    rw [List.zipWith_cons_cons] at hp
    rcases List.mem_cons.mp hp with rfl | hp
    ·exact hn (List.mem_cons.mpr (.inl (Sum.inr.inj z).symm))
    ·exact ih (by simp at hl; omega) (fun h => hn (mcm _ h)) hp
structure LeastOut (P : Str -> Prop) (g : Gr) (n : Str) : Prop where
 mem : n ∈ g.within.map (·.1.1)
 out : P n
 low : ∀ m ∈ g.within.map (·.1.1), P m -> ¬ m.cps.toList < n.cps.toList
def spCheckKX (K : PySem.W.Frag) (C N : Addr) : Sp := fun vs H Q E => ∃ (v w : V) (b : Bk) (g : Gr) (ns : List Str), vs = [v, w] /\ BkA K C H v b /\ GA K H w g /\ b.length <= 60 /\ g.deep <= 68 /\ g.parts <= 3000 /\ Gr.Named ns g /\ ns.length <= 60 /\ (Gr.Named b.names g -> ∀ H', SB [] H H' -> Q .non H') /\
 ∀ n, LeastOut (fun m => m ∉ b.names) g n -> ∀ (d : Addr) (H' : Hp), SB [] H H' -> H d = none -> H' d = some (.xd [("kind", .str n)]) -> E (.ref N) (some d) H'
def spChkEX (K : PySem.W.Frag) (C N EE : Addr) : Sp := fun vs H Q E => ∃ (v w : V) (b : Bk) (g : Gr), vs = [v, w] /\ BkA K C H v b /\ b.Ok /\ GA K H w g /\ g.deep <= 68 /\ g.parts <= 3000 /\ Gr.Named b.names g /\ ((∀ x ∈ g.within, EndK b x.1.1) -> ∀ H', SB [] H H' -> Q .non H') /\
 ∀ n, LeastOut (fun m => ¬ EndK b m) g n -> ∀ (d : Addr) (H' : Hp), SB [] H H' -> H d = none -> H' d = some (.xd [("kind", .str n)]) -> E (.ref EE) (some d) H'
theorem sorted_drop {ss : List Str} (h : sortedS ss = true) : ∀ (i : Nat), sortedS (ss.drop i) = true
 | 0 => h
 | i + 1 => by
  have ih := sorted_drop h i
  cases e : ss.drop i with
  | nil => rw [List.drop_eq_nil_iff] at e; rw [List.drop_eq_nil_iff.mpr (by omega)]; rfl
  | cons x r =>
   rw [e] at ih
   have : ss.drop (i + 1) = r := by rw [<- List.drop_drop, e]; rfl
   rw [this]; exact sortedS_tail ih
theorem LeastOut.at {P : Str -> Prop} {g : Gr} {ss : List Str} (so : SrtOf ss (g.within.map (·.1.1))) {i : Nat} {n : Str} (en : ss[i]? = some n) (hp : P n) (hb : ∀ m ∈ ss.take i, ¬ P m) : LeastOut P g n := ⟨(so.mem n).mp (List.mem_of_getElem? en), hp, fun m hm hP => by
 have hm := (so.mem m).mpr hm
 rw [<- List.take_append_drop i ss] at hm
 rcases List.mem_append.mp hm with z | z
 ·exact absurd hP (hb m z)
 ·obtain ⟨hi, e⟩ := List.getElem?_eq_some_iff.mp en
  have hd := sorted_drop so.srt i
  rw [List.drop_eq_getElem_cons hi, e] at z hd
  rcases List.mem_cons.mp z with z | z
  ·rw [z]; exact List.lt_irrefl _
  ·exact rising_all hd m z⟩
end FT
namespace FTH
open PySem PySem.Spec PyProof.Rows HotX
open Sem (wp)
section
variable {prog : Program} {w : World} {A : Around} {E : Value -> Shared -> Prop} {s : Shared}
theorem stop_hot {α : Type} {x1 it : Addr} {f : Obj -> Obj} {Q : α -> Shared -> Prop} (hot : HotAt A x1 s.heap) (hne : x1 ≠ it)
  (k : ∀ h' a, Heap.ExtBut it s.heap h' -> (∃ o, h'.get? a = some o /\ o.cls = .type "StopIteration") -> E (.ref a) { s with heap := h' }) :
  wpAny (model prog w) A (newExc (.type "StopIteration") [] >>= fun e => (raiseNew e : Sem α)) Q E { s with heap := s.heap.update it f } := by
 obtain ⟨hh, o1, vs1, h1, d1, c1⟩ := hot
 have g1 : (s.heap.update it f).get? x1 = some o1 := (Heap.get?_update_other _ _ (Ne.symm hne)).trans h1
 refine wpAny_bind ?_
 simp only [newExc, newTuple]
 refine wpAny_bind (wpAny_newObj_type ?_ (by size_fits))
 refine wpAny_bind (m := firstArgMember _ _) (wpAny_of_eq (a := Value.none) (by first | rfl | (simp only [firstArgMember]; rfl)) ?_)
 refine wpAny_newObj_type ?_ (by size_fits)
 refine raiseNew_hot ⟨hh, o1, vs1, Heap.get?_push_of_some _ (Heap.get?_push_of_some _ g1), d1, c1⟩ (Nat.ne_of_lt (Heap.lt_size (Heap.get?_push_of_some _ g1))) (Heap.get?_push_size _ rfl) rfl (by first | (simp; done) | (simp; omega) | (simp only [Array.size_append]; simp; omega)) ?_
 refine k _ _ (fun b o hb e => ?_) ⟨_, Heap.get?_update_self _ (Heap.get?_push_size _ rfl) rfl, rfl⟩
 have e2 : (s.heap.update it f).get? b = some o := (Heap.get?_update_other _ _ (Ne.symm hb)).trans e
 rw [Heap.get?_update_other _ _ (Nat.ne_of_gt (Heap.lt_size (Heap.get?_push_of_some _ e2)))]
 exact Heap.get?_push_of_some _ (Heap.get?_push_of_some _ e2)
theorem hot_ne {x1 it : Addr} {o : Obj} {a b : Value} (hot : HotAt A x1 s.heap) (ho : s.heap.get? it = some o) (hd : o.data = .fields #[a, b]) : x1 ≠ it := by
 obtain ⟨_, o1, vs1, h1, d1, c1⟩ := hot
 intro z
 subst z
 rw [ho] at h1; cases h1
 rw [hd] at d1; cases d1
 cases c1
theorem next_list_end_hot {it l x1 : Addr} {i : Nat} {items : Array Value} {Q : Option Value -> Shared -> Prop} (hot : HotAt A x1 s.heap)
  (hit : s.heap.IsListIter it l i) (hl : s.heap.IsList l items) (hx : items[i]? = none)
  (hQ : ∀ h', Heap.ExtBut it s.heap h' -> Q none { s with heap := h' }) : wpAny (model prog w) A (pyNext (.ref it)) Q E s := by
 obtain ⟨o, ho, hc, hd⟩ := id hit
 obtain ⟨ol, hol, _, nl, hdl⟩ := hl
 have hne := hot_ne hot ho hd
 unfold pyNext
 refine wpAny_bind (wpAny_attempt (wpAny_callSpecial?_slot (name := Str.ofString "__next__") hit.typeIs slot_listiter_next
  (wpAny_call_entry slot_listiter_next hit.typeIs entry_listiter_next ?_ (args_listiter_next _))))
 show wpAny _ _ (field (.ref it) 0 >>= _) _ _ s
 refine wpAny_bind (wpAny_field ho hd (x := .ref l) rfl ?_)
 show wpAny _ _ (if (Value.ref l == Value.none) = true then _ else _) _ _ s
 rw [if_neg (show ¬ ((Value.ref l == Value.none) = true) from Bool.false_ne_true)]
 show wpAny _ _ (field (.ref it) 1 >>= _) _ _ s
 refine wpAny_bind (wpAny_field ho hd (x := .int i 0) rfl ?_)
 show wpAny _ _ (seqItems? (.ref l) >>= _) _ _ s
 refine wpAny_bind (wpAny_seqItems hol hdl ?_)
 simp only [Int.toNat_natCast, hx]
 refine wpAny_bind (wpAny_rule (wpAny_bind (wpAny_setField ho hd (by simp) ?_)))
 refine stop_hot (A := A.in1) hot hne fun h' a e1 e2 => ?_
 obtain ⟨o2, g2, c2⟩ := e2
 refine wpAny_bind (wpAny_isInstance (T := "StopIteration") (b := true) ⟨o2, g2, c2⟩ isSubtype_stop ?_)
 exact wpAny_pure (hQ _ e1)
end
end FTH
namespace FT
open PySem PySem.W PySem.Spec PyProof.Rows L2
section
variable {X : Cx}
theorem turn_listH {P : Program} {w : World} {K : PySem.W.Frag} {tg : Expr} (a it : Addr) : L2H.TurnH P w K tg (Itl K a) [it] it (fun i h => h.IsListIter it a i) where
 mem := by simp
 obj := fun i h st b hb => by
  have e : b = it := by simpa using hb
  subst e
  obtain ⟨o, e, c, d⟩ := st
  exact ⟨o, e, fun v z => by rw [d] at z; cases z⟩
 keep := fun i h h' st k => st.at fun o e => k it (by simp) o e
 item := by
  intro X hP hw hK hc i pins s σ H E I hf st hg
  subst hP hw hK
  obtain ⟨xs, x, hq, hx⟩ := hg
  obtain ⟨its, rv, p, hz⟩ := I.list hq
  obtain ⟨u, hu, ru⟩ := rv.get hx
  obtain ⟨f0, f1, f2, f3, f4, f5⟩ := hf it (by simp)
  refine wpAny_pyNext_list_item st p.isList (x := u) (by simpa using hu) fun h' st' sb => ?_
  have I1 : Inv X pins σ H { s with heap := h' } := I.turned (t' := s.toks) (fun b o hb e => (sb.2 b hb).trans e) f0 f1 f3 f4 f5
  obtain ⟨o, e, c, d⟩ := id st'
  exact ⟨u, rfl, go_of (s := { s with heap := h' }) e c d (by decide) ⟨x, H, I1, ru, ⟨rfl, fun ys hy => by rw [I.list_inj hy hq]; exact hx⟩, st', fun b hb => (hf b hb).1⟩⟩
 done := by
  intro X hP hw hK hc i pins s σ H E I hf st hg
  subst hP hw hK
  obtain ⟨xs, hq, hx⟩ := hg
  obtain ⟨its, rv, p, hz⟩ := I.list hq
  obtain ⟨f0, f1, f2, f3, f4, f5⟩ := hf it (by simp)
  have hl := rv.length
  obtain ⟨x1, hot⟩ := hc.at I
  exact FTH.next_list_end_hot hot st p.isList (by simp; omega) fun h' eb => ⟨rfl, I.turned (t' := s.toks) (fun b o hb e => eb b o hb e) f0 f1 f3 f4 f5⟩
 self := fun _ _ _ _ _ st h => wpAny_pyIter_listiter st h
theorem pi_listH {tg l : Expr} {tl : TE} (hl : PE X l tl) : L2H.PIH X tg l (iList X.K tl) := by
 refine ⟨fun pins s σ H R I h => ?_⟩
 refine thn (hl.run pins s σ H _ I h) fun v s1 ⟨x, H1, I1, r1, q1⟩ => ?_
 obtain ⟨a, e, ⟨xs, hq⟩, q⟩ := q1
 subst e
 cases r1
 obtain ⟨its, rv, p, hz⟩ := I1.list hq
 refine wpAny_pyIter_list p.isList ?_
 refine ⟨s1.heap.objs.size, [s1.heap.objs.size], _, _, H1, rfl, I1.kept (t' := s1.toks) fun b o e => Heap.get?_push_of_some _ e, turn_listH a _, ⟨_, Heap.get?_push_size _ rfl, rfl, rfl⟩, fun b hb => ?_, q⟩
 have e : b = s1.heap.objs.size := by simpa using hb
 subst e
 exact I1.fpOk (Nat.le_refl _) (I1.hok.fresh (Nat.le_refl _))
end
theorem passLN {X : Cx} : Passes (L2N.CX X.prog X.w) X E0 := fun _ _ _ _ _ _ _ h => by
 obtain ⟨_, _, _, _, _, _, _, _, _, _, _, _, z⟩ := h
 exact z.elim
theorem takes0N {X : Cx} : L2N.Takes X (fun _ _ _ _ => False) := fun _ _ x => by
 obtain ⟨_, _, _, _, _, _, _, _, _, _, _, _, _, _, _, _, z⟩ := x
 exact z.elim
theorem _root_.L2.Fun.okXN {P : Program} {w : World} {K : PySem.W.Frag} {mg : Str -> Option Value} {base : Heap} {x qual : Str} {st : Stmt} {f : Addr} {fd : FuncData} {N ps : List Str} {k : Nat} {sp : Sp} (F : Fun K x qual st f fd) (S : FnScope N ps (defScope st)) (len : ∀ vs H Q E, sp vs H Q E -> vs.length = ps.length)
  (hbody : ∀ (cdv : Value) (A : Around) (outer : List Env) (s : Shared) (H : Hp) (vs : List V) (Q : VK) (E : XK), Room k (A.deeper (envOfC qual (defScope st) s.heap.objs.size f cdv)) -> sp vs H Q E ->
   ∃ t, PSs (cxOf (L2N.CX P w) P w K mg base N qual (defScope st) f cdv A outer s H E) (defBody st) t /\ t { nx := fun _ H' => Q .non H', rt := Q } (start N vs) H) : FnOk P w K mg base (L2N.CX P w) (k + 1) f fd ps sp := by
 obtain ⟨oc, od, kV, doc, pm, an, cdv, ct, osl, rfl, lk, hcd⟩ := F.ex
 exact fn_of lk hcd S len fun A outer s H vs Q E hr hsp => hbody cdv A outer s H vs Q E hr hsp
structure GotXN (P : Program) (w : World) (K : PySem.W.Frag) (mg : Str -> Option Value) (base : Heap) (x : Str) (ps : List Str) (k : Nat) (sp : Sp) : Prop where
 ex : ∃ (f : Addr) (fd : FuncData), FnOk P w K mg base (L2N.CX P w) k f fd ps sp /\ PySem.W.keepIn K (.ref f) = true /\ Binds K fd ps [] /\ mg x = some (.ref f)
structure GotMXN (P : Program) (w : World) (K : PySem.W.Frag) (mg : Str -> Option Value) (base : Heap) (C : Addr) (m : Str) (ps : List Str) (k : Nat) (sp : Sp) : Prop where
 ex : ∃ (f : Addr) (fd : FuncData), FnOk P w K mg base (L2N.CX P w) k f fd ps sp /\ Meth K C m f /\ Binds K fd ps [] /\ Cls K C
structure GotIN (P : Program) (w : World) (K : PySem.W.Frag) (mg : Str -> Option Value) (base : Heap) (x : Str) (C : Addr) (ps : List Str) (k : Nat) (sp : Sp) : Prop where
 ex : ∃ (f : Addr) (fd : FuncData), FnOk P w K mg base (L2N.CX P w) k f fd ps sp /\ Mk K C f /\ Binds K fd ps [] /\ mg x = some (.ref C)
section
variable {X : Cx} {C : Addr} {x m : Str} {ps : List Str} {k : Nat} {sp : Sp} {e o : Expr} {es : List Expr} {ta : TE} {t : TA} {p pos apos : Pos} {pl : Sem Bool}
theorem pe_gotXN (G : GotXN X.prog X.w X.K X.mg X.base x ps k sp) (hr : Room k X.A) (hg : Gl X x) (ha : PA X (e :: es) t) (hdb : (x == ("__debug__" : Str)) = false := by decide) (he : starEach (e :: es) X.env = (false, eval e X.env) :: starEach es X.env := by rfl) (hpl : (backTo pos (starEach es X.env)).any (·.1) = false := by rfl) :
  PE X (.Call (.Name x p) (e :: es) [] pos) (tCall sp [] E0 t) := by
 obtain ⟨f, fd, h1, h2, h3, h4⟩ := G.ex
 exact pe_call h1 hr hg h4 h2 h3 .nil passLN ha hdb he hpl
theorem pe_gotSN {W : WX} (G : GotXN X.prog X.w X.K X.mg X.base x ps k sp) (hr : Room k X.A) (hg : Gl X x) (tk : L2N.Takes X W) (ha : PA X (e :: es) t) (hdb : (x == ("__debug__" : Str)) = false := by decide) (he : starEach (e :: es) X.env = (false, eval e X.env) :: starEach es X.env := by rfl) (hpl : (backTo pos (starEach es X.env)).any (·.1) = false := by rfl) :
  PE X (.Call (.Name x p) (e :: es) [] pos) (tCallS sp (WE W) t) := by
 obtain ⟨f, fd, h1, h2, h3, h4⟩ := G.ex
 exact pe_callS h1 hr hg h4 h2 h3 (fun σ => L2N.passAt tk σ) ha hdb he hpl
theorem pe_gotMXN (G : GotMXN X.prog X.w X.K X.mg X.base C m ps k sp) (hr : Room k X.A) (ho : PE X o ta) (ha : PA X (e :: es) t)
  (hst : starEach (e :: es) X.env = (false, eval e X.env) :: starEach es X.env := by rfl) (hpl : (backTo pos (starEach es X.env)).any (·.1) = false := by rfl)
  (ht : eval (.Call (.Attribute o m apos) (e :: es) [] pos) X.env = (do
    let ov <- eval o X.env
    standAt apos.atName
    let (g, first) <- holding [ov] (getMethod ov m pl)
    callWith pos g first (backTo pos (starEach (e :: es) X.env)) (backToKw pos (keywordEach [] X.env))) := by rfl) :
  PE X (.Call (.Attribute o m apos) (e :: es) [] pos) (tMethZ C m sp (fun _ => E0) ta t) := by
 obtain ⟨f, fd, h1, h2, h3, h4⟩ := G.ex
 exact pe_methZ ho h4 h2 h1 hr h3 (fun σ pins H s e s' I c => passLN pins σ H s e s' I c) ha hst hpl ht
theorem pe_gotMSN {W : WX} (G : GotMXN X.prog X.w X.K X.mg X.base C m ps k sp) (hr : Room k X.A) (tk : L2N.Takes X W) (ho : PE X o ta) (ha : PA X (e :: es) t)
  (hst : starEach (e :: es) X.env = (false, eval e X.env) :: starEach es X.env := by rfl) (hpl : (backTo pos (starEach es X.env)).any (·.1) = false := by rfl)
  (ht : eval (.Call (.Attribute o m apos) (e :: es) [] pos) X.env = (do
    let ov <- eval o X.env
    standAt apos.atName
    let (g, first) <- holding [ov] (getMethod ov m pl)
    callWith pos g first (backTo pos (starEach (e :: es) X.env)) (backToKw pos (keywordEach [] X.env))) := by rfl) :
  PE X (.Call (.Attribute o m apos) (e :: es) [] pos) (tMethZ C m sp (WE W) ta t) := by
 obtain ⟨f, fd, h1, h2, h3, h4⟩ := G.ex
 exact pe_methZ ho h4 h2 h1 hr h3 (fun σ => L2N.passAt tk σ) ha hst hpl ht
theorem pe_gotIN (G : GotIN X.prog X.w X.K X.mg X.base x C ps k sp) (hr : Room (k + 1) X.A) (hg : Gl X x) (ha : PA X (e :: es) t) (hdb : (x == ("__debug__" : Str)) = false := by decide)
  (he : starEach (e :: es) X.env = (false, eval e X.env) :: starEach es X.env := by rfl) (hpl : (backTo pos (starEach es X.env)).any (·.1) = false := by rfl) :
  PE X (.Call (.Name x p) (e :: es) [] pos) (tMakeZ C sp (fun _ => E0) t) := by
 obtain ⟨f, fd, h1, h2, h3, h4⟩ := G.ex
 exact pe_makeZ h2 h1 hr hg h4 h3 (fun σ pins H s e s' I c => passLN pins σ H s e s' I c) ha hdb he hpl
theorem pmk_oexN {CX : CXT} {fI : Addr} {fd : FuncData} {ds : List Value} {dvs : List V} (T : OexC X.K C) (iC : PySem.W.findIn X.K (.ref C) "__init__" = some (some (.ref fI))) (tI : PySem.W.typeIn X.K (.ref fI) = some (.type "function"))
  (F1 : FnOk X.prog X.w X.K X.mg X.base CX k fI fd ps sp) (hr : Room (k + 1) X.A) (hb : Binds X.K fd ps ds) (hd : Vals dvs ds) (hx : Passes CX X (fun _ _ _ => False)) (hg : Gl X x) (hm : X.mg x = some (.ref C)) (ha : PA X (e :: es) t)
  (hdb : (x == ("__debug__" : Str)) = false := by decide) (he : starEach (e :: es) X.env = (false, eval e X.env) :: starEach es X.env := by rfl) (hpl : (backTo pos (starEach es X.env)).any (·.1) = false := by rfl) :
  L2N.PMk X (.Call (.Name x p) (e :: es) [] pos) (tMkO C sp dvs t) := by
 intro pins s σ H Q I h
 obtain ⟨nm, q, N, bs, bm, sn, sub, ab, col, dd, k0, k1, k2, k3, k5, hC, hbm⟩ := T.cls
 refine wpAny_Call_Name_kw (ld_glob I hg hm ?_ hdb)
 refine PySem.W.callWith_K (h₀ := X.base) I.ok.mod.kin T.kC (thn (ha.run pos pins s σ H _ I h) fun us s1 ⟨vs, H1, I1, r1, hz, q1⟩ => ⟨I1.kIn, ?_⟩) he hpl
 show wpAny _ _ (call (.ref C) us) _ _ _
 obtain ⟨hp, g, dr, tk, os⟩ := s1
 have hsz : hp.objs.size <= hp.objs.size + 1 := Nat.le_succ _
 have hn : H1 (hp.objs.size + 1) = none := I1.hok.fresh hsz
 have hq := q1 (hp.objs.size + 1) hn
 have kk : ∀ b o, hp.get? b = some o -> ((hp.push (PySem.W.kdv_tup us)).push (PySem.HandSPX.excO C hp.objs.size)).get? b = some o := fun b o e => Heap.get?_push_of_some _ (Heap.get?_push_of_some _ e)
 have hget : ((hp.push (PySem.W.kdv_tup us)).push (PySem.HandSPX.excO C hp.objs.size)).get? (hp.objs.size + 1) = some (PySem.HandSPX.excO C hp.objs.size) := by heap_get
 have I2 : Inv X pins σ (upd H1 (hp.objs.size + 1) (exo (hp.objs.size + 1) C none)) ⟨(hp.push (PySem.W.kdv_tup us)).push (PySem.HandSPX.excO C hp.objs.size), g, dr, tk, os⟩ :=
  I1.laid (t' := tk) (a := hp.objs.size + 1) (o := exo (hp.objs.size + 1) C none) (h' := (hp.push (PySem.W.kdv_tup us)).push (PySem.HandSPX.excO C hp.objs.size)) kk hsz (exo_ok hget)
 have r2 : Vals (V.ref (hp.objs.size + 1) :: (vs ++ dvs)) (Value.ref (hp.objs.size + 1) :: (us ++ ds)) := .cons rfl (r1.append hd)
 have hl : (Value.ref (hp.objs.size + 1) :: us ++ ds).length = ps.length := by
  have e := r2.length
  rw [F1.len _ _ _ _ hq] at e
  exact e.symm
 have hus : us.length <= sizeLine := by
  rw [<- Paired.length r1, sizeLine_eq]
  omega
 refine wpAny_call (PySem.HandSPX.call_own F.excBase_ValueError (fun Y => PySem.HandSPX.refsVE_contains Y bm hbm) (I1.kIn _ _ hC) (PySem.W.looks_findIn I1.kIn iC) (fun self => PySem.W.bind_fn I1.kIn self tI) hus
  (codeAny_mono (F1.run _ X.stack _ _ ⟨Value.ref (hp.objs.size + 1) :: us, []⟩ (Value.ref (hp.objs.size + 1) :: (us ++ ds)) _ _ (fun _ _ _ => False) (hr.make C us []) (I2.env0.make C us []) (hb _ (Value.ref (hp.objs.size + 1) :: us) I2.kIn hl) r2 hq) fun r s' hq' => ?_))
 cases r with
 | error er => exact hx pins σ _ _ er s' I2 hq'
 | ok fl =>
  cases fl with
  | ret u =>
   obtain ⟨v, H2, os2, bare2, un2, hok2, rv, ev, d, fs, ea, ed, hd1, q2⟩ := hq'
   subst ev
   obtain ⟨h2, g2, d2, t2, os'⟩ := s'
   obtain ⟨t0, G, J, kG, ge, hoe, na⟩ := mk_end0 (d2 := d2) (t2 := t2) I1 hsz kk un2 hok2 os2 bare2 ea ed hd1
   refine ⟨rv, ⟨hp.objs.size + 1, _, _, ⟨G, g2, d2, t2, os'⟩, _, .ref C, some d, rfl, J, kG, ge, hoe, ⟨rfl, rfl, fun vs hv => ?_⟩, rfl, rfl, na, rfl, bare2, raises_own T.exC T.tyC, q2⟩⟩
   cases hv
   rfl
  | next => exact False.elim hq'
  | brk => exact False.elim hq'
  | cont => exact False.elim hq'
theorem pmk_kindN {te : TE} (O : OwnI X.prog X.w X.K X.mg X.base x C k) (hr : Room (k + 1) X.A) (hg : Gl X x) (he : PE X e te) (hdb : (x == ("__debug__" : Str)) = false := by decide)
  (hs : starEach [e] X.env = (false, eval e X.env) :: starEach [] X.env := by rfl) (hpl : (backTo pos (starEach [] X.env)).any (·.1) = false := by rfl) : L2N.PMk X (.Call (.Name x p) [e] [] pos) (tKind C te) := by
 obtain ⟨f, fd, h1, h2, h3, h4⟩ := O.ex
 have hw := pmk_oexN (p := p) O.T h1 h2 h3 hr h4 .nil pass0 hg O.gC (pa_cons (hs := hs) he.wide pa_nil) hdb hs hpl
 intro pins s σ H Q I h
 refine hw pins s σ H Q I ⟨_, h, fun y H1 q => ?_⟩
 refine ⟨by simp, fun a ha => ⟨a, y, rfl, O.T, O.no, upd_same, fun dx hd ne => ⟨rfl, dx, [("kind", y)], upd_same, ?_, ?_, ?_⟩⟩⟩
 ·rw [upd_ne ne, upd_same]
 ·rw [upd_ne ne] at hd; exact hd
 ·have e : upd (del (upd (upd (upd H1 a (exo a C none)) dx (exd dx [("kind", y)])) a (exo a C (some dx))) a) dx (.xd [("kind", y)]) = upd H1 dx (.xd [("kind", y)]) := by
   funext b
   by_cases h1 : b = dx
   ·subst h1; rw [upd_same, upd_same]
   ·rw [upd_ne h1, upd_ne h1]
    by_cases h2 : b = a
    ·subst h2; rw [del_same, ha]
    ·rw [del_ne h2, upd_ne h2, upd_ne h1, upd_ne h2]
  rw [e]
  rw [upd_ne ne] at hd
  exact q dx hd
end
instance strOrd : Orderly PyData.str where
 al a b := by simp [alike]
 eq a b := by simp [PyData.eqv, Gr.sb]
theorem Bears_strs {K : PySem.W.Frag} {H : Hp} : ∀ {us : List V} {ss : List Str}, Bears K H PyData.str us ss -> us = ss.map V.str
 | _, _, .nil => rfl
 | _, _, .cons h t => by cases h; rw [List.map_cons, Bears_strs t]
theorem cps_one {a b : Str} (h1 : ¬ a.cps.toList < b.cps.toList) (h2 : ¬ b.cps.toList < a.cps.toList) : a = b := by
 have e1 : dataLt (.str a) (.str b) = false := by rw [dataLt_str]; exact decide_eq_false h1
 have e2 : dataLt (.str b) (.str a) = false := by rw [dataLt_str]; exact decide_eq_false h2
 exact Classical.byContradiction fun z => by
  have := ol_tri (enc := PyData.str) z e1
  rw [e2] at this; cases this
theorem LeastOut.one {P : Str -> Prop} {g : Gr} {n m : Str} (h1 : LeastOut P g n) (h2 : LeastOut P g m) : n = m := cps_one (h2.low n h1.mem h1.out) (h1.low m h2.mem h2.out)
theorem LeastOut.not {b : Bk} {g : Gr} {n : Str} (h : LeastOut (fun m => m ∉ b.names) g n) (hn : Gr.Named b.names g) : False := by
 obtain ⟨x, hx, e⟩ := List.mem_map.mp h.mem
 exact h.out (e ▸ hn x hx)
inductive Ho where
 | kind (n : Str)
 | endl (n : Str)
 | fine
theorem LeastOut.notE {b : Bk} {g : Gr} {n : Str} (h : LeastOut (fun m => ¬ EndK b m) g n) (hn : ∀ x ∈ g.within, EndK b x.1.1) : False := by
 obtain ⟨x, hx, e⟩ := List.mem_map.mp h.mem
 exact h.out (e ▸ hn x hx)
def HoX (NK EE : Addr) (H : Hp) (E : XK) (P : Prop) : Ho -> Prop
 | .kind n => ∀ (d : Addr) (H' : Hp), SB [] H H' -> H d = none -> H' d = some (.xd [("kind", .str n)]) -> E (.ref NK) (some d) H'
 | .endl n => ∀ (d : Addr) (H' : Hp), SB [] H H' -> H d = none -> H' d = some (.xd [("kind", .str n)]) -> E (.ref EE) (some d) H'
 | .fine => P
end FT
namespace FT
open PySem PySem.W PySem.Spec PySem.Calls PyProof.Rows PyProof.V L2
section
variable {P : Program} {w : World} {A : Around} {E : Value -> Shared -> Prop} {s : Shared} {T : String} {r d : Addr} {n : Nat} {Pv : Nat -> Value -> Prop} {OK : Heap -> Prop} {Q : Value -> Shared -> Prop}
theorem sorted_src (K : KdlSrc P w T r d n Pv OK) (hh : A.handled = none) (hok : OK s.heap) (h64 : n < 64) {ss0 : List Str} (hp : ∀ acc : Array Value, ItemsOf Pv acc n -> StrsAre acc.toList ss0)
  (h : ∀ (s' : Shared) (p : Addr) (out : Array Value) (c : Nat) (ss : List Str), (∀ b o, s.heap.get? b = some o -> s'.heap.get? b = some o) -> s'.gens = s.gens -> s'.os = s.os -> (∃ h1 : Heap, (∀ b o, s.heap.get? b = some o -> h1.get? b = some o) /\ h1.objs.size <= p) -> s'.heap.get? p = some (seqObj "list" out c) -> StrsAre out.toList ss -> ss.Perm ss0 -> sortedS ss = true -> Q (.ref p) s') :
  wpAny (model P w) A (call (.builtin "sorted") [.ref r]) Q E s := by
 refine Calls.call_function_entry kind_sorted plain_sorted entry_sorted (args_sorted1 _) ?_
 unfold Builtin.«sorted»
 refine wpAny_bind (m := checkCount "sorted" 1 1 _) (wpAny_pure ?_)
 refine wpAny_bind (kdu_collect (A := A.in1) K hh hok (by rw [sizeLine_eq]; omega) fun h' tk acc hk hacc => ?_)
 have hS := hp acc hacc
 have vl : acc.toList.length = n := by rw [Array.length_toList]; exact hacc.1
 generalize acc.toList = vs at hS vl
 refine wpAny_bind (wpAny_newList ?_ (by rw [vl, sizeLine_eq]; omega))
 have at1 : (h'.push (seqObj "list" vs.toArray 0)).get? h'.objs.size = some (seqObj "list" vs.toArray 0) := Heap.get?_push_size _ rfl
 refine wpAny_bind (wpAny_holding (wpAny_call_entry slot_list_sort ⟨_, at1, rfl⟩ entry_list_sort (list_sort_treeK strKind_oneLt at1 hS.keysOf (fun v1 v2 r e => keyKind_strs (by rw [<- e]; exact hS)) (by rw [vl]; exact h64) fun st' p1 p2 => ⟨_, rfl, ?_⟩) (args_list_sort _)))
 obtain ⟨ss', q1, q2, q3⟩ := sorted_out_str hS p1 p2
 obtain ⟨c, hc⟩ := sortedHeap_at (vs := vs) (out := (arrOf st').map (·.2)) at1
 refine wpAny_pure ⟨_, rfl, h _ h'.objs.size _ c ss' (fun b o e => ?_) rfl rfl ⟨h', hk, Nat.le_refl _⟩ hc q1 q2 q3⟩
 have e1 := hk b o e
 have lt := Heap.lt_size e1
 show (sortedHeap (h'.push (seqObj "list" vs.toArray 0)) h'.objs.size vs _).get? b = some o
 rw [sortedHeap_old (Nat.ne_of_lt lt) (by rw [size_push']; exact Nat.lt_succ_of_lt lt)]
 exact Heap.get?_push_of_some _ e1
end
section
variable {X : Cx}
def rSortedDk : List V -> Hp -> VK -> Prop := fun xs H Q => ∃ (a : Addr) (us : List V) (ns : List Str), xs = [.ref a] /\ H a = some (.dK (nKV ns us)) /\ us.length = ns.length /\ ns.length < 64 /\ ∀ (ss : List Str) (p : Addr), ss.Perm ns -> sortedS ss = true -> H p = none -> Q (.ref p) (upd H p (.lst (ss.map V.str)))
theorem cr_sortedDk (hc : X.calm = true) : CallR X (.builtin "sorted") rSortedDk := by
 intro pins s σ H xs us Q I r h
 obtain ⟨a, ws, ns, rfl, ha, wl, h64, q⟩ := h
 rw [Vals.ref1 r]
 obtain ⟨z, lo, vs, rel, dd⟩ := dk_rd I.hok (.inl ha)
 obtain ⟨ep, hat⟩ := dd.dictAt
 have ek : ((nKV ns ws).map fun kv => kV kv.1) = vs.map fun p => kV p.1 := by
  have e := congrArg (List.map kV) rel.keys
  rw [List.map_map, List.map_map] at e
  exact e
 have en : ((nKV ns ws).map fun kv => kV kv.1) = ns.map V.str := by
  have h := zk_keys (ns := ns) (us := ws) (by omega)
  have h2 := congrArg (List.map kV) h
  rw [List.map_map, List.map_map] at h2
  exact h2
 have nl : vs.length = ns.length := by
  have h1 := congrArg List.length (ek.symm.trans en)
  simpa using h1
 refine sorted_src (PySem.W.kdl_dict (knd := mixKind X.prog X.w) (kvs := vs) (ep := ep) lo) (I.ok.hd hc) hat (by omega) (ss0 := ns) (fun acc hacc => ?_) fun s' p out c ss kp eg eo hp at' hS pm srt => ?_
 ·have hv : Vals (vs.map fun p => kV p.1) acc.toList := keys_at (by rw [Array.length_toList]; exact hacc.1) fun j v e => hacc.2 j v (by rw [<- Array.getElem?_toList]; exact e)
  rw [<- ek, en] at hv
  exact strsAre_of hv
 obtain ⟨h1, k1, p1⟩ := hp
 have hn : H p = none := (I.hok.kept k1).fresh p1
 have hs0 : s.heap.get? p = none := by
  cases e : s.heap.get? p with
  | none => rfl
  | some o => exact absurd (Heap.lt_size (k1 _ _ e)) (Nat.not_lt.mpr p1)
 have hz : (ss.map V.str).length <= sizeLine := by rw [List.length_map, pm.length_eq, sizeLine_eq]; omega
 obtain ⟨h', g', d', tk', os'⟩ := s'
 have eo : os' = s.os := eo
 subst eo
 exact ⟨.ref p, upd H p (.lst (ss.map V.str)), I.call (ch := []) (Un.laidN kp hs0 hn) (I.hok.laidN kp hn ⟨hz, out.toList, c, vals_of_strs hS, at'⟩) (by rw [show g' = s.gens from eg]; exact I.bare) (fun _ z => nomatch z), rfl, q ss p pm srt hn⟩
end
inductive Du67 (ends : Bool) (b : Bk) (g : Gr) : Ho -> Prop
 | k {n : Str} : LeastOut (fun m => m ∉ b.names) g n -> Du67 ends b g (.kind n)
 | e {n : Str} : ends = true -> Gr.Named b.names g -> LeastOut (fun m => ¬ EndK b m) g n -> Du67 ends b g (.endl n)
 | f : Gr.Named b.names g -> (ends = true -> ∀ x ∈ g.within, EndK b x.1.1) -> Du67 ends b g .fine
theorem Du67.uniq {ends : Bool} {b : Bk} {g : Gr} {o o' : Ho} (h : Du67 ends b g o) (h' : Du67 ends b g o') : o = o' := by
 cases h with
 | k l =>
  cases h' with
  | k l' => rw [l.one l']
  | e _ n _ => exact (l.not n).elim
  | f n _ => exact (l.not n).elim
 | e t n l =>
  cases h' with
  | k l' => exact (l'.not n).elim
  | e _ _ l' => rw [l.one l']
  | f _ h => exact (l.notE (h t)).elim
 | f n h =>
  cases h' with
  | k l' => exact (l'.not n).elim
  | e t _ l' => exact (l'.notE (h t)).elim
  | f _ _ => rfl
structure In67 (K : PySem.W.Frag) (C : Addr) (H : Hp) (v w : V) (b : Bk) (g : Gr) (D : Int) : Prop where
 bk : BkA K C H v b
 ok : b.Ok
 ga : GA K H w g
 go : ∃ B, g.Ok B /\ B <= 2 ^ 1000
 deep : g.deep < 15
 parts : g.parts <= 100
 nm : ∃ ns : List Str, Gr.Named ns g /\ ns.length <= 60
 dok : Dok D
theorem In67.sb0 {K : PySem.W.Frag} {C : Addr} {H H' : Hp} {v w : V} {b : Bk} {g : Gr} {D : Int} (h : In67 K C H v w b g D) (s : SB [] H H') : In67 K C H' v w b g D :=
 ⟨h.bk.sb0 s, h.ok, h.ga.sb s, h.go, h.deep, h.parts, h.nm, h.dok⟩
def spMost67 (K : PySem.W.Frag) (C NK EE TL : Addr) : Sp := fun vs H Q E => ∃ (v w : V) (b : Bk) (g : Gr) (D : Int) (o : Ho), vs = [v, w, .int D] /\ In67 K C H v w b g D /\ Du67 true b g o /\
 HoX NK EE H E ((Gr.cin b (cntOf b D) D g < CAP -> ∀ H', SB [] H H' -> Q (.int (Gr.cin b (cntOf b D) D g)) H') /\ (CAP <= Gr.cin b (cntOf b D) D g -> ∀ H', SB [] H H' -> E (.ref TL) none H')) o
def spLong67 (K : PySem.W.Frag) (C NK EE NP TL : Addr) : Sp := fun vs H Q E => ∃ (v w : V) (b : Bk) (g : Gr) (D : Int) (o : Ho), vs = [v, w, .int D] /\ In67 K C H v w b g D /\ Du67 true b g o /\
 HoX NK EE H E ((CAP <= Gr.cin b (cntOf b D) D g -> ∀ H', SB [] H H' -> E (.ref TL) none H') /\ (Gr.cin b (cntOf b D) D g < CAP -> g = .nil -> ∀ H', SB [] H H' -> E (.ref NP) none H') /\ (Gr.cin b (cntOf b D) D g < CAP -> g ≠ .nil -> ∀ (x : V) (H' : Hp), SB [] H H' -> Q x H')) o
def spFew67 (K : PySem.W.Frag) (C NK TL : Addr) : Sp := fun vs H Q E => ∃ (v w : V) (b : Bk) (g : Gr) (D : Int) (o : Ho), vs = [v, w, .int D] /\ In67 K C H v w b g D /\ Du67 false b g o /\
 HoX NK NK H E ((Gr.fw b D g < CAP -> ∀ H', SB [] H H' -> Q (.int (Gr.fw b D g)) H') /\ (CAP <= Gr.fw b D g -> ∀ H', SB [] H H' -> E (.ref TL) none H')) o
def spShort67 (K : PySem.W.Frag) (C NK NP TL : Addr) : Sp := fun vs H Q E => ∃ (v w : V) (b : Bk) (g : Gr) (D : Int) (o : Ho), vs = [v, w, .int D] /\ In67 K C H v w b g D /\ Du67 false b g o /\
 HoX NK NK H E ((CAP <= Gr.fw b D g -> ∀ H', SB [] H H' -> E (.ref TL) none H') /\ (Gr.fw b D g < CAP -> g = .nil -> ∀ H', SB [] H H' -> E (.ref NP) none H') /\ (Gr.fw b D g < CAP -> g ≠ .nil -> ∀ (x : V) (H' : Hp), SB [] H H' -> Q x H')) o
inductive Al67 (odd : Bool) (g : Gr) : Ho -> Str -> Str -> Int -> Prop
 | kind {n : Str} : Al67 odd g (.kind n) "kind" n 1
 | endl {n : Str} : Al67 odd g (.endl n) "endless" n 1
 | told : (odd = true -> g ≠ .nil) -> Al67 odd g .fine "told" "" 0
 | place : odd = true -> g = .nil -> Al67 odd g .fine "place" "" 1
 | long : g ≠ .nil -> Al67 odd g .fine "long" "" 1
def spSeen67 (K : PySem.W.Frag) (C : Addr) : Sp := fun vs H Q _ => ∃ (ask : Int) (v w : V) (b : Bk) (g : Gr) (D : Int) (o : Ho), vs = [.int ask, v, w, .int D] /\ (ask = 0 \/ ask = 1 \/ ask = 2 \/ ask = 3) /\ In67 K C H v w b g D /\ Du67 (decide (ask < 2)) b g o /\ ∀ (T : Addr) (wd k : Str) (m : Int) (H' : Hp), SB [] H H' -> SqT K H' T [.str wd, .str k, .int m] -> Al67 (decide (ask % 2 = 1)) g o wd k m -> Q (.ref T) H'
def gTo : List Gr -> Nat
 | [] => 0
 | g :: r => 1 + g.parts + gTo r
theorem gTo_app (a b : List Gr) : gTo (a ++ b) = gTo a + gTo b := by
 induction a with
 | nil => simp [gTo]
 | cons g r ih => simp [gTo, ih]; omega
theorem len_gTo : ∀ l : List Gr, l.length <= gTo l
 | [] => Nat.le_refl _
 | g :: r => by have := len_gTo r; show r.length + 1 <= 1 + g.parts + gTo r; omega
theorem gTo_ps (l : List (Tr × Int)) : gTo (l.map (·.1.2)) = Gr.tot l := by
 induction l with
 | nil => rfl
 | cons p r ih => show 1 + p.1.2.parts + gTo (r.map _) = _; rw [ih]; rfl
theorem gsh {gs : List Gr} (h : ∀ g ∈ gs, (∃ C, g.Ok C) /\ g.deep < 15) : SeqAt.shaped (.list (gs.map Gr.enc)) = true := by
 have h1 : PyData.canLayAll0 (gs.map Gr.enc) = true := by
  induction gs with
  | nil => simp [PyData.canLayAll0]
  | cons b r ih =>
   have e := ih fun c hc => h c (mcm _ hc)
   obtain ⟨⟨_, o⟩, _⟩ := h b (mcs ..)
   have l := Gr.lays o
   simp [PyData.canLayAll0, Gr.enc, PyData.canLay0, l, e]
 have h2 : PyData.depthAll (gs.map Gr.enc) <= 50 := by
  clear h1
  induction gs with
  | nil => simp [PyData.depthAll]
  | cons b r ih =>
   have e := ih fun c hc => h c (mcm _ hc)
   obtain ⟨_, o⟩ := h b (mcs ..)
   have l := b.enc_depth
   simp [PyData.depthAll]
   omega
 unfold SeqAt.shaped
 simp [PyData.canLay0, PyData.depth, h1]
 omega
theorem nm_ps {g : Gr} {y : Str} : y ∈ g.within.map (·.1.1) ↔ ∃ p ∈ g.ps, y = p.1.1 \/ y ∈ p.1.2.within.map (·.1.1) := by
 rw [Gr.within_ps]
 simp only [List.mem_map, List.mem_flatMap, List.mem_cons]
 constructor
 ·rintro ⟨x, ⟨p, hp, rfl | hx⟩, rfl⟩
  ·exact ⟨_, hp, .inl rfl⟩
  ·exact ⟨p, hp, .inr ⟨x, hx, rfl⟩⟩
 ·rintro ⟨p, hp, rfl | ⟨x, hx, rfl⟩⟩
  ·exact ⟨p, ⟨p, hp, .inl rfl⟩, rfl⟩
  ·exact ⟨x, ⟨p, hp, .inr hx⟩, rfl⟩
def spInside67 (K : PySem.W.Frag) : Sp := fun vs H Q _ => ∃ (v : V) (g : Gr) (ns : List Str) (C : Int), vs = [v] /\ GA K H v g /\ g.Ok C /\ g.deep < 15 /\ g.parts <= 100 /\ Gr.Named ns g /\ ns.length <= 60 /\ ∀ (l : Addr) (ss : List Str) (H' : Hp), SB [] H H' -> H l = none -> H' l = some (.lst (ss.map V.str)) -> SrtOf ss (g.within.map (·.1.1)) -> Q (.ref l) H'
abbrev tK (ns : List Str) : List (Key × V) := ns.map fun n => ((Sum.inr n : Key), V.bl true)
theorem tK_nKV (ns : List Str) : tK ns = nKV ns (ns.map fun _ => V.bl true) := by
 induction ns with
 | nil => rfl
 | cons n r ih =>
  show (_, _) :: tK r = (_, _) :: nKV r _
  rw [ih]
def addN (ns : List Str) (n : Str) : List Str := if n ∈ ns then ns else ns ++ [n]
theorem addN_mem {ns : List Str} {n x : Str} : x ∈ addN ns n ↔ x ∈ ns \/ x = n := by
 unfold addN
 split
 ·rename_i h
  exact ⟨.inl, fun z => z.elim id fun e => e ▸ h⟩
 ·simp
theorem addN_nd {ns : List Str} (h : ns.Nodup) (n : Str) : (addN ns n).Nodup := by
 unfold addN
 split
 ·exact h
 ·rename_i z
  exact List.nodup_append.mpr ⟨h, by simp, fun a ha b hb => by rw [List.mem_singleton.mp hb]; exact fun e => z (e ▸ ha)⟩
theorem tK_any (ns : List Str) (n : Str) : ((tK ns).any fun kv => decide (kv.1 = Sum.inr n)) = decide (n ∈ ns) := by
 induction ns with
 | nil => simp
 | cons a r ih =>
  rw [tK, List.map_cons, List.any_cons]
  show (decide ((Sum.inr a : Key) = Sum.inr n) || (tK r).any _) = _
  rw [ih]
  by_cases e : a = n
  ·subst e; simp
  ·have e2 : ¬ n = a := fun z => e z.symm
   simp [e, e2]
theorem tK_put (ns : List Str) (n : Str) : putK (tK ns) (Sum.inr n) (.bl true) = tK (addN ns n) := by
 unfold putK addN
 rw [tK_any]
 by_cases h : n ∈ ns
 ·rw [decide_eq_true h, if_pos rfl, if_pos h]
  induction ns with
  | nil => rfl
  | cons a r ih =>
   rw [tK, List.map_map]
   refine List.map_congr_left fun x _ => ?_
   show (if (Sum.inr x : Key) = Sum.inr n then ((Sum.inr x : Key), V.bl true) else ((Sum.inr x : Key), V.bl true)) = _
   split <;> rfl
 ·rw [decide_eq_false h, if_neg (by simp), if_neg h, tK, tK, List.map_append]
  rfl
theorem tK_val (ns : List Str) (n : Str) : (valV (tK ns) (Sum.inr n)).isSome = decide (n ∈ ns) := by
 rw [<- tK_any]
 exact (valV_any (Sum.inr n : Key) (tK ns)).symm
def LdE (H : Hp) (bad : List Addr) (k : Kd) (v : V) : Prop := ∃ (l : Addr) (ss : List Str), v = .ref l /\ H l = some (.lst (ss.map V.str)) /\ (∀ n, n ∈ ss ↔ n ∈ ledR k.rs) /\ ss.length <= 1000 /\ l ∉ bad
def LdD (H : Hp) (bad : List Addr) (d : Addr) (b : Bk) : Prop := ∃ us : List V, H d = some (.dK (nKV b.names us)) /\ PairedL (fun v k => LdE H bad k v) us b
theorem LdE.sb {H H' : Hp} {bad ps : List Addr} {k : Kd} {v : V} (h : LdE H bad k v) (s : SB ps H H') (hb : ∀ x ∈ ps, x ∈ bad \/ NoL H [x]) : LdE H' bad k v := by
 obtain ⟨l, ss, rfl, h1, h2, h3, h4⟩ := h
 refine ⟨l, ss, rfl, s.keep _ _ h1 fun z => ?_, h2, h3, h4⟩
 rcases hb l z with w | w
 ·exact h4 w
 ·exact w l (List.mem_singleton.mpr rfl) _ h1
theorem LdE.more {H : Hp} {bad : List Addr} {k : Kd} {v : V} {A : Addr} (h : LdE H bad k v) (hA : H A = none) : LdE H (A :: bad) k v := by
 obtain ⟨l, ss, rfl, h1, h2, h3, h4⟩ := h
 exact ⟨l, ss, rfl, h1, h2, h3, fun z => (List.mem_cons.mp z).elim (fun e => by rw [e, hA] at h1; cases h1) h4⟩
theorem LdE.less {H : Hp} {bad bad' : List Addr} {k : Kd} {v : V} (h : LdE H bad k v) (hb : ∀ x ∈ bad', x ∈ bad) : LdE H bad' k v := by
 obtain ⟨l, ss, rfl, h1, h2, h3, h4⟩ := h
 exact ⟨l, ss, rfl, h1, h2, h3, fun z => h4 (hb l z)⟩
def spLeads67 (K : PySem.W.Frag) : Sp := fun vs H Q _ => ∃ (l : Addr) (xs : List V) (b : Bk), vs = [.ref l] /\ H l = some (.lst xs) /\ KdAll K H [] xs b /\ b.Ok /\ ∀ (d : Addr) (H' : Hp), SB [] H H' -> H d = none -> LdD H' [] d b -> Q (.ref d) H'
def LdR (H : Hp) (d : Addr) (b : Bk) : Prop := ∃ us : List V, L2.Rd H d (.dK (nKV b.names us)) /\ PairedL (fun v k => LdE H [] k v) us b
theorem LdR.sb {H H' : Hp} {ps : List Addr} {d : Addr} {b : Bk} (h : LdR H d b) (s : SB ps H H') (hd : d ∉ ps) (hb : ∀ x ∈ ps, H x = none) : LdR H' d b := by
 obtain ⟨us, h1, h2⟩ := h
 refine ⟨us, ?_, h2.mono fun _ _ z => z.sb s fun x hx => .inr fun y hy zs e => by rw [List.mem_singleton.mp hy, hb x hx] at e; cases e⟩
 rcases h1 with h1 | ⟨o, h1⟩
 ·exact .inl (s.keep _ _ h1 hd)
 ·exact .inr ⟨o, s.frzs _ _ _ h1⟩
theorem LdR.val {H : Hp} {d : Addr} {b : Bk} {n : Str} {kd : Kd} (h : LdR H d b) (e : b.get n = some kd) : ∃ v, DGet H d (.str n) (some v) /\ LdE H [] kd v := by
 obtain ⟨us, h1, h2⟩ := h
 obtain ⟨v, h3, h4⟩ := nKV_val h2 e
 exact ⟨v, getKR h1 h3, h4⟩
theorem LdR.ne {H : Hp} {d p : Addr} {b : Bk} (h : LdR H d b) (n : H p = none) : d ≠ p := fun z => by
 obtain ⟨us, h | ⟨o, h⟩, _⟩ := h <;> rw [z, n] at h <;> cases h
def spCome67 (K : PySem.W.Frag) : Sp := fun vs H Q _ => ∃ (d : Addr) (b : Bk) (n : Str), vs = [.ref d, .str n] /\ LdR H d b /\ b.Ok /\ n ∈ b.names /\ ∀ (e : Addr) (ns : List Str) (H' : Hp), SB [] H H' -> H e = none -> H' e = some (.dK (tK ns)) -> (∀ k, k ∈ ns ↔ Rch b n k) -> Q (.ref e) H'
theorem or_gen {t u : TT} {σ : L2.St} {H : Hp} {Q : Bool -> Hp -> Prop} (Pq : (Bool -> Hp -> Prop) -> Prop) (k : Pq Q) (h : ∀ Q', Pq Q' -> tOr t u σ H Q') : tOr t u σ H Q := h Q k
def spEndl67 (K : PySem.W.Frag) : Sp := fun vs H Q _ => ∃ (l : Addr) (xs : List V) (b : Bk), vs = [.ref l] /\ H l = some (.lst xs) /\ KdAll K H [] xs b /\ b.Ok /\ ∀ (e : Addr) (ss : List Str) (H' : Hp), SB [] H H' -> H e = none -> H' e = some (.lst (ss.map V.str)) -> (∀ n, n ∈ ss ↔ n ∈ b.names /\ ¬ EndK b n) -> ss.length <= 60 -> Q (.ref e) H'
def spNought67 : Sp := fun vs H Q _ => ∃ i : Int, vs = [.int i] /\ Q (.bl (decide (i = 0))) H
def spRight67 (K : PySem.W.Frag) (C : Addr) : Sp := fun vs H Q _ => ∃ (v w : V) (l : Addr) (xs : List V) (b : Bk) (g : Gr) (D : Int), vs = [v, .ref l, w, .int D] /\ H l = some (.lst xs) /\ KdAll K H [] xs b /\ In67 K C H v w b g D /\ ∀ H', SB [] H H' -> Q (.bl true) H'
def chn67 (n : Str) : Nat -> Gr
 | 0 => .cons n .nil 1 .nil
 | i + 1 => .cons "y" (chn67 n i) 1 .nil
theorem one_ga {K : PySem.W.Frag} {H : Hp} {a1 a2 a3 : Addr} {v : V} {n : Str} {m : Int} {g : Gr} (A1 : SqT K H a1 [.str n, v]) (A2 : SqT K H a2 [.ref a1, .int m]) (A3 : SqT K H a3 [.ref a2]) (h : GA K H v g) : GA K H (.ref a3) (.cons n g m .nil) :=
 .tup A3 (.cons (.tup A2 (.cons (.tup A1 (.cons (.str _) (.cons h .nil))) (.cons (.int _) .nil))) .nil)
def spChain67 (K : PySem.W.Frag) : Sp := fun vs H Q _ => ∃ n : Str, vs = [.str n] /\ ∀ (v : V) (H' : Hp), SB [] H H' -> GA K H' v (chn67 n 8) -> Q v H'
def spSideV (K : PySem.W.Frag) : Sp := fun vs H Q _ => ∃ (p n : Addr) (ks : List Str) (m l : Nat) (c cc : Int), vs = [.ref p, .ref n, .int (m : Int), .int c, .int (l : Int)] /\ PuG H p /\ H n = some (.lst (ks.map V.str)) /\ n ≠ p /\ 1 <= ks.length /\ ks.length <= 20 /\ (∀ k ∈ ks, NameOk k) /\ m <= 60 /\ 1 <= l /\ l <= 12 /\ 1 <= c /\ 2 <= cc /\ c <= cc /\ cc <= 10 ^ 58 /\
 ∀ (v : V) (g : Gr) (H' : Hp), SB [p] H H' -> PuG H' p -> GA K H' v g -> g.Ok ((m : Int) * cc + 1) -> g.parts <= m -> g.deep <= l -> (∀ x ∈ g.within, x.1.1 ∈ ks) -> (1 <= m -> g ≠ .nil) -> Q v H'
theorem hotS {X : Cx} {a : Addr} {oe : Obj} {cls : Value} {d : Option Addr} {pn : List (Addr × Obj)} (h : L2N.Zn cls d oe) (hf : ∃ vs, oe.data = .fields vs) : L2H.HotC (X.suite a ((a, oe) :: pn)) := by
 obtain ⟨vs, e⟩ := hf
 exact ⟨(a, oe), ⟨rfl, vs, e, h.2.2 vs e⟩, .head _⟩
theorem least_head {P : Str -> Prop} {g : Gr} {ss : List Str} (so : SrtOf ss (g.within.map (·.1.1))) {p : Str -> Bool} (hp : ∀ m ∈ ss, p m = true ↔ P m) {n : Str} {r : List Str} (e : ss.filter p = n :: r) : LeastOut P g n := by
 obtain ⟨l1, l2, e1, h1, h2, _⟩ := List.filter_eq_cons_iff.mp e
 have hm : ∀ m ∈ l1, m ∈ ss := fun m hm => by rw [e1]; exact mal _ hm
 refine LeastOut.at so (i := l1.length) (by rw [e1, List.getElem?_append_right (Nat.le_refl _), Nat.sub_self]; rfl) ((hp n (by rw [e1]; simp)).mp h2) fun m h hP => ?_
 rw [e1, List.take_left'] at h
 ·exact absurd ((hp m (hm m h)).mpr hP) (by simpa using h1 m h)
 ·rfl
theorem none_head {P : Str -> Prop} {g : Gr} {ss : List Str} (so : SrtOf ss (g.within.map (·.1.1))) {p : Str -> Bool} (hp : ∀ m ∈ ss, p m = true ↔ P m) (e : ss.filter p = []) : ∀ x ∈ g.within, ¬ P x.1.1 := fun x hx hP => by
 have hm : x.1.1 ∈ ss := (so.mem _).mpr (List.mem_map_of_mem hx)
 have := List.filter_eq_nil_iff.mp e _ hm
 exact this ((hp _ hm).mpr hP)
abbrev T3 := Str × Str × Int
def enc3 (x : T3) : PyData := .tuple [.str x.1, .str x.2.1, .int x.2.2]
theorem enc3_no (x : T3) : noList (enc3 x) = true := by simp [enc3, noList, noLists]
theorem dp3 {K : PySem.W.Frag} {H : Hp} {a : Addr} {x : T3} (h : SqT K H a [.str x.1, .str x.2.1, .int x.2.2]) : Dp K H (.ref a) (enc3 x) := .tup h (.cons (.str _) (.cons (.str _) (.cons (.int _) .nil)))
def Ok3 (x : T3) : Prop := PySem.PyData.strOk x.1 = true /\ PySem.PyData.strOk x.2.1 = true
theorem sh3 {x : T3} (h : Ok3 x) : SeqAt.shaped (enc3 x) = true := by
 unfold SeqAt.shaped enc3
 simp [PyData.canLay0, PyData.canLayAll0, PyData.depth, PyData.depthAll, h.1, h.2]
theorem shs3 {ts : List T3} (h : ∀ x ∈ ts, Ok3 x) : SeqAt.shaped (.list (ts.map enc3)) = true := by
 have h1 : PyData.canLayAll0 (ts.map enc3) = true := by
  induction ts with
  | nil => simp [PyData.canLayAll0]
  | cons b r ih =>
   have e := ih fun c hc => h c (mcm _ hc)
   have l := h b (mcs ..)
   simp [PyData.canLayAll0, enc3, PyData.canLay0, l.1, l.2, e]
 have h2 : PyData.depthAll (ts.map enc3) <= 5 := by
  clear h1
  induction ts with
  | nil => simp [PyData.depthAll]
  | cons b r ih =>
   have e := ih fun c hc => h c (mcm _ hc)
   have : (enc3 b).depth <= 5 := by simp [enc3, PyData.depth, PyData.depthAll]
   simp [PyData.depthAll]
   omega
 unfold SeqAt.shaped
 simp [PyData.canLay0, PyData.depth, h1]
 omega
theorem any3 {ts : List T3} {x : T3} (h : x ∈ ts) : ((ts.map enc3).any fun z => PyData.eqv z (enc3 x)) = true :=
 List.any_eq_true.mpr ⟨_, List.mem_map_of_mem h, by simp [enc3, PyData.eqv, PyData.eqvAll]⟩
theorem and_gen {t u : TT} {σ : L2.St} {H : Hp} {Q : Bool -> Hp -> Prop} (Pq : (Bool -> Hp -> Prop) -> Prop) (k : Pq Q) (h : ∀ Q', Pq Q' -> tAnd t u σ H Q') : tAnd t u σ H Q := h Q k
def B7 : List Str := ["b", "ab", "c", "aaa", "d", "e", "ca"]
def ks7 (t k : Nat) : List Str := (B7.drop t ++ B7.take t).take (1 + k)
theorem ks7_pm (t : Nat) : (B7.drop t ++ B7.take t).Perm B7 := (List.perm_append_comm).trans (by rw [List.take_append_drop])
theorem ks7_mem {t k : Nat} {x : Str} (h : x ∈ ks7 t k) : x ∈ B7 := (ks7_pm t).mem_iff.mp (List.mem_of_mem_take h)
theorem ks7_nd (t k : Nat) : (ks7 t k).Nodup := (List.take_sublist _ _).nodup ((ks7_pm t).nodup_iff.mpr (by decide +kernel))
theorem ks7_len {t k : Nat} (h : k < 5) : (ks7 t k).length = 1 + k := by
 unfold ks7
 rw [List.length_take, (ks7_pm t).length_eq]
 show min (1 + k) 7 = 1 + k
 omega
theorem B7_ok : ∀ x ∈ B7, NameOk x := by
 intro x hx
 simp only [B7, List.mem_cons, nmn, or_false] at hx
 rcases hx with rfl | rfl | rfl | rfl | rfl | rfl | rfl <;> exact ⟨by decide +kernel, by decide +kernel, by decide +kernel⟩
theorem B7_za : ("za" : Str) ∉ B7 := by decide +kernel
theorem B7_y : ("y" : Str) ∉ B7 := by decide +kernel
abbrev gRd (m : Int) : Gr := .cons "za" .nil (1 + m) .nil
abbrev gYd (m : Int) : Gr := .cons "y" (gRd m) 1 .nil
abbrev kZa (m : Int) : Kd := ⟨"za", false, [(.nil, gYd m)]⟩
abbrev kY (m : Int) : Kd := ⟨"y", true, [(gRd m, .nil)]⟩
theorem na_za : NameOk "za" := ⟨by decide +kernel, by decide +kernel, by decide +kernel⟩
theorem na_y : NameOk "y" := ⟨by decide +kernel, by decide +kernel, by decide +kernel⟩
theorem gRd_ok {m : Int} (m0 : 0 <= m) (m3 : m < 3) : (gRd m).Ok 1000000001 := ⟨na_za, trivial, by omega, by omega, trivial, fun _ z => nomatch z⟩
theorem gYd_ok {m : Int} (m0 : 0 <= m) (m3 : m < 3) : (gYd m).Ok 1000000001 := ⟨na_y, gRd_ok m0 m3, by omega, by omega, trivial, fun _ z => nomatch z⟩
abbrev za67 : List Str := ["za", "y"]
theorem ok67 {b : Bk} {m : Int} (ok : b.Ok) (hl : b.length <= 5) (hza : ("za" : Str) ∉ b.names) (hy : ("y" : Str) ∉ b.names) (m0 : 0 <= m) (m3 : m < 3) : Bk.Ok (b ++ [kZa m, kY m]) := by
 have en : Bk.names (b ++ [kZa m, kY m]) = b.names ++ za67 := List.map_append ..
 refine ⟨by rw [List.length_append]; show 1 <= _ + 2; omega, by rw [List.length_append]; show _ + 2 <= 8; omega, ?_, fun k hk => ?_⟩
 ·rw [en]
  refine List.nodup_append.mpr ⟨ok.nd, by decide +kernel, fun x hx y hy2 e => ?_⟩
  rw [e] at hx
  rcases List.mem_cons.mp hy2 with h | h
  ·rw [h] at hx; exact hza hx
  ·rw [List.mem_singleton.mp h] at hx; exact hy hx
 ·rw [en]
  have z1 : ("za" : Str) ∈ b.names ++ za67 := by simp
  have z2 : ("y" : Str) ∈ b.names ++ za67 := by simp
  rcases List.mem_append.mp hk with hk | hk
  ·obtain ⟨h1, h2, h3⟩ := ok.kd k hk
   exact ⟨h1, h2, fun r hr => ⟨(h3 r hr).1, fun p hp => mal _ ((h3 r hr).2 p hp)⟩⟩
  ·rcases List.mem_cons.mp hk with h | h
   ·subst h
    refine ⟨na_za, (by decide : 1 <= 4), fun r hr => ?_⟩
    rw [List.mem_singleton.mp hr]
    refine ⟨⟨trivial, gYd_ok m0 m3, (by decide : 0 + 2 <= 4)⟩, fun p hp => ?_⟩
    have : p ∈ [((((("y" : Str), gRd m) : Tr), (1 : Int)) : Tr × Int), ((("za" : Str), Gr.nil), 1 + m)] := hp
    rcases List.mem_cons.mp this with h | h
    ·rw [h]; exact z2
    ·rw [List.mem_singleton.mp h]; exact z1
   ·rw [List.mem_singleton.mp h]
    refine ⟨na_y, (by decide : 1 <= 4), fun r hr => ?_⟩
    rw [List.mem_singleton.mp hr]
    refine ⟨⟨gRd_ok m0 m3, trivial, (by decide : 1 + 0 <= 4)⟩, fun p hp => ?_⟩
    have : p ∈ [((((("za" : Str), Gr.nil) : Tr), 1 + m) : Tr × Int)] := hp
    rw [List.mem_singleton.mp this]; exact z1
abbrev zz67 : List Str := ["zz", "f"]
abbrev yy67 : List Str := ["yy", "za"]
theorem za67_ok : ∀ x ∈ za67, NameOk x := by
 intro x hx
 simp only [List.mem_cons, nmn, or_false] at hx
 rcases hx with rfl | rfl <;> exact ⟨by decide +kernel, by decide +kernel, by decide +kernel⟩
theorem zz67_ok : ∀ x ∈ zz67, NameOk x := by
 intro x hx
 simp only [List.mem_cons, nmn, or_false] at hx
 rcases hx with rfl | rfl <;> exact ⟨by decide +kernel, by decide +kernel, by decide +kernel⟩
theorem yy67_ok : ∀ x ∈ yy67, NameOk x := by
 intro x hx
 simp only [List.mem_cons, nmn, or_false] at hx
 rcases hx with rfl | rfl <;> exact ⟨by decide +kernel, by decide +kernel, by decide +kernel⟩
abbrev bare67 (ys : List Str) : List (Tr × Int) := ys.map fun n => ((n, Gr.nil), (1 : Int))
theorem bare67_lt {m n : Str} (h : m.cps.toList < n.cps.toList) : dataLt (Gr.tEnc (m, .nil)) (Gr.tEnc (n, .nil)) = true := by
 have ne : m ≠ n := fun e => by rw [e] at h; exact List.lt_irrefl _ h
 show dataLt (.tuple [.str m, Gr.enc .nil]) (.tuple [.str n, Gr.enc .nil]) = true
 rw [dataLt_pair (Orderly.al (enc := PyData.str) m n) (by decide +kernel), (Orderly.eq (enc := PyData.str)), decide_eq_false ne]
 rw [if_neg (by simp), dataLt_str]
 exact decide_eq_true h
theorem bare67_up : ∀ {ys : List Str}, sortedS ys = true -> ys.Nodup -> ys.Pairwise fun m n => dataLt (Gr.tEnc (m, .nil)) (Gr.tEnc (n, .nil)) = true
 | [], _, _ => .nil
 | x :: r, s, nd => by
  obtain ⟨n1, n2⟩ := List.nodup_cons.mp nd
  refine List.pairwise_cons.mpr ⟨fun y hy => bare67_lt ?_, bare67_up (sortedS_tail s) n2⟩
  have h1 := rising_all s y hy
  exact Classical.byContradiction fun z => n1 (cps_one z h1 ▸ hy)
theorem bare67_ok {ys : List Str} (s : sortedS ys = true) (nd : ys.Nodup) (ok : ∀ n ∈ ys, NameOk n) : (Gr.ofPs (bare67 ys)).Ok 2 := Gr.ok_ps.mpr ⟨fun p hp => by
 obtain ⟨n, hn, rfl⟩ := List.mem_map.mp hp
 exact ⟨ok n hn, trivial, (by decide : (1 : Int) <= 1), (by decide : (1 : Int) < 2)⟩, List.pairwise_map.mpr (bare67_up s nd)⟩
theorem bare67_parts (ys : List Str) : (Gr.ofPs (bare67 ys)).parts = ys.length := by
 rw [Gr.parts_ofPs]
 induction ys with
 | nil => rfl
 | cons x r ih => show 1 + 0 + Gr.tot (bare67 r) = _; rw [ih, List.length_cons]; omega
theorem bare67_nm (ys : List Str) : Gr.Named ys (Gr.ofPs (bare67 ys)) := Gr.named_iff.mpr fun p hp => by
 rw [Gr.ps_ofPs] at hp
 obtain ⟨n, hn, rfl⟩ := List.mem_map.mp hp
 exact ⟨hn, fun _ z => nomatch z⟩
theorem chn67_ok {n : Str} (h : NameOk n) : ∀ i, (chn67 n i).Ok 2
 | 0 => ⟨h, trivial, by decide, by decide, trivial, fun _ z => nomatch z⟩
 | i + 1 => ⟨na_y, chn67_ok h i, by decide, by decide, trivial, fun _ z => nomatch z⟩
theorem chn67_parts (n : Str) : ∀ i, (chn67 n i).parts = i + 1
 | 0 => rfl
 | i + 1 => by show 1 + (chn67 n i).parts + 0 = _; rw [chn67_parts n i]; omega
theorem chn67_nm (n : Str) : ∀ i, Gr.Named [n, "y"] (chn67 n i)
 | 0 => fun x hx => by
  have hx : x ∈ [(((n, Gr.nil) : Tr), (1 : Int))] := hx
  rw [List.mem_singleton.mp hx]; exact mcs ..
 | i + 1 => fun x hx => by
  have hx : x ∈ ((((("y" : Str), chn67 n i) : Tr), (1 : Int)) :: ((chn67 n i).within ++ [])) := hx
  rw [List.append_nil] at hx
  rcases List.mem_cons.mp hx with h | h
  ·rw [h]; exact mcm _ (mcs ..)
  ·exact chn67_nm n i x h
theorem cin_nil67 (b : Bk) (κ : Str -> Int) (d : Int) : Gr.cin b κ d .nil = 0 := by
 show capI 0 = 0
 decide +kernel
def top (i : Nat) : Stmt := PySem.Challenge.pw_felltimber_k67_counts_refused.main.body.getD i (.Pass ⟨0, 0, 0, 0⟩)
abbrev s_is_whole : Stmt := top 3
abbrev s_is_many : Stmt := top 4
abbrev s_is_name : Stmt := top 5
abbrev s_is_rising : Stmt := top 6
abbrev s_run_of : Stmt := top 7
abbrev s_is_tree : Stmt := top 16
abbrev s_is_grove : Stmt := top 17
abbrev s_are_grove_pairs : Stmt := top 18
abbrev s_pairs_within : Stmt := top 19
abbrev s_kinds_within : Stmt := top 20
abbrev s_rules_from_nought : Stmt := top 28
abbrev s_check_kind : Stmt := top 29
abbrev s_check_kinds : Stmt := top 30
abbrev s_are_kinds : Stmt := top 31
abbrev s_is_kind : Stmt := top 32
abbrev s_is_rule : Stmt := top 33
abbrev s_is_rule_of : Stmt := top 34
abbrev s_capped : Stmt := top 37
abbrev s_check_long : Stmt := top 38
abbrev s_count_in : Stmt := top 39
abbrev s_count_of : Stmt := top 40
abbrev s_spread_count : Stmt := top 41
abbrev s_tree_at : Stmt := top 43
abbrev s_all_places : Stmt := top 44
abbrev s_bare_places : Stmt := top 45
abbrev s_steps_of : Stmt := top 47
abbrev s_steps_in : Stmt := top 48
abbrev s_leads : Stmt := top 49
abbrev s_ending_kinds : Stmt := top 50
abbrev s_lead_into : Stmt := top 51
abbrev s_endless_kinds : Stmt := top 52
abbrev s_check_ends : Stmt := top 53
abbrev s_most_falls : Stmt := top 55
abbrev s_long_fall : Stmt := top 56
abbrev s_most_by_kind : Stmt := top 57
abbrev s_laid_by_rule : Stmt := top 58
abbrev s_laid_count : Stmt := top 59
abbrev s_fewest_falls : Stmt := top 61
abbrev s_short_fall : Stmt := top 62
abbrev s__law_purse : Stmt := top 64
abbrev s__law_take : Stmt := top 65
abbrev s__law_tidy : Stmt := top 66
abbrev s__law_side : Stmt := top 67
abbrev s__law_kinds : Stmt := top 68
abbrev s__law_inside : Stmt := top 69
abbrev s__law_leads : Stmt := top 70
abbrev s__law_come : Stmt := top 71
abbrev s__law_endless : Stmt := top 72
abbrev s__law_seen : Stmt := top 73
abbrev s__law_nought : Stmt := top 74
abbrev s__law_right : Stmt := top 75
abbrev s__law_chain : Stmt := top 76
abbrev s_law : Stmt := top 77
abbrev s_NoKind___init__ : Stmt := inClass (top 12) 0
abbrev s_Endless___init__ : Stmt := inClass (top 13) 0
abbrev s_Book___init__ : Stmt := inClass (top 27) 0
abbrev s_Book_names : Stmt := inClass (top 27) 1
abbrev s_Book_spreads : Stmt := inClass (top 27) 2
abbrev s_Book_rules : Stmt := inClass (top 27) 3
abbrev eC : List Str := ["NoKind", "Endless", "NoPlace", "TooLong"]
abbrev eN : List Str := ["NoPlace", "NoBook", "NoKind", "Endless", "TooLong"]
abbrev eK : List Str := ["NoKind", "Endless"]
def d_is_whole : He.DefD := ⟨("is_whole", none), "is_whole", "is_whole", defArgs s_is_whole, defBody s_is_whole, defScope s_is_whole, [], []⟩
def d_is_many : He.DefD := ⟨("is_many", none), "is_many", "is_many", defArgs s_is_many, defBody s_is_many, defScope s_is_many, [], []⟩
def d_is_name : He.DefD := ⟨("is_name", none), "is_name", "is_name", defArgs s_is_name, defBody s_is_name, defScope s_is_name, [], []⟩
def d_is_rising : He.DefD := ⟨("is_rising", none), "is_rising", "is_rising", defArgs s_is_rising, defBody s_is_rising, defScope s_is_rising, [], []⟩
def d_run_of : He.DefD := ⟨("run_of", none), "run_of", "run_of", defArgs s_run_of, defBody s_run_of, defScope s_run_of, [], []⟩
def d_is_tree : He.DefD := ⟨("is_tree", none), "is_tree", "is_tree", defArgs s_is_tree, defBody s_is_tree, defScope s_is_tree, [], []⟩
def d_is_grove : He.DefD := ⟨("is_grove", none), "is_grove", "is_grove", defArgs s_is_grove, defBody s_is_grove, defScope s_is_grove, [], []⟩
def d_are_grove_pairs : He.DefD := ⟨("are_grove_pairs", none), "are_grove_pairs", "are_grove_pairs", defArgs s_are_grove_pairs, defBody s_are_grove_pairs, defScope s_are_grove_pairs, [], []⟩
def d_pairs_within : He.DefD := ⟨("pairs_within", none), "pairs_within", "pairs_within", defArgs s_pairs_within, defBody s_pairs_within, defScope s_pairs_within, [], []⟩
def d_kinds_within : He.DefD := ⟨("kinds_within", none), "kinds_within", "kinds_within", defArgs s_kinds_within, defBody s_kinds_within, defScope s_kinds_within, [], []⟩
def d_rules_from_nought : He.DefD := ⟨("rules_from_nought", none), "rules_from_nought", "rules_from_nought", defArgs s_rules_from_nought, defBody s_rules_from_nought, defScope s_rules_from_nought, [], []⟩
def d_check_kind : He.DefD := ⟨("check_kind", none), "check_kind", "check_kind", defArgs s_check_kind, defBody s_check_kind, defScope s_check_kind, [], []⟩
def d_check_kinds : He.DefD := ⟨("check_kinds", none), "check_kinds", "check_kinds", defArgs s_check_kinds, defBody s_check_kinds, defScope s_check_kinds, [], []⟩
def d_are_kinds : He.DefD := ⟨("are_kinds", none), "are_kinds", "are_kinds", defArgs s_are_kinds, defBody s_are_kinds, defScope s_are_kinds, [], []⟩
def d_is_kind : He.DefD := ⟨("is_kind", none), "is_kind", "is_kind", defArgs s_is_kind, defBody s_is_kind, defScope s_is_kind, [], []⟩
def d_is_rule : He.DefD := ⟨("is_rule", none), "is_rule", "is_rule", defArgs s_is_rule, defBody s_is_rule, defScope s_is_rule, [], []⟩
def d_is_rule_of : He.DefD := ⟨("is_rule_of", none), "is_rule_of", "is_rule_of", defArgs s_is_rule_of, defBody s_is_rule_of, defScope s_is_rule_of, [], []⟩
def d_capped : He.DefD := ⟨("capped", none), "capped", "capped", defArgs s_capped, defBody s_capped, defScope s_capped, [], []⟩
def d_check_long : He.DefD := ⟨("check_long", none), "check_long", "check_long", defArgs s_check_long, defBody s_check_long, defScope s_check_long, [], []⟩
def d_count_in : He.DefD := ⟨("count_in", none), "count_in", "count_in", defArgs s_count_in, defBody s_count_in, defScope s_count_in, [], []⟩
def d_count_of : He.DefD := ⟨("count_of", none), "count_of", "count_of", defArgs s_count_of, defBody s_count_of, defScope s_count_of, [], []⟩
def d_spread_count : He.DefD := ⟨("spread_count", none), "spread_count", "spread_count", defArgs s_spread_count, defBody s_spread_count, defScope s_spread_count, [], []⟩
def d_tree_at : He.DefD := ⟨("tree_at", none), "tree_at", "tree_at", defArgs s_tree_at, defBody s_tree_at, defScope s_tree_at, [], []⟩
def d_all_places : He.DefD := ⟨("all_places", none), "all_places", "all_places", defArgs s_all_places, defBody s_all_places, defScope s_all_places, [], []⟩
def d_bare_places : He.DefD := ⟨("bare_places", none), "bare_places", "bare_places", defArgs s_bare_places, defBody s_bare_places, defScope s_bare_places, [], []⟩
def d_steps_of : He.DefD := ⟨("steps_of", none), "steps_of", "steps_of", defArgs s_steps_of, defBody s_steps_of, defScope s_steps_of, [], []⟩
def d_steps_in : He.DefD := ⟨("steps_in", none), "steps_in", "steps_in", defArgs s_steps_in, defBody s_steps_in, defScope s_steps_in, [], []⟩
def d_leads : He.DefD := ⟨("leads", none), "leads", "leads", defArgs s_leads, defBody s_leads, defScope s_leads, [], []⟩
def d_ending_kinds : He.DefD := ⟨("ending_kinds", none), "ending_kinds", "ending_kinds", defArgs s_ending_kinds, defBody s_ending_kinds, defScope s_ending_kinds, [], []⟩
def d_lead_into : He.DefD := ⟨("lead_into", none), "lead_into", "lead_into", defArgs s_lead_into, defBody s_lead_into, defScope s_lead_into, [], []⟩
def d_endless_kinds : He.DefD := ⟨("endless_kinds", none), "endless_kinds", "endless_kinds", defArgs s_endless_kinds, defBody s_endless_kinds, defScope s_endless_kinds, [], []⟩
def d_check_ends : He.DefD := ⟨("check_ends", none), "check_ends", "check_ends", defArgs s_check_ends, defBody s_check_ends, defScope s_check_ends, [], []⟩
def d_most_falls : He.DefD := ⟨("most_falls", none), "most_falls", "most_falls", defArgs s_most_falls, defBody s_most_falls, defScope s_most_falls, [], []⟩
def d_long_fall : He.DefD := ⟨("long_fall", none), "long_fall", "long_fall", defArgs s_long_fall, defBody s_long_fall, defScope s_long_fall, [], []⟩
def d_most_by_kind : He.DefD := ⟨("most_by_kind", none), "most_by_kind", "most_by_kind", defArgs s_most_by_kind, defBody s_most_by_kind, defScope s_most_by_kind, [], []⟩
def d_laid_by_rule : He.DefD := ⟨("laid_by_rule", none), "laid_by_rule", "laid_by_rule", defArgs s_laid_by_rule, defBody s_laid_by_rule, defScope s_laid_by_rule, [], []⟩
def d_laid_count : He.DefD := ⟨("laid_count", none), "laid_count", "laid_count", defArgs s_laid_count, defBody s_laid_count, defScope s_laid_count, [], []⟩
def d_fewest_falls : He.DefD := ⟨("fewest_falls", none), "fewest_falls", "fewest_falls", defArgs s_fewest_falls, defBody s_fewest_falls, defScope s_fewest_falls, [], []⟩
def d_short_fall : He.DefD := ⟨("short_fall", none), "short_fall", "short_fall", defArgs s_short_fall, defBody s_short_fall, defScope s_short_fall, [], []⟩
def d__law_purse : He.DefD := ⟨("_law_purse", none), "_law_purse", "_law_purse", defArgs s__law_purse, defBody s__law_purse, defScope s__law_purse, [], []⟩
def d__law_take : He.DefD := ⟨("_law_take", none), "_law_take", "_law_take", defArgs s__law_take, defBody s__law_take, defScope s__law_take, [], []⟩
def d__law_tidy : He.DefD := ⟨("_law_tidy", none), "_law_tidy", "_law_tidy", defArgs s__law_tidy, defBody s__law_tidy, defScope s__law_tidy, [], []⟩
def d__law_side : He.DefD := ⟨("_law_side", none), "_law_side", "_law_side", defArgs s__law_side, defBody s__law_side, defScope s__law_side, [], []⟩
def d__law_kinds : He.DefD := ⟨("_law_kinds", none), "_law_kinds", "_law_kinds", defArgs s__law_kinds, defBody s__law_kinds, defScope s__law_kinds, [], []⟩
def d__law_inside : He.DefD := ⟨("_law_inside", none), "_law_inside", "_law_inside", defArgs s__law_inside, defBody s__law_inside, defScope s__law_inside, [], []⟩
def d__law_leads : He.DefD := ⟨("_law_leads", none), "_law_leads", "_law_leads", defArgs s__law_leads, defBody s__law_leads, defScope s__law_leads, [], []⟩
def d__law_come : He.DefD := ⟨("_law_come", none), "_law_come", "_law_come", defArgs s__law_come, defBody s__law_come, defScope s__law_come, [], []⟩
def d__law_endless : He.DefD := ⟨("_law_endless", none), "_law_endless", "_law_endless", defArgs s__law_endless, defBody s__law_endless, defScope s__law_endless, [], []⟩
def d__law_seen : He.DefD := ⟨("_law_seen", none), "_law_seen", "_law_seen", defArgs s__law_seen, defBody s__law_seen, defScope s__law_seen, [], []⟩
def d__law_nought : He.DefD := ⟨("_law_nought", none), "_law_nought", "_law_nought", defArgs s__law_nought, defBody s__law_nought, defScope s__law_nought, [], []⟩
def d__law_right : He.DefD := ⟨("_law_right", none), "_law_right", "_law_right", defArgs s__law_right, defBody s__law_right, defScope s__law_right, [], []⟩
def d__law_chain : He.DefD := ⟨("_law_chain", none), "_law_chain", "_law_chain", defArgs s__law_chain, defBody s__law_chain, defScope s__law_chain, [], []⟩
def d_law : He.DefD := ⟨("law", none), "law", "law", defArgs s_law, defBody s_law, defScope s_law, [], []⟩
def d_NoKind___init__ : He.DefD := ⟨("NoKind", some "__init__"), "__init__", "NoKind.__init__", defArgs s_NoKind___init__, defBody s_NoKind___init__, defScope s_NoKind___init__, [], []⟩
def d_Endless___init__ : He.DefD := ⟨("Endless", some "__init__"), "__init__", "Endless.__init__", defArgs s_Endless___init__, defBody s_Endless___init__, defScope s_Endless___init__, [], []⟩
def d_Book___init__ : He.DefD := ⟨("Book", some "__init__"), "__init__", "Book.__init__", defArgs s_Book___init__, defBody s_Book___init__, defScope s_Book___init__, [], []⟩
def d_Book_names : He.DefD := ⟨("Book", some "names"), "names", "Book.names", defArgs s_Book_names, defBody s_Book_names, defScope s_Book_names, [], []⟩
def d_Book_spreads : He.DefD := ⟨("Book", some "spreads"), "spreads", "Book.spreads", defArgs s_Book_spreads, defBody s_Book_spreads, defScope s_Book_spreads, [], []⟩
def d_Book_rules : He.DefD := ⟨("Book", some "rules"), "rules", "Book.rules", defArgs s_Book_rules, defBody s_Book_rules, defScope s_Book_rules, [], []⟩
def fn : List He.DefD := [d_is_whole, d_is_many, d_is_name, d_is_rising, d_run_of, d_is_tree, d_is_grove, d_are_grove_pairs, d_pairs_within, d_kinds_within, d_rules_from_nought, d_check_kind, d_check_kinds, d_are_kinds, d_is_kind, d_is_rule, d_is_rule_of, d_capped, d_check_long, d_count_in, d_count_of, d_spread_count, d_tree_at, d_all_places, d_bare_places, d_steps_of, d_steps_in, d_leads, d_ending_kinds, d_lead_into, d_endless_kinds, d_check_ends, d_most_falls, d_long_fall, d_most_by_kind, d_laid_by_rule, d_laid_count, d_fewest_falls, d_short_fall, d__law_purse, d__law_take, d__law_tidy, d__law_side, d__law_kinds, d__law_inside, d__law_leads, d__law_come, d__law_endless, d__law_seen, d__law_nought, d__law_right, d__law_chain, d_law, d_NoKind___init__, d_Endless___init__, d_Book___init__, d_Book_names, d_Book_spreads, d_Book_rules]
def fa1 : List He.Fa := [.glo "is_whole", .glo "is_many", .glo "is_name", .glo "is_rising", .glo "run_of", .glo "is_tree", .glo "is_grove", .glo "are_grove_pairs", .glo "pairs_within", .glo "kinds_within", .glo "rules_from_nought", .glo "check_kind", .glo "check_kinds", .glo "are_kinds", .glo "is_kind", .glo "is_rule", .glo "is_rule_of", .glo "capped", .glo "check_long", .glo "count_in", .glo "count_of", .glo "spread_count", .glo "tree_at", .glo "all_places", .glo "bare_places", .glo "steps_of", .glo "steps_in", .glo "leads", .glo "ending_kinds", .glo "lead_into", .glo "endless_kinds", .glo "check_ends", .glo "most_falls", .glo "long_fall", .glo "most_by_kind", .glo "laid_by_rule", .glo "laid_count", .glo "fewest_falls", .glo "short_fall", .glo "_law_purse", .glo "_law_take", .glo "_law_tidy", .glo "_law_side", .glo "_law_kinds", .glo "_law_inside", .glo "_law_leads", .glo "_law_come", .glo "_law_endless", .glo "_law_seen", .glo "_law_nought", .glo "_law_right", .glo "_law_chain"]
def fa2 : List He.Fa := [.glo "law", .free "len", .free "isinstance", .free "int", .free "bool", .free "str", .free "tuple", .free "list", .free "all", .free "zip", .free "sum", .free "max", .free "range", .free "enumerate", .free "abs", .free "sorted", .free "min", .free "reversed", .free "any", .free "set", .free "dict", .free "repr", .glo "FellError", .free "ValueError", .glo "NoPlace", .glo "NoBook", .glo "NoKind", .glo "Endless", .glo "TooLong", .noat "NoKind" "kind", .noat "Endless" "kind", .str "LETTERS" "abcdefghijklmnopqrstuvwxyz", .int "LONGEST_NAME" (8), .int "MOST_KINDS" (8), .int "MOST_RULES" (4), .int "MOST_RULE_PARTS" (4), .int "MOST_MANY" (1000000000), .int "TOO_LONG" (1000000000000000000000000000000000000000000000000000000000000000000000000000000000000000000000000000000000000000000000000000000000000000000000000000000000000000000000000000000000000000000000000000000000000000000000000000000000000000000000000000000000000000000000000000000000000000000000000000000000000), .glo "NO_GROVES", .exc "NoBook", .exc "NoPlace", .exc "TooLong", .meth "NoKind" "__init__", .meth "Endless" "__init__", .glo "Book", .cls "Book", .noat "Book" "spread_by_name", .noat "Book" "rows_by_name", .mkr "Book", .meth "Book" "names", .meth "Book" "spreads", .meth "Book" "rules"]
def fa : List He.Fa := fa1 ++ fa2
def exOk (K : PySem.W.Frag) : Bool := oexCB K (He.ga K "NoKind") && (oexCB K (He.ga K "Endless") && (no2B K (He.ga K "NO_GROVES") && (ermB K (He.ga K) eC eN)))
abbrev R : PySem.W.OpenRow := PySem.W.OpenLaw.row PySem.Challenge.rw_felltimber_k67_counts_refused
def as0 : List Addr := [3, 6, 4, 21, 28, 35, 40, 47, 57, 70, 82, 101, 120, 132, 141, 146, 153, 160, 165, 168, 204, 215, 222, 229, 234, 239, 244, 249, 256, 263, 268, 275, 282, 289, 294, 299, 306, 311, 316, 321, 326, 331, 338, 345, 352, 359, 364, 371, 376, 383, 390, 397, 404, 409, 416, 423, 430, 437, 442, 449, 456, 461, 468, 473, 0, 20, 27, 34, 39, 46, 56, 69, 81, 100, 119, 131, 140, 145, 152, 159, 164, 166, 167, 203, 214, 221, 228, 233, 238, 243, 248, 255, 262, 267, 274, 281, 288, 293, 298, 305, 310, 315, 320, 325, 330, 337, 344, 351, 358, 363, 370, 375, 382, 389, 396, 403, 408, 415, 422, 429, 436, 441, 448, 455, 460, 467, 472, 15, 16, 17, 18, 19, 22, 23, 24, 25, 26, 29, 30, 31, 32, 33, 36, 37, 38, 41, 42, 43, 44, 45, 55, 58, 68, 80, 98, 99, 117, 118, 130, 135, 136, 137, 138, 139, 142, 143, 144, 147, 148, 149, 150, 151, 154, 155, 156, 157, 158, 161, 162, 163, 180, 187, 194, 201, 202, 205, 206, 209, 210, 211, 212, 213, 216, 217, 218, 219, 220, 223, 224, 225, 226, 227, 230, 231, 232, 235, 236, 237, 240, 241, 242, 245, 246, 247, 250, 251, 252, 253, 254, 257, 258, 259, 260, 261, 264, 265, 266, 269, 270, 271, 272, 273, 276, 277, 278, 279, 280, 283, 284, 285, 286, 287, 290, 291, 292, 295, 296, 297, 300, 301, 302, 303, 304, 307, 308, 309, 312, 313, 314, 317, 318, 319, 322, 323, 324, 327, 328, 329, 332, 333, 334, 335, 336, 339, 340, 341, 342, 343, 346, 347, 348, 349, 350, 353, 354, 355, 356, 357, 360, 361, 362, 365, 366, 367, 368, 369, 372, 373, 374, 377, 378, 379, 380, 381, 384, 385, 386, 387, 388, 391, 392, 393, 394, 395, 398, 399, 400, 401, 402, 405, 406, 407, 410, 411, 412, 413, 414, 417, 418, 419, 420, 421, 424, 425, 426, 427, 428, 431, 432, 433, 434, 435, 438, 439, 440, 443, 444, 445, 446, 447, 450, 451, 452, 453, 454, 457, 458, 459, 462, 463, 464, 465, 466, 469, 470, 471, 97, 116, 179, 186, 193, 200, 92, 93, 94, 95, 96, 111, 112, 113, 114, 115, 176, 177, 178, 181, 182, 183, 184, 185, 188, 189, 190, 191, 192, 195, 196, 197, 198, 199]
def obsL (as : List Addr) (fa : List He.Fa) (fn : List He.DefD) (ex : PySem.W.Frag -> Bool) (g : Addr -> Option Obj) : AlE := (He.obsD fa fn (He.frG g as), ex (He.frG g as))
def hookL (as : List Addr) (fa : List He.Fa) (fn : List He.DefD) (ex : PySem.W.Frag -> Bool) : PySem.W.Hook where
 α := AlE
 obs := fun s => obsL as fa fn ex s.heap.get?
 val := fun _ => (He.valD fn, true)
 says := fun _ h => ∃ K : PySem.W.Frag, K.In h /\ He.SaysD fa fn K /\ ex K = true
 of := fun _ _ e => ⟨_, He.frG_in, congrArg (fun z : AlE => z.1) e, congrArg (fun z : AlE => z.2) e⟩
 keeps := fun _ _ _ ⟨K, hK, c⟩ k => ⟨K, PySem.W.Frag.In.keeps hK k, c⟩
theorem obsL_eq {as : List Addr} {fa : List He.Fa} {fn : List He.DefD} {ex : PySem.W.Frag -> Bool} {g : Addr -> Option Obj} {s : Shared} (h : ∀ a, g a = s.heap.get? a) : obsL as fa fn ex g = (hookL as fa fn ex).obs s := by
 have e : g = s.heap.get? := funext h
 rw [e] <;> rfl
abbrev hk : PySem.W.Hook := hookL as0 fa fn exOk
def ob (s : PySem.W.SharedT) : AlE := obsL as0 fa fn exOk (HandSHeadRun.getT s)
theorem ob_eq (s : PySem.W.SharedT) : ob s = hk.obs s.abs := obsL_eq (HandSHeadRun.getT_eq s)
def loose : List PySem.Str := (["is_whole", "is_many", "is_name", "is_rising", "run_of", "FellError", "NoPlace", "NoBook", "NoKind", "Endless", "TooLong", "is_tree"] : List PySem.Str) ++ (["is_grove", "are_grove_pairs", "pairs_within", "kinds_within", "Book", "rules_from_nought", "check_kind", "check_kinds", "are_kinds", "is_kind", "is_rule", "is_rule_of"] : List PySem.Str) ++ (["capped", "check_long", "count_in", "count_of", "spread_count", "tree_at", "all_places", "bare_places", "steps_of", "steps_in", "leads", "ending_kinds"] : List PySem.Str) ++ (["lead_into", "endless_kinds", "check_ends", "most_falls", "long_fall", "most_by_kind", "laid_by_rule", "laid_count", "fewest_falls", "short_fall", "_law_purse", "_law_take"] : List PySem.Str) ++ (["_law_tidy", "_law_side", "_law_kinds", "_law_inside", "_law_leads", "_law_come", "_law_endless", "_law_seen", "_law_nought", "_law_right", "_law_chain", "LETTERS"] : List PySem.Str) ++ (["LONGEST_NAME", "MOST_KINDS", "MOST_MANY", "MOST_RULES", "MOST_RULE_PARTS", "NO_GROVES", "TOO_LONG"] : List PySem.Str)
def KTr (s : PySem.W.SharedT) : PySem.W.Frag := He.frG (HandSHeadRun.getT s) as0
theorem run1 (w : World) (os : PySem.OsState) : (HandSHeadRun.endF (HandSHeadRun.stepQ (HandSHeadRun.denQ HandSHeadRun.tabQ) R.prog w) 9000 R.prog w os).map (fun s => HandSHeadRun.looksF R.prog (PySem.W.boot_heap w.params) s.abs) = some true := by
 kernel_rfl
theorem run2 (w : World) (os : PySem.OsState) : (HandSHeadRun.endF (HandSHeadRun.stepQ (HandSHeadRun.denQ HandSHeadRun.tabQ) R.prog w) 9000 R.prog w os).map (fun s => HandSHeadRun.seenQ (PySem.W.view R.prog [77]) loose (importedModules R.prog.main.body) (fun s => xlAt (PySem.W.view R.prog [77]) [] s && recOk R.toRowW.records s) s.abs) = some (openGood (PySem.W.view R.prog [77]) loose) := by
 kernel_rfl
theorem run3 (w : World) (os : PySem.OsState) : (HandSHeadRun.endF (HandSHeadRun.stepQ (HandSHeadRun.denQ HandSHeadRun.tabQ) R.prog w) 9000 R.prog w os).map (fun s => fa1.all fun f => f.ok (KTr s)) = some true := by
 kernel_rfl
theorem run4 (w : World) (os : PySem.OsState) : (HandSHeadRun.endF (HandSHeadRun.stepQ (HandSHeadRun.denQ HandSHeadRun.tabQ) R.prog w) 9000 R.prog w os).map (fun s => fa2.all fun f => f.ok (KTr s)) = some true := by
 kernel_rfl
theorem run5 (w : World) (os : PySem.OsState) : (HandSHeadRun.endF (HandSHeadRun.stepQ (HandSHeadRun.denQ HandSHeadRun.tabQ) R.prog w) 9000 R.prog w os).map (fun s => fn.all fun d => d.ok (KTr s)) = some true := by
 kernel_rfl
theorem run6 (w : World) (os : PySem.OsState) : (HandSHeadRun.endF (HandSHeadRun.stepQ (HandSHeadRun.denQ HandSHeadRun.tabQ) R.prog w) 9000 R.prog w os).map (fun s => fn.map fun d => He.fnW (KTr s) d.at_) = some (fn.map He.DefD.val) := by
 kernel_rfl
theorem run7 (w : World) (os : PySem.OsState) : (HandSHeadRun.endF (HandSHeadRun.stepQ (HandSHeadRun.denQ HandSHeadRun.tabQ) R.prog w) 9000 R.prog w os).map (fun s => exOk (KTr s)) = some true := by
 kernel_rfl
theorem map3 {σ α β γ : Type} {o : Option σ} {A : σ -> α} {B : σ -> β} {C : σ -> γ} {a : α} {b : β} {c : γ} (h1 : o.map A = some a) (h2 : o.map B = some b) (h3 : o.map C = some c) : o.map (fun s => (A s, B s, C s)) = some (a, b, c) := by
 cases o with
 | none => cases h1
 | some s => exact congrArg some (Prod.ext (Option.some.inj h1) (Prod.ext (Option.some.inj h2) (Option.some.inj h3)))
theorem mapE {σ : Type} {o : Option σ} {f1 f2 : List He.Fa} {gn : List He.DefD} {ex : PySem.W.Frag -> Bool} (K : σ -> PySem.W.Frag) (h1 : o.map (fun s => f1.all fun f => f.ok (K s)) = some true) (h2 : o.map (fun s => f2.all fun f => f.ok (K s)) = some true) (h3 : o.map (fun s => gn.all fun d => d.ok (K s)) = some true) (h4 : o.map (fun s => gn.map fun d => He.fnW (K s) d.at_) = some (gn.map He.DefD.val)) (h5 : o.map (fun s => ex (K s)) = some true) : o.map (fun s => (He.obsD (f1 ++ f2) gn (K s), ex (K s))) = some (He.valD gn, true) := by
 cases o with
 | none => cases h1
 | some s =>
  have e1 : (f1.all fun f => f.ok (K s)) = true := Option.some.inj h1
  have e2 : (f2.all fun f => f.ok (K s)) = true := Option.some.inj h2
  have e3 : (gn.all fun d => d.ok (K s)) = true := Option.some.inj h3
  have e4 : (gn.map fun d => He.fnW (K s) d.at_) = gn.map He.DefD.val := Option.some.inj h4
  have e5 : ex (K s) = true := Option.some.inj h5
  refine congrArg some (Prod.ext (Prod.ext ?_ e4) e5)
  show (((f1 ++ f2).all fun f => f.ok (K s)) && gn.all fun d => d.ok (K s)) = true
  rw [List.all_append, e1, e2, e3]; rfl
theorem run (w : World) : HandSHeadRun.RunEq R (PySem.W.view R.prog [77]) hk ob 9000 loose w := by
 intro os
 exact map3 (run1 w os) (run2 w os) (mapE KTr (run3 w os) (run4 w os) (run5 w os) (run6 w os) (run7 w os))
section
variable {P : Program} {w : World} {K : PySem.W.Frag} {mg : Str -> Option Value} {base : Heap} {f : Addr} {fd : FuncData} {ps : List Addr}
theorem sc_is_whole : FnScope ["thing"] ["thing"] (defScope s_is_whole) := ⟨rfl, rfl, rfl, by decide +kernel, rfl, by decide +kernel, by decide +kernel⟩
theorem ok_is_whole (B : BI mg) (F : Fun K "is_whole" "is_whole" s_is_whole f fd) : FnOk P w K mg base CX0 1 f fd ["thing"] (spWhole K) := by
 refine F.ok sc_is_whole (fun vs H Q E h => ?_) (fun cdv A outer s H vs Q E hr h => ?_)
 ·obtain ⟨v, n, b1, b2, rfl, _⟩ := h
  rfl
 obtain ⟨v, n, b1, b2, rfl, ty, k1, k2, q⟩ := h
 refine ⟨_, pss_one (ps_ret (pe_and (pe_isi B (pv 0) B.int boot_int) (pe_one (pe_not (pe_isi B (pv 0) B.bool boot_bool))))), ?_⟩
 refine ⟨_, rfl, _, _, n, b1, rfl, ty, k1, b1, rfl, ?_⟩
 cases b1 with
 | false => exact iteF q
 | true =>
  refine iteT ⟨_, rfl, _, _, n, b2, rfl, ty, k2 rfl, b2, rfl, ?_⟩
  exact q
end
section
variable {P : Program} {w : World} {K : PySem.W.Frag} {mg : Str -> Option Value} {base : Heap} {f : Addr} {fd : FuncData} {ps : List Addr}
theorem sc_is_many : FnScope ["thing"] ["thing"] (defScope s_is_many) := ⟨rfl, rfl, rfl, by decide +kernel, rfl, by decide +kernel, by decide +kernel⟩
theorem ok_is_many {ps : List Addr} (B : BI mg) (G : Got P w K mg base "is_whole" ["thing"] 1 (spWhole K)) (F : Fun K "is_many" "is_many" s_is_many f fd) : FnOk P w K mg base CX0 2 f fd ["thing"] (spMany K ps) := by
 refine F.ok sc_is_many (fun vs H Q E h => ?_) (fun cdv A outer s H vs Q E hr h => ?_)
 ·obtain ⟨v, d, rfl, _⟩ := h
  rfl
 obtain ⟨v, d, rfl, th, q⟩ := h
 refine ⟨_, pss_one (ps_ret (pe_and (pe_got G hr rfl (pa_cons (pv 0) pa_nil)) (pe_one (pe_cmpR op_ge (pv 0) pe_int (nomark _))))), ?_⟩
 obtain ⟨n, b1, b2, ty, k1, k2, y1, y2⟩ := th.whole
 refine ⟨_, rfl, v, n, b1, b2, rfl, ty, k1, k2, b1 && !b2, rfl, ?_⟩
 cases e : (b1 && !b2) with
 | false =>
  refine iteF ?_
  rw [y2 e] at q
  exact q
 | true =>
  obtain ⟨i, rfl, rfl⟩ := y1 e
  exact iteT ⟨_, rfl, _, _, rfl, rfl, q⟩
end
section
variable {P : Program} {w : World} {K : PySem.W.Frag} {mg : Str -> Option Value} {base : Heap} {f : Addr} {fd : FuncData}
theorem sc_is_name : FnScope ["thing"] ["thing"] (defScope s_is_name) := ⟨rfl, rfl, rfl, by decide +kernel, rfl, by decide +kernel, by decide +kernel⟩
theorem ok_is_name (B : BI mg) (L : ∃ t, mg "LETTERS" = some (.str abc t)) (N : ∃ t, mg "LONGEST_NAME" = some (.int 8 t)) (G : Got P w K mg base "run_of" ["text", "at", "signs"] 1 (spRunOf K)) (F : Fun K "is_name" "is_name" s_is_name f fd) : FnOk P w K mg base CX0 2 f fd ["thing"] (spName K) := by
 refine F.ok sc_is_name (fun vs H Q E h => ?_) (fun cdv A outer s H vs Q E hr h => ?_)
 ·obtain ⟨v, d, rfl, _⟩ := h
  rfl
 obtain ⟨v, d, rfl, th, q⟩ := h
 obtain ⟨tl, hL⟩ := L
 obtain ⟨tn, hN⟩ := N
 refine ⟨_, pss_cons (ps_if (PW.pt (pw_or (pt_not (pt_val (pe_isi B (pv 0) B.str boot_str))) (pw_or1 (pt_not (pt_chain op_le op_le pe_int (pe_callB call_len_str rfl B.len PySem.boot_len (pa_cons (pv 0) pa_nil)) (pe_glob (v := .int 8) rfl hN ⟨_, rfl⟩)))))) (pss_one (ps_ret pe_bl)) pss_nil)
  (pss_one (ps_ret (pe_cmpR op_eq (pe_got G hr rfl (pa_cons (pv 0) (pa_cons pe_int (pa_cons (pe_glob (v := .str abc) rfl hL ⟨_, rfl⟩) pa_nil)))) (pv 0) (nomark _)))), ?_⟩
 obtain ⟨n1, b, ty, kb, y1, y2⟩ := th.txt
 refine ⟨_, rfl, _, _, n1, b, rfl, ty, kb, b, rfl, ?_⟩
 cases b with
 | false =>
  refine iteT (iteT ?_)
  have e : nameD d = false := by
   cases d with
   | str z => exact absurd rfl (y2 rfl z)
   | _ => simp [nameD]
  have := q H SB.refl
  rw [e] at this
  exact this
 | true =>
 refine iteF ?_
 obtain ⟨z, rfl, rfl, hz⟩ := y1 rfl
 have hzl : z.length <= sizeLine := by have := sizeLine_eq; omega
 refine ⟨_, rfl, z, rfl, hzl, _, _, rfl, rfl, _, rfl, ?_⟩
 by_cases h1 : 1 <= z.length
 ·rw [show decide ((1 : Int) <= (z.length : Int)) = true from decide_eq_true (by omega)]
  refine iteT ⟨_, _, rfl, rfl, _, rfl, ?_⟩
  by_cases h8 : z.length <= 8
  ·rw [show decide ((z.length : Int) <= 8) = true from decide_eq_true (by omega)]
   refine iteF ?_
   refine ⟨_, rfl, z, abc, 0, rfl, by omega, Nat.zero_le _, fun e _ he hin hout => ?_⟩
   refine ⟨_, rfl, rfl, ?_⟩
   have := q H SB.refl
   rw [<- run_name h1 h8 he hin hout] at this
   exact this
  ·rw [show decide ((z.length : Int) <= 8) = false from decide_eq_false (by omega)]
   have := q H SB.refl
   rw [name_out fun h => h8 h.2] at this
   exact iteT this
 ·rw [show decide ((1 : Int) <= (z.length : Int)) = false from decide_eq_false (by omega)]
  have := q H SB.refl
  rw [name_out fun h => h1 h.1] at this
  exact iteF ⟨_, rfl, iteT this⟩
end
section
variable {P : Program} {w : World} {K : PySem.W.Frag} {mg : Str -> Option Value} {base : Heap} {f : Addr} {fd : FuncData} {ps : List Addr}
theorem sc_is_rising : FnScope N_rising ["things"] (defScope s_is_rising) := ⟨rfl, rfl, rfl, by decide +kernel, rfl, by decide +kernel, by decide +kernel⟩
theorem ok_is_rising (B : BI mg) (F : Fun K "is_rising" "is_rising" s_is_rising f fd) : FnOk P w K mg base CX0 1 f fd ["things"] (spRising K) := by
 refine F.ok sc_is_rising (fun vs H Q E h => ?_) (fun cdv A outer s H vs Q E hr h => ?_)
 ·obtain ⟨v, n, b1, rfl, _⟩ := h
  rfl
 obtain ⟨a, xs, ds, rfl, hS, hDp, hok, hal, hz, q⟩ := h
 have hu : A.units + 200 < cLine := by have := hr.un; show A.units + 200 < cLine; have h3 : (A.deeper (envOfC "is_rising" (defScope s_is_rising) s.heap.objs.size f cdv)).units = A.units + 3 := rfl; omega
 refine ⟨_, pss_one (ps_ret (pe_callB (cr_all rfl) rfl B.all boot_all (pa_cons
  (pe_lc (own := [("low", 1), ("high", 2)]) (g := gTup K 2 (gCons (gName 1) (gCons (gName 2) gNil))) (tt := tYes) (te := tOp (rLtD K) (tVar 1) (tVar 2)) rfl sc_is_rising.nd
   (pi_zip rfl B.zip (pa_cons (pv 0) (pa_cons (pe_slice sl_list (pv 0) (po_some pe_int) po_none) pa_nil)))
   (blkOk_by (N := N_rising) (sc := defScope s_is_rising) (by decide +kernel))
   (fun _ _ _ _ _ => pg_tup rfl (pgs_cons (pg_name (i := 1) sc_is_rising.nd rfl (.inl rfl)) (pgs_cons (pg_name (i := 2) sc_is_rising.nd rfl (.inl rfl)) pgs_nil)))
   (fun _ _ _ _ _ => pts_nil)
   (fun _ _ _ _ _ => pe_cmpR (op_ltD (by have := hu; show A.units + 3 + 100 < cLine; omega)) (pv 1) (pv 2) (nomark _))) pa_nil))), ?_⟩
 refine ⟨_, rfl, _, rfl, 1, rfl, a, xs, rfl, hS, fun p hp => ?_⟩
 rw [cut1]
 have e1 : SB [] H (upd H p (.lst (xs.drop 1))) := SB.new hp _
 refine ⟨a, p, xs, xs.drop 1, rfl, e1.sqL nmn hS, SqL.of upd_same, fun D hD => ?_⟩
 have hpD : p ≠ D := fun z => by subst z; rw [upd_same] at hD; cases hD
 have dl : ds.length = xs.length := (DpAll.length hDp).symm
 refine lc_it (walk_zip (n := min xs.length (xs.drop 1).length) rfl) (fun i H2 => SB [D] (upd H p (.lst (xs.drop 1))) H2 /\ H2 D = some (.lst (((ltsD ds).take i).map V.bl))) ⟨SB.new hD _, upd_same⟩ (fun i H2 hi h2 => ?_) (fun i x H2 H' hi h2 y => ?_) (fun H2 h2 => ?_)
 ·obtain ⟨h2, h3⟩ := h2
  have h4 := h2.drop hD
  exact ⟨(e1.trans h4).sqL nmn hS, h4.sqL nmn (SqL.of upd_same)⟩
 ·obtain ⟨h2, h3⟩ := h2
  have h4 := e1.trans (h2.drop hD)
  obtain ⟨T, x1, y1, rfl, hT, rfl, ex, ey⟩ := y
  have ey : (xs.drop 1)[i]? = some y1 := ey
  rw [List.getElem?_drop, Nat.add_comm] at ey
  obtain ⟨d, ed, hd⟩ := DpAll.get hDp ex
  obtain ⟨d', ed', hd'⟩ := DpAll.get (i := i + 1) hDp ey
  have e5 : SB [] H (upd H2 T (.tup [x1, y1])) := h4.trans (SB.new hT _)
  have m1 := List.mem_of_getElem? ed
  have m2 := List.mem_of_getElem? ed'
  have hTD : D ≠ T := fun z => by subst z; rw [h3] at hT; cases hT
  refine ⟨T, _, rfl, SqT.of upd_same, rfl, _, _, rfl, _, _, rfl, rfl, rfl, ?_⟩
  refine ⟨_, rfl, _, rfl, d, d', Dp_sb e5 _ _ (hok d m1).1 hd, Dp_sb e5 _ _ (hok d' m2).1 hd', hal d m1 d' m2, (hok d m1).2.1, (hok d m1).2.2, _, by rw [upd_ne hTD]; exact h3, ?_, ?_⟩
  ·have := ltsD_length ds
   rw [List.length_map, List.length_take]
   exact small1000 (by omega)
  ·refine ⟨(h2.trans (SB.new hT _)).trans (SB.set (by rw [upd_ne hTD]; exact h3) (by simp) _), ?_⟩
   rw [upd_same, List.take_add_one, ltsD_get ds i d d' ed ed']
   simp
 ·obtain ⟨h2, h3⟩ := h2
  have h4 := e1.trans (h2.drop hD)
  have e6 : (ltsD ds).take (min xs.length (xs.drop 1).length) = ltsD ds := by
   apply List.take_of_length_le
   rw [ltsD_length, List.length_drop]
   omega
  rw [e6] at h3
  exact ⟨D, _, rfl, SqL.of h3, q _ h4⟩
end
section
variable {P : Program} {w : World} {K : PySem.W.Frag} {mg : Str -> Option Value} {base : Heap} {f : Addr} {fd : FuncData}
theorem sc_run_of : FnScope ["text", "at", "signs", "end"] ["text", "at", "signs"] (defScope s_run_of) := ⟨rfl, rfl, rfl, by decide +kernel, rfl, by decide +kernel, by decide +kernel⟩
theorem ok_run_of (B : BI mg) (F : Fun K "run_of" "run_of" s_run_of f fd) : FnOk P w K mg base CX0 1 f fd ["text", "at", "signs"] (spRunOf K) := by
 refine F.ok sc_run_of (fun vs H Q E h => ?_) (fun cdv A outer s H vs Q E hr h => ?_)
 ·obtain ⟨z, y, k, rfl, _⟩ := h
  rfl
 obtain ⟨z, y, k, rfl, hz, hk, q⟩ := h
 refine ⟨_, pss_cons (ps_set (i := 3) sc_run_of.nd rfl (.inl rfl) (pv 1))
  (pss_cons (ps_while PassesOwn.never (PW.pt (pw_and (pt_cmpR op_lt (pv 3) (pe_callB call_len_str rfl B.len PySem.boot_len (pa_cons (pv 0) pa_nil)) (nomark _)) (pw_and1 (pt_cmpR op_in_sign (pe_ix ix_str (pv 0) (pv 3) (fun _ _ => rfl)) (pv 2) (by rfl)))))
   (pss_one (ps_aug (i := 3) sc_run_of.nd rfl (.inl rfl) pe_int ip_add)))
  (pss_one (ps_ret (pe_slice sl_str (pv 0) (po_some (pv 1)) (po_some (pv 3)))))), ?_⟩
 have hzl : z.length <= sizeLine := by have := sizeLine_eq; omega
 have hl := len_cps z
 refine ⟨_, rfl, ?_⟩
 refine ⟨fun mm σ H2 => ∃ e : Nat, mm = z.length - e /\ H2 = H /\ σ = [some (.str z), some (.int (k : Int)), some (.str y), some (.int (e : Int))] /\ k <= e /\ e <= z.length /\ (∀ j c, k <= j -> j < e -> z.cps.toList[j]? = some c -> c ∈ y.cps.toList), ⟨_, k, rfl, rfl, rfl, Nat.le_refl _, hk, fun j c h1 h2 _ => by omega⟩, fun mm σ H2 h2 => ?_⟩
 obtain ⟨e, rfl, rfl, rfl, ke, el, hin⟩ := h2
 refine ⟨_, rfl, _, rfl, z, rfl, hzl, _, _, rfl, rfl, _, rfl, ?_⟩
 have fin : (∀ c, z.cps.toList[e]? = some c -> c ∉ y.cps.toList) -> Q (.str (cutS z (some (k : Int)) (some (e : Int)))) H2 := fun ho => q e ke el hin ho
 by_cases hlt : e < z.length
 ·rw [show decide ((e : Int) < (z.length : Int)) = true from decide_eq_true (by omega)]
  refine iteT ?_
  obtain ⟨c, hc⟩ : ∃ c, z.cps.toList[e]? = some c := ⟨_, List.getElem?_eq_getElem (by omega)⟩
  refine ⟨_, rfl, _, rfl, z, _, c, rfl, rfl, hzl, atI_natN hc, _, rfl, c, y, rfl, rfl, _, rfl, ?_⟩
  by_cases hm : c ∈ y.cps.toList
  ·rw [decide_eq_true hm]
   refine iteT ?_
   refine ⟨_, fun σ' H' z => z, ?_⟩
   refine ⟨_, rfl, _, _, rfl, rfl, z.length - (e + 1), by omega, e + 1, rfl, rfl, rfl, by omega, by omega, fun j c' h1 h2 h3 => ?_⟩
   rcases Nat.lt_or_ge j e with h | h
   ·exact hin j c' h1 h h3
   ·have : j = e := by omega
    subst this
    rw [hc] at h3; cases h3; exact hm
  ·rw [decide_eq_false hm]
   refine iteF ?_
   refine ⟨_, rfl, _, rfl, _, rfl, _, rfl, _, rfl, z, rfl, hzl, fin fun c' h' => ?_⟩
   rw [hc] at h'; cases h'; exact hm
 ·rw [show decide ((e : Int) < (z.length : Int)) = false from decide_eq_false (by omega)]
  refine iteF (iteF ?_)
  refine ⟨_, rfl, _, rfl, _, rfl, _, rfl, _, rfl, z, rfl, hzl, fin fun c' h' => ?_⟩
  have := (List.getElem?_eq_some_iff.mp h').1
  omega
theorem sc_is_tree : FnScope ["thing"] ["thing"] (defScope s_is_tree) := ⟨rfl, rfl, rfl, by decide +kernel, rfl, by decide +kernel, by decide +kernel⟩
theorem none_is_tree {ps : List Str} {k : Nat} : FnOk P w K mg base CX0 k f fd ps (spIsTree K 0) := none_sp fun vs H Q E ⟨v, d, _, _, h, _⟩ => by omega
theorem ok_is_tree {n : Nat} (B : BI mg) (GN : Got P w K mg base "is_name" ["thing"] 2 (spName K)) (G : Got P w K mg base "is_grove" ["thing"] (n + 3) (spIsGrove K n)) (F : Fun K "is_tree" "is_tree" s_is_tree f fd) :
  FnOk P w K mg base CX0 (n + 4) f fd ["thing"] (spIsTree K (n + 1)) := by
 refine F.ok sc_is_tree (fun vs H Q E h => ?_) (fun cdv A outer s H vs Q E hr h => ?_)
 ·obtain ⟨v, l, rfl, _⟩ := h
  rfl
 obtain ⟨v, d, rfl, th, hd, h80, hw, q⟩ := h
 refine ⟨_, pss_one (ps_ret (pe_and (pe_isi B (pv 0) B.tuple boot_tuple) (pe_and (pe_cmpR op_eq (pe_callB call_len_seq rfl B.len PySem.boot_len (pa_cons (pv 0) pa_nil)) pe_int (nomark _))
  (pe_and (pe_got GN (hr.mono (by omega)) rfl (pa_cons (pe_ix ix_tup (pv 0) pe_int (fun _ _ => rfl)) pa_nil)) (pe_one (pe_got G hr rfl (pa_cons (pe_ix ix_tup (pv 0) pe_int (fun _ _ => rfl)) pa_nil))))))), ?_⟩
 obtain ⟨n1, b, ty, kb, y1, y2⟩ := th.ty
 refine ⟨_, rfl, _, _, n1, b, rfl, ty, kb, b, rfl, ?_⟩
 cases b with
 | false =>
  refine iteF ?_
  have e : treeD d = false := by
   cases d with
   | tuple ds => exact absurd rfl (y2 rfl ds)
   | _ => simp [treeD]
  have := q H SB.refl
  rw [e] at this
  exact this
 | true =>
 refine iteT ?_
 obtain ⟨a, xs, ds, rfl, rfl, hs, ha⟩ := y1 rfl
 refine ⟨_, rfl, a, xs, rfl, .inr hs, rfl, _, rfl, ?_⟩
 have hl := TgAll.length ha
 refine ite2 (fun c => ?_) (fun c => ?_)
 ·have c' : V.int (xs.length : Nat) = V.int 2 := of_decide_eq_true c
  injection c' with c'
  have c2 : xs.length = 2 := by omega
  cases ha with
  | nil => simp at c2
  | cons t1 ta =>
   cases ta with
   | nil => simp at c2
   | cons t2 ta =>
    cases ta with
    | cons t3 ta => simp at c2
    | nil =>
     rename_i v1 d1 v2 d2
     have q1 : d2.depth < PyData.depth (.tuple [d1, d2]) := by simp only [PyData.depth, PyData.depthAll]; omega
     have q2 : wide d2 <= wide (.tuple [d1, d2]) := by simp only [wide, wides]; omega
     refine ⟨_, rfl, a, _, _, _, rfl, rfl, hs, atI_nat (j := 0) rfl, v1, d1, rfl, t1, fun H1 h1 => ?_⟩
     refine ⟨_, rfl, ?_⟩
     cases e1 : nameD d1 with
     | false =>
      refine iteF ?_
      have := q H1 h1
      have e : treeD (.tuple [d1, d2]) = false := by simp [treeD, trD2, e1]
      rw [e] at this
      exact this
     | true =>
      refine iteT ?_
      refine ⟨_, rfl, a, _, _, _, rfl, rfl, h1.sqT hs, atI_nat (j := 1) rfl, v2, d2, rfl, Tg_sb h1 t2, by omega, by omega, by omega, fun H2 h2 => ?_⟩
      have := q H2 (h1.trans h2)
      have e : treeD (.tuple [d1, d2]) = groveD d2 := by simp [treeD, trD2, trD3, e1]
      rw [e] at this
      exact this
 ·have c' : ¬ V.int (xs.length : Nat) = V.int 2 := of_decide_eq_false (Bool.eq_false_iff.mpr c)
  have c2 : ¬ xs.length = 2 := fun z => c' (by rw [z]; rfl)
  have e : treeD (.tuple ds) = false := by
   cases e : treeD (.tuple ds) with
   | false => rfl
   | true =>
    obtain ⟨t, e2⟩ := treeD_tr _ e
    injection e2 with e2
    rw [e2] at hl
    exact absurd hl c2
  have := q H SB.refl
  rw [e] at this
  exact this
abbrev N_is_grove : List Str := ["thing", "pair"]
theorem sc_is_grove : FnScope N_is_grove ["thing"] (defScope s_is_grove) := ⟨rfl, rfl, rfl, by decide +kernel, rfl, by decide +kernel, by decide +kernel⟩
theorem none_is_grove {ps : List Str} {k : Nat} : FnOk P w K mg base CX0 k f fd ps (spIsGrove K 0) := none_sp fun vs H Q E ⟨v, d, _, _, h, _⟩ => by omega
theorem exp0_pEnc (bs : List (Tr × Int)) : (bs.map Gr.pEnc).map exp0 = bs.map fun p => Gr.tEnc p.1 := by rw [List.map_map]; rfl
theorem noLists_trs : ∀ bs : List (Tr × Int), noLists (bs.map fun p => Gr.tEnc p.1) = true
 | [] => by simp [noLists]
 | p :: r => by rw [List.map_cons, noLists, noLists_trs r, Gr.noList_tEnc]; rfl
theorem ok_is_grove {n : Nat} (B : BI mg) (GR : Got P w K mg base "is_rising" ["things"] 1 (spRising K)) (G : Got P w K mg base "are_grove_pairs" ["things"] (n + 3) (spPairsQ K true n)) (F : Fun K "is_grove" "is_grove" s_is_grove f fd) :
  FnOk P w K mg base CX0 (n + 4) f fd ["thing"] (spIsGrove K (n + 1)) := by
 refine F.ok sc_is_grove (fun vs H Q E h => ?_) (fun cdv A outer s H vs Q E hr h => ?_)
 ·obtain ⟨v, l, rfl, _⟩ := h
  rfl
 obtain ⟨v, d, rfl, th, hd, h80, hw, q⟩ := h
 refine ⟨_, pss_cons (ps_if (PW.pt (pw_or (pt_not (pt_val (pe_isi B (pv 0) B.tuple boot_tuple))) (pw_or1 (pt_not (pt_val (pe_got G hr rfl (pa_cons (pv 0) pa_nil))))))) (pss_one (ps_ret pe_bl)) pss_nil)
  (pss_one (ps_ret (pe_got GR (hr.mono (by omega)) rfl (pa_cons (pe_lc (own := [("pair", 1)]) (g := gName 1) (tt := tYes) (te := tOp (rIxT K) (tVar 1) (tC (.int 0))) rfl sc_is_grove.nd
   (pi_tup (pv 0))
   (blkOk_by (N := N_is_grove) (sc := defScope s_is_grove) (by decide +kernel))
   (fun _ _ _ _ _ => pg_name (i := 1) sc_is_grove.nd rfl (.inl rfl))
   (fun _ _ _ _ _ => pts_nil)
   (fun _ _ _ _ _ => pe_ix ix_tup (pv 1) pe_int (fun _ _ => rfl))) pa_nil)))), ?_⟩
 obtain ⟨n1, b, ty, kb, y1, y2⟩ := th.ty
 refine ⟨_, rfl, _, _, n1, b, rfl, ty, kb, b, rfl, ?_⟩
 cases b with
 | false =>
  refine iteT (iteT ?_)
  have e : groveD d = false := by
   cases d with
   | tuple ds => exact absurd rfl (y2 rfl ds)
   | _ => simp [groveD]
  have := q H SB.refl
  rw [e] at this
  exact this
 | true =>
 refine iteF ?_
 obtain ⟨a, xs, ds, rfl, rfl, hs, ha⟩ := y1 rfl
 have hl := TgAll.length ha
 have m3 : PyData.depth (.tuple ds) = PyData.depthAll ds + 1 := by simp [PyData.depth]
 refine ⟨_, rfl, a, xs, ds, rfl, by simpa using hs, ha, by omega, by omega, hw, fun H2 h2 => ⟨_, rfl, ?_⟩⟩
 cases e1 : grPs ds with
 | false =>
  refine iteT ?_
  have := q H2 h2
  rw [groveD, e1] at this
  exact this
 | true =>
  refine iteF ?_
  obtain ⟨g, rfl⟩ := grPs_enc ds e1
  have hga : GA K H (.ref a) g := Dp.tup hs (Tg_ga g ha)
  obtain ⟨a', xs', e', hs', hb⟩ := GA_bears (hga.sb h2)
  cases e'
  have hlen := hb.length
  have gl : g.encs.length = g.ps.length := by rw [Gr.encs_ps, List.length_map]
  rw [wide_tuple] at hw
  refine ⟨_, rfl, a, rfl, ⟨xs', hs'⟩, fun D hD => ?_⟩
  refine lc_it (walk_tup (xs := xs')) (fun i H3 => SB [D] H2 H3 /\ ∃ acc, H3 D = some (.lst acc) /\ DpAll K H3 acc ((g.ps.take i).map fun p => Gr.tEnc p.1)) ⟨SB.new hD _, [], upd_same, .nil⟩ (fun i H3 hi h3 => (h3.1.drop hD).sqT hs') (fun i x H3 H' hi h3 y => ?_) (fun H3 h3 => ?_)
  ·obtain ⟨h3, acc, h4, h5⟩ := h3
   obtain ⟨rfl, ex⟩ := y
   obtain ⟨p, ep, hpd⟩ := hb.get ex
   obtain ⟨ad, bd, ux, rfl, hsx, hst, hdx, hdt⟩ := PA_parts hpd
   have h6 := h3.drop hD
   have hla2 := DpAll.length h5
   refine ⟨rfl, ?_⟩
   refine ⟨_, rfl, ad, _, _, _, rfl, rfl, h6.sqT hsx, atI_nat (j := 0) rfl, acc, h4, ?_, ?_⟩
   ·rw [hla2, List.length_map, List.length_take]
    exact small1000 (by omega)
   ·have h7 := SB.set (ps := [D]) h4 (by simp) (.lst (acc ++ [.ref bd]))
    refine ⟨h3.trans h7, _, upd_same, ?_⟩
    rw [List.take_add_one, ep, List.map_append]
    exact DpAll.append (DpAll_sb h7 _ _ (noLists_trs _) h5) (.cons (Dp_sb h7 _ _ (Gr.noList_tEnc _) (Dp_sb h6 _ _ (Gr.noList_tEnc _) hdt)) .nil)
  ·obtain ⟨h3', acc, h4, h5⟩ := h3
   rw [hlen, List.take_length] at h5
   have h6 := h3'.drop hD
   have hla2 := DpAll.length h5
   refine ⟨D, acc, g.ps.map fun p => Gr.tEnc p.1, rfl, SqL.of h4, h5, ?_, ?_, ?_, fun H9 h9 => ?_⟩
   ·intro d hd'
    obtain ⟨p1, m1, rfl⟩ := List.mem_map.mp hd'
    have hd2 : (Gr.pEnc p1).depth <= PyData.depthAll g.encs := PyData.depth_le_depthAll _ _ (by rw [Gr.encs_ps]; exact List.mem_map_of_mem m1)
    have hd3 : (Gr.tEnc p1.1).depth < (Gr.pEnc p1).depth := by
     show _ < (PyData.tuple [Gr.tEnc p1.1, .int p1.2]).depth
     simp only [PyData.depth, PyData.depthAll]; omega
    exact ⟨Gr.noList_tEnc _, (fun z : Gr.tEnc p1.1 = .none => by simp [Gr.tEnc] at z), by omega⟩
   ·intro d hd' d2 hd2
    obtain ⟨p1, _, rfl⟩ := List.mem_map.mp hd'
    obtain ⟨p2, _, rfl⟩ := List.mem_map.mp hd2
    exact Orderly.al (enc := Gr.tEnc) _ _
   ·rw [hla2, List.length_map]; omega
   ·have := q H9 ((h2.trans h6).trans h9)
    rw [groveD, e1, Bool.true_and, Gr.encs_ps, exp0_pEnc] at this
    exact this
abbrev N_are_pairs : List Str := ["things", "thing"]
theorem sc_are_grove_pairs : FnScope N_are_pairs ["things"] (defScope s_are_grove_pairs) := ⟨rfl, rfl, rfl, by decide +kernel, rfl, by decide +kernel, by decide +kernel⟩
theorem none_are_grove_pairs {ps : List Str} {tp : Bool} {k : Nat} : FnOk P w K mg base CX0 k f fd ps (spPairsQ K tp 0) := none_sp fun vs H Q E ⟨a, xs, ds, _, _, _, h, _⟩ => by omega
theorem grPs_all : ∀ ds : List PyData, grPs ds = ds.all grP
 | [] => by rw [grPs]; rfl
 | d :: ds => by rw [grPs, grPs_all ds]; rfl
theorem ok_are_grove_pairs {n : Nat} (B : BI mg) (GM : Got P w K mg base "is_many" ["thing"] 2 (spMany K [])) (G : Got P w K mg base "is_tree" ["thing"] (n + 3) (spIsTree K n)) (F : Fun K "are_grove_pairs" "are_grove_pairs" s_are_grove_pairs f fd) :
  FnOk P w K mg base CX0 (n + 4) f fd ["things"] (spPairsQ K true (n + 1)) := by
 refine F.ok sc_are_grove_pairs (fun vs H Q E h => ?_) (fun cdv A outer s H vs Q E hr h => ?_)
 ·obtain ⟨a, xs, ds, rfl, _⟩ := h
  rfl
 obtain ⟨a, xs, ds, rfl, hs, ha, hd, h79, hw, q⟩ := h
 refine ⟨_, pss_cons (ps_for PassesOwn.never rfl (pi_tup (pv 0)) (pg_name (i := 1) sc_are_grove_pairs.nd rfl (.inl rfl))
   (pss_cons (ps_if (PW.pt (pw_or (pt_not (pt_val (pe_isi B (pv 1) B.tuple boot_tuple))) (pw_or1 (pt_cmpR op_ne (pe_callB call_len_seq rfl B.len PySem.boot_len (pa_cons (pv 1) pa_nil)) pe_int (nomark _))))) (pss_one (ps_ret pe_bl)) pss_nil)
   (pss_one (ps_if (PW.pt (pw_or (pt_not (pt_val (pe_got G hr rfl (pa_cons (pe_ix ix_tup (pv 1) pe_int (fun _ _ => rfl)) pa_nil)))) (pw_or1 (pt_not (pt_val (pe_got GM (hr.mono (by omega)) rfl (pa_cons (pe_ix ix_tup (pv 1) pe_int (fun _ _ => rfl)) pa_nil))))))) (pss_one (ps_ret pe_bl)) pss_nil))))
  (pss_one (ps_ret pe_bl)), ?_⟩
 have hs : SqT K H a xs := by simpa using hs
 have hl := TgAll.length ha
 rw [wide_tuple] at hw
 refine ⟨_, rfl, a, rfl, ⟨xs, hs⟩, ?_⟩
 refine for_tup (K := K) (a := a) (xs := xs) (fun i σ H2 => SB [] H H2 /\ (∃ o, σ = [some (.ref a), o]) /\ (ds.take i).all grP = true) ⟨SB.refl, ⟨none, rfl⟩, by simp⟩ (fun i σ H2 hi h2 => h2.1.sqT hs) (fun i x σ H2 hx h2 => ?_) (fun σ H2 h2 => ?_)
 ·obtain ⟨h2, ⟨o, rfl⟩, h3⟩ := h2
  obtain ⟨dx, ex, tx⟩ := TgAll.get ha hx
  have mx := List.mem_of_getElem? ex
  have m1 := depthAll_get ex
  have m2 := wide_mem _ _ mx
  have no : grP dx = false -> ∀ H', SB [] H2 H' -> Q (.bl false) H' := fun e H' s' => by
   have := q H' (h2.trans s')
   have e2 : grPs ds = false := by
    rw [grPs_all, List.all_eq_false]
    exact ⟨dx, mx, by rw [e]; exact Bool.false_ne_true⟩
   rw [e2] at this
   exact this
  obtain ⟨n1, b, ty, kb, y1, y2⟩ := (Tg_sb h2 tx).ty
  refine ⟨_, rfl, _, _, n1, b, rfl, ty, kb, b, rfl, ?_⟩
  cases b with
  | false =>
   refine iteT (iteT (no ?_ _ SB.refl))
   cases dx with
   | tuple ds => exact absurd rfl (y2 rfl ds)
   | _ => simp [grP]
  | true =>
  refine iteF ?_
  obtain ⟨b1, ys, es, rfl, rfl, hs1, ha1⟩ := y1 rfl
  refine ⟨_, rfl, b1, ys, rfl, .inr hs1, rfl, _, rfl, ?_⟩
  have hl1 := TgAll.length ha1
  by_cases c2 : ys.length = 2
  ·rw [show (!decide (V.int (ys.length : Nat) = V.int 2)) = false by rw [c2]; rfl]
   refine iteF ?_
   cases ha1 with
   | nil => simp at c2
   | cons t1 ta =>
    cases ta with
    | nil => simp at c2
    | cons t2 ta =>
     cases ta with
     | cons t3 ta => simp at c2
     | nil =>
      rename_i v1 d1 v2 d2
      have q1 : d1.depth < PyData.depth (.tuple [d1, d2]) := by simp only [PyData.depth, PyData.depthAll]; omega
      have q2 : wide d1 <= wide (.tuple [d1, d2]) := by simp only [wide, wides]; omega
      refine ⟨_, rfl, b1, _, _, _, rfl, rfl, hs1, atI_nat (j := 0) rfl, v1, d1, rfl, t1, by omega, by omega, by omega, fun H3 h3' => ?_⟩
      refine ⟨_, rfl, ?_⟩
      cases e1 : treeD d1 with
      | false => exact iteT (iteT (no (by simp [grP, grP2, e1]) _ h3'))
      | true =>
       refine iteF ?_
       refine ⟨_, rfl, b1, _, _, _, rfl, rfl, h3'.sqT hs1, atI_nat (j := 1) rfl, v2, strip d2, rfl, (Tg_sb h3' t2).th, _, rfl, ?_⟩
       rw [many_strip]
       have e : grP (.tuple [d1, d2]) = manyD d2 := by simp [grP, grP2, ladP3, e1]
       cases e2 : manyD d2 with
       | false => exact iteT (no (by rw [e, e2]) _ h3')
       | true =>
        refine iteF ⟨h2.trans h3', ⟨_, rfl⟩, ?_⟩
        rw [List.take_add_one, ex, List.all_append, h3]
        simp [e, e2]
  ·rw [show (!decide (V.int (ys.length : Nat) = V.int 2)) = true by rw [decide_eq_false (fun z => by injection z with z; omega)]; rfl]
   refine iteT (no ?_ _ SB.refl)
   cases e : grP (.tuple es) with
   | false => rfl
   | true =>
    obtain ⟨t, i, e2, _⟩ := grP_enc _ e
    injection e2 with e2
    rw [e2] at hl1
    exact absurd hl1 c2
 ·obtain ⟨h2, ⟨o, rfl⟩, h3⟩ := h2
  rw [hl, List.take_length, <- grPs_all] at h3
  have := q H2 h2
  rw [h3] at this
  exact this
theorem ok_are_grove_pairsL {n : Nat} (B : BI mg) (GM : Got P w K mg base "is_many" ["thing"] 2 (spMany K [])) (G : Got P w K mg base "is_tree" ["thing"] (n + 3) (spIsTree K n)) (F : Fun K "are_grove_pairs" "are_grove_pairs" s_are_grove_pairs f fd) :
  FnOk P w K mg base CX0 (n + 4) f fd ["things"] (spPairsQ K false (n + 1)) := by
 refine F.ok sc_are_grove_pairs (fun vs H Q E h => ?_) (fun cdv A outer s H vs Q E hr h => ?_)
 ·obtain ⟨a, xs, ds, rfl, _⟩ := h
  rfl
 obtain ⟨a, xs, ds, rfl, hs, ha, hd, h79, hw, q⟩ := h
 refine ⟨_, pss_cons (ps_for PassesOwn.never rfl (pi_list (pv 0)) (pg_name (i := 1) sc_are_grove_pairs.nd rfl (.inl rfl))
   (pss_cons (ps_if (PW.pt (pw_or (pt_not (pt_val (pe_isi B (pv 1) B.tuple boot_tuple))) (pw_or1 (pt_cmpR op_ne (pe_callB call_len_seq rfl B.len PySem.boot_len (pa_cons (pv 1) pa_nil)) pe_int (nomark _))))) (pss_one (ps_ret pe_bl)) pss_nil)
   (pss_one (ps_if (PW.pt (pw_or (pt_not (pt_val (pe_got G hr rfl (pa_cons (pe_ix ix_tup (pv 1) pe_int (fun _ _ => rfl)) pa_nil)))) (pw_or1 (pt_not (pt_val (pe_got GM (hr.mono (by omega)) rfl (pa_cons (pe_ix ix_tup (pv 1) pe_int (fun _ _ => rfl)) pa_nil))))))) (pss_one (ps_ret pe_bl)) pss_nil))))
  (pss_one (ps_ret pe_bl)), ?_⟩
 have hs : SqL K H a xs := by simpa using hs
 have hl := TgAll.length ha
 rw [wide_tuple] at hw
 refine ⟨_, rfl, a, rfl, ⟨xs, hs⟩, ?_⟩
 refine for_list (K := K) (a := a) (xs := xs) (fun i σ H2 => SB [] H H2 /\ (∃ o, σ = [some (.ref a), o]) /\ (ds.take i).all grP = true) ⟨SB.refl, ⟨none, rfl⟩, by simp⟩ (fun i σ H2 hi h2 => h2.1.sqL nmn hs) (fun i x σ H2 hx h2 => ?_) (fun σ H2 h2 => ?_)
 ·obtain ⟨h2, ⟨o, rfl⟩, h3⟩ := h2
  obtain ⟨dx, ex, tx⟩ := TgAll.get ha hx
  have mx := List.mem_of_getElem? ex
  have m1 := depthAll_get ex
  have m2 := wide_mem _ _ mx
  have no : grP dx = false -> ∀ H', SB [] H2 H' -> Q (.bl false) H' := fun e H' s' => by
   have := q H' (h2.trans s')
   have e2 : grPs ds = false := by
    rw [grPs_all, List.all_eq_false]
    exact ⟨dx, mx, by rw [e]; exact Bool.false_ne_true⟩
   rw [e2] at this
   exact this
  obtain ⟨n1, b, ty, kb, y1, y2⟩ := (Tg_sb h2 tx).ty
  refine ⟨_, rfl, _, _, n1, b, rfl, ty, kb, b, rfl, ?_⟩
  cases b with
  | false =>
   refine iteT (iteT (no ?_ _ SB.refl))
   cases dx with
   | tuple ds => exact absurd rfl (y2 rfl ds)
   | _ => simp [grP]
  | true =>
  refine iteF ?_
  obtain ⟨b1, ys, es, rfl, rfl, hs1, ha1⟩ := y1 rfl
  refine ⟨_, rfl, b1, ys, rfl, .inr hs1, rfl, _, rfl, ?_⟩
  have hl1 := TgAll.length ha1
  by_cases c2 : ys.length = 2
  ·rw [show (!decide (V.int (ys.length : Nat) = V.int 2)) = false by rw [c2]; rfl]
   refine iteF ?_
   cases ha1 with
   | nil => simp at c2
   | cons t1 ta =>
    cases ta with
    | nil => simp at c2
    | cons t2 ta =>
     cases ta with
     | cons t3 ta => simp at c2
     | nil =>
      rename_i v1 d1 v2 d2
      have q1 : d1.depth < PyData.depth (.tuple [d1, d2]) := by simp only [PyData.depth, PyData.depthAll]; omega
      have q2 : wide d1 <= wide (.tuple [d1, d2]) := by simp only [wide, wides]; omega
      refine ⟨_, rfl, b1, _, _, _, rfl, rfl, hs1, atI_nat (j := 0) rfl, v1, d1, rfl, t1, by omega, by omega, by omega, fun H3 h3' => ?_⟩
      refine ⟨_, rfl, ?_⟩
      cases e1 : treeD d1 with
      | false => exact iteT (iteT (no (by simp [grP, grP2, e1]) _ h3'))
      | true =>
       refine iteF ?_
       refine ⟨_, rfl, b1, _, _, _, rfl, rfl, h3'.sqT hs1, atI_nat (j := 1) rfl, v2, strip d2, rfl, (Tg_sb h3' t2).th, _, rfl, ?_⟩
       rw [many_strip]
       have e : grP (.tuple [d1, d2]) = manyD d2 := by simp [grP, grP2, ladP3, e1]
       cases e2 : manyD d2 with
       | false => exact iteT (no (by rw [e, e2]) _ h3')
       | true =>
        refine iteF ⟨h2.trans h3', ⟨_, rfl⟩, ?_⟩
        rw [List.take_add_one, ex, List.all_append, h3]
        simp [e, e2]
  ·rw [show (!decide (V.int (ys.length : Nat) = V.int 2)) = true by rw [decide_eq_false (fun z => by injection z with z; omega)]; rfl]
   refine iteT (no ?_ _ SB.refl)
   cases e : grP (.tuple es) with
   | false => rfl
   | true =>
    obtain ⟨t, i, e2, _⟩ := grP_enc _ e
    injection e2 with e2
    rw [e2] at hl1
    exact absurd hl1 c2
 ·obtain ⟨h2, ⟨o, rfl⟩, h3⟩ := h2
  rw [hl, List.take_length, <- grPs_all] at h3
  have := q H2 h2
  rw [h3] at this
  exact this
theorem sc_pairs_within : FnScope ["grove", "found", "pair"] ["grove"] (defScope s_pairs_within) := ⟨rfl, rfl, rfl, by decide +kernel, rfl, by decide +kernel, by decide +kernel⟩
theorem ok_pairs_within {n : Nat} (G : Got P w K mg base "pairs_within" ["grove"] n (spPairsW K n)) (F : Fun K "pairs_within" "pairs_within" s_pairs_within f fd) : FnOk P w K mg base CX0 (n + 1) f fd ["grove"] (spPairsW K (n + 1)) := by
 refine F.ok sc_pairs_within (fun vs H Q E h => ?_) (fun cdv A outer s H vs Q E hr h => ?_)
 ·obtain ⟨v, g, rfl, _⟩ := h
  rfl
 obtain ⟨v, g, rfl, hg, hd, hp, q⟩ := h
 refine ⟨_, pss_cons (ps_set (i := 1) sc_pairs_within.nd rfl (.inl rfl) (pe_lst pa_nil))
  (pss_cons (ps_for PassesOwn.never rfl (pi_tup (pv 0)) (pg_name (i := 2) sc_pairs_within.nd rfl (.inl rfl))
   (pss_cons (ps_expr (pe_bm PySem.F.plainAttrs_list PySem.F.slot_list_append PySem.F.type_list_append mt_append (pv 1) (pa_cons (pv 2) pa_nil)))
   (pss_one (ps_expr (pe_bm PySem.F.plainAttrs_list PySem.F.slot_list_extend PySem.F.type_list_extend mt_extend (pv 1) (pa_cons (pe_got G hr rfl (pa_cons (pe_ix ix_tup (pe_ix ix_tup (pv 2) pe_int (fun _ _ => rfl)) pe_int (fun _ _ => rfl)) pa_nil)) pa_nil))))))
  (pss_one (ps_ret (pv 1)))), ?_⟩
 obtain ⟨a, xs, rfl, hs, hb⟩ := GA_bears hg
 have bl := hb.length
 have wl := g.within_length
 refine ⟨(by show 0 <= sizeLine; decide), fun D hD => ?_⟩
 refine ⟨_, rfl, a, rfl, ⟨xs, (SB.new (ps := []) hD _).sqT hs⟩, ?_⟩
 refine for_it (walk_tup (xs := xs)) (fun i σ H2 => SB [D] H H2 /\ ∃ us o2, σ = [some (.ref a), some (.ref D), o2] /\ H2 D = some (.lst us) /\ Bears K H2 Gr.pEnc us ((g.ps.take i).flatMap fun p => p :: p.1.2.within)) ⟨SB.new hD _, [], none, rfl, upd_same, .nil⟩ (fun i σ H2 hi h2 => (h2.1.drop hD).sqT hs) (fun i x σ H2 H' hi h2 y => ?_) (fun σ H2 h2 => ?_)
 ·obtain ⟨s2, us, o2, rfl, hD2, hb2⟩ := h2
  obtain ⟨rfl, ex⟩ := y
  obtain ⟨p, ep, hpd⟩ := hb.get ex
  have pm := List.mem_of_getElem? ep
  obtain ⟨ad, td, ux, rfl, hs2, hs3, hga, _⟩ := PA_parts hpd
  have s2' := s2.drop hD
  have ul := hb2.length
  have hsplit : (g.ps.take (i + 1)).flatMap (fun p => p :: p.1.2.within) = (g.ps.take i).flatMap (fun p => p :: p.1.2.within) ++ (p :: p.1.2.within) := by rw [List.take_add_one, ep]; simp
  have hle : ((g.ps.take i).flatMap (fun p => p :: p.1.2.within)).length + (p.1.2.within.length + 1) <= 200000 := by
   have h1 : g.within = (g.ps.take (i + 1)).flatMap (fun p => p :: p.1.2.within) ++ (g.ps.drop (i + 1)).flatMap (fun p => p :: p.1.2.within) := by rw [Gr.within_ps, <- List.flatMap_append, List.take_append_drop]
   have h2 := congrArg List.length h1
   rw [hsplit, List.length_append, List.length_append, List.length_cons, wl] at h2
   omega
  refine ⟨_, rfl, .inl ⟨rfl, _, SqL.of hD2⟩, _, rfl, D, us, _, rfl, rfl, hD2, small5 (by omega), ?_⟩
  have t3 := SB.set (ps := [D]) hD2 (by simp) (.lst (us ++ [.ref ad]))
  have hD3 : (upd H' D (.lst (us ++ [.ref ad]))) D = some (.lst (us ++ [.ref ad])) := upd_same
  have hb3 := Bears.append (hb2.sb t3 Gr.noList_pEnc) (.cons (Dp_sb (s2.trans t3) _ _ (Gr.noList_pEnc _) hpd) .nil)
  have s3 := s2.trans t3
  have s3' := s3.drop hD
  generalize hH3 : upd H' D (.lst (us ++ [.ref ad])) = H3 at t3 hD3 hb3 s3 s3'
  have pd := g.mem_deep p pm
  have pp := g.mem_parts p pm
  refine ⟨_, rfl, .inl ⟨rfl, _, SqL.of hD3⟩, _, rfl, ad, _, _, _, rfl, rfl, s3'.sqT hs2, atI_nat (j := 0) rfl, td, _, _, _, rfl, rfl, s3'.sqT hs3, atI_nat (j := 1) rfl, ux, p.1.2, rfl, hga.sb s3', by omega, by omega, fun D2 vs2 H4 s4 hDn hD4 hb4 => ?_⟩
  have hD4' := s4.keep _ _ hD3 nmn
  have vl := hb4.length
  refine ⟨D, D2, _, _, rfl, rfl, hD4', hD4, ?_, ?_⟩
  ·rw [List.length_append, List.length_singleton]
   have : 1000000 <= sizeLine := by decide
   omega
  have t5 := SB.set (ps := [D]) hD4' (by simp) (.lst (us ++ [.ref ad] ++ vs2))
  refine ⟨(s3.trans s4.nil).trans t5, _, _, rfl, upd_same, ?_⟩
  rw [hsplit, show ((g.ps.take i).flatMap (fun p => p :: p.1.2.within) ++ (p :: p.1.2.within)) = (g.ps.take i).flatMap (fun p => p :: p.1.2.within) ++ [p] ++ p.1.2.within by simp]
  exact Bears.append ((hb3.sb s4 Gr.noList_pEnc).sb t5 Gr.noList_pEnc) (hb4.sb t5 Gr.noList_pEnc)
 ·obtain ⟨s2, us, o2, rfl, hD2, hb2⟩ := h2
  rw [bl, List.take_length, <- Gr.within_ps] at hb2
  exact ⟨_, rfl, q D us H2 (s2.drop hD) hD hD2 hb2⟩
abbrev N_kinds_within : List Str := ["grove", "tree", "many"]
theorem sc_kinds_within : FnScope N_kinds_within ["grove"] (defScope s_kinds_within) := ⟨rfl, rfl, rfl, by decide +kernel, rfl, by decide +kernel, by decide +kernel⟩
theorem ok_kinds_within (B : BI mg) (G_pairs_within : Got P w K mg base "pairs_within" ["grove"] (70) (spPairsW K 70)) (F : Fun K "kinds_within" "kinds_within" s_kinds_within f fd) : FnOk P w K mg base CX0 (71) f fd ["grove"] (spKindsF K) := by
 refine F.ok sc_kinds_within (fun vs H Q E h => ?_) (fun cdv A outer s H vs Q E hr h => ?_)
 ·obtain ⟨v, g, ns, rfl, _⟩ := h
  rfl
 obtain ⟨v, g, ns, rfl, hv, hd, hp, hk, hn, q⟩ := h
 have hun2 := hunT hr
 refine ⟨_, pss_one (ps_ret (pe_callB (cr_sortedTx rfl) rfl B.sorted (by decide +kernel) (pa_cons (pe_scS (own := [("tree", 1), ("many", 2)]) (g := (gTup K 2 (gCons (gName 1) (gCons (gName 2) gNil)))) (tt := tYes) (te := (tOp (rIxT K) (tVar 1) (tC (.int 0)))) rfl sc_kinds_within.nd (pi_list (pe_got G_pairs_within (hr.mono (by omega)) rfl (pa_cons (pv 0) pa_nil))) (blkOk_by (N := N_kinds_within) (sc := defScope s_kinds_within) (by decide +kernel)) (fun _ _ _ _ _ => (pg_tup rfl (pgs_cons (pg_name (i := 1) sc_kinds_within.nd rfl (.inl rfl)) (pgs_cons (pg_name (i := 2) sc_kinds_within.nd rfl (.inl rfl)) pgs_nil)))) (fun _ _ _ _ _ => pts_nil) (fun _ _ _ _ _ => (pe_ix ix_tup (pv 1) pe_int (fun _ _ => rfl)))) pa_nil))), ?_⟩
 have scb : 3001 < scanBound := by decide +kernel
 have wl := g.within_length
 refine ⟨_, rfl, v, g, rfl, hv, by omega, by omega, fun ll us H1 s1 nll hll hbl => ?_⟩
 have ul := hbl.length
 refine ⟨ll, rfl, ⟨_, SqL.of hll⟩, fun D nD => ?_⟩
 refine sc_seq (walk_list (xs := us)) nD (by omega) (fun i ss H2 => ss.Nodup /\ ∀ x, x ∈ ss ↔ x ∈ (g.within.take i).map fun p : Tr × Int => p.1.1) ⟨List.nodup_nil, by simp⟩ (fun H2 s2 => s2.sqL nmn (SqL.of hll)) (fun _ _ _ _ _ h => h) (fun Pv i x Hq H2 ss hi s2 y hR hl fin _ => ?_) (fun ss H2 s2 hD2 hR hl => ?_)
 ·obtain ⟨rfl, ey⟩ := y
  obtain ⟨p, ep, hpd⟩ := hbl.get ey
  obtain ⟨ad, td, ux, rfl, hs2, hs3, hga, _⟩ := PA_parts hpd
  refine ⟨ad, _, rfl, s2.sqT hs2, rfl, _, _, rfl, _, _, rfl, rfl, rfl, ?_⟩
  refine ⟨_, rfl, td, _, _, _, rfl, rfl, s2.sqT hs3, atI_nat (j := 0) rfl, fin p.1.1 _ SB.refl ⟨insS_nodup hR.1, fun x => ?_⟩⟩
  rw [insS_mem, hR.2, List.take_add_one, ep, List.map_append, List.mem_append]
  simp [or_comm]
 ·rw [ul, List.take_length] at hR
  have sl : ss.length <= 60 := by
   have := hR.1.length_le_of_subset (l₂ := ns) fun x hx => by
    obtain ⟨p, hp, e⟩ := List.mem_map.mp ((hR.2 x).mp hx)
    rw [<- e]; exact hk p hp
   omega
  refine ⟨D, ss, rfl, hD2, by omega, fun ss' p pm srt np => ?_⟩
  have t3 := SB.new (ps := []) np (.lst (ss'.map V.str))
  exact q p ss' _ ((s1.trans s2).trans t3) ((s1.trans s2).dom _ np) upd_same (.perm pm srt hR.1 hR.2) (by rw [pm.length_eq]; omega)
abbrev N_rules_from_nought : List Str := ["book", "name"]
theorem sc_rules_from_nought : FnScope N_rules_from_nought ["book", "name"] (defScope s_rules_from_nought) := ⟨rfl, rfl, rfl, by decide +kernel, rfl, by decide +kernel, by decide +kernel⟩
theorem ok_rules_from_nought {C_NO_GROVES C_Book C_NoKind : Addr} (B : BI mg) (V_NO_GROVES : mg "NO_GROVES" = some (.ref C_NO_GROVES)) (W_NO_GROVES : ∀ H, Dp K H (.ref C_NO_GROVES) (Ru.enc (.nil, .nil))) (G_Book_rules : GotMXN P w K mg base C_Book "rules" ["self", "name"] (4) (spBRules K C_Book C_NoKind)) (F : Fun K "rules_from_nought" "rules_from_nought" s_rules_from_nought f fd) : FnOk P w K mg base (L2N.CX P w) (5) f fd ["book", "name"] (spRulesN K C_Book C_NoKind) := by
 refine F.okXN sc_rules_from_nought (fun vs H Q E h => ?_) (fun cdv A outer s H vs Q E hr h => ?_)
 ·obtain ⟨v, b, n, rfl, _⟩ := h
  rfl
 obtain ⟨v, b, n, rfl, hb, hl, hr4, qk, qE⟩ := h
 have hun2 := hunT hr
 refine ⟨_, pss_one (ps_ret (pe_op op_cat (pe_lst (pa_cons (pe_glob (v := .ref C_NO_GROVES) rfl V_NO_GROVES rfl) pa_nil)) (pe_gotMSN G_Book_rules (hr.mono (by omega)) (L2N.takes_of rfl rfl rfl rfl) (pv 0) (pa_cons (pv 1) pa_nil)))), ?_⟩
 have szl := sizeLine_eq
 obtain ⟨va, vdx, vd1, vd2, rfl, hva⟩ := hb.at
 refine ⟨by show 1 <= sizeLine; decide, fun L hL => ?_⟩
 have t1 := SB.new (ps := []) hL (.lst [.ref C_NO_GROVES])
 have hL1 : upd H L (.lst [.ref C_NO_GROVES]) L = some (.lst [.ref C_NO_GROVES]) := upd_same
 generalize upd H L (.lst [.ref C_NO_GROVES]) = H1 at t1 hL1
 refine ⟨_, rfl, va, vdx, _, rfl, t1.keep _ _ hva nmn, rfl, _, rfl, _, b, n, rfl, hb.sb0 t1, hl, hr4, fun k eg ll us H2 s2 nll hll hbl => ?_, fun z d H' s' nd hd => qE z d H' (t1.trans s') (t1.dom d nd) hd⟩
 have k4 := hr4 k (Bk.get_some eg).1
 have ul := hbl.length
 refine ⟨L, ll, _, _, rfl, rfl, s2.keep _ _ hL1 nmn, hll, by show 1 + _ <= sizeLine; omega, fun M hM => ?_⟩
 have t3 := SB.new (ps := []) hM (.lst ([.ref C_NO_GROVES] ++ us))
 have s3 := t1.trans s2
 exact qk k eg M _ _ (s3.trans t3) (s3.dom _ hM) upd_same (.cons (W_NO_GROVES _) (hbl.sb t3 Ru.noList_enc))
abbrev N_check_kind : List Str := ["book", "name"]
theorem sc_check_kind : FnScope N_check_kind ["book", "name"] (defScope s_check_kind) := ⟨rfl, rfl, rfl, by decide +kernel, rfl, by decide +kernel, by decide +kernel⟩
theorem ok_check_kind {C_NoKind C_Book : Addr} (B : BI mg) (O_NoKind : OwnI P w K mg base "NoKind" C_NoKind 1) (G_Book_names : GotM P w K mg base C_Book "names" ["self"] (1) (spBNames K C_Book)) (F : Fun K "check_kind" "check_kind" s_check_kind f fd) : FnOk P w K mg base (L2N.CX P w) (3) f fd ["book", "name"] (spCheckK K C_Book C_NoKind) := by
 refine F.okXN sc_check_kind (fun vs H Q E h => ?_) (fun cdv A outer s H vs Q E hr h => ?_)
 ·obtain ⟨v, b, n, rfl, _⟩ := h
  rfl
 obtain ⟨v, b, n, rfl, hb, hl, qk, qE⟩ := h
 have hun2 := hunT hr
 refine ⟨_, pss_one (ps_if (pt_cmpR op_notIn_seq (pv 1) (pe_gotM0 G_Book_names (hr.mono (by omega)) (pv 0)) (by rfl)) (pss_one (L2N.ps_raise rfl (L2N.takes_of rfl rfl rfl rfl) (pmk_kindN O_NoKind (hr.mono (by omega)) rfl (pv 1)))) pss_nil), ?_⟩
 obtain ⟨a, dx, d1, d2, rfl, h1⟩ := hb.at
 refine ⟨_, rfl, _, rfl, a, dx, _, rfl, h1, rfl, ?_⟩
 refine ⟨_, b, rfl, hb, hl, fun l H1 s1 hn hl1 => ?_⟩
 refine ⟨l, _, rfl, .inl (SqL.of hl1), rfl, flat_strs _, _, rfl, ?_⟩
 rw [inV_strs, Bk.get_isSome]
 cases e : b.get n with
 | some k => exact qk k e H1 s1
 | none => exact ⟨_, rfl, fun d hd => qE e d _ (s1.trans (SB.new hd _)) (s1.dom d hd) upd_same⟩
abbrev N_check_kinds : List Str := ["book", "grove", "kind"]
theorem sc_check_kinds : FnScope N_check_kinds ["book", "grove"] (defScope s_check_kinds) := ⟨rfl, rfl, rfl, by decide +kernel, rfl, by decide +kernel, by decide +kernel⟩
theorem ok_check_kinds {C_Book C_NoKind : Addr} (B : BI mg) (G_kinds_within : Got P w K mg base "kinds_within" ["grove"] (71) (spKindsF K)) (G_check_kind : GotXN P w K mg base "check_kind" ["book", "name"] (3) (spCheckK K C_Book C_NoKind)) (F : Fun K "check_kinds" "check_kinds" s_check_kinds f fd) : FnOk P w K mg base (L2N.CX P w) (72) f fd ["book", "grove"] (spCheckKX K C_Book C_NoKind) := by
 refine F.okXN sc_check_kinds (fun vs H Q E h => ?_) (fun cdv A outer s H vs Q E hr h => ?_)
 ·obtain ⟨v, w, b, g, ns, rfl, _⟩ := h
  rfl
 obtain ⟨v, w, b, g, ns, rfl, hv, hg, hl, hd, hp, hk, hn, q, qE⟩ := h
 have hun2 := hunT hr
 refine ⟨_, pss_one (ps_for (passes_of rfl) rfl (pi_list (pe_got G_kinds_within (hr.mono (by omega)) rfl (pa_cons (pv 1) pa_nil))) (pg_name (i := 2) sc_check_kinds.nd rfl (.inl rfl))
   (pss_one (ps_expr (pe_gotSN G_check_kind (hr.mono (by omega)) rfl (L2N.takes_of rfl rfl rfl rfl) (pa_cons (pv 0) (pa_cons (pv 2) pa_nil)))))), ?_⟩
 refine ⟨_, rfl, w, g, ns, rfl, hg, hd, hp, hk, hn, fun l ss H1 s1 nl hls so sl => ?_⟩
 refine ⟨l, rfl, ⟨_, SqL.of hls⟩, ?_⟩
 refine for_it (walk_list (xs := ss.map V.str)) (fun i σ H2 => SB [] H1 H2 /\ (∀ m ∈ ss.take i, ¬ (m ∉ b.names)) /\ ∃ o2, σ = [some v, some w, o2]) ⟨SB.refl, by simp, none, rfl⟩ (fun i σ H2 hi h2 => h2.1.sqL nmn (SqL.of hls)) (fun i x σ Hq H2 hi h2 y => ?_) (fun σ H2 h2 => ?_)
 ·obtain ⟨s2, bef, o2, rfl⟩ := h2
  obtain ⟨rfl, ey⟩ := y
  rw [List.getElem?_map] at ey
  obtain ⟨k, ek, rfl⟩ := Option.map_eq_some_iff.mp ey
  have s02 := s1.trans s2
  refine ⟨_, rfl, _, rfl, v, b, k, rfl, hv.sb0 s02, by omega, fun kd e H3 s3 => ⟨s2.trans s3, fun m hm => ?_, _, rfl⟩, fun z d H3 s3 nd hd3 => qE k (.at so ek (fun hm => ?_) bef) d H3 (s02.trans s3) (s02.dom _ nd) hd3⟩
  ·rw [List.take_add_one, ek] at hm
   rcases List.mem_append.mp hm with z | z
   ·exact bef m z
   ·rw [List.mem_singleton.mp z]
    exact fun z => z (List.mem_map.mpr ⟨kd, (Bk.get_some e).1, (Bk.get_some e).2⟩)
  ·obtain ⟨kd, e⟩ := Bk.get_of hm
   rw [e] at z; cases z
 ·obtain ⟨s2, bef, o2, rfl⟩ := h2
  rw [List.length_map, List.take_length] at bef
  exact q (fun x hx => Classical.byContradiction fun z => bef x.1.1 ((so.mem _).mpr (List.mem_map.mpr ⟨x, hx, rfl⟩)) z) _ (s1.trans s2)
abbrev N_are_kinds : List Str := ["things", "thing", "names", "rule"]
theorem sc_are_kinds : FnScope N_are_kinds ["things"] (defScope s_are_kinds) := ⟨rfl, rfl, rfl, by decide +kernel, rfl, by decide +kernel, by decide +kernel⟩
theorem ok_are_kinds (B : BI mg) (L_MOST_KINDS : ∃ t, mg "MOST_KINDS" = some (.int (8) t)) (G_is_kind : Got P w K mg base "is_kind" ["thing"] (86) (spIsKind K)) (G_is_rule_of : Got P w K mg base "is_rule_of" ["rule", "names"] (71) (spIsRuleOf K)) (F : Fun K "are_kinds" "are_kinds" s_are_kinds f fd) : FnOk P w K mg base CX0 (87) f fd ["things"] (spAreKinds K) := by
 refine F.ok sc_are_kinds (fun vs H Q E h => ?_) (fun cdv A outer s H vs Q E hr h => ?_)
 ·obtain ⟨l, xs, ts, rfl, _⟩ := h
  rfl
 obtain ⟨l, xs, ts, rfl, hs, ha, hf, hl, q⟩ := h
 obtain ⟨tk_MOST_KINDS, h_MOST_KINDS⟩ := L_MOST_KINDS
 have hun2 := hunT hr
 refine ⟨_, pss_cons (ps_if (pt_not (pt_chain op_le op_le pe_int (pe_callB call_len_seq rfl B.len PySem.boot_len (pa_cons (pv 0) pa_nil)) (pe_glob (v := .int (8)) rfl h_MOST_KINDS ⟨_, rfl⟩))) (pss_one (ps_ret pe_bl)) pss_nil)
  (pss_cons (ps_for PassesOwn.never rfl (pi_list (pv 0)) (pg_name (i := 1) sc_are_kinds.nd rfl (.inl rfl))
   (pss_one (ps_if (pt_not (pt_val (pe_got G_is_kind (hr.mono (by omega)) rfl (pa_cons (pv 1) pa_nil)))) (pss_one (ps_ret pe_bl)) pss_nil)))
  (pss_cons (ps_set (i := 2) sc_are_kinds.nd rfl (.inr rfl) (pe_lc (own := [("thing", 1)]) (g := (gName 1)) (tt := tYes) (te := (tOp (rIxT K) (tVar 1) (tC (.int 0)))) rfl sc_are_kinds.nd (pi_list (pv 0)) (blkOk_by (N := N_are_kinds) (sc := defScope s_are_kinds) (by decide +kernel)) (fun _ _ _ _ _ => (pg_name (i := 1) sc_are_kinds.nd rfl (.inl rfl))) (fun _ _ _ _ _ => pts_nil) (fun _ _ _ _ _ => (pe_ix ix_tup (pv 1) pe_int (fun _ _ => rfl)))))
  (pss_cons (ps_if (pt_cmpR op_ne (pe_lenSetS rfl B rfl rfl (pv 2)) (pe_callB call_len_seq rfl B.len PySem.boot_len (pa_cons (pv 2) pa_nil)) (nomark _)) (pss_one (ps_ret pe_bl)) pss_nil)
  (pss_one (ps_ret (pe_callB (cr_all rfl) rfl B.all boot_all (pa_cons (pe_lc2 (own := [("thing", 1), ("rule", 3)]) (vs1 := [3]) (wi1 := (iList K (tOp (rIxT K) (tVar 1) (tC (.int 2))))) (g := (gName 1)) (g1 := (gName 3)) (tt := tYes) (tt1 := tYes) (te := (tCall (spIsRuleOf K) [] E0 (tCons (tVar 3) (tCons (tVar 2) tNil)))) rfl sc_are_kinds.nd (pi_list (pv 0)) (blkOk_by (N := N_are_kinds) (sc := defScope s_are_kinds) (by decide +kernel)) (by simp) (fun _ _ _ _ _ => (pg_name (i := 1) sc_are_kinds.nd rfl (.inl rfl))) (fun _ _ _ _ _ => pts_nil) (fun _ _ _ _ _ => (pi_list (pe_ix ix_tup (pv 1) pe_int (fun _ _ => rfl)))) (fun _ _ _ _ _ => (pg_name (i := 3) sc_are_kinds.nd rfl (.inl rfl))) (fun _ _ _ _ _ => pts_nil) (fun _ _ _ _ _ => (pe_got G_is_rule_of (hr.mono (by omega)) rfl (pa_cons (pv 3) (pa_cons (pv 2) pa_nil))))) pa_nil))))))), ?_⟩
 have no : ¬ KTBk ts -> ∀ H', SB [] H H' -> Q (.bl false) H' := fun e H' s' => q false H' s' ⟨(fun z => nomatch z), fun z => absurd z e⟩
 have xlen := ha.length
 have szl := sizeLine_eq
 refine ⟨_, rfl, l, xs, rfl, .inl hs, _, _, rfl, rfl, _, rfl, ?_⟩
 refine ite2 (fun c => ?_) (fun c => ?_)
 ·have c1 := of_decide_eq_true c
  refine ⟨_, _, rfl, rfl, _, rfl, ?_⟩
  cases c8 : decide (((xs.length : Nat) : Int) <= 8) with
  | false =>
   have c2 := of_decide_eq_false c8
   refine iteT (no ?_ _ SB.refl)
   rintro ⟨b, e, ok⟩
   have := ok.len
   rw [e, List.length_map] at xlen
   omega
  | true =>
  refine iteF ?_
  have c2 := of_decide_eq_true c8
  refine ⟨_, rfl, l, rfl, ⟨xs, hs⟩, ?_⟩
  refine for_list (K := K) (a := l) (xs := xs) (fun i σ H2 => SB [] H H2 /\ (∃ o, σ = [some (.ref l), o, none, none]) /\ ∀ t ∈ ts.take i, KTKd t) ⟨SB.refl, ⟨none, rfl⟩, by simp⟩ (fun i σ H2 hi h2 => h2.1.sqL nmn hs) (fun i x σ H2 hx h2 => ?_) (fun σ H2 h2 => ?_)
  ·obtain ⟨h2, ⟨o, rfl⟩, h3⟩ := h2
   obtain ⟨t, et, ht⟩ := ha.get hx
   have mt := List.mem_of_getElem? et
   refine ⟨_, rfl, x, t, rfl, KTA_sb h2 ht, hf t mt, fun b H3 s3 hb => ?_⟩
   refine ⟨_, rfl, ?_⟩
   cases b with
   | false =>
    refine iteT (no ?_ _ (h2.trans s3))
    rintro ⟨bk, e, ok⟩
    rw [e] at mt
    obtain ⟨k, hk, rfl⟩ := List.mem_map.mp mt
    obtain ⟨o1, o2, o3⟩ := ok.kd k hk
    exact nomatch hb.mpr ⟨k, rfl, o1, o2, fun r hr => (o3 r hr).1⟩
   | true =>
    refine iteF ⟨h2.trans s3, ⟨_, rfl⟩, fun t' ht' => ?_⟩
    rw [List.take_add_one, et, Option.toList_some] at ht'
    rcases List.mem_append.mp ht' with h | h
    ·exact h3 t' h
    ·rw [List.mem_singleton.mp h]; exact hb.mp rfl
  ·obtain ⟨h2, ⟨o, rfl⟩, h3⟩ := h2
   rw [xlen, List.take_length] at h3
   obtain ⟨bk, et, hk⟩ := KT_all h3
   subst et
   rw [List.length_map] at xlen
   have ha2 := (ha.sb h2).kd
   have hs2 := h2.sqL nmn hs
   refine ⟨_, rfl, l, rfl, ⟨xs, hs2⟩, fun D hD => ?_⟩
   refine lc_seq (walk_list (xs := xs)) hD (by omega) (fun i us _ => us = ((Bk.names bk).take i).map V.str) rfl (fun H6 s6 => s6.sqL nmn hs2) (fun _ _ _ _ _ h => h) (fun Pv i x H6 H' us hi s6 y hR hl6 fin _ => ?_) (fun us H6 s6 hD6 hR _ => ?_)
   ·obtain ⟨rfl, ex⟩ := y
    obtain ⟨k, ek, t, r, zs, rfl, g1, g2, g3, _⟩ := ha2.get ex
    refine ⟨rfl, _, rfl, t, _, _, _, rfl, rfl, s6.sqT g1, atI_nat (j := 0) rfl, fin _ _ SB.refl ?_⟩
    rw [hR, List.take_add_one, List.getElem?_map, ek, Option.map_some, Option.toList_some, List.map_append]; rfl
   ·rw [xlen, show (Bk.names bk).take bk.length = Bk.names bk by rw [List.take_of_length_le (by simp)]] at hR
    subst hR
    have s06 := h2.trans s6
    refine ⟨_, rfl, D, Bk.names bk, rfl, SqL.of hD6, by rw [List.length_map]; omega, ?_⟩
    refine ⟨_, rfl, D, _, rfl, .inl (SqL.of hD6), rfl, _, rfl, ?_⟩
    have hnd := met_len_nodup (Bk.names bk)
    rw [show (List.map V.str (Bk.names bk)).length = (Bk.names bk).length from List.length_map ..]
    by_cases nd : (Bk.names bk).Nodup
    ·rw [hnd.mpr nd, show (!decide (V.int ((Bk.names bk).length : Nat) = V.int ((Bk.names bk).length : Nat))) = false by simp]
     refine iteF ?_
     have ha6 := ha2.sb s6 NoLst.nil
     have hs6 := s6.sqL nmn hs2
     refine ⟨_, rfl, l, rfl, ⟨xs, hs6⟩, fun E1 hE1 => ?_⟩
     have good : ∀ r : Ru, (∃ k ∈ bk, r ∈ k.rs) -> RuOk r := fun r ⟨k, h1, h2⟩ => (hk k h1).2.2 r h2
     refine lcG (walk_list (xs := xs)) (fun i H2 => SB [E1] H6 H2 /\ ∃ bs : List Bool, H2 E1 = some (.lst (bs.map V.bl)) /\ bs = ((bk.take i).flatMap fun k => k.rs.map fun r => decide (∀ p ∈ Ru.within r, p.1.1 ∈ Bk.names bk))) ⟨SB.new hE1 _, [], upd_same, rfl⟩ (fun i H2 hi h2 => (h2.1.drop hE1).sqL nmn hs6) (fun i x H2 H' hi h2 y => ?_) (fun H2 h2 => ?_)
     ·obtain ⟨s7, bs, hE7, hbs⟩ := h2
      obtain ⟨rfl, ex⟩ := y
      obtain ⟨k, ek, t, r, zs, rfl, g1, g2, g3, _⟩ := ha6.get ex
      have mk := List.mem_of_getElem? ek
      have zl := g3.length
      have r4 := (hk k mk).2.1
      have s7' := s7.drop hE1
      refine ⟨rfl, ?_⟩
      refine ⟨_, rfl, t, _, _, _, rfl, rfl, s7'.sqT g1, atI_nat (j := 2) rfl, r, rfl, ⟨zs, SqL.of (s7'.keep _ _ g2 nmn)⟩, ?_⟩
      have hsplit : ((bk.take (i + 1)).flatMap fun k => k.rs.map fun r => decide (∀ p ∈ Ru.within r, p.1.1 ∈ Bk.names bk)) = ((bk.take i).flatMap fun k => k.rs.map fun r => decide (∀ p ∈ Ru.within r, p.1.1 ∈ Bk.names bk)) ++ k.rs.map fun r => decide (∀ p ∈ Ru.within r, p.1.1 ∈ Bk.names bk) := by rw [List.take_add_one, ek]; simp
      have hlen : bs.length <= 4 * i := by
       rw [hbs]
       clear hbs hE7 s7 s7' hsplit ex ek
       induction i with
       | zero => simp
       | succ i ih =>
        rw [List.take_add_one, List.flatMap_append, List.length_append]
        have := ih (by omega)
        cases e : bk[i]? with
        | none => simp only [Option.toList_none, List.flatMap_nil, List.length_nil]; omega
        | some k2 =>
         have := (hk k2 (List.mem_of_getElem? e)).2.1
         simp only [Option.toList_some, List.flatMap_cons, List.flatMap_nil, List.append_nil, List.length_map]; omega
      refine lcG (walk_list (xs := zs)) (fun j H3 => SB [E1] H6 H3 /\ ∃ bs2 : List Bool, H3 E1 = some (.lst (bs2.map V.bl)) /\ bs2 = bs ++ ((k.rs.take j).map fun r => decide (∀ p ∈ Ru.within r, p.1.1 ∈ Bk.names bk))) ⟨s7, bs, hE7, by simp⟩ (fun j H3 hj h3 => (h3.1.drop hE1).sqL nmn (SqL.of g2)) (fun j x H3 H4 hj h3 y => ?_) (fun H3 h3 => ?_)
      ·obtain ⟨s8, bs2, hE8, hbs2⟩ := h3
       obtain ⟨rfl, ex2⟩ := y
       obtain ⟨ru, er, hru⟩ := g3.get ex2
       have s8' := s8.drop hE1
       have mr := List.mem_of_getElem? er
       refine ⟨rfl, ?_⟩
       refine ⟨_, rfl, _, rfl, _, D, ru, Bk.names bk, rfl, Dp_sb s8' _ _ (Ru.noList_enc _) hru, (hk k mk).2.2 ru mr, SqL.of (s8'.keep _ _ hD6 nmn), by rw [List.length_map]; omega, fun H9 s9 => ?_⟩
       have hE9 := s9.keep _ _ hE8 nmn
       refine ⟨_, hE9, ?_, (s8.trans s9.nil).trans (SB.set hE9 (by simp) _), bs2 ++ [decide (∀ p ∈ Ru.within ru, p.1.1 ∈ Bk.names bk)], (by rw [upd_same, List.map_append]; rfl), ?_⟩
       ·rw [List.length_map, hbs2, List.length_append, List.length_map, List.length_take]
        omega
       ·rw [hbs2, List.take_add_one, er, Option.toList_some, List.map_append, <- List.append_assoc]
        exact rfl
      ·obtain ⟨s8, bs2, hE8, hbs2⟩ := h3
       refine ⟨s8, bs2, hE8, ?_⟩
       rw [hsplit, hbs2, hbs, zl, List.take_length]
     ·obtain ⟨s7, bs, hE7, hbs⟩ := h2
      rw [xlen, List.take_length] at hbs
      refine ⟨E1, bs, rfl, SqL.of hE7, q _ _ (s06.trans (s7.drop hE1)) ?_⟩
      rw [hbs]
      simp only [List.all_flatMap, List.all_map, List.all_eq_true, Function.comp, id_eq, decide_eq_true_eq]
      constructor
      ·intro h
       exact ⟨bk, rfl, by omega, by omega, nd, fun k mk => ⟨(hk k mk).1, (hk k mk).2.1, fun r mr => ⟨(hk k mk).2.2 r mr, h k mk r mr⟩⟩⟩
      ·rintro ⟨b2, e2, ok⟩ k mk r mr
       have e3 := kts_inj e2
       subst e3
       exact ((ok.kd k mk).2.2 r mr).2
    ·rw [show (!decide (V.int ((met (Bk.names bk) (Bk.names bk).length).length : Nat) = V.int ((Bk.names bk).length : Nat))) = true by
      rw [decide_eq_false (fun z => by injection z with z; exact nd (hnd.mp (by omega)))]; rfl]
     refine iteT (no ?_ _ s06)
     rintro ⟨b2, e2, ok⟩
     have e3 := kts_inj e2
     subst e3
     exact nd ok.nd
 ·have c1 := of_decide_eq_false (Bool.eq_false_iff.mpr c)
  refine ⟨_, rfl, ?_⟩
  refine iteT (no ?_ _ SB.refl)
  rintro ⟨b, e, ok⟩
  have := ok.pos
  rw [e, List.length_map] at xlen
  omega
abbrev N_is_kind : List Str := ["thing", "name", "spreading", "rows", "row"]
theorem sc_is_kind : FnScope N_is_kind ["thing"] (defScope s_is_kind) := ⟨rfl, rfl, rfl, by decide +kernel, rfl, by decide +kernel, by decide +kernel⟩
theorem ok_is_kind (B : BI mg) (L_MOST_RULES : ∃ t, mg "MOST_RULES" = some (.int (4) t)) (G_is_name : Got P w K mg base "is_name" ["thing"] (2) (spName K)) (G_is_rule : Got P w K mg base "is_rule" ["thing"] (85) (spIsRule K)) (F : Fun K "is_kind" "is_kind" s_is_kind f fd) : FnOk P w K mg base CX0 (86) f fd ["thing"] (spIsKind K) := by
 refine F.ok sc_is_kind (fun vs H Q E h => ?_) (fun cdv A outer s H vs Q E hr h => ?_)
 ·obtain ⟨v, t, rfl, _⟩ := h
  rfl
 obtain ⟨v, t, rfl, th, hf, q⟩ := h
 obtain ⟨tk_MOST_RULES, h_MOST_RULES⟩ := L_MOST_RULES
 have hun2 := hunT hr
 refine ⟨_, pss_cons (ps_if (PW.pt (pw_or (pt_not (pt_val (pe_isi B (pv 0) B.tuple boot_tuple))) (pw_or1 (pt_cmpR op_ne (pe_callB call_len_seq rfl B.len PySem.boot_len (pa_cons (pv 0) pa_nil)) pe_int (nomark _))))) (pss_one (ps_ret pe_bl)) pss_nil)
  (pss_cons (ps_asg (pv 0) (pg_tup rfl (pgs_cons (pg_name (i := 1) sc_is_kind.nd rfl (.inl rfl)) (pgs_cons (pg_name (i := 2) sc_is_kind.nd rfl (.inl rfl)) (pgs_cons (pg_name (i := 3) sc_is_kind.nd rfl (.inl rfl)) pgs_nil)))))
  (pss_cons (ps_if (PW.pt (pw_or (pt_not (pt_val (pe_got G_is_name (hr.mono (by omega)) rfl (pa_cons (pv 1) pa_nil)))) (pw_or1 (pt_not (pt_val (pe_isi B (pv 2) B.bool boot_bool)))))) (pss_one (ps_ret pe_bl)) pss_nil)
  (pss_one (ps_ret (pe_and (pe_isi B (pv 3) B.list boot_list) (pe_and (pe_cmpR op_le (pe_callB call_len_seq rfl B.len PySem.boot_len (pa_cons (pv 3) pa_nil)) (pe_glob (v := .int (4)) rfl h_MOST_RULES ⟨_, rfl⟩) (nomark _)) (pe_one (pe_callB (cr_all rfl) rfl B.all boot_all (pa_cons (pe_lc (own := [("row", 4)]) (g := (gName 4)) (tt := tYes) (te := (tCall (spIsRule K) [] E0 (tCons (tVar 4) tNil))) rfl sc_is_kind.nd (pi_list (pv 3)) (blkOk_by (N := N_is_kind) (sc := defScope s_is_kind) (by decide +kernel)) (fun _ _ _ _ _ => (pg_name (i := 4) sc_is_kind.nd rfl (.inl rfl))) (fun _ _ _ _ _ => pts_nil) (fun _ _ _ _ _ => (pe_got G_is_rule (hr.mono (by omega)) rfl (pa_cons (pv 4) pa_nil)))) pa_nil))))))))), ?_⟩
 have no : ¬ KTKd t -> ∀ H', SB [] H H' -> Q (.bl false) H' := fun e H' s' => q false H' s' ⟨(fun z => nomatch z), fun z => absurd z e⟩
 cases t with
 | other =>
  have n0 : ¬ KTKd .other := by rintro ⟨k, e, _⟩; cases e
  obtain ⟨d, tg, hd⟩ := th
  obtain ⟨n1, b, ty, kb, y1, y2⟩ := tg.ty
  refine ⟨_, rfl, _, _, n1, b, rfl, ty, kb, b, rfl, ?_⟩
  cases b with
  | false => exact iteT (iteT (no n0 _ SB.refl))
  | true =>
  refine iteF ?_
  obtain ⟨a, xs, ds, rfl, rfl, hs, ha⟩ := y1 rfl
  refine ⟨_, rfl, a, xs, rfl, .inr hs, rfl, _, rfl, ?_⟩
  have hl := TgAll.length ha
  have h3 := hd ds rfl
  rw [show (!decide (V.int (xs.length : Nat) = V.int 3)) = true by rw [decide_eq_false (fun z => by injection z with z; omega)]; rfl]
  exact iteT (no n0 _ SB.refl)
 | three d w rs =>
  obtain ⟨a, x, y, z, rfl, hs, tx, ty, tz⟩ := th
  refine ⟨_, rfl, _, _, "tuple", true, rfl, SqT_ty hs, by decide +kernel, _, rfl, ?_⟩
  refine iteF ?_
  refine ⟨_, rfl, a, _, rfl, .inr hs, rfl, _, rfl, ?_⟩
  rw [show (!decide (V.int (([x, y, z] : List V).length : Nat) = V.int 3)) = false from rfl]
  refine iteF ?_
  refine ⟨_, rfl, a, _, rfl, hs, rfl, _, _, rfl, _, _, rfl, _, _, rfl, rfl, ?_⟩
  refine ⟨_, rfl, x, d, rfl, tx, fun H1 s1 => ?_⟩
  refine ⟨_, rfl, ?_⟩
  cases g1 : nameD d with
  | false =>
   refine iteT (iteT (no ?_ _ s1))
   rintro ⟨k, e, hk, _⟩
   injection e with e _ _
   rw [e, nameD_ok hk] at g1
   cases g1
  | true =>
  refine iteF ?_
  obtain ⟨nm, rfl, hnm⟩ := nameD_iff g1
  cases w with
  | none =>
   obtain ⟨n, ty, kb⟩ := ty
   refine ⟨_, rfl, _, _, n, false, rfl, TyX_sb s1 (fun _ _ => nmn) ty, kb, _, rfl, ?_⟩
   refine iteT (no ?_ _ s1)
   rintro ⟨k, e, _⟩
   injection e with _ e _
   cases e
  | some bb =>
  have ty : y = .bl bb := ty
  subst ty
  refine ⟨_, rfl, _, _, "bool", true, rfl, .base (.bl bb), by decide +kernel, _, rfl, ?_⟩
  refine iteF ?_
  cases rs with
  | none =>
   obtain ⟨n, ty, kb⟩ := tz
   refine ⟨_, rfl, _, _, n, false, rfl, TyX_sb s1 (fun _ _ => nmn) ty, kb, _, rfl, ?_⟩
   refine iteF (no ?_ _ s1)
   rintro ⟨k, e, _⟩
   injection e with _ _ e
   cases e
  | some ds =>
  obtain ⟨l, zs, rfl, hl, ha⟩ := tz
  obtain ⟨hd1, hd2⟩ := hf ds rfl
  refine ⟨_, rfl, _, _, "list", true, rfl, SqL_ty (s1.sqL nmn (SqL.of hl)), by decide +kernel, _, rfl, ?_⟩
  refine iteT ?_
  have hlen := TgAll.length ha
  refine ⟨_, rfl, l, _, rfl, .inl (s1.sqL nmn (SqL.of hl)), _, _, rfl, rfl, _, rfl, ?_⟩
  refine ite2 (fun c => ?_) (fun c => ?_)
  ·have c1 := of_decide_eq_true c
   rw [hlen] at c1
   have szl := sizeLine_eq
   refine ⟨_, rfl, l, rfl, ⟨_, s1.sqL nmn (SqL.of hl)⟩, fun D hD => ?_⟩
   refine lc_seq (walk_list (xs := zs)) hD (by omega) (fun i us _ => ∃ bs : List Bool, us = bs.map V.bl /\ bs.length = i /\ ∀ j b, bs[j]? = some b -> ∀ x, ds[j]? = some x -> (b = true ↔ RuD x)) ⟨[], rfl, rfl, fun j b h => by rw [List.getElem?_nil] at h; cases h⟩ (fun H6 s6 => s6.sqL nmn (s1.sqL nmn (SqL.of hl))) (fun _ _ _ _ _ h => h) (fun Pv i x H6 H' us hi s6 y hR hl6 fin _ => ?_) (fun us H6 s6 hD6 hR _ => ?_)
   ·obtain ⟨rfl, ex⟩ := y
    obtain ⟨p, ep, hp⟩ := TgAll.get ha ex
    obtain ⟨bs, rfl, hbl, hbs⟩ := hR
    refine ⟨rfl, _, rfl, x, p, rfl, Tg_sb (s1.trans s6) hp, hd2 _ (List.mem_of_getElem? ep), fun b H7 s7 hb => fin _ _ s7 ⟨bs ++ [b], by rw [List.map_append]; rfl, by rw [List.length_append, hbl]; rfl, fun j b' hj y hy => ?_⟩⟩
    by_cases hji : j < bs.length
    ·rw [List.getElem?_append_left hji] at hj
     exact hbs j b' hj y hy
    ·have hj' : j = bs.length := by
      have := (List.getElem?_eq_some_iff.mp hj).1
      rw [List.length_append, List.length_singleton] at this
      omega
     subst hj'
     rw [List.getElem?_append_right (Nat.le_refl _), Nat.sub_self] at hj
     cases hj
     rw [hbl, ep] at hy
     cases hy
     exact hb
   ·obtain ⟨bs, rfl, hbl, hbs⟩ := hR
    refine ⟨D, bs, rfl, SqL.of hD6, q _ _ (s1.trans s6) ?_⟩
    have h1 : (bs.all id = true) ↔ ∀ x ∈ ds, RuD x := by
     rw [List.all_eq_true]
     constructor
     ·intro h x hx
      obtain ⟨j, hj, e⟩ := List.getElem_of_mem hx
      have hjb : j < bs.length := by omega
      exact (hbs j bs[j] (List.getElem?_eq_getElem hjb) x (by rw [List.getElem?_eq_getElem hj, e])).mp (h _ (List.getElem_mem hjb))
     ·intro h b hb
      obtain ⟨j, hj, e⟩ := List.getElem_of_mem hb
      have hjb : j < ds.length := by omega
      exact (hbs j b (by rw [List.getElem?_eq_getElem hj, e]) ds[j] (List.getElem?_eq_getElem hjb)).mpr (h _ (List.getElem_mem hjb))
    rw [h1]
    constructor
    ·intro h
     obtain ⟨rr, e1, e2⟩ := RuD_all h
     exact ⟨⟨nm, bb, rr⟩, by rw [Kd.kt, e1], hnm, by rw [e1, List.length_map] at c1; show rr.length <= 4; omega, e2⟩
    ·rintro ⟨k, e, _, _, hk⟩ x hx
     injection e with _ _ e
     injection e with e
     rw [e] at hx
     obtain ⟨r, hr, rfl⟩ := List.mem_map.mp hx
     exact ⟨r, rfl, hk r hr⟩
  ·have c1 := of_decide_eq_false (Bool.eq_false_iff.mpr c)
   rw [hlen] at c1
   refine no ?_ _ s1
   rintro ⟨k, e, _, h4, _⟩
   injection e with _ _ e
   injection e with e
   rw [e, List.length_map] at c1
   omega
abbrev N_is_rule : List Str := ["thing", "once", "each", "pairs", "tree", "many"]
theorem sc_is_rule : FnScope N_is_rule ["thing"] (defScope s_is_rule) := ⟨rfl, rfl, rfl, by decide +kernel, rfl, by decide +kernel, by decide +kernel⟩
theorem ok_is_rule (B : BI mg) (L_MOST_RULE_PARTS : ∃ t, mg "MOST_RULE_PARTS" = some (.int (4) t)) (L_MOST_MANY : ∃ t, mg "MOST_MANY" = some (.int (1000000000) t)) (G_is_grove : Got P w K mg base "is_grove" ["thing"] (84) (spIsGrove K 81)) (G_pairs_within : Got P w K mg base "pairs_within" ["grove"] (70) (spPairsW K 70)) (F : Fun K "is_rule" "is_rule" s_is_rule f fd) : FnOk P w K mg base CX0 (85) f fd ["thing"] (spIsRule K) := by
 refine F.ok sc_is_rule (fun vs H Q E h => ?_) (fun cdv A outer s H vs Q E hr h => ?_)
 ·obtain ⟨v, d, rfl, _⟩ := h
  rfl
 obtain ⟨v, d, rfl, th, hf, q⟩ := h
 obtain ⟨tk_MOST_RULE_PARTS, h_MOST_RULE_PARTS⟩ := L_MOST_RULE_PARTS
 obtain ⟨tk_MOST_MANY, h_MOST_MANY⟩ := L_MOST_MANY
 have hun2 := hunT hr
 refine ⟨_, pss_cons (ps_if (PW.pt (pw_or (pt_not (pt_val (pe_isi B (pv 0) B.tuple boot_tuple))) (pw_or1 (pt_cmpR op_ne (pe_callB call_len_seq rfl B.len PySem.boot_len (pa_cons (pv 0) pa_nil)) pe_int (nomark _))))) (pss_one (ps_ret pe_bl)) pss_nil)
  (pss_cons (ps_asg (pv 0) (pg_tup rfl (pgs_cons (pg_name (i := 1) sc_is_rule.nd rfl (.inl rfl)) (pgs_cons (pg_name (i := 2) sc_is_rule.nd rfl (.inl rfl)) pgs_nil))))
  (pss_cons (ps_if (PW.pt (pw_or (pt_not (pt_val (pe_got G_is_grove (hr.mono (by omega)) rfl (pa_cons (pv 1) pa_nil)))) (pw_or1 (pt_not (pt_val (pe_got G_is_grove (hr.mono (by omega)) rfl (pa_cons (pv 2) pa_nil))))))) (pss_one (ps_ret pe_bl)) pss_nil)
  (pss_cons (ps_set (i := 3) sc_is_rule.nd rfl (.inl rfl) (pe_op op_cat (pe_got G_pairs_within (hr.mono (by omega)) rfl (pa_cons (pv 1) pa_nil)) (pe_got G_pairs_within (hr.mono (by omega)) rfl (pa_cons (pv 2) pa_nil))))
  (pss_one (ps_ret (pe_and (pe_cmpR op_le (pe_callB call_len_seq rfl B.len PySem.boot_len (pa_cons (pv 3) pa_nil)) (pe_glob (v := .int (4)) rfl h_MOST_RULE_PARTS ⟨_, rfl⟩) (nomark _)) (pe_one (pe_callB (cr_all rfl) rfl B.all boot_all (pa_cons (pe_lc (own := [("tree", 4), ("many", 5)]) (g := (gTup K 2 (gCons (gName 4) (gCons (gName 5) gNil)))) (tt := tYes) (te := (tOp (rI0 fun i j => .bl (decide (i <= j))) (tVar 5) (tC (.int (1000000000))))) rfl sc_is_rule.nd (pi_list (pv 3)) (blkOk_by (N := N_is_rule) (sc := defScope s_is_rule) (by decide +kernel)) (fun _ _ _ _ _ => (pg_tup rfl (pgs_cons (pg_name (i := 4) sc_is_rule.nd rfl (.inl rfl)) (pgs_cons (pg_name (i := 5) sc_is_rule.nd rfl (.inl rfl)) pgs_nil)))) (fun _ _ _ _ _ => pts_nil) (fun _ _ _ _ _ => (pe_cmpR op_le (pv 5) (pe_glob (v := .int (1000000000)) rfl h_MOST_MANY ⟨_, rfl⟩) (nomark _)))) pa_nil))))))))), ?_⟩
 have no : ¬ RuD d -> ∀ H', SB [] H H' -> Q (.bl false) H' := fun e H' s' => q false H' s' ⟨(fun z => nomatch z), fun z => absurd z e⟩
 obtain ⟨n1, b, ty, kb, y1, y2⟩ := th.ty
 refine ⟨_, rfl, _, _, n1, b, rfl, ty, kb, b, rfl, ?_⟩
 cases b with
 | false =>
  refine iteT (iteT (no ?_ _ SB.refl))
  rintro ⟨r, e, _⟩
  exact y2 rfl _ e
 | true =>
 refine iteF ?_
 obtain ⟨a, xs, ds, rfl, rfl, hs, ha⟩ := y1 rfl
 refine ⟨_, rfl, a, xs, rfl, .inr hs, rfl, _, rfl, ?_⟩
 have hl := TgAll.length ha
 by_cases c2 : xs.length = 2
 ·rw [show (!decide (V.int (xs.length : Nat) = V.int 2)) = false by rw [c2]; rfl]
  refine iteF ?_
  cases ha with
  | nil => simp at c2
  | cons t1 ta =>
   cases ta with
   | nil => simp at c2
   | cons t2 ta =>
    cases ta with
    | cons t3 ta => simp at c2
    | nil =>
     rename_i v1 d1 v2 d2
     obtain ⟨f1, f2, f3⟩ := hf
     have q1 : d1.depth < PyData.depth (.tuple [d1, d2]) /\ d2.depth < PyData.depth (.tuple [d1, d2]) := by simp only [PyData.depth, PyData.depthAll]; omega
     have q2 : wide d1 <= wide (.tuple [d1, d2]) /\ wide d2 <= wide (.tuple [d1, d2]) := by simp only [wide, wides]; omega
     refine ⟨_, rfl, a, _, rfl, hs, rfl, _, _, rfl, _, _, rfl, rfl, ?_⟩
     refine ⟨_, rfl, v1, d1, rfl, t1, by omega, by omega, by omega, fun H1 s1 => ?_⟩
     refine ⟨_, rfl, ?_⟩
     cases g1 : groveD d1 with
     | false =>
      refine iteT (iteT (no ?_ _ s1))
      intro z
      obtain ⟨g, k, e, z1, _⟩ := RuD_two z
      injection e with e
      injection e with e _
      rw [e, z1] at g1
      cases g1
     | true =>
     refine iteF ?_
     refine ⟨_, rfl, v2, d2, rfl, Tg_sb s1 t2, by omega, by omega, by omega, fun H2 s2 => ?_⟩
     have s02 := s1.trans s2
     refine ⟨_, rfl, ?_⟩
     cases g2 : groveD d2 with
     | false =>
      refine iteT (no ?_ _ s02)
      intro z
      obtain ⟨g, k, e, _, z1⟩ := RuD_two z
      injection e with e
      injection e with _ e
      injection e with e _
      rw [e, z1] at g2
      cases g2
     | true =>
     refine iteF ?_
     obtain ⟨u1, rfl⟩ := groveD_gr _ g1
     obtain ⟨u2, rfl⟩ := groveD_gr _ g2
     obtain ⟨w1, w2⟩ := f3 _ _ rfl u1 (.inl rfl)
     obtain ⟨w3, w4⟩ := f3 _ _ rfl u2 (.inr rfl)
     have ga1 : GA K H v1 u1 := by
      cases t1 with
      | tup h1 h2 => exact .tup h1 (Tg_ga u1 h2)
     have ga2 : GA K H v2 u2 := by
      cases t2 with
      | tup h1 h2 => exact .tup h1 (Tg_ga u2 h2)
     refine ⟨_, rfl, _, u1, rfl, ga1.sb s02, by omega, by omega, fun D1 us1 H3 s3 hn1 hD1 hb1 => ?_⟩
     refine ⟨_, rfl, _, u2, rfl, (ga2.sb s02).sb s3, by omega, by omega, fun D2 us2 H4 s4 hn2 hD2 hb2 => ?_⟩
     have l1 := hb1.length
     have l2 := hb2.length
     rw [Gr.within_length] at l1 l2
     have szl := sizeLine_eq
     refine ⟨D1, D2, us1, us2, rfl, rfl, s4.keep _ _ hD1 nmn, hD2, by omega, fun D3 hn3 => ?_⟩
     have t5 := SB.new (ps := []) hn3 (.lst (us1 ++ us2))
     have s05 := ((s02.trans s3).trans s4).trans t5
     have hD3 : upd H4 D3 (.lst (us1 ++ us2)) D3 = some (.lst (us1 ++ us2)) := upd_same
     have hb3 : Bears K (upd H4 D3 (.lst (us1 ++ us2))) Gr.pEnc (us1 ++ us2) (u1.within ++ u2.within) := Bears.append ((hb1.sb s4 Gr.noList_pEnc).sb t5 Gr.noList_pEnc) (hb2.sb t5 Gr.noList_pEnc)
     generalize upd H4 D3 (.lst (us1 ++ us2)) = H5 at t5 s05 hD3 hb3
     have iff1 := RuD_iff g1 g2
     refine ⟨_, rfl, D3, _, rfl, .inl (SqL.of hD3), _, _, rfl, rfl, _, rfl, ?_⟩
     refine ite2 (fun c => ?_) (fun c => ?_)
     ·have c1 := of_decide_eq_true c
      rw [List.length_append, l1, l2] at c1
      have bl3 := hb3.length
      refine ⟨_, rfl, D3, rfl, ⟨_, SqL.of hD3⟩, fun D hD => ?_⟩
      refine lc_seq (walk_list (xs := us1 ++ us2)) hD (by rw [List.length_append]; omega) (fun i us _ => us = ((u1.within ++ u2.within).take i).map fun p => V.bl (decide (p.2 <= 1000000000))) rfl (fun H6 s6 => s6.sqL nmn (SqL.of hD3)) (fun _ _ _ _ _ h => h) (fun Pv i x H6 H' us hi s6 y hR hl6 fin _ => ?_) (fun us H6 s6 hD6 hR _ => ?_)
      ·obtain ⟨rfl, ex⟩ := y
       obtain ⟨p, ep, hpd⟩ := hb3.get ex
       obtain ⟨ad, td, ux, rfl, hs2, hs3, hga, hdt⟩ := PA_parts hpd
       refine ⟨ad, _, rfl, s6.sqT hs2, rfl, _, _, rfl, _, _, rfl, rfl, rfl, ?_⟩
       refine ⟨_, rfl, _, _, rfl, rfl, fin _ _ SB.refl ?_⟩
       rw [hR, List.take_add_one, ep, Option.toList_some, List.map_append]; rfl
      ·rw [bl3, List.take_length] at hR
       subst hR
       refine ⟨D, ((u1.within ++ u2.within).map fun p => decide (p.2 <= 1000000000)), rfl, SqL.of (by rw [List.map_map]; exact hD6), q _ _ (s05.trans s6) ?_⟩
       rw [iff1]
       simp only [List.all_map, List.all_eq_true, Function.comp, id_eq, decide_eq_true_eq]
       exact ⟨fun h => ⟨by omega, h⟩, fun h => h.2⟩
     ·have c1 := of_decide_eq_false (Bool.eq_false_iff.mpr c)
      rw [List.length_append, l1, l2] at c1
      refine q false _ s05 ⟨(fun z => nomatch z), fun z => absurd (iff1.mp z).1 (by omega)⟩
 ·rw [show (!decide (V.int (xs.length : Nat) = V.int 2)) = true by rw [decide_eq_false (fun z => by injection z with z; omega)]; rfl]
  refine iteT (no ?_ _ SB.refl)
  rintro ⟨r, e, _⟩
  have e' : PyData.tuple ds = .tuple [r.1.enc, r.2.enc] := e
  injection e' with e'
  rw [e'] at hl
  exact c2 hl
abbrev N_is_rule_of : List Str := ["rule", "names", "once", "each", "tree", "many"]
theorem sc_is_rule_of : FnScope N_is_rule_of ["rule", "names"] (defScope s_is_rule_of) := ⟨rfl, rfl, rfl, by decide +kernel, rfl, by decide +kernel, by decide +kernel⟩
theorem ok_is_rule_of (B : BI mg) (G_pairs_within : Got P w K mg base "pairs_within" ["grove"] (70) (spPairsW K 70)) (F : Fun K "is_rule_of" "is_rule_of" s_is_rule_of f fd) : FnOk P w K mg base CX0 (71) f fd ["rule", "names"] (spIsRuleOf K) := by
 refine F.ok sc_is_rule_of (fun vs H Q E h => ?_) (fun cdv A outer s H vs Q E hr h => ?_)
 ·obtain ⟨v, l, r, ns, rfl, _⟩ := h
  rfl
 obtain ⟨v, l, r, ns, rfl, hv, ho, hs, hn, q⟩ := h
 have hun2 := hunT hr
 refine ⟨_, pss_cons (ps_asg (pv 0) (pg_tup rfl (pgs_cons (pg_name (i := 2) sc_is_rule_of.nd rfl (.inl rfl)) (pgs_cons (pg_name (i := 3) sc_is_rule_of.nd rfl (.inl rfl)) pgs_nil))))
  (pss_one (ps_ret (pe_callB (cr_all rfl) rfl B.all boot_all (pa_cons (pe_lc (own := [("tree", 4), ("many", 5)]) (g := (gTup K 2 (gCons (gName 4) (gCons (gName 5) gNil)))) (tt := tYes) (te := (tOp (rIn K false) (tOp (rIxT K) (tVar 4) (tC (.int 0))) (tVar 1))) rfl sc_is_rule_of.nd (pi_list (pe_op op_cat (pe_got G_pairs_within (hr.mono (by omega)) rfl (pa_cons (pv 2) pa_nil)) (pe_got G_pairs_within (hr.mono (by omega)) rfl (pa_cons (pv 3) pa_nil)))) (blkOk_by (N := N_is_rule_of) (sc := defScope s_is_rule_of) (by decide +kernel)) (fun _ _ _ _ _ => (pg_tup rfl (pgs_cons (pg_name (i := 4) sc_is_rule_of.nd rfl (.inl rfl)) (pgs_cons (pg_name (i := 5) sc_is_rule_of.nd rfl (.inl rfl)) pgs_nil)))) (fun _ _ _ _ _ => pts_nil) (fun _ _ _ _ _ => (pe_cmpR op_in_seq (pe_ix ix_tup (pv 4) pe_int (fun _ _ => rfl)) (pv 1) (by rfl)))) pa_nil)))), ?_⟩
 obtain ⟨ho1, ho2, ho3⟩ := ho
 cases (hv : Dp K H v (.tuple [r.1.enc, r.2.enc])) with
 | tup ht hd =>
 rename_i a xs
 cases hd with
 | cons g1 hd =>
 cases hd with
 | cons g2 hd =>
 cases hd
 have dp1 := (within_deep r.1)
 have dp2 := (within_deep r.2)
 refine ⟨_, rfl, a, _, rfl, ht, rfl, _, _, rfl, _, _, rfl, rfl, ?_⟩
 have ga1 : GA K H _ r.1 := g1
 have ga2 : GA K H _ r.2 := g2
 refine ⟨_, rfl, _, r.1, rfl, ga1, by omega, by omega, fun D1 us1 H3 s3 hn1 hD1 hb1 => ?_⟩
 refine ⟨_, rfl, _, r.2, rfl, ga2.sb s3, by omega, by omega, fun D2 us2 H4 s4 hn2 hD2 hb2 => ?_⟩
 have l1 := hb1.length
 have l2 := hb2.length
 rw [Gr.within_length] at l1 l2
 have szl := sizeLine_eq
 refine ⟨D1, D2, us1, us2, rfl, rfl, s4.keep _ _ hD1 nmn, hD2, by omega, fun D3 hn3 => ?_⟩
 have t5 := SB.new (ps := []) hn3 (.lst (us1 ++ us2))
 have s05 := (s3.trans s4).trans t5
 have hD3 : upd H4 D3 (.lst (us1 ++ us2)) D3 = some (.lst (us1 ++ us2)) := upd_same
 have hb3 : Bears K (upd H4 D3 (.lst (us1 ++ us2))) Gr.pEnc (us1 ++ us2) (r.1.within ++ r.2.within) := Bears.append ((hb1.sb s4 Gr.noList_pEnc).sb t5 Gr.noList_pEnc) (hb2.sb t5 Gr.noList_pEnc)
 generalize upd H4 D3 (.lst (us1 ++ us2)) = H5 at t5 s05 hD3 hb3
 have bl3 := hb3.length
 refine ⟨D3, rfl, ⟨_, SqL.of hD3⟩, fun D hD => ?_⟩
 refine lc_seq (walk_list (xs := us1 ++ us2)) hD (by rw [List.length_append]; omega) (fun i us _ => us = ((r.1.within ++ r.2.within).take i).map fun p => V.bl (decide (p.1.1 ∈ ns))) rfl (fun H6 s6 => s6.sqL nmn (SqL.of hD3)) (fun _ _ _ _ _ h => h) (fun Pv i x H6 H' us hi s6 y hR hl6 fin _ => ?_) (fun us H6 s6 hD6 hR _ => ?_)
 ·obtain ⟨rfl, ex⟩ := y
  obtain ⟨p, ep, hpd⟩ := hb3.get ex
  obtain ⟨ad, td, ux, rfl, hs2, hs3, hga, hdt⟩ := PA_parts hpd
  refine ⟨ad, _, rfl, s6.sqT hs2, rfl, _, _, rfl, _, _, rfl, rfl, rfl, ?_⟩
  refine ⟨_, rfl, td, _, _, _, rfl, rfl, s6.sqT hs3, atI_nat (j := 0) rfl, _, rfl, l, _, rfl, .inl ((s05.trans s6).sqL nmn hs), rfl, flat_strs _, fin _ _ SB.refl ?_⟩
  rw [hR, List.take_add_one, ep, Option.toList_some, List.map_append, inV_strs]; rfl
 ·rw [bl3, List.take_length] at hR
  subst hR
  refine ⟨D, ((r.1.within ++ r.2.within).map fun p => decide (p.1.1 ∈ ns)), rfl, SqL.of (by rw [List.map_map]; exact hD6), ?_⟩
  have := q _ (s05.trans s6)
  rw [show (List.map (fun p : Tr × Int => decide (p.1.1 ∈ ns)) (r.1.within ++ r.2.within)).all id = decide (∀ p ∈ Ru.within r, p.1.1 ∈ ns) by
   rw [Bool.eq_iff_iff]
   simp only [List.all_map, List.all_eq_true, Function.comp, id_eq, decide_eq_true_eq]
   exact Iff.rfl]
  exact this
abbrev N_capped : List Str := ["many"]
theorem sc_capped : FnScope N_capped ["many"] (defScope s_capped) := ⟨rfl, rfl, rfl, by decide +kernel, rfl, by decide +kernel, by decide +kernel⟩
theorem ok_capped (B : BI mg) (L_TOO_LONG : ∃ t, mg "TOO_LONG" = some (.int (1000000000000000000000000000000000000000000000000000000000000000000000000000000000000000000000000000000000000000000000000000000000000000000000000000000000000000000000000000000000000000000000000000000000000000000000000000000000000000000000000000000000000000000000000000000000000000000000000000000000000) t)) (F : Fun K "capped" "capped" s_capped f fd) : FnOk P w K mg base CX0 (1) f fd ["many"] (spCap) := by
 refine F.ok sc_capped (fun vs H Q E h => ?_) (fun cdv A outer s H vs Q E hr h => ?_)
 ·obtain ⟨x, rfl, _⟩ := h
  rfl
 obtain ⟨x, rfl, q⟩ := h
 obtain ⟨tk_TOO_LONG, h_TOO_LONG⟩ := L_TOO_LONG
 have hun2 := hunT hr
 refine ⟨_, pss_one (ps_ret (pe_callB (call_min2 rfl) rfl B.min boot_min (pa_cons (pv 0) (pa_cons (pe_glob (v := .int (1000000000000000000000000000000000000000000000000000000000000000000000000000000000000000000000000000000000000000000000000000000000000000000000000000000000000000000000000000000000000000000000000000000000000000000000000000000000000000000000000000000000000000000000000000000000000000000000000000000000000)) rfl h_TOO_LONG ⟨_, rfl⟩) pa_nil)))), ?_⟩
 refine ⟨_, rfl, x, _, rfl, ?_⟩
 have e : (if CAP < x then CAP else x) = capI x := by unfold capI; split <;> split <;> omega
 have q1 := q H SB.refl
 rw [<- e] at q1
 exact q1
abbrev N_check_long : List Str := ["many"]
theorem sc_check_long : FnScope N_check_long ["many"] (defScope s_check_long) := ⟨rfl, rfl, rfl, by decide +kernel, rfl, by decide +kernel, by decide +kernel⟩
theorem ok_check_long {C_TooLong : Addr} (B : BI mg) (O_TooLong : Own K mg "TooLong" C_TooLong) (L_TOO_LONG : ∃ t, mg "TOO_LONG" = some (.int (1000000000000000000000000000000000000000000000000000000000000000000000000000000000000000000000000000000000000000000000000000000000000000000000000000000000000000000000000000000000000000000000000000000000000000000000000000000000000000000000000000000000000000000000000000000000000000000000000000000000000) t)) (F : Fun K "check_long" "check_long" s_check_long f fd) : FnOk P w K mg base (L2N.CX P w) (1) f fd ["many"] (spChkLong C_TooLong) := by
 refine F.okXN sc_check_long (fun vs H Q E h => ?_) (fun cdv A outer s H vs Q E hr h => ?_)
 ·obtain ⟨x, rfl, _⟩ := h
  rfl
 obtain ⟨x, rfl, q0, q1⟩ := h
 obtain ⟨tk_TOO_LONG, h_TOO_LONG⟩ := L_TOO_LONG
 have hun2 := hunT hr
 refine ⟨_, pss_one (ps_if (pt_cmpR op_ge (pv 0) (pe_glob (v := .int (1000000000000000000000000000000000000000000000000000000000000000000000000000000000000000000000000000000000000000000000000000000000000000000000000000000000000000000000000000000000000000000000000000000000000000000000000000000000000000000000000000000000000000000000000000000000000000000000000000000000000)) rfl h_TOO_LONG ⟨_, rfl⟩) (nomark _)) (pss_one (L2N.ps_raise rfl (L2N.takes_of rfl rfl rfl rfl) (L2N.pmk_own PySem.F.excBase_ValueError O_TooLong.q O_TooLong.gC O_TooLong.k (raises_own O_TooLong.s O_TooLong.t) rfl))) pss_nil), ?_⟩
 refine ⟨_, rfl, _, _, rfl, rfl, decide (CAP <= x), rfl, ?_⟩
 by_cases h : CAP <= x
 ·rw [decide_eq_true h]; exact iteT (q1 h H SB.refl)
 ·rw [decide_eq_false h]; exact iteF (q0 (by omega) H SB.refl)
abbrev N_count_in : List Str := ["book", "counts", "grove", "bound", "tree", "many"]
theorem sc_count_in : FnScope N_count_in ["book", "counts", "grove", "bound"] (defScope s_count_in) := ⟨rfl, rfl, rfl, by decide +kernel, rfl, by decide +kernel, by decide +kernel⟩
theorem ok_count_in {n : Nat} {C_Book : Addr} (B : BI mg) (G_capped : Got P w K mg base "capped" ["many"] (1) (spCap)) (G_count_of : Got P w K mg base "count_of" ["book", "counts", "tree", "bound"] (2 * n + 6) (spCntOf K C_Book n)) (F : Fun K "count_in" "count_in" s_count_in f fd) : FnOk P w K mg base CX0 (2 * n + 7) f fd ["book", "counts", "grove", "bound"] (spCntIn K C_Book (n + 1)) := by
 refine F.ok sc_count_in (fun vs H Q E h => ?_) (fun cdv A outer s H vs Q E hr h => ?_)
 ·obtain ⟨v, u, d, b, κ, ns, g, D, C, rfl, _⟩ := h
  rfl
 obtain ⟨v, u, d, b, κ, ns, g, D, C, rfl, hv, hl, hw, hg, ok, hC, hgd, hp, hin, hk, hD, q⟩ := h
 have hun2 := hunT hr
 refine ⟨_, pss_one (ps_ret (pe_got G_capped (hr.mono (by omega)) rfl (pa_cons (pe_callB (cr_sum rfl) rfl B.sum boot_sum (pa_cons (pe_lc (own := [("tree", 4), ("many", 5)]) (g := (gTup K 2 (gCons (gName 4) (gCons (gName 5) gNil)))) (tt := tYes) (te := (tOp (rI CMulW fun i j => .int (i * j)) (tVar 5) (tCall (spCntOf K C_Book n) [] E0 (tCons (tVar 0) (tCons (tVar 1) (tCons (tVar 4) (tCons (tVar 3) tNil))))))) rfl sc_count_in.nd (pi_tup (pv 2)) (blkOk_by (N := N_count_in) (sc := defScope s_count_in) (by decide +kernel)) (fun _ _ _ _ _ => (pg_tup rfl (pgs_cons (pg_name (i := 4) sc_count_in.nd rfl (.inl rfl)) (pgs_cons (pg_name (i := 5) sc_count_in.nd rfl (.inl rfl)) pgs_nil)))) (fun _ _ _ _ _ => pts_nil) (fun _ _ _ _ _ => (pe_op op_mulW (pv 5) (pe_got G_count_of (hr.mono (by omega)) rfl (pa_cons (pv 0) (pa_cons (pv 1) (pa_cons (pv 4) (pa_cons (pv 3) pa_nil)))))))) pa_nil)) pa_nil))), ?_⟩
 obtain ⟨a, xs, rfl, hs, hb⟩ := GA_bears hg
 have xl := hb.length
 have lp := g.len_parts
 have szl := sizeLine_eq
 refine ⟨_, rfl, a, rfl, ⟨xs, hs⟩, fun D0 hD0 => ?_⟩
 refine lc_seq (walk_tup (xs := xs)) hD0 (by omega) (fun i us H2 => us = ((g.ps.take i).map fun p : Tr × Int => V.int (p.2 * Gr.cot b κ D p.1))) rfl (fun H2 s2 => s2.sqT hs) (fun i us H2 H3 s3 h => h) (fun Pv i x Hq H2 us hi s2 y hR hu fin skip => ?_) (fun us H2 s2 hD2 hR hu => ?_)
 ·obtain ⟨rfl, ey⟩ := y
  obtain ⟨p, ep, hpd⟩ := hb.get ey
  have pm := List.mem_of_getElem? ep
  obtain ⟨ad, td, ux, rfl, hs2, hs3, hga, htd⟩ := PA_parts hpd
  have pd := g.mem_deep p pm
  have pp := g.mem_parts p pm
  obtain ⟨o1, o2, o3, o4⟩ := (Gr.ok_iff.mp ok).1 p pm
  have pw : p ∈ g.within := by rw [Gr.within_ps]; exact List.mem_flatMap.mpr ⟨p, pm, mcs ..⟩
  have pin : ∀ x ∈ p.1.2.within, x ∈ g.within := fun x hx => by rw [Gr.within_ps]; exact List.mem_flatMap.mpr ⟨p, pm, mcm _ hx⟩
  have ct := cofI_nn (w := b.wide p.1.1) (hk p.1.1) (Gr.cin_nn (b := b) hk hD.1 o2).1 hD.1
  have b2 : p.2.natAbs < 2 ^ 2000 := by
   have h3 : (2 : Int) ^ 1000 < 2 ^ 2000 := by decide +kernel
   have h2 : ((2 ^ 2000 : Nat) : Int) = 2 ^ 2000 := by rw [Int.natCast_pow]; rfl
   omega
  refine ⟨ad, _, rfl, s2.sqT hs2, rfl, _, _, rfl, _, _, rfl, rfl, rfl, ?_⟩
  refine ⟨_, rfl, _, rfl, _, rfl, _, rfl, _, rfl, v, .ref td, d, b, κ, ns, p.1.1, p.1.2, D, C, rfl, hv.sb0 s2, hl, hw.sb0 s2, Dp_sb s2 _ _ (Gr.noList_tEnc _) htd, o2, hC, by omega, by omega, hin p pw, fun x hx => hin x (pin x hx), hk, hD, fun H3 s3 => ?_⟩
  refine ⟨_, _, rfl, rfl, cmulw b2 (CAP_bits ct.1 ct.2), fin _ H3 s3 ?_⟩
  rw [hR, List.take_add_one, ep, List.map_append]
  rfl
 ·rw [xl, List.take_length] at hR
  subst hR
  refine ⟨D0, g.ps.map fun p : Tr × Int => p.2 * Gr.cot b κ D p.1, rfl, ?_, ?_⟩
  ·refine SqL.of ?_
   rw [hD2, List.map_map]; rfl
  ·refine ⟨_, rfl, fun H3 s3 => ?_⟩
   have q1 := q H3 (s2.trans s3)
   unfold Gr.cin at q1
   rw [Gr.cu_ps] at q1
   exact q1
abbrev N_count_of : List Str := ["book", "counts", "tree", "bound", "kind", "held", "inner"]
theorem sc_count_of : FnScope N_count_of ["book", "counts", "tree", "bound"] (defScope s_count_of) := ⟨rfl, rfl, rfl, by decide +kernel, rfl, by decide +kernel, by decide +kernel⟩
theorem ok_count_of {n : Nat} {C_Book C_NoKind : Addr} (B : BI mg) (G_count_in : Got P w K mg base "count_in" ["book", "counts", "grove", "bound"] (2 * n + 5) (spCntIn K C_Book n)) (G_Book_spreads : GotMXN P w K mg base C_Book "spreads" ["self", "name"] (4) (spBSpreads K C_Book C_NoKind)) (G_spread_count : Got P w K mg base "spread_count" ["own", "inner", "bound"] (2) (spSpc)) (G_capped : Got P w K mg base "capped" ["many"] (1) (spCap)) (F : Fun K "count_of" "count_of" s_count_of f fd) : FnOk P w K mg base CX0 (2 * n + 6) f fd ["book", "counts", "tree", "bound"] (spCntOf K C_Book n) := by
 refine F.ok sc_count_of (fun vs H Q E h => ?_) (fun cdv A outer s H vs Q E hr h => ?_)
 ·obtain ⟨v, t, d, b, κ, ns, k, g, D, C, rfl, _⟩ := h
  rfl
 obtain ⟨v, t, d, b, κ, ns, k, g, D, C, rfl, hv, hl, hw, ht, ok, hC, hgd, hp, ⟨kn, kb⟩, hin, hk, hD, q⟩ := h
 have hun2 := hunT hr
 refine ⟨_, pss_cons (ps_asg (pv 2) (pg_tup rfl (pgs_cons (pg_name (i := 4) sc_count_of.nd rfl (.inl rfl)) (pgs_cons (pg_name (i := 5) sc_count_of.nd rfl (.inl rfl)) pgs_nil))))
  (pss_cons (ps_set (i := 6) sc_count_of.nd rfl (.inl rfl) (pe_got G_count_in (hr.mono (by omega)) rfl (pa_cons (pv 0) (pa_cons (pv 1) (pa_cons (pv 5) (pa_cons (pv 3) pa_nil))))))
  (pss_cons (ps_if (pt_val (pe_gotMXN G_Book_spreads (hr.mono (by omega)) (pv 0) (pa_cons (pv 4) pa_nil))) (pss_one (ps_ret (pe_got G_spread_count (hr.mono (by omega)) rfl (pa_cons (pe_dget (by show A.units + 3 + 1 < cLine; omega) (pv 1) (pv 4) (fun _ _ => rfl)) (pa_cons (pv 6) (pa_cons (pv 3) pa_nil)))))) pss_nil)
  (pss_one (ps_ret (pe_got G_capped (hr.mono (by omega)) rfl (pa_cons (pe_op op_add (pe_dget (by show A.units + 3 + 1 < cLine; omega) (pv 1) (pv 4) (fun _ _ => rfl)) (pv 6)) pa_nil)))))), ?_⟩
 obtain ⟨a, u, rfl, hs, hga⟩ := TA_parts ht
 have hdv := hw.val kn
 refine ⟨_, rfl, a, _, rfl, hs, rfl, _, _, rfl, _, _, rfl, rfl, ?_⟩
 refine ⟨_, rfl, _, rfl, _, rfl, _, rfl, v, u, d, b, κ, ns, g, D, C, rfl, hv, hl, hw, hga, ok, hC, hgd, hp, hin, hk, hD, fun H1 s1 => ?_⟩
 refine nameI ?_
 obtain ⟨va, vdx, vd1, vd2, rfl, hva⟩ := (hv.sb0 s1).at
 obtain ⟨kd, eg⟩ := Bk.get_of kb
 have cn := Gr.cin_nn (b := b) hk hD.1 ok
 refine ⟨_, rfl, va, vdx, _, rfl, hva, rfl, _, rfl, ?_⟩
 refine ⟨_, b, k, rfl, hv.sb0 s1, hl, fun k' e' H2 s2 => ?_, fun z => by rw [eg] at z; cases z⟩
 rw [eg] at e'
 cases e'
 have s12 := s1.trans s2
 have hdv2 := (hw.sb0 s12).val kn
 refine ⟨_, rfl, ?_⟩
 have hwd : b.wide k = kd.w := Bk.wide_get eg
 cases hkw : kd.w with
 | true =>
  have e : Gr.cot b κ D (k, g) = spcI (κ k) (Gr.cin b κ D g) D := by
   show cofI (b.wide k) _ _ _ = _
   rw [hwd, hkw]; exact if_pos rfl
  refine iteT ⟨_, rfl, _, rfl, d, _, rfl, hdv2, ?_⟩
  refine ⟨_, rfl, _, rfl, _, _, _, rfl, hk k, cn.1, hD, fun H3 s3 => ?_⟩
  have q1 := q H3 (s12.trans s3)
  rw [e] at q1
  exact q1
 | false =>
  have e : Gr.cot b κ D (k, g) = capI (κ k + Gr.cin b κ D g) := by
   show cofI (b.wide k) _ _ _ = _
   rw [hwd, hkw]; exact if_neg (by simp)
  refine iteF ⟨_, rfl, _, rfl, d, _, rfl, hdv2, ?_⟩
  refine ⟨_, rfl, _, _, rfl, rfl, _, rfl, fun H3 s3 => ?_⟩
  have q1 := q H3 (s12.trans s3)
  rw [e] at q1
  exact q1
abbrev N_spread_count : List Str := ["own", "inner", "bound", "many", "left"]
theorem sc_spread_count : FnScope N_spread_count ["own", "inner", "bound"] (defScope s_spread_count) := ⟨rfl, rfl, rfl, by decide +kernel, rfl, by decide +kernel, by decide +kernel⟩
theorem ok_spread_count (B : BI mg) (L_TOO_LONG : ∃ t, mg "TOO_LONG" = some (.int (1000000000000000000000000000000000000000000000000000000000000000000000000000000000000000000000000000000000000000000000000000000000000000000000000000000000000000000000000000000000000000000000000000000000000000000000000000000000000000000000000000000000000000000000000000000000000000000000000000000000000) t)) (G_capped : Got P w K mg base "capped" ["many"] (1) (spCap)) (F : Fun K "spread_count" "spread_count" s_spread_count f fd) : FnOk P w K mg base CX0 (2) f fd ["own", "inner", "bound"] (spSpc) := by
 refine F.ok sc_spread_count (fun vs H Q E h => ?_) (fun cdv A outer s H vs Q E hr h => ?_)
 ·obtain ⟨o, i, b, rfl, _⟩ := h
  rfl
 obtain ⟨o, i, b, rfl, ho, hi, hb, q⟩ := h
 obtain ⟨tk_TOO_LONG, h_TOO_LONG⟩ := L_TOO_LONG
 have hun2 := hunT hr
 refine ⟨_, pss_cons (ps_if (pt_cmpR op_eq (pv 2) pe_int (nomark _)) (pss_one (ps_ret (pe_got G_capped (hr.mono (by omega)) rfl (pa_cons (pe_op op_add (pv 0) (pv 1)) pa_nil)))) pss_nil)
  (pss_cons (ps_set (i := 3) sc_spread_count.nd rfl (.inl rfl) (pv 0))
  (pss_cons (ps_set (i := 4) sc_spread_count.nd rfl (.inl rfl) (pv 1))
  (pss_cons (ps_while PassesOwn.never (PW.pt (pw_and (pt_cmpR op_gt (pv 4) pe_int (nomark _)) (pw_and1 (pt_cmpR op_lt (pv 3) (pe_glob (v := .int (1000000000000000000000000000000000000000000000000000000000000000000000000000000000000000000000000000000000000000000000000000000000000000000000000000000000000000000000000000000000000000000000000000000000000000000000000000000000000000000000000000000000000000000000000000000000000000000000000000000000000)) rfl h_TOO_LONG ⟨_, rfl⟩) (nomark _))))) (pss_cons (ps_set (i := 3) sc_spread_count.nd rfl (.inl rfl) (pe_op op_add pe_int (pe_op op_mulW (pe_op op_add pe_int (pv 2)) (pv 3))))
  (pss_one (ps_aug (i := 4) sc_spread_count.nd rfl (.inl rfl) pe_int ip_sub))))
  (pss_one (ps_ret (pe_got G_capped (hr.mono (by omega)) rfl (pa_cons (pv 3) pa_nil))))))), ?_⟩
 have hb0 : 0 <= b := hb.1
 refine ⟨_, rfl, rfl, _, rfl, ?_⟩
 by_cases h0 : b = 0
 ·rw [decide_eq_true (by rw [h0])]
  refine iteT ⟨_, rfl, _, rfl, _, _, rfl, rfl, o + i, rfl, fun H' s => ?_⟩
  have e : spcI o i b = capI (o + i) := if_pos h0
  have q1 := q H' s
  rw [e] at q1
  exact q1
 rw [decide_eq_false (fun z => h0 (by injection z))]
 refine iteF ⟨_, rfl, ?_⟩
 refine nameI ⟨_, rfl, ?_⟩
 refine nameI ?_
 have e : spcI o i b = capI (itF b i.toNat o) := if_neg h0
 refine ⟨fun mm σ H2 => ∃ (k : Nat) (m : Int), mm = k /\ 0 <= m /\ SB [] H H2 /\ σ = [some (.int o), some (.int i), some (.int b), some (.int m), some (.int (k : Int))] /\ itF b k m = itF b i.toNat o,
  ⟨i.toNat, i.toNat, o, rfl, ho, SB.refl, by rw [Int.toNat_of_nonneg hi]; rfl, rfl⟩, fun mm σ H2 h2 => ?_⟩
 obtain ⟨k, m, hmk, hm, s2, rfl, hk⟩ := h2
 refine ⟨_, rfl, _, _, rfl, rfl, _, rfl, ?_⟩
 cases k with
 | zero =>
  rw [show decide ((0 : Int) < ((0 : Nat) : Int)) = false from decide_eq_false (by omega)]
  refine iteF (iteF ⟨_, rfl, m, rfl, fun H' s => ?_⟩)
  have q1 := q H' (s2.trans s)
  rw [e, <- hk] at q1
  exact q1
 | succ k =>
  rw [show decide ((0 : Int) < ((k + 1 : Nat) : Int)) = true from decide_eq_true (by omega)]
  refine iteT ⟨_, rfl, _, _, rfl, rfl, decide (m < CAP), rfl, ?_⟩
  by_cases hc : m < CAP
  ·rw [decide_eq_true hc]
   refine iteT ⟨_, fun σ' H' h => ⟨k, by omega, h⟩, ?_⟩
   refine ⟨_, rfl, _, _, rfl, rfl, _, rfl, _, _, rfl, rfl, cmulw hb.bits1 (CAP_bits hm (by omega)), _, _, rfl, rfl, ?_⟩
   refine nameI ?_
   refine ⟨_, rfl, _, _, rfl, rfl, ?_⟩
   have m1 := spF_ge hb0 hm
   refine ⟨k, spF b m, rfl, by omega, s2, ?_, hk⟩
   rw [show ((k : Nat) : Int) = ((k + 1 : Nat) : Int) - 1 by omega]
   rfl
  ·rw [decide_eq_false hc]
   refine iteF ⟨_, rfl, m, rfl, fun H' s => ?_⟩
   have q1 := q H' (s2.trans s)
   rw [e, <- hk, itF_stop hb0 hm (by omega), <- capI_great (show CAP <= m by omega)] at q1
   exact q1
abbrev N_tree_at : List Str := ["grove", "place", "tree", "row", "at"]
theorem sc_tree_at : FnScope N_tree_at ["grove", "place"] (defScope s_tree_at) := ⟨rfl, rfl, rfl, by decide +kernel, rfl, by decide +kernel, by decide +kernel⟩
theorem ok_tree_at {C : Addr} (B : BI mg) (O : Own K mg "NoPlace" C) (GW : Got P w K mg base "is_whole" ["thing"] 1 (spWhole K)) (F : Fun K "tree_at" "tree_at" s_tree_at f fd) : FnOk P w K mg base (L2N.CX P w) 2 f fd ["grove", "place"] (spTreeAt K C) := by
 refine F.okXN sc_tree_at (fun vs H Q E h => ?_) (fun cdv A outer s H vs Q E hr h => ?_)
 ·obtain ⟨v, g, a, xs, os, rfl, _⟩ := h
  rfl
 obtain ⟨v, g, a, xs, os, rfl, hv, hs, hw, q, qE⟩ := h
 refine ⟨_, pss_cons (ps_if (pt_not (pt_truth (pv 1) (by intro _; rfl))) (pss_one (L2N.ps_raise rfl (L2N.takes_of rfl rfl rfl rfl) (L2N.pmk_own PySem.F.excBase_ValueError O.q O.gC O.k (raises_own O.s O.t) rfl))) pss_nil)
  (pss_cons (ps_set (i := 2) sc_tree_at.nd rfl (.inl rfl) (pe_tup pa_nil))
  (pss_cons (ps_set (i := 3) sc_tree_at.nd rfl (.inl rfl) (pv 0))
  (pss_cons (ps_for (passes_of rfl) rfl (pi_tup (pv 1)) (pg_name (i := 4) sc_tree_at.nd rfl (.inl rfl))
   (pss_cons (ps_if (PW.pt (pw_or (pt_not (pt_val (pe_got GW hr rfl (pa_cons (pv 4) pa_nil)))) (pw_or1 (pt_not (pt_chain op_le op_lt pe_int (pv 4) (pe_callB call_len_seq rfl B.len PySem.boot_len (pa_cons (pv 3) pa_nil)))))))
    (pss_one (L2N.ps_raise rfl (L2N.takes_of rfl rfl rfl rfl) (L2N.pmk_own PySem.F.excBase_ValueError O.q O.gC O.k (raises_own O.s O.t) rfl))) pss_nil)
   (pss_cons (ps_set (i := 2) sc_tree_at.nd rfl (.inl rfl) (pe_ix ix_tup (pe_ix ix_tup (pv 3) (pv 4) (fun _ _ => rfl)) pe_int (fun _ _ => rfl)))
   (pss_one (ps_set (i := 3) sc_tree_at.nd rfl (.inl rfl) (pe_ix ix_tup (pv 2) pe_int (fun _ _ => rfl)))))))
  (pss_one (ps_ret (pv 2)))))), ?_⟩
 have wl := hw.length
 by_cases hnil : os = []
 ·have x0 : xs = [] := by rw [hnil] at wl; exact List.length_eq_zero_iff.mp wl
  exact ⟨_, rfl, false, .inr (.inl ⟨xs, hs, by rw [x0]; rfl⟩), iteT (qE (.inl hnil) _ SB.refl)⟩
 have x1 : xs ≠ [] := fun z => hnil (by rw [z] at wl; exact List.length_eq_zero_iff.mp wl.symm)
 refine ⟨_, rfl, true, .inr (.inl ⟨xs, hs, by cases xs with | nil => exact absurd rfl x1 | cons _ _ => rfl⟩), iteF ?_⟩
 refine ⟨(by show 0 <= sizeLine; decide), fun e0 he0 => ?_⟩
 have t0 := SB.new (ps := []) he0 (.tup [])
 have hv0 := hv.sb t0
 have hs0 := t0.sqT hs
 have hw' : Whs K (upd H e0 (.tup [])) xs os := Whs.sb t0 hw
 generalize hH0 : upd H e0 (.tup []) = H0 at t0 hv0 hs0 hw'
 refine ⟨_, rfl, _, rfl, a, rfl, ⟨xs, hs0⟩, ?_⟩
 refine for_tup (K := K) (a := a) (xs := xs) (fun i σ H2 => H2 = H0 /\ ∃ (tv rv : V) (t : Tr) (o4 : Option V), σ = [some v, some (.ref a), some tv, some rv, o4] /\ lk ("", g) (os.take i) = some t /\ GA K H0 rv t.2 /\ (i = 0 \/ Dp K H0 tv (Gr.tEnc t)))
  ⟨rfl, _, _, ("", g), none, rfl, rfl, hv0, .inl rfl⟩ (fun i σ H2 hi h2 => by rw [h2.1]; exact hs0) (fun i x σ H2 hx h2 => ?_) (fun σ H2 h2 => ?_)
 ·obtain ⟨rfl, tv, rv, t, o4, rfl, hlk, hrv, _⟩ := h2
  obtain ⟨o, eo, hwx⟩ := hw'.get hx
  have bad : stp t.2 o = none -> E (.ref C) none H2 := fun z => qE (.inr (lk_none hlk eo z)) _ t0
  rcases hwx with ⟨n, rfl, rfl⟩ | ⟨rfl, n, b1, b2, ty, k1, k2, k3⟩
  ·refine ⟨_, rfl, _, "int", true, false, rfl, .base (.int n), by decide +kernel, fun _ => by decide +kernel, true, rfl, iteF ?_⟩
   obtain ⟨c, ys, rfl, hsc, hbc⟩ := GA_bears hrv
   have yl := hbc.length
   refine ⟨_, rfl, _, _, rfl, rfl, _, rfl, ?_⟩
   by_cases h0 : 0 <= n
   ·rw [decide_eq_true h0]
    refine iteT ⟨_, rfl, c, ys, rfl, .inr hsc, _, _, rfl, rfl, _, rfl, ?_⟩
    obtain ⟨m, rfl⟩ : ∃ m : Nat, n = (m : Int) := ⟨n.toNat, by omega⟩
    by_cases h1 : m < ys.length
    ·rw [show decide ((m : Int) < (ys.length : Nat)) = true from decide_eq_true (by omega)]
     refine iteF ?_
     obtain ⟨y, hy⟩ : ∃ y, ys[m]? = some y := ⟨_, List.getElem?_eq_getElem h1⟩
     obtain ⟨p, ep, hpd⟩ := hbc.get hy
     obtain ⟨ad, bd, ux, rfl, hsx, hst, hdx, hdt⟩ := PA_parts hpd
     refine ⟨_, rfl, _, rfl, c, ys, _, _, rfl, rfl, hsc, atI_nat hy, ad, _, _, _, rfl, rfl, hsx, atI_nat (j := 0) rfl, ?_⟩
     refine ⟨_, rfl, bd, _, _, _, rfl, rfl, hst, atI_nat (j := 1) rfl, ?_⟩
     have es : stp t.2 (some (m : Int)) = some p.1 := by
      show (if 0 <= (m : Int) then (t.2.ps[(m : Int).toNat]?).map (·.1) else none) = _
      rw [if_pos h0, Int.toNat_natCast, ep]; rfl
     exact ⟨rfl, _, _, p.1, _, rfl, lk_next hlk eo es, hdx, .inr hdt⟩
    ·rw [show decide ((m : Int) < (ys.length : Nat)) = false from decide_eq_false (by omega)]
     refine iteT (bad ?_)
     show (if 0 <= (m : Int) then (t.2.ps[(m : Int).toNat]?).map (·.1) else none) = _
     rw [if_pos h0, Int.toNat_natCast, List.getElem?_eq_none (by omega)]; rfl
   ·rw [decide_eq_false h0]
    refine iteF ⟨_, rfl, iteT (bad ?_)⟩
    show (if 0 <= n then (t.2.ps[n.toNat]?).map (·.1) else none) = _
    rw [if_neg h0]
  ·refine ⟨_, rfl, _, n, b1, b2, rfl, ty, k1, k2, _, rfl, ?_⟩
   rw [k3]
   exact iteT (iteT (bad rfl))
 ·obtain ⟨rfl, tv, rv, t, o4, rfl, hlk, hrv, h3⟩ := h2
  rw [wl, List.take_length] at hlk
  refine ⟨_, rfl, q t hnil hlk _ _ t0 ?_⟩
  rcases h3 with h3 | h3
  ·exact absurd (List.length_eq_zero_iff.mp h3) x1
  ·exact h3
abbrev N_all_places : List Str := ["grove", "found", "at", "pair", "place"]
theorem sc_all_places : FnScope N_all_places ["grove"] (defScope s_all_places) := ⟨rfl, rfl, rfl, by decide +kernel, rfl, by decide +kernel, by decide +kernel⟩
theorem none_all_places {ps : List Str} {k : Nat} : FnOk P w K mg base CX0 k f fd ps (spAllP K 0) := none_sp fun vs H Q E ⟨v, g, _, _, h, _⟩ => by omega
theorem ok_all_places {n : Nat} (B : BI mg) (G_all_places : Got P w K mg base "all_places" ["grove"] (n) (spAllP K n)) (F : Fun K "all_places" "all_places" s_all_places f fd) : FnOk P w K mg base CX0 (n + 1) f fd ["grove"] (spAllP K (n + 1)) := by
 refine F.ok sc_all_places (fun vs H Q E h => ?_) (fun cdv A outer s H vs Q E hr h => ?_)
 ·obtain ⟨v, g, rfl, _⟩ := h
  rfl
 obtain ⟨v, g, rfl, hv, hd, hd100, hp, q⟩ := h
 have hun2 := hunT hr
 refine ⟨_, pss_cons (ps_set (i := 1) sc_all_places.nd rfl (.inl rfl) (pe_lst pa_nil))
  (pss_cons (ps_for PassesOwn.never rfl (pi_enumT rfl B.enumerate (pv 0)) (pg_tup rfl (pgs_cons (pg_name (i := 2) sc_all_places.nd rfl (.inr rfl)) (pgs_cons (pg_name (i := 3) sc_all_places.nd rfl (.inl rfl)) pgs_nil)))
   (pss_cons (ps_expr (pe_bm PySem.F.plainAttrs_list PySem.F.slot_list_append PySem.F.type_list_append mt_append (pv 1) (pa_cons (pe_tup (pa_cons (pv 2) pa_nil)) pa_nil)))
  (pss_one (ps_expr (pe_bm PySem.F.plainAttrs_list PySem.F.slot_list_extend PySem.F.type_list_extend mt_extend (pv 1) (pa_cons (pe_lc (own := [("place", 4)]) (g := (gName 4)) (tt := tYes) (te := (tOp (rCatB K) (tTup (tCons (tVar 2) tNil)) (tVar 4))) rfl sc_all_places.nd (pi_list (pe_got G_all_places (hr.mono (by omega)) rfl (pa_cons (pe_ix ix_tup (pe_ix ix_tup (pv 3) pe_int (fun _ _ => rfl)) pe_int (fun _ _ => rfl)) pa_nil))) (blkOk_by (N := N_all_places) (sc := defScope s_all_places) (by decide +kernel)) (fun _ _ _ _ _ => (pg_name (i := 4) sc_all_places.nd rfl (.inl rfl))) (fun _ _ _ _ _ => pts_nil) (fun _ _ _ _ _ => (pe_op op_catB (pe_tup (pa_cons (pv 2) pa_nil)) (pv 4)))) pa_nil))))))
  (pss_one (ps_ret (pv 1)))), ?_⟩
 obtain ⟨a, xs, rfl, hs, hb⟩ := GA_bears hv
 have bl := hb.length
 have lenb := g.ak_len 0
 refine ⟨(by show 0 <= sizeLine; decide), fun D hD => ?_⟩
 refine ⟨_, rfl, a, xs, rfl, (SB.new (ps := []) hD _).sqT hs, ?_⟩
 refine for_it (walk_enumT (xs := xs)) (fun i σ H2 => SB [D] H H2 /\ ∃ us o2 o3, σ = [some (.ref a), some (.ref D), o2, o3, none] /\ H2 D = some (.lst us) /\ Bears K H2 plEnc us ((Gr.aks (g.ps.take i) 0).map (·.1))) ⟨SB.new hD _, [], none, none, rfl, upd_same, .nil⟩ (fun i σ H2 hi h2 => (h2.1.drop hD).sqT hs) (fun i x σ H2 H' hi h2 y => ?_) (fun σ H2 h2 => ?_)
 ·obtain ⟨s2, us, o2, o3, rfl, hD2, hb2⟩ := h2
  obtain ⟨T, e1, e2, rfl, hT, rfl, ee1, ee2⟩ := y
  have he1 : e1 = .int (i : Nat) := (Option.some.inj ee1).symm
  subst he1
  obtain ⟨p, ep, hpd⟩ := hb.get ee2
  have pm := List.mem_of_getElem? ep
  obtain ⟨ad, td, ux, rfl, hs2, hs3, hga, _⟩ := PA_parts hpd
  have t3 := SB.new (ps := [D]) hT (.tup [.int (i : Nat), .ref ad])
  have hD3 : (upd H2 T (.tup [.int (i : Nat), .ref ad])) D = some (.lst us) := by rw [upd_ne (ne_of_none hD2 hT)]; exact hD2
  have hT3 : SqT K (upd H2 T (.tup [.int (i : Nat), .ref ad])) T [.int (i : Nat), .ref ad] := SqT.of upd_same
  have s3 := s2.trans t3
  have hb3 := hb2.sb t3 pl_noList
  generalize hH3 : upd H2 T (.tup [.int (i : Nat), .ref ad]) = H3 at t3 hD3 hT3 s3 hb3
  have ul := hb3.length
  rw [List.length_map] at ul
  have pd := g.mem_deep p pm
  have pp := g.mem_parts p pm
  have hsp : g.ak 0 = Gr.aks (g.ps.take i) 0 ++ Gr.akP p i ++ Gr.aks (g.ps.drop (i + 1)) (i + 1) := by
   rw [Gr.ak_ps]
   conv => lhs; rw [<- List.take_append_drop (i + 1) g.ps]
   rw [Gr.aks_append, Gr.aks_take ep, List.length_take, Nat.min_eq_left (by omega), Nat.zero_add]
  have hlen := congrArg List.length hsp
  rw [List.length_append, List.length_append] at hlen
  have hP : (Gr.akP p i).length = 1 + p.1.2.parts := by
   unfold Gr.akP
   rw [List.length_cons, List.length_map, Gr.ak_len]; omega
  refine ⟨T, _, rfl, hT3, rfl, _, _, rfl, _, _, rfl, rfl, ?_⟩
  refine ⟨_, rfl, .inl ⟨rfl, _, SqL.of hD3⟩, _, rfl, (by show 1 <= sizeLine; decide), fun t ht => ?_⟩
  have t4 := SB.new (ps := [D]) ht (.tup [.int (i : Nat)])
  have hD4 : (upd H3 t (.tup [.int (i : Nat)])) D = some (.lst us) := by rw [upd_ne (ne_of_none hD3 ht)]; exact hD3
  refine ⟨D, us, _, rfl, rfl, hD4, small1000 (by omega), ?_⟩
  have t5 := SB.set (ps := [D]) hD4 (by simp) (.lst (us ++ [.ref t]))
  have hD5 : (upd (upd H3 t (.tup [.int (i : Nat)])) D (.lst (us ++ [.ref t]))) D = some (.lst (us ++ [.ref t])) := upd_same
  have hb5 := Bears.append ((hb3.sb t4 pl_noList).sb t5 pl_noList) (.cons (PL_of (p := [i]) (t5.sqT (SqT.of upd_same))) .nil)
  have s5 := (s3.trans t4).trans t5
  generalize hH5 : upd (upd H3 t (.tup [.int (i : Nat)])) D (.lst (us ++ [.ref t])) = H5 at t5 hD5 hb5 s5
  have s5' := s5.drop hD
  refine ⟨_, rfl, .inl ⟨rfl, _, SqL.of hD5⟩, ?_⟩
  refine ⟨_, rfl, ad, _, _, _, rfl, rfl, s5'.sqT hs2, atI_nat (j := 0) rfl, td, _, _, _, rfl, rfl, s5'.sqT hs3, atI_nat (j := 1) rfl, _, p.1.2, rfl, hga.sb s5', by omega, by omega, by omega, fun D2 vs2 H6 s6 nD2 hD6 hb6 => ?_⟩
  have hD6' := s6.keep _ _ hD5 nmn
  have vl := hb6.length
  rw [List.length_map] at vl
  have pal := p.1.2.ak_len 0
  refine ⟨D2, rfl, ⟨_, SqL.of hD6⟩, fun L hL => ?_⟩
  have DL : D ≠ L := ne_of_none hD6' hL
  refine lc_seq (walk_list (xs := vs2)) hL (by have := small1000 (n := vs2.length) (by omega); omega) (fun j ws H7 => Bears K H7 plEnc ws (((p.1.2.ak 0).take j).map fun x : Pl × Str => i :: x.1)) .nil (fun H7 s7 => s7.sqL nmn (SqL.of hD6)) (fun _ _ _ _ e h => h.sb e pl_noList) (fun Pv j z Hq H7 ws hj s7 yz hR hw fin _ => ?_) (fun ws H7 s7 hL7 hR hw => ?_)
  ·obtain ⟨rfl, ez⟩ := yz
   obtain ⟨pl, epl, hpl⟩ := hb6.get ez
   rw [List.getElem?_map] at epl
   obtain ⟨x, ex, rfl⟩ := Option.map_eq_some_iff.mp epl
   obtain ⟨pa, rfl, hpa⟩ := PL_ints hpl
   have plong := p.1.2.ak_long 0 x (List.mem_of_getElem? ex)
   refine ⟨rfl, ?_⟩
   refine ⟨_, rfl, (by show 1 <= sizeLine; decide), fun t ht => ?_⟩
   have t8 := SB.new (ps := []) ht (.tup [.int (i : Nat)])
   refine ⟨_, rfl, t, pa, _, _, rfl, rfl, SqT.of upd_same, t8.sqT (s7.sqT hpa), ?_, fun c H8 s8 hc => ?_⟩
   ·rw [List.length_map, List.length_singleton]
    have := small5 (n := 1 + x.1.length) (by omega)
    omega
   refine fin _ _ (t8.trans s8) ?_
   rw [List.take_add_one, ex, Option.toList_some, List.map_append]
   exact Bears.append ((hR.sb t8 pl_noList).sb s8 pl_noList) (.cons (PL_of (p := i :: x.1) hc) .nil)
  ·rw [vl, List.take_length] at hR
   have wl := hR.length
   rw [List.length_map] at wl
   have hD7 := s7.keep _ _ hD6' nmn
   refine ⟨D, L, _, _, rfl, rfl, hD7, hL7, ?_, ?_⟩
   ·rw [List.length_append, List.length_singleton]
    have := small5 (n := us.length + 1 + ws.length) (by omega)
    omega
   have t8 := SB.set (ps := [D]) hD7 (by simp) (.lst (us ++ [.ref t] ++ ws))
   refine ⟨((s5.trans s6.nil).trans s7.nil).trans t8, _, _, _, rfl, upd_same, ?_⟩
   rw [Gr.aks_take ep, List.map_append]
   show Bears _ _ _ _ (_ ++ ([i] :: ((p.1.2.ak 0).map fun x => (i :: x.1, x.2)).map (·.1)))
   rw [List.map_map, show ∀ A B : List Pl, A ++ [i] :: B = A ++ [[i]] ++ B from fun A B => by simp]
   exact Bears.append (((hb5.sb s6 pl_noList).sb s7 pl_noList).sb t8 pl_noList) (hR.sb t8 pl_noList)
 ·obtain ⟨s2, us, o2, o3, rfl, hD2, hb2⟩ := h2
  rw [bl, List.take_length, <- Gr.ak_ps] at hb2
  exact ⟨_, rfl, q D us H2 (s2.drop hD) hD hD2 hb2⟩
abbrev N_bare : List Str := ["grove", "found", "at", "pair", "held", "place"]
theorem sc_bare_places : FnScope N_bare ["grove"] (defScope s_bare_places) := ⟨rfl, rfl, rfl, by decide +kernel, rfl, by decide +kernel, by decide +kernel⟩
theorem ok_bare_places {n : Nat} (B : BI mg) (G : Got P w K mg base "bare_places" ["grove"] n (spBareP K n)) (F : Fun K "bare_places" "bare_places" s_bare_places f fd) : FnOk P w K mg base CX0 (n + 1) f fd ["grove"] (spBareP K (n + 1)) := by
 refine F.ok sc_bare_places (fun vs H Q E h => ?_) (fun cdv A outer s H vs Q E hr h => ?_)
 ·obtain ⟨v, g, rfl, _⟩ := h
  rfl
 obtain ⟨v, g, rfl, hg, hd, hd2, hp, q⟩ := h
 refine ⟨_, pss_cons (ps_set (i := 1) sc_bare_places.nd rfl (.inl rfl) (pe_lst pa_nil))
  (pss_cons (ps_for PassesOwn.never rfl (pi_enumT rfl B.enumerate (pv 0)) (pg_tup rfl (pgs_cons (pg_name (i := 2) sc_bare_places.nd rfl (.inr rfl)) (pgs_cons (pg_name (i := 3) sc_bare_places.nd rfl (.inl rfl)) pgs_nil)))
   (pss_cons (ps_set (i := 4) sc_bare_places.nd rfl (.inl rfl) (pe_ix ix_tup (pe_ix ix_tup (pv 3) pe_int (fun _ _ => rfl)) pe_int (fun _ _ => rfl)))
   (pss_one (ps_if (pt_truth (pv 4) (by intro _; rfl))
    (pss_one (ps_expr (pe_bm PySem.F.plainAttrs_list PySem.F.slot_list_extend PySem.F.type_list_extend mt_extend (pv 1) (pa_cons
     (pe_lc (own := [("place", 5)]) (g := gName 5) (tt := tYes) (te := tOp (rCatB K) (tTup (tCons (tVar 2) tNil)) (tVar 5)) rfl sc_bare_places.nd (pi_list (pe_got G hr rfl (pa_cons (pv 4) pa_nil)))
      (blkOk_by (N := N_bare) (sc := defScope s_bare_places) (by decide +kernel))
      (fun _ _ _ _ _ => pg_name (i := 5) sc_bare_places.nd rfl (.inl rfl)) (fun _ _ _ _ _ => pts_nil)
      (fun _ _ _ _ _ => pe_op op_catB (pe_tup (pa_cons (pv 2) pa_nil)) (pv 5))) pa_nil))))
    (pss_one (ps_expr (pe_bm PySem.F.plainAttrs_list PySem.F.slot_list_append PySem.F.type_list_append mt_append (pv 1) (pa_cons (pe_tup (pa_cons (pv 2) pa_nil)) pa_nil))))))))
  (pss_one (ps_ret (pv 1)))), ?_⟩
 obtain ⟨a, xs, rfl, hs, hb⟩ := GA_bears hg
 have bl := hb.length
 have lenb := g.bp_len 0
 refine ⟨(by show 0 <= sizeLine; decide), fun D hD => ?_⟩
 refine ⟨_, rfl, a, xs, rfl, (SB.new (ps := []) hD _).sqT hs, ?_⟩
 refine for_it (walk_enumT (xs := xs)) (fun i σ H2 => SB [D] H H2 /\ ∃ us o2 o3 o4, σ = [some (.ref a), some (.ref D), o2, o3, o4, none] /\ H2 D = some (.lst us) /\ Bears K H2 plEnc us (Gr.bps (g.ps.take i) 0)) ⟨SB.new hD _, [], none, none, none, rfl, upd_same, .nil⟩ (fun i σ H2 hi h2 => (h2.1.drop hD).sqT hs) (fun i x σ H2 H' hi h2 y => ?_) (fun σ H2 h2 => ?_)
 ·obtain ⟨s2, us, o2, o3, o4, rfl, hD2, hb2⟩ := h2
  obtain ⟨T, e1, e2, rfl, hT, rfl, ee1, ee2⟩ := y
  have he1 : e1 = .int (i : Nat) := (Option.some.inj ee1).symm
  subst he1
  obtain ⟨p, ep, hpd⟩ := hb.get ee2
  have pm := List.mem_of_getElem? ep
  obtain ⟨ad, td, ux, rfl, hs2, hs3, hga, _⟩ := PA_parts hpd
  have t3 := SB.new (ps := [D]) hT (.tup [.int (i : Nat), .ref ad])
  have hD3 : (upd H2 T (.tup [.int (i : Nat), .ref ad])) D = some (.lst us) := by rw [upd_ne (ne_of_none hD2 hT)]; exact hD2
  have hT3 : SqT K (upd H2 T (.tup [.int (i : Nat), .ref ad])) T [.int (i : Nat), .ref ad] := SqT.of upd_same
  have s3 := s2.trans t3
  have hb3 := hb2.sb t3 pl_noList
  generalize hH3 : upd H2 T (.tup [.int (i : Nat), .ref ad]) = H3 at t3 hD3 hT3 s3 hb3
  have s3' := s3.drop hD
  have ul := hb3.length
  have pd := g.mem_deep p pm
  have pp := g.mem_parts p pm
  have hsp : g.bp 0 = Gr.bps (g.ps.take i) 0 ++ Gr.bpP p i ++ Gr.bps (g.ps.drop (i + 1)) (i + 1) := by
   rw [Gr.bp_ps]
   conv => lhs; rw [<- List.take_append_drop (i + 1) g.ps]
   rw [Gr.bps_append, Gr.bps_take ep, List.length_take, Nat.min_eq_left (by omega), Nat.zero_add]
  have hlen := congrArg List.length hsp
  rw [List.length_append, List.length_append] at hlen
  refine ⟨T, _, rfl, hT3, rfl, _, _, rfl, _, _, rfl, rfl, ?_⟩
  refine ⟨_, rfl, ad, _, _, _, rfl, rfl, s3'.sqT hs2, atI_nat (j := 0) rfl, td, _, _, _, rfl, rfl, s3'.sqT hs3, atI_nat (j := 1) rfl, ?_⟩
  obtain ⟨b, ys, rfl, hsb, hbb⟩ := GA_bears hga
  have yl := hbb.length
  refine ⟨_, rfl, _, .inr (.inl ⟨ys, s3'.sqT hsb, rfl⟩), ?_⟩
  by_cases hnil : p.1.2 = .nil
  ·have ys0 : ys = [] := by
    rw [hnil] at yl
    exact List.length_eq_zero_iff.mp yl
   rw [ys0]
   refine iteF ?_
   have hbP : Gr.bpP p i = [[i]] := if_pos hnil
   refine ⟨_, rfl, .inl ⟨rfl, _, SqL.of hD3⟩, _, rfl, (by show 1 <= sizeLine; decide), fun t ht => ?_⟩
   have t4 := SB.new (ps := [D]) ht (.tup [.int (i : Nat)])
   have hD4 : (upd H3 t (.tup [.int (i : Nat)])) D = some (.lst us) := by rw [upd_ne (ne_of_none hD3 ht)]; exact hD3
   refine ⟨D, us, _, rfl, rfl, hD4, small1000 (by omega), ?_⟩
   have t5 := SB.set (ps := [D]) hD4 (by simp) (.lst (us ++ [.ref t]))
   refine ⟨(s3.trans t4).trans t5, _, _, _, _, rfl, upd_same, ?_⟩
   rw [Gr.bps_take ep, hbP]
   exact Bears.append ((hb3.sb t4 pl_noList).sb t5 pl_noList) (.cons (PL_of (p := [i]) (t5.sqT (SqT.of upd_same))) .nil)
  ·have ys1 : ys ≠ [] := fun z => by
    rw [z] at yl
    cases hq : p.1.2 with
    | nil => exact hnil hq
    | cons k g m r => rw [hq] at yl; simp [Gr.ps] at yl
   have hie : (!ys.isEmpty) = true := by cases ys with
    | nil => exact absurd rfl ys1
    | cons _ _ => rfl
   rw [hie]
   refine iteT ?_
   have hbP : Gr.bpP p i = (p.1.2.bp 0).map (i :: ·) := if_neg hnil
   refine ⟨_, rfl, .inl ⟨rfl, _, SqL.of hD3⟩, _, rfl, .ref b, p.1.2, rfl, hga.sb s3', by omega, by omega, by omega, fun D2 vs2 H4 s4 hDn hD4 hb4 => ?_⟩
   have hD3' := s4.keep _ _ hD3 nmn
   have s24 := s3.trans s4.nil
   have vl := hb4.length
   refine ⟨D2, rfl, ⟨_, SqL.of hD4⟩, fun L hL => ?_⟩
   have DL : D ≠ L := ne_of_none hD3' hL
   have D2L : D2 ≠ L := ne_of_none hD4 hL
   refine lc_it (walk_list (xs := vs2)) (fun j H5 => SB [L] H4 H5 /\ ∃ ws, H5 L = some (.lst ws) /\ Bears K H5 plEnc ws (((p.1.2.bp 0).take j).map (i :: ·))) ⟨SB.new hL _, [], upd_same, .nil⟩ (fun j H5 hj h5 => h5.1.sqL (by simpa using D2L) (SqL.of hD4)) (fun j z H5 H6 hj h5 hz => ?_) (fun H5 h5 => ?_)
   ·obtain ⟨s5, ws, hL5, hb5⟩ := h5
    obtain ⟨rfl, ez⟩ := hz
    obtain ⟨pl, epl, hpl⟩ := hb4.get ez
    obtain ⟨pa, rfl, hpa⟩ := PL_ints hpl
    have plong := p.1.2.bp_long 0 pl (List.mem_of_getElem? epl)
    have pbl := p.1.2.bp_len 0
    have wl := hb5.length
    rw [List.length_map, List.length_take] at wl
    have s5' := s5.drop hL
    refine ⟨rfl, ?_⟩
    refine ⟨_, rfl, (by show 1 <= sizeLine; decide), fun t ht => ?_⟩
    have t6 := SB.new (ps := [L]) ht (.tup [.int (i : Nat)])
    have hL6 : (upd H6 t (.tup [.int (i : Nat)])) L = some (.lst ws) := by rw [upd_ne (ne_of_none hL5 ht)]; exact hL5
    have hsx : SqT K (upd H6 t (.tup [.int (i : Nat)])) pa (pl.map fun n : Nat => V.int (n : Int)) := t6.sqT (s5'.sqT hpa)
    refine ⟨_, rfl, t, pa, _, _, rfl, rfl, SqT.of upd_same, hsx, ?_, fun c H7 s7 hc => ?_⟩
    ·rw [List.length_map, List.length_singleton]
     have := small5 (n := 1 + pl.length) (by omega)
     omega
    have hL7 := s7.keep _ _ hL6 nmn
    refine ⟨ws, hL7, small1000 (by omega), ?_⟩
    have t8 := SB.set (ps := [L]) hL7 (by simp) (.lst (ws ++ [.ref c]))
    refine ⟨((s5.trans t6).trans s7.nil).trans t8, _, upd_same, ?_⟩
    rw [List.take_add_one, epl, Option.toList_some, List.map_append]
    exact Bears.append (((hb5.sb t6 pl_noList).sb s7 pl_noList).sb t8 pl_noList) (.cons (PL_of (p := i :: pl) (t8.sqT hc)) .nil)
   ·obtain ⟨s5, ws, hL5, hb5⟩ := h5
    rw [vl, List.take_length, <- hbP] at hb5
    have wl := hb5.length
    have hD5 := s5.keep _ _ hD3' (by simpa using DL)
    refine ⟨D, L, _, _, rfl, rfl, hD5, hL5, ?_, ?_⟩
    ·have := small5 (n := us.length + ws.length) (by omega)
     omega
    have t6 := SB.set (ps := [D]) hD5 (by simp) (.lst (us ++ ws))
    refine ⟨s24.trans ((s5.drop hL).nil.trans t6), _, _, _, _, rfl, upd_same, ?_⟩
    rw [Gr.bps_take ep]
    exact Bears.append (((hb3.sb s4 pl_noList).sb s5 pl_noList).sb t6 pl_noList) (hb5.sb t6 pl_noList)
 ·obtain ⟨s2, us, o2, o3, o4, rfl, hD2, hb2⟩ := h2
  rw [bl, List.take_length, <- Gr.bp_ps] at hb2
  exact ⟨_, rfl, q D us H2 (s2.drop hD) hD hD2 hb2⟩
abbrev N_steps_of : List Str := ["book", "name", "found", "rule", "once", "each"]
theorem sc_steps_of : FnScope N_steps_of ["book", "name"] (defScope s_steps_of) := ⟨rfl, rfl, rfl, by decide +kernel, rfl, by decide +kernel, by decide +kernel⟩
theorem ok_steps_of {C_Book C_NoKind : Addr} (B : BI mg) (G_Book_rules : GotMXN P w K mg base C_Book "rules" ["self", "name"] (4) (spBRules K C_Book C_NoKind)) (G_steps_in : Got P w K mg base "steps_in" ["name", "rule", "word", "grove"] (21) (spStepsIn K)) (F : Fun K "steps_of" "steps_of" s_steps_of f fd) : FnOk P w K mg base (L2N.CX P w) (22) f fd ["book", "name"] (spStepsOf K C_Book C_NoKind) := by
 refine F.okXN sc_steps_of (fun vs H Q E h => ?_) (fun cdv A outer s H vs Q E hr h => ?_)
 ·obtain ⟨v, b, n, rfl, _⟩ := h
  rfl
 obtain ⟨v, b, n, rfl, hv, ok, qk, qE⟩ := h
 have hun2 := hunT hr
 refine ⟨_, pss_cons (ps_set (i := 2) sc_steps_of.nd rfl (.inl rfl) (pe_lst pa_nil))
  (pss_cons (ps_for (passes_of rfl) rfl (pi_enumS rfl B.enumerate (pe_gotMSN G_Book_rules (hr.mono (by omega)) (L2N.takes_of rfl rfl rfl rfl) (pv 0) (pa_cons (pv 1) pa_nil))) (pg_tup rfl (pgs_cons (pg_name (i := 3) sc_steps_of.nd rfl (.inl rfl)) (pgs_cons (pg_tup rfl (pgs_cons (pg_name (i := 4) sc_steps_of.nd rfl (.inl rfl)) (pgs_cons (pg_name (i := 5) sc_steps_of.nd rfl (.inl rfl)) pgs_nil))) pgs_nil)))
   (pss_cons (ps_expr (pe_bm PySem.F.plainAttrs_list PySem.F.slot_list_extend PySem.F.type_list_extend mt_extend (pv 2) (pa_cons (pe_got G_steps_in (hr.mono (by omega)) rfl (pa_cons (pv 1) (pa_cons (pv 3) (pa_cons pe_str (pa_cons (pv 4) pa_nil))))) pa_nil)))
  (pss_one (ps_expr (pe_bm PySem.F.plainAttrs_list PySem.F.slot_list_extend PySem.F.type_list_extend mt_extend (pv 2) (pa_cons (pe_got G_steps_in (hr.mono (by omega)) rfl (pa_cons (pv 1) (pa_cons (pv 3) (pa_cons pe_str (pa_cons (pv 5) pa_nil))))) pa_nil))))))
  (pss_one (ps_ret (pv 2)))), ?_⟩
 have szl := sizeLine_eq
 obtain ⟨va, vdx, vd1, vd2, rfl, hva⟩ := hv.at
 have b8 := ok.len
 have rok : ∀ k ∈ b, k.rs.length <= 1000 := fun k hk => by have := (ok.kd k hk).2.1; omega
 refine ⟨(by show 0 <= sizeLine; decide), fun D hD => ?_⟩
 have t1 := SB.new (ps := []) hD (.lst [])
 have hD1 : upd H D (.lst []) D = some (.lst []) := upd_same
 generalize upd H D (.lst []) = H1 at t1 hD1
 refine ⟨_, rfl, va, vdx, _, rfl, t1.keep _ _ hva nmn, rfl, _, rfl, _, b, n, rfl, hv.sb0 t1, by omega, rok, fun k eg ll us H2 s2 nll hll hbl => ?_, fun z d H' s' nd hd => qE z d H' (t1.trans s') (Classical.byContradiction fun y => by
  have := t1.dom d; exact y (t1.dom d nd)) hd⟩
 obtain ⟨hk, rfl⟩ := Bk.get_some eg
 obtain ⟨kn, r4, rr⟩ := ok.kd k hk
 have ul := hbl.length
 have lD : ll ≠ D := fun z => by rw [z, hD1] at nll; cases nll
 have zl : (k.rs.zipIdx 1).length = k.rs.length := List.length_zipIdx
 have stl := Kd.steps_len r4 fun r hr => (rr r hr).1
 refine ⟨ll, us, rfl, SqL.of hll, ?_⟩
 refine for_it (walk_enumS (xs := us)) (fun i σ H3 => SB [D] H2 H3 /\ ∃ ws o3 o4 o5, σ = [some (.ref va), some (.str k.n), some (.ref D), o3, o4, o5] /\ H3 D = some (.lst ws) /\ Bears K H3 Sx.enc ws (((k.rs.zipIdx 1).take i).flatMap (stR k.n))) ⟨SB.refl, [], none, none, none, rfl, s2.keep _ _ hD1 nmn, .nil⟩ (fun i σ H3 hi h3 => h3.1.sqL (by simpa using lD) (SqL.of hll)) (fun i x σ H3 H' hi h3 y => ?_) (fun σ H3 h3 => ?_)
 ·obtain ⟨s3, ws, o3, o4, o5, rfl, hD3, hb3⟩ := h3
  obtain ⟨T, e1, e2, rfl, hT, rfl, ee1, ee2⟩ := y
  have he1 : e1 = .int ((i + 1 : Nat) : Int) := (Option.some.inj ee1).symm
  subst he1
  obtain ⟨r, er, hr1⟩ := hbl.get ee2
  have hr2 := Dp_sb s3 _ _ (Ru.noList_enc r) hr1
  have ro := (rr r (List.mem_of_getElem? er)).1
  have ez : (k.rs.zipIdx 1)[i]? = some (r, i + 1) := by rw [List.getElem?_zipIdx, er, Nat.add_comm]; rfl
  have hsp : ((k.rs.zipIdx 1).take (i + 1)).flatMap (stR k.n) = ((k.rs.zipIdx 1).take i).flatMap (stR k.n) ++ stG k.n (i + 1) "once" r.1 ++ stG k.n (i + 1) "each" r.2 := by
   rw [List.take_add_one, ez, List.flatMap_append]
   simp [stR]
  have hlen : (((k.rs.zipIdx 1).take (i + 1)).flatMap (stR k.n)).length <= k.steps.length := by
   show _ <= ((k.rs.zipIdx 1).flatMap (stR k.n)).length
   conv => rhs; rw [<- List.take_append_drop (i + 1) (k.rs.zipIdx 1), List.flatMap_append, List.length_append]
   omega
  rw [hsp, List.length_append, List.length_append, stG_len, stG_len] at hlen
  have wl := hb3.length
  cases (hr2 : Dp K H3 e2 (.tuple [r.1.enc, r.2.enc])) with
  | @tup ad us' _ hs' hda =>
  cases hda with
  | cons g1 hda =>
  cases hda with
  | cons g2 hda =>
  cases hda
  rename_i u1 u2
  have t4 := SB.new (ps := []) hT (.tup [.int ((i + 1 : Nat) : Int), .ref ad])
  have hT4 : SqT K (upd H3 T (.tup [.int ((i + 1 : Nat) : Int), .ref ad])) T [.int ((i + 1 : Nat) : Int), .ref ad] := SqT.of upd_same
  generalize upd H3 T (.tup [.int ((i + 1 : Nat) : Int), .ref ad]) = H4 at t4 hT4
  have hD4 := t4.keep _ _ hD3 nmn
  refine ⟨T, _, rfl, hT4, rfl, _, _, rfl, _, _, rfl, ⟨ad, _, rfl, t4.sqT hs', rfl, _, _, rfl, _, _, rfl, rfl, rfl, ?_⟩⟩
  have d1 := r.1.deep_parts
  have d2 := r.2.deep_parts
  refine ⟨_, rfl, .inl ⟨rfl, _, SqL.of hD4⟩, _, rfl, _, rfl, _, rfl, k.n, "once", i + 1, u1, r.1, rfl, GA.sb g1 t4, by omega, by omega, fun l1 v1 H5 s5 nl1 hl1 hb5 => ?_⟩
  have hD5 := s5.keep _ _ hD4 nmn
  have v1l := hb5.length
  rw [stG_len] at v1l
  refine ⟨D, l1, _, _, rfl, rfl, hD5, hl1, by omega, ?_⟩
  have t6 := SB.set (ps := [D]) hD5 (by simp) (.lst (ws ++ v1))
  have hb6 := Bears.append (((hb3.sb t4 Sx.noList_enc).sb s5 Sx.noList_enc).sb t6 Sx.noList_enc) (hb5.sb t6 Sx.noList_enc)
  have hD6 : upd H5 D (.lst (ws ++ v1)) D = some (.lst (ws ++ v1)) := upd_same
  have s6 := ((s3.trans t4.nil).trans s5.nil).trans t6
  have g2' := GA.sb (GA.sb g2 t4) s5
  have g2' := GA.sb g2' t6
  generalize upd H5 D (.lst (ws ++ v1)) = H6 at t6 hb6 hD6 s6 g2'
  refine ⟨_, rfl, .inl ⟨rfl, _, SqL.of hD6⟩, _, rfl, _, rfl, _, rfl, k.n, "each", i + 1, u2, r.2, rfl, g2', by omega, by omega, fun l2 v2 H7 s7 nl2 hl2 hb7 => ?_⟩
  have hD7 := s7.keep _ _ hD6 nmn
  have v2l := hb7.length
  rw [stG_len] at v2l
  refine ⟨D, l2, _, _, rfl, rfl, hD7, hl2, by rw [List.length_append]; omega, ?_⟩
  have t8 := SB.set (ps := [D]) hD7 (by simp) (.lst (ws ++ v1 ++ v2))
  refine ⟨(s6.trans s7.nil).trans t8, _, _, _, _, rfl, upd_same, ?_⟩
  rw [hsp]
  exact Bears.append ((hb6.sb s7 Sx.noList_enc).sb t8 Sx.noList_enc) (hb7.sb t8 Sx.noList_enc)
 ·obtain ⟨s3, ws, o3, o4, o5, rfl, hD3, hb3⟩ := h3
  rw [ul, <- zl, List.take_length] at hb3
  exact ⟨_, rfl, qk k eg D ws H3 ((t1.trans s2).nil.trans s3 |>.drop hD) hD hD3 hb3⟩
abbrev N_steps_in : List Str := ["name", "rule", "word", "grove", "place"]
theorem sc_steps_in : FnScope N_steps_in ["name", "rule", "word", "grove"] (defScope s_steps_in) := ⟨rfl, rfl, rfl, by decide +kernel, rfl, by decide +kernel, by decide +kernel⟩
theorem ok_steps_in {C_NoPlace : Addr} (B : BI mg) (G_all_places : Got P w K mg base "all_places" ["grove"] (20) (spAllP K 20)) (G_tree_at : GotXN P w K mg base "tree_at" ["grove", "place"] (2) (spTreeAt K C_NoPlace)) (F : Fun K "steps_in" "steps_in" s_steps_in f fd) : FnOk P w K mg base CX0 (21) f fd ["name", "rule", "word", "grove"] (spStepsIn K) := by
 refine F.ok sc_steps_in (fun vs H Q E h => ?_) (fun cdv A outer s H vs Q E hr h => ?_)
 ·obtain ⟨n, wd, i, v, g, rfl, _⟩ := h
  rfl
 obtain ⟨n, wd, i, v, g, rfl, hv, hd, hp, q⟩ := h
 have hun2 := hunT hr
 refine ⟨_, pss_one (ps_ret (pe_lc (own := [("place", 4)]) (g := (gName 4)) (tt := tYes) (te := (tTup (tCons (tTup (tCons (tVar 0) (tCons (tVar 1) (tCons (tVar 2) (tCons (tVar 4) tNil))))) (tCons (tOp (rIxT K) (tCall (spTreeAt K C_NoPlace) [] E0 (tCons (tVar 3) (tCons (tVar 4) tNil))) (tC (.int 0))) tNil)))) rfl sc_steps_in.nd (pi_list (pe_got G_all_places (hr.mono (by omega)) rfl (pa_cons (pv 3) pa_nil))) (blkOk_by (N := N_steps_in) (sc := defScope s_steps_in) (by decide +kernel)) (fun _ _ _ _ _ => (pg_name (i := 4) sc_steps_in.nd rfl (.inl rfl))) (fun _ _ _ _ _ => pts_nil) (fun _ _ _ _ _ => (pe_tup (pa_cons (pe_tup (pa_cons (pv 0) (pa_cons (pv 1) (pa_cons (pv 2) (pa_cons (pv 4) pa_nil))))) (pa_cons (pe_ix ix_tup (pe_gotXN G_tree_at (hr.mono (by omega)) rfl (pa_cons (pv 3) (pa_cons (pv 4) pa_nil))) pe_int (fun _ _ => rfl)) pa_nil)))))), ?_⟩
 have szl := sizeLine_eq
 have lenb := g.ak_len 0
 refine ⟨_, rfl, v, g, rfl, hv, hd, by omega, by omega, fun D us H1 s1 nD hD hb => ?_⟩
 have vl := hb.length
 rw [List.length_map] at vl
 refine ⟨D, rfl, ⟨_, SqL.of hD⟩, fun L hL => ?_⟩
 refine lc_seq (walk_list (xs := us)) hL (by omega) (fun j ws H2 => Bears K H2 Sx.enc ws (((g.ak 0).take j).map fun x : Pl × Str => ⟨n, i, wd, x.1, x.2⟩)) .nil (fun H2 s2 => s2.sqL nmn (SqL.of hD)) (fun _ _ _ _ e h => h.sb e Sx.noList_enc) (fun Pv j z Hq H2 ws hj s2 yz hR hw fin _ => ?_) (fun ws H2 s2 hL2 hR hw => ?_)
 ·obtain ⟨rfl, ez⟩ := yz
  obtain ⟨pl, epl, hpl⟩ := hb.get ez
  rw [List.getElem?_map] at epl
  obtain ⟨x, ex, rfl⟩ := Option.map_eq_some_iff.mp epl
  obtain ⟨pa, rfl, hpa⟩ := PL_ints hpl
  obtain ⟨n1, t, e1, e2⟩ := g.ak_place x (List.mem_of_getElem? ex)
  refine ⟨rfl, ?_⟩
  refine ⟨_, rfl, _, rfl, _, rfl, _, rfl, (by show 4 <= sizeLine; decide), fun T hT => ?_⟩
  have t3 := SB.new (ps := []) hT (.tup [.str n, .int (i : Int), .str wd, .ref pa])
  have s3 := s2.trans t3
  have hT3 : SqT K (upd H2 T (.tup [.str n, .int (i : Int), .str wd, .ref pa])) T [.str n, .int (i : Int), .str wd, .ref pa] := SqT.of upd_same
  generalize upd H2 T (.tup [.str n, .int (i : Int), .str wd, .ref pa]) = H3 at t3 s3 hT3
  refine ⟨_, rfl, _, rfl, v, g, pa, _, plO x.1, rfl, hv.sb (s1.trans s3), s3.sqT hpa, Whs.pl K H3 x.1, fun t' _ et X H4 s4 hX => ?_, fun z => ?_⟩
  ·obtain rfl : t' = t := Option.some.inj (et.symm.trans e1)
   cases (hX : Dp K H4 X (.tuple [.str t'.1, t'.2.enc])) with
   | tup hX1 hX2 =>
   cases hX2 with
   | cons k1 hX2 =>
   cases hX2 with
   | cons k2 hX2 =>
   cases hX2
   cases k1
   refine ⟨_, _, _, _, rfl, rfl, hX1, atI_nat (j := 0) rfl, (by show 2 <= sizeLine; decide), fun T2 hT2 => ?_⟩
   have t5 := SB.new (ps := []) hT2 (.tup [.ref T, .str t'.1])
   have s25 := (t3.trans s4).trans t5
   refine fin _ _ s25 ?_
   rw [List.take_add_one, ex, Option.toList_some, List.map_append]
   refine Bears.append (hR.sb s25 Sx.noList_enc) (.cons ?_ .nil)
   show Dp K _ _ (.tuple [.tuple [.str n, .int (i : Int), .str wd, plEnc x.1], .str x.2])
   rw [<- e2]
   exact .tup (SqT.of upd_same) (.cons (.tup ((s4.trans t5).sqT hT3) (.cons (.str _) (.cons (.int _) (.cons (.str _) (.cons (Dp_sb (s2.trans s25) _ _ (pl_noList _) hpl) .nil))))) (.cons (.str _) .nil))
  ·rcases z with z | z
   ·exact absurd z n1
   ·rw [e1] at z; cases z
 ·rw [vl, List.take_length] at hR
  exact q L ws H2 (s1.trans s2) (s1.dom L hL) hL2 hR
abbrev N_leads : List Str := ["book", "name", "step", "kind"]
theorem sc_leads : FnScope N_leads ["book", "name"] (defScope s_leads) := ⟨rfl, rfl, rfl, by decide +kernel, rfl, by decide +kernel, by decide +kernel⟩
theorem ok_leads {C_Book C_NoKind : Addr} (B : BI mg) (G_steps_of : GotXN P w K mg base "steps_of" ["book", "name"] (22) (spStepsOf K C_Book C_NoKind)) (F : Fun K "leads" "leads" s_leads f fd) : FnOk P w K mg base (L2N.CX P w) (23) f fd ["book", "name"] (spLeads K C_Book C_NoKind) := by
 refine F.okXN sc_leads (fun vs H Q E h => ?_) (fun cdv A outer s H vs Q E hr h => ?_)
 ·obtain ⟨v, b, n, rfl, _⟩ := h
  rfl
 obtain ⟨v, b, n, rfl, hv, ok, qk, qE⟩ := h
 have hun2 := hunT hr
 refine ⟨_, pss_one (ps_ret (pe_callB (cr_sortedTx rfl) rfl B.sorted (by decide +kernel) (pa_cons (pe_scS (own := [("step", 2), ("kind", 3)]) (g := (gTup K 2 (gCons (gName 2) (gCons (gName 3) gNil)))) (tt := tYes) (te := (tVar 3)) rfl sc_leads.nd (pi_list (pe_gotSN G_steps_of (hr.mono (by omega)) rfl (L2N.takes_of rfl rfl rfl rfl) (pa_cons (pv 0) (pa_cons (pv 1) pa_nil)))) (blkOk_by (N := N_leads) (sc := defScope s_leads) (by decide +kernel)) (fun _ _ _ _ _ => (pg_tup rfl (pgs_cons (pg_name (i := 2) sc_leads.nd rfl (.inl rfl)) (pgs_cons (pg_name (i := 3) sc_leads.nd rfl (.inl rfl)) pgs_nil)))) (fun _ _ _ _ _ => pts_nil) (fun _ _ _ _ _ => (pv 3))) pa_nil))), ?_⟩
 have scb : 1000 < scanBound := by decide +kernel
 refine ⟨_, rfl, _, rfl, v, b, n, rfl, hv, ok, fun k eg ll us H1 s1 nll hll hbl => ?_, fun z d H' s' nd hd => qE z d H' s' nd hd⟩
 obtain ⟨hk, rfl⟩ := Bk.get_some eg
 obtain ⟨kn, r4, rr⟩ := ok.kd k hk
 have stl := Kd.steps_len r4 fun r hr => (rr r hr).1
 have ul := hbl.length
 refine ⟨ll, rfl, ⟨_, SqL.of hll⟩, fun D nD => ?_⟩
 refine sc_seq (walk_list (xs := us)) nD (by omega) (fun i ss H2 => ss.Nodup /\ ∀ x, x ∈ ss ↔ x ∈ (k.steps.take i).map Sx.k) ⟨List.nodup_nil, by simp⟩ (fun H2 s2 => s2.sqL nmn (SqL.of hll)) (fun _ _ _ _ _ h => h) (fun Pv i x Hq H2 ss hi s2 y hR hl fin _ => ?_) (fun ss H2 s2 hD2 hR hl => ?_)
 ·obtain ⟨rfl, ey⟩ := y
  obtain ⟨st, es, hst⟩ := hbl.get ey
  cases (hst : Dp K H1 x (.tuple [st.st, .str st.k])) with
  | @tup ad us' _ hs' hda =>
  cases hda with
  | cons g1 hda =>
  cases hda with
  | cons g2 hda =>
  cases hda
  cases g2
  refine ⟨ad, _, rfl, s2.sqT hs', rfl, _, _, rfl, _, _, rfl, rfl, rfl, ?_⟩
  refine ⟨_, rfl, fin st.k _ SB.refl ⟨insS_nodup hR.1, fun x => ?_⟩⟩
  rw [insS_mem, hR.2, List.take_add_one, es, List.map_append, List.mem_append]
  simp [or_comm]
 ·rw [ul, List.take_length, Kd.steps_kinds] at hR
  refine ⟨D, ss, rfl, hD2, by omega, fun ss' p pm srt np => ?_⟩
  have t3 := SB.new (ps := []) np (.lst (ss'.map V.str))
  exact qk k eg p ss' _ ((s1.trans s2).trans t3) ((s1.trans s2).dom _ np) upd_same (SrtOf.perm pm srt hR.1 hR.2)
abbrev N_ending_kinds : List Str := ["book", "led", "ending", "fresh", "name"]
theorem sc_ending_kinds : FnScope N_ending_kinds ["book"] (defScope s_ending_kinds) := ⟨rfl, rfl, rfl, by decide +kernel, rfl, by decide +kernel, by decide +kernel⟩
theorem ok_ending_kinds {C_Book C_NoKind : Addr} (B : BI mg) (G_Book_names : GotM P w K mg base C_Book "names" ["self"] (1) (spBNames K C_Book)) (G_leads : GotXN P w K mg base "leads" ["book", "name"] (23) (spLeads K C_Book C_NoKind)) (G_lead_into : Got P w K mg base "lead_into" ["led", "ending"] (1) (spLeadInto K)) (F : Fun K "ending_kinds" "ending_kinds" s_ending_kinds f fd) : FnOk P w K mg base CX0 (24) f fd ["book"] (spEndingO K C_Book C_NoKind) := by
 refine F.ok sc_ending_kinds (fun vs H Q E h => ?_) (fun cdv A outer s H vs Q E hr h => ?_)
 ·obtain ⟨v, b, rfl, _⟩ := h
  rfl
 obtain ⟨v, b, rfl, hv, ok, q⟩ := h
 have hun2 := hunT hr
 refine ⟨_, pss_cons (ps_setDc (i := 1) (own := [("name", 4)]) (g := (gName 4)) (tt := tYes) (tk := (tVar 4)) (tv := (tCall (spLeads K C_Book C_NoKind) [] E0 (tCons (tVar 0) (tCons (tVar 4) tNil)))) rfl sc_ending_kinds.nd rfl rfl (sw_trueD rfl rfl rfl (by decide +kernel)) (pi_list (pe_gotM0 G_Book_names (hr.mono (by omega)) (pv 0))) (blkOk_by (N := N_ending_kinds) (sc := defScope s_ending_kinds) (by decide +kernel)) (fun _ _ _ _ _ => (pg_name (i := 4) sc_ending_kinds.nd rfl (.inl rfl))) (fun _ _ _ _ _ => pts_nil) (fun _ _ _ _ _ => (pv 4)) (fun _ _ _ _ _ => (pe_gotXN G_leads (hr.mono (by omega)) rfl (pa_cons (pv 0) (pa_cons (pv 4) pa_nil)))))
  (pss_cons (ps_set (i := 2) sc_ending_kinds.nd rfl (.inl rfl) (pe_lst pa_nil))
  (pss_cons (ps_set (i := 3) sc_ending_kinds.nd rfl (.inl rfl) (pe_got G_lead_into (hr.mono (by omega)) rfl (pa_cons (pv 1) (pa_cons (pv 2) pa_nil))))
  (pss_cons (ps_while PassesOwn.never (pt_truth (pv 3) (by intro _; rfl)) (pss_cons (ps_expr (pe_bm PySem.F.plainAttrs_list PySem.F.slot_list_extend PySem.F.type_list_extend mt_extend (pv 2) (pa_cons (pv 3) pa_nil)))
  (pss_one (ps_set (i := 3) sc_ending_kinds.nd rfl (.inl rfl) (pe_got G_lead_into (hr.mono (by omega)) rfl (pa_cons (pv 1) (pa_cons (pv 2) pa_nil)))))))
  (pss_one (ps_ret (pv 2)))))), ?_⟩
 have szl := sizeLine_eq
 have b8 := ok.len
 have nml : b.names.length = b.length := List.length_map ..
 obtain ⟨va, vdx, vd1, vd2, rfl, hva⟩ := hv.at
 refine ⟨_, rfl, va, vdx, _, rfl, hva, rfl, ?_⟩
 refine ⟨_, b, rfl, hv, by omega, fun nl H1 s1 nn hn => ?_⟩
 refine ⟨nl, rfl, ⟨_, SqL.of hn⟩, fun D nD => ?_⟩
 refine dc_seqQ (walk_list (xs := b.names.map V.str)) nD (by rw [List.length_map]; omega) (fun i kvs H2 => LedAll K H2 kvs (b.take i) /\ ∀ p ∈ kvs, p.2 ≠ .ref D) ⟨.nil, by simp⟩ (fun H2 s2 => s2.sqL nmn (SqL.of hn)) (fun i kvs H2 H3 s3 ⟨h1, h2⟩ => ⟨h1.sb s3 fun p hp q hq => by rw [List.mem_singleton.mp hq]; exact h2 p hp, h2⟩) (fun Pv i x Hq H2 kvs hi s2 y hR hl hD2 fin _ => ?_) (fun kvs H2 s2 hD2 hR hl => ?_)
 ·obtain ⟨rfl, ey⟩ := y
  rw [List.getElem?_map] at ey
  obtain ⟨n, en, rfl⟩ := Option.map_eq_some_iff.mp ey
  rw [List.getElem?_map] at en
  obtain ⟨k, ek, rfl⟩ := Option.map_eq_some_iff.mp en
  have km := List.mem_of_getElem? ek
  have eg := Bk.get_self ok.nd km
  obtain ⟨h1, h2⟩ := hR
  have hnew : ∀ p ∈ kvs, p.1 ≠ Sum.inr k.n := fun p hp z => by
   have h3 : p.1 ∈ (Bk.names (b.take i)).map (Sum.inr (α := Int)) := by rw [<- h1.keys]; exact List.mem_map.mpr ⟨p, hp, rfl⟩
   rw [z] at h3
   obtain ⟨m, hm, e⟩ := List.mem_map.mp h3
   have e := Sum.inr.inj e
   subst e
   exact take_fresh ok.nd ek hm
  refine ⟨rfl, _, rfl, _, rfl, _, rfl, _, b, k.n, rfl, (hv.sb0 s1).sb0 s2, ok, fun k' e' l ss H3 s3 nl' hl' so => ?_, fun z => by rw [eg] at z; cases z⟩
  rw [eg] at e'
  cases e'
  refine fin (Sum.inr k.n) (.ref l) H3 s3 ?_
  rw [putK_new hnew, List.take_add_one, ek]
  refine ⟨(h1.sb s3 (by simp)).append (.cons hl' so .nil), fun p hp => ?_⟩
  rcases List.mem_append.mp hp with hp | hp
  ·exact h2 p hp
  ·rw [List.mem_singleton.mp hp]
   intro z
   rw [V.ref.inj z, hD2] at nl'
   cases nl'
 obtain ⟨hk, hkD⟩ := hR
 rw [List.length_map, nml, List.take_length] at hk
 have s12 := s1.trans s2
 refine ⟨by show 0 <= sizeLine; decide, fun E nE => ?_⟩
 have t3 := SB.new (ps := []) nE (.lst [])
 have hE3 : upd H2 E (.lst []) E = some (.lst []) := upd_same
 have hkE := hk.ne nE
 have hD3 := t3.keep _ _ hD2 nmn
 have hk3 := hk.sb t3 (by simp)
 have s03 := s12.trans t3
 have nE0 : H E = none := s12.dom _ nE
 have DE : D ≠ E := ne_of_none hD2 nE
 generalize upd H2 E (.lst []) = H3 at t3 hE3 hD3 hk3 s03
 refine ⟨_, rfl, _, rfl, D, E, b, [], kvs, rfl, hD3, hk3, hE3, ok, fun F H4 s4 nF hF => ?_⟩
 refine nameI ⟨fun m σ H5 => ∃ (es : List Str) (F : Addr), m = 9 - es.length /\ σ = [some (.ref va), some (.ref D), some (.ref E), some (.ref F), none] /\ SB [] H H5 /\ H5 D = some (.dK kvs) /\ LedAll K H5 kvs b /\ H5 E = some (.lst (es.map V.str)) /\ H5 F = some (.lst ((b.names.filter (into b es)).map V.str)) /\ F ≠ E /\ es.Nodup /\ (∀ n ∈ es, n ∈ b.names) /\ (∀ n ∈ es, EndK b n) /\ ∀ (i : Nat) (n : Str), es[i]? = some n -> ∀ k ∈ adj b n, k ∈ es.take i,
  ⟨9, [], F, rfl, rfl, s03.trans s4, s4.keep _ _ hD3 nmn, hk3.sb s4 (by simp), s4.keep _ _ hE3 nmn, hF, (fun z => by rw [z, hE3] at nF; cases nF), List.nodup_nil, by simp, by simp, by simp⟩, fun m σ H5 hW => ?_⟩
 obtain ⟨es, F, rfl, rfl, s5, hD5, hk5, hE5, hF5, FE, nd, sub, ends, ord⟩ := hW
 have fl := List.length_filter_le (into b es) b.names
 have esl : es.length <= 8 := by
  have := nd.length_le_of_subset (l₂ := b.names) sub
  omega
 refine ⟨_, rfl, _, .inl ⟨_, SqL.of hF5, rfl⟩, ?_⟩
 by_cases hf : b.names.filter (into b es) = []
 ·rw [hf]
  refine iteF ⟨_, rfl, q E es H5 s5 nE0 hE5 ⟨nd, esl, fun n => ⟨fun h => ⟨sub n h, ends n h⟩, fun h => end_closed ok hf h.2 h.1⟩, ord⟩⟩
 ·rw [show (!((b.names.filter (into b es)).map V.str).isEmpty) = true by
   cases h : b.names.filter (into b es) with
   | nil => exact absurd h hf
   | cons _ _ => rfl]
  refine iteT ⟨_, fun σ' H' h => h, ?_⟩
  refine ⟨_, rfl, .inl ⟨rfl, _, SqL.of hE5⟩, _, rfl, E, F, _, _, rfl, rfl, hE5, hF5, by rw [List.length_map, List.length_map]; omega, ?_⟩
  rw [<- List.map_append]
  have t6 := SB.set (ps := [E]) hE5 (by simp) (.lst ((es ++ b.names.filter (into b es)).map V.str))
  have hE6 : upd H5 E (.lst ((es ++ b.names.filter (into b es)).map V.str)) E = some (.lst ((es ++ b.names.filter (into b es)).map V.str)) := upd_same
  have hD6 := t6.keep _ _ hD5 (by simpa using DE)
  have hk6 := hk5.sb t6 fun p hp q hq => by rw [List.mem_singleton.mp hq]; exact hkE p hp
  have s6 : SB [] H (upd H5 E (.lst ((es ++ b.names.filter (into b es)).map V.str))) := ((s5.nil (ps := [E])).trans t6).drop nE0
  generalize upd H5 E (.lst ((es ++ b.names.filter (into b es)).map V.str)) = H6 at t6 hE6 hD6 hk6 s6
  refine ⟨_, rfl, _, rfl, D, E, b, es ++ b.names.filter (into b es), kvs, rfl, hD6, hk6, hE6, ok, fun F2 H7 s7 nF2 hF2 => ?_⟩
  have hpos : 0 < (b.names.filter (into b es)).length := List.length_pos_iff.mpr hf
  refine ⟨9 - (es ++ b.names.filter (into b es)).length, by rw [List.length_append]; omega, es ++ b.names.filter (into b es), F2, rfl, rfl, s6.trans s7, s7.keep _ _ hD6 nmn, hk6.sb s7 (by simp), s7.keep _ _ hE6 nmn, hF2, (fun z => by rw [z, hE6] at nF2; cases nF2), ?_, fun n hn => ?_, fun n hn => ?_, fun i n ei k hk => ?_⟩
  ·refine List.nodup_append.mpr ⟨nd, ok.nd.filter _, fun x hx y hy e => ?_⟩
   subst e
   have := (List.mem_filter.mp hy).2
   unfold into at this
   rw [Bool.and_eq_true, decide_eq_true_eq] at this
   exact this.1 hx
  ·rcases List.mem_append.mp hn with h | h
   ·exact sub n h
   ·exact (List.mem_filter.mp h).1
  ·rcases List.mem_append.mp hn with h | h
   ·exact ends n h
   ·have := (List.mem_filter.mp h).2
    unfold into at this
    rw [Bool.and_eq_true, List.all_eq_true] at this
    exact .mk fun k hk => ends k (of_decide_eq_true (this.2 k hk))
  ·rcases Nat.lt_or_ge i es.length with hi | hi
   ·rw [List.getElem?_append_left hi] at ei
    rw [List.take_append_of_le_length (by omega)]
    exact ord i n ei k hk
   ·rw [List.getElem?_append_right hi] at ei
    have := (List.mem_filter.mp (List.mem_of_getElem? ei)).2
    unfold into at this
    rw [Bool.and_eq_true, List.all_eq_true] at this
    have h3 := of_decide_eq_true (this.2 k hk)
    rw [List.take_append, List.take_of_length_le hi]
    exact mal _ h3
abbrev N_lead_into : List Str := ["led", "ending", "name", "kind"]
theorem sc_lead_into : FnScope N_lead_into ["led", "ending"] (defScope s_lead_into) := ⟨rfl, rfl, rfl, by decide +kernel, rfl, by decide +kernel, by decide +kernel⟩
theorem ok_lead_into (B : BI mg) (F : Fun K "lead_into" "lead_into" s_lead_into f fd) : FnOk P w K mg base CX0 (1) f fd ["led", "ending"] (spLeadInto K) := by
 refine F.ok sc_lead_into (fun vs H Q E h => ?_) (fun cdv A outer s H vs Q E hr h => ?_)
 ·obtain ⟨d, e, b, es, kvs, rfl, _⟩ := h
  rfl
 obtain ⟨d, e, b, es, kvs, rfl, hd, hk, he, ok, q⟩ := h
 have hun2 := hunT hr
 refine ⟨_, pss_one (ps_ret (pe_lock (pe_lc (own := [("name", 2)]) (g := (gName 2)) (tt := (tAnd (tTest (tOp (rIn K true) (tVar 2) (tVar 1))) (tB (tCB (rAll K) (tCons (tLc (iList K (tDGet (tVar 0) (tVar 2))) (gName 3) tYes (tOp (rIn K false) (tVar 3) (tVar 1)) [3]) tNil))))) (te := (tVar 2)) rfl sc_lead_into.nd (pi_keys (pv 0)) (blkOk_by (N := N_lead_into) (sc := defScope s_lead_into) (by decide +kernel)) (fun _ _ _ _ _ => (pg_name (i := 2) sc_lead_into.nd rfl (.inl rfl))) (fun _ _ _ _ _ => (pts_one (PW.pt (pw_and (pt_cmpR op_notIn_seq (pv 2) (pv 1) (by rfl)) (pw_and1 (pt_val (pe_callB (cr_all rfl) rfl B.all boot_all (pa_cons (pe_lc (own := [("kind", 3)]) (g := (gName 3)) (tt := tYes) (te := (tOp (rIn K false) (tVar 3) (tVar 1))) rfl sc_lead_into.nd (pi_list (pe_dget (by show A.units + 3 + 1 < cLine; omega) (pv 0) (pv 2) (fun _ _ => rfl))) (blkOk_by (N := N_lead_into) (sc := { kind := .function, names := [(".0", .local), ("name", .local), ("all", .globalImplicit), ("ending", .cell), ("led", .cell)], isGenerator := false, isCoroutine := false }) (by decide +kernel)) (fun _ _ _ _ _ => (pg_name (i := 3) sc_lead_into.nd rfl (.inl rfl))) (fun _ _ _ _ _ => pts_nil) (fun _ _ _ _ _ => (pe_cmpR op_in_seq (pv 3) (pv 1) (by rfl)))) pa_nil)))))))) (fun _ _ _ _ _ => (pv 2))))), ?_⟩
 have szl := sizeLine_eq
 have b8 := ok.len
 have kl := hk.length
 refine ⟨d, _, hd, trivial, fun od => ?_⟩
 have hL : ∀ l xs, H l = some (.lst xs) -> upd H d (.frz od (.dK kvs)) l = some (.lst xs) := fun l xs h => by rw [upd_ne (fun z => by rw [z, hd] at h; cases h)]; exact h
 have hkL := hk.keep hL
 have heL := hL _ _ he
 have hdL : upd H d (.frz od (.dK kvs)) d = some (.frz od (.dK kvs)) := upd_same
 have un : ∀ H', SB [] (upd H d (.frz od (.dK kvs))) H' -> SB [] H (upd H' d (.dK kvs)) := fun H' s => s.unlock hd (fun _ z => nomatch z) (fun _ _ z => nomatch z)
 have dm : ∀ p, upd H d (.frz od (.dK kvs)) p = none -> H p = none := fun p h => by
  have z : p ≠ d := fun z => by rw [z, upd_same] at h; cases h
  rwa [upd_ne z] at h
 generalize upd H d (.frz od (.dK kvs)) = HL at hkL heL hdL un dm
 refine ⟨_, rfl, d, od, rfl, .inl ⟨kvs, hdL, fun D nD => ?_⟩⟩
 refine lc_seq walk_keys nD (by omega) (fun i us _ => us = ((b.names.take i).filter (into b es)).map V.str) rfl (fun H2 s2 => s2.frzs _ _ _ hdL) (fun _ _ _ _ _ h => h) (fun Pv i x Hq H2 us hi s2 y hR hu fin skip => ?_) (fun us H2 s2 hD2 hR hu => ?_)
 ·obtain ⟨rfl, k0, v0, ek, rfl⟩ := y
  obtain ⟨kd, ekd, e0⟩ := hk.get ek
  have e0 : k0 = Sum.inr kd.n := e0
  subst e0
  have km := List.mem_of_getElem? ekd
  have ea := adj_self ok km
  obtain ⟨l, ss, hv, hl, so⟩ := hkL.val (Bk.get_self ok.nd km)
  have en : b.names[i]? = some kd.n := by rw [List.getElem?_map, ekd]; rfl
  have he2 := s2.keep _ _ heL nmn
  have hl2 := s2.keep _ _ hl nmn
  have hd2 := s2.frzs _ _ _ hdL
  have hstep : ((b.names.take (i + 1)).filter (into b es)).map V.str = ((b.names.take i).filter (into b es)).map V.str ++ (if into b es kd.n = true then [V.str kd.n] else []) := by
   rw [List.take_add_one, en, List.filter_append, List.map_append]
   congr 1
   by_cases z : into b es kd.n = true
   ·simp [z]
   ·simp [z]
  refine ⟨rfl, _, rfl, _, rfl, e, _, rfl, .inl (SqL.of he2), rfl, flat_strs _, _, rfl, ?_⟩
  rw [if_pos rfl]
  show if (!inV (.str kd.n) (es.map V.str)) = true then _ else _
  rw [inV_strs]
  by_cases h1 : kd.n ∈ es
  ·rw [show (!decide (kd.n ∈ es)) = false by simp [h1]]
   refine iteF (skip _ SB.refl ?_)
   rw [hstep, show into b es kd.n = false by simp [into, h1], hR]; simp
  ·rw [show (!decide (kd.n ∈ es)) = true by simp [h1]]
   refine iteT ?_
   have sl : ss.length < 1000 := by
    have h2 := so.nd.length_le_of_subset (l₂ := b.names) fun x hx => ok.led km x ((so.mem x).mp hx)
    rw [List.length_map] at h2
    omega
   refine ⟨_, rfl, _, rfl, d, .ref l, rfl, getKR (.inr ⟨_, hd2⟩) hv, l, rfl, ⟨_, SqL.of hl2⟩, fun D2 nD2 => ?_⟩
   refine lc_seq (walk_list (xs := ss.map V.str)) nD2 (by rw [List.length_map]; omega) (fun j us _ => us = ((ss.take j).map fun k => decide (k ∈ es)).map V.bl) rfl (fun H4 s4 => s4.sqL nmn (SqL.of hl2)) (fun _ _ _ _ _ h => h) (fun Pv j z Hq H4 us4 hj s4 y hR4 hu4 fin4 _ => ?_) (fun us4 H4 s4 hD4 hR4 hu4 => ?_)
   ·obtain ⟨rfl, ez⟩ := y
    rw [List.getElem?_map] at ez
    obtain ⟨sx, ex, rfl⟩ := Option.map_eq_some_iff.mp ez
    refine ⟨rfl, _, rfl, _, rfl, e, _, rfl, .inl (SqL.of (s4.keep _ _ he2 nmn)), rfl, flat_strs _, ?_⟩
    refine fin4 _ _ SB.refl ?_
    rw [hR4, List.take_add_one, ex]
    simp [inV_strs]
   ·subst hR4
    refine ⟨D2, _, rfl, SqL.of hD4, _, rfl, ?_⟩
    have eall : ((ss.take (ss.map V.str).length).map fun k => decide (k ∈ es)).all id = (adj b kd.n).all fun k => decide (k ∈ es) := by
     rw [List.length_map, List.take_length, List.all_map, ea, <- all_srt so]; rfl
    rw [eall]
    have ei : into b es kd.n = (adj b kd.n).all fun k => decide (k ∈ es) := by unfold into; simp [h1]
    by_cases h3 : ((adj b kd.n).all fun k => decide (k ∈ es)) = true
    ·rw [h3]
     refine iteT ⟨_, rfl, fin _ _ s4 ?_⟩
     rw [hstep, ei, h3, hR]; rfl
    ·have h3 : ((adj b kd.n).all fun k => decide (k ∈ es)) = false := by simpa using h3
     rw [h3]
     refine iteF (skip _ s4 ?_)
     rw [hstep, ei, h3, hR]; simp
 ·subst hR
  have hd2 := s2.frzs _ _ _ hdL
  have Dd : D ≠ d := fun z => by rw [z, hdL] at nD; cases nD
  refine ⟨hd2, q D _ (un _ s2) (dm _ nD) ?_⟩
  rw [upd_ne Dd, hD2, kl, <- show b.names.length = b.length from List.length_map .., List.take_length]
abbrev N_endless_kinds : List Str := ["book", "ending", "name"]
theorem sc_endless_kinds : FnScope N_endless_kinds ["book"] (defScope s_endless_kinds) := ⟨rfl, rfl, rfl, by decide +kernel, rfl, by decide +kernel, by decide +kernel⟩
theorem ok_endless_kinds {C_Book C_NoKind : Addr} (B : BI mg) (G_ending_kinds : Got P w K mg base "ending_kinds" ["book"] (24) (spEndingO K C_Book C_NoKind)) (G_Book_names : GotM P w K mg base C_Book "names" ["self"] (1) (spBNames K C_Book)) (F : Fun K "endless_kinds" "endless_kinds" s_endless_kinds f fd) : FnOk P w K mg base CX0 (25) f fd ["book"] (spEndless K C_Book C_NoKind) := by
 refine F.ok sc_endless_kinds (fun vs H Q E h => ?_) (fun cdv A outer s H vs Q E hr h => ?_)
 ·obtain ⟨v, b, rfl, _⟩ := h
  rfl
 obtain ⟨v, b, rfl, hv, ok, q⟩ := h
 have hun2 := hunT hr
 refine ⟨_, pss_cons (ps_set (i := 1) sc_endless_kinds.nd rfl (.inr rfl) (pe_got G_ending_kinds (hr.mono (by omega)) rfl (pa_cons (pv 0) pa_nil)))
  (pss_one (ps_ret (pe_callB cr_sortedS rfl B.sorted (by decide +kernel) (pa_cons (pe_lc (own := [("name", 2)]) (g := (gName 2)) (tt := (tTest (tOp (rIn K true) (tVar 2) (tVar 1)))) (te := (tVar 2)) rfl sc_endless_kinds.nd (pi_list (pe_gotM0 G_Book_names (hr.mono (by omega)) (pv 0))) (blkOk_by (N := N_endless_kinds) (sc := defScope s_endless_kinds) (by decide +kernel)) (fun _ _ _ _ _ => (pg_name (i := 2) sc_endless_kinds.nd rfl (.inl rfl))) (fun _ _ _ _ _ => (pts_one (pt_cmpR op_notIn_seq (pv 2) (pv 1) (by rfl)))) (fun _ _ _ _ _ => (pv 2))) pa_nil)))), ?_⟩
 have szl := sizeLine_eq
 have b8 := ok.len
 refine ⟨_, rfl, v, b, rfl, hv, ok, fun l es H1 s1 nl hl eo => ?_⟩
 have el := eo.len
 have hm : ∀ n ∈ b.names, n ∈ es ↔ EndK b n := fun n hn => ⟨fun h => ((eo.mem n).mp h).2, fun h => (eo.mem n).mpr ⟨hn, h⟩⟩
 obtain ⟨va, vdx, vd1, vd2, rfl, hva⟩ := hv.at
 refine ⟨_, rfl, va, vdx, _, rfl, s1.keep _ _ hva nmn, rfl, ?_⟩
 refine ⟨_, b, rfl, hv.sb0 s1, by omega, fun nl2 H2 s2 nn hn => ?_⟩
 have hl2 := s2.keep _ _ hl nmn
 refine ⟨nl2, rfl, ⟨_, SqL.of hn⟩, fun D nD => ?_⟩
 have nml : b.names.length = b.length := List.length_map ..
 refine lc_seq (walk_list (xs := b.names.map V.str)) nD (by rw [List.length_map]; omega) (fun i us _ => us = ((b.names.take i).filter fun n => decide (n ∉ es)).map V.str) rfl (fun H3 s3 => s3.sqL nmn (SqL.of hn)) (fun _ _ _ _ _ h => h) (fun Pv i x Hq H3 us hi s3 y hR hu fin skip => ?_) (fun us H3 s3 hD3 hR hu => ?_)
 ·obtain ⟨rfl, ey⟩ := y
  rw [List.getElem?_map] at ey
  obtain ⟨n, en, rfl⟩ := Option.map_eq_some_iff.mp ey
  refine ⟨rfl, _, rfl, _, rfl, l, _, rfl, .inl (SqL.of (s3.keep _ _ hl2 nmn)), rfl, flat_strs _, _, rfl, ?_⟩
  rw [if_pos rfl, inV_strs]
  have hstep : ((b.names.take (i + 1)).filter fun n => decide (n ∉ es)).map V.str = ((b.names.take i).filter fun n => decide (n ∉ es)).map V.str ++ (if n ∉ es then [V.str n] else []) := by
   rw [List.take_add_one, en, List.filter_append, List.map_append]
   congr 1
   by_cases z : n ∈ es
   ·simp [z]
   ·simp [z]
  by_cases h1 : n ∈ es
  ·rw [show (!decide (n ∈ es)) = false by simp [h1]]
   refine iteF (skip _ SB.refl ?_)
   rw [hstep, if_neg (by simp [h1]), hR]; simp
  ·rw [show (!decide (n ∈ es)) = true by simp [h1]]
   refine iteT ⟨_, rfl, fin _ _ SB.refl ?_⟩
   rw [hstep, if_pos h1, hR]
 ·rw [List.length_map, List.take_length] at hR
  subst hR
  refine ⟨D, _, rfl, SqL.of hD3, ?_, fun ys p pm srt np => ?_⟩
  ·have := List.length_filter_le (fun n => decide (n ∉ es)) b.names
   omega
  have s03 := (s1.trans s2).trans s3
  refine q p ys _ (s03.trans (SB.new (ps := []) np _)) (s03.dom _ np) upd_same srt (pm.nodup_iff.mpr (ok.nd.filter _)) fun n => ?_
  rw [pm.mem_iff, List.mem_filter]
  simp only [decide_eq_true_eq]
  exact ⟨fun ⟨h1, h2⟩ => ⟨h1, fun z => h2 ((hm n h1).mpr z)⟩, fun ⟨h1, h2⟩ => ⟨h1, fun z => h2 ((hm n h1).mp z)⟩⟩
abbrev N_check_ends : List Str := ["book", "grove", "endless", "kind"]
theorem sc_check_ends : FnScope N_check_ends ["book", "grove"] (defScope s_check_ends) := ⟨rfl, rfl, rfl, by decide +kernel, rfl, by decide +kernel, by decide +kernel⟩
theorem ok_check_ends {C_Endless C_Book C_NoKind : Addr} (B : BI mg) (O_Endless : OwnI P w K mg base "Endless" C_Endless 1) (G_endless_kinds : Got P w K mg base "endless_kinds" ["book"] (25) (spEndless K C_Book C_NoKind)) (G_kinds_within : Got P w K mg base "kinds_within" ["grove"] (71) (spKindsF K)) (F : Fun K "check_ends" "check_ends" s_check_ends f fd) : FnOk P w K mg base (L2N.CX P w) (72) f fd ["book", "grove"] (spChkEX K C_Book C_NoKind C_Endless) := by
 refine F.okXN sc_check_ends (fun vs H Q E h => ?_) (fun cdv A outer s H vs Q E hr h => ?_)
 ·obtain ⟨v, w, b, g, rfl, _⟩ := h
  rfl
 obtain ⟨v, w, b, g, rfl, hv, ok, hg, hd, hp, hk, q, qE⟩ := h
 have hun2 := hunT hr
 refine ⟨_, pss_cons (ps_set (i := 2) sc_check_ends.nd rfl (.inl rfl) (pe_got G_endless_kinds (hr.mono (by omega)) rfl (pa_cons (pv 0) pa_nil)))
  (pss_one (ps_for (passes_of rfl) rfl (pi_list (pe_got G_kinds_within (hr.mono (by omega)) rfl (pa_cons (pv 1) pa_nil))) (pg_name (i := 3) sc_check_ends.nd rfl (.inl rfl))
   (pss_one (ps_if (pt_cmpR op_in_seq (pv 3) (pv 2) (by rfl)) (pss_one (L2N.ps_raise rfl (L2N.takes_of rfl rfl rfl rfl) (pmk_kindN O_Endless (hr.mono (by omega)) rfl (pv 3)))) pss_nil)))), ?_⟩
 refine ⟨_, rfl, v, b, rfl, hv, ok, fun l ss H1 s1 nl hl srt nd hm => ?_⟩
 refine ⟨_, rfl, w, g, b.names, rfl, hg.sb s1, hd, hp, hk, by rw [List.length_map]; have := ok.len; omega, fun l2 ss2 H2 s2 nl2 hl2 so sl => ?_⟩
 refine ⟨l2, rfl, ⟨_, SqL.of hl2⟩, ?_⟩
 have hl3 := s2.keep _ _ hl nmn
 have s02 := s1.trans s2
 refine for_it (walk_list (xs := ss2.map V.str)) (fun i σ H3 => SB [] H2 H3 /\ (∀ m ∈ ss2.take i, ¬ ¬ EndK b m) /\ ∃ o3, σ = [some v, some w, some (.ref l), o3]) ⟨SB.refl, by simp, none, rfl⟩ (fun i σ H3 hi h3 => h3.1.sqL nmn (SqL.of hl2)) (fun i x σ Hq H3 hi h3 y => ?_) (fun σ H3 h3 => ?_)
 ·obtain ⟨s3, bef, o3, rfl⟩ := h3
  obtain ⟨rfl, ey⟩ := y
  rw [List.getElem?_map] at ey
  obtain ⟨k, ek, rfl⟩ := Option.map_eq_some_iff.mp ey
  obtain ⟨p, hp2, e⟩ := List.mem_map.mp ((so.mem k).mp (List.mem_of_getElem? ek))
  have kb : k ∈ b.names := e ▸ hk p hp2
  refine ⟨_, rfl, _, rfl, l, _, rfl, .inl (SqL.of (s3.keep _ _ hl3 nmn)), rfl, flat_strs _, ?_⟩
  rw [inV_strs]
  by_cases he : EndK b k
  ·rw [show decide (k ∈ ss) = false from decide_eq_false fun z => ((hm k).mp z).2 he]
   refine ⟨_, rfl, iteF ⟨s3, fun m hm2 => ?_, _, rfl⟩⟩
   rw [List.take_add_one, ek] at hm2
   rcases List.mem_append.mp hm2 with z | z
   ·exact bef m z
   ·rw [List.mem_singleton.mp z]; exact fun z => z he
  ·rw [show decide (k ∈ ss) = true from decide_eq_true ((hm k).mpr ⟨kb, he⟩)]
   refine ⟨_, rfl, iteT ⟨_, rfl, fun x nx => ?_⟩⟩
   have s03 := s02.trans s3
   exact qE k (.at so ek he bef) x _ (s03.trans (SB.new nx _)) (s03.dom _ nx) upd_same
 ·obtain ⟨s3, bef, o3, rfl⟩ := h3
  rw [List.length_map, List.take_length] at bef
  exact q (fun x hx => Classical.byContradiction fun z => bef x.1.1 ((so.mem _).mpr (List.mem_map.mpr ⟨x, hx, rfl⟩)) z) _ (s02.trans s3)
abbrev N_most_falls : List Str := ["book", "grove", "bound", "many"]
theorem sc_most_falls : FnScope N_most_falls ["book", "grove", "bound"] (defScope s_most_falls) := ⟨rfl, rfl, rfl, by decide +kernel, rfl, by decide +kernel, by decide +kernel⟩
theorem ok_most_falls {C_Book C_NoKind C_Endless C_TooLong : Addr} (B : BI mg) (G_check_kinds : GotXN P w K mg base "check_kinds" ["book", "grove"] (72) (spCheckKX K C_Book C_NoKind)) (G_check_ends : GotXN P w K mg base "check_ends" ["book", "grove"] (72) (spChkEX K C_Book C_NoKind C_Endless)) (G_count_in : Got P w K mg base "count_in" ["book", "counts", "grove", "bound"] (45) (spCntIn K C_Book 20)) (G_most_by_kind : Got P w K mg base "most_by_kind" ["book", "bound"] (48) (spMostK K C_Book)) (G_check_long : GotXN P w K mg base "check_long" ["many"] (1) (spChkLong C_TooLong)) (F : Fun K "most_falls" "most_falls" s_most_falls f fd) : FnOk P w K mg base (L2N.CX P w) (75) f fd ["book", "grove", "bound"] (spMost67 K C_Book C_NoKind C_Endless C_TooLong) := by
 refine F.okXN sc_most_falls (fun vs H Q E h => ?_) (fun cdv A outer s H vs Q E hr h => ?_)
 ·obtain ⟨v, w, b, g, D, o, rfl, _⟩ := h
  rfl
 obtain ⟨v, w, b, g, D, o, rfl, hI, hd, hX⟩ := h
 have hun2 := hunT hr
 refine ⟨_, pss_cons (ps_expr (pe_gotSN G_check_kinds (hr.mono (by omega)) rfl (L2N.takes_of rfl rfl rfl rfl) (pa_cons (pv 0) (pa_cons (pv 1) pa_nil))))
  (pss_cons (ps_expr (pe_gotSN G_check_ends (hr.mono (by omega)) rfl (L2N.takes_of rfl rfl rfl rfl) (pa_cons (pv 0) (pa_cons (pv 1) pa_nil))))
  (pss_cons (ps_set (i := 3) sc_most_falls.nd rfl (.inl rfl) (pe_got G_count_in (hr.mono (by omega)) rfl (pa_cons (pv 0) (pa_cons (pe_got G_most_by_kind (hr.mono (by omega)) rfl (pa_cons (pv 0) (pa_cons (pv 2) pa_nil))) (pa_cons (pv 1) (pa_cons (pv 2) pa_nil))))))
  (pss_cons (ps_expr (pe_gotSN G_check_long (hr.mono (by omega)) rfl (L2N.takes_of rfl rfl rfl rfl) (pa_cons (pv 3) pa_nil)))
  (pss_one (ps_ret (pv 3)))))), ?_⟩
 have ok := hI.ok
 have b8 := ok.len
 have gd := hI.deep
 have gp := hI.parts
 obtain ⟨B, go, hC⟩ := hI.go
 obtain ⟨ns, gnn, nsl⟩ := hI.nm
 have hD := hI.dok
 have hv := hI.bk
 have hg := hI.ga
 have kpos : ∀ m, 0 <= cntOf b D m := fun m => by have := (cntOf_pos b D m).1; omega
 refine ⟨_, rfl, _, rfl, v, w, b, g, ns, rfl, hv, hg, by omega, by omega, by omega, gnn, nsl, fun gn H1 s1 => ?_, fun n lo d H1 s1 nd hd1 => ?_⟩
 rotate_left
 ·obtain rfl := hd.uniq (.k lo)
  exact hX d H1 s1 nd hd1
 refine ⟨_, rfl, _, rfl, v, w, b, g, rfl, hv.sb0 s1, ok, hg.sb s1, by omega, by omega, gn, fun he H2 s2 => ?_, fun n lo d H2 s2 nd hd1 => ?_⟩
 rotate_left
 ·obtain rfl := hd.uniq (.e rfl gn lo)
  exact hX d H2 (s1.trans s2) (s1.dom _ nd) hd1
 obtain rfl := hd.uniq (.f gn fun _ => he)
 obtain ⟨q0, q1⟩ := hX
 have s02 := s1.trans s2
 refine ⟨_, rfl, _, rfl, _, rfl, v, b, D, rfl, hv.sb0 s02, ok, hD, fun d es H3 s3 nd hw eo => ?_⟩
 have s03 := s02.trans s3
 refine ⟨_, rfl, _, rfl, v, w, d, b, cntOf b D, es, g, D, B, rfl, hv.sb0 s03, by omega, hw, hg.sb s03, go, hC, by omega, by omega, fun x hx => ⟨(eo.mem _).mpr ⟨gn x hx, he x hx⟩, gn x hx⟩, kpos, hD, fun H4 s4 => ?_⟩
 refine nameI ?_
 have s04 := s03.trans s4
 exact ⟨_, rfl, _, rfl, fun hlt H5 s5 => ⟨_, rfl, q0 hlt _ (s04.trans s5)⟩, fun hge H5 s5 => q1 hge _ (s04.trans s5)⟩
abbrev N_long_fall : List Str := ["book", "grove", "bound", "place", "rows"]
theorem sc_long_fall : FnScope N_long_fall ["book", "grove", "bound"] (defScope s_long_fall) := ⟨rfl, rfl, rfl, by decide +kernel, rfl, by decide +kernel, by decide +kernel⟩
theorem ok_long_fall {C_NoPlace C_Book C_NoKind C_Endless C_TooLong : Addr} (B : BI mg) (O_NoPlace : Own K mg "NoPlace" C_NoPlace) (G_most_falls : GotXN P w K mg base "most_falls" ["book", "grove", "bound"] (75) (spMost67 K C_Book C_NoKind C_Endless C_TooLong)) (G_bare_places : Got P w K mg base "bare_places" ["grove"] (20) (spBareP K 20)) (G_laid_by_rule : Got P w K mg base "laid_by_rule" ["book", "counts", "name", "bound"] (47) (spLaidBy K C_Book)) (G_tree_at : GotXN P w K mg base "tree_at" ["grove", "place"] (2) (spTreeAt K C_NoPlace)) (G_most_by_kind : Got P w K mg base "most_by_kind" ["book", "bound"] (48) (spMostK K C_Book)) (F : Fun K "long_fall" "long_fall" s_long_fall f fd) : FnOk P w K mg base (L2N.CX P w) (77) f fd ["book", "grove", "bound"] (spLong67 K C_Book C_NoKind C_Endless C_NoPlace C_TooLong) := by
 refine F.okXN sc_long_fall (fun vs H Q E h => ?_) (fun cdv A outer s H vs Q E hr h => ?_)
 ·obtain ⟨v, w, b, g, D, o, rfl, _⟩ := h
  rfl
 obtain ⟨v, w, b, g, D, o, rfl, hI, hd, hX⟩ := h
 have hun2 := hunT hr
 refine ⟨_, pss_cons (ps_expr (pe_gotSN G_most_falls (hr.mono (by omega)) rfl (L2N.takes_of rfl rfl rfl rfl) (pa_cons (pv 0) (pa_cons (pv 1) (pa_cons (pv 2) pa_nil)))))
  (pss_cons (ps_if (pt_not (pt_truth (pv 1) (by intro _; rfl))) (pss_one (L2N.ps_raise rfl (L2N.takes_of rfl rfl rfl rfl) (L2N.pmk_own PySem.F.excBase_ValueError O_NoPlace.q O_NoPlace.gC O_NoPlace.k (raises_own O_NoPlace.s O_NoPlace.t) rfl))) pss_nil)
  (pss_cons (ps_set (i := 3) sc_long_fall.nd rfl (.inl rfl) (pe_ix ix_list (pe_got G_bare_places (hr.mono (by omega)) rfl (pa_cons (pv 1) pa_nil)) pe_int (fun _ _ => rfl)))
  (pss_cons (ps_set (i := 4) sc_long_fall.nd rfl (.inl rfl) (pe_got G_laid_by_rule (hr.mono (by omega)) rfl (pa_cons (pv 0) (pa_cons (pe_got G_most_by_kind (hr.mono (by omega)) rfl (pa_cons (pv 0) (pa_cons (pv 2) pa_nil))) (pa_cons (pe_ix ix_tup (pe_gotSN G_tree_at (hr.mono (by omega)) rfl (L2N.takes_of rfl rfl rfl rfl) (pa_cons (pv 1) (pa_cons (pv 3) pa_nil))) pe_int (fun _ _ => rfl)) (pa_cons (pv 2) pa_nil))))))
  (pss_one (ps_ret (pe_tup (pa_cons (pv 3) (pa_cons (pe_bm PySem.F.plainAttrs_list PySem.F.slot_list_index PySem.F.type_list_index mt_index (pv 4) (pa_cons (pe_callB (cr_max rfl) rfl B.max boot_max (pa_cons (pv 4) pa_nil)) pa_nil)) (pa_cons (pv 2) pa_nil))))))))), ?_⟩
 have szl := sizeLine_eq
 have ok := hI.ok
 have b8 := ok.len
 have gd := hI.deep
 have gp := hI.parts
 obtain ⟨B, go, hC⟩ := hI.go
 obtain ⟨ns, gnn, nsl⟩ := hI.nm
 have hD := hI.dok
 have hv := hI.bk
 have hg := hI.ga
 have kpos : ∀ m, 0 <= cntOf b D m := fun m => by have := (cntOf_pos b D m).1; omega
 refine ⟨_, rfl, _, rfl, _, rfl, v, w, b, g, D, o, rfl, hI, hd, ?_⟩
 cases hd with
 | k lo => exact hX
 | e t n l => exact hX
 | f hk he =>
 obtain ⟨qT, qN, q⟩ := hX
 refine ⟨fun hlt H1 s1 => ?_, fun hge H1 s1 => qT hge _ s1⟩
 obtain ⟨ga, gs, rfl, hga, hgb⟩ := GA_bears (GA.sb hg s1)
 have gsl := hgb.length
 cases hgs : gs with
 | nil =>
  subst hgs
  refine ⟨_, rfl, false, .inr (.inl ⟨[], hga, rfl⟩), iteT (qN hlt ?_ _ s1)⟩
  cases g with
  | nil => rfl
  | cons k' g' m' r' => simp [Gr.ps] at gsl
 | cons z zs =>
  have gne : g ≠ .nil := fun z' => by rw [z', hgs] at gsl; simp [Gr.ps] at gsl
  refine ⟨_, rfl, true, .inr (.inl ⟨gs, hga, by rw [hgs]; rfl⟩), iteF ?_⟩
  refine ⟨_, rfl, .ref ga, g, rfl, GA.sb hg s1, by omega, by omega, by omega, fun M us H2 s2 nM hM hbp => ?_⟩
  have s12 := s1.trans s2
  have bne : g.bp 0 ≠ [] := fun z => by have := Gr.bp_some go gne; rw [z] at this; simp at this
  obtain ⟨pl, epl⟩ : ∃ pl, (g.bp 0)[0]? = some pl := by
   cases e : g.bp 0 with
   | nil => exact absurd e bne
   | cons a r => exact ⟨a, rfl⟩
  have ul := hbp.length
  have ulp : 0 < us.length := by have := (List.getElem?_eq_some_iff.mp epl).1; omega
  obtain ⟨pv, u0⟩ : ∃ pv, us[0]? = some pv := ⟨us[0], List.getElem?_eq_getElem ulp⟩
  obtain ⟨pl', epl', hpl⟩ := hbp.get u0
  have := Option.some.inj (epl'.symm.trans epl)
  subst this
  refine ⟨M, _, _, _, rfl, rfl, SqL.of hM, atI_nat (j := 0) u0, ?_⟩
  refine nameI ?_
  rw [<- Gr.bk_bp, List.getElem?_map] at epl'
  obtain ⟨x, ex, rfl⟩ := Option.map_eq_some_iff.mp epl'
  have xm := List.mem_of_getElem? ex
  obtain ⟨pa, rfl, hpa⟩ := PL_ints hpl
  obtain ⟨n1, t, e1, e2⟩ := g.ak_place x (Gr.bk_ak g 0 x xm)
  have hbare := Gr.bk_bare _ (Nat.le_refl _) xm
  have kn := Gr.bare_named hk hbare
  obtain ⟨kd, eg⟩ := Bk.get_of kn
  obtain ⟨km, ekn⟩ := Bk.get_some eg
  have hen : EndK b kd.n := by
   obtain ⟨y, hy, ey⟩ : ∃ y ∈ g.within, y.1.1 = x.2 := by
    have h1 : x.2 ∈ (g.ak 0).map (·.2) := List.mem_map.mpr ⟨x, Gr.bk_ak g 0 x xm, rfl⟩
    rw [Gr.ak_kinds] at h1
    obtain ⟨p, hp, e⟩ := List.mem_map.mp h1
    exact ⟨p, hp, e⟩
   rw [ekn, <- ey]; exact he rfl y hy
  refine ⟨_, rfl, _, rfl, _, rfl, v, b, D, rfl, hv.sb0 s12, ok, hD, fun d es H3 s3 nd hw eo => ?_⟩
  have s13 := s12.trans s3
  have hes : ∀ n ∈ adj b kd.n, n ∈ es := fun n hn => by
   have h1 := (eo.mem kd.n).mpr ⟨by rw [ekn]; exact kn, hen⟩
   obtain ⟨i, hi⟩ := List.mem_iff_getElem?.mp h1
   exact List.mem_of_mem_take (eo.ord i _ hi n hn)
  refine ⟨_, rfl, _, rfl, .ref ga, g, pa, _, plO x.1, rfl, GA.sb hg s13, s3.sqT hpa, Whs.pl K H3 x.1, fun t' _ et X H4 s4 hX => ?_, fun z => ?_⟩
  ·obtain rfl : t' = t := Option.some.inj (et.symm.trans e1)
   cases (hX : Dp K H4 X (.tuple [.str t'.1, t'.2.enc])) with
   | tup hX1 hX2 =>
   cases hX2 with
   | cons k1 hX2 =>
   cases hX2 with
   | cons k2 hX2 =>
   cases hX2
   cases k1
   have s14 := s13.trans s4
   refine ⟨_, _, _, _, rfl, rfl, hX1, atI_nat (j := 0) rfl, _, rfl, v, d, b, cntOf b D, es, kd, D, (by rw [ekn, <- e2]; rfl), hv.sb0 s14, ok, km, hw.sb0 s4, hes, kpos, hD, fun l H5 s5 nl hl => ?_⟩
   refine nameI ?_
   have nsl : (((noR :: kd.rs).map (laidI b D (cntOf b D))).map V.int).length = 1 + kd.rs.length := by simp; omega
   have r4 := (ok.kd kd km).2.1
   refine ⟨_, rfl, _, rfl, .inl ⟨rfl, _, SqL.of hl⟩, _, rfl, l, (noR :: kd.rs).map (laidI b D (cntOf b D)), rfl, SqL.of hl, by simp, fun m hm hmax => ?_⟩
   obtain ⟨j, hj, hfirst⟩ := first_idx hm
   refine ⟨l, _, _, j, .int m, rfl, rfl, SqL.of hl, rfl, ?_, by rw [List.getElem?_map, hj]; rfl, ?_, fun i z' hi hz => ?_, ?_⟩
   ·rw [List.all_eq_true]
    intro y hy
    obtain ⟨i, _, rfl⟩ := List.mem_map.mp hy
    rfl
   ·show (m == m) = true
    simp
   ·rw [List.getElem?_map] at hz
    obtain ⟨i', hi', rfl⟩ := Option.map_eq_some_iff.mp hz
    show (i' == m) = false
    have := hfirst i hi
    rw [hi'] at this
    simpa using fun z => this (by rw [z])
   refine ⟨_, rfl, by show 3 <= sizeLine; decide, fun T nT => ?_⟩
   have t6 := SB.new (ps := []) nT (.tup [.ref pa, .int (j : Nat), .int D])
   have s15 := s14.trans s5
   exact q hlt gne (.ref T) _ (s15.trans t6)
  ·rcases z with z | z
   ·exact absurd z n1
   ·rw [e1] at z; cases z
abbrev N_most_by_kind : List Str := ["book", "bound", "counts", "name"]
theorem sc_most_by_kind : FnScope N_most_by_kind ["book", "bound"] (defScope s_most_by_kind) := ⟨rfl, rfl, rfl, by decide +kernel, rfl, by decide +kernel, by decide +kernel⟩
theorem ok_most_by_kind {C_Book C_NoKind : Addr} (B : BI mg) (G_ending_kinds : Got P w K mg base "ending_kinds" ["book"] (24) (spEndingO K C_Book C_NoKind)) (G_capped : Got P w K mg base "capped" ["many"] (1) (spCap)) (G_laid_by_rule : Got P w K mg base "laid_by_rule" ["book", "counts", "name", "bound"] (47) (spLaidBy K C_Book)) (F : Fun K "most_by_kind" "most_by_kind" s_most_by_kind f fd) : FnOk P w K mg base CX0 (48) f fd ["book", "bound"] (spMostK K C_Book) := by
 refine F.ok sc_most_by_kind (fun vs H Q E h => ?_) (fun cdv A outer s H vs Q E hr h => ?_)
 ·obtain ⟨v, b, DD, rfl, _⟩ := h
  rfl
 obtain ⟨v, b, DD, rfl, hv, ok, hDD, q⟩ := h
 have hun2 := hunT hr
 refine ⟨_, pss_cons (ps_set (i := 2) sc_most_by_kind.nd rfl (.inl rfl) pe_dnewK)
  (pss_cons (ps_for PassesOwn.never rfl (pi_list (pe_got G_ending_kinds (hr.mono (by omega)) rfl (pa_cons (pv 0) pa_nil))) (pg_name (i := 3) sc_most_by_kind.nd rfl (.inl rfl))
   (pss_one (ps_dput (by show A.units + 3 + 1 < cLine; omega) (pv 2) (pv 3) (pe_got G_capped (hr.mono (by omega)) rfl (pa_cons (pe_op op_add pe_int (pe_callB (cr_max rfl) rfl B.max boot_max (pa_cons (pe_got G_laid_by_rule (hr.mono (by omega)) rfl (pa_cons (pv 0) (pa_cons (pv 2) (pa_cons (pv 3) (pa_cons (pv 1) pa_nil))))) pa_nil))) pa_nil)) rfl)))
  (pss_one (ps_ret (pv 2)))), ?_⟩
 have szl := sizeLine_eq
 have b8 := ok.len
 intro D nD
 have t1 := SB.new (ps := []) nD (.dK [])
 have hD1 : upd H D (.dK []) D = some (.dK []) := upd_same
 generalize upd H D (.dK []) = H1 at t1 hD1
 refine ⟨_, rfl, v, b, rfl, hv.sb0 t1, ok, fun l es H2 s2 nl hl eo => ?_⟩
 have e8 := eo.len
 refine ⟨l, rfl, ⟨_, SqL.of hl⟩, ?_⟩
 have Dl : D ≠ l := fun z => by rw [<- z, hD1] at nl; cases nl
 refine for_it (walk_list (xs := es.map V.str)) (fun i σ H3 => SB [D] H2 H3 /\ (∃ o3 : Option V, σ = [some v, some (.int DD), some (.ref D), o3]) /\ CntD H3 D (cntOf b DD) (es.take i)) ⟨SB.refl, ⟨none, rfl⟩, s2.keep _ _ hD1 nmn⟩ (fun i σ H3 hi h3 => h3.1.sqL (by simpa using fun z => Dl z.symm) (SqL.of hl)) (fun i x σ Hq H3 hi h3 y => ?_) (fun σ H3 h3 => ?_)
 ·obtain ⟨s3, ⟨o3, rfl⟩, hR⟩ := h3
  obtain ⟨rfl, ey⟩ := y
  rw [List.getElem?_map] at ey
  obtain ⟨n, en, rfl⟩ := Option.map_eq_some_iff.mp ey
  have s03 : SB [] H H3 := ((t1.trans s2).nil.trans s3).drop nD
  have hn := (eo.mem n).mp (List.mem_of_getElem? en)
  obtain ⟨kd, eg⟩ := Bk.get_of hn.1
  obtain ⟨km, rfl⟩ := Bk.get_some eg
  have kpos : ∀ m, 0 <= cntOf b DD m := fun m => by have := (cntOf_pos b DD m).1; omega
  refine ⟨_, rfl, _, rfl, _, rfl, _, rfl, v, D, b, cntOf b DD, es.take i, kd, DD, rfl, hv.sb0 s03, ok, km, hR, fun n h => eo.ord i _ en n h, kpos, hDD, fun ll H4 s4 nll hll => ?_⟩
  refine ⟨ll, _, rfl, SqL.of hll, by simp, fun m hm hmax => ?_⟩
  have em : m = lmx (kd.rs.map (laidI b DD (cntOf b DD))) := by
   have := lmx_of hm hmax (by rw [List.map_cons, laidI_no]; exact mcs ..)
   have e0 : ∀ l : List Int, lmx (0 :: l) = lmx l := fun l => by
    have := lmx_nn l
    show max 0 (lmx l) = lmx l
    omega
   rw [this, List.map_cons, laidI_no, e0]
  subst em
  refine ⟨_, _, rfl, rfl, _, rfl, fun H5 s5 => ?_⟩
  have fresh : kd.n ∉ es.take i := fun z => by
   obtain ⟨j, hj, ej⟩ := List.getElem_of_mem z
   rw [List.getElem_take] at ej
   rw [List.length_take] at hj
   have e2 := List.getElem_of_getElem? en
   obtain ⟨hi2, e2⟩ := e2
   exact List.pairwise_iff_getElem.mp eo.nd j i (by omega) hi2 (by omega) (ej.trans e2.symm)
  have hR5 := (hR.sb0 s4).sb0 s5
  obtain ⟨H6, hput, s6, hR7⟩ := hR5.put fresh (by rw [List.length_take]; omega)
  rw [cntOf_eq ok km hn.2] at hput
  refine ⟨_, rfl, _, rfl, D, H6, rfl, hput, ?_, ⟨_, rfl⟩, ?_⟩
  ·exact (s3.trans (s4.trans s5).nil).trans s6
  ·rw [List.take_add_one, en]
   exact hR7
 ·obtain ⟨s3, ⟨o3, rfl⟩, hR⟩ := h3
  rw [List.length_map, List.take_length] at hR
  exact ⟨_, rfl, q D es _ (((t1.trans s2).nil.trans s3).drop nD) nD hR eo⟩
abbrev N_laid_by_rule : List Str := ["book", "counts", "name", "bound", "rule"]
theorem sc_laid_by_rule : FnScope N_laid_by_rule ["book", "counts", "name", "bound"] (defScope s_laid_by_rule) := ⟨rfl, rfl, rfl, by decide +kernel, rfl, by decide +kernel, by decide +kernel⟩
theorem ok_laid_by_rule {C_Book C_NoKind : Addr} (B : BI mg) (G_rules_from_nought : GotXN P w K mg base "rules_from_nought" ["book", "name"] (5) (spRulesN K C_Book C_NoKind)) (G_laid_count : Got P w K mg base "laid_count" ["book", "counts", "rule", "bound"] (46) (spLaidC K C_Book)) (F : Fun K "laid_by_rule" "laid_by_rule" s_laid_by_rule f fd) : FnOk P w K mg base CX0 (47) f fd ["book", "counts", "name", "bound"] (spLaidBy K C_Book) := by
 refine F.ok sc_laid_by_rule (fun vs H Q E h => ?_) (fun cdv A outer s H vs Q E hr h => ?_)
 ·obtain ⟨v, d, b, κ, ns, k, D, rfl, _⟩ := h
  rfl
 obtain ⟨v, d, b, κ, ns, k, D, rfl, hv, ok, kb, hw, hin, hk, hD, q⟩ := h
 have hun2 := hunT hr
 refine ⟨_, pss_one (ps_ret (pe_lc (own := [("rule", 4)]) (g := (gName 4)) (tt := tYes) (te := (tCall (spLaidC K C_Book) [] E0 (tCons (tVar 0) (tCons (tVar 1) (tCons (tVar 4) (tCons (tVar 3) tNil)))))) rfl sc_laid_by_rule.nd (pi_list (pe_gotXN G_rules_from_nought (hr.mono (by omega)) rfl (pa_cons (pv 0) (pa_cons (pv 2) pa_nil)))) (blkOk_by (N := N_laid_by_rule) (sc := defScope s_laid_by_rule) (by decide +kernel)) (fun _ _ _ _ _ => (pg_name (i := 4) sc_laid_by_rule.nd rfl (.inl rfl))) (fun _ _ _ _ _ => pts_nil) (fun _ _ _ _ _ => (pe_got G_laid_count (hr.mono (by omega)) rfl (pa_cons (pv 0) (pa_cons (pv 1) (pa_cons (pv 4) (pa_cons (pv 3) pa_nil)))))))), ?_⟩
 have szl := sizeLine_eq
 have b8 := ok.len
 obtain ⟨kn, r4, rr⟩ := ok.kd k kb
 have eg := Bk.get_self ok.nd kb
 refine ⟨_, rfl, _, rfl, v, b, k.n, rfl, hv, by omega, fun k hk => Nat.le_trans (ok.kd k hk).2.1 (by decide), fun k' e' ll us H4 s4 nll hll hbl => ?_, fun z => by rw [eg] at z; cases z⟩
 rw [eg] at e'
 cases e'
 have ul := hbl.length
 refine ⟨ll, rfl, ⟨_, SqL.of hll⟩, fun D2 nD2 => ?_⟩
 refine lc_seq (walk_list (xs := us)) nD2 (by rw [ul, List.length_cons]; omega) (fun j ws H5 => ws = (((noR :: k.rs).take j).map fun r => V.int (laidI b D κ r))) rfl (fun H5 s5 => s5.sqL nmn (SqL.of hll)) (fun j ws H5 H6 s6 h => h) (fun Pv j x Hq H5 ws hj s5 y hR5 hu5 fin skip => ?_) (fun ws H5 s5 hD5 hR5 hu5 => ?_)
 ·obtain ⟨rfl, ey⟩ := y
  obtain ⟨r, er, hrd⟩ := hbl.get ey
  have rm := List.mem_of_getElem? er
  have rp : RuOk r /\ (∀ x ∈ Ru.within r, x.1.1 ∈ ns /\ x.1.1 ∈ b.names) := by
   rcases List.mem_cons.mp rm with rfl | rm
   ·exact ⟨⟨trivial, trivial, by decide⟩, fun x hx => by cases hx⟩
   ·refine ⟨(rr r rm).1, fun x hx => ⟨hin _ ?_, (rr r rm).2 x hx⟩⟩
    rw [adj_self ok kb]
    exact ledR_within rm hx
  refine ⟨rfl, _, rfl, _, rfl, _, rfl, _, rfl, v, x, d, b, κ, ns, r, D, 1000000001, rfl, (hv.sb0 s4).sb0 s5, by omega, (hw.sb0 s4).sb0 s5, Dp_sb s5 _ _ (Ru.noList_enc _) hrd, ⟨rp.1.1, rp.1.2.1⟩, by decide, rp.1.2.2, rp.2, hk, hD, fun H6 s6 => fin _ H6 s6 ?_⟩
  rw [hR5, List.take_add_one, er, List.map_append]
  rfl
 ·rw [ul, List.take_length] at hR5
  subst hR5
  refine q D2 H5 (s4.trans s5) ?_ (by rw [hD5, List.map_map]; rfl)
  exact s4.dom _ nD2
abbrev N_laid_count : List Str := ["book", "counts", "rule", "bound", "once", "each"]
theorem sc_laid_count : FnScope N_laid_count ["book", "counts", "rule", "bound"] (defScope s_laid_count) := ⟨rfl, rfl, rfl, by decide +kernel, rfl, by decide +kernel, by decide +kernel⟩
theorem ok_laid_count {C_Book : Addr} (B : BI mg) (G_count_in : Got P w K mg base "count_in" ["book", "counts", "grove", "bound"] (45) (spCntIn K C_Book 20)) (F : Fun K "laid_count" "laid_count" s_laid_count f fd) : FnOk P w K mg base CX0 (46) f fd ["book", "counts", "rule", "bound"] (spLaidC K C_Book) := by
 refine F.ok sc_laid_count (fun vs H Q E h => ?_) (fun cdv A outer s H vs Q E hr h => ?_)
 ·obtain ⟨v, u, d, b, κ, ns, r, D, C, rfl, _⟩ := h
  rfl
 obtain ⟨v, u, d, b, κ, ns, r, D, C, rfl, hv, hl, hw, hu, ok, hC, hp, hin, hk, hD, q⟩ := h
 have hun2 := hunT hr
 refine ⟨_, pss_cons (ps_asg (pv 2) (pg_tup rfl (pgs_cons (pg_name (i := 4) sc_laid_count.nd rfl (.inl rfl)) (pgs_cons (pg_name (i := 5) sc_laid_count.nd rfl (.inl rfl)) pgs_nil))))
  (pss_one (ps_ret (pe_op op_add (pe_got G_count_in (hr.mono (by omega)) rfl (pa_cons (pv 0) (pa_cons (pv 1) (pa_cons (pv 4) (pa_cons (pv 3) pa_nil))))) (pe_op op_mulW (pv 3) (pe_got G_count_in (hr.mono (by omega)) rfl (pa_cons (pv 0) (pa_cons (pv 1) (pa_cons (pv 5) (pa_cons (pv 3) pa_nil))))))))), ?_⟩
 cases hu with
 | @tup ad us' _ hs' hda =>
 cases hda with
 | cons g1 hda =>
 cases hda with
 | cons g2 hda =>
 cases hda
 obtain ⟨o1, o2⟩ := ok
 have rd1 := within_deep r.1
 have rd2 := within_deep r.2
 have c2 := Gr.cin_nn (b := b) hk hD.1 o2
 refine ⟨_, rfl, ad, _, rfl, hs', rfl, _, _, rfl, _, _, rfl, rfl, ?_⟩
 refine ⟨_, rfl, _, rfl, _, rfl, _, rfl, v, _, d, b, κ, ns, r.1, D, C, rfl, hv, hl, hw, g1, o1, hC, by omega, by omega, fun x hx => hin x (mal _ hx), hk, hD, fun H1 s1 => ?_⟩
 refine ⟨_, rfl, _, rfl, _, rfl, _, rfl, _, rfl, v, _, d, b, κ, ns, r.2, D, C, rfl, hv.sb0 s1, hl, hw.sb0 s1, GA.sb g2 s1, o2, hC, by omega, by omega, fun x hx => hin x (mar _ hx), hk, hD, fun H2 s2 => ?_⟩
 exact ⟨_, _, rfl, rfl, cmulw hD.bits (CAP_bits c2.1 c2.2), _, _, rfl, rfl, q H2 (s1.trans s2)⟩
abbrev N_fewest_falls : List Str := ["book", "grove", "bound", "many", "name"]
theorem sc_fewest_falls : FnScope N_fewest_falls ["book", "grove", "bound"] (defScope s_fewest_falls) := ⟨rfl, rfl, rfl, by decide +kernel, rfl, by decide +kernel, by decide +kernel⟩
theorem ok_fewest_falls {C_Book C_NoKind C_TooLong : Addr} (B : BI mg) (G_check_kinds : GotXN P w K mg base "check_kinds" ["book", "grove"] (72) (spCheckKX K C_Book C_NoKind)) (G_count_in : Got P w K mg base "count_in" ["book", "counts", "grove", "bound"] (45) (spCntIn K C_Book 20)) (G_Book_names : GotM P w K mg base C_Book "names" ["self"] (1) (spBNames K C_Book)) (G_check_long : GotXN P w K mg base "check_long" ["many"] (1) (spChkLong C_TooLong)) (F : Fun K "fewest_falls" "fewest_falls" s_fewest_falls f fd) : FnOk P w K mg base (L2N.CX P w) (75) f fd ["book", "grove", "bound"] (spFew67 K C_Book C_NoKind C_TooLong) := by
 refine F.okXN sc_fewest_falls (fun vs H Q E h => ?_) (fun cdv A outer s H vs Q E hr h => ?_)
 ·obtain ⟨v, w, b, g, D, o, rfl, _⟩ := h
  rfl
 obtain ⟨v, w, b, g, D, o, rfl, hI, hd, hX⟩ := h
 have hun2 := hunT hr
 refine ⟨_, pss_cons (ps_expr (pe_gotSN G_check_kinds (hr.mono (by omega)) rfl (L2N.takes_of rfl rfl rfl rfl) (pa_cons (pv 0) (pa_cons (pv 1) pa_nil))))
  (pss_cons (ps_set (i := 3) sc_fewest_falls.nd rfl (.inl rfl) (pe_got G_count_in (hr.mono (by omega)) rfl (pa_cons (pv 0) (pa_cons (pe_dc (own := [("name", 4)]) (g := (gName 4)) (tt := tYes) (tk := (tVar 4)) (tv := (tC (.int 1))) rfl sc_fewest_falls.nd (pi_list (pe_gotM0 G_Book_names (hr.mono (by omega)) (pv 0))) (blkOk_by (N := N_fewest_falls) (sc := defScope s_fewest_falls) (by decide +kernel)) (fun _ _ _ _ _ => (pg_name (i := 4) sc_fewest_falls.nd rfl (.inl rfl))) (fun _ _ _ _ _ => pts_nil) (fun _ _ _ _ _ => (pv 4)) (fun _ _ _ _ _ => pe_int)) (pa_cons (pv 1) (pa_cons (pv 2) pa_nil))))))
  (pss_cons (ps_expr (pe_gotSN G_check_long (hr.mono (by omega)) rfl (L2N.takes_of rfl rfl rfl rfl) (pa_cons (pv 3) pa_nil)))
  (pss_one (ps_ret (pv 3))))), ?_⟩
 have ok := hI.ok
 have b8 := ok.len
 have gd := hI.deep
 have gp := hI.parts
 obtain ⟨B, go, hC⟩ := hI.go
 obtain ⟨ns, gnn, nsl⟩ := hI.nm
 have hD := hI.dok
 have hv := hI.bk
 have hg := hI.ga
 refine ⟨_, rfl, _, rfl, v, w, b, g, ns, rfl, hv, hg, by omega, by omega, by omega, gnn, nsl, fun hk H1 s1 => ?_, fun n lo d H1 s1 nd hd1 => ?_⟩
 rotate_left
 ·obtain rfl := hd.uniq (.k lo)
  exact hX d H1 s1 nd hd1
 obtain rfl := hd.uniq (.f hk fun z => nomatch z)
 obtain ⟨q0, q1⟩ := hX
 refine ⟨_, rfl, ?_⟩
 obtain ⟨va, vdx, vd1, vd2, rfl, hva⟩ := (hv.sb0 s1).at
 have szl := sizeLine_eq
 have nml : b.names.length = b.length := List.length_map ..
 refine ⟨_, rfl, va, vdx, _, rfl, hva, rfl, ?_⟩
 refine ⟨_, b, rfl, hv.sb0 s1, by omega, fun nl H2 s2 nn hn => ?_⟩
 refine ⟨nl, rfl, ⟨_, SqL.of hn⟩, fun DD nD => ?_⟩
 refine dc_seq (walk_list (xs := b.names.map V.str)) nD (by rw [List.length_map]; omega) (fun i kvs H3 => kvs = (b.names.take i).map fun n => ((Sum.inr n : Key), V.int 1)) rfl (fun H3 s3 => s3.sqL nmn (SqL.of hn)) (fun i kvs H3 H4 s4 h => h) (fun Pv i x Hq H3 kvs hi s3 y hR hl fin _ => ?_) (fun kvs H3 s3 hD3 hR hl => ?_)
 ·obtain ⟨rfl, ey⟩ := y
  rw [List.getElem?_map] at ey
  obtain ⟨n, en, rfl⟩ := Option.map_eq_some_iff.mp ey
  refine ⟨rfl, _, rfl, fin (Sum.inr n) (.int 1) _ SB.refl ?_⟩
  subst hR
  rw [putK_new, List.take_add_one, en, List.map_append]
  ·rfl
  ·intro p hp z
   obtain ⟨m, hm, rfl⟩ := List.mem_map.mp hp
   obtain ⟨j, hj, ej⟩ := List.getElem_of_mem hm
   rw [List.getElem_take] at ej
   rw [List.length_take] at hj
   obtain ⟨hi2, e2⟩ := List.getElem_of_getElem? en
   exact List.pairwise_iff_getElem.mp ok.nd j i (by omega) hi2 (by omega) (ej.trans ((Sum.inr.inj z).trans e2.symm))
 rw [List.length_map, List.take_length] at hR
 subst hR
 have s02 := (s1.trans s2).trans s3
 have hcd : CntD H3 DD (fun _ => 1) b.names := hD3
 refine ⟨_, rfl, _, rfl, _, w, DD, b, fun _ => 1, b.names, g, D, B, rfl, hv.sb0 s02, by omega, hcd, hg.sb s02, go, hC, by omega, by omega, fun x hx => ⟨hk x hx, hk x hx⟩, fun _ => (by show (0 : Int) <= 1; decide), hD, fun H4 s4 => ?_⟩
 refine nameI ?_
 have s04 := s02.trans s4
 exact ⟨_, rfl, _, rfl, fun hlt H5 s5 => ⟨_, rfl, q0 hlt _ (s04.trans s5)⟩, fun hge H5 s5 => q1 hge _ (s04.trans s5)⟩
abbrev N_short_fall : List Str := ["book", "grove", "bound"]
theorem sc_short_fall : FnScope N_short_fall ["book", "grove", "bound"] (defScope s_short_fall) := ⟨rfl, rfl, rfl, by decide +kernel, rfl, by decide +kernel, by decide +kernel⟩
theorem ok_short_fall {C_NoPlace C_Book C_NoKind C_TooLong : Addr} (B : BI mg) (O_NoPlace : Own K mg "NoPlace" C_NoPlace) (G_fewest_falls : GotXN P w K mg base "fewest_falls" ["book", "grove", "bound"] (75) (spFew67 K C_Book C_NoKind C_TooLong)) (G_bare_places : Got P w K mg base "bare_places" ["grove"] (20) (spBareP K 20)) (F : Fun K "short_fall" "short_fall" s_short_fall f fd) : FnOk P w K mg base (L2N.CX P w) (77) f fd ["book", "grove", "bound"] (spShort67 K C_Book C_NoKind C_NoPlace C_TooLong) := by
 refine F.okXN sc_short_fall (fun vs H Q E h => ?_) (fun cdv A outer s H vs Q E hr h => ?_)
 ·obtain ⟨v, w, b, g, D, o, rfl, _⟩ := h
  rfl
 obtain ⟨v, w, b, g, D, o, rfl, hI, hd, hX⟩ := h
 have hun2 := hunT hr
 refine ⟨_, pss_cons (ps_expr (pe_gotSN G_fewest_falls (hr.mono (by omega)) rfl (L2N.takes_of rfl rfl rfl rfl) (pa_cons (pv 0) (pa_cons (pv 1) (pa_cons (pv 2) pa_nil)))))
  (pss_cons (ps_if (pt_not (pt_truth (pv 1) (by intro _; rfl))) (pss_one (L2N.ps_raise rfl (L2N.takes_of rfl rfl rfl rfl) (L2N.pmk_own PySem.F.excBase_ValueError O_NoPlace.q O_NoPlace.gC O_NoPlace.k (raises_own O_NoPlace.s O_NoPlace.t) rfl))) pss_nil)
  (pss_one (ps_ret (pe_tup (pa_cons (pe_ix ix_list (pe_got G_bare_places (hr.mono (by omega)) rfl (pa_cons (pv 1) pa_nil)) pe_int (fun _ _ => rfl)) (pa_cons pe_int pa_nil)))))), ?_⟩
 have szl := sizeLine_eq
 have ok := hI.ok
 have b8 := ok.len
 have gd := hI.deep
 have gp := hI.parts
 obtain ⟨B, go, hC⟩ := hI.go
 obtain ⟨ns, gnn, nsl⟩ := hI.nm
 have hD := hI.dok
 have hv := hI.bk
 have hg := hI.ga
 refine ⟨_, rfl, _, rfl, _, rfl, v, w, b, g, D, o, rfl, hI, hd, ?_⟩
 cases hd with
 | k lo => exact hX
 | e t n l => exact hX
 | f hk he =>
 obtain ⟨qT, qN, q⟩ := hX
 refine ⟨fun hlt H1 s1 => ?_, fun hge H1 s1 => qT hge _ s1⟩
 obtain ⟨ga, gs, rfl, hga, hgb⟩ := GA_bears (GA.sb hg s1)
 have gsl := hgb.length
 cases hgs : gs with
 | nil =>
  subst hgs
  refine ⟨_, rfl, false, .inr (.inl ⟨[], hga, rfl⟩), iteT (qN hlt ?_ _ s1)⟩
  cases g with
  | nil => rfl
  | cons k' g' m' r' => simp [Gr.ps] at gsl
 | cons z zs =>
  have gne : g ≠ .nil := fun z' => by rw [z', hgs] at gsl; simp [Gr.ps] at gsl
  refine ⟨_, rfl, true, .inr (.inl ⟨gs, hga, by rw [hgs]; rfl⟩), iteF ?_⟩
  refine ⟨_, rfl, .ref ga, g, rfl, GA.sb hg s1, by omega, by omega, by omega, fun M us H2 s2 nM hM hbp => ?_⟩
  have s12 := s1.trans s2
  have bne : g.bp 0 ≠ [] := fun z => by have := Gr.bp_some go gne; rw [z] at this; simp at this
  obtain ⟨pl, epl⟩ : ∃ pl, (g.bp 0)[0]? = some pl := by
   cases e : g.bp 0 with
   | nil => exact absurd e bne
   | cons a r => exact ⟨a, rfl⟩
  have ul := hbp.length
  have ulp : 0 < us.length := by have := (List.getElem?_eq_some_iff.mp epl).1; omega
  obtain ⟨pv, u0⟩ : ∃ pv, us[0]? = some pv := ⟨us[0], List.getElem?_eq_getElem ulp⟩
  obtain ⟨pl', epl', hpl⟩ := hbp.get u0
  have := Option.some.inj (epl'.symm.trans epl)
  subst this
  refine ⟨M, _, _, _, rfl, rfl, SqL.of hM, atI_nat (j := 0) u0, ?_⟩
  rw [<- Gr.bk_bp, List.getElem?_map] at epl'
  obtain ⟨x, ex, rfl⟩ := Option.map_eq_some_iff.mp epl'
  have xm := List.mem_of_getElem? ex
  have hbare := Gr.bk_bare _ (Nat.le_refl _) xm
  refine ⟨by show 2 <= sizeLine; decide, fun T nT => ?_⟩
  have t6 := SB.new (ps := []) nT (.tup [pv, .int 0])
  exact q hlt gne (.ref T) _ (s12.trans t6)
abbrev N_purseG : List Str := ["_law_script", "_law_k", "_law_cell", "_law_digits", "_law_begin"]
theorem sc_law_purse : FnScope N_purseG ["_law_script", "_law_k"] (defScope s__law_purse) := ⟨rfl, rfl, rfl, by decide +kernel, rfl, by decide +kernel, by decide +kernel⟩
theorem ok_law_purse (B : BI mg) (F : Fun K "_law_purse" "_law_purse" s__law_purse f fd) : FnOk P w K mg base CX0 1 f fd ["_law_script", "_law_k"] (spPurseG K) := by
 refine F.ok sc_law_purse (fun vs H Q E h => ?_) (fun cdv A outer s H vs Q E hr h => ?_)
 ·obtain ⟨a, ns, k, rfl, _⟩ := h
  rfl
 obtain ⟨a, ns, k, rfl, hs, h63, hk, q⟩ := h
 refine ⟨_, pss_cons (ps_set (i := 2) sc_law_purse.nd rfl (.inl rfl) pe_int)
  (pss_cons (ps_if (pt_cmpR op_lt (pv 1) (pe_callB call_len_seq rfl B.len PySem.boot_len (pa_cons (pv 0) pa_nil)) (nomark _)) (pss_one (ps_set (i := 2) sc_law_purse.nd rfl (.inl rfl) (pe_ix ix_list (pv 0) (pv 1) (fun _ _ => rfl)))) pss_nil)
  (pss_cons (ps_set (i := 3) sc_law_purse.nd rfl (.inl rfl) pe_int)
  (pss_cons (ps_if (PW.pt (pw_or (pt_cmpR op_ge (pv 2) (pe_op op_pow pe_int pe_int) (nomark _)) (pw_or1 (pt_cmpR op_lt (pv 2) pe_int (nomark _)))))
   (pss_one (ps_set (i := 3) sc_law_purse.nd rfl (.inl rfl) (pe_op op_mod (pe_callB call_abs rfl B.abs boot_abs (pa_cons (pv 2) pa_nil)) (pe_op op_mulW (pe_op op_mulW (pe_op op_mulW (pe_op op_mulW (pe_op op_pow pe_int pe_int) (pe_op op_pow pe_int pe_int)) (pe_op op_pow pe_int pe_int)) (pe_op op_pow pe_int pe_int)) (pe_op op_pow pe_int pe_int))))) pss_nil)
  (pss_cons (ps_set (i := 4) sc_law_purse.nd rfl (.inl rfl) (pe_op op_mul (pe_op op_add (pe_op op_mod (pv 2) pe_int) pe_int) (pe_op op_add (pe_op op_add (pe_op op_mul (pe_op op_mul pe_int (pv 1)) (pv 1)) (pe_op op_mul pe_int (pv 1))) pe_int)))
  (pss_one (ps_ret (pe_lst (pa_cons (pv 3) (pa_cons (pe_op op_add (pe_op op_mod (pe_op op_mul (pv 4) pe_int) pe_int) pe_int) pa_nil))))))))), ?_⟩
 have fin : ∀ (c x : Int), 0 <= x -> tSeq (tAsg (tOp (rI CMul fun i j => .int (i * j)) (tOp (rI0 fun i j => .int (i + j)) (tOp (rI (fun _ j => 0 < j) fun i j => .int (i % j)) (tVar 2) (tC (.int 18446744073709551557))) (tC (.int 1))) (tOp (rI0 fun i j => .int (i + j)) (tOp (rI0 fun i j => .int (i + j)) (tOp (rI CMul fun i j => .int (i * j)) (tOp (rI CMul fun i j => .int (i * j)) (tC (.int 7)) (tVar 1)) (tVar 1)) (tOp (rI CMul fun i j => .int (i * j)) (tC (.int 2)) (tVar 1))) (tC (.int 3)))) (gName 4))
   (tRet (tLst (tCons (tVar 3) (tCons (tOp (rI0 fun i j => .int (i + j)) (tOp (rI (fun _ j => 0 < j) fun i j => .int (i % j)) (tOp (rI CMul fun i j => .int (i * j)) (tVar 4) (tC (.int 2654435761))) (tC (.int 18446744073709551557))) (tC (.int 1))) tNil))))
   { nx := fun _ H' => Q .non H', rt := Q } [some (.ref a), some (.int (k : Int)), some (.int c), some (.int x), none] H := by
  intro c x hx
  refine ⟨_, rfl, _, _, rfl, rfl, (by show (0 : Int) < 18446744073709551557; decide), _, _, rfl, rfl, _, rfl, _, _, rfl, rfl, .inl ⟨by decide, by decide⟩, _, rfl, _, _, rfl, rfl, .inl ⟨by show -(2 ^ 64) < 7 * (k : Int); omega, by show 7 * (k : Int) < 2 ^ 64; omega⟩, _, rfl, _, _, rfl, rfl, .inl ⟨by decide, by decide⟩, _, _, rfl, rfl, _, _, rfl, rfl, _, _, rfl, rfl, .inr ⟨?_, ?_⟩, ?_⟩
  ·have h1 : 0 <= 7 * (k : Int) * (k : Int) := Int.mul_nonneg (by omega) (by omega)
   show -(2 ^ 64) < 7 * (k : Int) * k + 2 * k + 3; omega
  ·have h1 : 7 * (k : Int) * (k : Int) <= 7000 * 1000 := Int.mul_le_mul (by omega) (by omega) (by omega) (by decide)
   show 7 * (k : Int) * k + 2 * k + 3 < 2 ^ 64; omega
  refine ⟨_, rfl, _, rfl, _, _, rfl, rfl, .inr ⟨by decide, by decide⟩, _, _, rfl, rfl, (by show (0 : Int) < 18446744073709551557; decide), _, _, rfl, rfl, (by show 2 <= sizeLine; decide), fun p hp => ?_⟩
  refine q p _ (SB.new hp _) hp ⟨x, _, upd_same, hx, ?_, ?_⟩
  ·have := Int.emod_nonneg ((c % 18446744073709551557 + 1) * (7 * (k : Int) * k + 2 * k + 3) * 2654435761) (b := 18446744073709551557) (by decide)
   omega
  ·have := Int.emod_lt_of_pos ((c % 18446744073709551557 + 1) * (7 * (k : Int) * k + 2 * k + 3) * 2654435761) (b := 18446744073709551557) (by decide)
   omega
 have mid : ∀ (c : Int), tSeq (tAsg (tC (.int 0)) (gName 3)) (tSeq (tIfS (tOr (tTest (tOp (rI0 fun i j => .bl (decide (i ≥ j))) (tVar 2) (tOp (rI CPow fun i j => .int (i ^ j.toNat)) (tC (.int 10)) (tC (.int 18))))) (tTest (tOp (rI0 fun i j => .bl (decide (i < j))) (tVar 2) (tC (.int 0)))))
   (tAsg (tOp (rI (fun _ j => 0 < j) fun i j => .int (i % j)) (tCB (fun xs H Q => ∃ i, xs = [.int i] /\ Q (.int (if i < 0 then -i else i)) H) (tCons (tVar 2) tNil)) (tOp (rI CMulW fun i j => .int (i * j)) (tOp (rI CMulW fun i j => .int (i * j)) (tOp (rI CMulW fun i j => .int (i * j)) (tOp (rI CMulW fun i j => .int (i * j)) (tOp (rI CPow fun i j => .int (i ^ j.toNat)) (tC (.int 10)) (tC (.int 60))) (tOp (rI CPow fun i j => .int (i ^ j.toNat)) (tC (.int 10)) (tC (.int 60)))) (tOp (rI CPow fun i j => .int (i ^ j.toNat)) (tC (.int 10)) (tC (.int 60)))) (tOp (rI CPow fun i j => .int (i ^ j.toNat)) (tC (.int 10)) (tC (.int 60)))) (tOp (rI CPow fun i j => .int (i ^ j.toNat)) (tC (.int 10)) (tC (.int 60))))) (gName 3)) tNext)
   (tSeq (tAsg (tOp (rI CMul fun i j => .int (i * j)) (tOp (rI0 fun i j => .int (i + j)) (tOp (rI (fun _ j => 0 < j) fun i j => .int (i % j)) (tVar 2) (tC (.int 18446744073709551557))) (tC (.int 1))) (tOp (rI0 fun i j => .int (i + j)) (tOp (rI0 fun i j => .int (i + j)) (tOp (rI CMul fun i j => .int (i * j)) (tOp (rI CMul fun i j => .int (i * j)) (tC (.int 7)) (tVar 1)) (tVar 1)) (tOp (rI CMul fun i j => .int (i * j)) (tC (.int 2)) (tVar 1))) (tC (.int 3)))) (gName 4))
   (tRet (tLst (tCons (tVar 3) (tCons (tOp (rI0 fun i j => .int (i + j)) (tOp (rI (fun _ j => 0 < j) fun i j => .int (i % j)) (tOp (rI CMul fun i j => .int (i * j)) (tVar 4) (tC (.int 2654435761))) (tC (.int 18446744073709551557))) (tC (.int 1))) tNil))))))
   { nx := fun _ H' => Q .non H', rt := Q } [some (.ref a), some (.int (k : Int)), some (.int c), none, none] H := by
  intro c
  have cp : CPow 10 60 := ⟨by decide, by decide, by decide⟩
  refine ⟨_, rfl, _, _, rfl, rfl, ⟨by decide, by decide, by decide⟩, _, _, rfl, rfl, _, rfl, ?_⟩
  refine ite2 (fun z => iteT ?_) (fun z => ⟨_, rfl, _, _, rfl, rfl, _, rfl, ite2 (fun z => ?_) (fun z => ?_)⟩)
  case refine_3 => exact fin c 0 (Int.le_refl 0)
  all_goals
   refine ⟨_, rfl, c, rfl, _, _, rfl, rfl, cp, _, _, rfl, rfl, cp, _, _, rfl, rfl, wide_mul (a := 200) (b := 200) (by decide) (by decide) (by decide) (by decide) (by decide), _, _, rfl, rfl, cp, _, _, rfl, rfl, wide_mul (a := 400) (b := 200) (by decide) (by decide) (by decide) (by decide) (by decide), _, _, rfl, rfl, cp, _, _, rfl, rfl, wide_mul (a := 600) (b := 200) (by decide) (by decide) (by decide) (by decide) (by decide), _, _, rfl, rfl, cp, _, _, rfl, rfl, wide_mul (a := 800) (b := 200) (by decide) (by decide) (by decide) (by decide) (by decide), _, _, rfl, rfl, ?_, ?_⟩
   ·show (0 : Int) < 10 ^ 60 * 10 ^ 60 * 10 ^ 60 * 10 ^ 60 * 10 ^ 60; decide
   ·exact fin c _ (Int.emod_nonneg _ (by decide))
 refine ⟨_, rfl, _, rfl, a, _, rfl, .inl hs, _, _, rfl, rfl, _, rfl, ?_⟩
 refine ite2 (fun z => ?_) (fun z => ?_)
 ·have z' : (k : Int) < ((ns.map V.int).length : Nat) := of_decide_eq_true z
  rw [List.length_map] at z'
  have hk2 : k < ns.length := by omega
  refine ⟨_, rfl, _, rfl, a, _, _, _, rfl, rfl, hs, atI_nat (j := k) (v := .int ns[k]) (by rw [List.getElem?_map, List.getElem?_eq_getElem hk2]; rfl), ?_⟩
  exact mid _
 ·exact mid 0
abbrev N_takeG : List Str := ["_law_purse_here", "_law_many", "_law_digit"]
theorem sc_law_take : FnScope N_takeG ["_law_purse_here", "_law_many"] (defScope s__law_take) := ⟨rfl, rfl, rfl, by decide +kernel, rfl, by decide +kernel, by decide +kernel⟩
theorem ok_law_take (F : Fun K "_law_take" "_law_take" s__law_take f fd) : FnOk P w K mg base CX0 1 f fd ["_law_purse_here", "_law_many"] spTakeG := by
 refine F.ok sc_law_take (fun vs H Q E h => ?_) (fun cdv A outer s H vs Q E hr h => ?_)
 ·obtain ⟨p, m, rfl, _⟩ := h
  rfl
 obtain ⟨p, m, rfl, ⟨x, y, hp, hx, hy, hy2⟩, hm, hm2, q⟩ := h
 refine ⟨_, pss_cons (ps_if (pt_cmpR op_gt (pe_ix ix_list (pv 0) pe_int (fun _ _ => rfl)) pe_int (nomark _))
   (pss_cons (ps_set (i := 2) sc_law_take.nd rfl (.inl rfl) (pe_op op_mod (pe_ix ix_list (pv 0) pe_int (fun _ _ => rfl)) (pv 1)))
   (pss_cons (ps_asg (pe_op op_fdivW (pe_ix ix_list (pv 0) pe_int (fun _ _ => rfl)) (pv 1)) (pg_sub (pv 0) pe_int set_list)) (pss_one (ps_ret (pv 2))))) pss_nil)
  (pss_cons (ps_asg (pe_op op_add (pe_op op_mod (pe_op op_add (pe_op op_mul (pe_ix ix_list (pv 0) pe_int (fun _ _ => rfl)) pe_int) pe_int) pe_int) pe_int) (pg_sub (pv 0) pe_int set_list))
  (pss_one (ps_ret (pe_op op_mod (pe_op op_fdivW (pe_op op_pow (pe_ix ix_list (pv 0) pe_int (fun _ _ => rfl)) pe_int) pe_int) (pv 1))))), ?_⟩
 have hS : SqL K H p [.int x, .int y] := SqL.of hp
 refine ⟨_, rfl, p, _, _, _, rfl, rfl, hS, ix0, _, _, rfl, rfl, _, rfl, ?_⟩
 refine ite2 (fun c => ?_) (fun c => ?_)
 ·refine ⟨_, rfl, p, _, _, _, rfl, rfl, hS, ix0, _, rfl, _, _, rfl, rfl, (by show (0 : Int) < m; omega), ?_⟩
  refine ⟨_, rfl, p, _, _, _, rfl, rfl, hS, ix0, _, rfl, _, _, rfl, rfl, wide_div (b := 250) (by omega) (by omega) (by decide) (by decide), ?_⟩
  refine ⟨_, rfl, p, _, _, _, rfl, rfl, hp, rfl, ?_⟩
  refine ⟨_, rfl, q _ _ (Int.emod_nonneg _ (by omega)) (Int.emod_lt_of_pos _ (by omega)) (SB.set hp (by simp) _) ⟨x / m, y, upd_same, Int.ediv_nonneg hx (by omega), hy, hy2⟩⟩
 ·refine ⟨_, rfl, p, _, _, _, rfl, rfl, hS, ix1, _, _, rfl, rfl, .inr ⟨by decide, by decide⟩, _, _, rfl, rfl, _, _, rfl, rfl, (by show (0 : Int) < 18446744073709551557; decide), _, _, rfl, rfl, ?_⟩
  refine ⟨_, rfl, p, _, _, _, rfl, rfl, hp, rfl, ?_⟩
  have b1 := Int.emod_nonneg (y * 5851302741139 + 977) (b := 18446744073709551557) (by decide)
  have b2 := Int.emod_lt_of_pos (y * 5851302741139 + 977) (b := 18446744073709551557) (by decide)
  generalize (y * 5851302741139 + 977) % 18446744073709551557 = z at b1 b2 ⊢
  have hp2 : (upd H p (.lst [.int x, .int (z + 1)])) p = some (.lst [.int x, .int (z + 1)]) := upd_same
  have hS2 : SqL K (upd H p (.lst [.int x, .int (z + 1)])) p [.int x, .int (z + 1)] := SqL.of hp2
  refine ⟨_, rfl, p, _, _, _, rfl, rfl, hS2, ix1, _, _, rfl, rfl, ⟨by decide, by decide, by omega⟩, _, _, rfl, rfl, wide_div (b := 100) (by decide) (by decide) (by decide) (by decide), _, rfl, _, _, rfl, rfl, (by show (0 : Int) < m; omega), ?_⟩
  exact q _ _ (Int.emod_nonneg _ (by omega)) (Int.emod_lt_of_pos _ (by omega)) (SB.set hp (by simp) _) ⟨x, z + 1, upd_same, hx, by omega, by omega⟩
abbrev N_ltidy : List Str := ["_law_pairs", "_law_found", "_law_tree", "_law_many"]
theorem sc_law_tidy : FnScope N_ltidy ["_law_pairs"] (defScope s__law_tidy) := ⟨rfl, rfl, rfl, by decide +kernel, rfl, by decide +kernel, by decide +kernel⟩
theorem ok_law_tidy (B : BI mg) (F : Fun K "_law_tidy" "_law_tidy" s__law_tidy f fd) : FnOk P w K mg base CX0 1 f fd ["_law_pairs"] (spTidyG K) := by
 refine F.ok sc_law_tidy (fun vs H Q E h => ?_) (fun cdv A outer s H vs Q E hr h => ?_)
 ·obtain ⟨a, xs, bs, rfl, _⟩ := h
  rfl
 obtain ⟨a, xs, as, rfl, hs, hba, hl, ⟨C, ho⟩, q⟩ := h
 have hun2 := hunT hr
 refine ⟨_, pss_cons (ps_set (i := 1) sc_law_tidy.nd rfl (.inl rfl) (pe_lst pa_nil))
  (pss_cons (ps_for PassesOwn.never rfl (pi_list (pe_callB (cr_sortedB Gr.pEnc (by show A.units + 3 + 110 < cLine; omega)) rfl B.sorted (by decide +kernel) (pa_cons (pv 0) pa_nil))) (pg_tup rfl (pgs_cons (pg_name (i := 2) sc_law_tidy.nd rfl (.inl rfl)) (pgs_cons (pg_name (i := 3) sc_law_tidy.nd rfl (.inl rfl)) pgs_nil)))
   (pss_cons (ps_if (PW.pt (pw_and (pt_cmpR (op_neD (by show A.units + 3 + 64 < cLine; omega)) (pv 1) (pe_lst pa_nil) (nomark _)) (pw_and1 (pt_cmpR (op_eqD (by show A.units + 3 + 64 < cLine; omega)) (pe_ix ix_tup (pe_ix ix_list (pv 1) (pe_un un_neg pe_int) (fun _ _ => rfl)) pe_int (fun _ _ => rfl)) (pv 2) (nomark _)))))
    (pss_one (ps_set (i := 3) sc_law_tidy.nd rfl (.inl rfl) (pe_op op_add (pv 3) (pe_ix ix_tup (pe_bm0 PySem.F.plainAttrs_list PySem.F.slot_list_pop PySem.F.type_list_pop mt_pop (pv 1)) pe_int (fun _ _ => rfl))))) pss_nil)
   (pss_one (ps_expr (pe_bm PySem.F.plainAttrs_list PySem.F.slot_list_append PySem.F.type_list_append mt_append (pv 1) (pa_cons (pe_tup (pa_cons (pv 2) (pa_cons (pv 3) pa_nil))) pa_nil))))))
  (pss_one (ps_ret (pe_callTy call_tuple_of rfl B.tuple boot_tuple (pa_cons (pv 1) pa_nil))))), ?_⟩
 refine ⟨(by show 0 <= sizeLine; decide), fun D hD => ?_⟩
 have t0 := SB.new (ps := []) hD (.lst [])
 have hD0 : (upd H D (.lst [])) D = some (.lst []) := upd_same
 generalize hH0 : upd H D (.lst []) = H0 at t0 hD0
 have hs0 : SqL K H0 a xs \/ SqT K H0 a xs := hs.imp (fun h => t0.sqL nmn h) fun h => t0.sqT h
 refine ⟨_, rfl, a, _, as, rfl, hs0, hba.sb t0 Gr.noList_pEnc, Gr.pEnc_all _, Gr.pEnc_sortable _, by omega, fun p hp => ?_, fun p1 zs hp1 hz => ?_⟩
 ·have := Gr.pEnc_depth p
  have := (ho p hp).2.2
  omega
 have s1 := SB.new (ps := []) hp1 (.lst zs)
 have hz3 : Bears K (upd H0 p1 (.lst zs)) Gr.pEnc zs (srtE Gr.pEnc as) := hz.sb s1 Gr.noList_pEnc
 have hD3 := s1.keep _ _ hD0 nmn
 have hl3 : SqL K (upd H0 p1 (.lst zs)) p1 zs := SqL.of upd_same
 have p1D : p1 ≠ D := fun z => by subst z; rw [hD0] at hp1; cases hp1
 generalize hH3 : upd H0 p1 (.lst zs) = H3 at s1 hz3 hD3 hl3
 clear hz
 generalize hbs : srtE Gr.pEnc as = bs at hz3
 have bok : ∀ p ∈ bs, NameOk p.1.1 /\ p.1.2.Ok C /\ p.1.2.deep <= 18 := by
  intro p hp
  rw [<- hbs] at hp
  exact ho p ((srtE_perm as).mem_iff.mp hp)
 have blen : bs.length <= 1000 := by rw [<- hbs, (srtE_perm as).length_eq]; exact hl
 have zl := hz3.length
 refine ⟨p1, rfl, ⟨zs, hl3⟩, ?_⟩
 refine for_list (K := K) (a := p1) (xs := zs) (fun i σ H2 => SB [D] H3 H2 /\ ∃ acc o2 o3, σ = [some (.ref a), some (.ref D), o2, o3] /\ H2 D = some (.lst acc) /\ Bears K H2 Gr.pEnc acc (jn (bs.take i))) ⟨SB.refl, [], none, none, rfl, hD3, .nil⟩ (fun i σ H2 hi h2 => h2.1.sqL (by simpa using p1D) hl3) (fun i x σ H2 hx h2 => ?_) (fun σ H2 h2 => ?_)
 ·obtain ⟨s2, acc, o2, o3, rfl, hD2, hb2⟩ := h2
  obtain ⟨p, ep, hpd⟩ := hz3.get hx
  have pm := List.mem_of_getElem? ep
  obtain ⟨ad, tx, ux, rfl, hsx, _, _, hdx⟩ := PA_parts hpd
  have al := hb2.length
  have jl := jn_length (bs.take i)
  rw [List.length_take] at jl
  rw [jn_take bs i p ep]
  have hdx2 : Dp K H2 (.ref tx) (Gr.tEnc p.1) := Dp_sb s2 _ _ (Gr.noList_tEnc _) hdx
  refine ⟨ad, _, rfl, s2.sqT hsx, rfl, _, _, rfl, _, _, rfl, rfl, ?_⟩
  refine ⟨_, rfl, (by show 0 <= sizeLine; decide), fun e0 he0 => ?_⟩
  have t3 := SB.new (ps := [D]) he0 (.lst [])
  have hD3 : (upd H2 e0 (.lst [])) D = some (.lst acc) := by rw [upd_ne (ne_of_none hD2 he0)]; exact hD2
  have jd : ∀ p ∈ jn (bs.take i), NameOk p.1.1 /\ p.1.2.Ok C /\ p.1.2.deep <= 18 := by
   intro p hp
   obtain ⟨q2, hq2, e2⟩ := jn_keys _ p hp
   rw [<- e2]; exact bok q2 (List.mem_of_mem_take hq2)
  have hb3 := hb2.sb t3 Gr.noList_pEnc
  have hdx3 := Dp_sb t3 _ _ (Gr.noList_tEnc _) hdx2
  have he0' : (upd H2 e0 (.lst [])) e0 = some (.lst []) := upd_same
  generalize hH4 : upd H2 e0 (.lst []) = H4 at t3 hD3 hb3 hdx3 he0'
  refine ⟨.list ((jn (bs.take i)).map Gr.pEnc), .list [], Dp.lst (SqL.of hD3) hb3.dp, Dp.lst (SqL.of he0') .nil, Gr.shaped_rows ⟨C, jd⟩, by decide +kernel, _, rfl, ?_⟩
  have s24 := s2.trans t3
  have app : ∀ (us : List V) (js : List (Tr × Int)) (m : Int) (H5 : Hp), SB [D] H4 H5 -> H5 D = some (.lst us) -> Bears K H5 Gr.pEnc us js -> us.length <= 1000 -> jstep (jn (bs.take i)) p = js ++ [(p.1, m)] ->
    tDrop (tBM K "list" rAppend (tVar 1) (tCons (tTup (tCons (tVar 2) (tCons (tVar 3) tNil))) tNil)) { nx := fun σ H2 => SB [D] H3 H2 /\ ∃ acc o2 o3, σ = [some (.ref a), some (.ref D), o2, o3] /\ H2 D = some (.lst acc) /\ Bears K H2 Gr.pEnc acc (jstep (jn (bs.take i)) p), rt := Q } [some (.ref a), some (.ref D), some (.ref tx), some (.int m)] H5 := by
   intro us js m H5 s5 hD5 hb5 hul e
   rw [e]
   refine ⟨_, rfl, .inl ⟨rfl, _, SqL.of hD5⟩, _, rfl, _, rfl, (by show 2 <= sizeLine; decide), fun t ht => ?_⟩
   have t6 := SB.new (ps := [D]) ht (.tup [.ref tx, .int m])
   have hD6 : (upd H5 t (.tup [.ref tx, .int m])) D = some (.lst us) := by rw [upd_ne (ne_of_none hD5 ht)]; exact hD5
   refine ⟨D, us, _, rfl, rfl, hD6, small1000 (Nat.le_trans hul (by decide)), ?_⟩
   have t7 := SB.set (ps := [D]) hD6 (by simp) (.lst (us ++ [.ref t]))
   exact ⟨((s24.trans s5).trans t6).trans t7, _, _, _, rfl, upd_same, Bears.append ((hb5.sb t6 Gr.noList_pEnc).sb t7 Gr.noList_pEnc) (.cons (Dp.tup (t7.sqT (SqT.of upd_same)) (.cons (Dp_sb ((s5.trans t6).trans t7) _ _ (Gr.noList_tEnc _) hdx3) (.cons (.int _) .nil))) .nil)⟩
  rcases List.eq_nil_or_concat (jn (bs.take i)) with he | ⟨js, z, he⟩
  ·rw [he] at hb3 app
   rw [he]
   cases hb3
   refine iteF (iteF ?_)
   exact app [] [] p.2 H4 SB.refl hD3 .nil (by simp) rfl
  ·rw [List.concat_eq_append] at he
   rw [he] at hb3 app jd
   rw [he]
   obtain ⟨us, u, rfl, hus, hu⟩ := hb3.snoc
   obtain ⟨az, tz, uz, rfl, hsz, _, _, hdz⟩ := PA_parts hu
   obtain ⟨zn, zo, zd⟩ := jd z (by simp)
   obtain ⟨pn, po, pd⟩ := bok p pm
   have e0 : (!PyData.eqv (.list ((js ++ [z]).map Gr.pEnc)) (.list [])) = true := by
    cases js <;> simp [PyData.eqv, PyData.eqvAll]
   rw [e0]
   refine iteT ?_
   refine ⟨_, rfl, 1, rfl, D, _, _, _, rfl, rfl, SqL.of hD3, at_last, az, _, _, _, rfl, rfl, hsz, atI_nat (j := 0) rfl, _, rfl, Gr.tEnc z.1, Gr.tEnc p.1, hdz, hdx3, Gr.shaped_tEnc zn zo (by omega), Gr.shaped_tEnc pn po (by omega), _, rfl, ?_⟩
   rw [Orderly.eq (enc := Gr.tEnc)]
   have ul : us.length <= 1000 := by rw [List.length_append] at al; omega
   by_cases hz : z.1 = p.1
   ·rw [show decide (z.1 = p.1) = true by simp [hz]]
    refine iteT ?_
    refine ⟨_, rfl, _, rfl, .inl ⟨rfl, _, SqL.of hD3⟩, D, _, _, rfl, rfl, hD3, (by simp : (us ++ [V.ref az])[(us ++ [V.ref az]).length - 1]? = some (V.ref az)), ?_⟩
    have ed : (us ++ [V.ref az]).dropLast = us := by simp
    rw [ed]
    have t6 := SB.set (ps := [D]) hD3 (by simp) (.lst us)
    refine ⟨az, _, _, _, rfl, rfl, t6.sqT hsz, atI_nat (j := 1) rfl, _, _, rfl, rfl, ?_⟩
    refine app us js (p.2 + z.2) _ t6 upd_same (hus.sb t6 Gr.noList_pEnc) ul ?_
    rw [jstep_snoc, if_pos hz, Int.add_comm]
   ·rw [show decide (z.1 = p.1) = false by simp [hz]]
    refine iteF ?_
    refine app _ (js ++ [z]) p.2 H4 SB.refl hD3 hb3 (by rw [List.length_append, List.length_singleton] at al ⊢; omega) ?_
    rw [jstep_snoc, if_neg hz]
 ·obtain ⟨s2, acc, o2, o3, rfl, hD2, hb2⟩ := h2
  rw [zl, List.take_length] at hb2
  refine ⟨_, rfl, D, acc, rfl, .inl ⟨SqL.of hD2, fun t ht => ?_⟩⟩
  have t3 := SB.new (ps := []) ht (.tup acc)
  refine q _ _ ((((t0.trans s1).nil.trans s2).drop hD).trans t3) ?_
  have e : Gr.tidy as = Gr.ofPs (jn bs) := by rw [<- hbs]; rfl
  rw [e]
  exact Bears_ga (SqT.of upd_same) (hb2.sb t3 Gr.noList_pEnc)
end
theorem nil_get {α : Type} {j : Nat} {b : α} (h : ([] : List α)[j]? = some b) : False := by simp at h
def sumN (f : Nat -> Nat) : Nat -> Nat
 | 0 => 0
 | n + 1 => sumN f n + f n
theorem sumN_congr {f g : Nat -> Nat} : ∀ {n : Nat}, (∀ j, j < n -> f j = g j) -> sumN f n = sumN g n
 | 0, _ => rfl
 | n + 1, h => by show sumN f n + f n = sumN g n + g n; rw [sumN_congr fun j hj => h j (by omega), h n (by omega)]
theorem sumN_upd {f : Nat -> Nat} {i x : Nat} : ∀ {n : Nat}, i < n -> sumN (fun j => if j = i then x else f j) n + f i = sumN f n + x
 | 0, h => by omega
 | n + 1, h => by
  show sumN (fun j => if j = i then x else f j) n + (if n = i then x else f n) + f i = sumN f n + f n + x
  by_cases hn : n = i
  ·subst hn
   rw [if_pos rfl]
   have : sumN (fun j => if j = n then x else f j) n = sumN f n := sumN_congr fun j hj => if_neg (by omega)
   rw [this]; omega
  ·rw [if_neg hn]
   have := sumN_upd (f := f) (x := x) (n := n) (i := i) (by omega)
   omega
theorem le_sumN {f : Nat -> Nat} {i : Nat} : ∀ {n : Nat}, i < n -> f i <= sumN f n
 | 0, h => by omega
 | n + 1, h => by
  show f i <= sumN f n + f n
  by_cases hn : n = i
  ·subst hn; omega
  ·have := le_sumN (f := f) (n := n) (i := i) (by omega); omega
abbrev Row := Int × Str × Int
def rEnc (r : Row) : PyData := .tuple [.int r.1, .str r.2.1, .int r.2.2]
theorem rEnc_noList (r : Row) : noList (rEnc r) = true := by simp [rEnc, noList, noLists]
section
variable {P : Program} {w : World} {K : PySem.W.Frag} {mg : Str -> Option Value} {base : Heap} {f : Addr} {fd : FuncData}
theorem R_parts {H : Hp} {v : V} {r : Row} (h : Dp K H v (rEnc r)) : ∃ a, v = .ref a /\ SqT K H a [.int r.1, .str r.2.1, .int r.2.2] := by
 cases h with
 | tup hs ha =>
  cases ha with
  | cons h1 h2 =>
   cases h2 with
   | cons h3 h4 =>
    cases h4 with
    | cons h5 h6 =>
     cases h6; cases h1; cases h3; cases h5
     exact ⟨_, rfl, hs⟩
structure Rows (ks : List Str) (c : Int) (l : Nat) (rows : List Row) (dl : List Nat) : Prop where
 len : dl.length = rows.length
 ok : ∀ (j : Nat) (r : Row), rows[j]? = some r -> -1 <= r.1 /\ r.1 < j /\ (NameOk r.2.1 /\ r.2.1 ∈ ks) /\ 1 <= r.2.2 /\ r.2.2 <= c
 dp : ∀ (j : Nat) (r : Row) (d : Nat), rows[j]? = some r -> dl[j]? = some d -> 1 <= d /\ d <= l /\ (r.1 = -1 -> d = 1) /\ (∀ h : Nat, r.1 = (h : Int) -> ∃ e, dl[h]? = some e /\ d = 1 + e)
abbrev N__law_side : List Str := ["_law_purse_here", "_law_names_here", "_law_many", "_law_great", "_law_low", "_law_rows", "_law_deep", "_law_k", "_law_holder", "_law_kind", "_law_count", "_law_held", "_law_tree"]
theorem sc__law_side : FnScope N__law_side ["_law_purse_here", "_law_names_here", "_law_many", "_law_great", "_law_low"] (defScope s__law_side) := ⟨rfl, rfl, rfl, by decide +kernel, rfl, by decide +kernel, by decide +kernel⟩
theorem ok__law_side (B : BI mg) (G__law_take : Got P w K mg base "_law_take" ["_law_purse_here", "_law_many"] (1) (spTakeG)) (G__law_tidy : Got P w K mg base "_law_tidy" ["_law_pairs"] (1) (spTidyG K)) (F : Fun K "_law_side" "_law_side" s__law_side f fd) : FnOk P w K mg base CX0 (2) f fd ["_law_purse_here", "_law_names_here", "_law_many", "_law_great", "_law_low"] (spSideV K) := by
 refine F.ok sc__law_side (fun vs H Q E h => ?_) (fun cdv A outer s H vs Q E hr h => ?_)
 ·obtain ⟨p, n, ks, m, l, c, cc, rfl, _⟩ := h
  rfl
 obtain ⟨p, n, ks, m, l, c, cc, rfl, hp, hn, np, kl1, kl8, kn, hm, hl1, hl12, hc1, hc3, hcm, hcc, q⟩ := h
 have hun2 := hunT hr
 refine ⟨_, pss_cons (ps_set (i := 5) sc__law_side.nd rfl (.inl rfl) (pe_lst pa_nil))
  (pss_cons (ps_set (i := 6) sc__law_side.nd rfl (.inl rfl) (pe_lst pa_nil))
  (pss_cons (ps_for PassesOwn.never rfl (pi_range1 rfl B.range (pa_cons (pv 2) pa_nil)) (pg_name (i := 7) sc__law_side.nd rfl (.inl rfl))
   (pss_cons (ps_set (i := 8) sc__law_side.nd rfl (.inl rfl) (pe_op op_sub (pe_got G__law_take (hr.mono (by omega)) rfl (pa_cons (pv 0) (pa_cons (pe_op op_add (pv 7) pe_int) pa_nil))) pe_int))
  (pss_cons (ps_if (PW.pt (pw_and (pt_cmpR op_ge (pv 8) pe_int (nomark _)) (pw_and1 (pt_cmpR op_ge (pe_ix ix_list (pv 6) (pv 8) (fun _ _ => rfl)) (pv 4) (nomark _))))) (pss_one (ps_set (i := 8) sc__law_side.nd rfl (.inl rfl) (pe_un un_neg pe_int))) pss_nil)
  (pss_cons (ps_set (i := 9) sc__law_side.nd rfl (.inl rfl) (pe_ix ix_list (pv 1) (pe_got G__law_take (hr.mono (by omega)) rfl (pa_cons (pv 0) (pa_cons (pe_callB call_len_seq rfl B.len PySem.boot_len (pa_cons (pv 1) pa_nil)) pa_nil))) (fun _ _ => rfl)))
  (pss_cons (ps_set (i := 10) sc__law_side.nd rfl (.inl rfl) (pe_op op_add pe_int (pe_got G__law_take (hr.mono (by omega)) rfl (pa_cons (pv 0) (pa_cons (pe_ix ix_list (pe_lst (pa_cons pe_int (pa_cons pe_int (pa_cons pe_int (pa_cons (pv 3) pa_nil))))) (pe_got G__law_take (hr.mono (by omega)) rfl (pa_cons (pv 0) (pa_cons pe_int pa_nil))) (fun _ _ => rfl)) pa_nil)))))
  (pss_cons (ps_expr (pe_bm PySem.F.plainAttrs_list PySem.F.slot_list_append PySem.F.type_list_append mt_append (pv 5) (pa_cons (pe_tup (pa_cons (pv 8) (pa_cons (pv 9) (pa_cons (pv 10) pa_nil)))) pa_nil)))
  (pss_one (ps_expr (pe_bm PySem.F.plainAttrs_list PySem.F.slot_list_append PySem.F.type_list_append mt_append (pv 6) (pa_cons (pe_op op_add pe_int (pe_ix ix_list (pe_op op_cat (pe_lst (pa_cons pe_int pa_nil)) (pv 6)) (pe_op op_add (pv 8) pe_int) (fun _ _ => rfl))) pa_nil))))))))))
  (pss_cons (ps_setLc (i := 11) (own := [("_law_k", 7)]) (g := (gName 7)) (tt := tYes) (te := (tLst tNil)) rfl sc__law_side.nd rfl rfl (sw_true rfl rfl rfl (by decide +kernel)) (pi_range1 rfl B.range (pa_cons (pe_op op_add (pv 2) pe_int) pa_nil)) (blkOk_by (N := N__law_side) (sc := defScope s__law_side) (by decide +kernel)) (fun _ _ _ _ _ => (pg_name (i := 7) sc__law_side.nd rfl (.inl rfl))) (fun _ _ _ _ _ => pts_nil) (fun _ _ _ _ _ => (pe_lst pa_nil)))
  (pss_cons (ps_for PassesOwn.never rfl (pi_revR rfl B.reversed (prg_1 rfl B.range (pv 2))) (pg_name (i := 7) sc__law_side.nd rfl (.inl rfl))
   (pss_cons (ps_asg (pe_ix ix_list (pv 5) (pv 7) (fun _ _ => rfl)) (pg_tup rfl (pgs_cons (pg_name (i := 8) sc__law_side.nd rfl (.inl rfl)) (pgs_cons (pg_name (i := 9) sc__law_side.nd rfl (.inl rfl)) (pgs_cons (pg_name (i := 10) sc__law_side.nd rfl (.inl rfl)) pgs_nil)))))
  (pss_cons (ps_set (i := 12) sc__law_side.nd rfl (.inl rfl) (pe_tup (pa_cons (pv 9) (pa_cons (pe_got G__law_tidy (hr.mono (by omega)) rfl (pa_cons (pe_ix ix_list (pv 11) (pv 7) (fun _ _ => rfl)) pa_nil)) pa_nil))))
  (pss_one (ps_expr (pe_bm PySem.F.plainAttrs_list PySem.F.slot_list_append PySem.F.type_list_append mt_append (pe_ix ix_list (pv 11) (pv 8) (fun _ _ => rfl)) (pa_cons (pe_tup (pa_cons (pv 12) (pa_cons (pv 10) pa_nil))) pa_nil)))))))
  (pss_one (ps_ret (pe_got G__law_tidy (hr.mono (by omega)) rfl (pa_cons (pe_ix ix_list (pv 11) (pv 2) (fun _ _ => rfl)) pa_nil)))))))), ?_⟩
 have szl := sizeLine_eq
 -- the two lists
 refine ⟨(by show 0 <= sizeLine; decide), fun R hR => ?_⟩
 have t1 := SB.new (ps := []) hR (.lst [])
 refine nameI ?_
 refine ⟨(by show 0 <= sizeLine; decide), fun G hG => ?_⟩
 have t2 := SB.new (ps := []) hG (.lst [])
 refine nameI ?_
 have RG : R ≠ G := fun z => by subst z; rw [upd_same] at hG; cases hG
 have hR0 : (upd (upd H R (.lst [])) G (.lst [])) R = some (.lst []) := t2.keep _ _ upd_same nmn
 have hG0 : (upd (upd H R (.lst [])) G (.lst [])) G = some (.lst []) := upd_same
 have t12 := t1.trans t2
 have GnH : H G = none := t1.dom _ hG
 generalize hH0 : upd (upd H R (.lst [])) G (.lst []) = H0 at t12 hR0 hG0
 have hp0 := hp.sb t12
 have hn0 := t12.keep _ _ hn nmn
 have nR : n ≠ R := fun z => by subst z; rw [hR] at hn; cases hn
 have nG : n ≠ G := fun z => by subst z; rw [GnH] at hn; cases hn
 have pR : p ≠ R := hp.ne hR
 have pG : p ≠ G := hp.ne GnH
 have Rp : R ∉ [p] := by simpa using fun z : R = p => pR z.symm
 have Gp : G ∉ [p] := by simpa using fun z : G = p => pG z.symm
 have npn : n ∉ [p] := by simpa using np
 refine ⟨_, rfl, (m : Int), rfl, by omega, by omega, ?_⟩
 refine for_range (n := (m : Int).toNat) (fun i σ H2 => SB [p, R, G] H0 H2 /\ PuG H2 p /\ ∃ (us : List V) (rows : List Row) (dl : List Nat) (o7 o8 o9 o10 : Option V), σ = [some (.ref p), some (.ref n), some (.int (m : Int)), some (.int c), some (.int (l : Int)), some (.ref R), some (.ref G), o7, o8, o9, o10, none, none] /\ rows.length = i /\ Rows ks cc l rows dl /\ H2 R = some (.lst us) /\ Bears K H2 rEnc us rows /\ H2 G = some (.lst (dl.map fun d : Nat => V.int (d : Int))))
  ⟨SB.refl, hp0, [], [], [], none, none, none, none, rfl, rfl, ⟨rfl, fun j r h => by simp at h, fun j r d h => by simp at h⟩, hR0, .nil, hG0⟩ (fun i σ H2 hi h2 => ?_) (fun σ H2 h2 => ?_)
 ·obtain ⟨s2, p2, us, rows, dl, o7, o8, o9, o10, rfl, rl, hrow, hR2, hb2, hG2⟩ := h2
  have dll := hrow.len
  have ul := hb2.length
  have im : i < m := by omega
  have hn2 : H2 n = some (.lst (ks.map V.str)) := s2.keep _ _ hn0 (by simp [nR, nG, np])
  refine ⟨_, rfl, _, rfl, _, _, rfl, rfl, p, (i : Int) + 1, by simp, p2, by omega, by omega, fun r H4 r0 ri s4 p4 => ?_⟩
  refine ⟨_, _, rfl, rfl, ?_⟩
  refine nameI ?_
  have hR4 := s4.keep _ _ hR2 Rp
  have hG4 := s4.keep _ _ hG2 Gp
  have hn4 := s4.keep _ _ hn2 npn
  refine seq_via (fun σ' G' => ∃ hd : Int, σ' = [some (.ref p), some (.ref n), some (.int (m : Int)), some (.int c), some (.int (l : Int)), some (.ref R), some (.ref G), some (.int (0 + (i : Nat))), some (.int hd), o9, o10, none, none] /\ H4 = G' /\ -1 <= hd /\ hd < i /\ (∀ h : Nat, hd = (h : Int) -> ∃ e, dl[h]? = some e /\ e < l)) (fun nx hnx => ?_) (fun σ' G' h => ?_)
  ·refine ⟨_, rfl, _, _, rfl, rfl, _, rfl, ?_⟩
   refine ite2 (fun cc => ?_) (fun cc => ?_)
   ·have cc' : r - 1 ≥ 0 := of_decide_eq_true cc
    obtain ⟨h, hh⟩ : ∃ h : Nat, r - 1 = (h : Int) := ⟨(r - 1).toNat, by omega⟩
    have hhl : h < dl.length := by omega
    have hdh : dl[h]? = some dl[h] := List.getElem?_eq_getElem hhl
    generalize dl[h] = d at hdh
    refine ⟨_, rfl, _, rfl, G, _, _, .int (d : Int), rfl, rfl, SqL.of hG4, ?_, _, rfl, _, _, rfl, rfl, _, rfl, ?_⟩
    ·rw [hh]; exact atI_nat (j := h) (by rw [List.getElem?_map, hdh]; rfl)
    refine ite2 (fun cd => ?_) (fun cd => ?_)
    ·exact ⟨1, rfl, hnx _ _ ⟨-1, rfl, rfl, by omega, by omega, fun h hh => by omega⟩⟩
    ·have cd' : ¬ (d : Int) ≥ (l : Int) := of_decide_eq_false (Bool.eq_false_iff.mpr cd)
     refine hnx _ _ ⟨r - 1, rfl, rfl, by omega, by omega, fun h' hh' => ?_⟩
     have : h' = h := by omega
     subst this
     exact ⟨d, hdh, by omega⟩
   ·have cc' : ¬ r - 1 ≥ 0 := of_decide_eq_false (Bool.eq_false_iff.mpr cc)
    exact iteF (hnx _ _ ⟨r - 1, rfl, rfl, by omega, by omega, fun h hh => by omega⟩)
  obtain ⟨hd, rfl, rfl, hd1, hdi, hdd⟩ := h
  refine ⟨_, rfl, _, rfl, _, rfl, n, _, rfl, .inl (SqL.of hn4), p, _, rfl, p4, by rw [List.length_map]; omega, by rw [List.length_map]; omega, fun r5 H5 r50 r5k s5 p5 => ?_⟩
  rw [List.length_map] at r5k
  obtain ⟨x5, rfl⟩ : ∃ x : Nat, r5 = (x : Int) := ⟨r5.toNat, by omega⟩
  have hn5 := s5.keep _ _ hn4 npn
  have hk5 : ks[x5]? = some ks[x5] := List.getElem?_eq_getElem (by omega)
  have hko : NameOk ks[x5] /\ ks[x5] ∈ ks := ⟨kn ks[x5] (List.getElem_mem ..), List.getElem_mem ..⟩
  generalize ks[x5] = kd at hk5 hko
  refine ⟨n, _, _, .str kd, rfl, rfl, SqL.of hn5, atI_nat (j := x5) (by rw [List.getElem?_map, hk5]; rfl), ?_⟩
  refine ⟨_, rfl, _, rfl, (by show 4 <= sizeLine; decide), fun la hla => ?_⟩
  have u6 := SB.new (ps := []) hla (.lst [.int 1, .int 1, .int 2, .int c])
  refine ⟨_, rfl, p, 4, rfl, p5.new hla, by decide, by decide, fun r6 H6 r60 r64 s6 p6 => ?_⟩
  have lap : la ∉ [p] := by simpa using fun z : la = p => p5.ne hla z.symm
  have hla6 := s6.keep _ _ (show (upd H5 la (.lst [.int 1, .int 1, .int 2, .int c])) la = some _ from upd_same) lap
  obtain ⟨z, hz, z1, zc⟩ : ∃ z : Int, atI [V.int 1, V.int 1, V.int 2, V.int c] r6 = some (.int z) /\ 1 <= z /\ z <= cc := by
   have : r6 = 0 \/ r6 = 1 \/ r6 = 2 \/ r6 = 3 := by omega
   rcases this with h | h | h | h <;> subst h
   ·exact ⟨1, rfl, by omega, by omega⟩
   ·exact ⟨1, rfl, by omega, by omega⟩
   ·exact ⟨2, rfl, by omega, by omega⟩
   ·exact ⟨c, rfl, by omega, hcm⟩
  refine ⟨la, _, _, _, rfl, rfl, SqL.of hla6, hz, p, z, rfl, p6, z1, Int.lt_of_le_of_lt (Int.le_trans zc hcc) (by decide), fun r7 H7 r70 r7z s7 p7 => ?_⟩
  refine ⟨_, _, rfl, rfl, ?_⟩
  have s57 : SB [p] H4 H7 := ((s5.trans u6.nil).trans s6).trans s7
  have s27 : SB [p] H2 H7 := s4.trans s57
  have hR7 := s57.keep _ _ hR4 Rp
  have hG7 := s57.keep _ _ hG4 Gp
  -- rows.append
  refine ⟨_, rfl, .inl ⟨rfl, _, SqL.of hR7⟩, _, rfl, _, rfl, _, rfl, (by show 3 <= sizeLine; decide), fun tr htr => ?_⟩
  have u8 := SB.new (ps := []) htr (.tup [.int hd, .str kd, .int (1 + r7)])
  have hR8 := u8.keep _ _ hR7 nmn
  refine ⟨R, us, _, rfl, rfl, hR8, small1000 (by omega), ?_⟩
  have u9 := SB.set (ps := [R, G]) hR8 (by simp) (.lst (us ++ [.ref tr]))
  have hG9 : (upd (upd H7 tr (.tup [.int hd, .str kd, .int (1 + r7)])) R (.lst (us ++ [.ref tr]))) G = some (.lst (dl.map fun d : Nat => V.int (d : Int))) := by
   rw [upd_ne (fun z => RG z.symm)]; exact u8.keep _ _ hG7 nmn
  have hR9 : (upd (upd H7 tr (.tup [.int hd, .str kd, .int (1 + r7)])) R (.lst (us ++ [.ref tr]))) R = some (.lst (us ++ [.ref tr])) := upd_same
  have hb9 : Bears K (upd (upd H7 tr (.tup [.int hd, .str kd, .int (1 + r7)])) R (.lst (us ++ [.ref tr]))) rEnc (us ++ [.ref tr]) (rows ++ [(hd, kd, 1 + r7)]) :=
   Bears.append (((hb2.sb s27 rEnc_noList).sb u8 rEnc_noList).sb u9 rEnc_noList) (.cons (Dp.tup (u9.sqT (SqT.of upd_same)) (.cons (.int _) (.cons (.str _) (.cons (.int _) .nil)))) .nil)
  have s29 : SB [p, R, G] H2 (upd (upd H7 tr (.tup [.int hd, .str kd, .int (1 + r7)])) R (.lst (us ++ [.ref tr]))) := ((s27.mono (by simp)).trans u8.nil).trans (u9.mono (by simp))
  have p9 : PuG (upd (upd H7 tr (.tup [.int hd, .str kd, .int (1 + r7)])) R (.lst (us ++ [.ref tr]))) p := ((p7.sb u8).keep u9 (by simp [pR, pG]))
  generalize hH9 : upd (upd H7 tr (.tup [.int hd, .str kd, .int (1 + r7)])) R (.lst (us ++ [.ref tr])) = H9 at hG9 hR9 hb9 s29 p9
  -- deep.append
  refine ⟨_, rfl, .inl ⟨rfl, _, SqL.of hG9⟩, (by show 1 <= sizeLine; decide), fun l1 hl1 => ?_⟩
  have v1 := SB.new (ps := []) hl1 (.lst [.int 0])
  have hG10 := v1.keep _ _ hG9 nmn
  refine ⟨_, rfl, l1, G, _, _, rfl, rfl, upd_same, hG10, ?_, fun l2 hl2 => ?_⟩
  ·rw [List.length_map, List.length_singleton]
   have : 1000 <= sizeLine := by decide
   omega
  have v2 := SB.new (ps := []) hl2 (.lst ([V.int 0] ++ dl.map fun d : Nat => V.int (d : Int)))
  have v12 := v1.trans v2
  have hG11 := v12.keep _ _ hG9 nmn
  -- how deep the holder is
  obtain ⟨e, he, hel, he1, he2⟩ : ∃ e : Nat, atI ([V.int 0] ++ dl.map fun d : Nat => V.int (d : Int)) (hd + 1) = some (.int (e : Int)) /\ e < l /\ (hd = -1 -> e = 0) /\ (∀ h : Nat, hd = (h : Int) -> dl[h]? = some e) := by
   by_cases h0 : hd = -1
   ·subst h0
    exact ⟨0, atI_nat (j := 0) rfl, by omega, fun _ => rfl, fun h hh => by omega⟩
   ·obtain ⟨h, rfl⟩ : ∃ h : Nat, hd = (h : Int) := ⟨hd.toNat, by omega⟩
    obtain ⟨e, he, hel⟩ := hdd h rfl
    refine ⟨e, ?_, hel, fun z => by omega, fun h' hh => (show h' = h by omega) ▸ he⟩
    have : ((h : Int) + 1) = ((h + 1 : Nat) : Int) := by omega
    rw [this]
    exact atI_nat (j := h + 1) (by show (dl.map fun d : Nat => V.int (d : Int))[h]? = _; rw [List.getElem?_map, he]; rfl)
  refine ⟨_, rfl, _, _, rfl, rfl, l2, _, _, _, rfl, rfl, SqL.of upd_same, he, _, _, rfl, rfl, G, _, _, rfl, rfl, hG11, ?_, ?_⟩
  ·rw [List.length_map]; exact small1000 (by omega)
  have v3 := SB.set (ps := [p, R, G]) hG11 (by simp) (.lst ((dl.map fun d : Nat => V.int (d : Int)) ++ [.int (1 + (e : Int))]))
  refine ⟨s2.trans (s29.trans (v12.nil.trans v3)), (p9.sb v12).keep (SB.set (ps := [R, G]) hG11 (by simp) _) (by simp [pR, pG]), us ++ [.ref tr], rows ++ [(hd, kd, 1 + r7)], dl ++ [1 + e], _, _, _, _, rfl, by simp [rl], ?_, ?_, ?_, ?_⟩
  ·refine ⟨by simp [dll], fun j r hj => ?_, fun j r d hj hdj => ?_⟩
   ·rw [List.getElem?_append] at hj
    by_cases hjl : j < rows.length
    ·rw [if_pos hjl] at hj; exact hrow.ok j r hj
    ·rw [if_neg hjl] at hj
     have hj0 : j - rows.length = 0 := by
      rcases Nat.eq_zero_or_pos (j - rows.length) with h | h
      ·exact h
      ·rw [List.getElem?_eq_none (by simp; omega)] at hj; cases hj
     rw [hj0] at hj
     have hr' : (hd, kd, 1 + r7) = r := by simpa using hj
     subst hr'
     exact ⟨hd1, by show hd < (j : Int); omega, hko, by show 1 <= 1 + r7; omega, by show 1 + r7 <= cc; omega⟩
   ·rw [List.getElem?_append] at hj hdj
    by_cases hjl : j < rows.length
    ·rw [if_pos hjl] at hj
     rw [if_pos (by omega)] at hdj
     obtain ⟨a1, a2, a3, a4⟩ := hrow.dp j r d hj hdj
     refine ⟨a1, a2, a3, fun h hh => ?_⟩
     obtain ⟨e', he', hde⟩ := a4 h hh
     refine ⟨e', ?_, hde⟩
     rw [List.getElem?_append, if_pos (List.getElem?_eq_some_iff.mp he').1]; exact he'
    ·rw [if_neg hjl] at hj
     rw [if_neg (by omega)] at hdj
     have hj0 : j - rows.length = 0 := by
      rcases Nat.eq_zero_or_pos (j - rows.length) with h | h
      ·exact h
      ·rw [List.getElem?_eq_none (by simp; omega)] at hj; cases hj
     rw [hj0] at hj
     rw [show j - dl.length = 0 by omega] at hdj
     have hr' : (hd, kd, 1 + r7) = r := by simpa using hj
     have hd' : 1 + e = d := by simpa using hdj
     subst hr'; subst hd'
     refine ⟨by omega, by omega, fun z => by have := he1 z; omega, fun h hh => ⟨e, ?_, rfl⟩⟩
     have := he2 h hh
     rw [List.getElem?_append, if_pos (List.getElem?_eq_some_iff.mp this).1]; exact this
  ·rw [upd_ne RG]; exact v12.keep _ _ hR9 nmn
  ·exact hb9.sb (v12.nil.trans v3) rEnc_noList
  ·rw [upd_same, List.map_append]
   congr 2
 -- the second part
 obtain ⟨s2, hpu, us, rows, dl, o7, o8, o9, o10, rfl, rl, hrow, hR2, hb2, hG2⟩ := h2
 have rl : rows.length = m := by omega
 have dll := hrow.len
 have ul := hb2.length
 have sH : SB [p] H H2 := by
  have s3 : SB [p, R, G] H H2 := t12.nil.trans s2
  refine ⟨fun b o e nm => s3.keep b o e fun z => ?_, s3.tups, s3.frzs, s3.dom⟩
  rcases List.mem_cons.mp z with z | z
  ·exact nm (by rw [z]; exact mcs ..)
  rcases List.mem_cons.mp z with z | z
  ·subst z; rw [hR] at e; cases e
  ·have z' : b = G := by simpa using z
   subst z'; rw [GnH] at e; cases e
 refine ⟨_, rfl, _, _, rfl, rfl, (m : Int) + 1, rfl, by omega, by omega, fun D hD => ?_⟩
 refine lc_it (walk_range (lo := 0) (n := ((m : Int) + 1).toNat)) (fun i H3 => SB [D] H2 H3 /\ ∃ as : List Addr, as.length = i /\ H3 D = some (.lst (as.map V.ref)) /\ (∀ j b, as[j]? = some b -> H3 b = some (.lst []) /\ H2 b = none /\ b ≠ D) /\ (∀ i j b, as[i]? = some b -> as[j]? = some b -> i = j)) ⟨SB.new hD _, ([] : List Addr), rfl, upd_same, fun j b h => (nil_get h).elim, fun i j b h => (nil_get h).elim⟩ (fun _ _ _ _ => trivial) (fun i x H3 H' hi h3 y => ?_) (fun H3 h3 => ?_)
 ·obtain ⟨s3, as, al, hD3, has, hinj⟩ := h3
  obtain ⟨rfl, rfl⟩ := y
  refine ⟨rfl, ?_⟩
  refine ⟨(by show 0 <= sizeLine; decide), fun e0 he0 => ?_⟩
  have t4 := SB.new (ps := [D]) he0 (.lst [])
  have hD4 : (upd H' e0 (.lst [])) D = some (.lst (as.map V.ref)) := by rw [upd_ne (ne_of_none hD3 he0)]; exact hD3
  refine ⟨_, hD4, by rw [List.length_map]; exact small1000 (by omega), ?_⟩
  have t5 := SB.set (ps := [D]) hD4 (by simp) (.lst (as.map V.ref ++ [.ref e0]))
  have eD : e0 ≠ D := fun z => by subst z; rw [hD3] at he0; cases he0
  refine ⟨(s3.trans t4).trans t5, as ++ [e0], by simp [al], by rw [upd_same, List.map_append]; rfl, fun j b hj => ?_, fun i j b hi hj => ?_⟩
  ·rw [List.getElem?_append] at hj
   by_cases hjl : j < as.length
   ·rw [if_pos hjl] at hj
    obtain ⟨b1, b2, b3⟩ := has j b hj
    refine ⟨?_, b2, b3⟩
    rw [upd_ne b3, upd_ne (ne_of_none b1 he0)]; exact b1
   ·rw [if_neg hjl] at hj
    have hj0 : j - as.length = 0 := by
     rcases Nat.eq_zero_or_pos (j - as.length) with h | h
     ·exact h
     ·rw [List.getElem?_eq_none (by simp; omega)] at hj; cases hj
    rw [hj0] at hj
    have : e0 = b := by simpa using hj
    subst this
    exact ⟨by rw [upd_ne eD]; exact upd_same, s3.dom _ he0, eD⟩
  ·have key : ∀ j, (as ++ [e0])[j]? = some b -> (as[j]? = some b /\ j < as.length) \/ (j = as.length /\ b = e0) := by
    intro j hj
    rw [List.getElem?_append] at hj
    by_cases hjl : j < as.length
    ·rw [if_pos hjl] at hj; exact .inl ⟨hj, hjl⟩
    ·rw [if_neg hjl] at hj
     have hj0 : j - as.length = 0 := by
      rcases Nat.eq_zero_or_pos (j - as.length) with h | h
      ·exact h
      ·rw [List.getElem?_eq_none (by simp; omega)] at hj; cases hj
     rw [hj0] at hj
     have : e0 = b := by simpa using hj
     exact .inr ⟨by omega, this.symm⟩
   rcases key i hi with ⟨h1, _⟩ | ⟨h1, h2⟩ <;> rcases key j hj with ⟨g1, _⟩ | ⟨g1, g2⟩
   ·exact hinj i j b h1 g1
   ·exfalso; have := (has i b h1).1; rw [g2, he0] at this; cases this
   ·exfalso; have := (has j b g1).1; rw [h2, he0] at this; cases this
   ·omega
 obtain ⟨s3, as, al, hD3, has, hinj⟩ := h3
 have al : as.length = m + 1 := by omega
 have s3' := s3.drop hD
 have asD : ∀ b ∈ as, b ≠ D := fun b hb => by
  obtain ⟨j, hj⟩ := List.mem_iff_getElem?.mp hb
  exact (has j b hj).2.2
 have Das : D ∉ as := fun z => asD D z rfl
 have asH : ∀ b ∈ as, H2 b = none := fun b hb => by
  obtain ⟨j, hj⟩ := List.mem_iff_getElem?.mp hb
  exact (has j b hj).2.1
 have Ras : R ∉ as := fun z => by have := asH R z; rw [hR2] at this; cases this
 have hR3 := s3'.keep _ _ hR2 nmn
 have hb3 := hb2.sb s3' rEnc_noList
 -- changes of the held lists are nothing to what stood ahead
 have sfin : ∀ (H4 : Hp), SB as H3 H4 -> SB [] H2 H4 := fun H4 s4 => by
  refine ⟨fun b o e nm => s4.keep b o (s3'.keep b o e nmn) fun z => ?_, fun b x e => s4.tups b x (s3'.tups b x e), fun b o u e => s4.frzs b o u (s3'.frzs b o u e), fun b e => s3'.dom b (s4.dom b e)⟩
  rw [asH b z] at e; cases e
 refine ⟨_, rfl, (m : Int), rfl, by decide, by decide, by omega, by omega, ?_⟩
 refine for_it (walk_rangeC (lo := 0 + ((((m : Int) - 0).toNat : Nat) : Int) - 1) (c := -1) (n := ((m : Int) - 0).toNat)) (fun i σ H4 => SB as H3 H4 /\ ∃ (bf : Nat -> List (Tr × Int)) (o7 o8 o9 o10 o12 : Option V), σ = [some (.ref p), some (.ref n), some (.int (m : Int)), some (.int c), some (.int (l : Int)), some (.ref R), some (.ref G), o7, o8, o9, o10, some (.ref D), o12] /\ (∀ j b, as[j]? = some b -> (j < m - i \/ j = m) -> ∃ vs, H4 b = some (.lst vs) /\ Bears K H4 Gr.pEnc vs (bf j)) /\ sumN (fun j => Gr.tot (bf j)) (m + 1) <= i /\ (∀ j p, p ∈ bf j -> NameOk p.1.1 /\ p.1.2.Ok ((m : Int) * cc + 1) /\ 1 <= p.2 /\ p.2 <= cc /\ p.1.2.deep + 1 + (if j = m then 0 else dl.getD j 0) <= l /\ p.1.1 ∈ ks /\ ∀ x ∈ p.1.2.within, x.1.1 ∈ ks) /\ (i = m -> 1 <= m -> bf m ≠ []))
  ⟨SB.refl, fun _ => [], _, _, _, _, _, rfl, fun j b hj _ => ⟨[], (has j b hj).1, .nil⟩, ?_, fun j p hp => (by cases hp), fun h0 h1 => by omega⟩ (fun _ _ _ _ _ => trivial) (fun i x σ H4 H' hi h4 y => ?_) (fun σ H4 h4 => ?_)
 ·have : ∀ n, sumN (fun _ => Gr.tot []) n = 0 := by
   intro n
   induction n with
   | zero => rfl
   | succ n ih => show sumN _ n + 0 = 0; rw [ih]
  rw [this]; exact Nat.le_refl _
 ·obtain ⟨s4, bf, o7, o8, o9, o10, o12, rfl, hbf, hsum, hok, _⟩ := h4
  obtain ⟨rfl, rfl⟩ := y
  have im : i < m := by omega
  obtain ⟨k, ek, hkm⟩ : ∃ k : Nat, (0 + ((((m : Int) - 0).toNat : Nat) : Int) - 1 + (i : Nat) * (-1)) = (k : Int) /\ k + i + 1 = m := ⟨m - 1 - i, by omega, by omega⟩
  show gName 7 (V.int (0 + ((((m : Int) - 0).toNat : Nat) : Int) - 1 + (i : Nat) * (-1))) _ _ _
  rw [ek]
  have hR4 := s4.keep _ _ hR3 Ras
  have hD4 := s4.keep _ _ hD3 Das
  have huk : us[k]? = some us[k] := List.getElem?_eq_getElem (by omega)
  obtain ⟨row, erow, hrd⟩ := hb3.get huk
  obtain ⟨ra, era, hra⟩ := R_parts hrd
  rw [era] at huk
  obtain ⟨ok1, ok2, ok3, ok4, ok5⟩ := hrow.ok k row erow
  have hdk : dl[k]? = some dl[k] := List.getElem?_eq_getElem (by omega)
  obtain ⟨dp1, dp2, dp3, dp4⟩ := hrow.dp k row dl[k] erow hdk
  have hdk2 : dl.getD k 0 = dl[k] := by rw [List.getD_eq_getElem?_getD, hdk]; rfl
  generalize dl[k] = d at hdk dp1 dp2 dp3 dp4 hdk2
  refine ⟨_, rfl, _, rfl, R, us, _, _, rfl, rfl, SqL.of hR4, atI_nat huk, ra, _, rfl, s4.sqT hra, rfl, _, _, rfl, _, _, rfl, _, _, rfl, rfl, ?_⟩
  -- what is held
  have hak : as[k]? = some as[k] := List.getElem?_eq_getElem (by omega)
  obtain ⟨vs, hvs, hbvs⟩ := hbf k as[k] hak (.inl (by omega))
  have tk : Gr.tot (bf k) <= i := Nat.le_trans (le_sumN (f := fun j => Gr.tot (bf j)) (n := m + 1) (by omega)) hsum
  have lk := Gr.len_tot (bf k)
  refine ⟨_, rfl, _, rfl, _, rfl, D, _, _, _, rfl, rfl, SqL.of hD4, atI_nat (j := k) (by rw [List.getElem?_map, hak]; rfl), as[k], vs, bf k, rfl, .inl (SqL.of hvs), hbvs, by omega, ⟨(m : Int) * cc + 1, fun p hp => by have := hok k p hp; exact ⟨this.1, this.2.1, by have := this.2.2.2.2.1; omega⟩⟩, fun gv H5 s5 hg => ?_⟩
  have gok : (Gr.tidy (bf k)).Ok ((m : Int) * cc + 1) := by
   refine Gr.tidy_ok (C := (m : Int) * cc + 1) (fun p hp => by have := hok k p hp; exact ⟨this.1, this.2.1, this.2.2.1⟩) ?_ (Int.le_refl _)
   have h1 := all_le (bs := bf k) (C := cc) fun p hp => (hok k p hp).2.2.2.1
   have h2 : ((bf k).length : Int) * cc <= (m : Int) * cc := Int.mul_le_mul_of_nonneg_right (by omega) (by omega)
   omega
  have gdp : (Gr.tidy (bf k)).deep <= l - d := Gr.tidy_deep fun p hp => by
   have := (hok k p hp).2.2.2.2.1
   rw [if_neg (by omega), hdk2] at this
   omega
  have gpt := Gr.tidy_parts (bf k)
  have gin : ∀ x ∈ (Gr.tidy (bf k)).within, x.1.1 ∈ ks := tidy_all (Pd := fun n => n ∈ ks) fun p hp => (hok k p hp).2.2.2.2.2
  generalize Gr.tidy (bf k) = g at hg gok gdp gpt gin
  refine ⟨(by show 2 <= sizeLine; decide), fun tt htt => ?_⟩
  have t6 := SB.new (ps := []) htt (.tup [.str row.2.1, gv])
  have s56 := s5.trans t6
  have hD6 := s56.keep _ _ hD4 nmn
  have htd : Dp K (upd H5 tt (.tup [.str row.2.1, gv])) (.ref tt) (Gr.tEnc (row.2.1, g)) := Dp.tup (SqT.of upd_same) (.cons (.str _) (.cons (hg.sb t6) .nil))
  generalize hH6 : upd H5 tt (.tup [.str row.2.1, gv]) = H6 at t6 s56 hD6 htd
  -- the holder's list
  obtain ⟨jp, hjp, hjpk, hjm, hdj⟩ : ∃ jp : Nat, atI (as.map V.ref) row.1 = ((as[jp]?).map V.ref) /\ (jp < k \/ jp = m) /\ jp <= m /\ d = 1 + (if jp = m then 0 else dl.getD jp 0) := by
   by_cases h0 : row.1 = -1
   ·refine ⟨m, ?_, .inr rfl, Nat.le_refl _, ?_⟩
    ·rw [h0]
     unfold atI ixN
     rw [if_neg (by decide), if_pos (by rw [List.length_map, al]; omega)]
     rw [List.length_map, al, <- List.getElem?_map]
     show (as.map V.ref)[((((m + 1 : Nat) : Int) + -1)).toNat]? = _
     rw [show ((((m + 1 : Nat) : Int) + -1)).toNat = m by omega]
    ·rw [if_pos rfl]; have := dp3 h0; omega
   ·obtain ⟨h, hh⟩ : ∃ h : Nat, row.1 = (h : Int) := ⟨row.1.toNat, by omega⟩
    obtain ⟨e, he, hde⟩ := dp4 h hh
    refine ⟨h, ?_, .inl (by omega), by omega, ?_⟩
    ·rw [hh]
     have hah : as[h]? = some as[h] := List.getElem?_eq_getElem (by omega)
     rw [hah]
     exact atI_nat (j := h) (by rw [List.getElem?_map, hah]; rfl)
    ·rw [if_neg (by omega), List.getD_eq_getElem?_getD, he]
     exact hde
  have haj : as[jp]? = some as[jp] := List.getElem?_eq_getElem (by omega)
  rw [haj] at hjp
  have jpk : jp ≠ k := by omega
  obtain ⟨ws, hws, hbws⟩ := hbf jp as[jp] haj (by omega)
  have tj : Gr.tot (bf jp) <= i := Nat.le_trans (le_sumN (f := fun j => Gr.tot (bf j)) (n := m + 1) (by omega)) hsum
  have lj := Gr.len_tot (bf jp)
  have wl := hbws.length
  have hws6 := s56.keep _ _ hws nmn
  refine ⟨_, rfl, _, rfl, D, _, _, _, rfl, rfl, SqL.of hD6, hjp, .inl ⟨rfl, _, SqL.of hws6⟩, _, rfl, _, rfl, (by show 2 <= sizeLine; decide), fun pp hpp => ?_⟩
  have t7 := SB.new (ps := []) hpp (.tup [.ref tt, .int row.2.2])
  have hws7 := t7.keep _ _ hws6 nmn
  refine ⟨as[jp], ws, _, rfl, rfl, hws7, small1000 (by omega), ?_⟩
  have t8 := SB.set (ps := as) hws7 (List.getElem_mem ..) (.lst (ws ++ [.ref pp]))
  have s48 : SB as H' (upd (upd H6 pp (.tup [.ref tt, .int row.2.2])) as[jp] (.lst (ws ++ [.ref pp]))) := (s56.trans t7).nil.trans t8
  have s68 : SB as H6 (upd (upd H6 pp (.tup [.ref tt, .int row.2.2])) as[jp] (.lst (ws ++ [.ref pp]))) := t7.nil.trans t8
  obtain ⟨bf', b1, b2, b3⟩ : ∃ bf' : Nat -> List (Tr × Int), bf' jp = bf jp ++ [((row.2.1, g), row.2.2)] /\ bf' k = [] /\ (∀ j, j ≠ jp -> j ≠ k -> bf' j = bf j) :=
   ⟨fun j => if j = jp then bf jp ++ [((row.2.1, g), row.2.2)] else if j = k then [] else bf j, if_pos rfl,
    by show (if k = jp then _ else if k = k then [] else bf k) = []; rw [if_neg (fun z => jpk z.symm), if_pos rfl],
    fun j h1 h2 => by show (if j = jp then _ else if j = k then [] else bf j) = bf j; rw [if_neg h1, if_neg h2]⟩
  refine ⟨s4.trans s48, bf', _, _, _, _, _, rfl, fun j b hj hjj => ?_, ?_, fun j p hp => ?_, fun h0 h1 => ?_⟩
  ·by_cases hq : j = jp
   ·subst hq
    rw [haj] at hj
    have hb' : as[j] = b := Option.some.inj hj
    subst hb'
    rw [b1]
    exact ⟨_, upd_same, Bears.append (hbws.sb s48 Gr.noList_pEnc) (.cons (Dp.tup (t8.sqT (SqT.of upd_same)) (.cons (Dp_sb s68 _ _ (Gr.noList_tEnc _) htd) (.cons (.int _) .nil))) .nil)⟩
   ·have hjk : j ≠ k := by omega
    rw [b3 j hq hjk]
    obtain ⟨xs, hxs, hbxs⟩ := hbf j b hj (by omega)
    have hne : b ≠ as[jp] := fun z => hq (hinj j jp b hj (by rw [haj, z]))
    refine ⟨xs, ?_, hbxs.sb s48 Gr.noList_pEnc⟩
    rw [upd_ne hne]
    exact (s56.trans t7).keep _ _ hxs nmn
  ·have e1 := sumN_upd (f := fun j => Gr.tot (bf j)) (i := k) (x := 0) (n := m + 1) (by omega)
   have e2 := sumN_upd (f := fun j => if j = k then 0 else Gr.tot (bf j)) (i := jp) (x := Gr.tot (bf jp ++ [((row.2.1, g), row.2.2)])) (n := m + 1) (by omega)
   have e3 : sumN (fun j => Gr.tot (bf' j)) (m + 1) = sumN (fun j => if j = jp then Gr.tot (bf jp ++ [((row.2.1, g), row.2.2)]) else if j = k then 0 else Gr.tot (bf j)) (m + 1) := sumN_congr fun j _ => by
    by_cases h1 : j = jp
    ·rw [if_pos h1, h1, b1]
    ·rw [if_neg h1]
     by_cases h2 : j = k
     ·rw [if_pos h2, h2, b2]; rfl
     ·rw [if_neg h2, b3 j h1 h2]
   rw [e3]
   have e2' : sumN (fun j => if j = jp then Gr.tot (bf jp ++ [((row.2.1, g), row.2.2)]) else if j = k then 0 else Gr.tot (bf j)) (m + 1) + (if jp = k then 0 else Gr.tot (bf jp)) = sumN (fun j => if j = k then 0 else Gr.tot (bf j)) (m + 1) + Gr.tot (bf jp ++ [((row.2.1, g), row.2.2)]) := e2
   rw [if_neg jpk] at e2'
   have e4 : Gr.tot (bf jp ++ [((row.2.1, g), row.2.2)]) = Gr.tot (bf jp) + (1 + g.parts) := by rw [Gr.tot_append]; rfl
   have e1' : sumN (fun j => if j = k then 0 else Gr.tot (bf j)) (m + 1) + Gr.tot (bf k) = sumN (fun j => Gr.tot (bf j)) (m + 1) + 0 := e1
   rw [e4] at e2' ⊢
   omega
  ·by_cases hq : j = jp
   ·subst hq
    rw [b1] at hp
    rcases List.mem_append.mp hp with hp | hp
    ·exact hok j p hp
    ·have : p = ((row.2.1, g), row.2.2) := by simpa using hp
     subst this
     exact ⟨ok3.1, gok, ok4, ok5, (by show g.deep + 1 + _ <= l; omega), ok3.2, gin⟩
   ·by_cases h2 : j = k
    ·rw [h2, b2] at hp; cases hp
    ·rw [b3 j hq h2] at hp; exact hok j p hp
  ·have : jp = m := by omega
   rw [<- this, b1]; simp
 ·obtain ⟨s4, bf, o7, o8, o9, o10, o12, rfl, hbf, hsum, hok, hfull⟩ := h4
  have hD4 := s4.keep _ _ hD3 Das
  have ham : as[m]? = some as[m] := List.getElem?_eq_getElem (by omega)
  obtain ⟨vs, hvs, hbvs⟩ := hbf m as[m] ham (.inr rfl)
  have tm : Gr.tot (bf m) <= m := by
   have := le_sumN (f := fun j => Gr.tot (bf j)) (n := m + 1) (i := m) (by omega)
   have h2 : ((m : Int) - 0).toNat = m := by omega
   rw [h2] at hsum
   exact Nat.le_trans this hsum
  have lm := Gr.len_tot (bf m)
  refine ⟨_, rfl, _, rfl, D, _, _, _, rfl, rfl, SqL.of hD4, atI_nat (j := m) (by rw [List.getElem?_map, ham]; rfl), as[m], vs, bf m, rfl, .inl (SqL.of hvs), hbvs, by omega, ⟨(m : Int) * cc + 1, fun p hp => by have := hok m p hp; exact ⟨this.1, this.2.1, by have := this.2.2.2.2.1; omega⟩⟩, fun gv H5 s5 hg => ?_⟩
  refine q gv _ H5 ((sH.trans (sfin H4 s4).nil).trans s5.nil) ((hpu.sb (sfin H4 s4)).sb s5) hg ?_ ?_ ?_ (tidy_all (Pd := fun n => n ∈ ks) fun p hp => (hok m p hp).2.2.2.2.2) (fun h1 => Gr.tidy_full (hfull (by omega) h1))
  ·refine (Gr.tidy_ok (C := (m : Int) * cc + 1) (D := (m : Int) * cc + 1) (fun p hp => by have := hok m p hp; exact ⟨this.1, this.2.1, this.2.2.1⟩) ?_ (Int.le_refl _)).mono (by omega)
   have h1 := all_le (bs := bf m) (C := cc) fun p hp => (hok m p hp).2.2.2.1
   have h2 : ((bf m).length : Int) * cc <= (m : Int) * cc := Int.mul_le_mul_of_nonneg_right (by omega) (by omega)
   omega
  ·have := Gr.tidy_parts (bf m); omega
  ·refine Gr.tidy_deep fun p hp => ?_
   have := (hok m p hp).2.2.2.2.1
   rw [if_pos rfl] at this
   omega
end
theorem nameL {i : Nat} {x : V} {σ : L2.St} {H : Hp} {Q : L2.St -> Hp -> Prop} (h : Q (σ.set i (some x)) H) : gName i x σ H Q := h
section
variable {P : Program} {w : World} {K : PySem.W.Frag} {mg : Str -> Option Value} {base : Heap} {f : Addr} {fd : FuncData}
abbrev N__law_kinds : List Str := ["_law_script", "_law_first", "_law_names_here", "_law_great", "_law_rounds", "_law_found", "_law_k", "_law_name", "_law_purse_here", "_law_some", "_law_rules", "_law_spreads", "_law_j", "_law_many", "_law_once"]
theorem sc__law_kinds : FnScope N__law_kinds ["_law_script", "_law_first", "_law_names_here", "_law_great", "_law_rounds"] (defScope s__law_kinds) := ⟨rfl, rfl, rfl, by decide +kernel, rfl, by decide +kernel, by decide +kernel⟩
theorem ok__law_kinds (B : BI mg) (G__law_purse : Got P w K mg base "_law_purse" ["_law_script", "_law_k"] (1) (spPurseG K)) (G__law_take : Got P w K mg base "_law_take" ["_law_purse_here", "_law_many"] (1) (spTakeG)) (G__law_side : Got P w K mg base "_law_side" ["_law_purse_here", "_law_names_here", "_law_many", "_law_great", "_law_low"] (2) (spSideV K)) (F : Fun K "_law_kinds" "_law_kinds" s__law_kinds f fd) : FnOk P w K mg base CX0 (3) f fd ["_law_script", "_law_first", "_law_names_here", "_law_great", "_law_rounds"] (spKindsM K) := by
 refine F.ok sc__law_kinds (fun vs H Q E h => ?_) (fun cdv A outer s H vs Q E hr h => ?_)
 ·obtain ⟨a, f0, nl, ns, ks, c, cc, rd, rfl, _⟩ := h
  rfl
 obtain ⟨a, f0, nl, ns, ks, c, cc, rd, rfl, ⟨hs, h63, hf⟩, ⟨hn, kl1, kl8, knd, kok⟩, hc1, hc2, hcc, hcm, q⟩ := h
 have hun2 := hunT hr
 refine ⟨_, pss_cons (ps_set (i := 5) sc__law_kinds.nd rfl (.inl rfl) (pe_lst pa_nil))
  (pss_cons (ps_for PassesOwn.never rfl (pi_enum rfl B.enumerate (pa_cons (pv 2) pa_nil)) (pg_tup rfl (pgs_cons (pg_name (i := 6) sc__law_kinds.nd rfl (.inl rfl)) (pgs_cons (pg_name (i := 7) sc__law_kinds.nd rfl (.inl rfl)) pgs_nil)))
   (pss_cons (ps_set (i := 8) sc__law_kinds.nd rfl (.inl rfl) (pe_got G__law_purse (hr.mono (by omega)) rfl (pa_cons (pv 0) (pa_cons (pe_op op_add (pv 1) (pv 6)) pa_nil))))
  (pss_cons (ps_set (i := 9) sc__law_kinds.nd rfl (.inl rfl) (pe_slice sl_list (pv 2) (po_some (pe_op op_add (pv 6) pe_int)) po_none))
  (pss_cons (ps_if (pt_val (pv 4)) (pss_one (ps_set (i := 9) sc__law_kinds.nd rfl (.inl rfl) (pv 2))) pss_nil)
  (pss_cons (ps_set (i := 10) sc__law_kinds.nd rfl (.inl rfl) (pe_lst pa_nil))
  (pss_cons (ps_set (i := 11) sc__law_kinds.nd rfl (.inl rfl) (pe_cmpR op_eq (pe_got G__law_take (hr.mono (by omega)) rfl (pa_cons (pv 8) (pa_cons pe_int pa_nil))) pe_int (nomark _)))
  (pss_cons (ps_for PassesOwn.never rfl (pi_range1 rfl B.range (pa_cons (pe_op op_mul (pe_got G__law_take (hr.mono (by omega)) rfl (pa_cons (pv 8) (pa_cons pe_int pa_nil))) (pe_callTy call_int1 rfl B.int boot_int (pa_cons (pe_cmpR (op_neD (by show A.units + 3 + 64 < cLine; omega)) (pv 9) (pe_lst pa_nil) (nomark _)) pa_nil))) pa_nil)) (pg_name (i := 12) sc__law_kinds.nd rfl (.inl rfl))
   (pss_cons (ps_set (i := 13) sc__law_kinds.nd rfl (.inl rfl) (pe_got G__law_take (hr.mono (by omega)) rfl (pa_cons (pv 8) (pa_cons pe_int pa_nil))))
  (pss_cons (ps_set (i := 14) sc__law_kinds.nd rfl (.inl rfl) (pe_got G__law_take (hr.mono (by omega)) rfl (pa_cons (pv 8) (pa_cons (pe_op op_add (pv 13) pe_int) pa_nil))))
  (pss_one (ps_expr (pe_bm PySem.F.plainAttrs_list PySem.F.slot_list_append PySem.F.type_list_append mt_append (pv 10) (pa_cons (pe_tup (pa_cons (pe_got G__law_side (hr.mono (by omega)) rfl (pa_cons (pv 8) (pa_cons (pv 9) (pa_cons (pv 14) (pa_cons (pv 3) (pa_cons pe_int pa_nil)))))) (pa_cons (pe_got G__law_side (hr.mono (by omega)) rfl (pa_cons (pv 8) (pa_cons (pv 9) (pa_cons (pe_op op_sub (pv 13) (pv 14)) (pa_cons (pv 3) (pa_cons pe_int pa_nil)))))) pa_nil))) pa_nil)))))))
  (pss_one (ps_expr (pe_bm PySem.F.plainAttrs_list PySem.F.slot_list_append PySem.F.type_list_append mt_append (pv 5) (pa_cons (pe_tup (pa_cons (pv 7) (pa_cons (pv 11) (pa_cons (pv 10) pa_nil)))) pa_nil)))))))))))
  (pss_one (ps_ret (pv 5)))), ?_⟩
 have szl := sizeLine_eq
 refine ⟨by show 0 <= sizeLine; decide, fun K0 nK0 => ?_⟩
 have t1 := SB.new (ps := []) nK0 (.lst [])
 have hK1 : upd H K0 (.lst []) K0 = some (.lst []) := upd_same
 have hn1 := t1.keep _ _ hn nmn
 have nK : nl ≠ K0 := ne_of_none hn nK0
 generalize upd H K0 (.lst []) = H1 at t1 hK1 hn1
 have hsn : ∀ H2, SB [K0] H1 H2 -> SqL K H2 a (ns.map V.int) := fun H2 s2 => ((t1.nil.trans s2).drop nK0).sqL nmn hs
 refine nameI ?_
 refine ⟨_, rfl, nl, _, rfl, SqL.of hn1, ?_⟩
 let goodR : Str -> Ru -> Prop := fun n r => (r.1.Ok (4 * cc + 1) /\ r.1.deep <= 3) /\ (r.2.Ok (4 * cc + 1) /\ r.2.deep <= 3) /\ r.1.parts + r.2.parts <= 4 /\ (∀ x ∈ Ru.within r, x.1.1 ∈ ks) /\ (rd = false -> ∀ j, ks[j]? = some n -> ∀ x ∈ Ru.within r, x.1.1 ∈ ks.drop (j + 1))
 refine for_it (walk_enum (K := K) (a := nl) (xs := ks.map V.str)) (fun i σ H3 => SB [K0] H1 H3 /\ ∃ (xs : List V) (b : Bk) (o6 o7 o8 o9 o10 o11 o12 o13 o14 : Option V), σ = [some (.ref a), some (.int (f0 : Int)), some (.ref nl), some (.int c), some (.bl rd), some (.ref K0), o6, o7, o8, o9, o10, o11, o12, o13, o14] /\ H3 K0 = some (.lst xs) /\ KdAll K H3 [K0] xs b /\ b.names = ks.take i /\ ∀ k ∈ b, k.rs.length <= 4 /\ ∀ r ∈ k.rs, goodR k.n r)
  ⟨SB.refl, [], [], _, _, _, _, _, _, _, _, _, rfl, hK1, .nil, rfl, by simp⟩ (fun i σ H3 hi h3 => h3.1.sqL (by simp [nK]) (SqL.of hn1)) (fun i x σ H3 H' hi h3 y => ?_) (fun σ H3 h3 => ?_)
 ·obtain ⟨s3, xs, b, o6, o7, o8, o9, o10, o11, o12, o13, o14, rfl, hK3, ha3, bn, hgood⟩ := h3
  obtain ⟨T, x1, y1, rfl, hT, rfl, ex, ey⟩ := y
  have ex : some (V.int (i : Nat)) = some x1 := ex
  cases ex
  have ey : (ks.map V.str)[i]? = some y1 := ey
  rw [List.getElem?_map] at ey
  rw [List.length_map] at hi
  obtain ⟨nm, en, rfl⟩ := Option.map_eq_some_iff.mp ey
  have t4 := SB.new (ps := []) hT (.tup [.int (i : Nat), .str nm])
  have hT4 : upd H3 T (.tup [.int (i : Nat), .str nm]) T = some (.tup [.int (i : Nat), .str nm]) := upd_same
  have hK4 := t4.keep _ _ hK3 nmn
  have ha4 := ha3.sb t4 NoLst.nil
  have s4 := s3.trans (t4.nil (ps := [K0]))
  generalize upd H3 T (.tup [.int (i : Nat), .str nm]) = H4 at t4 hT4 hK4 ha4 s4
  have hn4 := s4.keep _ _ hn1 (by simp [nK])
  refine ⟨T, _, rfl, SqT.of hT4, rfl, _, _, rfl, _, _, rfl, rfl, ?_⟩
  refine ⟨_, rfl, _, rfl, _, rfl, _, _, rfl, rfl, a, ns, f0 + i, by simp, hsn H4 s4, h63, by omega, fun p H5 s5 np p5 => ?_⟩
  have hK5 := s5.keep _ _ hK4 nmn
  have hn5 := s5.keep _ _ hn4 nmn
  have ha5 := (ha4.more np).sb s5 NoLst.nil
  have Kp : K0 ≠ p := fun z => by rw [<- z, hK4] at np; cases np
  have nlp : nl ≠ p := fun z => by rw [<- z, hn4] at np; cases np
  have s15 : SB [K0] H1 H5 := s4.trans s5.nil
  refine nameI ?_
  refine ⟨_, rfl, _, rfl, _, _, rfl, rfl, _, rfl, nl, _, rfl, SqL.of hn5, fun S nS => ?_⟩
  have e1 : cutV (ks.map V.str) (some ((i : Int) + 1)) none = (ks.drop (i + 1)).map V.str := by
   rw [<- cutDropS]; rfl
  rw [e1]
  have t6 := SB.new (ps := []) nS (.lst ((ks.drop (i + 1)).map V.str))
  have hS6 : upd H5 S (.lst ((ks.drop (i + 1)).map V.str)) S = some (.lst ((ks.drop (i + 1)).map V.str)) := upd_same
  have p6 := p5.sb t6
  have hK6 := t6.keep _ _ hK5 nmn
  have hn6 := t6.keep _ _ hn5 nmn
  have ha6 := ha5.sb t6 NoLst.nil
  have s16 := s15.trans (t6.nil (ps := [K0]))
  have Sp : S ≠ p := fun z => p5.ne nS z.symm
  have SK : S ≠ K0 := fun z => by rw [z, hK5] at nS; cases nS
  generalize upd H5 S (.lst ((ks.drop (i + 1)).map V.str)) = H6 at t6 hS6 p6 hK6 hn6 ha6 s16
  refine nameI ?_
  dsimp only
  refine seq_via (fun σ' H9 => H6 = H9 /\ ∃ (sl : Addr) (ss : List Str), σ' = [some (.ref a), some (.int (f0 : Int)), some (.ref nl), some (.int c), some (.bl rd), some (.ref K0), some (.int (i : Int)), some (.str nm), some (.ref p), some (.ref sl), o10, o11, o12, o13, o14] /\ H6 sl = some (.lst (ss.map V.str)) /\ sl ≠ p /\ sl ≠ K0 /\ ss.length <= 8 /\ (∀ x ∈ ss, x ∈ ks) /\ (rd = false -> ss = ks.drop (i + 1))) (fun nx hnx => ?_) (fun σ' H9 h => ?_)
  ·refine ⟨_, rfl, rd, rfl, ?_⟩
   cases rd with
   | true => exact iteT ⟨_, rfl, hnx _ _ ⟨rfl, nl, ks, rfl, hn6, nlp, nK, kl8, fun _ h => h, fun z => nomatch z⟩⟩
   | false => exact iteF (hnx _ _ ⟨rfl, S, ks.drop (i + 1), rfl, hS6, Sp, SK, by rw [List.length_drop]; omega, fun _ h => List.mem_of_mem_drop h, fun _ => rfl⟩)
  obtain ⟨rfl, sl, ss, rfl, hsl, slp, slK, ssl, ssk, sse⟩ := h
  refine ⟨by show 0 <= sizeLine; decide, fun R nR => ?_⟩
  have t7 := SB.new (ps := []) nR (.lst [])
  have hR7 : upd H6 R (.lst []) R = some (.lst []) := upd_same
  have p7 := p6.sb t7
  have hK7 := t7.keep _ _ hK6 nmn
  have hsl7 := t7.keep _ _ hsl nmn
  have ha7 := ha6.sb t7 NoLst.nil
  have ha7R := (ha6.more nR).sb t7 NoLst.nil
  have s17 := s16.trans (t7.nil (ps := [K0]))
  have Rp : R ≠ p := fun z => p6.ne nR z.symm
  have RK : R ≠ K0 := fun z => by rw [z, hK6] at nR; cases nR
  have slR : sl ≠ R := ne_of_none hsl nR
  have nR1 : H1 R = none := s16.dom _ nR
  have np1 : H1 p = none := s4.dom _ np
  generalize upd H6 R (.lst []) = H7 at t7 hR7 p7 hK7 hsl7 ha7 ha7R s17
  refine nameI ?_
  refine ⟨_, rfl, p, 2, rfl, p7, by decide, by decide, fun r8 H8 _ _ s8 p8 => ?_⟩
  refine ⟨rfl, ?_⟩
  generalize decide (V.int r8 = V.int 1) = wd
  refine nameI ?_
  refine ⟨_, rfl, p, 5, rfl, p8, by decide, by decide, fun r9 H9 r90 r95 s9 p9 => ?_⟩
  have s79 : SB [p] H7 H9 := s8.trans s9
  have hsl9 := s79.keep _ _ hsl7 (by simpa using slp)
  refine ⟨_, rfl, by show 0 <= sizeLine; decide, fun e0 ne0 => ?_⟩
  have t10 := SB.new (ps := []) ne0 (.lst [])
  have he10 : SqL K (upd H9 e0 (.lst [])) e0 [] := SqL.of upd_same
  have p10 := p9.sb t10
  have s7a : SB [p] H7 (upd H9 e0 (.lst [])) := s79.trans (t10.nil (ps := [p]))
  generalize upd H9 e0 (.lst []) = Ha at t10 he10 p10 s7a
  have hRa := s7a.keep _ _ hR7 (by simpa using Rp)
  have hKa := s7a.keep _ _ hK7 (by simpa using Kp)
  have hsla := s7a.keep _ _ hsl7 (by simpa using slp)
  have haa := ha7R.sb s7a (fun q hq => .inl (by rw [List.mem_singleton.mp hq]; simp))
  have sokS : ∀ z ∈ ss, NameOk z := fun z hz => kok z (ssk z hz)
  refine ⟨.list (ss.map .str), .list [], Dp.lst (SqL.of hsla) (bears_strs _).dp, Dp.lst he10 .nil, names_shaped sokS, by decide +kernel, .inr ⟨_, rfl, ?_⟩⟩
  rw [eqv_nil]
  obtain ⟨ct, ect, ct4, ctn⟩ : ∃ ct : Nat, r9 * (if (!decide (ss = [])) = true then 1 else 0) = (ct : Int) /\ ct <= 4 /\ (1 <= ct -> ss ≠ []) := by
   by_cases h0 : ss = []
   ·exact ⟨0, by rw [decide_eq_true h0]; simp, by omega, fun z => by omega⟩
   ·exact ⟨r9.toNat, by rw [decide_eq_false h0]; simp; omega, by omega, fun _ => h0⟩
  refine ⟨_, _, rfl, rfl, .inl ⟨by show (-(2 ^ 64) : Int) < r9; omega, by show r9 < 2 ^ 64; omega⟩, (ct : Int), (by show [V.int (r9 * (if (!decide (ss = [])) = true then 1 else 0))] = _; rw [ect]), by omega, by omega, ?_⟩
  rw [Int.toNat_natCast]
  refine for_it walk_range (fun j σ H8 => SB [R, p] Ha H8 /\ PuG H8 p /\ ∃ (us : List V) (rs : List Ru) (o12 o13 o14 : Option V), σ = [some (.ref a), some (.int (f0 : Int)), some (.ref nl), some (.int c), some (.bl rd), some (.ref K0), some (.int (i : Int)), some (.str nm), some (.ref p), some (.ref sl), some (.ref R), some (.bl wd), o12, o13, o14] /\ H8 R = some (.lst us) /\ Bears K H8 Ru.enc us rs /\ rs.length <= j /\ ∀ r ∈ rs, goodR nm r)
   ⟨SB.refl, p10, [], [], _, _, _, rfl, hRa, .nil, Nat.le_refl _, by simp⟩ (fun _ _ _ _ _ => trivial) (fun j x σ Hb H' hj h8 y => ?_) (fun σ H8 h8 => ?_)
  ·obtain ⟨sb, pb, us, rs, o12, o13, o14, rfl, hRb, hbb, rl, hrs⟩ := h8
   obtain ⟨rfl, rfl⟩ := y
   have sne := ctn (by omega)
   have spos : 1 <= ss.length := List.length_pos_iff.mpr sne
   refine nameL ?_
   refine ⟨_, rfl, p, 5, rfl, pb, by decide, by decide, fun rm Hc rm0 rm5 sc pc => ?_⟩
   obtain ⟨m, rfl⟩ : ∃ u : Nat, rm = (u : Int) := ⟨rm.toNat, by omega⟩
   refine nameI ?_
   refine ⟨_, rfl, _, rfl, _, _, rfl, rfl, p, (m : Int) + 1, rfl, pc, by omega, by omega, fun ro Hd ro0 rom sd pd => ?_⟩
   obtain ⟨o, rfl⟩ : ∃ u : Nat, ro = (u : Int) := ⟨ro.toNat, by omega⟩
   refine nameI ?_
   have sad : SB [R, p] Ha Hd := sb.trans ((sc.trans sd).mono (by simp))
   have hsld := sad.keep _ _ hsla (by simp [slR, slp])
   have hRd := (sc.trans sd).keep _ _ hRb (by simpa using Rp)
   have hbd := hbb.sb (sc.trans sd) Ru.noList_enc
   refine ⟨_, rfl, .inl ⟨rfl, _, SqL.of hRd⟩, _, rfl, _, rfl, _, rfl, _, rfl, p, sl, ss, o, 3, c, cc, rfl, pd, hsld, slp, spos, Nat.le_trans ssl (by decide), sokS, by omega, by decide, by decide, hc1, hc2, hcc, Int.le_trans hcm (by decide), fun v1 g1 He se pe hg1 ok1 pt1 dp1 nm1 _ => ?_⟩
   have ok1 := ok1.mono (C := 4 * cc + 1) (by have := Int.mul_le_mul_of_nonneg_right (show (o : Int) <= 4 by omega) (show 0 <= cc by omega); omega)
   have hsle := se.keep _ _ hsld (by simpa using slp)
   have emo : (m : Int) - (o : Int) = ((m - o : Nat) : Int) := by omega
   refine ⟨_, rfl, _, rfl, _, rfl, _, rfl, _, _, rfl, rfl, _, rfl, p, sl, ss, m - o, 3, c, cc, (by show [V.ref p, V.ref sl, V.int ((m : Int) - (o : Int)), V.int c, V.int 3] = _; rw [emo]; rfl), pe, hsle, slp, spos, Nat.le_trans ssl (by decide), sokS, by omega, by decide, by decide, hc1, hc2, hcc, Int.le_trans hcm (by decide), fun v2 g2 Hf sf pf hg2 ok2 pt2 dp2 nm2 _ => ?_⟩
   have ok2 := ok2.mono (C := 4 * cc + 1) (by have := Int.mul_le_mul_of_nonneg_right (show ((m - o : Nat) : Int) <= 4 by omega) (show 0 <= cc by omega); omega)
   have hRf := (se.trans sf).keep _ _ hRd (by simpa using Rp)
   have hbf := hbd.sb (se.trans sf) Ru.noList_enc
   refine ⟨by show 2 <= sizeLine; decide, fun T2 nT2 => ?_⟩
   have t14 := SB.new (ps := []) nT2 (.tup [v1, v2])
   have hR14 := t14.keep _ _ hRf nmn
   have hb14 := hbf.sb t14 Ru.noList_enc
   have hT14 : SqT K (upd Hf T2 (.tup [v1, v2])) T2 [v1, v2] := SqT.of upd_same
   have p14 := pf.sb t14
   have hg1' := GA.sb (GA.sb hg1 sf) t14
   have hg2' := GA.sb hg2 t14
   have sag : SB [R, p] Ha (upd Hf T2 (.tup [v1, v2])) := sad.trans (((se.trans sf).trans (t14.nil (ps := [p]))).mono (by simp))
   generalize upd Hf T2 (.tup [v1, v2]) = Hg at t14 hR14 hb14 hT14 p14 hg1' hg2' sag
   have ul := hb14.length
   refine ⟨R, _, _, rfl, rfl, hR14, by omega, ?_⟩
   have t15 := SB.set (ps := [R]) hR14 (by simp) (.lst (us ++ [.ref T2]))
   refine ⟨sag.trans (t15.mono (by simp)), p14.keep t15 (by simpa using fun z : p = R => Rp z.symm), us ++ [.ref T2], rs ++ [(g1, g2)], _, _, _, rfl, upd_same, ?_, by rw [List.length_append, List.length_singleton]; omega, fun r hr => ?_⟩
   ·exact (hb14.sb t15 Ru.noList_enc).append (.cons (.tup (t15.sqT hT14) (.cons (GA.sb hg1' t15) (.cons (GA.sb hg2' t15) .nil))) .nil)
   ·rcases List.mem_append.mp hr with hr | hr
    ·exact hrs r hr
    ·rw [List.mem_singleton.mp hr]
     have nmw : ∀ x ∈ Ru.within (g1, g2), x.1.1 ∈ ss := fun x hx => by
      rcases List.mem_append.mp hx with hx | hx
      ·exact nm1 x hx
      ·exact nm2 x hx
     refine ⟨⟨ok1, dp1⟩, ⟨ok2, dp2⟩, by show g1.parts + g2.parts <= 4; omega, fun x hx => ssk _ (nmw x hx), fun hf j' ej x hx => ?_⟩
     have : i = j' := nodup_at knd en ej
     subst this
     rw [<- sse hf]
     exact nmw x hx
  obtain ⟨s8', p8', us, rs, o12, o13, o14, rfl, hR8, hb8, rl, hrs⟩ := h8
  have hK8 := s8'.keep _ _ hKa (by simp [Kp, RK.symm])
  have ha8 := haa.sb s8' (fun q hq => .inl (by rcases List.mem_cons.mp hq with rfl | hq <;> simp_all))
  have xl := ha8.length
  have bl : b.length <= i := by
   have : (Bk.names b).length = (ks.take i).length := by rw [bn]
   rw [List.length_map, List.length_take] at this
   omega
  refine ⟨_, rfl, .inl ⟨rfl, _, SqL.of hK8⟩, _, rfl, _, rfl, _, rfl, by show 3 <= sizeLine; decide, fun T3 nT3 => ?_⟩
  have t16 := SB.new (ps := []) nT3 (.tup [.str nm, .bl wd, .ref R])
  have hT16 : SqT K (upd H8 T3 (.tup [.str nm, .bl wd, .ref R])) T3 [.str nm, .bl wd, .ref R] := SqT.of upd_same
  have hK16 := t16.keep _ _ hK8 nmn
  have hR16 := t16.keep _ _ hR8 nmn
  have hb16 := hb8.sb t16 Ru.noList_enc
  have ha16 := ha8.sb t16 NoLst.nil
  have s1g : SB [R, p, K0] H1 (upd H8 T3 (.tup [.str nm, .bl wd, .ref R])) := (((s17.mono (by simp)).trans (s7a.mono (by simp))).trans (s8'.mono (by simp))).trans t16.nil
  have s1g := (s1g.drop nR1).drop np1
  generalize upd H8 T3 (.tup [.str nm, .bl wd, .ref R]) = Hh at t16 hT16 hK16 hR16 hb16 ha16 s1g
  refine ⟨K0, _, _, rfl, rfl, hK16, by omega, ?_⟩
  have t17 := SB.set (ps := [K0]) hK16 (by simp) (.lst (xs ++ [.ref T3]))
  refine ⟨s1g.trans t17, xs ++ [.ref T3], b ++ [⟨nm, wd, rs⟩], _, _, _, _, _, _, _, _, _, rfl, upd_same, ?_, ?_, fun k hk => ?_⟩
  ·have h1 := ha16.sb t17 (fun q hq => .inl (by rw [List.mem_singleton.mp hq]; simp))
   exact (h1.less (bad' := [K0]) (by simp)).append (.cons ⟨T3, R, us, rfl, t17.sqT hT16, t17.keep _ _ hR16 (by simpa using RK), hb16.sb t17 Ru.noList_enc, by simp [RK]⟩ .nil)
  ·rw [Bk.names, List.map_append, List.take_add_one, en]
   show Bk.names b ++ [nm] = _
   rw [bn]; rfl
  ·rcases List.mem_append.mp hk with hk | hk
   ·exact hgood k hk
   ·rw [List.mem_singleton.mp hk]; exact ⟨by show rs.length <= 4; omega, hrs⟩
 ·obtain ⟨s3, xs, b, o6, o7, o8, o9, o10, o11, o12, o13, o14, rfl, hK3, ha3, bn, hgood⟩ := h3
  rw [List.length_map, List.take_length] at bn
  have bl : b.length = ks.length := by rw [<- bn]; exact (List.length_map ..).symm
  have hmem : ∀ k ∈ b, k.n ∈ ks := fun k hk => by rw [<- bn]; exact List.mem_map.mpr ⟨k, hk, rfl⟩
  refine ⟨_, rfl, q K0 xs b H3 ((t1.nil.trans s3).drop nK0) nK0 hK3 ha3 ⟨by omega, by omega, by rw [bn]; exact knd, fun k hk => ⟨kok _ (hmem k hk), (hgood k hk).1, fun r hr => ?_⟩⟩ bn (fun k hk r hr => ⟨((hgood k hk).2 r hr).1, ((hgood k hk).2 r hr).2.1⟩) (fun hf k hk j ej r hr => ((hgood k hk).2 r hr).2.2.2.2 hf j ej)⟩
  obtain ⟨h1, h2, h3, h4, _⟩ := (hgood k hk).2 r hr
  exact ⟨⟨h1.1.mono (by omega), h2.1.mono (by omega), h3⟩, fun x hx => by rw [bn]; exact h4 x hx⟩
theorem sc_NoKind___init__ : FnScope ["self", "kind"] ["self", "kind"] (defScope s_NoKind___init__) := ⟨rfl, rfl, rfl, by decide +kernel, rfl, by decide +kernel, by decide +kernel⟩
theorem ok_NoKind___init__ {C : Addr} (F : Fun K "__init__" "NoKind.__init__" s_NoKind___init__ f fd) : FnOk P w K mg base CX0 1 f fd ["self", "kind"] (spKindI K C) := by
 refine F.ok sc_NoKind___init__ (fun vs H Q E h => ?_) (fun cdv A outer s H vs Q E hr h => ?_)
 ·obtain ⟨a, y, rfl, _⟩ := h
  rfl
 obtain ⟨a, y, rfl, T, no, ha, q⟩ := h
 refine ⟨_, pss_one (ps_ost (pv 0) (pv 1)), ?_⟩
 exact ⟨_, rfl, _, rfl, a, C, rfl, T, no, .inl ⟨ha, q⟩⟩
theorem sc_Endless___init__ : FnScope ["self", "kind"] ["self", "kind"] (defScope s_Endless___init__) := ⟨rfl, rfl, rfl, by decide +kernel, rfl, by decide +kernel, by decide +kernel⟩
theorem ok_Endless___init__ {C : Addr} (F : Fun K "__init__" "Endless.__init__" s_Endless___init__ f fd) : FnOk P w K mg base CX0 1 f fd ["self", "kind"] (spKindI K C) := by
 refine F.ok sc_Endless___init__ (fun vs H Q E h => ?_) (fun cdv A outer s H vs Q E hr h => ?_)
 ·obtain ⟨a, y, rfl, _⟩ := h
  rfl
 obtain ⟨a, y, rfl, T, no, ha, q⟩ := h
 refine ⟨_, pss_one (ps_ost (pv 0) (pv 1)), ?_⟩
 exact ⟨_, rfl, _, rfl, a, C, rfl, T, no, .inl ⟨ha, q⟩⟩
abbrev N_Book___init__ : List Str := ["self", "kinds", "name", "spreading", "rows"]
theorem sc_Book___init__ : FnScope N_Book___init__ ["self", "kinds"] (defScope s_Book___init__) := ⟨rfl, rfl, rfl, by decide +kernel, rfl, by decide +kernel, by decide +kernel⟩
theorem ok_Book___init__ {C_NoBook C_Book : Addr} (B : BI mg) (O_NoBook : Own K mg "NoBook" C_NoBook) (T_Book : ClsF K C_Book ["spread_by_name", "rows_by_name"]) (G_are_kinds : Got P w K mg base "are_kinds" ["things"] (87) (spAreKinds K)) (F : Fun K "__init__" "Book.__init__" s_Book___init__ f fd) : FnOk P w K mg base (L2N.CX P w) (88) f fd ["self", "kinds"] (spBInit K C_Book C_NoBook) := by
 refine F.okXN sc_Book___init__ (fun vs H Q E h => ?_) (fun cdv A outer s H vs Q E hr h => ?_)
 ·obtain ⟨x, dx, l, xs, ts, rfl, _⟩ := h
  rfl
 obtain ⟨x, dx, l, xs, ts, rfl, hx, hdx, hs, ha, hf, hl, q, qE⟩ := h
 have hun2 := hunT hr
 refine ⟨_, pss_cons (ps_if (pt_not (pt_val (pe_got G_are_kinds (hr.mono (by omega)) rfl (pa_cons (pv 1) pa_nil)))) (pss_one (L2N.ps_raise rfl (L2N.takes_of rfl rfl rfl rfl) (L2N.pmk_own PySem.F.excBase_ValueError O_NoBook.q O_NoBook.gC O_NoBook.k (raises_own O_NoBook.s O_NoBook.t) rfl))) pss_nil)
  (pss_cons (ps_fld (pv 0) (pe_dc (own := [("name", 2), ("spreading", 3), ("rows", 4)]) (g := (gTup K 3 (gCons (gName 2) (gCons (gName 3) (gCons (gName 4) gNil))))) (tt := tYes) (tk := (tVar 2)) (tv := (tVar 3)) rfl sc_Book___init__.nd (pi_list (pv 1)) (blkOk_by (N := N_Book___init__) (sc := defScope s_Book___init__) (by decide +kernel)) (fun _ _ _ _ _ => (pg_tup rfl (pgs_cons (pg_name (i := 2) sc_Book___init__.nd rfl (.inl rfl)) (pgs_cons (pg_name (i := 3) sc_Book___init__.nd rfl (.inl rfl)) (pgs_cons (pg_name (i := 4) sc_Book___init__.nd rfl (.inl rfl)) pgs_nil))))) (fun _ _ _ _ _ => pts_nil) (fun _ _ _ _ _ => (pv 2)) (fun _ _ _ _ _ => (pv 3))) rfl)
  (pss_one (ps_fld (pv 0) (pe_dc (own := [("name", 2), ("spreading", 3), ("rows", 4)]) (g := (gTup K 3 (gCons (gName 2) (gCons (gName 3) (gCons (gName 4) gNil))))) (tt := tYes) (tk := (tVar 2)) (tv := (tCB (fun xs H Q => ∃ p ys, xs = [.ref p] /\ ((SqL K H p ys /\ ∀ l, H l = none -> Q (.ref l) (upd H l (.tup ys))) \/ (SqT K H p ys /\ Q (.ref p) H))) (tCons (tVar 4) tNil))) rfl sc_Book___init__.nd (pi_list (pv 1)) (blkOk_by (N := N_Book___init__) (sc := defScope s_Book___init__) (by decide +kernel)) (fun _ _ _ _ _ => (pg_tup rfl (pgs_cons (pg_name (i := 2) sc_Book___init__.nd rfl (.inl rfl)) (pgs_cons (pg_name (i := 3) sc_Book___init__.nd rfl (.inl rfl)) (pgs_cons (pg_name (i := 4) sc_Book___init__.nd rfl (.inl rfl)) pgs_nil))))) (fun _ _ _ _ _ => pts_nil) (fun _ _ _ _ _ => (pv 2)) (fun _ _ _ _ _ => (pe_callTy call_tuple_of rfl B.tuple boot_tuple (pa_cons (pv 4) pa_nil)))) rfl))), ?_⟩
 refine ⟨_, rfl, l, xs, ts, rfl, SqL.of hs, ha, hf, hl, fun b H1 s1 hb => ?_⟩
 refine ⟨_, rfl, ?_⟩
 cases b with
 | false => exact iteT (qE (fun z => nomatch (hb.mpr z)) H1 s1)
 | true =>
 refine iteF ?_
 obtain ⟨bk, et, ok⟩ := hb.mp rfl
 subst et
 have q2 := q bk rfl ok
 have ha1 := (ha.sb s1).kd
 have hs1 := s1.keep _ _ hs nmn
 have hx1 := s1.keep _ _ hx nmn
 have xlen := ha1.length
 have szl := sizeLine_eq
 have b8 := ok.len
 have hlx : l ≠ x := ne_of hs hx (fun z => nomatch z)
 refine ⟨_, rfl, l, rfl, ⟨_, SqL.of hs1⟩, fun D hD => ?_⟩
 refine dc_seq (walk_list (xs := xs)) hD (by omega) (fun i kvs _ => kvs = Bk.spKV (bk.take i)) rfl (fun H2 s2 => s2.sqL nmn (SqL.of hs1)) (fun _ _ _ _ _ h => h) (fun Pv i y H2 H' kvs hi s2 yy hR hl2 fin _ => ?_) (fun kvs H2 s2 hD2 hR _ => ?_)
 ·obtain ⟨rfl, ey⟩ := yy
  obtain ⟨k, ek, t, r, zs, rfl, h1, h2, h3, _⟩ := ha1.get ey
  refine ⟨t, _, rfl, s2.sqT h1, rfl, _, _, rfl, _, _, rfl, _, _, rfl, rfl, rfl, ?_⟩
  refine ⟨_, rfl, _, rfl, fin (Sum.inr k.n) _ _ SB.refl ?_⟩
  rw [hR, putK_new, List.take_add_one, ek, Option.toList_some, Bk.spKV, Bk.spKV, List.map_append]
  ·rfl
  ·intro p hp e
   obtain ⟨j, hj, rfl⟩ := List.mem_map.mp hp
   injection e with e
   exact Bk.nodup_at ok.nd ek j hj e
 ·rw [xlen, List.take_length] at hR
  subst hR
  have hx2 := s2.keep _ _ hx1 nmn
  have hl2 := s2.keep _ _ hs1 nmn
  have ha2 := ha1.sb s2 NoLst.nil
  refine ⟨_, rfl, x, _, dx, _, rfl, hx2, T_Book.c, T_Book.no _ (by simp), by decide, ?_⟩
  have e1 : putF (Str.ofString "spread_by_name") (V.ref D) [] = [(Str.ofString "spread_by_name", V.ref D)] := rfl
  rw [e1]
  have t3 : SB [x] H2 (upd H2 x (.ins C_Book dx [(Str.ofString "spread_by_name", V.ref D)])) := SB.setG hx2 (by simp) (fun _ z => nomatch z) (fun _ _ z => nomatch z) _
  have nl3 : NoLst H2 [] [x] := fun p hp => .inr fun xs z => by rw [List.mem_singleton.mp hp, hx2] at z; cases z
  have ha3 := ha2.sb t3 nl3
  have hl3 := t3.keep _ _ hl2 (by simpa using hlx)
  have hx3 : upd H2 x (.ins C_Book dx [(Str.ofString "spread_by_name", V.ref D)]) x = some (.ins C_Book dx [(Str.ofString "spread_by_name", V.ref D)]) := upd_same
  have hD3 := t3.keep _ _ hD2 (by simpa using ne_of hD2 hx2 (fun z => nomatch z))
  have s03 := ((s1.trans s2).nil (ps := [x])).trans t3
  generalize upd H2 x (.ins C_Book dx [(Str.ofString "spread_by_name", V.ref D)]) = H3 at t3 ha3 hl3 hx3 hD3 s03
  refine ⟨_, rfl, l, rfl, ⟨_, SqL.of hl3⟩, fun D2 hn2 => ?_⟩
  refine dc_seq (walk_list (xs := xs)) hn2 (by omega) (fun i kvs H4 => ∃ us, kvs = Bk.rowKV (bk.take i) us /\ Bears K H4 Kd.rowE us (bk.take i)) ⟨[], rfl, .nil⟩ (fun H4 s4 => s4.sqL nmn (SqL.of hl3)) (fun i us H4 H5 s5 ⟨us', e, hb⟩ => ⟨us', e, hb.sb s5 Kd.noList_rowE⟩) (fun Pv i y H4 H' kvs hi s4 yy hR hl4 fin _ => ?_) (fun kvs H4 s4 hD4 hR _ => ?_)
  ·obtain ⟨rfl, ey⟩ := yy
   obtain ⟨us, rfl, hb⟩ := hR
   obtain ⟨k, ek, t, r, zs, rfl, h1, h2, h3, _⟩ := ha3.get ey
   refine ⟨t, _, rfl, s4.sqT h1, rfl, _, _, rfl, _, _, rfl, _, _, rfl, rfl, rfl, ?_⟩
   refine ⟨_, rfl, _, rfl, r, zs, rfl, .inl ⟨SqL.of (s4.keep _ _ h2 nmn), fun p hp => ?_⟩⟩
   have t5 := SB.new (ps := []) hp (.tup zs)
   refine fin (Sum.inr k.n) _ _ t5 ⟨us ++ [.ref p], ?_, ?_⟩
   ·rw [putK_new, List.take_add_one, ek, Option.toList_some, Bk.rowKV, Bk.rowKV, List.zipWith_append hb.length.symm]
    ·rfl
    ·intro p hp e
     obtain ⟨j, hj, e2⟩ := rowKV_mem hp
     rw [e2] at e
     injection e with e
     exact Bk.nodup_at ok.nd ek j hj e
   ·rw [List.take_add_one, ek, Option.toList_some]
    exact Bears.append (hb.sb t5 Kd.noList_rowE) (.cons (.tup (.inl (.inl upd_same)) (Bears.dp ((h3.sb s4 Ru.noList_enc).sb t5 Ru.noList_enc))) .nil)
  ·rw [xlen, List.take_length] at hR
   obtain ⟨us, rfl, hb⟩ := hR
   have hx4 := s4.keep _ _ hx3 nmn
   refine ⟨_, rfl, x, _, dx, _, rfl, hx4, T_Book.c, T_Book.no _ (by simp), by simp, ?_⟩
   have t5 : SB [x] H4 (upd H4 x (.ins C_Book dx (bkF D D2))) := SB.setG hx4 (by simp) (fun _ z => nomatch z) (fun _ _ z => nomatch z) _
   refine q2 _ ((s03.trans s4.nil).trans t5) ⟨x, dx, D, D2, us, rfl, upd_same, ?_, ?_, hb.sb t5 Kd.noList_rowE⟩
   ·exact t5.keep _ _ (s4.keep _ _ hD3 nmn) (by simpa using ne_of (s4.keep _ _ hD3 nmn) hx4 (fun z => nomatch z))
   ·exact t5.keep _ _ hD4 (by simpa using ne_of hD4 hx4 (fun z => nomatch z))
abbrev N_Book_names : List Str := ["self"]
theorem sc_Book_names : FnScope N_Book_names ["self"] (defScope s_Book_names) := ⟨rfl, rfl, rfl, by decide +kernel, rfl, by decide +kernel, by decide +kernel⟩
theorem ok_Book_names {C_Book : Addr} (B : BI mg) (T_Book : ClsF K C_Book ["spread_by_name", "rows_by_name"]) (F : Fun K "names" "Book.names" s_Book_names f fd) : FnOk P w K mg base CX0 (1) f fd ["self"] (spBNames K C_Book) := by
 refine F.ok sc_Book_names (fun vs H Q E h => ?_) (fun cdv A outer s H vs Q E hr h => ?_)
 ·obtain ⟨v, b, rfl, _⟩ := h
  rfl
 obtain ⟨v, b, rfl, hb, hl, q⟩ := h
 have hun2 := hunT hr
 refine ⟨_, pss_one (ps_ret (pe_callTy (call_listD rfl) rfl B.list boot_list (pa_cons (pe_fld (pv 0) rfl) pa_nil))), ?_⟩
 obtain ⟨a, dx, d1, d2, us, rfl, h1, h2, h3, h4⟩ := hb
 refine ⟨_, rfl, a, _, dx, _, _, rfl, h1, T_Book.c, T_Book.no _ (by simp), rfl, d1, _, rfl, .inl h2, fun p hp => ?_⟩
 exact q p _ (SB.new hp _) hp (by rw [upd_same, Bk.spKV, List.map_map, List.map_map]; rfl)
abbrev N_Book_spreads : List Str := ["self", "name"]
theorem sc_Book_spreads : FnScope N_Book_spreads ["self", "name"] (defScope s_Book_spreads) := ⟨rfl, rfl, rfl, by decide +kernel, rfl, by decide +kernel, by decide +kernel⟩
theorem ok_Book_spreads {C_Book C_NoKind : Addr} (B : BI mg) (T_Book : ClsF K C_Book ["spread_by_name", "rows_by_name"]) (G_check_kind : GotXN P w K mg base "check_kind" ["book", "name"] (3) (spCheckK K C_Book C_NoKind)) (F : Fun K "spreads" "Book.spreads" s_Book_spreads f fd) : FnOk P w K mg base (L2N.CX P w) (4) f fd ["self", "name"] (spBSpreads K C_Book C_NoKind) := by
 refine F.okXN sc_Book_spreads (fun vs H Q E h => ?_) (fun cdv A outer s H vs Q E hr h => ?_)
 ·obtain ⟨v, b, n, rfl, _⟩ := h
  rfl
 obtain ⟨v, b, n, rfl, hb, hl, qk, qE⟩ := h
 have hun2 := hunT hr
 refine ⟨_, pss_cons (ps_expr (pe_gotSN G_check_kind (hr.mono (by omega)) rfl (L2N.takes_of rfl rfl rfl rfl) (pa_cons (pv 0) (pa_cons (pv 1) pa_nil))))
  (pss_one (ps_ret (pe_dget (by show A.units + 3 + 1 < cLine; omega) (pe_fld (pv 0) rfl) (pv 1) (fun _ _ => rfl)))), ?_⟩
 refine ⟨_, rfl, _, rfl, _, b, n, rfl, hb, hl, fun k e H1 s1 => ?_, qE⟩
 obtain ⟨a, dx, d1, d2, us, rfl, h1, h2, h3, h4⟩ := hb.sb0 s1
 refine ⟨_, rfl, a, _, dx, _, _, rfl, h1, T_Book.c, T_Book.no _ (by simp), rfl, _, rfl, d1, V.bl k.w, rfl, getK h2 (by rw [Bk.spKV_val, e]; rfl), qk k e H1 s1⟩
abbrev N_Book_rules : List Str := ["self", "name"]
theorem sc_Book_rules : FnScope N_Book_rules ["self", "name"] (defScope s_Book_rules) := ⟨rfl, rfl, rfl, by decide +kernel, rfl, by decide +kernel, by decide +kernel⟩
theorem ok_Book_rules {C_Book C_NoKind : Addr} (B : BI mg) (T_Book : ClsF K C_Book ["spread_by_name", "rows_by_name"]) (G_check_kind : GotXN P w K mg base "check_kind" ["book", "name"] (3) (spCheckK K C_Book C_NoKind)) (F : Fun K "rules" "Book.rules" s_Book_rules f fd) : FnOk P w K mg base (L2N.CX P w) (4) f fd ["self", "name"] (spBRules K C_Book C_NoKind) := by
 refine F.okXN sc_Book_rules (fun vs H Q E h => ?_) (fun cdv A outer s H vs Q E hr h => ?_)
 ·obtain ⟨v, b, n, rfl, _⟩ := h
  rfl
 obtain ⟨v, b, n, rfl, hb, hl, hr4, qk, qE⟩ := h
 have hun2 := hunT hr
 refine ⟨_, pss_cons (ps_expr (pe_gotSN G_check_kind (hr.mono (by omega)) rfl (L2N.takes_of rfl rfl rfl rfl) (pa_cons (pv 0) (pa_cons (pv 1) pa_nil))))
  (pss_one (ps_ret (pe_callTy call_list_of rfl B.list boot_list (pa_cons (pe_dget (by show A.units + 3 + 1 < cLine; omega) (pe_fld (pv 0) rfl) (pv 1) (fun _ _ => rfl)) pa_nil)))), ?_⟩
 refine ⟨_, rfl, _, rfl, _, b, n, rfl, hb, hl, fun k e H1 s1 => ?_, qE⟩
 obtain ⟨a, dx, d1, d2, us, rfl, h1, h2, h3, h4⟩ := hb.sb0 s1
 obtain ⟨u, hv, hu⟩ := Bk.rowKV_val n h4 e
 refine ⟨_, rfl, a, _, dx, _, _, rfl, h1, T_Book.c, T_Book.no _ (by simp), rfl, _, rfl, d2, u, rfl, getK h3 hv, ?_⟩
 cases hu with
 | tup ht hd => exact ⟨_, _, rfl, .inr ht, fun l hl => qk k e l _ _ (s1.trans (SB.new hl _)) (s1.dom l hl) upd_same ((Bears.of hd).sb (SB.new (ps := []) hl _) Ru.noList_enc)⟩
abbrev N__law_nought : List Str := ["_law_found"]
theorem sc__law_nought : FnScope N__law_nought ["_law_found"] (defScope s__law_nought) := ⟨rfl, rfl, rfl, by decide +kernel, rfl, by decide +kernel, by decide +kernel⟩
theorem ok__law_nought (B : BI mg) (F : Fun K "_law_nought" "_law_nought" s__law_nought f fd) : FnOk P w K mg base CX0 (1) f fd ["_law_found"] (spNought67) := by
 refine F.ok sc__law_nought (fun vs H Q E h => ?_) (fun cdv A outer s H vs Q E hr h => ?_)
 ·obtain ⟨i, rfl, _⟩ := h
  rfl
 obtain ⟨i, rfl, q⟩ := h
 have hun2 := hunT hr
 refine ⟨_, pss_one (ps_ret (pe_and (pe_isi B (pv 0) B.int boot_int) (pe_and (pe_not (pe_isi B (pv 0) B.bool boot_bool)) (pe_one (pe_cmpR op_eq (pv 0) pe_int (nomark _)))))), ?_⟩
 refine ⟨_, rfl, _, _, "int", true, rfl, .base (.int _), by decide +kernel, _, rfl, iteT ?_⟩
 refine ⟨_, rfl, _, _, "int", false, rfl, .base (.int _), by decide +kernel, _, rfl, _, rfl, iteT ?_⟩
 refine ⟨_, rfl, rfl, ?_⟩
 show Q (V.bl (decide (V.int i = V.int 0))) H
 rw [show decide (V.int i = V.int 0) = decide (i = 0) from decide_eq_decide.mpr ⟨fun z => by cases z; rfl, fun z => by rw [z]⟩]
 exact q
abbrev N__law_chain : List Str := ["_law_name", "_law_made", "_law_k"]
theorem sc__law_chain : FnScope N__law_chain ["_law_name"] (defScope s__law_chain) := ⟨rfl, rfl, rfl, by decide +kernel, rfl, by decide +kernel, by decide +kernel⟩
theorem ok__law_chain (B : BI mg) (F : Fun K "_law_chain" "_law_chain" s__law_chain f fd) : FnOk P w K mg base CX0 (1) f fd ["_law_name"] (spChain67 K) := by
 refine F.ok sc__law_chain (fun vs H Q E h => ?_) (fun cdv A outer s H vs Q E hr h => ?_)
 ·obtain ⟨n, rfl, _⟩ := h
  rfl
 obtain ⟨n, rfl, q⟩ := h
 have hun2 := hunT hr
 refine ⟨_, pss_cons (ps_set (i := 1) sc__law_chain.nd rfl (.inl rfl) (pe_tup (pa_cons (pe_tup (pa_cons (pe_tup (pa_cons (pv 0) (pa_cons (pe_tup pa_nil) pa_nil))) (pa_cons pe_int pa_nil))) pa_nil)))
  (pss_cons (ps_for PassesOwn.never rfl (pi_range1 rfl B.range (pa_cons pe_int pa_nil)) (pg_name (i := 2) sc__law_chain.nd rfl (.inl rfl))
   (pss_one (ps_set (i := 1) sc__law_chain.nd rfl (.inl rfl) (pe_tup (pa_cons (pe_tup (pa_cons (pe_tup (pa_cons pe_str (pa_cons (pv 1) pa_nil))) (pa_cons pe_int pa_nil))) pa_nil)))))
  (pss_one (ps_ret (pv 1)))), ?_⟩
 have szl := sizeLine_eq
 refine ⟨_, rfl, by show 0 <= sizeLine; decide, fun a0 n0 => ?_⟩
 have e0 := SB.new (ps := []) n0 (.tup [])
 have A0 := SqT.of (K := K) (upd_same : upd H a0 (.tup []) a0 = some (.tup []))
 generalize upd H a0 (.tup []) = H0 at e0 A0 ⊢
 refine ⟨by show 2 <= sizeLine; decide, fun a1 n1 => ?_⟩
 have e1 := SB.new (ps := []) n1 (.tup [.str n, .ref a0])
 have A1 := SqT.of (K := K) (upd_same : upd H0 a1 (.tup [.str n, .ref a0]) a1 = some (.tup [.str n, .ref a0]))
 generalize upd H0 a1 (.tup [.str n, .ref a0]) = H1 at e1 A1 ⊢
 refine ⟨by show 2 <= sizeLine; decide, fun a2 n2 => ?_⟩
 have e2 := SB.new (ps := []) n2 (.tup [.ref a1, .int 1])
 have A2 := SqT.of (K := K) (upd_same : upd H1 a2 (.tup [.ref a1, .int 1]) a2 = some (.tup [.ref a1, .int 1]))
 generalize upd H1 a2 (.tup [.ref a1, .int 1]) = H2 at e2 A2 ⊢
 refine ⟨by show 1 <= sizeLine; decide, fun a3 n3 => ?_⟩
 have e3 := SB.new (ps := []) n3 (.tup [.ref a2])
 have A3 := SqT.of (K := K) (upd_same : upd H2 a3 (.tup [.ref a2]) a3 = some (.tup [.ref a2]))
 generalize upd H2 a3 (.tup [.ref a2]) = H3 at e3 A3 ⊢
 have s3 := ((e0.trans e1).trans e2).trans e3
 have g3 := one_ga ((e2.trans e3).sqT A1) (e3.sqT A2) A3 ((GA_nil A0).sb ((e1.trans e2).trans e3))
 refine ⟨_, rfl, by decide, by decide, ?_⟩
 refine for_it (walk_range (lo := 0) (n := 8)) (fun i σ G => SB [] H G /\ ∃ v o2, σ = [some (.str n), some v, o2] /\ GA K G v (chn67 n i)) ⟨s3, _, _, rfl, g3⟩ (fun _ _ _ _ _ => trivial) (fun i x σ G H' hi h y => ?_) (fun σ G h => ?_)
 ·obtain ⟨s3, v, o2, rfl, g3⟩ := h
  obtain ⟨rfl, rfl⟩ := y
  refine ⟨_, rfl, by show 2 <= sizeLine; decide, fun a1 n1 => ?_⟩
  have e1 := SB.new (ps := []) n1 (.tup [.str "y", v])
  have A1 := SqT.of (K := K) (upd_same : upd H' a1 (.tup [.str "y", v]) a1 = some (.tup [.str "y", v]))
  generalize upd H' a1 (.tup [.str "y", v]) = H1 at e1 A1 ⊢
  refine ⟨by show 2 <= sizeLine; decide, fun a2 n2 => ?_⟩
  have e2 := SB.new (ps := []) n2 (.tup [.ref a1, .int 1])
  have A2 := SqT.of (K := K) (upd_same : upd H1 a2 (.tup [.ref a1, .int 1]) a2 = some (.tup [.ref a1, .int 1]))
  generalize upd H1 a2 (.tup [.ref a1, .int 1]) = H2 at e2 A2 ⊢
  refine ⟨by show 1 <= sizeLine; decide, fun a3 n3 => ?_⟩
  have e3 := SB.new (ps := []) n3 (.tup [.ref a2])
  have A3 := SqT.of (K := K) (upd_same : upd H2 a3 (.tup [.ref a2]) a3 = some (.tup [.ref a2]))
  generalize upd H2 a3 (.tup [.ref a2]) = H3 at e3 A3 ⊢
  exact ⟨((s3.trans e1).trans e2).trans e3, _, _, rfl, one_ga ((e2.trans e3).sqT A1) (e3.sqT A2) A3 (g3.sb ((e1.trans e2).trans e3))⟩
 ·obtain ⟨s, v, o2, rfl, g⟩ := h
  exact ⟨_, rfl, q _ _ s g⟩
abbrev N__law_seen : List Str := ["_law_ask", "_law_book", "_law_grove", "_law_bound", "_law_word", "_law_kind", "_law_many", "error", "_law_found"]
theorem sc__law_seen : FnScope N__law_seen ["_law_ask", "_law_book", "_law_grove", "_law_bound"] (defScope s__law_seen) := ⟨rfl, rfl, rfl, by decide +kernel, rfl, by decide +kernel, by decide +kernel⟩
theorem ok__law_seen {C_Book : Addr} {c : Str -> Addr} (B : BI mg) (T : ErrsM K mg c eC eN eK) (G_most_falls : GotXN P w K mg base "most_falls" ["book", "grove", "bound"] (75) (spMost67 K C_Book (c "NoKind") (c "Endless") (c "TooLong"))) (G_long_fall : GotXN P w K mg base "long_fall" ["book", "grove", "bound"] (77) (spLong67 K C_Book (c "NoKind") (c "Endless") (c "NoPlace") (c "TooLong"))) (G_fewest_falls : GotXN P w K mg base "fewest_falls" ["book", "grove", "bound"] (75) (spFew67 K C_Book (c "NoKind") (c "TooLong"))) (G_short_fall : GotXN P w K mg base "short_fall" ["book", "grove", "bound"] (77) (spShort67 K C_Book (c "NoKind") (c "NoPlace") (c "TooLong"))) (F : Fun K "_law_seen" "_law_seen" s__law_seen f fd) : FnOk P w K mg base CX0 (80) f fd ["_law_ask", "_law_book", "_law_grove", "_law_bound"] (spSeen67 K C_Book) := by
 refine F.ok sc__law_seen (fun vs H Q E h => ?_) (fun cdv A outer s H vs Q E hr h => ?_)
 ·obtain ⟨ask, v, w, b, g, D, o, rfl, _⟩ := h
  rfl
 obtain ⟨ask, v, w, b, g, D, o, rfl, ha, hI, hd, q⟩ := h
 have hun2 := hunT hr
 refine ⟨_, pss_cons (ps_set (i := 4) sc__law_seen.nd rfl (.inl rfl) pe_str)
  (pss_cons (ps_set (i := 5) sc__law_seen.nd rfl (.inl rfl) pe_str)
  (pss_cons (ps_set (i := 6) sc__law_seen.nd rfl (.inl rfl) pe_int)
  (pss_cons (L2N.ps_try_as (i := 7) (tb := fun W => (tIfS (tTest (tOp rEq (tVar 0) (tC (.int 0)))) (tDrop (tCallS (spMost67 K C_Book (c "NoKind") (c "Endless") (c "TooLong")) (WE W) (tCons (tVar 1) (tCons (tVar 2) (tCons (tVar 3) tNil))))) (tIfS (tTest (tOp rEq (tVar 0) (tC (.int 1)))) (tDrop (tCallS (spLong67 K C_Book (c "NoKind") (c "Endless") (c "NoPlace") (c "TooLong")) (WE W) (tCons (tVar 1) (tCons (tVar 2) (tCons (tVar 3) tNil))))) (tIfS (tTest (tOp rEq (tVar 0) (tC (.int 2)))) (tDrop (tCallS (spFew67 K C_Book (c "NoKind") (c "TooLong")) (WE W) (tCons (tVar 1) (tCons (tVar 2) (tCons (tVar 3) tNil))))) (tDrop (tCallS (spShort67 K C_Book (c "NoKind") (c "NoPlace") (c "TooLong")) (WE W) (tCons (tVar 1) (tCons (tVar 2) (tCons (tVar 3) tNil))))))))) (ts := fun a cls d => (tSeq (tAsg (tC (.str "other")) (gName 4)) (tSeq (tFor (iList K (tLst (tCons (tCB (rIsEg K a cls d) (tCons (tVar 7) (tCons (tC (.ref (c "NoKind"))) tNil))) (tCons (tCB (rIsEg K a cls d) (tCons (tVar 7) (tCons (tC (.ref (c "Endless"))) tNil))) (tCons (tCB (rIsEg K a cls d) (tCons (tVar 7) (tCons (tC (.ref (c "NoPlace"))) tNil))) (tCons (tCB (rIsEg K a cls d) (tCons (tVar 7) (tCons (tC (.ref (c "TooLong"))) tNil))) tNil)))))) (gName 8) (tAsg (tOp (rI0 fun i j => .int (i + j)) (tVar 6) (tCB (_) (tCons (tVar 8) tNil))) (gName 6))) (tIfS (tB (tCB (rIsEgT K a cls d) (tCons (tVar 7) (tCons (tTup (tCons (tC (.ref (c "NoKind"))) (tCons (tC (.ref (c "Endless"))) tNil))) tNil)))) (tSeq (tAsg (tXfg K a cls d "kind" (tVar 7)) (gName 5)) (tAsg (tOp (rIxL K) (tLst (tCons (tC (.str "endless")) (tCons (tC (.str "kind")) tNil))) (tCB (_) (tCons (tCB (rIsEg K a cls d) (tCons (tVar 7) (tCons (tC (.ref (c "NoKind"))) tNil))) tNil))) (gName 4))) (tIfS (tB (tCB (rIsEgT K a cls d) (tCons (tVar 7) (tCons (tTup (tCons (tC (.ref (c "NoPlace"))) (tCons (tC (.ref (c "TooLong"))) tNil))) tNil)))) (tAsg (tOp (rIxL K) (tLst (tCons (tC (.str "long")) (tCons (tC (.str "place")) tNil))) (tCB (_) (tCons (tCB (rIsEg K a cls d) (tCons (tVar 7) (tCons (tC (.ref (c "NoPlace"))) tNil))) tNil))) (gName 4)) tNext))))) (Wout := fun _ _ _ _ => False) rfl rfl sc__law_seen.nd rfl rfl ⟨rfl, by decide, Or.inl T.FellError⟩ takes0N
   (fun W pn xe tk _ => by exact (pss_one (ps_if (pt_cmpR op_eq (pv 0) pe_int (nomark _)) (pss_one (ps_expr (pe_gotSN G_most_falls (hr.mono (by omega)) rfl tk (pa_cons (pv 1) (pa_cons (pv 2) (pa_cons (pv 3) pa_nil)))))) (pss_one (ps_if (pt_cmpR op_eq (pv 0) pe_int (nomark _)) (pss_one (ps_expr (pe_gotSN G_long_fall (hr.mono (by omega)) rfl tk (pa_cons (pv 1) (pa_cons (pv 2) (pa_cons (pv 3) pa_nil)))))) (pss_one (ps_if (pt_cmpR op_eq (pv 0) pe_int (nomark _)) (pss_one (ps_expr (pe_gotSN G_fewest_falls (hr.mono (by omega)) rfl tk (pa_cons (pv 1) (pa_cons (pv 2) (pa_cons (pv 3) pa_nil)))))) (pss_one (ps_expr (pe_gotSN G_short_fall (hr.mono (by omega)) rfl tk (pa_cons (pv 1) (pa_cons (pv 2) (pa_cons (pv 3) pa_nil)))))))))))))
   (fun a oe cls d pn hzN hf => by
    have hz := hzN.zc
    exact (pss_cons (ps_set (i := 4) sc__law_seen.nd rfl (.inl rfl) pe_str)
  (pss_cons (L2H.ps_forH PassesOwn.never (hotS hzN hf) (pi_listH (pe_lst (pa_cons (pe_callB (call_isEg (.head _) hz hf) rfl B.isinstance boot_isinstance (pa_cons (pv 7) (pa_cons (pe_glob (v := .ref (c "NoKind")) rfl (T.glo "NoKind" (.tail _ (.tail _ (.head _)))) rfl) pa_nil))) (pa_cons (pe_callB (call_isEg (.head _) hz hf) rfl B.isinstance boot_isinstance (pa_cons (pv 7) (pa_cons (pe_glob (v := .ref (c "Endless")) rfl (T.glo "Endless" (.tail _ (.tail _ (.tail _ (.head _))))) rfl) pa_nil))) (pa_cons (pe_callB (call_isEg (.head _) hz hf) rfl B.isinstance boot_isinstance (pa_cons (pv 7) (pa_cons (pe_glob (v := .ref (c "NoPlace")) rfl (T.glo "NoPlace" (.head _)) rfl) pa_nil))) (pa_cons (pe_callB (call_isEg (.head _) hz hf) rfl B.isinstance boot_isinstance (pa_cons (pv 7) (pa_cons (pe_glob (v := .ref (c "TooLong")) rfl (T.glo "TooLong" (.tail _ (.tail _ (.tail _ (.tail _ (.head _)))))) rfl) pa_nil))) pa_nil)))))) (pg_name (i := 8) sc__law_seen.nd rfl (.inl rfl))
   (pss_one (ps_set (i := 6) sc__law_seen.nd rfl (.inl rfl) (pe_op op_add (pv 6) (pe_callTy call_int1 rfl B.int boot_int (pa_cons (pv 8) pa_nil))))))
  (pss_one (ps_if (pt_val (pe_callB (call_isEgT (.head _) hz hf) rfl B.isinstance boot_isinstance (pa_cons (pv 7) (pa_cons (pe_tup (pa_cons (pe_glob (v := .ref (c "NoKind")) rfl (T.glo "NoKind" (.tail _ (.tail _ (.head _)))) rfl) (pa_cons (pe_glob (v := .ref (c "Endless")) rfl (T.glo "Endless" (.tail _ (.tail _ (.tail _ (.head _))))) rfl) pa_nil))) pa_nil)))) (pss_cons (ps_set (i := 5) sc__law_seen.nd rfl (.inl rfl) (pe_xfg (.head _) hz hf (pv 7)))
  (pss_one (ps_set (i := 4) sc__law_seen.nd rfl (.inl rfl) (pe_ix ix_list (pe_lst (pa_cons pe_str (pa_cons pe_str pa_nil))) (pe_callTy call_int1 rfl B.int boot_int (pa_cons (pe_callB (call_isEg (.head _) hz hf) rfl B.isinstance boot_isinstance (pa_cons (pv 7) (pa_cons (pe_glob (v := .ref (c "NoKind")) rfl (T.glo "NoKind" (.tail _ (.tail _ (.head _)))) rfl) pa_nil))) pa_nil)) (fun _ _ => rfl))))) (pss_one (ps_if (pt_val (pe_callB (call_isEgT (.head _) hz hf) rfl B.isinstance boot_isinstance (pa_cons (pv 7) (pa_cons (pe_tup (pa_cons (pe_glob (v := .ref (c "NoPlace")) rfl (T.glo "NoPlace" (.head _)) rfl) (pa_cons (pe_glob (v := .ref (c "TooLong")) rfl (T.glo "TooLong" (.tail _ (.tail _ (.tail _ (.tail _ (.head _)))))) rfl) pa_nil))) pa_nil)))) (pss_one (ps_set (i := 4) sc__law_seen.nd rfl (.inl rfl) (pe_ix ix_list (pe_lst (pa_cons pe_str (pa_cons pe_str pa_nil))) (pe_callTy call_int1 rfl B.int boot_int (pa_cons (pe_callB (call_isEg (.head _) hz hf) rfl B.isinstance boot_isinstance (pa_cons (pv 7) (pa_cons (pe_glob (v := .ref (c "NoPlace")) rfl (T.glo "NoPlace" (.head _)) rfl) pa_nil))) pa_nil)) (fun _ _ => rfl)))) pss_nil))))))))
  (pss_one (ps_ret (pe_tup (pa_cons (pv 4) (pa_cons (pv 5) (pa_cons (pv 6) pa_nil))))))))), ?_⟩
 have szl := sizeLine_eq
 obtain rfl | rfl | rfl | rfl := ha
 ·refine ⟨_, rfl, rfl, _, rfl, ?_⟩
  rw [decide_eq_true rfl]
  refine iteT ?_
  refine ⟨_, rfl, _, rfl, _, rfl, v, w, b, g, D, o, rfl, hI, hd, ?_⟩
  obtain ⟨B0, go, _⟩ := hI.go
  cases hd with
  | @k n lo =>
   intro d H1 s1 nd hd1
   refine ⟨true, T.exm _ (.head _), fun _ x hx => ?_, fun z => nomatch z⟩
   refine ⟨_, rfl, _, _, _, true, rfl, T.exc _ (.head _), .inr ⟨_, _, rfl, hd1⟩, rfl, fun u r => r, T.is (.head _) (by decide +kernel), ?_⟩
   refine ⟨_, rfl, _, _, _, false, rfl, T.exc _ (.head _), .inr ⟨_, _, rfl, hd1⟩, rfl, fun u r => r, T.isno (.head _) (by decide +kernel) (by decide +kernel), ?_⟩
   refine ⟨_, rfl, _, _, _, false, rfl, T.exc _ (.head _), .inr ⟨_, _, rfl, hd1⟩, rfl, fun u r => r, T.isno (.head _) (by decide +kernel) (by decide +kernel), ?_⟩
   refine ⟨_, rfl, _, _, _, false, rfl, T.exc _ (.head _), .inr ⟨_, _, rfl, hd1⟩, rfl, fun u r => r, T.isno (.head _) (by decide +kernel) (by decide +kernel), ?_⟩
   refine ⟨by show 4 <= sizeLine; decide, fun L nL => ?_⟩
   have eL := SB.new (ps := []) nL (.lst [.bl true, .bl false, .bl false, .bl false])
   have hL : upd H1 L (.lst [.bl true, .bl false, .bl false, .bl false]) L = some (.lst [.bl true, .bl false, .bl false, .bl false]) := upd_same
   have hd1 := eL.keep _ _ hd1 nmn
   have s1 := s1.trans eL
   generalize upd H1 L (.lst [.bl true, .bl false, .bl false, .bl false]) = H2 at eL hL hd1 s1
   refine ⟨L, rfl, ⟨_, SqL.of hL⟩, ?_⟩
   refine for_it (walk_list (xs := [.bl true, .bl false, .bl false, .bl false])) (fun i σ G => G = H2 /\ ∃ o8, σ = [some (.int 0), some v, some w, some (.int D), some (.str "other"), some (.str ""), some (.int (((([true, false, false, false] : List Bool).take i).filter id).length : Nat)), some (.ref x), o8]) ⟨rfl, none, rfl⟩ (fun i σ G hi h => by rw [h.1]; exact SqL.of hL) (fun i z σ Hq G hi h y => ?_) (fun σ G h => ?_)
   ·obtain ⟨rfl, o8, rfl⟩ := h
    obtain ⟨rfl, ey⟩ := y
    match i, ey with
    | 0, ey => cases ey; exact ⟨_, rfl, _, rfl, .inr ⟨_, rfl, _, _, rfl, rfl, rfl, _, rfl⟩⟩
    | 1, ey => cases ey; exact ⟨_, rfl, _, rfl, .inr ⟨_, rfl, _, _, rfl, rfl, rfl, _, rfl⟩⟩
    | 2, ey => cases ey; exact ⟨_, rfl, _, rfl, .inr ⟨_, rfl, _, _, rfl, rfl, rfl, _, rfl⟩⟩
    | 3, ey => cases ey; exact ⟨_, rfl, _, rfl, .inr ⟨_, rfl, _, _, rfl, rfl, rfl, _, rfl⟩⟩
   obtain ⟨rfl, o8, rfl⟩ := h
   refine ⟨_, rfl, by show 2 <= sizeLine; decide, fun t1 nt1 => ?_⟩
   have et1 := SB.new (ps := []) nt1 (.tup ((["NoKind", "Endless"] : List Str).map fun n => V.ref (c n)))
   have hd1 := et1.keep _ _ hd1 nmn
   have s1 := s1.trans et1
   refine ⟨_, t1, _, _, _, rfl, T.exc _ (.head _), .inr ⟨_, _, rfl, hd1⟩, rfl, upd_same, paired_refs ["NoKind", "Endless"], (T.any (.head _) (ms := ["NoKind", "Endless"]) (by decide +kernel)).trans (congrArg some (decide_eq_true (by simp))), ?_⟩
   refine ⟨_, rfl, iteT ?_⟩
   refine ⟨_, rfl, _, d, _, .str n, rfl, rfl, T.exc _ (.head _), T.nok _ (.head _), rfl, hd1, rfl, ?_⟩
   refine ⟨by show 2 <= sizeLine; decide, fun L3 nL3 => ?_⟩
   have e3 := SB.new (ps := []) nL3 (.lst [.str "endless", .str "kind"])
   have hd1 := e3.keep _ _ hd1 nmn
   have s1 := s1.trans e3
   refine ⟨_, rfl, _, _, _, true, rfl, T.exc _ (.head _), .inr ⟨_, _, rfl, hd1⟩, rfl, fun u r => r, T.is (.head _) (by decide +kernel), ?_⟩
   refine .inr ⟨_, rfl, L3, _, _, _, rfl, rfl, SqL.of upd_same, rfl, ?_⟩
   refine ⟨_, rfl, _, rfl, _, rfl, by show 3 <= sizeLine; decide, fun Z nZ => ?_⟩
   exact q Z _ _ _ _ (s1.trans (SB.new nZ _)) (SqT.of upd_same) .kind
  | @e n t gn lo =>
   intro d H1 s1 nd hd1
   refine ⟨true, T.exm _ (.tail _ (.head _)), fun _ x hx => ?_, fun z => nomatch z⟩
   refine ⟨_, rfl, _, _, _, false, rfl, T.exc _ (.tail _ (.head _)), .inr ⟨_, _, rfl, hd1⟩, rfl, fun u r => r, T.isno (.tail _ (.head _)) (by decide +kernel) (by decide +kernel), ?_⟩
   refine ⟨_, rfl, _, _, _, true, rfl, T.exc _ (.tail _ (.head _)), .inr ⟨_, _, rfl, hd1⟩, rfl, fun u r => r, T.is (.tail _ (.head _)) (by decide +kernel), ?_⟩
   refine ⟨_, rfl, _, _, _, false, rfl, T.exc _ (.tail _ (.head _)), .inr ⟨_, _, rfl, hd1⟩, rfl, fun u r => r, T.isno (.tail _ (.head _)) (by decide +kernel) (by decide +kernel), ?_⟩
   refine ⟨_, rfl, _, _, _, false, rfl, T.exc _ (.tail _ (.head _)), .inr ⟨_, _, rfl, hd1⟩, rfl, fun u r => r, T.isno (.tail _ (.head _)) (by decide +kernel) (by decide +kernel), ?_⟩
   refine ⟨by show 4 <= sizeLine; decide, fun L nL => ?_⟩
   have eL := SB.new (ps := []) nL (.lst [.bl false, .bl true, .bl false, .bl false])
   have hL : upd H1 L (.lst [.bl false, .bl true, .bl false, .bl false]) L = some (.lst [.bl false, .bl true, .bl false, .bl false]) := upd_same
   have hd1 := eL.keep _ _ hd1 nmn
   have s1 := s1.trans eL
   generalize upd H1 L (.lst [.bl false, .bl true, .bl false, .bl false]) = H2 at eL hL hd1 s1
   refine ⟨L, rfl, ⟨_, SqL.of hL⟩, ?_⟩
   refine for_it (walk_list (xs := [.bl false, .bl true, .bl false, .bl false])) (fun i σ G => G = H2 /\ ∃ o8, σ = [some (.int 0), some v, some w, some (.int D), some (.str "other"), some (.str ""), some (.int (((([false, true, false, false] : List Bool).take i).filter id).length : Nat)), some (.ref x), o8]) ⟨rfl, none, rfl⟩ (fun i σ G hi h => by rw [h.1]; exact SqL.of hL) (fun i z σ Hq G hi h y => ?_) (fun σ G h => ?_)
   ·obtain ⟨rfl, o8, rfl⟩ := h
    obtain ⟨rfl, ey⟩ := y
    match i, ey with
    | 0, ey => cases ey; exact ⟨_, rfl, _, rfl, .inr ⟨_, rfl, _, _, rfl, rfl, rfl, _, rfl⟩⟩
    | 1, ey => cases ey; exact ⟨_, rfl, _, rfl, .inr ⟨_, rfl, _, _, rfl, rfl, rfl, _, rfl⟩⟩
    | 2, ey => cases ey; exact ⟨_, rfl, _, rfl, .inr ⟨_, rfl, _, _, rfl, rfl, rfl, _, rfl⟩⟩
    | 3, ey => cases ey; exact ⟨_, rfl, _, rfl, .inr ⟨_, rfl, _, _, rfl, rfl, rfl, _, rfl⟩⟩
   obtain ⟨rfl, o8, rfl⟩ := h
   refine ⟨_, rfl, by show 2 <= sizeLine; decide, fun t1 nt1 => ?_⟩
   have et1 := SB.new (ps := []) nt1 (.tup ((["NoKind", "Endless"] : List Str).map fun n => V.ref (c n)))
   have hd1 := et1.keep _ _ hd1 nmn
   have s1 := s1.trans et1
   refine ⟨_, t1, _, _, _, rfl, T.exc _ (.tail _ (.head _)), .inr ⟨_, _, rfl, hd1⟩, rfl, upd_same, paired_refs ["NoKind", "Endless"], (T.any (.tail _ (.head _)) (ms := ["NoKind", "Endless"]) (by decide +kernel)).trans (congrArg some (decide_eq_true (by simp))), ?_⟩
   refine ⟨_, rfl, iteT ?_⟩
   refine ⟨_, rfl, _, d, _, .str n, rfl, rfl, T.exc _ (.tail _ (.head _)), T.nok _ (.tail _ (.head _)), rfl, hd1, rfl, ?_⟩
   refine ⟨by show 2 <= sizeLine; decide, fun L3 nL3 => ?_⟩
   have e3 := SB.new (ps := []) nL3 (.lst [.str "endless", .str "kind"])
   have hd1 := e3.keep _ _ hd1 nmn
   have s1 := s1.trans e3
   refine ⟨_, rfl, _, _, _, false, rfl, T.exc _ (.tail _ (.head _)), .inr ⟨_, _, rfl, hd1⟩, rfl, fun u r => r, T.isno (.tail _ (.head _)) (by decide +kernel) (by decide +kernel), ?_⟩
   refine .inr ⟨_, rfl, L3, _, _, _, rfl, rfl, SqL.of upd_same, rfl, ?_⟩
   refine ⟨_, rfl, _, rfl, _, rfl, by show 3 <= sizeLine; decide, fun Z nZ => ?_⟩
   exact q Z _ _ _ _ (s1.trans (SB.new nZ _)) (SqT.of upd_same) .endl
  | f gn he =>
   refine ⟨fun hlt H1 s1 => ⟨_, rfl, _, rfl, _, rfl, by show 3 <= sizeLine; decide, fun Z nZ => q Z _ _ _ _ (s1.trans (SB.new nZ _)) (SqT.of upd_same) (.told fun z => nomatch z)⟩, fun hge H1 s1 => ?_⟩
   have gne : g ≠ .nil := fun hz => by
    have this : Gr.cin b (cntOf b D) D g = 0 := (cin_zero go hI.dok.1).mpr hz
    rw [this] at hge
    exact absurd hge (by decide +kernel)
   refine ⟨true, T.exm _ (.tail _ (.tail _ (.tail _ (.head _)))), fun _ x hx => ?_, fun z => nomatch z⟩
   refine ⟨_, rfl, _, _, _, false, rfl, T.exc _ (.tail _ (.tail _ (.tail _ (.head _)))), .inl rfl, rfl, fun u r => r, T.isno (.tail _ (.tail _ (.tail _ (.head _)))) (by decide +kernel) (by decide +kernel), ?_⟩
   refine ⟨_, rfl, _, _, _, false, rfl, T.exc _ (.tail _ (.tail _ (.tail _ (.head _)))), .inl rfl, rfl, fun u r => r, T.isno (.tail _ (.tail _ (.tail _ (.head _)))) (by decide +kernel) (by decide +kernel), ?_⟩
   refine ⟨_, rfl, _, _, _, false, rfl, T.exc _ (.tail _ (.tail _ (.tail _ (.head _)))), .inl rfl, rfl, fun u r => r, T.isno (.tail _ (.tail _ (.tail _ (.head _)))) (by decide +kernel) (by decide +kernel), ?_⟩
   refine ⟨_, rfl, _, _, _, true, rfl, T.exc _ (.tail _ (.tail _ (.tail _ (.head _)))), .inl rfl, rfl, fun u r => r, T.is (.tail _ (.tail _ (.tail _ (.head _)))) (by decide +kernel), ?_⟩
   refine ⟨by show 4 <= sizeLine; decide, fun L nL => ?_⟩
   have eL := SB.new (ps := []) nL (.lst [.bl false, .bl false, .bl false, .bl true])
   have hL : upd H1 L (.lst [.bl false, .bl false, .bl false, .bl true]) L = some (.lst [.bl false, .bl false, .bl false, .bl true]) := upd_same
   have s1 := s1.trans eL
   generalize upd H1 L (.lst [.bl false, .bl false, .bl false, .bl true]) = H2 at eL hL s1
   refine ⟨L, rfl, ⟨_, SqL.of hL⟩, ?_⟩
   refine for_it (walk_list (xs := [.bl false, .bl false, .bl false, .bl true])) (fun i σ G => G = H2 /\ ∃ o8, σ = [some (.int 0), some v, some w, some (.int D), some (.str "other"), some (.str ""), some (.int (((([false, false, false, true] : List Bool).take i).filter id).length : Nat)), some (.ref x), o8]) ⟨rfl, none, rfl⟩ (fun i σ G hi h => by rw [h.1]; exact SqL.of hL) (fun i z σ Hq G hi h y => ?_) (fun σ G h => ?_)
   ·obtain ⟨rfl, o8, rfl⟩ := h
    obtain ⟨rfl, ey⟩ := y
    match i, ey with
    | 0, ey => cases ey; exact ⟨_, rfl, _, rfl, .inr ⟨_, rfl, _, _, rfl, rfl, rfl, _, rfl⟩⟩
    | 1, ey => cases ey; exact ⟨_, rfl, _, rfl, .inr ⟨_, rfl, _, _, rfl, rfl, rfl, _, rfl⟩⟩
    | 2, ey => cases ey; exact ⟨_, rfl, _, rfl, .inr ⟨_, rfl, _, _, rfl, rfl, rfl, _, rfl⟩⟩
    | 3, ey => cases ey; exact ⟨_, rfl, _, rfl, .inr ⟨_, rfl, _, _, rfl, rfl, rfl, _, rfl⟩⟩
   obtain ⟨rfl, o8, rfl⟩ := h
   refine ⟨_, rfl, by show 2 <= sizeLine; decide, fun t1 nt1 => ?_⟩
   have et1 := SB.new (ps := []) nt1 (.tup ((["NoKind", "Endless"] : List Str).map fun n => V.ref (c n)))
   have s1 := s1.trans et1
   refine ⟨_, t1, _, _, _, rfl, T.exc _ (.tail _ (.tail _ (.tail _ (.head _)))), .inl rfl, rfl, upd_same, paired_refs ["NoKind", "Endless"], T.no (.tail _ (.tail _ (.tail _ (.head _)))) (ms := ["NoKind", "Endless"]) (by decide +kernel) (by decide +kernel), ?_⟩
   refine ⟨_, rfl, iteF ?_⟩
   refine ⟨_, rfl, by show 2 <= sizeLine; decide, fun t2 nt2 => ?_⟩
   have et2 := SB.new (ps := []) nt2 (.tup ((["NoPlace", "TooLong"] : List Str).map fun n => V.ref (c n)))
   have s1 := s1.trans et2
   refine ⟨_, t2, _, _, _, rfl, T.exc _ (.tail _ (.tail _ (.tail _ (.head _)))), .inl rfl, rfl, upd_same, paired_refs ["NoPlace", "TooLong"], (T.any (.tail _ (.tail _ (.tail _ (.head _)))) (ms := ["NoPlace", "TooLong"]) (by decide +kernel)).trans (congrArg some (decide_eq_true (by simp))), ?_⟩
   refine ⟨_, rfl, iteT ?_⟩
   refine ⟨by show 2 <= sizeLine; decide, fun L3 nL3 => ?_⟩
   have e3 := SB.new (ps := []) nL3 (.lst [.str "long", .str "place"])
   have s1 := s1.trans e3
   refine ⟨_, rfl, _, _, _, false, rfl, T.exc _ (.tail _ (.tail _ (.tail _ (.head _)))), .inl rfl, rfl, fun u r => r, T.isno (.tail _ (.tail _ (.tail _ (.head _)))) (by decide +kernel) (by decide +kernel), ?_⟩
   refine .inr ⟨_, rfl, L3, _, _, _, rfl, rfl, SqL.of upd_same, rfl, ?_⟩
   refine ⟨_, rfl, _, rfl, _, rfl, by show 3 <= sizeLine; decide, fun Z nZ => ?_⟩
   exact q Z _ _ _ _ (s1.trans (SB.new nZ _)) (SqT.of upd_same) (.long gne)
 ·refine ⟨_, rfl, rfl, _, rfl, ?_⟩
  rw [decide_eq_false (by simp)]
  refine iteF ?_
  refine ⟨_, rfl, rfl, _, rfl, ?_⟩
  rw [decide_eq_true rfl]
  refine iteT ?_
  refine ⟨_, rfl, _, rfl, _, rfl, v, w, b, g, D, o, rfl, hI, hd, ?_⟩
  obtain ⟨B0, go, _⟩ := hI.go
  cases hd with
  | @k n lo =>
   intro d H1 s1 nd hd1
   refine ⟨true, T.exm _ (.head _), fun _ x hx => ?_, fun z => nomatch z⟩
   refine ⟨_, rfl, _, _, _, true, rfl, T.exc _ (.head _), .inr ⟨_, _, rfl, hd1⟩, rfl, fun u r => r, T.is (.head _) (by decide +kernel), ?_⟩
   refine ⟨_, rfl, _, _, _, false, rfl, T.exc _ (.head _), .inr ⟨_, _, rfl, hd1⟩, rfl, fun u r => r, T.isno (.head _) (by decide +kernel) (by decide +kernel), ?_⟩
   refine ⟨_, rfl, _, _, _, false, rfl, T.exc _ (.head _), .inr ⟨_, _, rfl, hd1⟩, rfl, fun u r => r, T.isno (.head _) (by decide +kernel) (by decide +kernel), ?_⟩
   refine ⟨_, rfl, _, _, _, false, rfl, T.exc _ (.head _), .inr ⟨_, _, rfl, hd1⟩, rfl, fun u r => r, T.isno (.head _) (by decide +kernel) (by decide +kernel), ?_⟩
   refine ⟨by show 4 <= sizeLine; decide, fun L nL => ?_⟩
   have eL := SB.new (ps := []) nL (.lst [.bl true, .bl false, .bl false, .bl false])
   have hL : upd H1 L (.lst [.bl true, .bl false, .bl false, .bl false]) L = some (.lst [.bl true, .bl false, .bl false, .bl false]) := upd_same
   have hd1 := eL.keep _ _ hd1 nmn
   have s1 := s1.trans eL
   generalize upd H1 L (.lst [.bl true, .bl false, .bl false, .bl false]) = H2 at eL hL hd1 s1
   refine ⟨L, rfl, ⟨_, SqL.of hL⟩, ?_⟩
   refine for_it (walk_list (xs := [.bl true, .bl false, .bl false, .bl false])) (fun i σ G => G = H2 /\ ∃ o8, σ = [some (.int 1), some v, some w, some (.int D), some (.str "other"), some (.str ""), some (.int (((([true, false, false, false] : List Bool).take i).filter id).length : Nat)), some (.ref x), o8]) ⟨rfl, none, rfl⟩ (fun i σ G hi h => by rw [h.1]; exact SqL.of hL) (fun i z σ Hq G hi h y => ?_) (fun σ G h => ?_)
   ·obtain ⟨rfl, o8, rfl⟩ := h
    obtain ⟨rfl, ey⟩ := y
    match i, ey with
    | 0, ey => cases ey; exact ⟨_, rfl, _, rfl, .inr ⟨_, rfl, _, _, rfl, rfl, rfl, _, rfl⟩⟩
    | 1, ey => cases ey; exact ⟨_, rfl, _, rfl, .inr ⟨_, rfl, _, _, rfl, rfl, rfl, _, rfl⟩⟩
    | 2, ey => cases ey; exact ⟨_, rfl, _, rfl, .inr ⟨_, rfl, _, _, rfl, rfl, rfl, _, rfl⟩⟩
    | 3, ey => cases ey; exact ⟨_, rfl, _, rfl, .inr ⟨_, rfl, _, _, rfl, rfl, rfl, _, rfl⟩⟩
   obtain ⟨rfl, o8, rfl⟩ := h
   refine ⟨_, rfl, by show 2 <= sizeLine; decide, fun t1 nt1 => ?_⟩
   have et1 := SB.new (ps := []) nt1 (.tup ((["NoKind", "Endless"] : List Str).map fun n => V.ref (c n)))
   have hd1 := et1.keep _ _ hd1 nmn
   have s1 := s1.trans et1
   refine ⟨_, t1, _, _, _, rfl, T.exc _ (.head _), .inr ⟨_, _, rfl, hd1⟩, rfl, upd_same, paired_refs ["NoKind", "Endless"], (T.any (.head _) (ms := ["NoKind", "Endless"]) (by decide +kernel)).trans (congrArg some (decide_eq_true (by simp))), ?_⟩
   refine ⟨_, rfl, iteT ?_⟩
   refine ⟨_, rfl, _, d, _, .str n, rfl, rfl, T.exc _ (.head _), T.nok _ (.head _), rfl, hd1, rfl, ?_⟩
   refine ⟨by show 2 <= sizeLine; decide, fun L3 nL3 => ?_⟩
   have e3 := SB.new (ps := []) nL3 (.lst [.str "endless", .str "kind"])
   have hd1 := e3.keep _ _ hd1 nmn
   have s1 := s1.trans e3
   refine ⟨_, rfl, _, _, _, true, rfl, T.exc _ (.head _), .inr ⟨_, _, rfl, hd1⟩, rfl, fun u r => r, T.is (.head _) (by decide +kernel), ?_⟩
   refine .inr ⟨_, rfl, L3, _, _, _, rfl, rfl, SqL.of upd_same, rfl, ?_⟩
   refine ⟨_, rfl, _, rfl, _, rfl, by show 3 <= sizeLine; decide, fun Z nZ => ?_⟩
   exact q Z _ _ _ _ (s1.trans (SB.new nZ _)) (SqT.of upd_same) .kind
  | @e n t gn lo =>
   intro d H1 s1 nd hd1
   refine ⟨true, T.exm _ (.tail _ (.head _)), fun _ x hx => ?_, fun z => nomatch z⟩
   refine ⟨_, rfl, _, _, _, false, rfl, T.exc _ (.tail _ (.head _)), .inr ⟨_, _, rfl, hd1⟩, rfl, fun u r => r, T.isno (.tail _ (.head _)) (by decide +kernel) (by decide +kernel), ?_⟩
   refine ⟨_, rfl, _, _, _, true, rfl, T.exc _ (.tail _ (.head _)), .inr ⟨_, _, rfl, hd1⟩, rfl, fun u r => r, T.is (.tail _ (.head _)) (by decide +kernel), ?_⟩
   refine ⟨_, rfl, _, _, _, false, rfl, T.exc _ (.tail _ (.head _)), .inr ⟨_, _, rfl, hd1⟩, rfl, fun u r => r, T.isno (.tail _ (.head _)) (by decide +kernel) (by decide +kernel), ?_⟩
   refine ⟨_, rfl, _, _, _, false, rfl, T.exc _ (.tail _ (.head _)), .inr ⟨_, _, rfl, hd1⟩, rfl, fun u r => r, T.isno (.tail _ (.head _)) (by decide +kernel) (by decide +kernel), ?_⟩
   refine ⟨by show 4 <= sizeLine; decide, fun L nL => ?_⟩
   have eL := SB.new (ps := []) nL (.lst [.bl false, .bl true, .bl false, .bl false])
   have hL : upd H1 L (.lst [.bl false, .bl true, .bl false, .bl false]) L = some (.lst [.bl false, .bl true, .bl false, .bl false]) := upd_same
   have hd1 := eL.keep _ _ hd1 nmn
   have s1 := s1.trans eL
   generalize upd H1 L (.lst [.bl false, .bl true, .bl false, .bl false]) = H2 at eL hL hd1 s1
   refine ⟨L, rfl, ⟨_, SqL.of hL⟩, ?_⟩
   refine for_it (walk_list (xs := [.bl false, .bl true, .bl false, .bl false])) (fun i σ G => G = H2 /\ ∃ o8, σ = [some (.int 1), some v, some w, some (.int D), some (.str "other"), some (.str ""), some (.int (((([false, true, false, false] : List Bool).take i).filter id).length : Nat)), some (.ref x), o8]) ⟨rfl, none, rfl⟩ (fun i σ G hi h => by rw [h.1]; exact SqL.of hL) (fun i z σ Hq G hi h y => ?_) (fun σ G h => ?_)
   ·obtain ⟨rfl, o8, rfl⟩ := h
    obtain ⟨rfl, ey⟩ := y
    match i, ey with
    | 0, ey => cases ey; exact ⟨_, rfl, _, rfl, .inr ⟨_, rfl, _, _, rfl, rfl, rfl, _, rfl⟩⟩
    | 1, ey => cases ey; exact ⟨_, rfl, _, rfl, .inr ⟨_, rfl, _, _, rfl, rfl, rfl, _, rfl⟩⟩
    | 2, ey => cases ey; exact ⟨_, rfl, _, rfl, .inr ⟨_, rfl, _, _, rfl, rfl, rfl, _, rfl⟩⟩
    | 3, ey => cases ey; exact ⟨_, rfl, _, rfl, .inr ⟨_, rfl, _, _, rfl, rfl, rfl, _, rfl⟩⟩
   obtain ⟨rfl, o8, rfl⟩ := h
   refine ⟨_, rfl, by show 2 <= sizeLine; decide, fun t1 nt1 => ?_⟩
   have et1 := SB.new (ps := []) nt1 (.tup ((["NoKind", "Endless"] : List Str).map fun n => V.ref (c n)))
   have hd1 := et1.keep _ _ hd1 nmn
   have s1 := s1.trans et1
   refine ⟨_, t1, _, _, _, rfl, T.exc _ (.tail _ (.head _)), .inr ⟨_, _, rfl, hd1⟩, rfl, upd_same, paired_refs ["NoKind", "Endless"], (T.any (.tail _ (.head _)) (ms := ["NoKind", "Endless"]) (by decide +kernel)).trans (congrArg some (decide_eq_true (by simp))), ?_⟩
   refine ⟨_, rfl, iteT ?_⟩
   refine ⟨_, rfl, _, d, _, .str n, rfl, rfl, T.exc _ (.tail _ (.head _)), T.nok _ (.tail _ (.head _)), rfl, hd1, rfl, ?_⟩
   refine ⟨by show 2 <= sizeLine; decide, fun L3 nL3 => ?_⟩
   have e3 := SB.new (ps := []) nL3 (.lst [.str "endless", .str "kind"])
   have hd1 := e3.keep _ _ hd1 nmn
   have s1 := s1.trans e3
   refine ⟨_, rfl, _, _, _, false, rfl, T.exc _ (.tail _ (.head _)), .inr ⟨_, _, rfl, hd1⟩, rfl, fun u r => r, T.isno (.tail _ (.head _)) (by decide +kernel) (by decide +kernel), ?_⟩
   refine .inr ⟨_, rfl, L3, _, _, _, rfl, rfl, SqL.of upd_same, rfl, ?_⟩
   refine ⟨_, rfl, _, rfl, _, rfl, by show 3 <= sizeLine; decide, fun Z nZ => ?_⟩
   exact q Z _ _ _ _ (s1.trans (SB.new nZ _)) (SqT.of upd_same) .endl
  | f gn he =>
   refine ⟨fun hge H1 s1 => ?_, fun hlt hz H1 s1 => ?_, fun hlt gne x H1 s1 => ⟨_, rfl, _, rfl, _, rfl, by show 3 <= sizeLine; decide, fun Z nZ => q Z _ _ _ _ (s1.trans (SB.new nZ _)) (SqT.of upd_same) (.told fun _ => gne)⟩⟩
   ·have gne : g ≠ .nil := fun hz => by
     have this : Gr.cin b (cntOf b D) D g = 0 := (cin_zero go hI.dok.1).mpr hz
     rw [this] at hge
     exact absurd hge (by decide +kernel)
    refine ⟨true, T.exm _ (.tail _ (.tail _ (.tail _ (.head _)))), fun _ x hx => ?_, fun z => nomatch z⟩
    refine ⟨_, rfl, _, _, _, false, rfl, T.exc _ (.tail _ (.tail _ (.tail _ (.head _)))), .inl rfl, rfl, fun u r => r, T.isno (.tail _ (.tail _ (.tail _ (.head _)))) (by decide +kernel) (by decide +kernel), ?_⟩
    refine ⟨_, rfl, _, _, _, false, rfl, T.exc _ (.tail _ (.tail _ (.tail _ (.head _)))), .inl rfl, rfl, fun u r => r, T.isno (.tail _ (.tail _ (.tail _ (.head _)))) (by decide +kernel) (by decide +kernel), ?_⟩
    refine ⟨_, rfl, _, _, _, false, rfl, T.exc _ (.tail _ (.tail _ (.tail _ (.head _)))), .inl rfl, rfl, fun u r => r, T.isno (.tail _ (.tail _ (.tail _ (.head _)))) (by decide +kernel) (by decide +kernel), ?_⟩
    refine ⟨_, rfl, _, _, _, true, rfl, T.exc _ (.tail _ (.tail _ (.tail _ (.head _)))), .inl rfl, rfl, fun u r => r, T.is (.tail _ (.tail _ (.tail _ (.head _)))) (by decide +kernel), ?_⟩
    refine ⟨by show 4 <= sizeLine; decide, fun L nL => ?_⟩
    have eL := SB.new (ps := []) nL (.lst [.bl false, .bl false, .bl false, .bl true])
    have hL : upd H1 L (.lst [.bl false, .bl false, .bl false, .bl true]) L = some (.lst [.bl false, .bl false, .bl false, .bl true]) := upd_same
    have s1 := s1.trans eL
    generalize upd H1 L (.lst [.bl false, .bl false, .bl false, .bl true]) = H2 at eL hL s1
    refine ⟨L, rfl, ⟨_, SqL.of hL⟩, ?_⟩
    refine for_it (walk_list (xs := [.bl false, .bl false, .bl false, .bl true])) (fun i σ G => G = H2 /\ ∃ o8, σ = [some (.int 1), some v, some w, some (.int D), some (.str "other"), some (.str ""), some (.int (((([false, false, false, true] : List Bool).take i).filter id).length : Nat)), some (.ref x), o8]) ⟨rfl, none, rfl⟩ (fun i σ G hi h => by rw [h.1]; exact SqL.of hL) (fun i z σ Hq G hi h y => ?_) (fun σ G h => ?_)
    ·obtain ⟨rfl, o8, rfl⟩ := h
     obtain ⟨rfl, ey⟩ := y
     match i, ey with
     | 0, ey => cases ey; exact ⟨_, rfl, _, rfl, .inr ⟨_, rfl, _, _, rfl, rfl, rfl, _, rfl⟩⟩
     | 1, ey => cases ey; exact ⟨_, rfl, _, rfl, .inr ⟨_, rfl, _, _, rfl, rfl, rfl, _, rfl⟩⟩
     | 2, ey => cases ey; exact ⟨_, rfl, _, rfl, .inr ⟨_, rfl, _, _, rfl, rfl, rfl, _, rfl⟩⟩
     | 3, ey => cases ey; exact ⟨_, rfl, _, rfl, .inr ⟨_, rfl, _, _, rfl, rfl, rfl, _, rfl⟩⟩
    obtain ⟨rfl, o8, rfl⟩ := h
    refine ⟨_, rfl, by show 2 <= sizeLine; decide, fun t1 nt1 => ?_⟩
    have et1 := SB.new (ps := []) nt1 (.tup ((["NoKind", "Endless"] : List Str).map fun n => V.ref (c n)))
    have s1 := s1.trans et1
    refine ⟨_, t1, _, _, _, rfl, T.exc _ (.tail _ (.tail _ (.tail _ (.head _)))), .inl rfl, rfl, upd_same, paired_refs ["NoKind", "Endless"], T.no (.tail _ (.tail _ (.tail _ (.head _)))) (ms := ["NoKind", "Endless"]) (by decide +kernel) (by decide +kernel), ?_⟩
    refine ⟨_, rfl, iteF ?_⟩
    refine ⟨_, rfl, by show 2 <= sizeLine; decide, fun t2 nt2 => ?_⟩
    have et2 := SB.new (ps := []) nt2 (.tup ((["NoPlace", "TooLong"] : List Str).map fun n => V.ref (c n)))
    have s1 := s1.trans et2
    refine ⟨_, t2, _, _, _, rfl, T.exc _ (.tail _ (.tail _ (.tail _ (.head _)))), .inl rfl, rfl, upd_same, paired_refs ["NoPlace", "TooLong"], (T.any (.tail _ (.tail _ (.tail _ (.head _)))) (ms := ["NoPlace", "TooLong"]) (by decide +kernel)).trans (congrArg some (decide_eq_true (by simp))), ?_⟩
    refine ⟨_, rfl, iteT ?_⟩
    refine ⟨by show 2 <= sizeLine; decide, fun L3 nL3 => ?_⟩
    have e3 := SB.new (ps := []) nL3 (.lst [.str "long", .str "place"])
    have s1 := s1.trans e3
    refine ⟨_, rfl, _, _, _, false, rfl, T.exc _ (.tail _ (.tail _ (.tail _ (.head _)))), .inl rfl, rfl, fun u r => r, T.isno (.tail _ (.tail _ (.tail _ (.head _)))) (by decide +kernel) (by decide +kernel), ?_⟩
    refine .inr ⟨_, rfl, L3, _, _, _, rfl, rfl, SqL.of upd_same, rfl, ?_⟩
    refine ⟨_, rfl, _, rfl, _, rfl, by show 3 <= sizeLine; decide, fun Z nZ => ?_⟩
    exact q Z _ _ _ _ (s1.trans (SB.new nZ _)) (SqT.of upd_same) (.long gne)
   ·refine ⟨true, T.exm _ (.tail _ (.tail _ (.head _))), fun _ x hx => ?_, fun z => nomatch z⟩
    refine ⟨_, rfl, _, _, _, false, rfl, T.exc _ (.tail _ (.tail _ (.head _))), .inl rfl, rfl, fun u r => r, T.isno (.tail _ (.tail _ (.head _))) (by decide +kernel) (by decide +kernel), ?_⟩
    refine ⟨_, rfl, _, _, _, false, rfl, T.exc _ (.tail _ (.tail _ (.head _))), .inl rfl, rfl, fun u r => r, T.isno (.tail _ (.tail _ (.head _))) (by decide +kernel) (by decide +kernel), ?_⟩
    refine ⟨_, rfl, _, _, _, true, rfl, T.exc _ (.tail _ (.tail _ (.head _))), .inl rfl, rfl, fun u r => r, T.is (.tail _ (.tail _ (.head _))) (by decide +kernel), ?_⟩
    refine ⟨_, rfl, _, _, _, false, rfl, T.exc _ (.tail _ (.tail _ (.head _))), .inl rfl, rfl, fun u r => r, T.isno (.tail _ (.tail _ (.head _))) (by decide +kernel) (by decide +kernel), ?_⟩
    refine ⟨by show 4 <= sizeLine; decide, fun L nL => ?_⟩
    have eL := SB.new (ps := []) nL (.lst [.bl false, .bl false, .bl true, .bl false])
    have hL : upd H1 L (.lst [.bl false, .bl false, .bl true, .bl false]) L = some (.lst [.bl false, .bl false, .bl true, .bl false]) := upd_same
    have s1 := s1.trans eL
    generalize upd H1 L (.lst [.bl false, .bl false, .bl true, .bl false]) = H2 at eL hL s1
    refine ⟨L, rfl, ⟨_, SqL.of hL⟩, ?_⟩
    refine for_it (walk_list (xs := [.bl false, .bl false, .bl true, .bl false])) (fun i σ G => G = H2 /\ ∃ o8, σ = [some (.int 1), some v, some w, some (.int D), some (.str "other"), some (.str ""), some (.int (((([false, false, true, false] : List Bool).take i).filter id).length : Nat)), some (.ref x), o8]) ⟨rfl, none, rfl⟩ (fun i σ G hi h => by rw [h.1]; exact SqL.of hL) (fun i z σ Hq G hi h y => ?_) (fun σ G h => ?_)
    ·obtain ⟨rfl, o8, rfl⟩ := h
     obtain ⟨rfl, ey⟩ := y
     match i, ey with
     | 0, ey => cases ey; exact ⟨_, rfl, _, rfl, .inr ⟨_, rfl, _, _, rfl, rfl, rfl, _, rfl⟩⟩
     | 1, ey => cases ey; exact ⟨_, rfl, _, rfl, .inr ⟨_, rfl, _, _, rfl, rfl, rfl, _, rfl⟩⟩
     | 2, ey => cases ey; exact ⟨_, rfl, _, rfl, .inr ⟨_, rfl, _, _, rfl, rfl, rfl, _, rfl⟩⟩
     | 3, ey => cases ey; exact ⟨_, rfl, _, rfl, .inr ⟨_, rfl, _, _, rfl, rfl, rfl, _, rfl⟩⟩
    obtain ⟨rfl, o8, rfl⟩ := h
    refine ⟨_, rfl, by show 2 <= sizeLine; decide, fun t1 nt1 => ?_⟩
    have et1 := SB.new (ps := []) nt1 (.tup ((["NoKind", "Endless"] : List Str).map fun n => V.ref (c n)))
    have s1 := s1.trans et1
    refine ⟨_, t1, _, _, _, rfl, T.exc _ (.tail _ (.tail _ (.head _))), .inl rfl, rfl, upd_same, paired_refs ["NoKind", "Endless"], T.no (.tail _ (.tail _ (.head _))) (ms := ["NoKind", "Endless"]) (by decide +kernel) (by decide +kernel), ?_⟩
    refine ⟨_, rfl, iteF ?_⟩
    refine ⟨_, rfl, by show 2 <= sizeLine; decide, fun t2 nt2 => ?_⟩
    have et2 := SB.new (ps := []) nt2 (.tup ((["NoPlace", "TooLong"] : List Str).map fun n => V.ref (c n)))
    have s1 := s1.trans et2
    refine ⟨_, t2, _, _, _, rfl, T.exc _ (.tail _ (.tail _ (.head _))), .inl rfl, rfl, upd_same, paired_refs ["NoPlace", "TooLong"], (T.any (.tail _ (.tail _ (.head _))) (ms := ["NoPlace", "TooLong"]) (by decide +kernel)).trans (congrArg some (decide_eq_true (by simp))), ?_⟩
    refine ⟨_, rfl, iteT ?_⟩
    refine ⟨by show 2 <= sizeLine; decide, fun L3 nL3 => ?_⟩
    have e3 := SB.new (ps := []) nL3 (.lst [.str "long", .str "place"])
    have s1 := s1.trans e3
    refine ⟨_, rfl, _, _, _, true, rfl, T.exc _ (.tail _ (.tail _ (.head _))), .inl rfl, rfl, fun u r => r, T.is (.tail _ (.tail _ (.head _))) (by decide +kernel), ?_⟩
    refine .inr ⟨_, rfl, L3, _, _, _, rfl, rfl, SqL.of upd_same, rfl, ?_⟩
    refine ⟨_, rfl, _, rfl, _, rfl, by show 3 <= sizeLine; decide, fun Z nZ => ?_⟩
    exact q Z _ _ _ _ (s1.trans (SB.new nZ _)) (SqT.of upd_same) (.place rfl hz)
 ·refine ⟨_, rfl, rfl, _, rfl, ?_⟩
  rw [decide_eq_false (by simp)]
  refine iteF ?_
  refine ⟨_, rfl, rfl, _, rfl, ?_⟩
  rw [decide_eq_false (by simp)]
  refine iteF ?_
  refine ⟨_, rfl, rfl, _, rfl, ?_⟩
  rw [decide_eq_true rfl]
  refine iteT ?_
  refine ⟨_, rfl, _, rfl, _, rfl, v, w, b, g, D, o, rfl, hI, hd, ?_⟩
  obtain ⟨B0, go, _⟩ := hI.go
  cases hd with
  | @k n lo =>
   intro d H1 s1 nd hd1
   refine ⟨true, T.exm _ (.head _), fun _ x hx => ?_, fun z => nomatch z⟩
   refine ⟨_, rfl, _, _, _, true, rfl, T.exc _ (.head _), .inr ⟨_, _, rfl, hd1⟩, rfl, fun u r => r, T.is (.head _) (by decide +kernel), ?_⟩
   refine ⟨_, rfl, _, _, _, false, rfl, T.exc _ (.head _), .inr ⟨_, _, rfl, hd1⟩, rfl, fun u r => r, T.isno (.head _) (by decide +kernel) (by decide +kernel), ?_⟩
   refine ⟨_, rfl, _, _, _, false, rfl, T.exc _ (.head _), .inr ⟨_, _, rfl, hd1⟩, rfl, fun u r => r, T.isno (.head _) (by decide +kernel) (by decide +kernel), ?_⟩
   refine ⟨_, rfl, _, _, _, false, rfl, T.exc _ (.head _), .inr ⟨_, _, rfl, hd1⟩, rfl, fun u r => r, T.isno (.head _) (by decide +kernel) (by decide +kernel), ?_⟩
   refine ⟨by show 4 <= sizeLine; decide, fun L nL => ?_⟩
   have eL := SB.new (ps := []) nL (.lst [.bl true, .bl false, .bl false, .bl false])
   have hL : upd H1 L (.lst [.bl true, .bl false, .bl false, .bl false]) L = some (.lst [.bl true, .bl false, .bl false, .bl false]) := upd_same
   have hd1 := eL.keep _ _ hd1 nmn
   have s1 := s1.trans eL
   generalize upd H1 L (.lst [.bl true, .bl false, .bl false, .bl false]) = H2 at eL hL hd1 s1
   refine ⟨L, rfl, ⟨_, SqL.of hL⟩, ?_⟩
   refine for_it (walk_list (xs := [.bl true, .bl false, .bl false, .bl false])) (fun i σ G => G = H2 /\ ∃ o8, σ = [some (.int 2), some v, some w, some (.int D), some (.str "other"), some (.str ""), some (.int (((([true, false, false, false] : List Bool).take i).filter id).length : Nat)), some (.ref x), o8]) ⟨rfl, none, rfl⟩ (fun i σ G hi h => by rw [h.1]; exact SqL.of hL) (fun i z σ Hq G hi h y => ?_) (fun σ G h => ?_)
   ·obtain ⟨rfl, o8, rfl⟩ := h
    obtain ⟨rfl, ey⟩ := y
    match i, ey with
    | 0, ey => cases ey; exact ⟨_, rfl, _, rfl, .inr ⟨_, rfl, _, _, rfl, rfl, rfl, _, rfl⟩⟩
    | 1, ey => cases ey; exact ⟨_, rfl, _, rfl, .inr ⟨_, rfl, _, _, rfl, rfl, rfl, _, rfl⟩⟩
    | 2, ey => cases ey; exact ⟨_, rfl, _, rfl, .inr ⟨_, rfl, _, _, rfl, rfl, rfl, _, rfl⟩⟩
    | 3, ey => cases ey; exact ⟨_, rfl, _, rfl, .inr ⟨_, rfl, _, _, rfl, rfl, rfl, _, rfl⟩⟩
   obtain ⟨rfl, o8, rfl⟩ := h
   refine ⟨_, rfl, by show 2 <= sizeLine; decide, fun t1 nt1 => ?_⟩
   have et1 := SB.new (ps := []) nt1 (.tup ((["NoKind", "Endless"] : List Str).map fun n => V.ref (c n)))
   have hd1 := et1.keep _ _ hd1 nmn
   have s1 := s1.trans et1
   refine ⟨_, t1, _, _, _, rfl, T.exc _ (.head _), .inr ⟨_, _, rfl, hd1⟩, rfl, upd_same, paired_refs ["NoKind", "Endless"], (T.any (.head _) (ms := ["NoKind", "Endless"]) (by decide +kernel)).trans (congrArg some (decide_eq_true (by simp))), ?_⟩
   refine ⟨_, rfl, iteT ?_⟩
   refine ⟨_, rfl, _, d, _, .str n, rfl, rfl, T.exc _ (.head _), T.nok _ (.head _), rfl, hd1, rfl, ?_⟩
   refine ⟨by show 2 <= sizeLine; decide, fun L3 nL3 => ?_⟩
   have e3 := SB.new (ps := []) nL3 (.lst [.str "endless", .str "kind"])
   have hd1 := e3.keep _ _ hd1 nmn
   have s1 := s1.trans e3
   refine ⟨_, rfl, _, _, _, true, rfl, T.exc _ (.head _), .inr ⟨_, _, rfl, hd1⟩, rfl, fun u r => r, T.is (.head _) (by decide +kernel), ?_⟩
   refine .inr ⟨_, rfl, L3, _, _, _, rfl, rfl, SqL.of upd_same, rfl, ?_⟩
   refine ⟨_, rfl, _, rfl, _, rfl, by show 3 <= sizeLine; decide, fun Z nZ => ?_⟩
   exact q Z _ _ _ _ (s1.trans (SB.new nZ _)) (SqT.of upd_same) .kind
  | e t gn lo => exact nomatch t
  | f gn he =>
   refine ⟨fun hlt H1 s1 => ⟨_, rfl, _, rfl, _, rfl, by show 3 <= sizeLine; decide, fun Z nZ => q Z _ _ _ _ (s1.trans (SB.new nZ _)) (SqT.of upd_same) (.told fun z => nomatch z)⟩, fun hge H1 s1 => ?_⟩
   have gne : g ≠ .nil := fun hz => by
    have this : Gr.fw b D g = 0 := (Gr.fw_zero go hI.dok.1).mpr hz
    rw [this] at hge
    exact absurd hge (by decide +kernel)
   refine ⟨true, T.exm _ (.tail _ (.tail _ (.tail _ (.head _)))), fun _ x hx => ?_, fun z => nomatch z⟩
   refine ⟨_, rfl, _, _, _, false, rfl, T.exc _ (.tail _ (.tail _ (.tail _ (.head _)))), .inl rfl, rfl, fun u r => r, T.isno (.tail _ (.tail _ (.tail _ (.head _)))) (by decide +kernel) (by decide +kernel), ?_⟩
   refine ⟨_, rfl, _, _, _, false, rfl, T.exc _ (.tail _ (.tail _ (.tail _ (.head _)))), .inl rfl, rfl, fun u r => r, T.isno (.tail _ (.tail _ (.tail _ (.head _)))) (by decide +kernel) (by decide +kernel), ?_⟩
   refine ⟨_, rfl, _, _, _, false, rfl, T.exc _ (.tail _ (.tail _ (.tail _ (.head _)))), .inl rfl, rfl, fun u r => r, T.isno (.tail _ (.tail _ (.tail _ (.head _)))) (by decide +kernel) (by decide +kernel), ?_⟩
   refine ⟨_, rfl, _, _, _, true, rfl, T.exc _ (.tail _ (.tail _ (.tail _ (.head _)))), .inl rfl, rfl, fun u r => r, T.is (.tail _ (.tail _ (.tail _ (.head _)))) (by decide +kernel), ?_⟩
   refine ⟨by show 4 <= sizeLine; decide, fun L nL => ?_⟩
   have eL := SB.new (ps := []) nL (.lst [.bl false, .bl false, .bl false, .bl true])
   have hL : upd H1 L (.lst [.bl false, .bl false, .bl false, .bl true]) L = some (.lst [.bl false, .bl false, .bl false, .bl true]) := upd_same
   have s1 := s1.trans eL
   generalize upd H1 L (.lst [.bl false, .bl false, .bl false, .bl true]) = H2 at eL hL s1
   refine ⟨L, rfl, ⟨_, SqL.of hL⟩, ?_⟩
   refine for_it (walk_list (xs := [.bl false, .bl false, .bl false, .bl true])) (fun i σ G => G = H2 /\ ∃ o8, σ = [some (.int 2), some v, some w, some (.int D), some (.str "other"), some (.str ""), some (.int (((([false, false, false, true] : List Bool).take i).filter id).length : Nat)), some (.ref x), o8]) ⟨rfl, none, rfl⟩ (fun i σ G hi h => by rw [h.1]; exact SqL.of hL) (fun i z σ Hq G hi h y => ?_) (fun σ G h => ?_)
   ·obtain ⟨rfl, o8, rfl⟩ := h
    obtain ⟨rfl, ey⟩ := y
    match i, ey with
    | 0, ey => cases ey; exact ⟨_, rfl, _, rfl, .inr ⟨_, rfl, _, _, rfl, rfl, rfl, _, rfl⟩⟩
    | 1, ey => cases ey; exact ⟨_, rfl, _, rfl, .inr ⟨_, rfl, _, _, rfl, rfl, rfl, _, rfl⟩⟩
    | 2, ey => cases ey; exact ⟨_, rfl, _, rfl, .inr ⟨_, rfl, _, _, rfl, rfl, rfl, _, rfl⟩⟩
    | 3, ey => cases ey; exact ⟨_, rfl, _, rfl, .inr ⟨_, rfl, _, _, rfl, rfl, rfl, _, rfl⟩⟩
   obtain ⟨rfl, o8, rfl⟩ := h
   refine ⟨_, rfl, by show 2 <= sizeLine; decide, fun t1 nt1 => ?_⟩
   have et1 := SB.new (ps := []) nt1 (.tup ((["NoKind", "Endless"] : List Str).map fun n => V.ref (c n)))
   have s1 := s1.trans et1
   refine ⟨_, t1, _, _, _, rfl, T.exc _ (.tail _ (.tail _ (.tail _ (.head _)))), .inl rfl, rfl, upd_same, paired_refs ["NoKind", "Endless"], T.no (.tail _ (.tail _ (.tail _ (.head _)))) (ms := ["NoKind", "Endless"]) (by decide +kernel) (by decide +kernel), ?_⟩
   refine ⟨_, rfl, iteF ?_⟩
   refine ⟨_, rfl, by show 2 <= sizeLine; decide, fun t2 nt2 => ?_⟩
   have et2 := SB.new (ps := []) nt2 (.tup ((["NoPlace", "TooLong"] : List Str).map fun n => V.ref (c n)))
   have s1 := s1.trans et2
   refine ⟨_, t2, _, _, _, rfl, T.exc _ (.tail _ (.tail _ (.tail _ (.head _)))), .inl rfl, rfl, upd_same, paired_refs ["NoPlace", "TooLong"], (T.any (.tail _ (.tail _ (.tail _ (.head _)))) (ms := ["NoPlace", "TooLong"]) (by decide +kernel)).trans (congrArg some (decide_eq_true (by simp))), ?_⟩
   refine ⟨_, rfl, iteT ?_⟩
   refine ⟨by show 2 <= sizeLine; decide, fun L3 nL3 => ?_⟩
   have e3 := SB.new (ps := []) nL3 (.lst [.str "long", .str "place"])
   have s1 := s1.trans e3
   refine ⟨_, rfl, _, _, _, false, rfl, T.exc _ (.tail _ (.tail _ (.tail _ (.head _)))), .inl rfl, rfl, fun u r => r, T.isno (.tail _ (.tail _ (.tail _ (.head _)))) (by decide +kernel) (by decide +kernel), ?_⟩
   refine .inr ⟨_, rfl, L3, _, _, _, rfl, rfl, SqL.of upd_same, rfl, ?_⟩
   refine ⟨_, rfl, _, rfl, _, rfl, by show 3 <= sizeLine; decide, fun Z nZ => ?_⟩
   exact q Z _ _ _ _ (s1.trans (SB.new nZ _)) (SqT.of upd_same) (.long gne)
 ·refine ⟨_, rfl, rfl, _, rfl, ?_⟩
  rw [decide_eq_false (by simp)]
  refine iteF ?_
  refine ⟨_, rfl, rfl, _, rfl, ?_⟩
  rw [decide_eq_false (by simp)]
  refine iteF ?_
  refine ⟨_, rfl, rfl, _, rfl, ?_⟩
  rw [decide_eq_false (by simp)]
  refine iteF ?_
  refine ⟨_, rfl, _, rfl, _, rfl, v, w, b, g, D, o, rfl, hI, hd, ?_⟩
  obtain ⟨B0, go, _⟩ := hI.go
  cases hd with
  | @k n lo =>
   intro d H1 s1 nd hd1
   refine ⟨true, T.exm _ (.head _), fun _ x hx => ?_, fun z => nomatch z⟩
   refine ⟨_, rfl, _, _, _, true, rfl, T.exc _ (.head _), .inr ⟨_, _, rfl, hd1⟩, rfl, fun u r => r, T.is (.head _) (by decide +kernel), ?_⟩
   refine ⟨_, rfl, _, _, _, false, rfl, T.exc _ (.head _), .inr ⟨_, _, rfl, hd1⟩, rfl, fun u r => r, T.isno (.head _) (by decide +kernel) (by decide +kernel), ?_⟩
   refine ⟨_, rfl, _, _, _, false, rfl, T.exc _ (.head _), .inr ⟨_, _, rfl, hd1⟩, rfl, fun u r => r, T.isno (.head _) (by decide +kernel) (by decide +kernel), ?_⟩
   refine ⟨_, rfl, _, _, _, false, rfl, T.exc _ (.head _), .inr ⟨_, _, rfl, hd1⟩, rfl, fun u r => r, T.isno (.head _) (by decide +kernel) (by decide +kernel), ?_⟩
   refine ⟨by show 4 <= sizeLine; decide, fun L nL => ?_⟩
   have eL := SB.new (ps := []) nL (.lst [.bl true, .bl false, .bl false, .bl false])
   have hL : upd H1 L (.lst [.bl true, .bl false, .bl false, .bl false]) L = some (.lst [.bl true, .bl false, .bl false, .bl false]) := upd_same
   have hd1 := eL.keep _ _ hd1 nmn
   have s1 := s1.trans eL
   generalize upd H1 L (.lst [.bl true, .bl false, .bl false, .bl false]) = H2 at eL hL hd1 s1
   refine ⟨L, rfl, ⟨_, SqL.of hL⟩, ?_⟩
   refine for_it (walk_list (xs := [.bl true, .bl false, .bl false, .bl false])) (fun i σ G => G = H2 /\ ∃ o8, σ = [some (.int 3), some v, some w, some (.int D), some (.str "other"), some (.str ""), some (.int (((([true, false, false, false] : List Bool).take i).filter id).length : Nat)), some (.ref x), o8]) ⟨rfl, none, rfl⟩ (fun i σ G hi h => by rw [h.1]; exact SqL.of hL) (fun i z σ Hq G hi h y => ?_) (fun σ G h => ?_)
   ·obtain ⟨rfl, o8, rfl⟩ := h
    obtain ⟨rfl, ey⟩ := y
    match i, ey with
    | 0, ey => cases ey; exact ⟨_, rfl, _, rfl, .inr ⟨_, rfl, _, _, rfl, rfl, rfl, _, rfl⟩⟩
    | 1, ey => cases ey; exact ⟨_, rfl, _, rfl, .inr ⟨_, rfl, _, _, rfl, rfl, rfl, _, rfl⟩⟩
    | 2, ey => cases ey; exact ⟨_, rfl, _, rfl, .inr ⟨_, rfl, _, _, rfl, rfl, rfl, _, rfl⟩⟩
    | 3, ey => cases ey; exact ⟨_, rfl, _, rfl, .inr ⟨_, rfl, _, _, rfl, rfl, rfl, _, rfl⟩⟩
   obtain ⟨rfl, o8, rfl⟩ := h
   refine ⟨_, rfl, by show 2 <= sizeLine; decide, fun t1 nt1 => ?_⟩
   have et1 := SB.new (ps := []) nt1 (.tup ((["NoKind", "Endless"] : List Str).map fun n => V.ref (c n)))
   have hd1 := et1.keep _ _ hd1 nmn
   have s1 := s1.trans et1
   refine ⟨_, t1, _, _, _, rfl, T.exc _ (.head _), .inr ⟨_, _, rfl, hd1⟩, rfl, upd_same, paired_refs ["NoKind", "Endless"], (T.any (.head _) (ms := ["NoKind", "Endless"]) (by decide +kernel)).trans (congrArg some (decide_eq_true (by simp))), ?_⟩
   refine ⟨_, rfl, iteT ?_⟩
   refine ⟨_, rfl, _, d, _, .str n, rfl, rfl, T.exc _ (.head _), T.nok _ (.head _), rfl, hd1, rfl, ?_⟩
   refine ⟨by show 2 <= sizeLine; decide, fun L3 nL3 => ?_⟩
   have e3 := SB.new (ps := []) nL3 (.lst [.str "endless", .str "kind"])
   have hd1 := e3.keep _ _ hd1 nmn
   have s1 := s1.trans e3
   refine ⟨_, rfl, _, _, _, true, rfl, T.exc _ (.head _), .inr ⟨_, _, rfl, hd1⟩, rfl, fun u r => r, T.is (.head _) (by decide +kernel), ?_⟩
   refine .inr ⟨_, rfl, L3, _, _, _, rfl, rfl, SqL.of upd_same, rfl, ?_⟩
   refine ⟨_, rfl, _, rfl, _, rfl, by show 3 <= sizeLine; decide, fun Z nZ => ?_⟩
   exact q Z _ _ _ _ (s1.trans (SB.new nZ _)) (SqT.of upd_same) .kind
  | e t gn lo => exact nomatch t
  | f gn he =>
   refine ⟨fun hge H1 s1 => ?_, fun hlt hz H1 s1 => ?_, fun hlt gne x H1 s1 => ⟨_, rfl, _, rfl, _, rfl, by show 3 <= sizeLine; decide, fun Z nZ => q Z _ _ _ _ (s1.trans (SB.new nZ _)) (SqT.of upd_same) (.told fun _ => gne)⟩⟩
   ·have gne : g ≠ .nil := fun hz => by
     have this : Gr.fw b D g = 0 := (Gr.fw_zero go hI.dok.1).mpr hz
     rw [this] at hge
     exact absurd hge (by decide +kernel)
    refine ⟨true, T.exm _ (.tail _ (.tail _ (.tail _ (.head _)))), fun _ x hx => ?_, fun z => nomatch z⟩
    refine ⟨_, rfl, _, _, _, false, rfl, T.exc _ (.tail _ (.tail _ (.tail _ (.head _)))), .inl rfl, rfl, fun u r => r, T.isno (.tail _ (.tail _ (.tail _ (.head _)))) (by decide +kernel) (by decide +kernel), ?_⟩
    refine ⟨_, rfl, _, _, _, false, rfl, T.exc _ (.tail _ (.tail _ (.tail _ (.head _)))), .inl rfl, rfl, fun u r => r, T.isno (.tail _ (.tail _ (.tail _ (.head _)))) (by decide +kernel) (by decide +kernel), ?_⟩
    refine ⟨_, rfl, _, _, _, false, rfl, T.exc _ (.tail _ (.tail _ (.tail _ (.head _)))), .inl rfl, rfl, fun u r => r, T.isno (.tail _ (.tail _ (.tail _ (.head _)))) (by decide +kernel) (by decide +kernel), ?_⟩
    refine ⟨_, rfl, _, _, _, true, rfl, T.exc _ (.tail _ (.tail _ (.tail _ (.head _)))), .inl rfl, rfl, fun u r => r, T.is (.tail _ (.tail _ (.tail _ (.head _)))) (by decide +kernel), ?_⟩
    refine ⟨by show 4 <= sizeLine; decide, fun L nL => ?_⟩
    have eL := SB.new (ps := []) nL (.lst [.bl false, .bl false, .bl false, .bl true])
    have hL : upd H1 L (.lst [.bl false, .bl false, .bl false, .bl true]) L = some (.lst [.bl false, .bl false, .bl false, .bl true]) := upd_same
    have s1 := s1.trans eL
    generalize upd H1 L (.lst [.bl false, .bl false, .bl false, .bl true]) = H2 at eL hL s1
    refine ⟨L, rfl, ⟨_, SqL.of hL⟩, ?_⟩
    refine for_it (walk_list (xs := [.bl false, .bl false, .bl false, .bl true])) (fun i σ G => G = H2 /\ ∃ o8, σ = [some (.int 3), some v, some w, some (.int D), some (.str "other"), some (.str ""), some (.int (((([false, false, false, true] : List Bool).take i).filter id).length : Nat)), some (.ref x), o8]) ⟨rfl, none, rfl⟩ (fun i σ G hi h => by rw [h.1]; exact SqL.of hL) (fun i z σ Hq G hi h y => ?_) (fun σ G h => ?_)
    ·obtain ⟨rfl, o8, rfl⟩ := h
     obtain ⟨rfl, ey⟩ := y
     match i, ey with
     | 0, ey => cases ey; exact ⟨_, rfl, _, rfl, .inr ⟨_, rfl, _, _, rfl, rfl, rfl, _, rfl⟩⟩
     | 1, ey => cases ey; exact ⟨_, rfl, _, rfl, .inr ⟨_, rfl, _, _, rfl, rfl, rfl, _, rfl⟩⟩
     | 2, ey => cases ey; exact ⟨_, rfl, _, rfl, .inr ⟨_, rfl, _, _, rfl, rfl, rfl, _, rfl⟩⟩
     | 3, ey => cases ey; exact ⟨_, rfl, _, rfl, .inr ⟨_, rfl, _, _, rfl, rfl, rfl, _, rfl⟩⟩
    obtain ⟨rfl, o8, rfl⟩ := h
    refine ⟨_, rfl, by show 2 <= sizeLine; decide, fun t1 nt1 => ?_⟩
    have et1 := SB.new (ps := []) nt1 (.tup ((["NoKind", "Endless"] : List Str).map fun n => V.ref (c n)))
    have s1 := s1.trans et1
    refine ⟨_, t1, _, _, _, rfl, T.exc _ (.tail _ (.tail _ (.tail _ (.head _)))), .inl rfl, rfl, upd_same, paired_refs ["NoKind", "Endless"], T.no (.tail _ (.tail _ (.tail _ (.head _)))) (ms := ["NoKind", "Endless"]) (by decide +kernel) (by decide +kernel), ?_⟩
    refine ⟨_, rfl, iteF ?_⟩
    refine ⟨_, rfl, by show 2 <= sizeLine; decide, fun t2 nt2 => ?_⟩
    have et2 := SB.new (ps := []) nt2 (.tup ((["NoPlace", "TooLong"] : List Str).map fun n => V.ref (c n)))
    have s1 := s1.trans et2
    refine ⟨_, t2, _, _, _, rfl, T.exc _ (.tail _ (.tail _ (.tail _ (.head _)))), .inl rfl, rfl, upd_same, paired_refs ["NoPlace", "TooLong"], (T.any (.tail _ (.tail _ (.tail _ (.head _)))) (ms := ["NoPlace", "TooLong"]) (by decide +kernel)).trans (congrArg some (decide_eq_true (by simp))), ?_⟩
    refine ⟨_, rfl, iteT ?_⟩
    refine ⟨by show 2 <= sizeLine; decide, fun L3 nL3 => ?_⟩
    have e3 := SB.new (ps := []) nL3 (.lst [.str "long", .str "place"])
    have s1 := s1.trans e3
    refine ⟨_, rfl, _, _, _, false, rfl, T.exc _ (.tail _ (.tail _ (.tail _ (.head _)))), .inl rfl, rfl, fun u r => r, T.isno (.tail _ (.tail _ (.tail _ (.head _)))) (by decide +kernel) (by decide +kernel), ?_⟩
    refine .inr ⟨_, rfl, L3, _, _, _, rfl, rfl, SqL.of upd_same, rfl, ?_⟩
    refine ⟨_, rfl, _, rfl, _, rfl, by show 3 <= sizeLine; decide, fun Z nZ => ?_⟩
    exact q Z _ _ _ _ (s1.trans (SB.new nZ _)) (SqT.of upd_same) (.long gne)
   ·refine ⟨true, T.exm _ (.tail _ (.tail _ (.head _))), fun _ x hx => ?_, fun z => nomatch z⟩
    refine ⟨_, rfl, _, _, _, false, rfl, T.exc _ (.tail _ (.tail _ (.head _))), .inl rfl, rfl, fun u r => r, T.isno (.tail _ (.tail _ (.head _))) (by decide +kernel) (by decide +kernel), ?_⟩
    refine ⟨_, rfl, _, _, _, false, rfl, T.exc _ (.tail _ (.tail _ (.head _))), .inl rfl, rfl, fun u r => r, T.isno (.tail _ (.tail _ (.head _))) (by decide +kernel) (by decide +kernel), ?_⟩
    refine ⟨_, rfl, _, _, _, true, rfl, T.exc _ (.tail _ (.tail _ (.head _))), .inl rfl, rfl, fun u r => r, T.is (.tail _ (.tail _ (.head _))) (by decide +kernel), ?_⟩
    refine ⟨_, rfl, _, _, _, false, rfl, T.exc _ (.tail _ (.tail _ (.head _))), .inl rfl, rfl, fun u r => r, T.isno (.tail _ (.tail _ (.head _))) (by decide +kernel) (by decide +kernel), ?_⟩
    refine ⟨by show 4 <= sizeLine; decide, fun L nL => ?_⟩
    have eL := SB.new (ps := []) nL (.lst [.bl false, .bl false, .bl true, .bl false])
    have hL : upd H1 L (.lst [.bl false, .bl false, .bl true, .bl false]) L = some (.lst [.bl false, .bl false, .bl true, .bl false]) := upd_same
    have s1 := s1.trans eL
    generalize upd H1 L (.lst [.bl false, .bl false, .bl true, .bl false]) = H2 at eL hL s1
    refine ⟨L, rfl, ⟨_, SqL.of hL⟩, ?_⟩
    refine for_it (walk_list (xs := [.bl false, .bl false, .bl true, .bl false])) (fun i σ G => G = H2 /\ ∃ o8, σ = [some (.int 3), some v, some w, some (.int D), some (.str "other"), some (.str ""), some (.int (((([false, false, true, false] : List Bool).take i).filter id).length : Nat)), some (.ref x), o8]) ⟨rfl, none, rfl⟩ (fun i σ G hi h => by rw [h.1]; exact SqL.of hL) (fun i z σ Hq G hi h y => ?_) (fun σ G h => ?_)
    ·obtain ⟨rfl, o8, rfl⟩ := h
     obtain ⟨rfl, ey⟩ := y
     match i, ey with
     | 0, ey => cases ey; exact ⟨_, rfl, _, rfl, .inr ⟨_, rfl, _, _, rfl, rfl, rfl, _, rfl⟩⟩
     | 1, ey => cases ey; exact ⟨_, rfl, _, rfl, .inr ⟨_, rfl, _, _, rfl, rfl, rfl, _, rfl⟩⟩
     | 2, ey => cases ey; exact ⟨_, rfl, _, rfl, .inr ⟨_, rfl, _, _, rfl, rfl, rfl, _, rfl⟩⟩
     | 3, ey => cases ey; exact ⟨_, rfl, _, rfl, .inr ⟨_, rfl, _, _, rfl, rfl, rfl, _, rfl⟩⟩
    obtain ⟨rfl, o8, rfl⟩ := h
    refine ⟨_, rfl, by show 2 <= sizeLine; decide, fun t1 nt1 => ?_⟩
    have et1 := SB.new (ps := []) nt1 (.tup ((["NoKind", "Endless"] : List Str).map fun n => V.ref (c n)))
    have s1 := s1.trans et1
    refine ⟨_, t1, _, _, _, rfl, T.exc _ (.tail _ (.tail _ (.head _))), .inl rfl, rfl, upd_same, paired_refs ["NoKind", "Endless"], T.no (.tail _ (.tail _ (.head _))) (ms := ["NoKind", "Endless"]) (by decide +kernel) (by decide +kernel), ?_⟩
    refine ⟨_, rfl, iteF ?_⟩
    refine ⟨_, rfl, by show 2 <= sizeLine; decide, fun t2 nt2 => ?_⟩
    have et2 := SB.new (ps := []) nt2 (.tup ((["NoPlace", "TooLong"] : List Str).map fun n => V.ref (c n)))
    have s1 := s1.trans et2
    refine ⟨_, t2, _, _, _, rfl, T.exc _ (.tail _ (.tail _ (.head _))), .inl rfl, rfl, upd_same, paired_refs ["NoPlace", "TooLong"], (T.any (.tail _ (.tail _ (.head _))) (ms := ["NoPlace", "TooLong"]) (by decide +kernel)).trans (congrArg some (decide_eq_true (by simp))), ?_⟩
    refine ⟨_, rfl, iteT ?_⟩
    refine ⟨by show 2 <= sizeLine; decide, fun L3 nL3 => ?_⟩
    have e3 := SB.new (ps := []) nL3 (.lst [.str "long", .str "place"])
    have s1 := s1.trans e3
    refine ⟨_, rfl, _, _, _, true, rfl, T.exc _ (.tail _ (.tail _ (.head _))), .inl rfl, rfl, fun u r => r, T.is (.tail _ (.tail _ (.head _))) (by decide +kernel), ?_⟩
    refine .inr ⟨_, rfl, L3, _, _, _, rfl, rfl, SqL.of upd_same, rfl, ?_⟩
    refine ⟨_, rfl, _, rfl, _, rfl, by show 3 <= sizeLine; decide, fun Z nZ => ?_⟩
    exact q Z _ _ _ _ (s1.trans (SB.new nZ _)) (SqT.of upd_same) (.place rfl hz)
abbrev N__law_inside : List Str := ["_law_grove", "_law_found", "_law_left", "_law_tree", "_law_many"]
theorem sc__law_inside : FnScope N__law_inside ["_law_grove"] (defScope s__law_inside) := ⟨rfl, rfl, rfl, by decide +kernel, rfl, by decide +kernel, by decide +kernel⟩
theorem ok__law_inside (B : BI mg) (F : Fun K "_law_inside" "_law_inside" s__law_inside f fd) : FnOk P w K mg base CX0 (1) f fd ["_law_grove"] (spInside67 K) := by
 refine F.ok sc__law_inside (fun vs H Q E h => ?_) (fun cdv A outer s H vs Q E hr h => ?_)
 ·obtain ⟨v, g, ns, C, rfl, _⟩ := h
  rfl
 obtain ⟨v, g, ns, C, rfl, hg, go, gd, gp, gn, nl, q⟩ := h
 have hun2 := hunT hr
 refine ⟨_, pss_cons (ps_set (i := 1) sc__law_inside.nd rfl (.inl rfl) pe_dnewK)
  (pss_cons (ps_set (i := 2) sc__law_inside.nd rfl (.inl rfl) (pe_lst (pa_cons (pv 0) pa_nil)))
  (pss_cons (ps_while PassesOwn.never (pt_cmpR (op_neD (by show A.units + 3 + 64 < cLine; omega)) (pv 2) (pe_lst pa_nil) (nomark _)) (pss_one (ps_for PassesOwn.never rfl (pi_tup (pe_bm0 PySem.F.plainAttrs_list PySem.F.slot_list_pop PySem.F.type_list_pop mt_pop (pv 2))) (pg_tup rfl (pgs_cons (pg_name (i := 3) sc__law_inside.nd rfl (.inl rfl)) (pgs_cons (pg_name (i := 4) sc__law_inside.nd rfl (.inl rfl)) pgs_nil)))
   (pss_cons (ps_dput (by show A.units + 3 + 1 < cLine; omega) (pv 1) (pe_ix ix_tup (pv 3) pe_int (fun _ _ => rfl)) pe_bl rfl)
  (pss_one (ps_expr (pe_bm PySem.F.plainAttrs_list PySem.F.slot_list_append PySem.F.type_list_append mt_append (pv 2) (pa_cons (pe_ix ix_tup (pv 3) pe_int (fun _ _ => rfl)) pa_nil))))))))
  (pss_one (ps_ret (pe_callB (cr_sortedDk rfl) rfl B.sorted (by decide +kernel) (pa_cons (pv 1) pa_nil)))))), ?_⟩
 have szl := sizeLine_eq
 intro F nF
 have t1 := SB.new (ps := []) nF (.dK [])
 have hF1 : upd H F (.dK []) F = some (.dK (tK [])) := upd_same
 generalize upd H F (.dK []) = H1 at t1 hF1 ⊢
 refine ⟨_, rfl, by show 1 <= sizeLine; decide, fun D nD => ?_⟩
 have t2 := SB.new (ps := []) nD (.lst [v])
 have hD2 : upd H1 D (.lst [v]) D = some (.lst [v]) := upd_same
 have FD : F ≠ D := fun z => by rw [z, nD] at hF1; cases hF1
 have hF2 := t2.keep _ _ hF1 nmn
 have nD0 : H D = none := t1.dom _ nD
 have s2 : SB [F, D] H (upd H1 D (.lst [v])) := (t1.trans t2).nil
 have hg2 := hg.sb s2
 generalize upd H1 D (.lst [v]) = H2 at t2 hD2 hF2 s2 hg2 ⊢
 let Pv : List Gr -> L2.St -> Hp -> Prop := fun ws σ G => ∃ (us : List V) (fs : List Str) (o3 o4 : Option V), σ = [some v, some (.ref F), some (.ref D), o3, o4] /\ SB [F, D] H G /\ G D = some (.lst us) /\ Bears K G Gr.enc us ws /\ G F = some (.dK (tK fs)) /\ fs.Nodup /\ (∀ x, x ∈ g.within.map (·.1.1) ↔ x ∈ fs \/ ∃ k ∈ ws, x ∈ k.within.map (·.1.1)) /\ gTo ws <= 101 /\ ∀ k ∈ ws, k.Ok C /\ k.deep < 15
 have hnm : ∀ fs : List Str, fs.Nodup -> (∀ x ∈ fs, x ∈ g.within.map (·.1.1)) -> fs.length <= 60 := fun fs nd h => Nat.le_trans (List.Nodup.length_le_of_subset nd fun x hx => by
  obtain ⟨y, hy, e⟩ := List.mem_map.mp (h x hx)
  rw [<- e]; exact gn y hy) nl
 refine while_left (K := K) (enc := Gr.enc) (D := D) gTo Pv (ws0 := [g]) ⟨[v], [], none, none, rfl, s2, hD2, .cons hg2 .nil, hF2, List.nodup_nil, by simp, by show 1 + g.parts + 0 <= 101; omega, fun x hx => by rw [List.mem_singleton.mp hx]; exact ⟨go, gd⟩⟩ (fun ws σ G h => ?_) Gr.noList_enc (fun ws σ G h => ?_) (fun ws σ G z h hz => ?_) (fun js x σ G h => ?_) (fun σ G h => ?_)
 ·obtain ⟨us, fs, o3, o4, rfl, s, hD, hb, _⟩ := h
  exact ⟨rfl, us, hD, hb⟩
 ·obtain ⟨us, fs, o3, o4, rfl, s, hD, hb, hF, nd, hm, ht, ho⟩ := h
  exact gsh fun k hk => ⟨⟨_, (ho k hk).1⟩, (ho k hk).2⟩
 ·obtain ⟨us, fs, o3, o4, rfl, s, hD, hb, hF, nd, hm, ht, ho⟩ := h
  have t3 := SB.new (ps := []) hz (.lst [])
  exact ⟨us, fs, o3, o4, rfl, s.trans t3.nil, t3.keep _ _ hD nmn, hb.sb t3 Gr.noList_enc, t3.keep _ _ hF nmn, nd, hm, ht, ho⟩
 ·obtain ⟨us, fs, o3, o4, rfl, s, hD, hb, hF, nd, hm, ht, ho⟩ := h
  obtain ⟨xo, xd⟩ := ho x (by simp)
  refine pop_left (K := K) (j := 2) rfl hD hb Gr.noList_enc fun us' u H5 s5 hD5 hus5 hu5 hne => ?_
  have hu5 : GA K H5 u x := hu5
  have hF5 : H5 F = some (.dK (tK fs)) := (hne F FD).trans hF
  obtain ⟨c, xs, rfl, hsc, hbc⟩ := GA_bears hu5
  have s05 : SB [F, D] H H5 := s.trans (s5.mono fun _ z => mcm _ z)
  refine ⟨c, rfl, ⟨xs, hsc⟩, ?_⟩
  have xl := hbc.length
  have jl := hus5.length
  have jt : us'.length <= 101 := by
   rw [gTo_app] at ht
   have h1 := len_gTo js
   omega
  have xp := x.len_parts
  have htx : gTo js + (1 + x.parts) <= 101 := by
   rw [gTo_app] at ht
   have : gTo [x] = 1 + x.parts + 0 := rfl
   omega
  refine for_it (walk_tup (xs := xs)) (fun i σ G => ∃ (us2 : List V) (f2 : List Str) (o3 o4 : Option V), σ = [some v, some (.ref F), some (.ref D), o3, o4] /\ SB [F, D] H5 G /\ G D = some (.lst us2) /\ Bears K G Gr.enc us2 (js ++ (x.ps.take i).map (·.1.2)) /\ G F = some (.dK (tK f2)) /\ f2.Nodup /\ (∀ y, y ∈ f2 ↔ y ∈ fs \/ ∃ p ∈ x.ps.take i, y = p.1.1)) ⟨us', fs, o3, o4, rfl, SB.refl, hD5, by simpa using hus5, hF5, nd, by simp⟩ (fun i σ G hi h => ?_) (fun i y σ G G' hi h hy => ?_) (fun σ G h => ?_)
  ·obtain ⟨_, _, _, _, _, s, _⟩ := h
   exact s.sqT hsc
  ·obtain ⟨us2, f2, o3, o4, rfl, s6, hD6, hb6, hF6, nd6, hm6⟩ := h
   obtain ⟨rfl, ey⟩ := hy
   obtain ⟨p, ep, hp⟩ := hbc.get ey
   have pm := List.mem_of_getElem? ep
   obtain ⟨a, b, w', rfl, ha, hb', hw, _⟩ := PA_parts hp
   refine ⟨a, _, rfl, s6.sqT ha, rfl, _, _, rfl, _, _, rfl, rfl, ?_⟩
   have hb7 : SqT K G' b [.str p.1.1, w'] := s6.sqT hb'
   have fl := hnm f2 nd6 fun z hz => (hm z).mpr ((hm6 z).mp hz |>.elim .inl fun ⟨p, hp, e⟩ => .inr ⟨x, by simp, nm_ps.mpr ⟨p, List.mem_of_mem_take hp, .inl e⟩⟩)
   refine ⟨_, rfl, _, rfl, b, _, _, _, rfl, rfl, hb7, atI_nat (j := 0) rfl, F, _, rfl, DPut.k (k := Sum.inr p.1.1) hF6 (by rw [List.length_map]; omega), ?_⟩
   have t7 := SB.setD (ps := [F, D]) hF6 (by simp) (.dK (putK (tK f2) (Sum.inr p.1.1) (.bl true)))
   have hD7 : upd G' F (.dK (putK (tK f2) (Sum.inr p.1.1) (.bl true))) D = some (.lst us2) := by rw [upd_ne (Ne.symm FD)]; exact hD6
   have hF7 : upd G' F (.dK (putK (tK f2) (Sum.inr p.1.1) (.bl true))) F = some (.dK (tK (addN f2 p.1.1))) := by rw [upd_same, tK_put]
   generalize upd G' F (.dK (putK (tK f2) (Sum.inr p.1.1) (.bl true))) = H7 at t7 hD7 hF7 ⊢
   have hb8 := hb6.sb t7 Gr.noList_enc
   have ul := hb8.length
   have il : ((x.ps.take i).map (·.1.2)).length <= x.ps.length := by rw [List.length_map, List.length_take]; omega
   rw [List.length_append] at ul
   refine ⟨_, rfl, .inl ⟨rfl, _, SqL.of hD7⟩, _, rfl, b, _, _, _, rfl, rfl, t7.sqT hb7, atI_nat (j := 1) rfl, D, us2, _, rfl, rfl, hD7, small1000 (by omega), ?_⟩
   have t8 := SB.set (ps := [F, D]) hD7 (by simp) (.lst (us2 ++ [w']))
   have etk : x.ps.take (i + 1) = x.ps.take i ++ [p] := by rw [List.take_add_one, ep]; rfl
   refine ⟨us2 ++ [w'], addN f2 p.1.1, _, _, rfl, (s6.trans t7).trans t8, upd_same, ?_, ?_, addN_nd nd6 _, fun y => ?_⟩
   ·rw [etk, List.map_append, <- List.append_assoc]
    exact Bears.append (hb8.sb t8 Gr.noList_enc) (.cons (((hw.sb s6).sb t7).sb t8) .nil)
   ·rw [upd_ne FD]; exact hF7
   ·rw [etk, addN_mem, hm6 y]
    constructor
    ·rintro ((h | ⟨q, hq, e⟩) | h)
     ·exact .inl h
     ·exact .inr ⟨q, mal _ hq, e⟩
     ·exact .inr ⟨p, by simp, h⟩
    ·rintro (h | ⟨q, hq, e⟩)
     ·exact .inl (.inl h)
     ·rcases List.mem_append.mp hq with hq | hq
      ·exact .inl (.inr ⟨q, hq, e⟩)
      ·rw [List.mem_singleton.mp hq] at e
       exact .inr e
  ·obtain ⟨us2, f2, o3, o4, rfl, s6, hD6, hb6, hF6, nd6, hm6⟩ := h
   rw [xl, List.take_length] at hb6 hm6
   refine ⟨_, ?_, us2, f2, o3, o4, rfl, s05.trans s6, hD6, hb6, hF6, nd6, fun y => ?_, ?_, fun k hk => ?_⟩
   ·rw [gTo_app, gTo_app, gTo_ps, Gr.tot_ps]
    show _ < _ + (1 + x.parts + 0)
    omega
   ·rw [hm y, hm6 y]
    constructor
    ·rintro (h | ⟨k, hk, h⟩)
     ·exact .inl (.inl h)
     ·rcases List.mem_append.mp hk with hk | hk
      ·exact .inr ⟨k, mal _ hk, h⟩
      ·rw [List.mem_singleton.mp hk] at h
       obtain ⟨p, hp, e | e⟩ := nm_ps.mp h
       ·exact .inl (.inr ⟨p, hp, e⟩)
       ·exact .inr ⟨p.1.2, mar _ (List.mem_map.mpr ⟨p, hp, rfl⟩), e⟩
    ·rintro ((h | ⟨p, hp, e⟩) | ⟨k, hk, h⟩)
     ·exact .inl h
     ·exact .inr ⟨x, by simp, nm_ps.mpr ⟨p, hp, .inl e⟩⟩
     ·rcases List.mem_append.mp hk with hk | hk
      ·exact .inr ⟨k, mal _ hk, h⟩
      ·obtain ⟨p, hp, rfl⟩ := List.mem_map.mp hk
       exact .inr ⟨x, by simp, nm_ps.mpr ⟨p, hp, .inr h⟩⟩
   ·rw [gTo_app, gTo_ps, Gr.tot_ps]
    omega
   ·rcases List.mem_append.mp hk with hk | hk
    ·exact ho k (mal _ hk)
    ·obtain ⟨p, hp, rfl⟩ := List.mem_map.mp hk
     have := x.mem_deep p hp
     exact ⟨((Gr.ok_iff.mp xo).1 p hp).2.1, by omega⟩
 ·obtain ⟨us, fs, o3, o4, rfl, s, hD, hb, hF, nd, hm, ht, ho⟩ := h
  rw [tK_nKV] at hF
  refine ⟨_, rfl, F, _, fs, rfl, hF, by simp, Nat.lt_of_le_of_lt (hnm fs nd fun x hx => (hm x).mpr (.inl hx)) (by decide), fun ss p pm srt np => ?_⟩
  have t9 := SB.new (ps := []) np (.lst (ss.map V.str))
  have s9 := (s.trans t9.nil).drops2 nF nD0
  exact q p ss _ s9 (s.dom _ np) upd_same (SrtOf.perm pm srt nd fun x => by rw [hm x]; simp)
abbrev N__law_leads : List Str := ["_law_told", "_law_found", "_law_name", "_law_truth", "_law_rules", "_law_once", "_law_each"]
theorem sc__law_leads : FnScope N__law_leads ["_law_told"] (defScope s__law_leads) := ⟨rfl, rfl, rfl, by decide +kernel, rfl, by decide +kernel, by decide +kernel⟩
theorem ok__law_leads (B : BI mg) (G__law_inside : Got P w K mg base "_law_inside" ["_law_grove"] (1) (spInside67 K)) (F : Fun K "_law_leads" "_law_leads" s__law_leads f fd) : FnOk P w K mg base CX0 (2) f fd ["_law_told"] (spLeads67 K) := by
 refine F.ok sc__law_leads (fun vs H Q E h => ?_) (fun cdv A outer s H vs Q E hr h => ?_)
 ·obtain ⟨l, xs, b, rfl, _⟩ := h
  rfl
 obtain ⟨l, xs, b, rfl, hl, hka, ok, q⟩ := h
 have hun2 := hunT hr
 refine ⟨_, pss_cons (ps_set (i := 1) sc__law_leads.nd rfl (.inl rfl) pe_dnewK)
  (pss_cons (ps_for PassesOwn.never rfl (pi_list (pv 0)) (pg_tup rfl (pgs_cons (pg_name (i := 2) sc__law_leads.nd rfl (.inl rfl)) (pgs_cons (pg_name (i := 3) sc__law_leads.nd rfl (.inl rfl)) (pgs_cons (pg_name (i := 4) sc__law_leads.nd rfl (.inl rfl)) pgs_nil))))
   (pss_cons (ps_dput (by show A.units + 3 + 1 < cLine; omega) (pv 1) (pv 2) (pe_lst pa_nil) rfl)
  (pss_one (ps_for PassesOwn.never rfl (pi_list (pv 4)) (pg_tup rfl (pgs_cons (pg_name (i := 5) sc__law_leads.nd rfl (.inl rfl)) (pgs_cons (pg_name (i := 6) sc__law_leads.nd rfl (.inl rfl)) pgs_nil)))
   (pss_one (ps_dput (by show A.units + 3 + 1 < cLine; omega) (pv 1) (pv 2) (pe_op op_cat (pe_op op_cat (pe_dget (by show A.units + 3 + 1 < cLine; omega) (pv 1) (pv 2) (fun _ _ => rfl)) (pe_got G__law_inside (hr.mono (by omega)) rfl (pa_cons (pv 5) pa_nil))) (pe_got G__law_inside (hr.mono (by omega)) rfl (pa_cons (pv 6) pa_nil))) rfl))))))
  (pss_one (ps_ret (pv 1)))), ?_⟩
 have szl := sizeLine_eq
 have b8 := ok.len
 have xl := hka.length
 intro D nD
 have t1 := SB.new (ps := []) nD (.dK [])
 have hD1 : upd H D (.dK []) D = some (.dK []) := upd_same
 generalize upd H D (.dK []) = H1 at t1 hD1
 refine ⟨_, rfl, l, rfl, ⟨_, SqL.of (t1.keep _ _ hl nmn)⟩, ?_⟩
 refine for_it (walk_list (xs := xs)) (fun i σ H2 => ∃ (us : List V) (o2 o3 o4 o5 o6 : Option V), σ = [some (.ref l), some (.ref D), o2, o3, o4, o5, o6] /\ SB [D] H1 H2 /\ H2 D = some (.dK (nKV (b.names.take i) us)) /\ PairedL (fun v kd => LdE H2 [D] kd v) us (b.take i))
  ⟨[], none, none, none, none, none, rfl, SB.refl, hD1, .nil⟩ (fun i σ H2 hi h2 => by obtain ⟨_, _, _, _, _, _, _, s, _⟩ := h2; exact (((t1.nil (ps := [D])).trans s).drop nD).sqL nmn (SqL.of hl)) (fun i x σ Hq H2 hi h2 y => ?_) (fun σ H2 h2 => ?_)
 ·obtain ⟨us, o2, o3, o4, o5, o6, rfl, s2, hD2, hk2⟩ := h2
  obtain ⟨rfl, ey⟩ := y
  obtain ⟨k, ek, t, r, zs, rfl, h1, h2, h3, _⟩ := hka.get ey
  have s02 : SB [] H H2 := ((t1.nil (ps := [D])).trans s2).drop nD
  have km := List.mem_of_getElem? ek
  obtain ⟨kn, r4, rr⟩ := ok.kd k km
  have kl := hk2.length
  have lt : (b.names.take i).length = (b.take i).length := by rw [List.length_take, List.length_take, List.length_map]
  have ul : us.length = (b.names.take i).length := by omega
  have b8' : (b.take i).length <= 8 := by rw [List.length_take]; omega
  have hkeys : (nKV (b.names.take i) us).map (·.1) = (b.names.take i).map Sum.inr := zk_keys (ns := b.names.take i) (us := us) ul
  have hlen : (nKV (b.names.take i) us).length <= 8 := by
   have := congrArg List.length hkeys
   rw [List.length_map, List.length_map] at this
   omega
  have hnot : k.n ∉ b.names.take i := by
   rw [<- List.map_take]; exact fun z => take_fresh ok.nd ek z
  have hnew : ∀ p ∈ nKV (b.names.take i) us, p.1 ≠ Sum.inr k.n := fun p hp z => by
   have : p.1 ∈ (nKV (b.names.take i) us).map (·.1) := List.mem_map_of_mem hp
   rw [hkeys, z] at this
   obtain ⟨y, hy, e⟩ := List.mem_map.mp this
   cases e
   exact hnot hy
  refine ⟨t, _, rfl, s02.sqT h1, rfl, _, _, rfl, _, _, rfl, _, _, rfl, rfl, ?_⟩
  refine ⟨by show 0 <= sizeLine; decide, fun L nL => ?_⟩
  have t3 := SB.new (ps := []) nL (.lst [])
  have hL3 : upd H2 L (.lst []) L = some (.lst []) := upd_same
  have LD : L ≠ D := fun z => by rw [z, hD2] at nL; cases nL
  have hD3 := t3.keep _ _ hD2 nmn
  generalize upd H2 L (.lst []) = H3 at t3 hL3 hD3
  refine ⟨_, rfl, _, rfl, D, _, rfl, DPut.k (k := Sum.inr k.n) hD3 (by omega), ?_⟩
  have t4 : SB [D] H3 (upd H3 D (.dK (putK (nKV (b.names.take i) us) (Sum.inr k.n) (.ref L)))) := SB.setD hD3 (by simp) _
  rw [putK_new hnew] at t4 ⊢
  have hD4 : upd H3 D (.dK (nKV (b.names.take i) us ++ [(Sum.inr k.n, .ref L)])) D = some (.dK (nKV (b.names.take i) us ++ [(Sum.inr k.n, .ref L)])) := upd_same
  have hL4 := t4.keep _ _ hL3 (by simpa using LD)
  have hk4 : PairedL (fun v kd => LdE (upd H3 D (.dK (nKV (b.names.take i) us ++ [(Sum.inr k.n, .ref L)]))) [D] kd v) us (b.take i) := hk2.mono fun _ _ z => (z.sb t3 (fun _ z => nomatch z)).sb t4 fun x hx => .inl hx
  have s4 := (s2.trans t3.nil).trans t4
  generalize upd H3 D (.dK (nKV (b.names.take i) us ++ [(Sum.inr k.n, .ref L)])) = H4 at t4 hD4 hL4 hk4 s4
  have s04 : SB [] H H4 := ((t1.nil (ps := [D])).trans s4).drop nD
  have zl := h3.length
  refine ⟨_, rfl, r, rfl, ⟨_, SqL.of (s04.keep _ _ h2 nmn)⟩, ?_⟩
  refine for_it (walk_list (xs := zs)) (fun j σ H5 => ∃ (M : Addr) (ss : List Str) (p5 p6 : Option V), σ = [some (.ref l), some (.ref D), some (.str k.n), some (.bl k.w), some (.ref r), p5, p6] /\ SB [D] H1 H5 /\ H5 D = some (.dK (nKV (b.names.take i) us ++ [(Sum.inr k.n, .ref M)])) /\ H5 M = some (.lst (ss.map V.str)) /\ (∀ n, n ∈ ss ↔ n ∈ ledR (k.rs.take j)) /\ ss.length <= 16 * j /\ M ≠ D /\ PairedL (fun v kd => LdE H5 [D] kd v) us (b.take i))
   ⟨L, [], o5, o6, rfl, s4, hD4, hL4, fun _ => Iff.rfl, Nat.zero_le _, LD, hk4⟩ (fun j σ H5 hj h5 => by obtain ⟨_, _, _, _, _, s, _⟩ := h5; exact (((t1.nil (ps := [D])).trans s).drop nD).sqL nmn (SqL.of h2)) (fun j x σ Hq H5 hj h5 y => ?_) (fun σ H5 h5 => ?_)
  ·obtain ⟨M, ss, p5, p6, rfl, s5, hD5, hM5, hm5, l5, MD, hk5⟩ := h5
   obtain ⟨rfl, ey⟩ := y
   obtain ⟨ru, er, hr⟩ := h3.get ey
   have rm := List.mem_of_getElem? er
   have ro := (rr ru rm).1
   have rin := (rr ru rm).2
   have r4' := ro.2.2
   have s05 : SB [] H H5 := ((t1.nil (ps := [D])).trans s5).drop nD
   have d1 := ru.1.deep_parts
   have d2 := ru.2.deep_parts
   have nml : b.names.length <= 8 := by rw [List.length_map]; omega
   have j4 : j < 4 := by
    have := (List.getElem?_eq_some_iff.mp er).1
    omega
   cases (hr : Dp K H x (.tuple [ru.1.enc, ru.2.enc])) with
   | @tup ad us' _ hs' hda =>
   cases hda with
   | cons g1 hda =>
   cases hda with
   | cons g2 hda =>
   cases hda
   rename_i u1 u2
   refine ⟨ad, _, rfl, s05.sqT hs', rfl, _, _, rfl, _, _, rfl, rfl, ?_⟩
   have hv : valV (nKV (b.names.take i) us ++ [(Sum.inr k.n, V.ref M)]) (Sum.inr k.n) = some (.ref M) := valV_last hnew
   have n1 : Gr.Named b.names ru.1 := fun y hy => rin y (mal _ hy)
   have n2 : Gr.Named b.names ru.2 := fun y hy => rin y (mar _ hy)
   have few : ∀ {ss : List Str} {g : Gr}, SrtOf ss (g.within.map (·.1.1)) -> Gr.Named b.names g -> ss.length <= 8 := fun so hn => Nat.le_trans (List.Nodup.length_le_of_subset so.nd fun y hy => by
    obtain ⟨z, hz, e⟩ := List.mem_map.mp ((so.mem y).mp hy)
    rw [<- e]; exact hn z hz) nml
   refine ⟨_, rfl, _, rfl, D, _, rfl, getK hD5 hv, ?_⟩
   refine ⟨_, rfl, u1, ru.1, b.names, _, rfl, GA.sb g1 s05, ro.1, by omega, by omega, n1, by omega, fun l1 s1 H6 s6 nl1 hl1 so1 => ?_⟩
   have f1 := few so1 n1
   have hM6 := s6.keep _ _ hM5 nmn
   refine ⟨M, l1, _, _, rfl, rfl, hM6, hl1, by rw [List.length_map, List.length_map]; omega, fun N nN => ?_⟩
   have t7 := SB.new (ps := []) nN (.lst (ss.map V.str ++ s1.map V.str))
   have hN7 : upd H6 N (.lst (ss.map V.str ++ s1.map V.str)) N = some (.lst (ss.map V.str ++ s1.map V.str)) := upd_same
   generalize upd H6 N (.lst (ss.map V.str ++ s1.map V.str)) = H7 at t7 hN7
   refine ⟨_, rfl, u2, ru.2, b.names, _, rfl, GA.sb g2 ((s05.trans s6).trans t7), ro.2.1, by omega, by omega, n2, by omega, fun l2 s2' H8 s8 nl2 hl2 so2 => ?_⟩
   have f2 := few so2 n2
   refine ⟨N, l2, _, _, rfl, rfl, s8.keep _ _ hN7 nmn, hl2, by rw [List.length_append, List.length_map, List.length_map, List.length_map]; omega, fun T nT => ?_⟩
   have t9 := SB.new (ps := []) nT (.lst (ss.map V.str ++ s1.map V.str ++ s2'.map V.str))
   have hT9 : upd H8 T (.lst (ss.map V.str ++ s1.map V.str ++ s2'.map V.str)) T = some (.lst ((ss ++ s1 ++ s2').map V.str)) := by rw [upd_same, List.map_append, List.map_append]
   have s59 := ((s6.trans t7).trans s8).trans t9
   have hD8 := ((s6.trans t7).trans s8).keep _ _ hD5 nmn
   have TD : T ≠ D := fun z => by rw [z, hD8] at nT; cases nT
   generalize upd H8 T (.lst (ss.map V.str ++ s1.map V.str ++ s2'.map V.str)) = H9 at t9 hT9 s59
   have hD9 := t9.keep _ _ hD8 nmn
   refine ⟨_, rfl, _, rfl, D, _, rfl, DPut.k (k := Sum.inr k.n) hD9 (by rw [List.length_append, List.length_singleton]; omega), ?_⟩
   have t11 : SB [D] H9 (upd H9 D (.dK (putK (nKV (b.names.take i) us ++ [(Sum.inr k.n, .ref M)]) (Sum.inr k.n) (.ref T)))) := SB.setD hD9 (by simp) _
   rw [putK_last hnew] at t11 ⊢
   refine ⟨T, ss ++ s1 ++ s2', _, _, rfl, (s5.trans s59.nil).trans t11, upd_same, t11.keep _ _ hT9 (by simpa using TD), fun n => ?_, by rw [List.length_append, List.length_append]; omega, TD, ?_⟩
   ·rw [ledR_snoc er, List.mem_append, List.mem_append, List.mem_append, hm5 n, so1.mem n, so2.mem n, Gr.ins_within, Gr.ins_within, <- List.map_append, List.map_map, List.map_append, List.mem_append, or_assoc]; rfl
   ·exact hk5.mono fun _ _ z => (z.sb s59 (fun _ z => nomatch z)).sb t11 fun x hx => .inl hx
  ·obtain ⟨M, ss, p5, p6, rfl, s5, hD5, hM5, hm5, l5, MD, hk5⟩ := h5
   rw [zl, List.take_length] at hm5
   refine ⟨us ++ [.ref M], _, _, _, _, _, rfl, s5, ?_, ?_⟩
   ·rw [hD5, <- putK_new hnew (v := .ref M), nKV_put ul hnot, List.take_add_one, List.getElem?_map, ek]; rfl
   ·rw [List.take_add_one, ek]
    exact hk5.append (.cons ⟨M, ss, rfl, hM5, hm5, by omega, by simpa using MD⟩ .nil)
 obtain ⟨us, o2, o3, o4, o5, o6, rfl, s2, hD2, hk2⟩ := h2
 have s02 : SB [] H H2 := ((t1.nil (ps := [D])).trans s2).drop nD
 rw [xl, List.take_length] at hk2
 rw [xl, List.take_of_length_le (by rw [List.length_map]; omega)] at hD2
 exact ⟨_, rfl, q D H2 s02 nD ⟨us, hD2, hk2.mono fun _ _ z => z.less (fun _ z => nomatch z)⟩⟩
abbrev N__law_come : List Str := ["_law_leads_here", "_law_name", "_law_found", "_law_left", "_law_one"]
theorem sc__law_come : FnScope N__law_come ["_law_leads_here", "_law_name"] (defScope s__law_come) := ⟨rfl, rfl, rfl, by decide +kernel, rfl, by decide +kernel, by decide +kernel⟩
theorem ok__law_come (B : BI mg) (F : Fun K "_law_come" "_law_come" s__law_come f fd) : FnOk P w K mg base CX0 (1) f fd ["_law_leads_here", "_law_name"] (spCome67 K) := by
 refine F.ok sc__law_come (fun vs H Q E h => ?_) (fun cdv A outer s H vs Q E hr h => ?_)
 ·obtain ⟨d, b, n, rfl, _⟩ := h
  rfl
 obtain ⟨d, b, n, rfl, hd, ok, hn, q⟩ := h
 have hun2 := hunT hr
 refine ⟨_, pss_cons (ps_set (i := 2) sc__law_come.nd rfl (.inl rfl) pe_dnewK)
  (pss_cons (ps_set (i := 3) sc__law_come.nd rfl (.inl rfl) (pe_callTy call_list_of rfl B.list boot_list (pa_cons (pe_dget (by show A.units + 3 + 1 < cLine; omega) (pv 0) (pv 1) (fun _ _ => rfl)) pa_nil)))
  (pss_cons (ps_while PassesOwn.never (pt_cmpR (op_neD (by show A.units + 3 + 64 < cLine; omega)) (pv 3) (pe_lst pa_nil) (nomark _)) (pss_cons (ps_set (i := 4) sc__law_come.nd rfl (.inl rfl) (pe_bm0 PySem.F.plainAttrs_list PySem.F.slot_list_pop PySem.F.type_list_pop mt_pop (pv 3)))
  (pss_one (ps_if (pt_cmp (pc_dnotin (by show A.units + 3 + 1 < cLine; omega) (pv 4) (pv 2))) (pss_cons (ps_dput (by show A.units + 3 + 1 < cLine; omega) (pv 2) (pv 4) pe_bl rfl)
  (pss_one (ps_expr (pe_bm PySem.F.plainAttrs_list PySem.F.slot_list_extend PySem.F.type_list_extend mt_extend (pv 3) (pa_cons (pe_dget (by show A.units + 3 + 1 < cLine; omega) (pv 0) (pv 4) (fun _ _ => rfl)) pa_nil))))) pss_nil))))
  (pss_one (ps_ret (pv 2))))), ?_⟩
 have szl := sizeLine_eq
 intro F0 nF
 have t1 := SB.new (ps := []) nF (.dK [])
 have hF1 : upd H F0 (.dK []) F0 = some (.dK (tK [])) := upd_same
 have hd1 := hd.sb t1 nmn (fun _ z => nomatch z)
 generalize upd H F0 (.dK []) = H1 at t1 hF1 hd1 ⊢
 obtain ⟨k0, eg0⟩ : ∃ k, b.get n = some k := Bk.get_of hn
 obtain ⟨v0, g0, ⟨l0, ss0, rfl, hl0, hm0, hc0, _⟩⟩ := hd1.val eg0
 refine ⟨_, rfl, _, rfl, d, _, rfl, g0, l0, _, rfl, .inl (SqL.of hl0), fun W nW => ?_⟩
 have t2 := SB.new (ps := []) nW (.lst (ss0.map V.str))
 have hW2 : upd H1 W (.lst (ss0.map V.str)) W = some (.lst (ss0.map V.str)) := upd_same
 have hF2 := t2.keep _ _ hF1 nmn
 have FW : F0 ≠ W := ne_of_none hF1 nW
 have nW0 : H W = none := t1.dom _ nW
 have s02 : SB [F0, W] H (upd H1 W (.lst (ss0.map V.str))) := (t1.trans t2).nil
 generalize upd H1 W (.lst (ss0.map V.str)) = H2 at t2 hW2 hF2 s02
 have dF : d ≠ F0 := hd.ne nF
 have dW : d ≠ W := hd.ne nW0
 have mz := misN_le b []
 have b8 := ok.len
 refine ⟨fun m σ H5 => ∃ (fs ws : List Str) (o4 : Option V), m = ws.length + 1001 * misN b fs /\ σ = [some (.ref d), some (.str n), some (.ref F0), some (.ref W), o4] /\ SB [F0, W] H H5 /\ H5 F0 = some (.dK (tK fs)) /\ H5 W = some (.lst (ws.map V.str)) /\ fs.Nodup /\ ws.length + 1001 * misN b fs <= 9008 /\ (∀ x ∈ ws, Rch b n x) /\ (∀ x ∈ fs, Rch b n x) /\ ∀ x, x = n \/ x ∈ fs -> ∀ y ∈ adj b x, y ∈ fs \/ y ∈ ws,
  ⟨_, [], ss0, _, rfl, rfl, s02, hF2, hW2, List.nodup_nil, by omega, fun x hx => .one (by rw [adj_get eg0]; exact (hm0 x).mp hx), (fun _ z => nomatch z), fun x hx y hy => by
   have e : x = n := by simpa using hx
   rw [e, adj_get eg0] at hy
   exact .inr ((hm0 y).mpr hy)⟩, fun m σ H5 hW => ?_⟩
 clear hF2 hW2 t2 t1 hF1 s02 nW hd1 hl0 g0
 obtain ⟨fs, ws, o4, rfl, rfl, s5, hF5, hW5, nd, b1, wr, fr, cl⟩ := hW
 refine ⟨_, rfl, by show 0 <= sizeLine; decide, fun Z nZ => ?_⟩
 have t6 := SB.new (ps := []) nZ (.lst [])
 have hZ6 : upd H5 Z (.lst []) Z = some (.lst []) := upd_same
 generalize upd H5 Z (.lst []) = H6 at t6 hZ6
 have s6 := s5.trans t6.nil
 have hF6 := t6.keep _ _ hF5 nmn
 have hW6 := t6.keep _ _ hW5 nmn
 have wsn : ∀ x ∈ ws, x ∈ b.names := fun x hx => (wr x hx).mem ok
 refine ⟨.list (ws.map .str), .list [], .lst (SqL.of hW6) (strs_dp K H6 ws), .lst (SqL.of hZ6) .nil, strs_shaped fun x hx => ok.names x (wsn x hx), by decide +kernel, _, rfl, ?_⟩
 by_cases ehs : ws = []
 ·subst ehs
  exact iteF ⟨_, rfl, q F0 fs H6 (s6.drops2 nF nW0) nF hF6 fun x => ⟨fr x, fun r => rch_closed (fun x hx y hy => (cl x hx y hy).resolve_right (by simp)) r⟩⟩
 rw [show (!PyData.eqv (.list (ws.map .str)) (.list [])) = true by
  cases h : ws with
  | nil => exact absurd h ehs
  | cons _ _ => simp [PyData.eqv, PyData.eqvAll]]
 refine iteT ⟨_, fun σ' H' h => h, ?_⟩
 obtain ⟨js, h, rfl⟩ : ∃ js h, ws = js ++ [h] := by
  rcases List.eq_nil_or_concat ws with e | ⟨js, h, e⟩
  ·exact absurd e ehs
  ·exact ⟨js, h, by rw [e, List.concat_eq_append]⟩
 have hb6 := bears_strs (K := K) (H := H6) (js ++ [h])
 refine pop_left (j := 3) (enc := PyData.str) rfl hW6 hb6 (fun _ => rfl) (fun us' u H7 s7 hW7 hb7 hu oth => ?_)
 cases hu
 have eus : us' = js.map V.str := Bears_strs hb7
 subst eus
 clear hb7 hb6
 have hm : Rch b n h := wr h (by simp)
 have hhn := hm.mem ok
 have hF7 : H7 F0 = some (.dK (tK fs)) := by rw [oth F0 FW]; exact hF6
 have s07 : SB [F0, W] H H7 := s6.trans (s7.mono fun _ z => mcm _ z)
 have jl : js.length + 1 + 1001 * misN b fs <= 9008 := by rw [List.length_append] at b1; exact b1
 obtain ⟨kh, egh⟩ := Bk.get_of hhn
 refine ⟨_, rfl, _, rfl, F0, _, rfl, DGet.k (k := Sum.inr h) hF7, ?_⟩
 rw [tK_val]
 by_cases hin : h ∈ fs
 ·rw [decide_eq_true hin]
  refine ⟨_, rfl, iteF ⟨js.length + 1001 * misN b fs, by rw [List.length_append]; show _ < js.length + 1 + _; omega, fs, js, _, rfl, rfl, s07, hF7, hW7, nd, by omega, fun x hx => wr x (mal _ hx), fr, fun x hx y hy => ?_⟩⟩
  rcases cl x hx y hy with hy | hy
  ·exact .inl hy
  ·rcases List.mem_append.mp hy with hy | hy
   ·exact .inr hy
   ·rw [List.mem_singleton.mp hy]; exact .inl hin
 ·rw [decide_eq_false hin]
  refine ⟨_, rfl, iteT ?_⟩
  have nl : fs.length <= 8 := by
   have := List.Nodup.length_le_of_subset nd fun x hx => (fr x hx).mem ok
   rw [List.length_map] at this
   omega
  refine ⟨_, rfl, _, rfl, F0, _, rfl, DPut.k (k := Sum.inr h) hF7 (by rw [List.length_map]; omega), ?_⟩
  have t8 : SB [F0, W] H7 (upd H7 F0 (.dK (putK (tK fs) (Sum.inr h) (.bl true)))) := SB.setD hF7 (by simp) _
  rw [tK_put] at t8 ⊢
  have ea : addN fs h = fs ++ [h] := if_neg hin
  rw [ea] at t8 ⊢
  have hF8 : upd H7 F0 (.dK (tK (fs ++ [h]))) F0 = some (.dK (tK (fs ++ [h]))) := upd_same
  have hW8 : upd H7 F0 (.dK (tK (fs ++ [h]))) W = some (.lst (js.map V.str)) := by rw [upd_ne (Ne.symm FW)]; exact hW7
  have hd8 : LdR (upd H7 F0 (.dK (tK (fs ++ [h])))) d b := hd.sb (s07.trans t8) (by simp [dF, dW]) fun x hx => by
   rcases List.mem_cons.mp hx with hx | hx
   ·rw [hx]; exact nF
   ·rw [List.mem_singleton.mp hx]; exact nW0
  generalize upd H7 F0 (.dK (tK (fs ++ [h]))) = H8 at t8 hF8 hW8 hd8
  obtain ⟨v1, g1, ⟨l1, ss1, rfl, hl1, hm1, hc1, _⟩⟩ := hd8.val egh
  have add := misN_add (b := b) (fs := fs) (more := [h]) (fun x hx => by rw [List.mem_singleton.mp hx]; exact ⟨hhn, hin⟩) (by simp)
  have e1 : [h].length = 1 := rfl
  refine ⟨_, rfl, .inl ⟨rfl, _, SqL.of hW8⟩, _, rfl, _, rfl, d, _, rfl, g1, W, l1, _, _, rfl, rfl, hW8, hl1, by rw [List.length_map, List.length_map]; omega, ?_⟩
  have t9 := SB.set (ps := [F0, W]) hW8 (by simp) (.lst (js.map V.str ++ ss1.map V.str))
  refine ⟨(js ++ ss1).length + 1001 * misN b (fs ++ [h]), by rw [List.length_append, List.length_append]; omega, fs ++ [h], js ++ ss1, _, rfl, rfl, (s07.trans t8).trans t9, by rw [upd_ne FW]; exact hF8, by rw [upd_same, List.map_append], List.nodup_append.mpr ⟨nd, by simp, fun a ha c hc => by rw [List.mem_singleton.mp hc]; exact fun e => hin (e ▸ ha)⟩, by rw [List.length_append]; omega, fun x hx => ?_, fun x hx => ?_, fun x hx y hy => ?_⟩
  ·rcases List.mem_append.mp hx with hx | hx
   ·exact wr x (mal _ hx)
   ·exact .step hm (by rw [adj_get egh]; exact (hm1 x).mp hx)
  ·rcases List.mem_append.mp hx with hx | hx
   ·exact fr x hx
   ·rw [List.mem_singleton.mp hx]; exact hm
  ·have old : ∀ z, z ∈ fs \/ z ∈ js ++ [h] -> z ∈ fs ++ [h] \/ z ∈ js ++ ss1 := fun z hz => by
    rcases hz with hz | hz
    ·exact .inl (mal _ hz)
    ·rcases List.mem_append.mp hz with hz | hz
     ·exact .inr (mal _ hz)
     ·exact .inl (mar _ hz)
   rcases hx with hx | hx
   ·exact old y (cl x (.inl hx) y hy)
   ·rcases List.mem_append.mp hx with hx | hx
    ·exact old y (cl x (.inr hx) y hy)
    ·rw [List.mem_singleton.mp hx, adj_get egh] at hy
     exact .inr (mar _ ((hm1 y).mpr hy))
abbrev N__law_endless : List Str := ["_law_told", "_law_leads_here", "_law_rings", "_law_found", "_law_name", "_law_here", "_law_one"]
theorem sc__law_endless : FnScope N__law_endless ["_law_told"] (defScope s__law_endless) := ⟨rfl, rfl, rfl, by decide +kernel, rfl, by decide +kernel, by decide +kernel⟩
theorem ok__law_endless (B : BI mg) (G__law_leads : Got P w K mg base "_law_leads" ["_law_told"] (2) (spLeads67 K)) (G__law_come : Got P w K mg base "_law_come" ["_law_leads_here", "_law_name"] (1) (spCome67 K)) (F : Fun K "_law_endless" "_law_endless" s__law_endless f fd) : FnOk P w K mg base CX0 (3) f fd ["_law_told"] (spEndl67 K) := by
 refine F.ok sc__law_endless (fun vs H Q E h => ?_) (fun cdv A outer s H vs Q E hr h => ?_)
 ·obtain ⟨l, xs, b, rfl, _⟩ := h
  rfl
 obtain ⟨l, xs, b, rfl, hl, hka, ok, q⟩ := h
 have hun2 := hunT hr
 refine ⟨_, pss_cons (ps_set (i := 1) sc__law_endless.nd rfl (.inr rfl) (pe_got G__law_leads (hr.mono (by omega)) rfl (pa_cons (pv 0) pa_nil)))
  (pss_cons (ps_lock (ps_setLc (i := 2) (own := [("_law_name", 4)]) (g := (gName 4)) (tt := (tB (tDIn (tVar 4) (tCall (spCome67 K) [] E0 (tCons (tVar 1) (tCons (tVar 4) tNil)))))) (te := (tVar 4)) rfl sc__law_endless.nd rfl rfl (sw_true rfl rfl rfl (by decide +kernel)) (pi_keys (pv 1)) (blkOk_by (N := N__law_endless) (sc := defScope s__law_endless) (by decide +kernel)) (fun _ _ _ _ _ => (pg_name (i := 4) sc__law_endless.nd rfl (.inl rfl))) (fun _ _ _ _ _ => (pts_one (pt_cmp (pc_din (by show A.units + 3 + 1 < cLine; omega) (pv 4) (pe_got G__law_come (hr.mono (by omega)) rfl (pa_cons (pv 1) (pa_cons (pv 4) pa_nil))))))) (fun _ _ _ _ _ => (pv 4))))
  (pss_cons (ps_set (i := 3) sc__law_endless.nd rfl (.inl rfl) (pe_lst pa_nil))
  (pss_cons (ps_lock (ps_for PassesOwn.never rfl (pi_keys (pv 1)) (pg_name (i := 4) sc__law_endless.nd rfl (.inl rfl))
   (pss_cons (ps_set (i := 5) sc__law_endless.nd rfl (.inr rfl) (pe_got G__law_come (hr.mono (by omega)) rfl (pa_cons (pv 1) (pa_cons (pv 4) pa_nil))))
  (pss_one (ps_if (PW.pt (pw_or (pt_cmpR op_in_seq (pv 4) (pv 2) (by rfl)) (pw_or1 (pt_cmpR (op_neD (by show A.units + 3 + 64 < cLine; omega)) (pe_lc (own := [("_law_one", 6)]) (g := (gName 6)) (tt := (tB (tDIn (tVar 6) (tVar 5)))) (te := (tVar 6)) rfl sc__law_endless.nd (pi_list (pv 2)) (blkOk_by (N := N__law_endless) (sc := defScope s__law_endless) (by decide +kernel)) (fun _ _ _ _ _ => (pg_name (i := 6) sc__law_endless.nd rfl (.inl rfl))) (fun _ _ _ _ _ => (pts_one (pt_cmp (pc_din (by show A.units + 3 + 1 < cLine; omega) (pv 6) (pv 5))))) (fun _ _ _ _ _ => (pv 6))) (pe_lst pa_nil) (nomark _))))) (pss_one (ps_expr (pe_bm PySem.F.plainAttrs_list PySem.F.slot_list_append PySem.F.type_list_append mt_append (pv 3) (pa_cons (pv 4) pa_nil)))) pss_nil)))))
  (pss_one (ps_ret (pv 3)))))), ?_⟩
 have szl := sizeLine_eq
 have b8 := ok.len
 have nml : b.names.length = b.length := List.length_map ..
 classical
 refine ⟨_, rfl, l, xs, b, rfl, hl, hka, ok, fun D H2 s02 nD hd2 => ?_⟩
 obtain ⟨us, hD2, hk2⟩ := hd2
 have ul : us.length = b.names.length := by rw [hk2.length]; omega
 have hkeys : (nKV b.names us).map (·.1) = b.names.map Sum.inr := zk_keys (ns := b.names) (us := us) ul
 have kl : (nKV b.names us).length = b.length := by
  have := congrArg List.length hkeys
  rw [List.length_map, List.length_map] at this
  omega
 have kat : ∀ {i : Nat} {k : Key} {v : V}, (nKV b.names us)[i]? = some (k, v) -> ∃ n, b.names[i]? = some n /\ k = Sum.inr n := fun {i k v} e => by
  have h := congrArg (fun l => l[i]?) hkeys
  rw [List.getElem?_map, List.getElem?_map, e] at h
  obtain ⟨n, e1, e2⟩ := Option.map_eq_some_iff.mp h.symm
  exact ⟨n, e1, e2.symm⟩
 refine ⟨D, _, hD2, trivial, fun od => ?_⟩
 have hL : ∀ q ys, H2 q = some (.lst ys) -> upd H2 D (.frz od (.dK (nKV b.names us))) q = some (.lst ys) := fun q ys h => by rw [upd_ne (fun z => by rw [z, hD2] at h; cases h)]; exact h
 have hkL : PairedL (fun v k => LdE (upd H2 D (.frz od (.dK (nKV b.names us)))) [] k v) us b := hk2.mono fun _ _ ⟨l, ss, e, h1, h⟩ => ⟨l, ss, e, hL _ _ h1, h⟩
 have hdL : upd H2 D (.frz od (.dK (nKV b.names us))) D = some (.frz od (.dK (nKV b.names us))) := upd_same
 have un : ∀ H', SB [] (upd H2 D (.frz od (.dK (nKV b.names us)))) H' -> SB [] H2 (upd H' D (.dK (nKV b.names us))) := fun H' s => s.unlock hD2 (fun _ z => nomatch z) (fun _ _ z => nomatch z)
 generalize upd H2 D (.frz od (.dK (nKV b.names us))) = HL at hkL hdL un
 refine ⟨_, rfl, D, od, rfl, .inl ⟨_, hdL, fun R nR => ?_⟩⟩
 refine lc_seq walk_keys nR (by omega) (fun i us _ => us = ((b.names.take i).filter fun n => decide (Rch b n n)).map V.str) rfl (fun H3 s3 => s3.frzs _ _ _ hdL) (fun _ _ _ _ _ h => h) (fun Pv i x Hq H3 us' hi s3 y hR hu fin skip => ?_) (fun us' H3 s3 hD3 hR hu => ?_)
 ·obtain ⟨rfl, k0, v0, ek, rfl⟩ := y
  obtain ⟨n, en, rfl⟩ := kat ek
  have nm := List.mem_of_getElem? en
  have hst := filt_step (fun n => decide (Rch b n n)) en
  have hl3 : LdR H3 D b := LdR.sb ⟨us, .inr ⟨od, hdL⟩, hkL⟩ s3 nmn (fun _ z => nomatch z)
  refine ⟨rfl, _, rfl, _, rfl, _, rfl, D, b, n, rfl, hl3, ok, nm, fun E1 ns H4 s4 nE hE hm => ?_⟩
  refine ⟨E1, _, rfl, DGet.k (k := Sum.inr n) hE, ?_⟩
  rw [tK_val]
  by_cases hr : Rch b n n
  ·rw [decide_eq_true ((hm _).mpr hr)]
   refine ⟨_, rfl, iteT ⟨_, rfl, fin _ _ s4 ?_⟩⟩
   rw [hst, if_pos (decide_eq_true hr), hR]; rfl
  ·rw [decide_eq_false (fun z => hr ((hm _).mp z))]
   refine ⟨_, rfl, iteF (skip _ s4 ?_)⟩
   rw [hst, if_neg (fun z => hr (of_decide_eq_true z)), hR, List.append_nil]
 subst hR
 have hd3 := s3.frzs _ _ _ hdL
 refine ⟨hd3, ?_⟩
 have RD : R ≠ D := fun z => by rw [z, hdL] at nR; cases nR
 have s4 := un _ s3
 have hR4 : upd H3 D (.dK (nKV b.names us)) R = some (.lst ((b.names.filter fun n => decide (Rch b n n)).map V.str)) := by
  rw [upd_ne RD, hD3, kl, <- nml, List.take_length]
 have hD4 : upd H3 D (.dK (nKV b.names us)) D = some (.dK (nKV b.names us)) := upd_same
 have hk4 : PairedL (fun v k => LdE (upd H3 D (.dK (nKV b.names us))) [] k v) us b := hk2.mono fun _ _ z => z.sb s4 (fun _ z => nomatch z)
 generalize upd H3 D (.dK (nKV b.names us)) = H4 at s4 hR4 hD4 hk4
 have s04 := s02.trans s4
 clear hL hkL hdL un hD3 hd3 s3 nR
 have rm : ∀ r, r ∈ b.names.filter (fun n => decide (Rch b n n)) ↔ Rch b r r := fun r => by
  rw [List.mem_filter, decide_eq_true_eq]; exact ⟨fun z => z.2, fun z => ⟨z.mem ok, z⟩⟩
 have rl : (b.names.filter fun n => decide (Rch b n n)).length <= 8 := by
  have h1 := List.length_filter_le (fun n => decide (Rch b n n)) b.names
  omega
 generalize b.names.filter (fun n => decide (Rch b n n)) = rs at hR4 rm rl
 refine ⟨by show 0 <= sizeLine; decide, fun F nF => ?_⟩
 have t5 := SB.new (ps := []) nF (.lst [])
 have hF5 : upd H4 F (.lst []) F = some (.lst []) := upd_same
 have hR5 := t5.keep _ _ hR4 nmn
 have hD5 := t5.keep _ _ hD4 nmn
 have hk5 : PairedL (fun v k => LdE (upd H4 F (.lst [])) [F] k v) us b := hk4.mono fun _ _ z => (z.more nF).sb t5 (fun _ z => nomatch z)
 have nF0 := s04.dom _ nF
 generalize upd H4 F (.lst []) = H5 at t5 hF5 hR5 hD5 hk5
 have s05 := s04.trans t5
 have FD : F ≠ D := fun z => by rw [z, hD5] at hF5; cases hF5
 refine ⟨D, _, hD5, trivial, fun od => ?_⟩
 have hL : ∀ q ys, H5 q = some (.lst ys) -> upd H5 D (.frz od (.dK (nKV b.names us))) q = some (.lst ys) := fun q ys h => by rw [upd_ne (fun z => by rw [z, hD5] at h; cases h)]; exact h
 have hkL : PairedL (fun v k => LdE (upd H5 D (.frz od (.dK (nKV b.names us)))) [F] k v) us b := hk5.mono fun _ _ ⟨l, ss, e, h1, h⟩ => ⟨l, ss, e, hL _ _ h1, h⟩
 have hdL : upd H5 D (.frz od (.dK (nKV b.names us))) D = some (.frz od (.dK (nKV b.names us))) := upd_same
 have un : ∀ H', SB [F] (upd H5 D (.frz od (.dK (nKV b.names us)))) H' -> SB [F] H5 (upd H' D (.dK (nKV b.names us))) := fun H' s => s.unlockP hD5 (fun _ z => nomatch z) (fun _ _ z => nomatch z)
 have hRL := hL _ _ hR5
 have hFL := hL _ _ hF5
 have RF : R ≠ F := fun z => by rw [z, nF] at hR4; cases hR4
 generalize upd H5 D (.frz od (.dK (nKV b.names us))) = HL at hkL hdL un hRL hFL
 refine ⟨_, rfl, D, od, rfl, .inl ⟨_, hdL, ?_⟩⟩
 refine for_it walk_keys (fun i σ G => SB [F] HL G /\ ∃ (o4 o5 o6 : Option V), σ = [some (.ref l), some (.ref D), some (.ref R), some (.ref F), o4, o5, o6] /\ G F = some (.lst (((b.names.take i).filter fun n => decide (¬ EndK b n)).map V.str))) ⟨SB.refl, none, none, none, rfl, hFL⟩ (fun i σ G hi h => h.1.frzs _ _ _ hdL) (fun i x σ Hq G hi h y => ?_) (fun σ G h => ?_)
 ·obtain ⟨s6, o4, o5, o6, rfl, hF6⟩ := h
  obtain ⟨rfl, k0, v0, ek, rfl⟩ := y
  obtain ⟨n, en, rfl⟩ := kat ek
  have nm := List.mem_of_getElem? en
  have hst := filt_step (fun n => decide (¬ EndK b n)) en
  have hl6 : LdR G D b := ⟨us, .inr ⟨od, s6.frzs _ _ _ hdL⟩, hkL.mono fun _ _ z => (z.sb s6 fun x hx => .inl hx).less fun _ z => nomatch z⟩
  refine ⟨_, rfl, _, rfl, D, b, n, rfl, hl6, ok, nm, fun E1 ns H7 s7 nE hE hm => ?_⟩
  have hR7 := (s6.trans s7.nil).keep _ _ hRL (by simpa using RF)
  have hF7 := s7.keep _ _ hF6 nmn
  dsimp only [gName, tIfS]
  refine or_gen (fun Q => ∀ H', SB [] H7 H' -> Q (decide (¬ EndK b n)) H') (fun H9 s9 => ?_) (fun Q hQ => ?_)
  ·have hF9 := s9.keep _ _ hF7 nmn
   have s69 := s6.trans (s7.trans s9).nil
   by_cases he : EndK b n
   ·rw [decide_eq_false (fun z => z he)]
    refine iteF ⟨s69, _, _, _, rfl, ?_⟩
    rw [hF9, hst, if_neg (fun z => (of_decide_eq_true z : ¬ EndK b n) he), List.append_nil]
   ·rw [decide_eq_true he]
    have fl := List.length_filter_le (fun n => decide (¬ EndK b n)) (b.names.take i)
    have tl := List.length_take_le i b.names
    refine iteT ⟨_, rfl, .inl ⟨rfl, _, SqL.of hF9⟩, _, rfl, F, _, _, rfl, rfl, hF9, small1000 (by rw [List.length_map]; have := List.length_take (i := i) (l := b.names); omega), ?_⟩
    have t10 := SB.set (ps := [F]) hF9 (by simp) (.lst (((b.names.take i).filter fun n => decide (¬ EndK b n)).map V.str ++ [kV (Sum.inr n)]))
    refine ⟨s69.trans t10, _, _, _, rfl, ?_⟩
    rw [upd_same, hst, if_pos (decide_eq_true he)]; rfl
  ·refine ⟨_, rfl, _, rfl, R, _, rfl, .inl (SqL.of hR7), rfl, flat_strs _, _, rfl, ?_⟩
   rw [if_neg (by decide), show inV (kV (Sum.inr n)) (rs.map V.str) = decide (n ∈ rs) from inV_strs _ _]
   by_cases hr : n ∈ rs
   ·rw [decide_eq_true hr]
    have ne : ¬ EndK b n := fun z => z.noring ((rm n).mp hr)
    have h := hQ H7 SB.refl
    rw [decide_eq_true ne] at h
    exact iteT h
   ·rw [decide_eq_false hr]
    refine iteF ?_
    refine ⟨_, rfl, R, rfl, ⟨_, SqL.of hR7⟩, fun A nA => ?_⟩
    refine lc_seq (walk_list (xs := rs.map V.str)) nA (by rw [List.length_map]; omega) (fun j us _ => us = ((rs.take j).filter fun y => decide (y ∈ ns)).map V.str) rfl (fun G s => s.sqL nmn (SqL.of hR7)) (fun _ _ _ _ _ h => h) (fun Pv j z Hq' G us hj sG y hR hu fin skip => ?_) (fun us H8 s8 hA8 hR hu => ?_)
    ·obtain ⟨rfl, ez⟩ := y
     rw [List.getElem?_map] at ez
     obtain ⟨sx, ex, rfl⟩ := Option.map_eq_some_iff.mp ez
     have hst2 := filt_step (fun y => decide (y ∈ ns)) ex
     refine ⟨rfl, _, rfl, _, rfl, E1, _, rfl, DGet.k (k := Sum.inr sx) (sG.keep _ _ hE nmn), ?_⟩
     rw [tK_val]
     by_cases h1 : sx ∈ ns
     ·rw [decide_eq_true h1]
      refine ⟨_, rfl, iteT ⟨_, rfl, fin _ _ SB.refl ?_⟩⟩
      rw [hst2, if_pos (decide_eq_true h1), hR]
     ·rw [decide_eq_false h1]
      refine ⟨_, rfl, iteF (skip _ SB.refl ?_)⟩
      rw [hst2, if_neg (fun z => h1 (of_decide_eq_true z)), hR, List.append_nil]
    subst hR
    rw [List.length_map, List.take_length] at hA8
    have memn : ∀ x, x ∈ rs.filter (fun y => decide (y ∈ ns)) ↔ x ∈ rs /\ x ∈ ns := fun x => by rw [List.mem_filter, decide_eq_true_eq]
    generalize rs.filter (fun y => decide (y ∈ ns)) = fl at hA8 memn
    refine ⟨by show 0 <= sizeLine; decide, fun Z nZ => ?_⟩
    have t9 := SB.new (ps := []) nZ (.lst [])
    have hZ9 : upd H8 Z (.lst []) Z = some (.lst []) := upd_same
    have hA9 := t9.keep _ _ hA8 nmn
    have s79 := s8.trans t9
    generalize upd H8 Z (.lst []) = H9 at t9 hZ9 hA9 s79
    refine ⟨.list (fl.map .str), .list [], .lst (SqL.of hA9) (strs_dp K H9 fl), .lst (SqL.of hZ9) .nil, strs_shaped fun x hx => ok.names x (((rm x).mp ((memn x).mp hx).1).mem ok), by decide +kernel, _, rfl, ?_⟩
    have fiff : fl = [] ↔ EndK b n := by
     constructor
     ·intro e
      refine Classical.byContradiction fun z => ?_
      obtain ⟨r, r1, r2⟩ := (endless_iff ok nm).mp z
      have : r ∈ fl := (memn r).mpr ⟨(rm r).mpr r1, r2.elim (fun e => absurd ((rm r).mpr r1) (e ▸ hr)) fun h => (hm r).mpr h⟩
      rw [e] at this; cases this
     ·intro e
      refine List.eq_nil_iff_forall_not_mem.mpr fun r hr => ?_
      obtain ⟨h1, h2⟩ := (memn r).mp hr
      exact (endless_iff ok nm).mpr ⟨r, (rm r).mp h1, .inr ((hm r).mp h2)⟩ e
    have h := hQ H9 s79
    by_cases hz : EndK b n
    ·rw [fiff.mpr hz]
     rw [decide_eq_false (fun z => z hz)] at h
     exact h
    ·rw [show (!PyData.eqv (.list (fl.map .str)) (.list [])) = true by
      cases h : fl with
      | nil => exact absurd (fiff.mp h) hz
      | cons _ _ => simp [PyData.eqv, PyData.eqvAll]]
     rw [decide_eq_true hz] at h
     exact h
 ·obtain ⟨s6, o4, o5, o6, rfl, hF6⟩ := h
  refine ⟨s6.frzs _ _ _ hdL, ?_⟩
  rw [kl, <- nml, List.take_length] at hF6
  have s7 := un _ s6
  refine ⟨_, rfl, q F _ _ ((s05.nil.trans s7).drop nF0) nF0 (by rw [upd_ne FD]; exact hF6) (fun n => by rw [List.mem_filter, decide_eq_true_eq]) ?_⟩
  have h1 := List.length_filter_le (fun n => decide (¬ EndK b n)) b.names
  omega
abbrev N__law_right : List Str := ["_law_book", "_law_told", "_law_grove", "_law_bound", "_law_names_here", "_law_strange", "_law_ends", "_law_some", "_law_ask", "_law_due", "_law_one", "_law_name"]
theorem sc__law_right : FnScope N__law_right ["_law_book", "_law_told", "_law_grove", "_law_bound"] (defScope s__law_right) := ⟨rfl, rfl, rfl, by decide +kernel, rfl, by decide +kernel, by decide +kernel⟩
theorem ok__law_right {C_Book : Addr} (B : BI mg) (G__law_inside : Got P w K mg base "_law_inside" ["_law_grove"] (1) (spInside67 K)) (G__law_endless : Got P w K mg base "_law_endless" ["_law_told"] (3) (spEndl67 K)) (G__law_seen : Got P w K mg base "_law_seen" ["_law_ask", "_law_book", "_law_grove", "_law_bound"] (80) (spSeen67 K C_Book)) (F : Fun K "_law_right" "_law_right" s__law_right f fd) : FnOk P w K mg base CX0 (82) f fd ["_law_book", "_law_told", "_law_grove", "_law_bound"] (spRight67 K C_Book) := by
 refine F.ok sc__law_right (fun vs H Q E h => ?_) (fun cdv A outer s H vs Q E hr h => ?_)
 ·obtain ⟨v, w, l, xs, b, g, D, rfl, _⟩ := h
  rfl
 obtain ⟨v, w, l, xs, b, g, D, rfl, hl, hka, hI, q⟩ := h
 have hun2 := hunT hr
 refine ⟨_, pss_cons (ps_set (i := 4) sc__law_right.nd rfl (.inr rfl) (pe_lc (own := [("_law_one", 10)]) (g := (gName 10)) (tt := tYes) (te := (tOp (rIxT K) (tVar 10) (tC (.int 0)))) rfl sc__law_right.nd (pi_list (pv 1)) (blkOk_by (N := N__law_right) (sc := defScope s__law_right) (by decide +kernel)) (fun _ _ _ _ _ => (pg_name (i := 10) sc__law_right.nd rfl (.inl rfl))) (fun _ _ _ _ _ => pts_nil) (fun _ _ _ _ _ => (pe_ix ix_tup (pv 10) pe_int (fun _ _ => rfl)))))
  (pss_cons (ps_setLc (i := 5) (own := [("_law_name", 11)]) (g := (gName 11)) (tt := (tTest (tOp (rIn K true) (tVar 11) (tVar 4)))) (te := (tVar 11)) rfl sc__law_right.nd rfl rfl (sw_true rfl rfl rfl (by decide +kernel)) (pi_list (pe_got G__law_inside (hr.mono (by omega)) rfl (pa_cons (pv 2) pa_nil))) (blkOk_by (N := N__law_right) (sc := defScope s__law_right) (by decide +kernel)) (fun _ _ _ _ _ => (pg_name (i := 11) sc__law_right.nd rfl (.inl rfl))) (fun _ _ _ _ _ => (pts_one (pt_cmpR op_notIn_seq (pv 11) (pv 4) (by rfl)))) (fun _ _ _ _ _ => (pv 11)))
  (pss_cons (ps_set (i := 6) sc__law_right.nd rfl (.inr rfl) (pe_got G__law_endless (hr.mono (by omega)) rfl (pa_cons (pv 1) pa_nil)))
  (pss_cons (ps_setLc (i := 7) (own := [("_law_name", 11)]) (g := (gName 11)) (tt := (tTest (tOp (rIn K false) (tVar 11) (tVar 6)))) (te := (tVar 11)) rfl sc__law_right.nd rfl rfl (sw_true rfl rfl rfl (by decide +kernel)) (pi_list (pe_got G__law_inside (hr.mono (by omega)) rfl (pa_cons (pv 2) pa_nil))) (blkOk_by (N := N__law_right) (sc := defScope s__law_right) (by decide +kernel)) (fun _ _ _ _ _ => (pg_name (i := 11) sc__law_right.nd rfl (.inl rfl))) (fun _ _ _ _ _ => (pts_one (pt_cmpR op_in_seq (pv 11) (pv 6) (by rfl)))) (fun _ _ _ _ _ => (pv 11)))
  (pss_cons (ps_for PassesOwn.never rfl (pi_range1 rfl B.range (pa_cons pe_int pa_nil)) (pg_name (i := 8) sc__law_right.nd rfl (.inl rfl))
   (pss_cons (ps_set (i := 9) sc__law_right.nd rfl (.inl rfl) (pe_lst (pa_cons (pe_tup (pa_cons pe_str (pa_cons pe_str (pa_cons pe_int pa_nil)))) (pa_cons (pe_tup (pa_cons pe_str (pa_cons pe_str (pa_cons pe_int pa_nil)))) pa_nil))))
  (pss_cons (ps_if (pt_cmpR (op_neD (by show A.units + 3 + 64 < cLine; omega)) (pv 5) (pe_lst pa_nil) (nomark _)) (pss_one (ps_set (i := 9) sc__law_right.nd rfl (.inl rfl) (pe_lst (pa_cons (pe_tup (pa_cons pe_str (pa_cons (pe_ix ix_list (pv 5) pe_int (fun _ _ => rfl)) (pa_cons pe_int pa_nil)))) pa_nil)))) (pss_one (ps_if (PW.pt (pw_and (pt_cmpR (op_neD (by show A.units + 3 + 64 < cLine; omega)) (pv 7) (pe_lst pa_nil) (nomark _)) (pw_and1 (pt_cmpR op_lt (pv 8) pe_int (nomark _))))) (pss_one (ps_set (i := 9) sc__law_right.nd rfl (.inl rfl) (pe_lst (pa_cons (pe_tup (pa_cons pe_str (pa_cons (pe_ix ix_list (pv 7) pe_int (fun _ _ => rfl)) (pa_cons pe_int pa_nil)))) pa_nil)))) (pss_one (ps_if (pt_cmpR (op_eqD (by show A.units + 3 + 64 < cLine; omega)) (pv 2) (pe_tup pa_nil) (nomark _)) (pss_one (ps_set (i := 9) sc__law_right.nd rfl (.inl rfl) (pe_lst (pa_cons (pe_ix ix_list (pe_lst (pa_cons (pe_tup (pa_cons pe_str (pa_cons pe_str (pa_cons pe_int pa_nil)))) (pa_cons (pe_tup (pa_cons pe_str (pa_cons pe_str (pa_cons pe_int pa_nil)))) pa_nil))) (pe_op op_mod (pv 8) pe_int) (fun _ _ => rfl)) pa_nil)))) pss_nil)))))
  (pss_one (ps_if (pt_cmpR (op_notInD (by show A.units + 3 + 65 < cLine; omega)) (pe_got G__law_seen (hr.mono (by omega)) rfl (pa_cons (pv 8) (pa_cons (pv 0) (pa_cons (pv 2) (pa_cons (pv 3) pa_nil))))) (pv 9) (by rfl)) (pss_one (ps_ret pe_bl)) pss_nil)))))
  (pss_one (ps_ret pe_bl)))))), ?_⟩
 have szl := sizeLine_eq
 have xl := hka.length
 have b8 := hI.ok.len
 have nml : b.names.length = b.length := List.length_map ..
 obtain ⟨C, go, _⟩ := hI.go
 obtain ⟨nn, gn, nnl⟩ := hI.nm
 have wi := hI.deep
 have wp := hI.parts
 have few : ∀ {ss : List Str}, SrtOf ss (g.within.map (·.1.1)) -> ss.length <= 60 := fun so => Nat.le_trans (List.Nodup.length_le_of_subset so.nd fun y hy => by
  obtain ⟨z, hz, e⟩ := List.mem_map.mp ((so.mem y).mp hy)
  rw [<- e]; exact gn z hz) nnl
 classical
 refine ⟨_, rfl, l, rfl, ⟨_, SqL.of hl⟩, fun N nN => ?_⟩
 refine lc_seq (walk_list (xs := xs)) nN (by omega) (fun i us _ => us = (b.names.take i).map V.str) rfl (fun G s => s.sqL nmn (SqL.of hl)) (fun _ _ _ _ _ h => h) (fun Pv i x Hq G us hi s y hR hu fin _ => ?_) (fun us H1 s1 hN1 hR hu => ?_)
 ·obtain ⟨rfl, ey⟩ := y
  obtain ⟨k, ek, t, r, zs, rfl, h1, h2, h3, _⟩ := hka.get ey
  refine ⟨rfl, _, rfl, t, _, _, _, rfl, rfl, s.sqT h1, atI_nat (j := 0) rfl, fin _ _ SB.refl ?_⟩
  rw [hR, List.take_add_one, List.getElem?_map, ek, List.map_append]; rfl
 subst hR
 rw [xl, <- nml, List.take_length] at hN1
 have dN := nN
 refine ⟨_, rfl, w, g, nn, C, rfl, hI.ga.sb s1, go, by omega, by omega, gn, nnl, fun L1 ss H2 s2 nL1 hL1 so => ?_⟩
 have sl := few so
 have hN2 := s2.keep _ _ hN1 nmn
 have s02 := s1.trans s2
 refine ⟨L1, rfl, ⟨_, SqL.of hL1⟩, fun S nS => ?_⟩
 refine lc_seq (walk_list (xs := ss.map V.str)) nS (by rw [List.length_map]; omega) (fun i us _ => us = ((ss.take i).filter fun n => decide (n ∉ b.names)).map V.str) rfl (fun G s => s.sqL nmn (SqL.of hL1)) (fun _ _ _ _ _ h => h) (fun Pv i x Hq G us hi s y hR hu fin skip => ?_) (fun us H3 s3 hS3 hR hu => ?_)
 ·obtain ⟨rfl, ey⟩ := y
  rw [List.getElem?_map] at ey
  obtain ⟨sx, ex, rfl⟩ := Option.map_eq_some_iff.mp ey
  have hst := filt_step (fun n => decide (n ∉ b.names)) ex
  refine ⟨rfl, _, rfl, _, rfl, N, _, rfl, .inl (SqL.of (s.keep _ _ hN2 nmn)), rfl, flat_strs _, _, rfl, ?_⟩
  rw [if_pos rfl, inV_strs]
  by_cases h1 : sx ∈ b.names
  ·rw [decide_eq_true h1]
   refine iteF (skip _ SB.refl ?_)
   rw [hst, if_neg (fun z => (of_decide_eq_true z : sx ∉ b.names) h1), hR, List.append_nil]
  ·rw [decide_eq_false h1]
   refine iteT ⟨_, rfl, fin _ _ SB.refl ?_⟩
   rw [hst, if_pos (decide_eq_true h1), hR]
 subst hR
 rw [List.length_map, List.take_length] at hS3
 have s03 := s02.trans s3
 refine ⟨_, rfl, l, xs, b, rfl, s03.keep _ _ hl nmn, hka.sb s03 NoLst.nil, hI.ok, fun E1 es H4 s4 nE hE4 hes el => ?_⟩
 have s04 := s03.trans s4
 refine ⟨_, rfl, w, g, nn, C, rfl, hI.ga.sb s04, go, by omega, by omega, gn, nnl, fun L2 ss2 H5 s5 nL2 hL2 so2 => ?_⟩
 obtain rfl := so2.same so
 have hE5 := s5.keep _ _ hE4 nmn
 refine ⟨L2, rfl, ⟨_, SqL.of hL2⟩, fun M nM => ?_⟩
 refine lc_seq (walk_list (xs := ss2.map V.str)) nM (by rw [List.length_map]; omega) (fun i us _ => us = ((ss2.take i).filter fun n => decide (n ∈ es)).map V.str) rfl (fun G s => s.sqL nmn (SqL.of hL2)) (fun _ _ _ _ _ h => h) (fun Pv i x Hq G us hi s y hR hu fin skip => ?_) (fun us H6 s6 hM6 hR hu => ?_)
 ·obtain ⟨rfl, ey⟩ := y
  rw [List.getElem?_map] at ey
  obtain ⟨sx, ex, rfl⟩ := Option.map_eq_some_iff.mp ey
  have hst := filt_step (fun n => decide (n ∈ es)) ex
  refine ⟨rfl, _, rfl, _, rfl, E1, _, rfl, .inl (SqL.of (s.keep _ _ hE5 nmn)), rfl, flat_strs _, _, rfl, ?_⟩
  rw [if_neg (by decide), inV_strs]
  by_cases h1 : sx ∈ es
  ·rw [decide_eq_true h1]
   refine iteT ⟨_, rfl, fin _ _ SB.refl ?_⟩
   rw [hst, if_pos (decide_eq_true h1), hR]
  ·rw [decide_eq_false h1]
   refine iteF (skip _ SB.refl ?_)
   rw [hst, if_neg (fun z => h1 (of_decide_eq_true z)), hR, List.append_nil]
 subst hR
 rw [List.length_map, List.take_length] at hM6
 have s46 := (s4.trans s5).trans s6
 have s06 := s03.trans s46
 have hS6 := s46.keep _ _ hS3 nmn
 have lst : ∀ {n r}, (ss2.filter fun n => decide (n ∉ b.names)) = n :: r -> LeastOut (fun m => m ∉ b.names) g n := fun e => least_head so2 (fun m _ => decide_eq_true_iff) e
 have nst : (ss2.filter fun n => decide (n ∉ b.names)) = [] -> Gr.Named b.names g := fun e x hx => Classical.byContradiction fun z => none_head so2 (fun m _ => decide_eq_true_iff) e x hx z
 have les : ∀ {n r}, Gr.Named b.names g -> (ss2.filter fun n => decide (n ∈ es)) = n :: r -> LeastOut (fun m => ¬ EndK b m) g n := fun hn e => least_head so2 (fun m hm => by
  rw [decide_eq_true_iff, hes m]
  obtain ⟨z, hz, ez⟩ := List.mem_map.mp ((so2.mem m).mp hm)
  exact ⟨fun h => h.2, fun h => ⟨ez ▸ hn z hz, h⟩⟩) e
 have nes : Gr.Named b.names g -> (ss2.filter fun n => decide (n ∈ es)) = [] -> ∀ x ∈ g.within, EndK b x.1.1 := fun hn e x hx => Classical.byContradiction fun z => none_head so2 (P := fun m => m ∈ es) (fun m _ => decide_eq_true_iff) e x hx ((hes _).mpr ⟨hn x hx, z⟩)
 have okn : ∀ n ∈ ss2, NameOk n := fun n hn => by
  obtain ⟨z, hz, ez⟩ := List.mem_map.mp ((so2.mem n).mp hn)
  rw [<- ez]; exact (Ok_within go z hz).1
 have ok1 : ∀ n ∈ ss2.filter (fun n => decide (n ∉ b.names)), NameOk n := fun n hn => okn n (List.mem_filter.mp hn).1
 have ok2 : ∀ n ∈ ss2.filter (fun n => decide (n ∈ es)), NameOk n := fun n hn => okn n (List.mem_filter.mp hn).1
 have fl1 := List.length_filter_le (fun n => decide (n ∉ b.names)) ss2
 have fl2 := List.length_filter_le (fun n => decide (n ∈ es)) ss2
 generalize ss2.filter (fun n => decide (n ∉ b.names)) = st at hS6 lst nst ok1 fl1
 generalize ss2.filter (fun n => decide (n ∈ es)) = sm at hM6 les nes ok2 fl2
 have hl6 := s06.keep _ _ hl nmn
 have hI6 := hI.sb0 s06
 clear hN2 hS3 hE5 hN1 hE4 hL1 hL2
 refine ⟨_, rfl, by decide, by decide, ?_⟩
 refine for_it (walk_range (lo := 0) (n := 4)) (fun i σ G => SB [] H6 G /\ ∃ (o8 o9 o10 o11 : Option V), σ = [some v, some (.ref l), some w, some (.int D), some (.ref N), some (.ref S), some (.ref E1), some (.ref M), o8, o9, o10, o11]) ⟨SB.refl, _, _, _, _, rfl⟩ (fun _ _ _ _ _ => trivial) (fun i x σ Hq G hi h y => ?_) (fun σ G h => ?_)
 ·obtain ⟨sG, o8, o9, o10, o11, rfl⟩ := h
  obtain ⟨rfl, rfl⟩ := y
  have i4 : i < 4 := hi
  show gName 8 (V.int (0 + (i : Int))) _ _ _
  generalize ea : (0 + (i : Int)) = ask
  have a4 : ask = 0 \/ ask = 1 \/ ask = 2 \/ ask = 3 := by omega
  refine ⟨by show 3 <= sizeLine; decide, fun a1 n1 => ?_⟩
  have t1 := SB.new (ps := []) n1 (.tup [.str "told", .str "", .int 0])
  have A1 := SqT.of (K := K) (upd_same : upd G a1 (.tup [.str "told", .str "", .int 0]) a1 = _)
  generalize upd G a1 (.tup [.str "told", .str "", .int 0]) = G1 at t1 A1 ⊢
  refine ⟨by show 3 <= sizeLine; decide, fun a2 n2 => ?_⟩
  have t2 := SB.new (ps := []) n2 (.tup [.str "long", .str "", .int 1])
  have A2 := SqT.of (K := K) (upd_same : upd G1 a2 (.tup [.str "long", .str "", .int 1]) a2 = _)
  have A1 := t2.sqT A1
  generalize upd G1 a2 (.tup [.str "long", .str "", .int 1]) = G2 at t2 A1 A2 ⊢
  refine ⟨by show 2 <= sizeLine; decide, fun U0 nU => ?_⟩
  have t3 := SB.new (ps := []) nU (.lst [.ref a1, .ref a2])
  have hU3 : upd G2 U0 (.lst [.ref a1, .ref a2]) U0 = _ := upd_same
  have A1 := t3.sqT A1
  have A2 := t3.sqT A2
  generalize upd G2 U0 (.lst [.ref a1, .ref a2]) = G3 at t3 A1 A2 hU3 ⊢
  have s3 := ((sG.trans t1).trans t2).trans t3
  dsimp only [gName]
  refine seq_via (fun σ' G' => SB [] H6 G' /\ ∃ (U : Addr) (us : List V) (ts : List T3) (o : Ho) (o10 o11 : Option V), σ' = [some v, some (.ref l), some w, some (.int D), some (.ref N), some (.ref S), some (.ref E1), some (.ref M), some (.int ask), some (.ref U), o10, o11] /\ G' U = some (.lst us) /\ Bears K G' enc3 us ts /\ (∀ x ∈ ts, Ok3 x) /\ Du67 (decide (ask < 2)) b g o /\ ∀ wd k m, Al67 (decide (ask % 2 = 1)) g o wd k m -> (wd, k, m) ∈ ts /\ Ok3 (wd, k, m)) (fun nx hnx => ?_) (fun σ' G' h => ?_)
  ·refine ⟨_, rfl, by show 0 <= sizeLine; decide, fun Z nZ => ?_⟩
   have t4 := SB.new (ps := []) nZ (.lst [])
   have hZ : upd G3 Z (.lst []) Z = some (.lst []) := upd_same
   have A1 := t4.sqT A1
   have A2 := t4.sqT A2
   have hU4 := t4.keep _ _ hU3 nmn
   have s4 := s3.trans t4
   generalize upd G3 Z (.lst []) = G4 at t4 A1 A2 hZ hU4 s4 ⊢
   have hS4 := s4.keep _ _ hS6 nmn
   refine ⟨.list (st.map .str), .list [], .lst (SqL.of hS4) (strs_dp K G4 st), .lst (SqL.of hZ) .nil, strs_shaped ok1, by decide +kernel, _, rfl, ?_⟩
   cases st with
   | cons n0 r0 =>
    refine iteT ?_
    refine ⟨_, rfl, S, _, _, _, rfl, rfl, SqL.of hS4, atI_nat (j := 0) rfl, by show 3 <= sizeLine; decide, fun a5 n5 => ?_⟩
    have t5 := SB.new (ps := []) n5 (.tup [.str "kind", .str n0, .int 1])
    have A5 := SqT.of (K := K) (upd_same : upd G4 a5 (.tup [.str "kind", .str n0, .int 1]) a5 = _)
    generalize upd G4 a5 (.tup [.str "kind", .str n0, .int 1]) = G5 at t5 A5 ⊢
    refine ⟨by show 1 <= sizeLine; decide, fun U nU => hnx _ _ ?_⟩
    have t6 := SB.new (ps := []) nU (.lst [.ref a5])
    have A5 := t6.sqT A5
    have on := Gr.strOk_name (ok1 n0 (mcs ..))
    refine ⟨(s4.trans t5).trans t6, U, [.ref a5], [("kind", n0, 1)], .kind n0, _, _, rfl, upd_same, .cons (dp3 A5) .nil, fun x hx => by rw [List.mem_singleton.mp hx]; exact ⟨(by decide +kernel : PySem.PyData.strOk (Str.ofString "kind") = true), on⟩, .k (lst rfl), fun wd k m ha => ?_⟩
    cases ha
    exact ⟨List.mem_singleton.mpr rfl, (by decide +kernel : PySem.PyData.strOk (Str.ofString "kind") = true), on⟩
   | nil =>
    have hn := nst rfl
    refine iteF ?_
    dsimp only [tIfS]
    refine and_gen (fun Q => ∀ H', SB [] G4 H' -> Q (decide (sm ≠ [] /\ ask < 2)) H') (fun G5 s5 => ?_) (fun Q hQ => ?_)
    ·have s05 := s4.trans s5
     have A1 := s5.sqT A1
     have A2 := s5.sqT A2
     have hU5 := s5.keep _ _ hU4 nmn
     by_cases he : sm ≠ [] /\ ask < 2
     ·rw [decide_eq_true he]
      obtain ⟨he1, he2⟩ := he
      cases sm with
      | nil => exact absurd rfl he1
      | cons n0 r0 =>
      refine iteT ?_
      have hM5 := s05.keep _ _ hM6 nmn
      refine ⟨_, rfl, M, _, _, _, rfl, rfl, SqL.of hM5, atI_nat (j := 0) rfl, by show 3 <= sizeLine; decide, fun a5 n5 => ?_⟩
      have t5 := SB.new (ps := []) n5 (.tup [.str "endless", .str n0, .int 1])
      have A5 := SqT.of (K := K) (upd_same : upd G5 a5 (.tup [.str "endless", .str n0, .int 1]) a5 = _)
      generalize upd G5 a5 (.tup [.str "endless", .str n0, .int 1]) = G6 at t5 A5 ⊢
      refine ⟨by show 1 <= sizeLine; decide, fun U nU => hnx _ _ ?_⟩
      have t6 := SB.new (ps := []) nU (.lst [.ref a5])
      have A5 := t6.sqT A5
      have on := Gr.strOk_name (ok2 n0 (mcs ..))
      refine ⟨(s05.trans t5).trans t6, U, [.ref a5], [("endless", n0, 1)], .endl n0, _, _, rfl, upd_same, .cons (dp3 A5) .nil, fun x hx => by rw [List.mem_singleton.mp hx]; exact ⟨(by decide +kernel : PySem.PyData.strOk (Str.ofString "endless") = true), on⟩, by rw [decide_eq_true he2]; exact .e rfl hn (les hn rfl), fun wd k m ha => ?_⟩
      cases ha
      exact ⟨List.mem_singleton.mpr rfl, (by decide +kernel : PySem.PyData.strOk (Str.ofString "endless") = true), on⟩
     ·rw [decide_eq_false he]
      refine iteF ?_
      have fine : Du67 (decide (ask < 2)) b g .fine := .f hn fun e => nes hn (Classical.byContradiction fun z => he ⟨z, of_decide_eq_true e⟩)
      refine ⟨_, rfl, by show 0 <= sizeLine; decide, fun Z2 nZ2 => ?_⟩
      have t7 := SB.new (ps := []) nZ2 (.tup [])
      have hZ7 := SqT.of (K := K) (upd_same : upd G5 Z2 (.tup []) Z2 = some (.tup []))
      have A1 := t7.sqT A1
      have A2 := t7.sqT A2
      have hU7 := t7.keep _ _ hU5 nmn
      have s07 := s05.trans t7
      generalize upd G5 Z2 (.tup []) = G7 at t7 hZ7 A1 A2 hU7 s07 ⊢
      refine ⟨g.enc, Gr.enc .nil, hI6.ga.sb s07, GA_nil hZ7, Gr.shaped_enc go (by omega), by decide +kernel, _, rfl, ?_⟩
      rw [Gr.eqv_enc]
      by_cases hg : g = .nil
      ·rw [decide_eq_true hg]
       refine iteT ?_
       refine ⟨by show 3 <= sizeLine; decide, fun a5 n5 => ?_⟩
       have t8 := SB.new (ps := []) n5 (.tup [.str "told", .str "", .int 0])
       have A5 := SqT.of (K := K) (upd_same : upd G7 a5 (.tup [.str "told", .str "", .int 0]) a5 = _)
       generalize upd G7 a5 (.tup [.str "told", .str "", .int 0]) = G8 at t8 A5 ⊢
       refine ⟨by show 3 <= sizeLine; decide, fun a6 n6 => ?_⟩
       have t9 := SB.new (ps := []) n6 (.tup [.str "place", .str "", .int 1])
       have A6 := SqT.of (K := K) (upd_same : upd G8 a6 (.tup [.str "place", .str "", .int 1]) a6 = _)
       have A5 := t9.sqT A5
       generalize upd G8 a6 (.tup [.str "place", .str "", .int 1]) = G9 at t9 A5 A6 ⊢
       refine ⟨by show 2 <= sizeLine; decide, fun U1 nU1 => ?_⟩
       have t10 := SB.new (ps := []) nU1 (.lst [.ref a5, .ref a6])
       have hU1 : upd G9 U1 (.lst [.ref a5, .ref a6]) U1 = some (.lst [.ref a5, .ref a6]) := upd_same
       have A5 := t10.sqT A5
       have A6 := t10.sqT A6
       generalize upd G9 U1 (.lst [.ref a5, .ref a6]) = G10 at t10 A5 A6 hU1 ⊢
       obtain ⟨a, t, hat, hA, hok, hmm⟩ : ∃ (a : Addr) (t : T3), atI [V.ref a5, .ref a6] (ask % 2) = some (.ref a) /\ SqT K G10 a [.str t.1, .str t.2.1, .int t.2.2] /\ Ok3 t /\ ∀ wd k m, Al67 (decide (ask % 2 = 1)) g .fine wd k m -> (wd, k, m) = t := by
        have h2 : ask % 2 = 0 \/ ask % 2 = 1 := by omega
        rcases h2 with h2 | h2
        ·refine ⟨a5, ("told", "", 0), by rw [h2]; rfl, A5, ⟨by decide +kernel, by decide +kernel⟩, fun wd k m ha => ?_⟩
         rw [h2] at ha
         cases ha with
         | told _ => rfl
         | place e _ => exact absurd e (by decide)
         | long e => exact absurd hg e
        ·refine ⟨a6, ("place", "", 1), by rw [h2]; rfl, A6, ⟨by decide +kernel, by decide +kernel⟩, fun wd k m ha => ?_⟩
         rw [h2] at ha
         cases ha with
         | told e => exact absurd hg (e (by decide))
         | place _ _ => rfl
         | long e => exact absurd hg e
       refine ⟨_, rfl, ask, 2, rfl, rfl, (by decide : (0 : Int) < 2), U1, _, _, _, rfl, rfl, SqL.of hU1, hat, by show 1 <= sizeLine; decide, fun U nU => hnx _ _ ?_⟩
       have t11 := SB.new (ps := []) nU (.lst [.ref a])
       exact ⟨(((s07.trans t8).trans t9).trans t10).trans t11, U, _, [t], .fine, _, _, rfl, upd_same, .cons (dp3 (t11.sqT hA)) .nil, fun x hx => by rw [List.mem_singleton.mp hx]; exact hok, fine, fun wd k m ha => by rw [hmm wd k m ha]; exact ⟨List.mem_singleton.mpr rfl, hok⟩⟩
      ·rw [decide_eq_false hg]
       refine iteF (hnx _ _ ⟨s07, U0, _, [("told", "", 0), ("long", "", 1)], .fine, _, _, rfl, hU7, .cons (dp3 A1) (.cons (dp3 A2) .nil), fun x hx => ?_, fine, fun wd k m ha => ?_⟩)
       ·rcases List.mem_cons.mp hx with e | hx
        ·rw [e]; exact ⟨by decide +kernel, by decide +kernel⟩
        ·rw [List.mem_singleton.mp hx]; exact ⟨by decide +kernel, by decide +kernel⟩
       ·cases ha with
        | told _ => exact ⟨by simp, by decide +kernel, by decide +kernel⟩
        | place _ e => exact absurd e hg
        | long _ => exact ⟨by simp, by decide +kernel, by decide +kernel⟩
    ·refine ⟨_, rfl, by show 0 <= sizeLine; decide, fun Z2 nZ2 => ?_⟩
     have t7 := SB.new (ps := []) nZ2 (.lst [])
     have hZ7 : upd G4 Z2 (.lst []) Z2 = some (.lst []) := upd_same
     generalize upd G4 Z2 (.lst []) = G7 at t7 hZ7 ⊢
     have hM7 := (s4.trans t7).keep _ _ hM6 nmn
     refine ⟨.list (sm.map .str), .list [], .lst (SqL.of hM7) (strs_dp K G7 sm), .lst (SqL.of hZ7) .nil, strs_shaped ok2, by decide +kernel, _, rfl, ?_⟩
     have h := hQ G7 t7
     cases sm with
     | nil =>
      rw [decide_eq_false (fun z => z.1 rfl)] at h
      exact iteF h
     | cons n0 r0 =>
      refine iteT ⟨_, rfl, ask, 2, rfl, rfl, _, rfl, ?_⟩
      rw [show decide (ask < 2) = decide (n0 :: r0 ≠ [] /\ ask < 2) from decide_eq_decide.mpr ⟨fun z => ⟨List.cons_ne_nil _ _, z⟩, fun z => z.2⟩]
      exact h
  ·obtain ⟨s7, U, us, ts, o, o10, o11, rfl, hU, hb, hok, hdu, hal⟩ := h
   refine ⟨_, rfl, _, rfl, _, rfl, _, rfl, ask, v, w, b, g, D, o, rfl, a4, hI6.sb0 s7, hdu, fun T wd k m H8 s8 hT ha => ?_⟩
   obtain ⟨hm, hx⟩ := hal wd k m ha
   refine ⟨_, rfl, enc3 (wd, k, m), ts.map enc3, dp3 (x := (wd, k, m)) hT, .lst (SqL.of (s8.keep _ _ hU nmn)) (hb.sb s8 enc3_no).dp, sh3 hx, shs3 hok, _, rfl, ?_⟩
   rw [any3 hm]
   exact iteF ⟨s7.trans s8, _, _, _, _, rfl⟩
 ·obtain ⟨sG, o8, o9, o10, o11, rfl⟩ := h
  exact q _ (s06.trans sG)
abbrev N_law : List Str := ["_law_script", "_law_head", "_law_names_here", "_law_turn", "_law_told", "_law_round", "_law_book", "_law_bound", "_law_all", "_law_grove", "_law_bare", "_law_other", "_law_found", "_law_name"]
theorem sc_law : FnScope N_law ["_law_script"] (defScope s_law) := ⟨rfl, rfl, rfl, by decide +kernel, rfl, by decide +kernel, by decide +kernel⟩
theorem ok_law {C_Book C_NoBook C_NoKind C_TooLong C_Endless : Addr} (B : BI mg) (G__law_purse : Got P w K mg base "_law_purse" ["_law_script", "_law_k"] (1) (spPurseG K)) (G__law_take : Got P w K mg base "_law_take" ["_law_purse_here", "_law_many"] (1) (spTakeG)) (G__law_kinds : Got P w K mg base "_law_kinds" ["_law_script", "_law_first", "_law_names_here", "_law_great", "_law_rounds"] (3) (spKindsM K)) (G_Book___init__ : GotIN P w K mg base "Book" C_Book ["self", "kinds"] (88) (spBInit K C_Book C_NoBook)) (G__law_side : Got P w K mg base "_law_side" ["_law_purse_here", "_law_names_here", "_law_many", "_law_great", "_law_low"] (2) (spSideV K)) (G__law_right : Got P w K mg base "_law_right" ["_law_book", "_law_told", "_law_grove", "_law_bound"] (82) (spRight67 K C_Book)) (G_fewest_falls : GotXN P w K mg base "fewest_falls" ["book", "grove", "bound"] (75) (spFew67 K C_Book C_NoKind C_TooLong)) (G_most_falls : GotXN P w K mg base "most_falls" ["book", "grove", "bound"] (75) (spMost67 K C_Book C_NoKind C_Endless C_TooLong)) (G__law_nought : Got P w K mg base "_law_nought" ["_law_found"] (1) (spNought67)) (G__law_chain : Got P w K mg base "_law_chain" ["_law_name"] (1) (spChain67 K)) (F : Fun K "law" "law" s_law f fd) : FnOk P w K mg base CX0 (120) f fd ["_law_script"] (spLaw K) := by
 refine F.ok sc_law (fun vs H Q E h => ?_) (fun cdv A outer s H vs Q E hr h => ?_)
 ·obtain ⟨a, ns, rfl, _⟩ := h
  rfl
 obtain ⟨a, ns, rfl, hs, nl, q⟩ := h
 have hun2 := hunT hr
 refine ⟨_, pss_cons (ps_set (i := 1) sc_law.nd rfl (.inl rfl) (pe_got G__law_purse (hr.mono (by omega)) rfl (pa_cons (pv 0) (pa_cons pe_int pa_nil))))
  (pss_cons (ps_set (i := 2) sc_law.nd rfl (.inl rfl) (pe_lst (pa_cons pe_str (pa_cons pe_str (pa_cons pe_str (pa_cons pe_str (pa_cons pe_str (pa_cons pe_str (pa_cons pe_str pa_nil)))))))))
  (pss_cons (ps_set (i := 3) sc_law.nd rfl (.inl rfl) (pe_got G__law_take (hr.mono (by omega)) rfl (pa_cons (pv 1) (pa_cons pe_int pa_nil))))
  (pss_cons (ps_set (i := 2) sc_law.nd rfl (.inl rfl) (pe_slice sl_list (pe_op op_cat (pe_slice sl_list (pv 2) (po_some (pv 3)) po_none) (pe_slice sl_list (pv 2) po_none (po_some (pv 3)))) po_none (po_some (pe_op op_add pe_int (pe_got G__law_take (hr.mono (by omega)) rfl (pa_cons (pv 1) (pa_cons pe_int pa_nil)))))))
  (pss_cons (ps_set (i := 4) sc_law.nd rfl (.inl rfl) (pe_got G__law_kinds (hr.mono (by omega)) rfl (pa_cons (pv 0) (pa_cons pe_int (pa_cons (pv 2) (pa_cons (pe_op op_pow pe_int pe_int) (pa_cons (pe_cmpR op_eq (pe_got G__law_take (hr.mono (by omega)) rfl (pa_cons (pv 1) (pa_cons pe_int pa_nil))) pe_int (nomark _)) pa_nil)))))))
  (pss_cons (ps_set (i := 5) sc_law.nd rfl (.inl rfl) (pe_tup (pa_cons (pe_tup (pa_cons (pe_tup (pa_cons pe_str (pa_cons (pe_tup pa_nil) pa_nil))) (pa_cons (pe_op op_add pe_int (pe_got G__law_take (hr.mono (by omega)) rfl (pa_cons (pv 1) (pa_cons pe_int pa_nil)))) pa_nil))) pa_nil)))
  (pss_cons (ps_set (i := 4) sc_law.nd rfl (.inl rfl) (pe_op op_cat (pv 4) (pe_lst (pa_cons (pe_tup (pa_cons pe_str (pa_cons pe_bl (pa_cons (pe_lst (pa_cons (pe_tup (pa_cons (pe_tup pa_nil) (pa_cons (pe_tup (pa_cons (pe_tup (pa_cons (pe_tup (pa_cons pe_str (pa_cons (pv 5) pa_nil))) (pa_cons pe_int pa_nil))) pa_nil)) pa_nil))) pa_nil)) pa_nil)))) (pa_cons (pe_tup (pa_cons pe_str (pa_cons pe_bl (pa_cons (pe_lst (pa_cons (pe_tup (pa_cons (pv 5) (pa_cons (pe_tup pa_nil) pa_nil))) pa_nil)) pa_nil)))) pa_nil)))))
  (pss_cons (ps_set (i := 6) sc_law.nd rfl (.inl rfl) (pe_gotIN G_Book___init__ (hr.mono (by omega)) rfl (pa_cons (pv 4) pa_nil)))
  (pss_cons (ps_set (i := 7) sc_law.nd rfl (.inl rfl) (pe_got G__law_take (hr.mono (by omega)) rfl (pa_cons (pv 1) (pa_cons (pe_ix ix_list (pe_lst (pa_cons pe_int (pa_cons (pe_op op_pow pe_int pe_int) pa_nil))) (pe_got G__law_take (hr.mono (by omega)) rfl (pa_cons (pv 1) (pa_cons pe_int pa_nil))) (fun _ _ => rfl)) pa_nil))))
  (pss_cons (ps_set (i := 8) sc_law.nd rfl (.inl rfl) (pe_op op_cat (pv 2) (pe_ix ix_list (pe_lst (pa_cons (pe_lst (pa_cons pe_str (pa_cons pe_str pa_nil))) (pa_cons (pe_lst (pa_cons pe_str (pa_cons pe_str pa_nil))) (pa_cons (pv 2) (pa_cons (pe_lst (pa_cons pe_str (pa_cons pe_str pa_nil))) pa_nil))))) (pe_got G__law_take (hr.mono (by omega)) rfl (pa_cons (pv 1) (pa_cons pe_int pa_nil))) (fun _ _ => rfl))))
  (pss_cons (ps_set (i := 9) sc_law.nd rfl (.inl rfl) (pe_got G__law_side (hr.mono (by omega)) rfl (pa_cons (pe_got G__law_purse (hr.mono (by omega)) rfl (pa_cons (pv 0) (pa_cons pe_int pa_nil))) (pa_cons (pv 8) (pa_cons (pe_got G__law_take (hr.mono (by omega)) rfl (pa_cons (pv 1) (pa_cons pe_int pa_nil))) (pa_cons pe_int (pa_cons pe_int pa_nil)))))))
  (pss_cons (ps_if (pt_not (pt_val (pe_got G__law_right (hr.mono (by omega)) rfl (pa_cons (pv 6) (pa_cons (pv 4) (pa_cons (pv 9) (pa_cons (pv 7) pa_nil))))))) (pss_one (ps_ret pe_bl)) pss_nil)
  (pss_cons (ps_set (i := 10) sc_law.nd rfl (.inl rfl) (pe_callTy call_tuple_of rfl B.tuple boot_tuple (pa_cons (pe_lc (own := [("_law_name", 13)]) (g := (gName 13)) (tt := tYes) (te := (tTup (tCons (tTup (tCons (tVar 13) (tCons (tTup tNil) tNil))) (tCons (tC (.int 1)) tNil)))) rfl sc_law.nd (pi_list (pe_callB cr_sortedS rfl B.sorted (by decide +kernel) (pa_cons (pv 2) pa_nil))) (blkOk_by (N := N_law) (sc := defScope s_law) (by decide +kernel)) (fun _ _ _ _ _ => (pg_name (i := 13) sc_law.nd rfl (.inl rfl))) (fun _ _ _ _ _ => pts_nil) (fun _ _ _ _ _ => (pe_tup (pa_cons (pe_tup (pa_cons (pv 13) (pa_cons (pe_tup pa_nil) pa_nil))) (pa_cons pe_int pa_nil))))) pa_nil)))
  (pss_cons (ps_for PassesOwn.never rfl (pi_list (pe_lst (pa_cons (pe_tup pa_nil) (pa_cons (pv 10) pa_nil)))) (pg_name (i := 11) sc_law.nd rfl (.inl rfl))
   (pss_one (ps_if (pt_not (pt_val (pe_got G__law_right (hr.mono (by omega)) rfl (pa_cons (pv 6) (pa_cons (pv 4) (pa_cons (pv 11) (pa_cons (pv 7) pa_nil))))))) (pss_one (ps_ret pe_bl)) pss_nil)))
  (pss_cons (ps_for PassesOwn.never rfl (pi_list (pe_lst (pa_cons (pe_gotXN G_most_falls (hr.mono (by omega)) rfl (pa_cons (pv 6) (pa_cons (pe_tup pa_nil) (pa_cons (pv 7) pa_nil)))) (pa_cons (pe_gotXN G_fewest_falls (hr.mono (by omega)) rfl (pa_cons (pv 6) (pa_cons (pe_tup pa_nil) (pa_cons (pv 7) pa_nil)))) pa_nil)))) (pg_name (i := 12) sc_law.nd rfl (.inl rfl))
   (pss_one (ps_if (pt_not (pt_val (pe_got G__law_nought (hr.mono (by omega)) rfl (pa_cons (pv 12) pa_nil)))) (pss_one (ps_ret pe_bl)) pss_nil)))
  (pss_cons (ps_for PassesOwn.never rfl (pi_list (pe_lst (pa_cons pe_str (pa_cons pe_str (pa_cons pe_str pa_nil))))) (pg_name (i := 13) sc_law.nd rfl (.inl rfl))
   (pss_one (ps_if (pt_not (pt_val (pe_got G__law_right (hr.mono (by omega)) rfl (pa_cons (pv 6) (pa_cons (pv 4) (pa_cons (pe_got G__law_chain (hr.mono (by omega)) rfl (pa_cons (pv 13) pa_nil)) (pa_cons (pe_op op_pow pe_int pe_int) pa_nil))))))) (pss_one (ps_ret pe_bl)) pss_nil)))
  (pss_one (ps_ret pe_bl))))))))))))))))), ?_⟩
 have szl := sizeLine_eq
 refine ⟨_, rfl, a, ns, 0, rfl, hs, nl, by omega, fun p1 H1 s1 np1 hp1 => ?_⟩
 refine ⟨by show 7 <= sizeLine; decide, fun n1 nn1 => ?_⟩
 have t2 := SB.new (ps := []) nn1 (.lst [.str "b", .str "ab", .str "c", .str "aaa", .str "d", .str "e", .str "ca"])
 have hn2 : upd H1 n1 (.lst [.str "b", .str "ab", .str "c", .str "aaa", .str "d", .str "e", .str "ca"]) n1 = some (.lst (B7.map V.str)) := upd_same
 have hp2 := hp1.sb t2
 have n1p : p1 ≠ n1 := hp1.ne nn1
 generalize upd H1 n1 (.lst [.str "b", .str "ab", .str "c", .str "aaa", .str "d", .str "e", .str "ca"]) = H2 at t2 hn2 hp2 ⊢
 refine ⟨_, rfl, p1, 7, rfl, hp2, by decide, by decide, fun r3 H3 r30 r37 s3 hp3 => ?_⟩
 obtain ⟨t, rfl⟩ : ∃ t : Nat, r3 = (t : Int) := ⟨r3.toNat, by omega⟩
 have hn3 := s3.keep _ _ hn2 (by simpa using n1p.symm)
 refine ⟨_, rfl, _, rfl, _, rfl, n1, _, rfl, SqL.of hn3, fun D1 nD1 => ?_⟩
 rw [cutDropS]
 have t4 := SB.new (ps := []) nD1 (.lst ((B7.drop t).map V.str))
 have hD1 : upd H3 D1 (.lst ((B7.drop t).map V.str)) D1 = some (.lst ((B7.drop t).map V.str)) := upd_same
 have hn4 := t4.keep _ _ hn3 nmn
 have hp4 := hp3.sb t4
 have pD1 : p1 ≠ D1 := hp3.ne nD1
 generalize upd H3 D1 (.lst ((B7.drop t).map V.str)) = H4 at t4 hD1 hn4 hp4 ⊢
 refine ⟨_, rfl, _, rfl, _, rfl, n1, _, rfl, SqL.of hn4, fun D2 nD2 => ?_⟩
 rw [cutTakeS]
 have t5 := SB.new (ps := []) nD2 (.lst ((B7.take t).map V.str))
 have hD2 : upd H4 D2 (.lst ((B7.take t).map V.str)) D2 = some (.lst ((B7.take t).map V.str)) := upd_same
 have hD1' := t5.keep _ _ hD1 nmn
 have hp5 := hp4.sb t5
 generalize upd H4 D2 (.lst ((B7.take t).map V.str)) = H5 at t5 hD2 hD1' hp5 ⊢
 have lB : ∀ l : List Str, l.length <= 7 -> l.length <= 7 := fun _ h => h
 have l1 : (B7.drop t).length <= 7 := by rw [List.length_drop]; show 7 - t <= 7; omega
 have l2 : (B7.take t).length <= 7 := by rw [List.length_take]; show min t 7 <= 7; omega
 refine ⟨D1, D2, _, _, rfl, rfl, hD1', hD2, by rw [List.length_map, List.length_map]; omega, fun D3 nD3 => ?_⟩
 rw [<- List.map_append]
 have t6 := SB.new (ps := []) nD3 (.lst ((B7.drop t ++ B7.take t).map V.str))
 have hD3 : upd H5 D3 (.lst ((B7.drop t ++ B7.take t).map V.str)) D3 = some (.lst ((B7.drop t ++ B7.take t).map V.str)) := upd_same
 have hp6 := hp5.sb t6
 have pD3 : p1 ≠ D3 := hp5.ne nD3
 generalize upd H5 D3 (.lst ((B7.drop t ++ B7.take t).map V.str)) = H6 at t6 hD3 hp6 ⊢
 refine ⟨_, rfl, p1, 5, rfl, hp6, by decide, by decide, fun r7 H7 r70 r75 s7 hp7 => ?_⟩
 obtain ⟨k, rfl⟩ : ∃ k : Nat, r7 = (k : Int) := ⟨r7.toNat, by omega⟩
 have hD3' := s7.keep _ _ hD3 (by simpa using pD3.symm)
 refine ⟨_, _, rfl, rfl, _, rfl, D3, _, rfl, SqL.of hD3', fun n2 nn2 => ?_⟩
 rw [show (1 + (k : Int)) = ((1 + k : Nat) : Int) by omega, cutTakeS, show (B7.drop t ++ B7.take t).take (1 + k) = ks7 t k from rfl]
 have t8 := SB.new (ps := []) nn2 (.lst ((ks7 t k).map V.str))
 have hn8 : upd H7 n2 (.lst ((ks7 t k).map V.str)) n2 = some (.lst ((ks7 t k).map V.str)) := upd_same
 have hp8 := hp7.sb t8
 have pn2 : p1 ≠ n2 := hp7.ne nn2
 generalize upd H7 n2 (.lst ((ks7 t k).map V.str)) = H8 at t8 hn8 hp8 ⊢
 have kl := ks7_len (t := t) (k := k) (by omega)
 have knd := ks7_nd t k
 have kmem : ∀ x ∈ ks7 t k, x ∈ B7 := fun _ h => ks7_mem h
 generalize ks7 t k = ks at hn8 kl knd kmem
 have kok : ∀ x ∈ ks, NameOk x := fun x h => B7_ok x (kmem x h)
 have s08 : SB [p1] H H8 := (((((((s1.trans t2).nil.trans s3).trans t4.nil).trans t5.nil).trans t6.nil).trans s7).trans t8.nil)
 clear hn2 hp2 hp1 hn3 hp3 hn4 hp4 hD1 hD2 hD1' hp5 hD3 hp6 hD3' hp7
 refine ⟨_, rfl, _, rfl, _, _, rfl, rfl, ⟨by decide, by decide, by decide⟩, _, rfl, p1, 2, rfl, hp8, by decide, by decide, fun r9 H9 r90 r92 s9 hp9 => ⟨rfl, ?_⟩⟩
 have s09 : SB [] H H9 := (s08.trans s9).drop np1
 have hn9 := s9.keep _ _ hn8 (by simpa using pn2.symm)
 refine ⟨a, 2, n2, ns, ks, 10 ^ (8 : Int).toNat, 10 ^ (8 : Int).toNat, decide (V.int r9 = V.int 1), rfl, ⟨s09.sqL nmn hs, nl, by decide⟩, ⟨hn9, by omega, by omega, knd, kok⟩, by decide, by decide, by decide, by decide, fun L xs b Ha sa nL hL hkd ok hbn hrs _ => ?_⟩
 have hpa := hp9.sb sa
 have hna := sa.keep _ _ hn9 nmn
 have s0a := s09.trans sa
 have pL : p1 ≠ L := hp9.ne nL
 refine ⟨by show 0 <= sizeLine; decide, fun e0 ne0 => ?_⟩
 have Te0 := SB.new (ps := []) ne0 (.tup [])
 have Ae0 := SqT.of (K := K) (upd_same : upd Ha e0 (.tup []) e0 = some (.tup []))
 generalize upd Ha e0 (.tup []) = Hb at Te0 Ae0 ⊢
 refine ⟨by show 2 <= sizeLine; decide, fun z1 nz1 => ?_⟩
 have Tz1 := SB.new (ps := []) nz1 (.tup [.str "za", .ref e0])
 have Az1 := SqT.of (K := K) (upd_same : upd Hb z1 (.tup [.str "za", .ref e0]) z1 = some (.tup [.str "za", .ref e0]))
 generalize upd Hb z1 (.tup [.str "za", .ref e0]) = Hc at Tz1 Az1 ⊢
 have hpc := (hpa.sb Te0).sb Tz1
 refine ⟨_, rfl, p1, 3, rfl, hpc, by decide, by decide, fun m Hd m0 m3 Td hpd => ⟨_, _, rfl, rfl, ?_⟩⟩
 refine ⟨by show 2 <= sizeLine; decide, fun z2 nz2 => ?_⟩
 have Tz2 := SB.new (ps := []) nz2 (.tup [.ref z1, .int (1 + m)])
 have Az2 := SqT.of (K := K) (upd_same : upd Hd z2 (.tup [.ref z1, .int (1 + m)]) z2 = some (.tup [.ref z1, .int (1 + m)]))
 generalize upd Hd z2 (.tup [.ref z1, .int (1 + m)]) = He at Tz2 Az2 ⊢
 refine ⟨by show 1 <= sizeLine; decide, fun z3 nz3 => ?_⟩
 have Tz3 := SB.new (ps := []) nz3 (.tup [.ref z2])
 have Az3 := SqT.of (K := K) (upd_same : upd He z3 (.tup [.ref z2]) z3 = some (.tup [.ref z2]))
 generalize upd He z3 (.tup [.ref z2]) = Hf at Tz3 Az3 ⊢
 refine ⟨_, rfl, by show 0 <= sizeLine; decide, fun e1 ne1 => ?_⟩
 have Te1 := SB.new (ps := []) ne1 (.tup [])
 have Ae1 := SqT.of (K := K) (upd_same : upd Hf e1 (.tup []) e1 = some (.tup []))
 generalize upd Hf e1 (.tup []) = Hg at Te1 Ae1 ⊢
 refine ⟨_, rfl, by show 2 <= sizeLine; decide, fun b1 nb1 => ?_⟩
 have Tb1 := SB.new (ps := []) nb1 (.tup [.str "y", .ref z3])
 have Ab1 := SqT.of (K := K) (upd_same : upd Hg b1 (.tup [.str "y", .ref z3]) b1 = some (.tup [.str "y", .ref z3]))
 generalize upd Hg b1 (.tup [.str "y", .ref z3]) = Hh at Tb1 Ab1 ⊢
 refine ⟨by show 2 <= sizeLine; decide, fun b2 nb2 => ?_⟩
 have Tb2 := SB.new (ps := []) nb2 (.tup [.ref b1, .int 1])
 have Ab2 := SqT.of (K := K) (upd_same : upd Hh b2 (.tup [.ref b1, .int 1]) b2 = some (.tup [.ref b1, .int 1]))
 generalize upd Hh b2 (.tup [.ref b1, .int 1]) = Hi at Tb2 Ab2 ⊢
 refine ⟨by show 1 <= sizeLine; decide, fun b3 nb3 => ?_⟩
 have Tb3 := SB.new (ps := []) nb3 (.tup [.ref b2])
 have Ab3 := SqT.of (K := K) (upd_same : upd Hi b3 (.tup [.ref b2]) b3 = some (.tup [.ref b2]))
 generalize upd Hi b3 (.tup [.ref b2]) = Hj at Tb3 Ab3 ⊢
 refine ⟨by show 2 <= sizeLine; decide, fun b4 nb4 => ?_⟩
 have Tb4 := SB.new (ps := []) nb4 (.tup [.ref e1, .ref b3])
 have Ab4 := SqT.of (K := K) (upd_same : upd Hj b4 (.tup [.ref e1, .ref b3]) b4 = some (.tup [.ref e1, .ref b3]))
 generalize upd Hj b4 (.tup [.ref e1, .ref b3]) = Hk at Tb4 Ab4 ⊢
 refine ⟨by show 1 <= sizeLine; decide, fun lz nlz => ?_⟩
 have Tlz := SB.new (ps := []) nlz (.lst [.ref b4])
 have Alz : upd Hk lz (.lst [.ref b4]) lz = some (.lst [.ref b4]) := upd_same
 generalize upd Hk lz (.lst [.ref b4]) = Hl at Tlz Alz ⊢
 refine ⟨by show 3 <= sizeLine; decide, fun tz ntz => ?_⟩
 have Ttz := SB.new (ps := []) ntz (.tup [.str "za", .bl false, .ref lz])
 have Atz := SqT.of (K := K) (upd_same : upd Hl tz (.tup [.str "za", .bl false, .ref lz]) tz = some (.tup [.str "za", .bl false, .ref lz]))
 generalize upd Hl tz (.tup [.str "za", .bl false, .ref lz]) = Hm at Ttz Atz ⊢
 refine ⟨_, rfl, by show 0 <= sizeLine; decide, fun e2 ne2 => ?_⟩
 have Te2 := SB.new (ps := []) ne2 (.tup [])
 have Ae2 := SqT.of (K := K) (upd_same : upd Hm e2 (.tup []) e2 = some (.tup []))
 generalize upd Hm e2 (.tup []) = Hn at Te2 Ae2 ⊢
 refine ⟨by show 2 <= sizeLine; decide, fun c1 nc1 => ?_⟩
 have Tc1 := SB.new (ps := []) nc1 (.tup [.ref z3, .ref e2])
 have Ac1 := SqT.of (K := K) (upd_same : upd Hn c1 (.tup [.ref z3, .ref e2]) c1 = some (.tup [.ref z3, .ref e2]))
 generalize upd Hn c1 (.tup [.ref z3, .ref e2]) = Ho at Tc1 Ac1 ⊢
 refine ⟨by show 1 <= sizeLine; decide, fun ly nly => ?_⟩
 have Tly := SB.new (ps := []) nly (.lst [.ref c1])
 have Aly : upd Ho ly (.lst [.ref c1]) ly = some (.lst [.ref c1]) := upd_same
 generalize upd Ho ly (.lst [.ref c1]) = Hp at Tly Aly ⊢
 refine ⟨by show 3 <= sizeLine; decide, fun ty nty => ?_⟩
 have Tty := SB.new (ps := []) nty (.tup [.str "y", .bl true, .ref ly])
 have Aty := SqT.of (K := K) (upd_same : upd Hp ty (.tup [.str "y", .bl true, .ref ly]) ty = some (.tup [.str "y", .bl true, .ref ly]))
 generalize upd Hp ty (.tup [.str "y", .bl true, .ref ly]) = Hq at Tty Aty ⊢
 refine ⟨by show 2 <= sizeLine; decide, fun l2 nl2 => ?_⟩
 have Tl2 := SB.new (ps := []) nl2 (.lst [.ref tz, .ref ty])
 have Al2 : upd Hq l2 (.lst [.ref tz, .ref ty]) l2 = some (.lst [.ref tz, .ref ty]) := upd_same
 generalize upd Hq l2 (.lst [.ref tz, .ref ty]) = Hr at Tl2 Al2 ⊢
 have up := Tty.trans Tl2
 have uo := Tly.trans up
 have un := Tc1.trans uo
 have um := Te2.trans un
 have ul := Ttz.trans um
 have uk := Tlz.trans ul
 have uj := Tb4.trans uk
 have ui := Tb3.trans uj
 have uh := Tb2.trans ui
 have ug := Tb1.trans uh
 have uf := Te1.trans ug
 have ue := Tz3.trans uf
 have ud := Tz2.trans ue
 have uc : SB [p1] Hc Hr := Td.trans ud.nil
 have ub : SB [p1] Hb Hr := Tz1.nil.trans uc
 have ua : SB [p1] Ha Hr := Te0.nil.trans ub
 have gR : GA K Hr (.ref z3) (gRd m) := one_ga (uc.sqT Az1) (ue.sqT Az2) (uf.sqT Az3) ((GA_nil Ae0).sb ub)
 have gY : GA K Hr (.ref b3) (gYd m) := one_ga (uh.sqT Ab1) (ui.sqT Ab2) (uj.sqT Ab3) gR
 have kz : KdA K Hr [] (.ref tz) (kZa m) := ⟨tz, lz, [.ref b4], rfl, um.sqT Atz, ul.keep _ _ Alz nmn, .cons (.tup (uk.sqT Ab4) (.cons ((GA_nil Ae1).sb ug) (.cons gY .nil))) .nil, nmn⟩
 have ky : KdA K Hr [] (.ref ty) (kY m) := ⟨ty, ly, [.ref c1], rfl, Tl2.sqT Aty, up.keep _ _ Aly nmn, .cons (.tup (uo.sqT Ac1) (.cons gR (.cons ((GA_nil Ae2).sb un) .nil))) .nil, nmn⟩
 have hkr : KdAll K Hr [] (xs ++ [.ref tz, .ref ty]) (b ++ [kZa m, kY m]) := ((hkd.sbP hpa ua).less fun _ z => absurd z nmn).append (.cons kz (.cons ky .nil))
 have hLr := ua.keep _ _ hL (by simpa using pL.symm)
 have xl := hkd.length
 have bl : b.length = ks.length := by rw [<- hbn, List.length_map]
 have okr : Bk.Ok (b ++ [kZa m, kY m]) := ok67 ok (by omega) (fun z => B7_za (kmem _ (hbn ▸ z))) (fun z => B7_y (kmem _ (hbn ▸ z))) m0 m3
 refine ⟨L, l2, _, _, rfl, rfl, hLr, Al2, by show xs.length + 2 <= sizeLine; omega, fun L3 nL3 => ?_⟩
 have Tl := SB.new (ps := []) nL3 (.lst (xs ++ [.ref tz, .ref ty]))
 have hL3 : upd Hr L3 (.lst (xs ++ [.ref tz, .ref ty])) L3 = some (.lst (xs ++ [.ref tz, .ref ty])) := upd_same
 have hk3 := hkr.sb Tl NoLst.nil
 have s0s : SB [p1] H (upd Hr L3 (.lst (xs ++ [.ref tz, .ref ty]))) := s0a.nil.trans (ua.trans Tl.nil)
 have pL3 : L3 ∉ [p1] := by simpa using fun z : L3 = p1 => (hpd.sb ud).ne nL3 z.symm
 have hps : PuG (upd Hr L3 (.lst (xs ++ [.ref tz, .ref ty]))) p1 := (hpd.sb ud).sb Tl
 have hns := (ua.trans Tl.nil).keep _ _ hna (by simpa using pn2.symm)
 have en : Bk.names (b ++ [kZa m, kY m]) = ks ++ za67 := by rw [<- hbn]; exact List.map_append ..
 clear hkr gR gY kz ky up uo un um ul uk uj ui uh ug uf ue ud uc ub Ae0 Az1 Az2 Az3 Ae1 Ab1 Ab2 Ab3 Ab4 Alz Atz Ae2 Ac1 Aly Aty
 generalize upd Hr L3 (.lst (xs ++ [.ref tz, .ref ty])) = Hs at Tl hL3 hk3 s0s hps hns ⊢
 generalize b ++ [kZa m, kY m] = bb at hk3 okr en
 generalize xs ++ [V.ref tz, V.ref ty] = xx at hL3 hk3
 dsimp only [gName]
 refine asgI (make_var rfl hL3 hk3 okr fun bk Ht st nbk hbk => ?_)
 have hpt := hps.sb st
 have hLt := st.keep _ _ hL3 nmn
 have hkt := hk3.sb st NoLst.nil
 have hnt := st.keep _ _ hns nmn
 have s0t := s0s.trans st.nil
 refine ⟨_, rfl, _, _, rfl, rfl, ⟨by decide, by decide, by decide⟩, by show 2 <= sizeLine; decide, fun la hla => ?_⟩
 have Tla := SB.new (ps := []) hla (.lst [.int 2, .int (10 ^ (20 : Int).toNat)])
 have hla1 : upd Ht la (.lst [.int 2, .int (10 ^ (20 : Int).toNat)]) la = some (.lst [.int 2, .int (10 ^ (20 : Int).toNat)]) := upd_same
 have hpu := hpt.sb Tla
 have lap : la ∉ [p1] := by simpa using fun z : la = p1 => hpt.ne hla z.symm
 generalize upd Ht la (.lst [.int 2, .int (10 ^ (20 : Int).toNat)]) = Hu at Tla hla1 hpu ⊢
 refine ⟨_, rfl, p1, 2, rfl, hpu, by decide, by decide, fun ru Hv ru0 ru2 Tv hpv => ?_⟩
 obtain ⟨z, hz, z1, z9⟩ : ∃ z : Int, atI [V.int 2, V.int (10 ^ (20 : Int).toNat)] ru = some (.int z) /\ 1 <= z /\ z <= 10 ^ 20 := by
  rcases (by omega : ru = 0 \/ ru = 1) with rfl | rfl
  ·exact ⟨2, rfl, by decide, by decide⟩
  ·exact ⟨10 ^ 20, rfl, by decide, by decide⟩
 refine ⟨la, _, _, _, rfl, rfl, SqL.of (Tv.keep _ _ hla1 lap), hz, p1, z, rfl, hpv, z1, Int.lt_of_le_of_lt z9 (by decide), fun D Hw D0 Dz Tw hpw => ?_⟩
 have Ttw : SB [p1] Ht Hw := (Tla.nil.trans Tv).trans Tw
 have D9 : D < 10 ^ 20 := by omega
 refine ⟨_, rfl, by show 2 <= sizeLine; decide, fun q1 nq1 => ?_⟩
 have Tq1 := SB.new (ps := []) nq1 (.lst [.str "za", .str "y"])
 have Aq1 : upd Hw q1 (.lst [.str "za", .str "y"]) q1 = some (.lst (za67.map V.str)) := upd_same
 generalize upd Hw q1 (.lst [.str "za", .str "y"]) = I1 at Tq1 Aq1 ⊢
 refine ⟨by show 2 <= sizeLine; decide, fun q2 nq2 => ?_⟩
 have Tq2 := SB.new (ps := []) nq2 (.lst [.str "zz", .str "f"])
 have Aq2 : upd I1 q2 (.lst [.str "zz", .str "f"]) q2 = some (.lst (zz67.map V.str)) := upd_same
 generalize upd I1 q2 (.lst [.str "zz", .str "f"]) = I2 at Tq2 Aq2 ⊢
 refine ⟨_, rfl, by show 2 <= sizeLine; decide, fun q3 nq3 => ?_⟩
 have Tq3 := SB.new (ps := []) nq3 (.lst [.str "yy", .str "za"])
 have Aq3 : upd I2 q3 (.lst [.str "yy", .str "za"]) q3 = some (.lst (yy67.map V.str)) := upd_same
 generalize upd I2 q3 (.lst [.str "yy", .str "za"]) = I3 at Tq3 Aq3 ⊢
 refine ⟨by show 4 <= sizeLine; decide, fun q4 nq4 => ?_⟩
 have Tq4 := SB.new (ps := []) nq4 (.lst [.ref q1, .ref q2, .ref n2, .ref q3])
 have Aq4 : upd I3 q4 (.lst [.ref q1, .ref q2, .ref n2, .ref q3]) q4 = some (.lst [.ref q1, .ref q2, .ref n2, .ref q3]) := upd_same
 have hp4 := (((hpw.sb Tq1).sb Tq2).sb Tq3).sb Tq4
 have pq4 : q4 ∉ [p1] := by simpa using fun z : q4 = p1 => (((hpw.sb Tq1).sb Tq2).sb Tq3).ne nq4 z.symm
 generalize upd I3 q4 (.lst [.ref q1, .ref q2, .ref n2, .ref q3]) = I4 at Tq4 Aq4 hp4 ⊢
 refine ⟨_, rfl, p1, 4, rfl, hp4, by decide, by decide, fun rq I5 rq0 rq4 Tq5 hp5 => ?_⟩
 have Vw4 := (Tq2.trans Tq3).trans Tq4
 have hnw := Ttw.keep _ _ hnt (by simpa using pn2.symm)
 have pq1 : q1 ∉ [p1] := by simpa using fun z : q1 = p1 => hpw.ne nq1 z.symm
 have pq2 : q2 ∉ [p1] := by simpa using fun z : q2 = p1 => (hpw.sb Tq1).ne nq2 z.symm
 have pq3 : q3 ∉ [p1] := by simpa using fun z : q3 = p1 => ((hpw.sb Tq1).sb Tq2).ne nq3 z.symm
 obtain ⟨qq, ex, hqq, hqx, ex1, ex5, exok⟩ : ∃ (qq : Addr) (ex : List Str), atI [V.ref q1, .ref q2, .ref n2, .ref q3] rq = some (.ref qq) /\ I5 qq = some (.lst (ex.map V.str)) /\ 1 <= ex.length /\ ex.length <= 5 /\ ∀ x ∈ ex, NameOk x := by
  rcases (by omega : rq = 0 \/ rq = 1 \/ rq = 2 \/ rq = 3) with rfl | rfl | rfl | rfl
  ·exact ⟨q1, za67, rfl, Tq5.keep _ _ (Vw4.keep _ _ Aq1 nmn) pq1, by decide, by decide, za67_ok⟩
  ·exact ⟨q2, zz67, rfl, Tq5.keep _ _ ((Tq3.trans Tq4).keep _ _ Aq2 nmn) pq2, by decide, by decide, zz67_ok⟩
  ·exact ⟨n2, ks, rfl, Tq5.keep _ _ ((Tq1.trans Vw4).keep _ _ hnw nmn) (by simpa using pn2.symm), by omega, by omega, kok⟩
  ·exact ⟨q3, yy67, rfl, Tq5.keep _ _ (Tq4.keep _ _ Aq3 nmn) pq3, by decide, by decide, yy67_ok⟩
 have Tw5 : SB [p1] Ht I5 := Ttw.trans ((Tq1.trans Vw4).nil.trans Tq5)
 have hn5 := Tw5.keep _ _ hnt (by simpa using pn2.symm)
 refine ⟨q4, _, _, _, rfl, rfl, SqL.of (Tq5.keep _ _ Aq4 pq4), hqq, n2, qq, _, _, rfl, rfl, hn5, hqx, by rw [List.length_map, List.length_map]; omega, fun al nal => ?_⟩
 rw [<- List.map_append]
 have T6 := SB.new (ps := []) nal (.lst ((ks ++ ex).map V.str))
 have hal : upd I5 al (.lst ((ks ++ ex).map V.str)) al = some (.lst ((ks ++ ex).map V.str)) := upd_same
 have hp6 := hp5.sb T6
 have pal : p1 ≠ al := hp5.ne nal
 generalize upd I5 al (.lst ((ks ++ ex).map V.str)) = I6 at T6 hal hp6 ⊢
 have s06 : SB [] H I6 := ((s0t.trans Tw5).trans T6.nil).drop np1
 refine ⟨_, rfl, a, ns, 10, rfl, s06.sqL nmn hs, nl, by omega, fun p2 I7 T7 np2 hp2 => ?_⟩
 have hp7 := hp6.sb T7
 have hal7 := T7.keep _ _ hal nmn
 have p2al : al ≠ p2 := fun z => by rw [<- z, hal] at np2; cases np2
 have p21 : p1 ≠ p2 := hp6.ne np2
 refine ⟨_, rfl, _, rfl, p1, 7, rfl, hp7, by decide, by decide, fun rm I8 rm0 rm7 T8 hp8' => ?_⟩
 obtain ⟨mm, rfl⟩ : ∃ u : Nat, rm = (u : Int) := ⟨rm.toNat, by omega⟩
 have hp28 : PuG I8 p2 := hp2.keep T8 (by simpa using p21.symm)
 have pal8 : al ∉ [p1] := by simpa using pal.symm
 refine ⟨p2, al, ks ++ ex, mm, 3, 3, 3, rfl, hp28, T8.keep _ _ hal7 pal8, p2al, by rw [List.length_append]; omega, by rw [List.length_append]; omega, fun x hx => (List.mem_append.mp hx).elim (kok x) (exok x), by omega, by decide, by decide, by decide, by decide, by decide, by decide, fun gv g I9 T9 _ hg go gp gd gn _ => ?_⟩
 have T69 : SB [p1] I6 I9 := ((((T7.nil (ps := [p2, p1])).trans (T8.mono (by simp))).trans (T9.mono (by simp))).drop np2)
 have Tt9 : SB [p1] Ht I9 := (Tw5.trans T6.nil).trans T69
 have hbk9 := hbk.sbP hpt Tt9
 have hk9 := hkt.sbP hpt Tt9
 have hL9 := Tt9.keep _ _ hLt pL3
 have hn9' := Tt9.keep _ _ hnt (by simpa using pn2.symm)
 have s09' : SB [] H I9 := (s0t.trans Tt9).drop np1
 have ds : Dok D := ⟨D0, Int.lt_of_lt_of_le D9 (by decide +kernel)⟩
 have hbd : (mm : Int) * 3 + 1 <= 2 ^ 1000 := by
  have h : (19 : Int) <= 2 ^ 1000 := by decide +kernel
  omega
 have hI : In67 K C_Book I9 (.ref bk) gv bb g D := ⟨hbk9, okr, hg, ⟨_, go, hbd⟩, by omega, by omega, ⟨ks ++ ex, gn, by rw [List.length_append]; omega⟩, ds⟩
 refine ⟨_, rfl, _, rfl, _, rfl, _, rfl, .ref bk, gv, L3, xx, bb, g, D, rfl, hL9, hk9, hI, fun J1 U1 => ⟨_, rfl, ?_⟩⟩
 refine iteF ?_
 have hnJ := U1.keep _ _ hn9' nmn
 refine ⟨_, rfl, n2, ks, rfl, SqL.of hnJ, by omega, fun ys py pm srt npy => ?_⟩
 have Ty := SB.new (ps := []) npy (.lst (ys.map V.str))
 have hy : upd J1 py (.lst (ys.map V.str)) py = some (.lst (ys.map V.str)) := upd_same
 generalize upd J1 py (.lst (ys.map V.str)) = J2 at Ty hy ⊢
 have yl := pm.length_eq
 refine ⟨py, rfl, ⟨_, SqL.of hy⟩, fun A nA => ?_⟩
 refine lc_seq (walk_list (xs := ys.map V.str)) nA (by rw [List.length_map]; omega) (fun i ws H2 => Bears K H2 Gr.pEnc ws (bare67 (ys.take i))) .nil (fun H2 s2 => s2.sqL nmn (SqL.of hy)) (fun _ _ _ _ s h => h.sb s Gr.noList_pEnc) (fun Pv i x Hq G ws hi s2 y hR hu fin skip => ?_) (fun ws J3 U3 hA hR hu => ?_)
 ·obtain ⟨rfl, ey⟩ := y
  rw [List.getElem?_map] at ey
  obtain ⟨n, en', rfl⟩ := Option.map_eq_some_iff.mp ey
  refine ⟨rfl, ?_⟩
  refine ⟨_, rfl, by show 0 <= sizeLine; decide, fun w1 nw1 => ?_⟩
  have t12 := SB.new (ps := []) nw1 (.tup [])
  have hz12 : SqT K (upd G w1 (.tup [])) w1 [] := SqT.of upd_same
  generalize upd G w1 (.tup []) = G1 at t12 hz12 ⊢
  refine ⟨by show 2 <= sizeLine; decide, fun w2 nw2 => ?_⟩
  have t13 := SB.new (ps := []) nw2 (.tup [.str n, .ref w1])
  have hz13 : SqT K (upd G1 w2 (.tup [.str n, .ref w1])) w2 [.str n, .ref w1] := SqT.of upd_same
  have hz12' := t13.sqT hz12
  have t123 := t12.trans t13
  generalize upd G1 w2 (.tup [.str n, .ref w1]) = G2 at t13 hz13 hz12' t123 ⊢
  refine ⟨by show 2 <= sizeLine; decide, fun w3 nw3 => ?_⟩
  have t14 := SB.new (ps := []) nw3 (.tup [.ref w2, .int 1])
  refine fin _ _ (t123.trans t14) ?_
  rw [List.take_add_one, en', show bare67 (ys.take i ++ (some n).toList) = bare67 (ys.take i) ++ [((n, Gr.nil), (1 : Int))] from List.map_append ..]
  exact (hR.sb (t123.trans t14) Gr.noList_pEnc).append (.cons (Dp.tup (SqT.of upd_same) (.cons (Dp.tup (t14.sqT hz13) (.cons (.str _) (.cons (GA_nil (t14.sqT hz12')) .nil))) (.cons (.int _) .nil))) .nil)
 rw [List.length_map, List.take_length] at hR
 refine ⟨A, _, rfl, .inl ⟨SqL.of hA, fun bt nbt => ?_⟩⟩
 have Tbt := SB.new (ps := []) nbt (.tup ws)
 have gB : GA K (upd J3 bt (.tup ws)) (.ref bt) (Gr.ofPs (bare67 ys)) := Bears_ga (SqT.of upd_same) (hR.sb Tbt Gr.noList_pEnc)
 generalize upd J3 bt (.tup ws) = J4 at Tbt gB ⊢
 refine ⟨by show 0 <= sizeLine; decide, fun w0 nw0 => ?_⟩
 have Tw0 := SB.new (ps := []) nw0 (.tup [])
 have gN : GA K (upd J4 w0 (.tup [])) (.ref w0) .nil := GA_nil (SqT.of upd_same)
 generalize upd J4 w0 (.tup []) = J5 at Tw0 gN ⊢
 refine ⟨_, rfl, by show 2 <= sizeLine; decide, fun lw nlw => ?_⟩
 have Tlw := SB.new (ps := []) nlw (.lst [.ref w0, .ref bt])
 have hlw : upd J5 lw (.lst [.ref w0, .ref bt]) lw = some (.lst [.ref w0, .ref bt]) := upd_same
 have gB := (gB.sb Tw0).sb Tlw
 have gN := gN.sb Tlw
 have W9 : SB [] I9 (upd J5 lw (.lst [.ref w0, .ref bt])) := U1.trans (Ty.trans (U3.trans (Tbt.trans (Tw0.trans Tlw))))
 generalize upd J5 lw (.lst [.ref w0, .ref bt]) = J6 at Tlw hlw gB gN W9 ⊢
 have hL6 := W9.keep _ _ hL9 nmn
 have hk6 := hk9.sb W9 NoLst.nil
 have hbk6 := hbk9.sb0 W9
 have s6 := s09'.trans W9
 have yok : ∀ n ∈ ys, NameOk n := fun n h => kok n (pm.mem_iff.mp h)
 have big : (2 : Int) <= 2 ^ 1000 := by decide +kernel
 have iN : In67 K C_Book J6 (.ref bk) (.ref w0) bb .nil D := ⟨hbk6, okr, gN, ⟨2, trivial, big⟩, by decide, by decide, ⟨[], fun _ z => absurd z nmn, (by decide : 0 <= 60)⟩, ds⟩
 have iB : In67 K C_Book J6 (.ref bk) (.ref bt) bb (Gr.ofPs (bare67 ys)) D := ⟨hbk6, okr, gB, ⟨2, bare67_ok srt (pm.nodup_iff.mpr knd) yok, big⟩, by have h1 := within_deep (Gr.ofPs (bare67 ys)); rw [bare67_parts] at h1; omega, by rw [bare67_parts]; omega, ⟨ys, bare67_nm ys, by omega⟩, ds⟩
 clear hI hk9 hbk9 hL9 hR gB gN hA hy
 refine ⟨lw, rfl, ⟨_, SqL.of hlw⟩, ?_⟩
 refine for_it (walk_list (xs := [V.ref w0, .ref bt])) (fun i σ G => SB [] J6 G /\ ∃ (o11 o12 o13 : Option V), σ = [some (.ref a), some (.ref p1), some (.ref n2), some (.int (t : Int)), some (.ref L3), some (.ref z3), some (.ref bk), some (.int D), some (.ref al), some gv, some (.ref bt), o11, o12, o13]) ⟨SB.refl, _, _, _, rfl⟩ (fun i σ G hi h => h.1.sqL nmn (SqL.of hlw)) (fun i x σ Hq G hi h y => ?_) (fun σ G h => ?_)
 ·obtain ⟨sG, o11, o12, o13, rfl⟩ := h
  obtain ⟨rfl, ey⟩ := y
  obtain ⟨gg, hgg⟩ : ∃ gg, In67 K C_Book G (.ref bk) x bb gg D := by
   have hx := List.mem_of_getElem? ey
   rcases List.mem_cons.mp hx with h | h
   ·rw [h]; exact ⟨_, iN.sb0 sG⟩
   ·rw [List.mem_singleton.mp h]; exact ⟨_, iB.sb0 sG⟩
  refine ⟨_, rfl, _, rfl, _, rfl, _, rfl, .ref bk, x, L3, xx, bb, gg, D, rfl, sG.keep _ _ hL6 nmn, hk6.sb sG NoLst.nil, hgg, fun J7 U7 => ⟨_, rfl, ?_⟩⟩
  exact iteF ⟨sG.trans U7, _, _, _, rfl⟩
 obtain ⟨sG, o11, o12, o13, rfl⟩ := h
 have hm : Du67 true bb .nil .fine := .f (fun _ z => absurd z nmn) fun _ _ z => absurd z nmn
 have hf : Du67 false bb .nil .fine := .f (fun _ z => absurd z nmn) fun e => nomatch e
 have cap : (0 : Int) < CAP := by decide +kernel
 have iG := iN.sb0 sG
 refine ⟨_, rfl, by show 0 <= sizeLine; decide, fun v0 nv0 => ?_⟩
 have X1 := SB.new (ps := []) nv0 (.tup [])
 have g0 : GA K (upd G v0 (.tup [])) (.ref v0) .nil := GA_nil (SqT.of upd_same)
 generalize upd G v0 (.tup []) = X at X1 g0 ⊢
 have iX : In67 K C_Book X (.ref bk) (.ref v0) bb .nil D := ⟨iG.bk.sb0 X1, okr, g0, iG.go, iG.deep, iG.parts, iG.nm, ds⟩
 refine ⟨_, rfl, .ref bk, .ref v0, bb, .nil, D, .fine, rfl, iX, hm, ⟨fun _ H' V1 => ?_, fun z => absurd cap (Int.not_lt.mpr z)⟩⟩
 have e0 : Gr.cin bb (cntOf bb D) D .nil = 0 := cin_nil67 _ _ _
 have e1 : Gr.fw bb D .nil = 0 := rfl
 rw [e0]
 refine ⟨_, rfl, by show 0 <= sizeLine; decide, fun v1 nv1 => ?_⟩
 have X2 := SB.new (ps := []) nv1 (.tup [])
 have g1 : GA K (upd H' v1 (.tup [])) (.ref v1) .nil := GA_nil (SqT.of upd_same)
 generalize upd H' v1 (.tup []) = Y at X2 g1 ⊢
 have iY : In67 K C_Book Y (.ref bk) (.ref v1) bb .nil D := ⟨(iX.bk.sb0 V1).sb0 X2, okr, g1, iG.go, iG.deep, iG.parts, iG.nm, ds⟩
 refine ⟨_, rfl, .ref bk, .ref v1, bb, .nil, D, .fine, rfl, iY, hf, ⟨fun _ H'' V2 => ?_, fun z => absurd cap (Int.not_lt.mpr z)⟩⟩
 rw [e1]
 refine ⟨by show 2 <= sizeLine; decide, fun lf nlf => ?_⟩
 have X3 := SB.new (ps := []) nlf (.lst [.int 0, .int 0])
 have hlf : upd H'' lf (.lst [.int 0, .int 0]) lf = some (.lst [.int 0, .int 0]) := upd_same
 have S6 : SB [] J6 (upd H'' lf (.lst [.int 0, .int 0])) := sG.trans (X1.trans (V1.trans (X2.trans (V2.trans X3))))
 generalize upd H'' lf (.lst [.int 0, .int 0]) = Z at X3 hlf S6 ⊢
 refine ⟨lf, rfl, ⟨_, SqL.of hlf⟩, ?_⟩
 refine for_it (walk_list (xs := [V.int 0, .int 0])) (fun i σ G => SB [] Z G /\ ∃ (o11 o12 o13 : Option V), σ = [some (.ref a), some (.ref p1), some (.ref n2), some (.int (t : Int)), some (.ref L3), some (.ref z3), some (.ref bk), some (.int D), some (.ref al), some gv, some (.ref bt), o11, o12, o13]) ⟨SB.refl, _, _, _, rfl⟩ (fun i σ G hi h => h.1.sqL nmn (SqL.of hlf)) (fun i x σ Hq G hi h y => ?_) (fun σ G h => ?_)
 ·obtain ⟨sG, o11, o12, o13, rfl⟩ := h
  obtain ⟨rfl, ey⟩ := y
  have hx : x = .int 0 := by
   have hx := List.mem_of_getElem? ey
   rcases List.mem_cons.mp hx with h | h
   ·exact h
   ·exact List.mem_singleton.mp h
  subst hx
  exact ⟨_, rfl, 0, rfl, _, rfl, iteF ⟨sG, _, _, _, rfl⟩⟩
 obtain ⟨sZ, o11, o12, o13, rfl⟩ := h
 refine ⟨by show 3 <= sizeLine; decide, fun ln nln => ?_⟩
 have X4 := SB.new (ps := []) nln (.lst [.str "f", .str "za", .str "y"])
 have hln : upd G ln (.lst [.str "f", .str "za", .str "y"]) ln = some (.lst [.str "f", .str "za", .str "y"]) := upd_same
 have S7 := (S6.trans sZ).trans X4
 generalize upd G ln (.lst [.str "f", .str "za", .str "y"]) = Z2 at X4 hln S7 ⊢
 refine ⟨ln, rfl, ⟨_, SqL.of hln⟩, ?_⟩
 refine for_it (walk_list (xs := [V.str "f", .str "za", .str "y"])) (fun i σ G => SB [] Z2 G /\ ∃ (o11 o12 o13 : Option V), σ = [some (.ref a), some (.ref p1), some (.ref n2), some (.int (t : Int)), some (.ref L3), some (.ref z3), some (.ref bk), some (.int D), some (.ref al), some gv, some (.ref bt), o11, o12, o13]) ⟨SB.refl, _, _, _, rfl⟩ (fun i σ G hi h => h.1.sqL nmn (SqL.of hln)) (fun i x σ Hq G hi h y => ?_) (fun σ G h => ?_)
 ·obtain ⟨sG, o11, o12, o13, rfl⟩ := h
  obtain ⟨rfl, ey⟩ := y
  obtain ⟨n, rfl, hn⟩ : ∃ n : Str, x = .str n /\ NameOk n := by
   have hx := List.mem_of_getElem? ey
   rcases List.mem_cons.mp hx with h | h
   ·exact ⟨_, h, zz67_ok _ (by simp)⟩
   rcases List.mem_cons.mp h with h | h
   ·exact ⟨_, h, na_za⟩
   ·exact ⟨_, List.mem_singleton.mp h, na_y⟩
  have s7 := S7.trans sG
  refine ⟨_, rfl, _, rfl, _, rfl, n, rfl, fun cv G2 sC gC => ?_⟩
  have iC : In67 K C_Book G2 (.ref bk) cv bb (chn67 n 8) (10 ^ (59 : Int).toNat) := ⟨(hbk6.sb0 s7).sb0 sC, okr, gC, ⟨2, chn67_ok hn 8, big⟩, by have h1 := within_deep (chn67 n 8); rw [chn67_parts] at h1; omega, by rw [chn67_parts]; decide, ⟨[n, "y"], chn67_nm n 8, (by decide : 2 <= 60)⟩, ⟨by decide +kernel, by decide +kernel⟩⟩
  refine ⟨_, _, rfl, rfl, ⟨by decide, by decide, by decide⟩, .ref bk, cv, L3, xx, bb, _, _, rfl, (s7.trans sC).keep _ _ hL6 nmn, (hk6.sb s7 NoLst.nil).sb sC NoLst.nil, iC, fun J8 U8 => ⟨_, rfl, ?_⟩⟩
  exact iteF ⟨(sG.trans sC).trans U8, _, _, _, rfl⟩
 ·obtain ⟨_, o11, o12, o13, rfl⟩ := h
  exact q _
end
theorem facts {P : Program} {w : World} {K : PySem.W.Frag} {h : Heap} {mg : Str -> Option Value} {f : Addr} (X : K.In h) (G : h.Ns mainGlobals mg) (hfa : mg ("law" : Str) = some (.ref f)) (c : He.SaysD fa fn K) (cx : exOk K = true) :
  ∃ fd : FuncData, (∀ (s : Shared) (v : Value), BindsTo s fd ⟨[v], []⟩ [("_law_script", v)]) /\ ∀ base : Heap, K.In base -> base.Ns mainGlobals mg -> FnOk P w K mg base CX0 120 f fd ["_law_script"] (spLaw K) := by
 obtain ⟨fd_is_whole, D_is_whole⟩ := c.def_ 0 (d := d_is_whole) rfl
 have F_is_whole : Fun K "is_whole" "is_whole" s_is_whole _ fd_is_whole := He5.fun_of D_is_whole
 have m_is_whole := He.glo_ok X G (c.fact 0 (f := .glo "is_whole") rfl)
 have b_is_whole := F_is_whole.binds (ps := ["thing"]) fun _ _ _ _ _ _ us hl => match us, hl with | [_], _ => rfl
 obtain ⟨fd_is_many, D_is_many⟩ := c.def_ 1 (d := d_is_many) rfl
 have F_is_many : Fun K "is_many" "is_many" s_is_many _ fd_is_many := He5.fun_of D_is_many
 have m_is_many := He.glo_ok X G (c.fact 1 (f := .glo "is_many") rfl)
 have b_is_many := F_is_many.binds (ps := ["thing"]) fun _ _ _ _ _ _ us hl => match us, hl with | [_], _ => rfl
 obtain ⟨fd_is_name, D_is_name⟩ := c.def_ 2 (d := d_is_name) rfl
 have F_is_name : Fun K "is_name" "is_name" s_is_name _ fd_is_name := He5.fun_of D_is_name
 have m_is_name := He.glo_ok X G (c.fact 2 (f := .glo "is_name") rfl)
 have b_is_name := F_is_name.binds (ps := ["thing"]) fun _ _ _ _ _ _ us hl => match us, hl with | [_], _ => rfl
 obtain ⟨fd_is_rising, D_is_rising⟩ := c.def_ 3 (d := d_is_rising) rfl
 have F_is_rising : Fun K "is_rising" "is_rising" s_is_rising _ fd_is_rising := He5.fun_of D_is_rising
 have m_is_rising := He.glo_ok X G (c.fact 3 (f := .glo "is_rising") rfl)
 have b_is_rising := F_is_rising.binds (ps := ["things"]) fun _ _ _ _ _ _ us hl => match us, hl with | [_], _ => rfl
 obtain ⟨fd_run_of, D_run_of⟩ := c.def_ 4 (d := d_run_of) rfl
 have F_run_of : Fun K "run_of" "run_of" s_run_of _ fd_run_of := He5.fun_of D_run_of
 have m_run_of := He.glo_ok X G (c.fact 4 (f := .glo "run_of") rfl)
 have b_run_of := F_run_of.binds (ps := ["text", "at", "signs"]) fun _ _ _ _ _ _ us hl => match us, hl with | [_, _, _], _ => rfl
 obtain ⟨fd_is_tree, D_is_tree⟩ := c.def_ 5 (d := d_is_tree) rfl
 have F_is_tree : Fun K "is_tree" "is_tree" s_is_tree _ fd_is_tree := He5.fun_of D_is_tree
 have m_is_tree := He.glo_ok X G (c.fact 5 (f := .glo "is_tree") rfl)
 have b_is_tree := F_is_tree.binds (ps := ["thing"]) fun _ _ _ _ _ _ us hl => match us, hl with | [_], _ => rfl
 obtain ⟨fd_is_grove, D_is_grove⟩ := c.def_ 6 (d := d_is_grove) rfl
 have F_is_grove : Fun K "is_grove" "is_grove" s_is_grove _ fd_is_grove := He5.fun_of D_is_grove
 have m_is_grove := He.glo_ok X G (c.fact 6 (f := .glo "is_grove") rfl)
 have b_is_grove := F_is_grove.binds (ps := ["thing"]) fun _ _ _ _ _ _ us hl => match us, hl with | [_], _ => rfl
 obtain ⟨fd_are_grove_pairs, D_are_grove_pairs⟩ := c.def_ 7 (d := d_are_grove_pairs) rfl
 have F_are_grove_pairs : Fun K "are_grove_pairs" "are_grove_pairs" s_are_grove_pairs _ fd_are_grove_pairs := He5.fun_of D_are_grove_pairs
 have m_are_grove_pairs := He.glo_ok X G (c.fact 7 (f := .glo "are_grove_pairs") rfl)
 have b_are_grove_pairs := F_are_grove_pairs.binds (ps := ["things"]) fun _ _ _ _ _ _ us hl => match us, hl with | [_], _ => rfl
 obtain ⟨fd_pairs_within, D_pairs_within⟩ := c.def_ 8 (d := d_pairs_within) rfl
 have F_pairs_within : Fun K "pairs_within" "pairs_within" s_pairs_within _ fd_pairs_within := He5.fun_of D_pairs_within
 have m_pairs_within := He.glo_ok X G (c.fact 8 (f := .glo "pairs_within") rfl)
 have b_pairs_within := F_pairs_within.binds (ps := ["grove"]) fun _ _ _ _ _ _ us hl => match us, hl with | [_], _ => rfl
 obtain ⟨fd_kinds_within, D_kinds_within⟩ := c.def_ 9 (d := d_kinds_within) rfl
 have F_kinds_within : Fun K "kinds_within" "kinds_within" s_kinds_within _ fd_kinds_within := He5.fun_of D_kinds_within
 have m_kinds_within := He.glo_ok X G (c.fact 9 (f := .glo "kinds_within") rfl)
 have b_kinds_within := F_kinds_within.binds (ps := ["grove"]) fun _ _ _ _ _ _ us hl => match us, hl with | [_], _ => rfl
 obtain ⟨fd_rules_from_nought, D_rules_from_nought⟩ := c.def_ 10 (d := d_rules_from_nought) rfl
 have F_rules_from_nought : Fun K "rules_from_nought" "rules_from_nought" s_rules_from_nought _ fd_rules_from_nought := He5.fun_of D_rules_from_nought
 have m_rules_from_nought := He.glo_ok X G (c.fact 10 (f := .glo "rules_from_nought") rfl)
 have b_rules_from_nought := F_rules_from_nought.binds (ps := ["book", "name"]) fun _ _ _ _ _ _ us hl => match us, hl with | [_, _], _ => rfl
 obtain ⟨fd_check_kind, D_check_kind⟩ := c.def_ 11 (d := d_check_kind) rfl
 have F_check_kind : Fun K "check_kind" "check_kind" s_check_kind _ fd_check_kind := He5.fun_of D_check_kind
 have m_check_kind := He.glo_ok X G (c.fact 11 (f := .glo "check_kind") rfl)
 have b_check_kind := F_check_kind.binds (ps := ["book", "name"]) fun _ _ _ _ _ _ us hl => match us, hl with | [_, _], _ => rfl
 obtain ⟨fd_check_kinds, D_check_kinds⟩ := c.def_ 12 (d := d_check_kinds) rfl
 have F_check_kinds : Fun K "check_kinds" "check_kinds" s_check_kinds _ fd_check_kinds := He5.fun_of D_check_kinds
 have m_check_kinds := He.glo_ok X G (c.fact 12 (f := .glo "check_kinds") rfl)
 have b_check_kinds := F_check_kinds.binds (ps := ["book", "grove"]) fun _ _ _ _ _ _ us hl => match us, hl with | [_, _], _ => rfl
 obtain ⟨fd_are_kinds, D_are_kinds⟩ := c.def_ 13 (d := d_are_kinds) rfl
 have F_are_kinds : Fun K "are_kinds" "are_kinds" s_are_kinds _ fd_are_kinds := He5.fun_of D_are_kinds
 have m_are_kinds := He.glo_ok X G (c.fact 13 (f := .glo "are_kinds") rfl)
 have b_are_kinds := F_are_kinds.binds (ps := ["things"]) fun _ _ _ _ _ _ us hl => match us, hl with | [_], _ => rfl
 obtain ⟨fd_is_kind, D_is_kind⟩ := c.def_ 14 (d := d_is_kind) rfl
 have F_is_kind : Fun K "is_kind" "is_kind" s_is_kind _ fd_is_kind := He5.fun_of D_is_kind
 have m_is_kind := He.glo_ok X G (c.fact 14 (f := .glo "is_kind") rfl)
 have b_is_kind := F_is_kind.binds (ps := ["thing"]) fun _ _ _ _ _ _ us hl => match us, hl with | [_], _ => rfl
 obtain ⟨fd_is_rule, D_is_rule⟩ := c.def_ 15 (d := d_is_rule) rfl
 have F_is_rule : Fun K "is_rule" "is_rule" s_is_rule _ fd_is_rule := He5.fun_of D_is_rule
 have m_is_rule := He.glo_ok X G (c.fact 15 (f := .glo "is_rule") rfl)
 have b_is_rule := F_is_rule.binds (ps := ["thing"]) fun _ _ _ _ _ _ us hl => match us, hl with | [_], _ => rfl
 obtain ⟨fd_is_rule_of, D_is_rule_of⟩ := c.def_ 16 (d := d_is_rule_of) rfl
 have F_is_rule_of : Fun K "is_rule_of" "is_rule_of" s_is_rule_of _ fd_is_rule_of := He5.fun_of D_is_rule_of
 have m_is_rule_of := He.glo_ok X G (c.fact 16 (f := .glo "is_rule_of") rfl)
 have b_is_rule_of := F_is_rule_of.binds (ps := ["rule", "names"]) fun _ _ _ _ _ _ us hl => match us, hl with | [_, _], _ => rfl
 obtain ⟨fd_capped, D_capped⟩ := c.def_ 17 (d := d_capped) rfl
 have F_capped : Fun K "capped" "capped" s_capped _ fd_capped := He5.fun_of D_capped
 have m_capped := He.glo_ok X G (c.fact 17 (f := .glo "capped") rfl)
 have b_capped := F_capped.binds (ps := ["many"]) fun _ _ _ _ _ _ us hl => match us, hl with | [_], _ => rfl
 obtain ⟨fd_check_long, D_check_long⟩ := c.def_ 18 (d := d_check_long) rfl
 have F_check_long : Fun K "check_long" "check_long" s_check_long _ fd_check_long := He5.fun_of D_check_long
 have m_check_long := He.glo_ok X G (c.fact 18 (f := .glo "check_long") rfl)
 have b_check_long := F_check_long.binds (ps := ["many"]) fun _ _ _ _ _ _ us hl => match us, hl with | [_], _ => rfl
 obtain ⟨fd_count_in, D_count_in⟩ := c.def_ 19 (d := d_count_in) rfl
 have F_count_in : Fun K "count_in" "count_in" s_count_in _ fd_count_in := He5.fun_of D_count_in
 have m_count_in := He.glo_ok X G (c.fact 19 (f := .glo "count_in") rfl)
 have b_count_in := F_count_in.binds (ps := ["book", "counts", "grove", "bound"]) fun _ _ _ _ _ _ us hl => match us, hl with | [_, _, _, _], _ => rfl
 obtain ⟨fd_count_of, D_count_of⟩ := c.def_ 20 (d := d_count_of) rfl
 have F_count_of : Fun K "count_of" "count_of" s_count_of _ fd_count_of := He5.fun_of D_count_of
 have m_count_of := He.glo_ok X G (c.fact 20 (f := .glo "count_of") rfl)
 have b_count_of := F_count_of.binds (ps := ["book", "counts", "tree", "bound"]) fun _ _ _ _ _ _ us hl => match us, hl with | [_, _, _, _], _ => rfl
 obtain ⟨fd_spread_count, D_spread_count⟩ := c.def_ 21 (d := d_spread_count) rfl
 have F_spread_count : Fun K "spread_count" "spread_count" s_spread_count _ fd_spread_count := He5.fun_of D_spread_count
 have m_spread_count := He.glo_ok X G (c.fact 21 (f := .glo "spread_count") rfl)
 have b_spread_count := F_spread_count.binds (ps := ["own", "inner", "bound"]) fun _ _ _ _ _ _ us hl => match us, hl with | [_, _, _], _ => rfl
 obtain ⟨fd_tree_at, D_tree_at⟩ := c.def_ 22 (d := d_tree_at) rfl
 have F_tree_at : Fun K "tree_at" "tree_at" s_tree_at _ fd_tree_at := He5.fun_of D_tree_at
 have m_tree_at := He.glo_ok X G (c.fact 22 (f := .glo "tree_at") rfl)
 have b_tree_at := F_tree_at.binds (ps := ["grove", "place"]) fun _ _ _ _ _ _ us hl => match us, hl with | [_, _], _ => rfl
 obtain ⟨fd_all_places, D_all_places⟩ := c.def_ 23 (d := d_all_places) rfl
 have F_all_places : Fun K "all_places" "all_places" s_all_places _ fd_all_places := He5.fun_of D_all_places
 have m_all_places := He.glo_ok X G (c.fact 23 (f := .glo "all_places") rfl)
 have b_all_places := F_all_places.binds (ps := ["grove"]) fun _ _ _ _ _ _ us hl => match us, hl with | [_], _ => rfl
 obtain ⟨fd_bare_places, D_bare_places⟩ := c.def_ 24 (d := d_bare_places) rfl
 have F_bare_places : Fun K "bare_places" "bare_places" s_bare_places _ fd_bare_places := He5.fun_of D_bare_places
 have m_bare_places := He.glo_ok X G (c.fact 24 (f := .glo "bare_places") rfl)
 have b_bare_places := F_bare_places.binds (ps := ["grove"]) fun _ _ _ _ _ _ us hl => match us, hl with | [_], _ => rfl
 obtain ⟨fd_steps_of, D_steps_of⟩ := c.def_ 25 (d := d_steps_of) rfl
 have F_steps_of : Fun K "steps_of" "steps_of" s_steps_of _ fd_steps_of := He5.fun_of D_steps_of
 have m_steps_of := He.glo_ok X G (c.fact 25 (f := .glo "steps_of") rfl)
 have b_steps_of := F_steps_of.binds (ps := ["book", "name"]) fun _ _ _ _ _ _ us hl => match us, hl with | [_, _], _ => rfl
 obtain ⟨fd_steps_in, D_steps_in⟩ := c.def_ 26 (d := d_steps_in) rfl
 have F_steps_in : Fun K "steps_in" "steps_in" s_steps_in _ fd_steps_in := He5.fun_of D_steps_in
 have m_steps_in := He.glo_ok X G (c.fact 26 (f := .glo "steps_in") rfl)
 have b_steps_in := F_steps_in.binds (ps := ["name", "rule", "word", "grove"]) fun _ _ _ _ _ _ us hl => match us, hl with | [_, _, _, _], _ => rfl
 obtain ⟨fd_leads, D_leads⟩ := c.def_ 27 (d := d_leads) rfl
 have F_leads : Fun K "leads" "leads" s_leads _ fd_leads := He5.fun_of D_leads
 have m_leads := He.glo_ok X G (c.fact 27 (f := .glo "leads") rfl)
 have b_leads := F_leads.binds (ps := ["book", "name"]) fun _ _ _ _ _ _ us hl => match us, hl with | [_, _], _ => rfl
 obtain ⟨fd_ending_kinds, D_ending_kinds⟩ := c.def_ 28 (d := d_ending_kinds) rfl
 have F_ending_kinds : Fun K "ending_kinds" "ending_kinds" s_ending_kinds _ fd_ending_kinds := He5.fun_of D_ending_kinds
 have m_ending_kinds := He.glo_ok X G (c.fact 28 (f := .glo "ending_kinds") rfl)
 have b_ending_kinds := F_ending_kinds.binds (ps := ["book"]) fun _ _ _ _ _ _ us hl => match us, hl with | [_], _ => rfl
 obtain ⟨fd_lead_into, D_lead_into⟩ := c.def_ 29 (d := d_lead_into) rfl
 have F_lead_into : Fun K "lead_into" "lead_into" s_lead_into _ fd_lead_into := He5.fun_of D_lead_into
 have m_lead_into := He.glo_ok X G (c.fact 29 (f := .glo "lead_into") rfl)
 have b_lead_into := F_lead_into.binds (ps := ["led", "ending"]) fun _ _ _ _ _ _ us hl => match us, hl with | [_, _], _ => rfl
 obtain ⟨fd_endless_kinds, D_endless_kinds⟩ := c.def_ 30 (d := d_endless_kinds) rfl
 have F_endless_kinds : Fun K "endless_kinds" "endless_kinds" s_endless_kinds _ fd_endless_kinds := He5.fun_of D_endless_kinds
 have m_endless_kinds := He.glo_ok X G (c.fact 30 (f := .glo "endless_kinds") rfl)
 have b_endless_kinds := F_endless_kinds.binds (ps := ["book"]) fun _ _ _ _ _ _ us hl => match us, hl with | [_], _ => rfl
 obtain ⟨fd_check_ends, D_check_ends⟩ := c.def_ 31 (d := d_check_ends) rfl
 have F_check_ends : Fun K "check_ends" "check_ends" s_check_ends _ fd_check_ends := He5.fun_of D_check_ends
 have m_check_ends := He.glo_ok X G (c.fact 31 (f := .glo "check_ends") rfl)
 have b_check_ends := F_check_ends.binds (ps := ["book", "grove"]) fun _ _ _ _ _ _ us hl => match us, hl with | [_, _], _ => rfl
 obtain ⟨fd_most_falls, D_most_falls⟩ := c.def_ 32 (d := d_most_falls) rfl
 have F_most_falls : Fun K "most_falls" "most_falls" s_most_falls _ fd_most_falls := He5.fun_of D_most_falls
 have m_most_falls := He.glo_ok X G (c.fact 32 (f := .glo "most_falls") rfl)
 have b_most_falls := F_most_falls.binds (ps := ["book", "grove", "bound"]) fun _ _ _ _ _ _ us hl => match us, hl with | [_, _, _], _ => rfl
 obtain ⟨fd_long_fall, D_long_fall⟩ := c.def_ 33 (d := d_long_fall) rfl
 have F_long_fall : Fun K "long_fall" "long_fall" s_long_fall _ fd_long_fall := He5.fun_of D_long_fall
 have m_long_fall := He.glo_ok X G (c.fact 33 (f := .glo "long_fall") rfl)
 have b_long_fall := F_long_fall.binds (ps := ["book", "grove", "bound"]) fun _ _ _ _ _ _ us hl => match us, hl with | [_, _, _], _ => rfl
 obtain ⟨fd_most_by_kind, D_most_by_kind⟩ := c.def_ 34 (d := d_most_by_kind) rfl
 have F_most_by_kind : Fun K "most_by_kind" "most_by_kind" s_most_by_kind _ fd_most_by_kind := He5.fun_of D_most_by_kind
 have m_most_by_kind := He.glo_ok X G (c.fact 34 (f := .glo "most_by_kind") rfl)
 have b_most_by_kind := F_most_by_kind.binds (ps := ["book", "bound"]) fun _ _ _ _ _ _ us hl => match us, hl with | [_, _], _ => rfl
 obtain ⟨fd_laid_by_rule, D_laid_by_rule⟩ := c.def_ 35 (d := d_laid_by_rule) rfl
 have F_laid_by_rule : Fun K "laid_by_rule" "laid_by_rule" s_laid_by_rule _ fd_laid_by_rule := He5.fun_of D_laid_by_rule
 have m_laid_by_rule := He.glo_ok X G (c.fact 35 (f := .glo "laid_by_rule") rfl)
 have b_laid_by_rule := F_laid_by_rule.binds (ps := ["book", "counts", "name", "bound"]) fun _ _ _ _ _ _ us hl => match us, hl with | [_, _, _, _], _ => rfl
 obtain ⟨fd_laid_count, D_laid_count⟩ := c.def_ 36 (d := d_laid_count) rfl
 have F_laid_count : Fun K "laid_count" "laid_count" s_laid_count _ fd_laid_count := He5.fun_of D_laid_count
 have m_laid_count := He.glo_ok X G (c.fact 36 (f := .glo "laid_count") rfl)
 have b_laid_count := F_laid_count.binds (ps := ["book", "counts", "rule", "bound"]) fun _ _ _ _ _ _ us hl => match us, hl with | [_, _, _, _], _ => rfl
 obtain ⟨fd_fewest_falls, D_fewest_falls⟩ := c.def_ 37 (d := d_fewest_falls) rfl
 have F_fewest_falls : Fun K "fewest_falls" "fewest_falls" s_fewest_falls _ fd_fewest_falls := He5.fun_of D_fewest_falls
 have m_fewest_falls := He.glo_ok X G (c.fact 37 (f := .glo "fewest_falls") rfl)
 have b_fewest_falls := F_fewest_falls.binds (ps := ["book", "grove", "bound"]) fun _ _ _ _ _ _ us hl => match us, hl with | [_, _, _], _ => rfl
 obtain ⟨fd_short_fall, D_short_fall⟩ := c.def_ 38 (d := d_short_fall) rfl
 have F_short_fall : Fun K "short_fall" "short_fall" s_short_fall _ fd_short_fall := He5.fun_of D_short_fall
 have m_short_fall := He.glo_ok X G (c.fact 38 (f := .glo "short_fall") rfl)
 have b_short_fall := F_short_fall.binds (ps := ["book", "grove", "bound"]) fun _ _ _ _ _ _ us hl => match us, hl with | [_, _, _], _ => rfl
 obtain ⟨fd__law_purse, D__law_purse⟩ := c.def_ 39 (d := d__law_purse) rfl
 have F__law_purse : Fun K "_law_purse" "_law_purse" s__law_purse _ fd__law_purse := He5.fun_of D__law_purse
 have m__law_purse := He.glo_ok X G (c.fact 39 (f := .glo "_law_purse") rfl)
 have b__law_purse := F__law_purse.binds (ps := ["_law_script", "_law_k"]) fun _ _ _ _ _ _ us hl => match us, hl with | [_, _], _ => rfl
 obtain ⟨fd__law_take, D__law_take⟩ := c.def_ 40 (d := d__law_take) rfl
 have F__law_take : Fun K "_law_take" "_law_take" s__law_take _ fd__law_take := He5.fun_of D__law_take
 have m__law_take := He.glo_ok X G (c.fact 40 (f := .glo "_law_take") rfl)
 have b__law_take := F__law_take.binds (ps := ["_law_purse_here", "_law_many"]) fun _ _ _ _ _ _ us hl => match us, hl with | [_, _], _ => rfl
 obtain ⟨fd__law_tidy, D__law_tidy⟩ := c.def_ 41 (d := d__law_tidy) rfl
 have F__law_tidy : Fun K "_law_tidy" "_law_tidy" s__law_tidy _ fd__law_tidy := He5.fun_of D__law_tidy
 have m__law_tidy := He.glo_ok X G (c.fact 41 (f := .glo "_law_tidy") rfl)
 have b__law_tidy := F__law_tidy.binds (ps := ["_law_pairs"]) fun _ _ _ _ _ _ us hl => match us, hl with | [_], _ => rfl
 obtain ⟨fd__law_side, D__law_side⟩ := c.def_ 42 (d := d__law_side) rfl
 have F__law_side : Fun K "_law_side" "_law_side" s__law_side _ fd__law_side := He5.fun_of D__law_side
 have m__law_side := He.glo_ok X G (c.fact 42 (f := .glo "_law_side") rfl)
 have b__law_side := F__law_side.binds (ps := ["_law_purse_here", "_law_names_here", "_law_many", "_law_great", "_law_low"]) fun _ _ _ _ _ _ us hl => match us, hl with | [_, _, _, _, _], _ => rfl
 obtain ⟨fd__law_kinds, D__law_kinds⟩ := c.def_ 43 (d := d__law_kinds) rfl
 have F__law_kinds : Fun K "_law_kinds" "_law_kinds" s__law_kinds _ fd__law_kinds := He5.fun_of D__law_kinds
 have m__law_kinds := He.glo_ok X G (c.fact 43 (f := .glo "_law_kinds") rfl)
 have b__law_kinds := F__law_kinds.binds (ps := ["_law_script", "_law_first", "_law_names_here", "_law_great", "_law_rounds"]) fun _ _ _ _ _ _ us hl => match us, hl with | [_, _, _, _, _], _ => rfl
 obtain ⟨fd__law_inside, D__law_inside⟩ := c.def_ 44 (d := d__law_inside) rfl
 have F__law_inside : Fun K "_law_inside" "_law_inside" s__law_inside _ fd__law_inside := He5.fun_of D__law_inside
 have m__law_inside := He.glo_ok X G (c.fact 44 (f := .glo "_law_inside") rfl)
 have b__law_inside := F__law_inside.binds (ps := ["_law_grove"]) fun _ _ _ _ _ _ us hl => match us, hl with | [_], _ => rfl
 obtain ⟨fd__law_leads, D__law_leads⟩ := c.def_ 45 (d := d__law_leads) rfl
 have F__law_leads : Fun K "_law_leads" "_law_leads" s__law_leads _ fd__law_leads := He5.fun_of D__law_leads
 have m__law_leads := He.glo_ok X G (c.fact 45 (f := .glo "_law_leads") rfl)
 have b__law_leads := F__law_leads.binds (ps := ["_law_told"]) fun _ _ _ _ _ _ us hl => match us, hl with | [_], _ => rfl
 obtain ⟨fd__law_come, D__law_come⟩ := c.def_ 46 (d := d__law_come) rfl
 have F__law_come : Fun K "_law_come" "_law_come" s__law_come _ fd__law_come := He5.fun_of D__law_come
 have m__law_come := He.glo_ok X G (c.fact 46 (f := .glo "_law_come") rfl)
 have b__law_come := F__law_come.binds (ps := ["_law_leads_here", "_law_name"]) fun _ _ _ _ _ _ us hl => match us, hl with | [_, _], _ => rfl
 obtain ⟨fd__law_endless, D__law_endless⟩ := c.def_ 47 (d := d__law_endless) rfl
 have F__law_endless : Fun K "_law_endless" "_law_endless" s__law_endless _ fd__law_endless := He5.fun_of D__law_endless
 have m__law_endless := He.glo_ok X G (c.fact 47 (f := .glo "_law_endless") rfl)
 have b__law_endless := F__law_endless.binds (ps := ["_law_told"]) fun _ _ _ _ _ _ us hl => match us, hl with | [_], _ => rfl
 obtain ⟨fd__law_seen, D__law_seen⟩ := c.def_ 48 (d := d__law_seen) rfl
 have F__law_seen : Fun K "_law_seen" "_law_seen" s__law_seen _ fd__law_seen := He5.fun_of D__law_seen
 have m__law_seen := He.glo_ok X G (c.fact 48 (f := .glo "_law_seen") rfl)
 have b__law_seen := F__law_seen.binds (ps := ["_law_ask", "_law_book", "_law_grove", "_law_bound"]) fun _ _ _ _ _ _ us hl => match us, hl with | [_, _, _, _], _ => rfl
 obtain ⟨fd__law_nought, D__law_nought⟩ := c.def_ 49 (d := d__law_nought) rfl
 have F__law_nought : Fun K "_law_nought" "_law_nought" s__law_nought _ fd__law_nought := He5.fun_of D__law_nought
 have m__law_nought := He.glo_ok X G (c.fact 49 (f := .glo "_law_nought") rfl)
 have b__law_nought := F__law_nought.binds (ps := ["_law_found"]) fun _ _ _ _ _ _ us hl => match us, hl with | [_], _ => rfl
 obtain ⟨fd__law_right, D__law_right⟩ := c.def_ 50 (d := d__law_right) rfl
 have F__law_right : Fun K "_law_right" "_law_right" s__law_right _ fd__law_right := He5.fun_of D__law_right
 have m__law_right := He.glo_ok X G (c.fact 50 (f := .glo "_law_right") rfl)
 have b__law_right := F__law_right.binds (ps := ["_law_book", "_law_told", "_law_grove", "_law_bound"]) fun _ _ _ _ _ _ us hl => match us, hl with | [_, _, _, _], _ => rfl
 obtain ⟨fd__law_chain, D__law_chain⟩ := c.def_ 51 (d := d__law_chain) rfl
 have F__law_chain : Fun K "_law_chain" "_law_chain" s__law_chain _ fd__law_chain := He5.fun_of D__law_chain
 have m__law_chain := He.glo_ok X G (c.fact 51 (f := .glo "_law_chain") rfl)
 have b__law_chain := F__law_chain.binds (ps := ["_law_name"]) fun _ _ _ _ _ _ us hl => match us, hl with | [_], _ => rfl
 obtain ⟨fd_law, D_law⟩ := c.def_ 52 (d := d_law) rfl
 have F_law : Fun K "law" "law" s_law _ fd_law := He5.fun_of D_law
 have m_law := He.glo_ok X G (c.fact 52 (f := .glo "law") rfl)
 obtain ⟨fd_NoKind___init__, D_NoKind___init__⟩ := c.def_ 53 (d := d_NoKind___init__) rfl
 have F_NoKind___init__ : Fun K "__init__" "NoKind.__init__" s_NoKind___init__ _ fd_NoKind___init__ := He5.fun_of D_NoKind___init__
 have b_NoKind___init__ := F_NoKind___init__.binds (ps := ["self", "kind"]) fun _ _ _ _ _ _ us hl => match us, hl with | [_, _], _ => rfl
 obtain ⟨fd_Endless___init__, D_Endless___init__⟩ := c.def_ 54 (d := d_Endless___init__) rfl
 have F_Endless___init__ : Fun K "__init__" "Endless.__init__" s_Endless___init__ _ fd_Endless___init__ := He5.fun_of D_Endless___init__
 have b_Endless___init__ := F_Endless___init__.binds (ps := ["self", "kind"]) fun _ _ _ _ _ _ us hl => match us, hl with | [_, _], _ => rfl
 obtain ⟨fd_Book___init__, D_Book___init__⟩ := c.def_ 55 (d := d_Book___init__) rfl
 have F_Book___init__ : Fun K "__init__" "Book.__init__" s_Book___init__ _ fd_Book___init__ := He5.fun_of D_Book___init__
 have b_Book___init__ := F_Book___init__.binds (ps := ["self", "kinds"]) fun _ _ _ _ _ _ us hl => match us, hl with | [_, _], _ => rfl
 obtain ⟨fd_Book_names, D_Book_names⟩ := c.def_ 56 (d := d_Book_names) rfl
 have F_Book_names : Fun K "names" "Book.names" s_Book_names _ fd_Book_names := He5.fun_of D_Book_names
 have b_Book_names := F_Book_names.binds (ps := ["self"]) fun _ _ _ _ _ _ us hl => match us, hl with | [_], _ => rfl
 obtain ⟨fd_Book_spreads, D_Book_spreads⟩ := c.def_ 57 (d := d_Book_spreads) rfl
 have F_Book_spreads : Fun K "spreads" "Book.spreads" s_Book_spreads _ fd_Book_spreads := He5.fun_of D_Book_spreads
 have b_Book_spreads := F_Book_spreads.binds (ps := ["self", "name"]) fun _ _ _ _ _ _ us hl => match us, hl with | [_, _], _ => rfl
 obtain ⟨fd_Book_rules, D_Book_rules⟩ := c.def_ 58 (d := d_Book_rules) rfl
 have F_Book_rules : Fun K "rules" "Book.rules" s_Book_rules _ fd_Book_rules := He5.fun_of D_Book_rules
 have b_Book_rules := F_Book_rules.binds (ps := ["self", "name"]) fun _ _ _ _ _ _ us hl => match us, hl with | [_, _], _ => rfl
 have B : BI mg := ⟨He.free_ok X G (c.fact 53 (f := .free "len") rfl), He.free_ok X G (c.fact 54 (f := .free "isinstance") rfl), He.free_ok X G (c.fact 55 (f := .free "int") rfl), He.free_ok X G (c.fact 56 (f := .free "bool") rfl), He.free_ok X G (c.fact 57 (f := .free "str") rfl), He.free_ok X G (c.fact 58 (f := .free "tuple") rfl), He.free_ok X G (c.fact 59 (f := .free "list") rfl), He.free_ok X G (c.fact 60 (f := .free "all") rfl), He.free_ok X G (c.fact 61 (f := .free "zip") rfl), He.free_ok X G (c.fact 62 (f := .free "sum") rfl), He.free_ok X G (c.fact 63 (f := .free "max") rfl), He.free_ok X G (c.fact 64 (f := .free "range") rfl), He.free_ok X G (c.fact 65 (f := .free "enumerate") rfl), He.free_ok X G (c.fact 66 (f := .free "abs") rfl), He.free_ok X G (c.fact 67 (f := .free "sorted") rfl), He.free_ok X G (c.fact 68 (f := .free "min") rfl), He.free_ok X G (c.fact 69 (f := .free "reversed") rfl), He.free_ok X G (c.fact 70 (f := .free "any") rfl), He.free_ok X G (c.fact 71 (f := .free "set") rfl), He.free_ok X G (c.fact 72 (f := .free "dict") rfl), He.free_ok X G (c.fact 73 (f := .free "repr") rfl)⟩
 obtain ⟨xk_NoKind, cx⟩ := He.ba cx
 obtain ⟨xk_Endless, cx⟩ := He.ba cx
 obtain ⟨xt_NO_GROVES, cx⟩ := He.ba cx
 have W_NO_GROVES := no2B_ok xt_NO_GROVES
 have T : ErrsM K mg (He.ga K) eC eN eK := ermB_ok cx (fun n hn => by
   rcases List.mem_cons.mp hn with e | hn
   ·rw [e]; exact He.glo_ok X G (c.fact 76 (f := .glo "NoPlace") rfl)
   rcases List.mem_cons.mp hn with e | hn
   ·rw [e]; exact He.glo_ok X G (c.fact 77 (f := .glo "NoBook") rfl)
   rcases List.mem_cons.mp hn with e | hn
   ·rw [e]; exact He.glo_ok X G (c.fact 78 (f := .glo "NoKind") rfl)
   rcases List.mem_cons.mp hn with e | hn
   ·rw [e]; exact He.glo_ok X G (c.fact 79 (f := .glo "Endless") rfl)
   rcases List.mem_cons.mp hn with e | hn
   ·rw [e]; exact He.glo_ok X G (c.fact 80 (f := .glo "TooLong") rfl)
   exact nomatch hn) (He.glo_ok X G (c.fact 74 (f := .glo "FellError") rfl)) (He.free_ok X G (c.fact 75 (f := .free "ValueError") rfl)) (fun n hn => by
   rcases List.mem_cons.mp hn with e | hn
   ·rw [e]; exact He.noat_ok (c.fact 81 (f := .noat "NoKind" "kind") rfl)
   rcases List.mem_cons.mp hn with e | hn
   ·rw [e]; exact He.noat_ok (c.fact 82 (f := .noat "Endless" "kind") rfl)
   exact nomatch hn)
 have L_LETTERS := He.str_ok X G (c.fact 83 (f := .str "LETTERS" "abcdefghijklmnopqrstuvwxyz") rfl)
 have L_LONGEST_NAME := He.int_ok X G (c.fact 84 (f := .int "LONGEST_NAME" (8)) rfl)
 have L_MOST_KINDS := He.int_ok X G (c.fact 85 (f := .int "MOST_KINDS" (8)) rfl)
 have L_MOST_RULES := He.int_ok X G (c.fact 86 (f := .int "MOST_RULES" (4)) rfl)
 have L_MOST_RULE_PARTS := He.int_ok X G (c.fact 87 (f := .int "MOST_RULE_PARTS" (4)) rfl)
 have L_MOST_MANY := He.int_ok X G (c.fact 88 (f := .int "MOST_MANY" (1000000000)) rfl)
 have L_TOO_LONG := He.int_ok X G (c.fact 89 (f := .int "TOO_LONG" (1000000000000000000000000000000000000000000000000000000000000000000000000000000000000000000000000000000000000000000000000000000000000000000000000000000000000000000000000000000000000000000000000000000000000000000000000000000000000000000000000000000000000000000000000000000000000000000000000000000000000)) rfl)
 have V_NO_GROVES := He.glo_ok X G (c.fact 90 (f := .glo "NO_GROVES") rfl)
 have O_NoBook : Own K mg "NoBook" (He.ga K "NoBook") := by
  obtain ⟨y1, y2, y3, y4⟩ := He.exc_ok (c.fact 91 (f := .exc "NoBook") rfl)
  exact ⟨He.glo_ok X G (c.fact 77 (f := .glo "NoBook") rfl), y1, y2, y3, y4⟩
 have O_NoPlace : Own K mg "NoPlace" (He.ga K "NoPlace") := by
  obtain ⟨y1, y2, y3, y4⟩ := He.exc_ok (c.fact 92 (f := .exc "NoPlace") rfl)
  exact ⟨He.glo_ok X G (c.fact 76 (f := .glo "NoPlace") rfl), y1, y2, y3, y4⟩
 have O_TooLong : Own K mg "TooLong" (He.ga K "TooLong") := by
  obtain ⟨y1, y2, y3, y4⟩ := He.exc_ok (c.fact 93 (f := .exc "TooLong") rfl)
  exact ⟨He.glo_ok X G (c.fact 80 (f := .glo "TooLong") rfl), y1, y2, y3, y4⟩
 have m_NoKind := He.glo_ok X G (c.fact 78 (f := .glo "NoKind") rfl)
 have h_NoKind := He.meth_ok (c.fact 94 (f := .meth "NoKind" "__init__") rfl)
 have n_NoKind := He.noat_ok (c.fact 81 (f := .noat "NoKind" "kind") rfl)
 have m_Endless := He.glo_ok X G (c.fact 79 (f := .glo "Endless") rfl)
 have h_Endless := He.meth_ok (c.fact 95 (f := .meth "Endless" "__init__") rfl)
 have n_Endless := He.noat_ok (c.fact 82 (f := .noat "Endless" "kind") rfl)
 have m_Book := He.glo_ok X G (c.fact 96 (f := .glo "Book") rfl)
 have c_Book := He.cls_ok (c.fact 97 (f := .cls "Book") rfl)
 have T_Book : ClsF K (He.ga K "Book") ["spread_by_name", "rows_by_name"] := ⟨c_Book, fun f hf => by
   rcases List.mem_cons.mp hf with e | hf
   ·rw [e]; exact He.noat_ok (c.fact 98 (f := .noat "Book" "spread_by_name") rfl)
   rcases List.mem_cons.mp hf with e | hf
   ·rw [e]; exact He.noat_ok (c.fact 99 (f := .noat "Book" "rows_by_name") rfl)
   exact nomatch hf⟩
 have h_Book___init__ := He.mkr_ok (c.fact 100 (f := .mkr "Book") rfl)
 have h_Book_names := He.meth_ok (c.fact 101 (f := .meth "Book" "names") rfl)
 have h_Book_spreads := He.meth_ok (c.fact 102 (f := .meth "Book" "spreads") rfl)
 have h_Book_rules := He.meth_ok (c.fact 103 (f := .meth "Book" "rules") rfl)
 have e := hfa.symm.trans m_law
 cases e
 have b := FunD.bindsA (ps := ["_law_script"]) D_law fun _ _ _ _ _ _ us hl => match us, hl with | [_], _ => rfl
 refine ⟨fd_law, fun s v => b s [v] rfl, fun base _ _ => ?_⟩
 have g_is_whole : Got P w K mg base "is_whole" ["thing"] 1 (spWhole K) := ⟨_, _, ok_is_whole B F_is_whole, F_is_whole.kp, b_is_whole, m_is_whole⟩
 have g_is_many : Got P w K mg base "is_many" ["thing"] 2 (spMany K []) := ⟨_, _, ok_is_many B g_is_whole F_is_many, F_is_many.kp, b_is_many, m_is_many⟩
 have g_is_rising : Got P w K mg base "is_rising" ["things"] 1 (spRising K) := ⟨_, _, ok_is_rising B F_is_rising, F_is_rising.kp, b_is_rising, m_is_rising⟩
 have g_run_of : Got P w K mg base "run_of" ["text", "at", "signs"] 1 (spRunOf K) := ⟨_, _, ok_run_of B F_run_of, F_run_of.kp, b_run_of, m_run_of⟩
 have g_is_name : Got P w K mg base "is_name" ["thing"] 2 (spName K) := ⟨_, _, ok_is_name B L_LETTERS L_LONGEST_NAME g_run_of F_is_name, F_is_name.kp, b_is_name, m_is_name⟩
 have r_grove : ∀ n, Got P w K mg base "is_tree" ["thing"] (n + 3) (spIsTree K n) /\ Got P w K mg base "is_grove" ["thing"] (n + 3) (spIsGrove K n) /\ Got P w K mg base "are_grove_pairs" ["things"] (n + 3) (spPairsQ K true n) := by
  intro n
  induction n with
  | zero => exact ⟨⟨_, _, none_is_tree, F_is_tree.kp, b_is_tree, m_is_tree⟩, ⟨_, _, none_is_grove, F_is_grove.kp, b_is_grove, m_is_grove⟩, ⟨_, _, none_are_grove_pairs, F_are_grove_pairs.kp, b_are_grove_pairs, m_are_grove_pairs⟩⟩
  | succ n ih => exact ⟨⟨_, _, ok_is_tree B g_is_name ih.2.1 F_is_tree, F_is_tree.kp, b_is_tree, m_is_tree⟩, ⟨_, _, ok_is_grove B g_is_rising ih.2.2 F_is_grove, F_is_grove.kp, b_is_grove, m_is_grove⟩, ⟨_, _, ok_are_grove_pairs B g_is_many ih.1 F_are_grove_pairs, F_are_grove_pairs.kp, b_are_grove_pairs, m_are_grove_pairs⟩⟩
 have g_is_tree : Got P w K mg base "is_tree" ["thing"] 84 (spIsTree K 81) := (r_grove 81).1
 have g_is_grove : Got P w K mg base "is_grove" ["thing"] 84 (spIsGrove K 81) := (r_grove 81).2.1
 have gL_are_grove_pairs : Got P w K mg base "are_grove_pairs" ["things"] 63 (spPairsQ K false 60) := ⟨_, _, ok_are_grove_pairsL B g_is_many (r_grove 59).1 F_are_grove_pairs, F_are_grove_pairs.kp, b_are_grove_pairs, m_are_grove_pairs⟩
 have r_pairs_within : ∀ n, Got P w K mg base "pairs_within" ["grove"] (n) (spPairsW K n) := by
  intro n
  induction n with
  | zero => exact ⟨_, _, none_pairs_within, F_pairs_within.kp, b_pairs_within, m_pairs_within⟩
  | succ n ih => exact ⟨_, _, ok_pairs_within ih F_pairs_within, F_pairs_within.kp, b_pairs_within, m_pairs_within⟩
 have g_pairs_within := r_pairs_within 70
 have r_bare_places : ∀ n, Got P w K mg base "bare_places" ["grove"] (n) (spBareP K n) := by
  intro n
  induction n with
  | zero => exact ⟨_, _, none_bare_places, F_bare_places.kp, b_bare_places, m_bare_places⟩
  | succ n ih => exact ⟨_, _, ok_bare_places B ih F_bare_places, F_bare_places.kp, b_bare_places, m_bare_places⟩
 have g_bare_places := r_bare_places 20
 have g_tree_at : GotXN P w K mg base "tree_at" ["grove", "place"] 2 (spTreeAt K (He.ga K "NoPlace")) := ⟨_, _, ok_tree_at B O_NoPlace g_is_whole F_tree_at, F_tree_at.kp, b_tree_at, m_tree_at⟩
 have g__law_purse : Got P w K mg base "_law_purse" ["_law_script", "_law_k"] 1 (spPurseG K) := ⟨_, _, ok_law_purse B F__law_purse, F__law_purse.kp, b__law_purse, m__law_purse⟩
 have g__law_take : Got P w K mg base "_law_take" ["_law_purse_here", "_law_many"] 1 (spTakeG) := ⟨_, _, ok_law_take F__law_take, F__law_take.kp, b__law_take, m__law_take⟩
 have g__law_tidy : Got P w K mg base "_law_tidy" ["_law_pairs"] 1 (spTidyG K) := ⟨_, _, ok_law_tidy B F__law_tidy, F__law_tidy.kp, b__law_tidy, m__law_tidy⟩
 have g_kinds_within : Got P w K mg base "kinds_within" ["grove"] (71) (spKindsF K) := ⟨_, _, ok_kinds_within B g_pairs_within F_kinds_within, F_kinds_within.kp, b_kinds_within, m_kinds_within⟩
 have O_NoKind : OwnI P w K mg base "NoKind" (He.ga K "NoKind") 1 := ⟨m_NoKind, oexCB_ok xk_NoKind, n_NoKind, ⟨_, _, h_NoKind.at_, beq_iff_eq.mp h_NoKind.fn, ok_NoKind___init__ F_NoKind___init__, b_NoKind___init__⟩⟩
 have g_Book_names : GotM P w K mg base (He.ga K "Book") "names" ["self"] (1) (spBNames K (He.ga K "Book")) := ⟨_, _, ok_Book_names B T_Book F_Book_names, h_Book_names, b_Book_names, c_Book⟩
 have g_check_kind : GotXN P w K mg base "check_kind" ["book", "name"] (3) (spCheckK K (He.ga K "Book") (He.ga K "NoKind")) := ⟨_, _, ok_check_kind B O_NoKind g_Book_names F_check_kind, F_check_kind.kp, b_check_kind, m_check_kind⟩
 have g_Book_rules : GotMXN P w K mg base (He.ga K "Book") "rules" ["self", "name"] (4) (spBRules K (He.ga K "Book") (He.ga K "NoKind")) := ⟨_, _, ok_Book_rules B T_Book g_check_kind F_Book_rules, h_Book_rules, b_Book_rules, c_Book⟩
 have g_rules_from_nought : GotXN P w K mg base "rules_from_nought" ["book", "name"] (5) (spRulesN K (He.ga K "Book") (He.ga K "NoKind")) := ⟨_, _, ok_rules_from_nought B V_NO_GROVES W_NO_GROVES g_Book_rules F_rules_from_nought, F_rules_from_nought.kp, b_rules_from_nought, m_rules_from_nought⟩
 have g_check_kinds : GotXN P w K mg base "check_kinds" ["book", "grove"] (72) (spCheckKX K (He.ga K "Book") (He.ga K "NoKind")) := ⟨_, _, ok_check_kinds B g_kinds_within g_check_kind F_check_kinds, F_check_kinds.kp, b_check_kinds, m_check_kinds⟩
 have g_is_rule : Got P w K mg base "is_rule" ["thing"] (85) (spIsRule K) := ⟨_, _, ok_is_rule B L_MOST_RULE_PARTS L_MOST_MANY g_is_grove g_pairs_within F_is_rule, F_is_rule.kp, b_is_rule, m_is_rule⟩
 have g_is_kind : Got P w K mg base "is_kind" ["thing"] (86) (spIsKind K) := ⟨_, _, ok_is_kind B L_MOST_RULES g_is_name g_is_rule F_is_kind, F_is_kind.kp, b_is_kind, m_is_kind⟩
 have g_is_rule_of : Got P w K mg base "is_rule_of" ["rule", "names"] (71) (spIsRuleOf K) := ⟨_, _, ok_is_rule_of B g_pairs_within F_is_rule_of, F_is_rule_of.kp, b_is_rule_of, m_is_rule_of⟩
 have g_are_kinds : Got P w K mg base "are_kinds" ["things"] (87) (spAreKinds K) := ⟨_, _, ok_are_kinds B L_MOST_KINDS g_is_kind g_is_rule_of F_are_kinds, F_are_kinds.kp, b_are_kinds, m_are_kinds⟩
 have g_capped : Got P w K mg base "capped" ["many"] (1) (spCap) := ⟨_, _, ok_capped B L_TOO_LONG F_capped, F_capped.kp, b_capped, m_capped⟩
 have g_check_long : GotXN P w K mg base "check_long" ["many"] (1) (spChkLong (He.ga K "TooLong")) := ⟨_, _, ok_check_long B O_TooLong L_TOO_LONG F_check_long, F_check_long.kp, b_check_long, m_check_long⟩
 have g_spread_count : Got P w K mg base "spread_count" ["own", "inner", "bound"] (2) (spSpc) := ⟨_, _, ok_spread_count B L_TOO_LONG g_capped F_spread_count, F_spread_count.kp, b_spread_count, m_spread_count⟩
 have g_Book_spreads : GotMXN P w K mg base (He.ga K "Book") "spreads" ["self", "name"] (4) (spBSpreads K (He.ga K "Book") (He.ga K "NoKind")) := ⟨_, _, ok_Book_spreads B T_Book g_check_kind F_Book_spreads, h_Book_spreads, b_Book_spreads, c_Book⟩
 have r_cin : ∀ n, Got P w K mg base "count_in" ["book", "counts", "grove", "bound"] (2 * n + 5) (spCntIn K (He.ga K "Book") n) := by
  intro n
  induction n with
  | zero => exact ⟨_, _, none_cin, F_count_in.kp, b_count_in, m_count_in⟩
  | succ n ih =>
   have h1 : Got P w K mg base "count_of" ["book", "counts", "tree", "bound"] (2 * n + 6) (spCntOf K (He.ga K "Book") n) := ⟨_, _, ok_count_of B ih g_Book_spreads g_spread_count g_capped F_count_of, F_count_of.kp, b_count_of, m_count_of⟩
   exact ⟨_, _, ok_count_in B g_capped h1 F_count_in, F_count_in.kp, b_count_in, m_count_in⟩
 have g_count_in : Got P w K mg base "count_in" ["book", "counts", "grove", "bound"] 45 (spCntIn K (He.ga K "Book") 20) := r_cin 20
 have g_count_of : Got P w K mg base "count_of" ["book", "counts", "tree", "bound"] 46 (spCntOf K (He.ga K "Book") 20) := ⟨_, _, ok_count_of (n := 20) B g_count_in g_Book_spreads g_spread_count g_capped F_count_of, F_count_of.kp, b_count_of, m_count_of⟩
 have r_all_places : ∀ n, Got P w K mg base "all_places" ["grove"] (n) (spAllP K n) := by
  intro n
  induction n with
  | zero => exact ⟨_, _, none_all_places, F_all_places.kp, b_all_places, m_all_places⟩
  | succ n ih => exact ⟨_, _, ok_all_places B ih F_all_places, F_all_places.kp, b_all_places, m_all_places⟩
 have g_all_places : Got P w K mg base "all_places" ["grove"] (20) (spAllP K 20) := r_all_places 20
 have g_steps_in : Got P w K mg base "steps_in" ["name", "rule", "word", "grove"] (21) (spStepsIn K) := ⟨_, _, ok_steps_in B g_all_places g_tree_at F_steps_in, F_steps_in.kp, b_steps_in, m_steps_in⟩
 have g_steps_of : GotXN P w K mg base "steps_of" ["book", "name"] (22) (spStepsOf K (He.ga K "Book") (He.ga K "NoKind")) := ⟨_, _, ok_steps_of B g_Book_rules g_steps_in F_steps_of, F_steps_of.kp, b_steps_of, m_steps_of⟩
 have g_leads : GotXN P w K mg base "leads" ["book", "name"] (23) (spLeads K (He.ga K "Book") (He.ga K "NoKind")) := ⟨_, _, ok_leads B g_steps_of F_leads, F_leads.kp, b_leads, m_leads⟩
 have g_lead_into : Got P w K mg base "lead_into" ["led", "ending"] (1) (spLeadInto K) := ⟨_, _, ok_lead_into B F_lead_into, F_lead_into.kp, b_lead_into, m_lead_into⟩
 have g_ending_kinds : Got P w K mg base "ending_kinds" ["book"] (24) (spEndingO K (He.ga K "Book") (He.ga K "NoKind")) := ⟨_, _, ok_ending_kinds B g_Book_names g_leads g_lead_into F_ending_kinds, F_ending_kinds.kp, b_ending_kinds, m_ending_kinds⟩
 have g_endless_kinds : Got P w K mg base "endless_kinds" ["book"] (25) (spEndless K (He.ga K "Book") (He.ga K "NoKind")) := ⟨_, _, ok_endless_kinds B g_ending_kinds g_Book_names F_endless_kinds, F_endless_kinds.kp, b_endless_kinds, m_endless_kinds⟩
 have O_Endless : OwnI P w K mg base "Endless" (He.ga K "Endless") 1 := ⟨m_Endless, oexCB_ok xk_Endless, n_Endless, ⟨_, _, h_Endless.at_, beq_iff_eq.mp h_Endless.fn, ok_Endless___init__ F_Endless___init__, b_Endless___init__⟩⟩
 have g_check_ends : GotXN P w K mg base "check_ends" ["book", "grove"] (72) (spChkEX K (He.ga K "Book") (He.ga K "NoKind") (He.ga K "Endless")) := ⟨_, _, ok_check_ends B O_Endless g_endless_kinds g_kinds_within F_check_ends, F_check_ends.kp, b_check_ends, m_check_ends⟩
 have g_laid_count : Got P w K mg base "laid_count" ["book", "counts", "rule", "bound"] (46) (spLaidC K (He.ga K "Book")) := ⟨_, _, ok_laid_count B g_count_in F_laid_count, F_laid_count.kp, b_laid_count, m_laid_count⟩
 have g_laid_by_rule : Got P w K mg base "laid_by_rule" ["book", "counts", "name", "bound"] (47) (spLaidBy K (He.ga K "Book")) := ⟨_, _, ok_laid_by_rule B g_rules_from_nought g_laid_count F_laid_by_rule, F_laid_by_rule.kp, b_laid_by_rule, m_laid_by_rule⟩
 have g_most_by_kind : Got P w K mg base "most_by_kind" ["book", "bound"] (48) (spMostK K (He.ga K "Book")) := ⟨_, _, ok_most_by_kind B g_ending_kinds g_capped g_laid_by_rule F_most_by_kind, F_most_by_kind.kp, b_most_by_kind, m_most_by_kind⟩
 have g_most_falls : GotXN P w K mg base "most_falls" ["book", "grove", "bound"] (75) (spMost67 K (He.ga K "Book") (He.ga K "NoKind") (He.ga K "Endless") (He.ga K "TooLong")) := ⟨_, _, ok_most_falls B g_check_kinds g_check_ends g_count_in g_most_by_kind g_check_long F_most_falls, F_most_falls.kp, b_most_falls, m_most_falls⟩
 have g_long_fall : GotXN P w K mg base "long_fall" ["book", "grove", "bound"] (77) (spLong67 K (He.ga K "Book") (He.ga K "NoKind") (He.ga K "Endless") (He.ga K "NoPlace") (He.ga K "TooLong")) := ⟨_, _, ok_long_fall B O_NoPlace g_most_falls g_bare_places g_laid_by_rule g_tree_at g_most_by_kind F_long_fall, F_long_fall.kp, b_long_fall, m_long_fall⟩
 have g_fewest_falls : GotXN P w K mg base "fewest_falls" ["book", "grove", "bound"] (75) (spFew67 K (He.ga K "Book") (He.ga K "NoKind") (He.ga K "TooLong")) := ⟨_, _, ok_fewest_falls B g_check_kinds g_count_in g_Book_names g_check_long F_fewest_falls, F_fewest_falls.kp, b_fewest_falls, m_fewest_falls⟩
 have g_short_fall : GotXN P w K mg base "short_fall" ["book", "grove", "bound"] (77) (spShort67 K (He.ga K "Book") (He.ga K "NoKind") (He.ga K "NoPlace") (He.ga K "TooLong")) := ⟨_, _, ok_short_fall B O_NoPlace g_fewest_falls g_bare_places F_short_fall, F_short_fall.kp, b_short_fall, m_short_fall⟩
 have g__law_side : Got P w K mg base "_law_side" ["_law_purse_here", "_law_names_here", "_law_many", "_law_great", "_law_low"] (2) (spSideV K) := ⟨_, _, ok__law_side B g__law_take g__law_tidy F__law_side, F__law_side.kp, b__law_side, m__law_side⟩
 have g__law_kinds : Got P w K mg base "_law_kinds" ["_law_script", "_law_first", "_law_names_here", "_law_great", "_law_rounds"] (3) (spKindsM K) := ⟨_, _, ok__law_kinds B g__law_purse g__law_take g__law_side F__law_kinds, F__law_kinds.kp, b__law_kinds, m__law_kinds⟩
 have g__law_inside : Got P w K mg base "_law_inside" ["_law_grove"] (1) (spInside67 K) := ⟨_, _, ok__law_inside B F__law_inside, F__law_inside.kp, b__law_inside, m__law_inside⟩
 have g__law_leads : Got P w K mg base "_law_leads" ["_law_told"] (2) (spLeads67 K) := ⟨_, _, ok__law_leads B g__law_inside F__law_leads, F__law_leads.kp, b__law_leads, m__law_leads⟩
 have g__law_come : Got P w K mg base "_law_come" ["_law_leads_here", "_law_name"] (1) (spCome67 K) := ⟨_, _, ok__law_come B F__law_come, F__law_come.kp, b__law_come, m__law_come⟩
 have g__law_endless : Got P w K mg base "_law_endless" ["_law_told"] (3) (spEndl67 K) := ⟨_, _, ok__law_endless B g__law_leads g__law_come F__law_endless, F__law_endless.kp, b__law_endless, m__law_endless⟩
 have g__law_seen : Got P w K mg base "_law_seen" ["_law_ask", "_law_book", "_law_grove", "_law_bound"] (80) (spSeen67 K (He.ga K "Book")) := ⟨_, _, ok__law_seen B T g_most_falls g_long_fall g_fewest_falls g_short_fall F__law_seen, F__law_seen.kp, b__law_seen, m__law_seen⟩
 have g__law_nought : Got P w K mg base "_law_nought" ["_law_found"] (1) (spNought67) := ⟨_, _, ok__law_nought B F__law_nought, F__law_nought.kp, b__law_nought, m__law_nought⟩
 have g__law_right : Got P w K mg base "_law_right" ["_law_book", "_law_told", "_law_grove", "_law_bound"] (82) (spRight67 K (He.ga K "Book")) := ⟨_, _, ok__law_right B g__law_inside g__law_endless g__law_seen F__law_right, F__law_right.kp, b__law_right, m__law_right⟩
 have g__law_chain : Got P w K mg base "_law_chain" ["_law_name"] (1) (spChain67 K) := ⟨_, _, ok__law_chain B F__law_chain, F__law_chain.kp, b__law_chain, m__law_chain⟩
 have g_Book___init__ : GotIN P w K mg base "Book" (He.ga K "Book") ["self", "kinds"] (88) (spBInit K (He.ga K "Book") (He.ga K "NoBook")) := ⟨_, _, ok_Book___init__ B O_NoBook T_Book g_are_kinds F_Book___init__, h_Book___init__, b_Book___init__, m_Book⟩
 exact ok_law B g__law_purse g__law_take g__law_kinds g_Book___init__ g__law_side g__law_right g_fewest_falls g_most_falls g__law_nought g__law_chain F_law
end FT
open PySem PySem.W PySem.Calls PyProof.Rows
set_option maxRecDepth 100000 in
set_option maxHeartbeats 0 in
theorem PySem.Challenge.cw_felltimber_k67_counts_refused_holds : PySem.Challenge.rw_felltimber_k67_counts_refused.Holds := by
 w_on; o_law
 refine HandSHeadRun.head_any (r := OpenLaw.row PySem.Challenge.rw_felltimber_k67_counts_refused) (q := view (OpenLaw.row PySem.Challenge.rw_felltimber_k67_counts_refused).prog [77]) (H := FT.hk) (ob := FT.ob) (M := 9000) (loose := FT.loose) (d := HandSHeadRun.topDef (OpenLaw.row PySem.Challenge.rw_felltimber_k67_counts_refused).prog 77) (kwd := []) FT.ob_eq
  (by kernel_rfl) (fun s => by kernel_rfl) FT.run (by kernel_rfl) (by kernel_rfl) (by kernel_rfl) (by rfl) (by first | assumption | decide +kernel) (by decide +kernel) ⟨rfl, rfl, rfl, rfl, rfl, by decide +kernel⟩ ?hw ?hc
 case hw => w_witness2
 case hc =>
  refine L2.walk_ofE (l := PySem.Challenge.rw_felltimber_k67_counts_refused) (n := 63) (k := 120) (x := "_law_script") (CX := L2.CX0) rfl (by decide) (by kernel_rfl) ⟨rfl, by decide, by decide⟩ ?F (fun _ _ _ _ z => z)
  intro w mg fa h Y G hmg0
  obtain ⟨K, KX, c, cx⟩ := Y
  have hmg : mg ("law" : PySem.Str) = some (.ref fa) := by
   have e : (HandSHeadRun.topDef (OpenLaw.row PySem.Challenge.rw_felltimber_k67_counts_refused).prog 77).name = ("law" : PySem.Str) := by kernel_rfl
   rw [<- e]
   exact hmg0
  obtain ⟨fd, hb, hF⟩ := FT.facts (P := (PySem.Challenge.rw_felltimber_k67_counts_refused).prog) (w := w) KX G hmg c cx
  exact ⟨K, fd, FT.spLaw K, KX, hb, fun H a ns hl _ hS => ⟨a, ns, rfl, hS, hl, fun _ => rfl⟩, hF⟩
