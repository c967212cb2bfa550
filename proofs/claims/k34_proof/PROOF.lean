import PyProof.Rows.All
import Wide.All
import OpenK.AllK
import Wide.FinOn
import KE.KStateDown
import KE.SortData
import HandS.ForMost
import HandS.More
import HandS.Walk
import HandS.Zip
import HandS.Style
import HandS.TupAny
import HandS.IsInst
import HandS.Wide
import HandS.Flow
import HandS.WordsExc
import HandS.Defaults
import HandS.Head0
import HandS.Head1
import HandS.Head2
import HandS.HeadEnd
import HandS.HeadHook1
import HandS.HeadHook2
import HandS.HeadNt
import KE.DataCmp
import HandS.SortKw
import PyProof.TupleOfSeq
import HandS.NoneIn
import HandS.ExcIs
import HandS.RevRange
import KE.GoesEnum
import KE.DataAny
import HandS.Conv
import HandS.SortInts
import HandS.FStr
import HandS.Strs
import HandS.TupSets
import HandS.DictComp
import HandS.ExcInit
import HandS.SetKeys
import HandS.SetTxt0
import HandS.SetBool
import HandS.SetFor
import KE.GoesEnumKw
import PyProof.Rows.CallKwBuiltin
import KE.DatumOrd
import HandS.ExcField
import HandS.HotCalls
import HandS.Replace
import HandS.TupLe
import KE.DataMinMax
import PyProof.StrBlock2
import HandS.WordsDict
import HandS.TupMul
import HandS.TryOnly
import PyProof.MaxThree
import PyProof.NeKinds
import HandS.Deep
import HandS.Dict
import KE.GoesMore
import PyProof.EqKinds
import HandS.Hot
import HandS.ExcCtx
import PySem.Challenge.RW_felltimber_k34_falls_refused
set_option Elab.async false
set_option linter.all false
set_option maxRecDepth 100000
set_option maxHeartbeats 16000000
namespace FT
open PySem PySem.W PySem.Spec PyProof.Rows L2
theorem hunT {A : Around} {e : Env} {k : Nat} (hr : Room k (A.deeper e)) : A.units + 3 + 200 < cLine := by
 have := hr.un
 have h3 : (A.deeper e).units = A.units + 3 := rfl
 omega
theorem nmn {α : Type} {a : α} : ¬ a ∈ ([] : List α) := List.not_mem_nil
theorem mcs {α : Type} {a : α} {l : List α} : a ∈ a :: l := List.mem_cons_self
theorem mcm {α : Type} (y : α) {a : α} {l : List α} (h : a ∈ l) : a ∈ y :: l := List.mem_cons_of_mem y h
theorem small1000 {n : Nat} (h : n <= 10000000) : n < sizeLine := Nat.lt_of_le_of_lt h (by decide)
structure SB (ps : List Addr) (H H' : Hp) : Prop where
 keep : ∀ b o, H b = some o -> b ∉ ps -> H' b = some o
 tups : ∀ b xs, H b = some (.tup xs) -> H' b = some (.tup xs)
 frzs : ∀ b o u, H b = some (.frz o u) -> H' b = some (.frz o u)
 dom : ∀ b, H' b = none -> H b = none
section
variable {K : PySem.W.Frag} {ps qs : List Addr} {H H' H1 H2 : Hp} {a p : Addr} {xs : List V}
theorem SB.refl : SB ps H H := ⟨fun _ _ h _ => h, fun _ _ h => h, fun _ _ _ h => h, fun _ h => h⟩
theorem SB.trans (a : SB ps H H1) (b : SB ps H1 H2) : SB ps H H2 :=
 ⟨fun c o h n => b.keep c o (a.keep c o h n) n, fun c x h => b.tups c x (a.tups c x h), fun c o u h => b.frzs c o u (a.frzs c o u h), fun c h => a.dom c (b.dom c h)⟩
theorem SB.mono (h : SB ps H H') (hs : ∀ b ∈ ps, b ∈ qs) : SB qs H H' := ⟨fun c o e n => h.keep c o e fun z => n (hs c z), h.tups, h.frzs, h.dom⟩
theorem SB.nil (h : SB [] H H') : SB ps H H' := h.mono fun _ z => absurd z (nmn)
theorem SB.new (h : H p = none) (o : HO) : SB ps H (upd H p o) := by
 refine ⟨fun b u e _ => ?_, fun b u e => ?_, fun b v u e => ?_, fun b e => ?_⟩
 ·rw [upd_ne (ne_of_none e h)]; exact e
 ·rw [upd_ne (ne_of_none e h)]; exact e
 ·rw [upd_ne (ne_of_none e h)]; exact e
 ·by_cases q : b = p
  ·subst q; exact h
  ·rw [upd_ne q] at e; exact e
theorem SB.set (h : H p = some (.lst xs)) (hp : p ∈ ps) (o : HO) : SB ps H (upd H p o) := by
 refine ⟨fun b u e n => ?_, fun b u e => ?_, fun b v u e => ?_, fun b e => ?_⟩
 ·rw [upd_ne (fun (z : b = p) => n (by rw [z]; exact hp))]; exact e
 ·rw [upd_ne (fun (z : b = p) => by subst z; rw [h] at e; cases e)]; exact e
 ·rw [upd_ne (fun (z : b = p) => by subst z; rw [h] at e; cases e)]; exact e
 ·by_cases q : b = p
  ·subst q; rw [upd_same] at e; cases e
  ·rw [upd_ne q] at e; exact e
theorem SB.drop (h : SB (p :: ps) H H') (n : H p = none) : SB ps H H' := by
 refine ⟨fun b o e m => h.keep b o e fun z => ?_, h.tups, h.frzs, h.dom⟩
 rcases List.mem_cons.mp z with z | z
 ·subst z; rw [n] at e; cases e
 ·exact m z
theorem SB.sqT (e : SB ps H H') (h : SqT K H a xs) : SqT K H' a xs := by
 rcases h with (h | ⟨o, h⟩) | h
 ·exact .inl (.inl (e.tups _ _ h))
 ·exact .inl (.inr ⟨o, e.frzs _ _ _ h⟩)
 ·exact .inr h
theorem SB.sqL (e : SB ps H H') (n : a ∉ ps) (h : SqL K H a xs) : SqL K H' a xs := by
 rcases h with (h | ⟨o, h⟩) | h
 ·exact .inl (.inl (e.keep _ _ h n))
 ·exact .inl (.inr ⟨o, e.frzs _ _ _ h⟩)
 ·exact .inr h
end
inductive Lad where
 | nil
 | cons (e : Lad) (m : Int) (r : Lad)
 deriving DecidableEq
def rLtD (K : PySem.W.Frag) : R2 := fun x y H Q => ∃ d e, Dp K H x d /\ Dp K H y e /\ alike d e = true /\ d ≠ .none /\ d.depth <= 100 /\ Q (.bl (dataLt d e)) H
section
variable {X : Cx}
theorem op_ltD (hu : X.A.units + 100 < cLine) : OpR X (compareOp .Lt) (rLtD X.K) := by
 intro pins s σ H x y v u Q I rx ry h
 obtain ⟨d, e, hd, he, al, hn, hdp, q⟩ := h
 obtain ⟨as, r1⟩ := Dp.reads I d x v hd rx
 obtain ⟨bs, r2⟩ := Dp.reads I e y u he ry
 exact rcLt_alike d e X.A s v u as bs r1 r2 al hn (by have := Nat.min_le_left d.depth e.depth; omega) X.prog X.w X.xe _ ⟨.bl _, H, I, rfl, q⟩
end
mutual
def noList : PyData -> Bool
 | .list _ => false
 | .dict _ => false
 | .tuple ds => noLists ds
 | _ => true
def noLists : List PyData -> Bool
 | [] => true
 | d :: ds => noList d && noLists ds
end
section
variable {K : PySem.W.Frag} {ps : List Addr} {H H' : Hp}
mutual
theorem Dp_sb (e : SB ps H H') : ∀ (d : PyData) (v : V), noList d = true -> Dp K H v d -> Dp K H' v d
 | .none, _, _, h => by cases h; exact .non
 | .bool b, _, _, h => by cases h; exact .bl b
 | .int i, _, _, h => by cases h; exact .int i
 | .str x, _, _, h => by cases h; exact .str x
 | .list ds, _, n, _ => by simp [noList] at n
 | .dict ds, _, n, _ => by simp [noList] at n
 | .tuple ds, _, n, h => by
  cases h with
  | tup hs ha => exact .tup (e.sqT hs) (DpAll_sb e ds _ (by simpa [noList] using n) ha)
theorem DpAll_sb (e : SB ps H H') : ∀ (ds : List PyData) (vs : List V), noLists ds = true -> DpAll K H vs ds -> DpAll K H' vs ds
 | [], _, _, h => by cases h; exact .nil
 | d :: ds, _, n, h => by
  cases h with
  | cons h1 h2 =>
   simp [noLists] at n
   exact .cons (Dp_sb e d _ n.1 h1) (DpAll_sb e ds _ n.2 h2)
end
end
section
variable {K : PySem.W.Frag} {ps : List Addr} {H H' : Hp} {v : V} {l : Lad}
theorem DpAll.length : ∀ {vs : List V} {ds : List PyData}, DpAll K H vs ds -> vs.length = ds.length
 | _, _, .nil => rfl
 | _, _, .cons _ t => by rw [List.length_cons, List.length_cons, DpAll.length t]
theorem DpAll.get : ∀ {vs : List V} {ds : List PyData} {i : Nat} {v : V}, DpAll K H vs ds -> vs[i]? = some v -> ∃ d, ds[i]? = some d /\ Dp K H v d
 | _, _, _, _, .nil, e => by simp at e
 | _, _, 0, _, .cons h t, e => by simp at e; subst e; exact ⟨_, rfl, h⟩
 | _, _, i + 1, v, .cons h t, e => by
  obtain ⟨d, h1, h2⟩ := DpAll.get (i := i) (v := v) t (by simpa using e)
  exact ⟨d, by simpa using h1, h2⟩
end
structure BI (mg : Str -> Option Value) : Prop where
 len : mg "len" = none
 isinstance : mg "isinstance" = none
 int : mg "int" = none
 bool : mg "bool" = none
 str : mg "str" = none
 tuple : mg "tuple" = none
 list : mg "list" = none
 all : mg "all" = none
 zip : mg "zip" = none
 sum : mg "sum" = none
 max : mg "max" = none
 range : mg "range" = none
 enumerate : mg "enumerate" = none
 abs : mg "abs" = none
 sorted : mg "sorted" = none
 min : mg "min" = none
 reversed : mg "reversed" = none
 any : mg "any" = none
 set : mg "set" = none
 dict : mg "dict" = none
 repr : mg "repr" = none
structure Got (P : Program) (w : World) (K : PySem.W.Frag) (mg : Str -> Option Value) (base : Heap) (x : Str) (ps : List Str) (k : Nat) (sp : Sp) : Prop where
 ex : ∃ (f : Addr) (fd : FuncData), FnOk P w K mg base CX0 k f fd ps sp /\ PySem.W.keepIn K (.ref f) = true /\ Binds K fd ps [] /\ mg x = some (.ref f)
section
variable {X : Cx} {x : Str} {ps : List Str} {k : Nat} {sp : Sp} {e : Expr} {es : List Expr} {t : TA} {p pos : Pos}
theorem pe_got (G : Got X.prog X.w X.K X.mg X.base x ps k sp) (hr : Room k X.A) (hg : Gl X x) (ha : PA X (e :: es) t) (hdb : (x == ("__debug__" : Str)) = false := by decide) (he : starEach (e :: es) X.env = (false, eval e X.env) :: starEach es X.env := by rfl) (hpl : (backTo pos (starEach es X.env)).any (·.1) = false := by rfl) :
  PE X (.Call (.Name x p) (e :: es) [] pos) (tCall sp [] E0 t) := by
 obtain ⟨f, fd, h1, h2, h3, h4⟩ := G.ex
 exact pe_call h1 hr hg h4 h2 h3 .nil pass0 ha hdb he hpl
end
def rIsiN (K : PySem.W.Frag) : List V -> Hp -> VK -> Prop := fun xs H Q => ∃ (x : V) (T n : String) (b : Bool), xs = [x, .ty T] /\ TyX K H x (.type n) /\ kitB n T = some b /\ Q (.bl b) H
section
variable {X : Cx}
theorem call_isiN : CallR X (.builtin "isinstance") (rIsiN X.K) := by
 intro pins s σ H xs us Q I r h
 obtain ⟨x, T, n, b, rfl, ty, e, q⟩ := h
 exact call_isi pins s σ H _ us Q I r ⟨x, .ty T, .type n, .type T, b, rfl, .ty T, ty, kit_ty e, q⟩
theorem pe_ty {T : Str} {T' : String} {pos : Pos} (hg : Gl X T) (hm : X.mg T = none) (hv : bootBuiltins T = some (.type T')) (hn : T ≠ "__name__" := by decide) (hd : (T == ("__debug__" : Str)) = false := by decide) : PE X (.Name T pos) (tC (.ty T')) := pe_bltn hg hm hv rfl hn hd
theorem pe_isi {e : Expr} {te : TE} {T : Str} {T' : String} {p p2 pos : Pos} (B : BI X.mg) (he : PE X e te) (hm : X.mg T = none) (hv : bootBuiltins T = some (.type T')) (hg : Gl X "isinstance" := by rfl) (hg2 : Gl X T := by rfl) (hn : T ≠ "__name__" := by decide) (hd : (T == ("__debug__" : Str)) = false := by decide)
  (hs : starEach [e, .Name T p2] X.env = (false, eval e X.env) :: starEach [.Name T p2] X.env := by rfl) (hpl : (backTo pos (starEach [.Name T p2] X.env)).any (·.1) = false := by rfl) :
  PE X (.Call (.Name "isinstance" p) [e, .Name T p2] [] pos) (tCB (rIsiN X.K) (tCons te (tCons (tC (.ty T')) tNil))) :=
 pe_callB call_isiN hg B.isinstance boot_isinstance (pa_cons he (pa_cons (pe_ty hg2 hm hv hn hd) pa_nil) hs) (by decide) (by decide) hs hpl
end
mutual
inductive Th (K : PySem.W.Frag) (ps : List Addr) (H : Hp) : V -> PyData -> Prop
 | int (i : Int) : Th K ps H (.int i) (.int i)
 | tup {a : Addr} {xs : List V} {ds : List PyData} : SqT K H a xs -> ThAll K ps H xs ds -> Th K ps H (.ref a) (.tuple ds)
 | oth {v : V} {n : String} : TyX K H v (.type n) -> kitB n "tuple" = some false -> (kitB n "int" = some false \/ n = "bool") -> (∀ a, v = .ref a -> a ∉ ps) -> Th K ps H v .none
inductive ThAll (K : PySem.W.Frag) (ps : List Addr) (H : Hp) : List V -> List PyData -> Prop
 | nil : ThAll K ps H [] []
 | cons {v : V} {vs : List V} {d : PyData} {ds : List PyData} : Th K ps H v d -> ThAll K ps H vs ds -> ThAll K ps H (v :: vs) (d :: ds)
end
def manyD : PyData -> Bool
 | .int i => decide (1 <= i)
 | _ => false
section
variable {K : PySem.W.Frag} {ps : List Addr} {H H' : Hp}
theorem SqT_ty {a : Addr} {xs : List V} (h : SqT K H a xs) : TyX K H (.ref a) (.type "tuple") := by
 rcases h with (h | ⟨o, h⟩) | ⟨o, its, n, h, c, _⟩
 ·exact .base (.tup h)
 ·exact .fTuple h
 ·exact .kTuple h c
theorem Th.whole {v : V} {d : PyData} (h : Th K ps H v d) : ∃ n b1 b2, TyX K H v (.type n) /\ kitB n "int" = some b1 /\ (b1 = true -> kitB n "bool" = some b2) /\ ((b1 && !b2) = true -> ∃ i, v = .int i /\ d = .int i) /\ ((b1 && !b2) = false -> manyD d = false) := by
 cases h with
 | int i => exact ⟨"int", true, false, .base (.int i), by decide +kernel, fun _ => by decide +kernel, fun _ => ⟨i, rfl, rfl⟩, fun z => (nomatch z)⟩
 | tup hs ha => exact ⟨"tuple", false, false, (SqT_ty hs), by decide +kernel, fun z => (nomatch z), fun z => (nomatch z), fun _ => rfl⟩
 | @oth v n ty k1 k2 _ =>
  rcases k2 with k2 | k2
  ·exact ⟨n, false, false, ty, k2, fun z => (nomatch z), fun z => (nomatch z), fun _ => rfl⟩
  ·subst k2
   exact ⟨"bool", true, true, ty, by decide +kernel, fun _ => by decide +kernel, fun z => (nomatch z), fun _ => rfl⟩
theorem TyX_sb {v : V} {n : String} (e : SB ps H H') (hn : ∀ a, v = .ref a -> a ∉ ps) (h : TyX K H v (.type n)) : TyX K H' v (.type n) := by
 cases h with
 | base h =>
  cases h with
  | non => exact .base .non
  | bl x => exact .base (.bl x)
  | int i => exact .base (.int i)
  | str x => exact .base (.str x)
  | flt x => exact .base (.flt x)
  | lst h => exact .base (.lst (e.keep _ _ h (hn _ rfl)))
  | frz h => exact .base (.frz (e.frzs _ _ _ h))
  | tup h => exact .base (.tup (e.tups _ _ h))
  | dK h => exact .base (.dK (e.keep _ _ h (hn _ rfl)))
  | dT h => exact .base (.dT (e.keep _ _ h (hn _ rfl)))
 | byt b => exact .byt b
 | set h => exact .set (e.keep _ _ h (hn _ rfl))
 | kList h c => exact .kList h c
 | kTuple h c => exact .kTuple h c
 | kDict h c => exact .kDict h c
 | fTuple h => exact .fTuple (e.frzs _ _ _ h)
 | fDict h => exact .fDict (e.frzs _ _ _ h)
end
inductive Bears (K : PySem.W.Frag) (H : Hp) {β : Type} (enc : β -> PyData) : List V -> List β -> Prop
 | nil : Bears K H enc [] []
 | cons {v : V} {vs : List V} {b : β} {bs : List β} : Dp K H v (enc b) -> Bears K H enc vs bs -> Bears K H enc (v :: vs) (b :: bs)
section
variable {K : PySem.W.Frag} {H H' : Hp} {β : Type} {enc : β -> PyData} {ps : List Addr}
theorem Bears.length : ∀ {vs : List V} {bs : List β}, Bears K H enc vs bs -> vs.length = bs.length
 | _, _, .nil => rfl
 | _, _, .cons _ t => by rw [List.length_cons, List.length_cons, Bears.length t]
theorem Bears.dp : ∀ {vs : List V} {bs : List β}, Bears K H enc vs bs -> DpAll K H vs (bs.map enc)
 | _, _, .nil => .nil
 | _, _, .cons h t => .cons h (Bears.dp t)
theorem Bears.of : ∀ {vs : List V} {bs : List β}, DpAll K H vs (bs.map enc) -> Bears K H enc vs bs
 | [], [], _ => .nil
 | _ :: _, [], h => by cases h
 | [], _ :: _, h => by cases h
 | v :: vs, b :: bs, h => by
  cases h with
  | cons h1 h2 => exact .cons h1 (Bears.of h2)
theorem Bears.get : ∀ {vs : List V} {bs : List β} {i : Nat} {v : V}, Bears K H enc vs bs -> vs[i]? = some v -> ∃ b, bs[i]? = some b /\ Dp K H v (enc b)
 | _, _, _, _, .nil, e => by simp at e
 | _, _, 0, _, .cons h t, e => by simp at e; subst e; exact ⟨_, rfl, h⟩
 | _, _, i + 1, v, .cons h t, e => by
  obtain ⟨d, h1, h2⟩ := Bears.get (i := i) (v := v) t (by simpa using e)
  exact ⟨d, by simpa using h1, h2⟩
theorem Bears.append : ∀ {xs ys : List V} {bs cs : List β}, Bears K H enc xs bs -> Bears K H enc ys cs -> Bears K H enc (xs ++ ys) (bs ++ cs)
 | _, _, _, _, .nil, h => h
 | _, _, _, _, .cons a b, h => .cons a (Bears.append b h)
theorem Bears.sb (e : SB ps H H') (hn : ∀ b, noList (enc b) = true) : ∀ {xs : List V} {bs : List β}, Bears K H enc xs bs -> Bears K H' enc xs bs
 | _, _, .nil => .nil
 | _, _, .cons a b => .cons (Dp_sb e _ _ (hn _) a) (Bears.sb e hn b)
theorem Bears.take (n : Nat) : ∀ {xs : List V} {bs : List β}, Bears K H enc xs bs -> Bears K H enc (xs.take n) (bs.take n) := by
 induction n with
 | zero => intro xs bs h; rw [List.take_zero, List.take_zero]; exact .nil
 | succ n ih =>
  intro xs bs h
  cases h with
  | nil => exact .nil
  | cons a b => exact .cons a (ih b)
theorem Bears.drop (n : Nat) : ∀ {xs : List V} {bs : List β}, Bears K H enc xs bs -> Bears K H enc (xs.drop n) (bs.drop n) := by
 induction n with
 | zero => intro xs bs h; exact h
 | succ n ih =>
  intro xs bs h
  cases h with
  | nil => exact .nil
  | cons a b => exact ih b
end
section
variable {X : Cx} {pins : List (Addr × Obj)} {σ : L2.St} {H : Hp} {s : Shared} {β : Type} {enc : β -> PyData}
theorem each_of (I : Inv X pins σ H s) : ∀ {vs : List V} {us : List Value} {bs : List β}, Bears X.K H enc vs bs -> Vals vs us ->
  EachIs (fun u b => ∃ v, RelV v u /\ Dp X.K H v (enc b)) us bs /\ EachIs (fun u b => ∃ as, Reads s.heap u (enc b) as) us bs
 | _, _, _, .nil, .nil => ⟨.nil, .nil⟩
 | _, _, _, .cons h t, .cons r u => by
  obtain ⟨h1, h2⟩ := each_of I t u
  exact ⟨.cons ⟨_, r, h⟩ h1, .cons (Dp.reads I _ _ _ h r) h2⟩
theorem of_each {K : PySem.W.Frag} : ∀ {us : List Value} {bs : List β}, EachIs (fun u b => ∃ v, RelV v u /\ Dp K H v (enc b)) us bs -> ∃ vs, Vals vs us /\ Bears K H enc vs bs
 | _, _, .nil => ⟨[], .nil, .nil⟩
 | _, _, .cons ⟨v, r, h⟩ t => by
  obtain ⟨vs, h1, h2⟩ := of_each t
  exact ⟨v :: vs, .cons r h1, .cons h h2⟩
end
section
variable {P : Program} {w : World} {K : PySem.W.Frag} {mg : Str -> Option Value} {base : Heap} {f : Addr} {fd : FuncData}
def spWhole (K : PySem.W.Frag) : Sp := fun vs H Q _ => ∃ (v : V) (n : String) (b1 b2 : Bool), vs = [v] /\ TyX K H v (.type n) /\ kitB n "int" = some b1 /\ (b1 = true -> kitB n "bool" = some b2) /\ Q (.bl (b1 && !b2)) H
def spMany (K : PySem.W.Frag) (ps : List Addr) : Sp := fun vs H Q _ => ∃ (v : V) (d : PyData), vs = [v] /\ Th K ps H v d /\ Q (.bl (manyD d)) H
end
def ltsD : List PyData -> List Bool
 | [] => []
 | [_] => []
 | a :: b :: r => dataLt a b :: ltsD (b :: r)
def risingD (ds : List PyData) : Bool := (ltsD ds).all id
theorem ltsD_length : ∀ ds : List PyData, (ltsD ds).length = ds.length - 1
 | [] => rfl
 | [_] => rfl
 | a :: b :: r => by
  have h := ltsD_length (b :: r)
  show (ltsD (b :: r)).length + 1 = _
  rw [h]; simp
theorem ltsD_get : ∀ (ds : List PyData) (i : Nat) (d e : PyData), ds[i]? = some d -> ds[i + 1]? = some e -> (ltsD ds)[i]? = some (dataLt d e)
 | [], _, _, _, h, _ => by simp at h
 | [_], _, _, _, _, h => by simp at h
 | a :: b :: r, 0, d, e, h1, h2 => by simp at h1 h2; subst h1 h2; rfl
 | a :: b :: r, i + 1, d, e, h1, h2 => by
  have := ltsD_get (b :: r) i d e (by simpa using h1) (by simpa using h2)
  simpa [ltsD] using this
theorem cut1 (xs : List V) : cutV xs (some 1) none = xs.drop 1 := by
 unfold cutV
 have h1 : HT.sIx xs.length 0 (some 1) = min 1 xs.length := HT.sIx_nat xs.length 0 1
 have h2 : HT.sIx xs.length xs.length none = xs.length := rfl
 rw [h1, h2]
 cases xs with
 | nil => rfl
 | cons x r =>
  have : min 1 (x :: r).length = 1 := by simp
  rw [this]
  simp
section
variable {P : Program} {w : World} {K : PySem.W.Frag} {mg : Str -> Option Value} {base : Heap} {f : Addr} {fd : FuncData}
def OkD (d : PyData) : Prop := noList d = true /\ d ≠ .none /\ d.depth <= 100
def spRising (K : PySem.W.Frag) : Sp := fun vs H Q _ => ∃ (a : Addr) (xs : List V) (ds : List PyData), vs = [.ref a] /\ SqL K H a xs /\ DpAll K H xs ds /\ (∀ d ∈ ds, OkD d) /\ AllAlike ds /\ xs.length <= 1000 /\
 ∀ H', SB [] H H' -> Q (.bl (risingD ds)) H'
abbrev N_rising : List Str := ["things", "low", "high"]
abbrev gPair (K : PySem.W.Frag) : TG := gTup K 2 (gCons (gName 1) (gCons (gName 2) gNil))
end
def exp0 : PyData -> PyData
 | .tuple (e :: _) => e
 | _ => .none
mutual
def ladD : PyData -> Bool
 | .tuple ds => ladPs ds && risingD (ds.map exp0).reverse
 | _ => false
def ladPs : List PyData -> Bool
 | [] => true
 | d :: ds => ladP d && ladPs ds
def ladP : PyData -> Bool
 | .tuple ds => ladP2 ds
 | _ => false
def ladP2 : List PyData -> Bool
 | [] => false
 | e :: r => ladD e && ladP3 r
def ladP3 : List PyData -> Bool
 | [] => false
 | m :: r => manyD m && r.isEmpty
end
theorem depthAll_get {ds : List PyData} {i : Nat} {d : PyData} (h : ds[i]? = some d) : d.depth <= PyData.depthAll ds := PyData.depth_le_depthAll ds d (List.mem_of_getElem? h)
section
variable {P : Program} {w : World} {K : PySem.W.Frag} {mg : Str -> Option Value} {base : Heap} {f : Addr} {fd : FuncData} {ps : List Addr}
mutual
def wide : PyData -> Nat
 | .tuple ds => max ds.length (wides ds)
 | _ => 0
def wides : List PyData -> Nat
 | [] => 0
 | d :: ds => max (wide d) (wides ds)
end
theorem wide_mem : ∀ (ds : List PyData) (d : PyData), d ∈ ds -> wide d <= wides ds
 | [], _, h => by simp at h
 | e :: ds, d, h => by
  rw [wides]
  rcases List.mem_cons.mp h with h | h
  ·subst h; omega
  ·have := wide_mem ds d h; omega
theorem wide_tuple (ds : List PyData) : wide (.tuple ds) = max ds.length (wides ds) := by rw [wide]
end
section
variable {K : PySem.W.Frag} {H : Hp}
theorem DpAll.append : ∀ {xs ys : List V} {ds es : List PyData}, DpAll K H xs ds -> DpAll K H ys es -> DpAll K H (xs ++ ys) (ds ++ es)
 | _, _, _, _, .nil, h => h
 | _, _, _, _, .cons a b, h => .cons a (DpAll.append b h)
end
section
variable {P : Program} {w : World} {K : PySem.W.Frag} {mg : Str -> Option Value} {base : Heap} {f : Addr} {fd : FuncData}
theorem ix0 {x y : V} : atI [x, y] 0 = some x := rfl
theorem ix1 {x y : V} : atI [x, y] 1 = some y := rfl
end
theorem ib (m m' : Int) : (m == m') = decide (m = m') := by by_cases h : m = m' <;> simp [h]
theorem cutInts (ns : List Int) (lo hi : Option Int) : ∃ ms : List Int, cutV (ns.map V.int) lo hi = ms.map V.int /\ ms.length <= ns.length := by
 refine ⟨(ns.drop (HT.sIx (ns.map V.int).length 0 lo)).take (HT.sIx (ns.map V.int).length (ns.map V.int).length hi - HT.sIx (ns.map V.int).length 0 lo), ?_, ?_⟩
 ·unfold cutV
  rw [List.map_take, List.map_drop]
 ·rw [List.length_take, List.length_drop]; omega
section
variable {P : Program} {w : World} {K : PySem.W.Frag} {mg : Str -> Option Value} {base : Heap} {f : Addr} {fd : FuncData}
def spLaw (K : PySem.W.Frag) : Sp := fun vs H Q _ => ∃ (a : Addr) (ns : List Int), vs = [.ref a] /\ SqL K H a (ns.map V.int) /\ ns.length <= 63 /\ ∀ H', Q (.bl true) H'
theorem none_sp {ps : List Str} {k : Nat} {sp : Sp} (no : ∀ vs H Q E, ¬ sp vs H Q E) : FnOk P w K mg base CX0 k f fd ps sp :=
 ⟨fun vs H Q E h => absurd h (no vs H Q E), fun A outer s H args us vs Q E _ _ _ _ h => absurd h (no vs H Q E)⟩
end
def rCatB (K : PySem.W.Frag) : R2 := fun x y H Q => ∃ a b xs ys, x = .ref a /\ y = .ref b /\ SqT K H a xs /\ SqT K H b ys /\ xs.length + ys.length <= 10000000 /\ ∀ c H', SB [] H H' -> SqT K H' c (xs ++ ys) -> Q (.ref c) H'
def rSlB (K : PySem.W.Frag) : V -> Option Int -> Option Int -> Hp -> VK -> Prop := fun x lo hi H Q => ∃ a xs, x = .ref a /\ SqT K H a xs /\ ∀ c H', SB [] H H' -> SqT K H' c (cutV xs lo hi) -> Q (.ref c) H'
section
variable {X : Cx}
theorem op_catB : OpR X (binaryOp .Add) (rCatB X.K) := by
 intro pins s σ H x y v u Q I rx ry h
 obtain ⟨a, b, xs, ys, rfl, rfl, ha, hb, hz, q⟩ := h
 refine op_catA pins s σ H _ _ v u Q I rx ry ⟨a, b, xs, ys, rfl, rfl, ha, hb, by rw [sizeLine_eq]; omega, fun e => ?_, fun e1 e2 => ?_, fun e1 e2 p hp => ?_⟩
 ·subst e; exact q b H SB.refl hb
 ·subst e2; exact q a H SB.refl (by rw [List.append_nil]; exact ha)
 ·exact q p _ (SB.new hp _) (SqT.of upd_same)
theorem sl_tupB : SlR X (rSlB X.K) := by
 intro pins s σ H x v vl vu lo hi sl Q I rx hs pl pu h
 obtain ⟨a, xs, rfl, hx, q⟩ := h
 refine sl_tupA pins s σ H _ v vl vu lo hi sl Q I rx hs pl pu ⟨a, xs, rfl, hx, fun e => ?_, fun e p hp => ?_⟩
 ·refine q a H SB.refl ?_
  have : cutV xs lo hi = xs := by
   unfold cutV
   rw [e.1, e.2]
   simp
  rw [this]; exact hx
 ·exact q p _ (SB.new hp _) (SqT.of upd_same)
end
theorem cutTake (xs : List V) (k : Nat) : cutV xs none (some (k : Int)) = xs.take k := by
 unfold cutV
 have h1 : HT.sIx xs.length 0 none = 0 := rfl
 have h2 : HT.sIx xs.length xs.length (some (k : Int)) = min k xs.length := HT.sIx_nat xs.length xs.length k
 rw [h1, h2]
 simp
theorem cutDrop (xs : List V) (k : Nat) : cutV xs (some (k : Int)) none = xs.drop k := by
 unfold cutV
 have h1 : HT.sIx xs.length 0 (some (k : Int)) = min k xs.length := HT.sIx_nat xs.length 0 k
 have h2 : HT.sIx xs.length xs.length none = xs.length := rfl
 rw [h1, h2]
 by_cases h : k <= xs.length
 ·rw [Nat.min_eq_left h, List.take_of_length_le (by rw [List.length_drop]; omega)]
 ·rw [Nat.min_eq_right (by omega), List.drop_eq_nil_of_le (Nat.le_refl _), List.drop_eq_nil_of_le (by omega)]
  simp
theorem SB.drop2 {p q : Addr} {H H' : Hp} (h : SB [p, q] H H') (n : H q = none) : SB [p] H H' := by
 refine ⟨fun b o e m => h.keep b o e fun z => ?_, h.tups, h.frzs, h.dom⟩
 have z' : b = p \/ b = q := by simpa using z
 rcases z' with z | z
 ·exact m (by simp [z])
 ·subst z; rw [n] at e; cases e
theorem Bears.at {K : PySem.W.Frag} {H : Hp} {β : Type} {enc : β -> PyData} : ∀ {vs : List V} {bs : List β} {i : Nat} {b : β}, Bears K H enc vs bs -> bs[i]? = some b -> ∃ v, vs[i]? = some v /\ Dp K H v (enc b)
 | _, _, _, _, .nil, e => by simp at e
 | _, _, 0, _, .cons h t, e => by simp at e; subst e; exact ⟨_, rfl, h⟩
 | _, _, i + 1, b, .cons h t, e => by
  obtain ⟨d, h1, h2⟩ := Bears.at (i := i) (b := b) t (by simpa using e)
  exact ⟨d, by simpa using h1, h2⟩
section
variable {prog : Program} {w : World} {A : Around} {E : Value -> Shared -> Prop} {s : Shared} {β : Type} {vs : List Value} {bs : List β} {enc : β -> PyData} {R : Value -> β -> Prop}
theorem sorted_tupK {t : Addr} {kw : List (Str × Value)} {b : Bool} {Q : Value -> Shared -> Prop} (hkw : ∀ a, Builtin.«list.sort» ⟨[.ref a], kw⟩ = Builtin.«list.sort» ⟨[.ref a], [(Str.ofString "reverse", .bool b)]⟩) (ha1 : argsOk "sorted" ⟨[.ref t], kw⟩) (ha2 : ∀ x, argsOk "list.sort" ⟨[.ref x], kw⟩)
  (ht : IsTup s.heap t vs.toArray) (e : EachIs R vs bs) (er : EachIs (fun v b => ∃ as, Reads s.heap v (enc b) as) vs bs) (hal : AllAlike (bs.map enc)) (hk : Sortable (bs.map enc)) (hL : bs.length <= sizeLine)
  (hu : ∀ b, b ∈ bs -> A.units + 2 + (enc b).depth < cLine)
  (h : ∀ (out : List Value) (h' h2 : Heap) (n : Nat), (∀ b o, s.heap.get? b = some o -> h'.get? b = some o) -> (∀ b o, h'.get? b = some o -> h2.get? b = some o) -> h2.get? h'.objs.size = some (seqObj "list" out.toArray n) -> out.length = bs.length -> EachIs R out (bs.mergeSort (dataLe b enc)) -> Q (.ref h'.objs.size) { s with heap := h2 }) :
  wpAny (model prog w) A (call (.builtin "sorted") [.ref t] kw) Q E s := by
 have hlen : vs.length <= sizeLine := by rw [e.length]; exact hL
 obtain ⟨o, ho, hc, n0, hd⟩ := id ht
 refine call_function_entry_kw kind_sorted plain_sorted entry_sorted ha1 ?_
 unfold Builtin.«sorted»
 refine wpAny_bind (m := checkCount "sorted" 1 1 _) (wpAny_pure ?_)
 refine wpAny_bind (wpAny_collect_seq t (.inr rfl) ho hc hd (fun h' hk' => ?_) (by rw [List.size_toArray]; exact hlen))
 refine wpAny_bind (wpAny_newList ?_ hlen)
 show wpAny _ _ _ _ _ { s with heap := h'.push (seqObj "list" vs.toArray 0) }
 have hat : (h'.push (seqObj "list" vs.toArray 0)).get? h'.objs.size = some (seqObj "list" vs.toArray 0) := Heap.get?_push_size _ rfl
 refine wpAny_bind (wpAny_holding (wpAny_call_entry_kw slot_list_sort ⟨_, hat, rfl⟩ entry_list_sort ?body (ha2 _)))
 case body =>
  rw [hkw]
  have old : ∀ b o, h'.get? b = some o -> (sortingHeap (h'.push (seqObj "list" vs.toArray 0)) h'.objs.size vs).get? b = some o := fun b o q => sortingHeap_old (Nat.ne_of_lt (Heap.lt_size q)) (Heap.get?_push_of_some _ q)
  have er' : EachIs (fun v b => ∃ as, Reads (sortingHeap (h'.push (seqObj "list" vs.toArray 0)) h'.objs.size vs) v (enc b) as) vs bs := er.mono fun _ _ ⟨as, r⟩ => ⟨as, PyProof.Rows.Reads.keeps (fun b o q => old b o (hk' b o q)) r⟩
  refine list_sort_rev_vals (s := { s with heap := h'.push (seqObj "list" vs.toArray 0) }) (κ := dataKind (sortingHeap (h'.push (seqObj "list" vs.toArray 0)) h'.objs.size vs) (bs.map enc)) hat (SortsAt.data (s := { s with heap := sortingHeap (h'.push (seqObj "list" vs.toArray 0)) h'.objs.size vs }) (each_map (R := fun v d => ∃ as, Reads (sortingHeap (h'.push (seqObj "list" vs.toArray 0)) h'.objs.size vs) v d as) enc er') hal hk (bound_map hu)) hlen ?_
  refine ⟨_, rfl, wpAny_pure ⟨_, rfl, ?_⟩⟩
  obtain ⟨n2, hn2⟩ := sortedHeap_at (out := (sortVals (dataKind (sortingHeap (h'.push (seqObj "list" vs.toArray 0)) h'.objs.size vs) (bs.map enc)) b vs vs).toArray) hat
  refine h _ h' _ n2 hk' (fun b o q => ?_) hn2 (by rw [sortVals_length b rfl]; exact e.length) (sortVals_data b e er' hal)
  rw [sortedHeap_old (Nat.ne_of_lt (Heap.lt_size q)) (by rw [size_push']; exact Nat.lt_succ_of_lt (Heap.lt_size q))]
  exact Heap.get?_push_of_some _ q
end
def rSortedT (K : PySem.W.Frag) {β : Type} (enc : β -> PyData) (b : Bool) (vs : List V) (H : Hp) (Q : VK) : Prop := ∃ (a : Addr) (xs : List V) (bs : List β), vs = [V.ref a] /\ SqT K H a xs /\ Bears K H enc xs bs /\ AllAlike (bs.map enc) /\ Sortable (bs.map enc) /\ bs.length <= 10000000 /\ (∀ b ∈ bs, (enc b).depth <= 100) /\
 ∀ (p : Addr) (ys : List V), H p = none -> Bears K H enc ys (bs.mergeSort (dataLe b enc)) -> Q (.ref p) (upd H p (.lst ys))
section
variable {X : Cx}
theorem sortedT_run {β : Type} {enc : β -> PyData} {b : Bool} {kw : List (Str × Value)} (hu : X.A.units + 110 < cLine) (hkw : ∀ a, Builtin.«list.sort» ⟨[.ref a], kw⟩ = Builtin.«list.sort» ⟨[.ref a], [(Str.ofString "reverse", .bool b)]⟩) (ha1 : ∀ t, argsOk "sorted" ⟨[.ref t], kw⟩) (ha2 : ∀ x, argsOk "list.sort" ⟨[.ref x], kw⟩)
  {pins : List (Addr × Obj)} {s : Shared} {σ : L2.St} {H : Hp} {vs : List V} {us : List Value} {Q : VK} (I : Inv X pins σ H s) (r : Vals vs us) (h : rSortedT X.K enc b vs H Q) : wpAny (model X.prog X.w) X.A (call (.builtin "sorted") us kw) (EP X pins σ Q) X.xe s := by
 obtain ⟨a, xs, bs, rfl, hs, hb, hal, hsr, hl, hd, q⟩ := h
 obtain ⟨its, rv, hli, _⟩ := I.tuple hs
 rw [Vals.ref1 r]
 obtain ⟨e1, e2⟩ := each_of I hb rv
 refine sorted_tupK (vs := its) (bs := bs) (enc := enc) (R := fun u b => ∃ v, RelV v u /\ Dp X.K H v (enc b)) hkw (ha1 _) ha2 hli e1 e2 hal hsr (by rw [sizeLine_eq]; omega) (fun b m => by have := hd b m; omega) fun out h' h2 n k1 k2 hat ho h1 => ?_
 obtain ⟨ys, g2, g3⟩ := of_each h1
 have I' : Inv X pins σ H { s with heap := h' } := I.kept (t' := s.toks) k1
 have hlen : ys.length <= sizeLine := by rw [g2.length, ho, sizeLine_eq]; omega
 exact ⟨.ref _, upd H h'.objs.size (.lst ys), I'.laid (t' := s.toks) (fun b o e => k2 b o e) (Nat.le_refl _) ⟨hlen, out, n, g2, hat⟩, rfl, q _ ys (I'.hok.fresh (Nat.le_refl _)) g3⟩
theorem cr_sortedT {β : Type} (enc : β -> PyData) (hu : X.A.units + 110 < cLine) : CallR X (.builtin "sorted") (rSortedT X.K enc false) := by
 intro pins s σ H vs us Q I r h
 exact sortedT_run (kw := []) hu plain_is_rev (fun _ => args_sorted1 _) (fun _ => args_list_sort _) I r h
end
section
variable {γ : Type} [DecidableEq γ]
def pairE (enc : γ -> PyData) (p : γ × Int) : PyData := .tuple [enc p.1, .int p.2]
def jstep (acc : List (γ × Int)) (p : γ × Int) : List (γ × Int) := match acc.getLast? with
 | some q => if q.1 = p.1 then acc.dropLast ++ [(p.1, q.2 + p.2)] else acc ++ [p]
 | none => [p]
def jn (bs : List (γ × Int)) : List (γ × Int) := bs.foldl jstep []
theorem jstep_nil (p : γ × Int) : jstep [] p = [p] := rfl
theorem jstep_snoc (acc : List (γ × Int)) (q p : γ × Int) : jstep (acc ++ [q]) p = if q.1 = p.1 then acc ++ [(p.1, q.2 + p.2)] else acc ++ [q] ++ [p] := by
 unfold jstep
 rw [List.getLast?_append]
 simp
theorem jstep_length (acc : List (γ × Int)) (p : γ × Int) : (jstep acc p).length <= acc.length + 1 := by
 rcases List.eq_nil_or_concat acc with h | ⟨a, q, h⟩
 ·subst h; simp [jstep]
 ·subst h
  rw [List.concat_eq_append, jstep_snoc]
  split <;> simp
theorem jn_take (bs : List (γ × Int)) (i : Nat) (p : γ × Int) (h : bs[i]? = some p) : jn (bs.take (i + 1)) = jstep (jn (bs.take i)) p := by
 unfold jn
 rw [List.take_add_one, h, List.foldl_append]
 rfl
theorem jn_length (bs : List (γ × Int)) : (jn bs).length <= bs.length := by
 have key : ∀ (bs acc : List (γ × Int)), (bs.foldl jstep acc).length <= acc.length + bs.length := by
  intro bs
  induction bs with
  | nil => intro acc; simp
  | cons p r ih =>
   intro acc
   have h1 := ih (jstep acc p)
   have h2 := jstep_length acc p
   show (r.foldl jstep (jstep acc p)).length <= _
   rw [List.length_cons]
   omega
 have := key bs []
 simpa [jn] using this
theorem jn_keys (bs : List (γ × Int)) : ∀ p ∈ jn bs, ∃ q ∈ bs, q.1 = p.1 := by
 have key : ∀ (bs acc : List (γ × Int)), ∀ p ∈ bs.foldl jstep acc, (∃ q ∈ acc, q.1 = p.1) \/ ∃ q ∈ bs, q.1 = p.1 := by
  intro bs
  induction bs with
  | nil => intro acc p hp; exact .inl ⟨p, hp, rfl⟩
  | cons x r ih =>
   intro acc p hp
   rcases ih (jstep acc x) p hp with ⟨q, hq, e⟩ | ⟨q, hq, e⟩
   ·rcases List.eq_nil_or_concat acc with h | ⟨a, z, h⟩
    ·subst h
     rw [jstep_nil] at hq
     have : q = x := by simpa using hq
     subst this
     exact .inr ⟨q, mcs .., e⟩
    ·subst h
     rw [List.concat_eq_append] at hq ⊢
     rw [jstep_snoc] at hq
     by_cases hz : z.1 = x.1
     ·rw [if_pos hz] at hq
      rcases List.mem_append.mp hq with hq | hq
      ·exact .inl ⟨q, List.mem_append_left _ hq, e⟩
      ·have : q = (x.1, z.2 + x.2) := by simpa using hq
       subst this
       exact .inr ⟨x, mcs .., e⟩
     ·rw [if_neg hz] at hq
      rcases List.mem_append.mp hq with hq | hq
      ·exact .inl ⟨q, hq, e⟩
      ·have : q = x := by simpa using hq
       subst this
       exact .inr ⟨q, mcs .., e⟩
   ·exact .inr ⟨q, mcm _ hq, e⟩
 intro p hp
 rcases key bs [] p hp with ⟨q, hq, _⟩ | h
 ·cases hq
 ·exact h
end
theorem pair_at {K : PySem.W.Frag} {H : Hp} {γ : Type} {enc : γ -> PyData} {v : V} {p : γ × Int} (h : Dp K H v (pairE enc p)) : ∃ a u, v = .ref a /\ SqT K H a [u, .int p.2] /\ Dp K H u (enc p.1) := by
 have h' : Dp K H v (.tuple [enc p.1, .int p.2]) := h
 cases h' with
 | tup hs ha =>
  cases ha with
  | cons a1 a2 =>
   cases a2 with
   | cons b1 b2 =>
    cases b2
    cases b1
    exact ⟨_, _, rfl, hs, a1⟩
theorem pairE_noList {γ : Type} {enc : γ -> PyData} (hn : ∀ g, noList (enc g) = true) (p : γ × Int) : noList (pairE enc p) = true := by simp [pairE, noList, noLists, hn]
theorem pair_mk {K : PySem.W.Frag} {H : Hp} {γ : Type} {enc : γ -> PyData} {a : Addr} {u : V} {g : γ} {m : Int} (h : SqT K H a [u, .int m]) (h2 : Dp K H u (enc g)) : Dp K H (.ref a) (pairE enc (g, m)) := Dp.tup h (.cons h2 (.cons (.int m) .nil))
theorem Bears.snoc {K : PySem.W.Frag} {H : Hp} {β : Type} {enc : β -> PyData} {vs : List V} {bs : List β} {b : β} (h : Bears K H enc vs (bs ++ [b])) : ∃ us u, vs = us ++ [u] /\ Bears K H enc us bs /\ Dp K H u (enc b) := by
 induction bs generalizing vs with
 | nil =>
  cases h with
  | cons h1 h2 => cases h2; exact ⟨[], _, rfl, .nil, h1⟩
 | cons c r ih =>
  cases h with
  | cons h1 h2 =>
   obtain ⟨us, u, e, h3, h4⟩ := ih h2
   exact ⟨_ :: us, u, by rw [e]; rfl, .cons h1 h3, h4⟩
theorem at_last {xs : List V} {x : V} : atI (xs ++ [x]) (-1) = some x := by
 unfold atI ixN
 rw [if_neg (by decide), if_pos (by rw [List.length_append, List.length_singleton]; omega)]
 simp only [List.length_append, List.length_singleton, Option.bind_some]
 have : ((-1 : Int) + ((xs.length + 1 : Nat) : Int)).toNat = xs.length := by omega
 rw [this]
 simp
theorem ixN_last {xs : List V} {x : V} : ixN (xs ++ [x]).length (-1) = some xs.length := by
 unfold ixN
 rw [if_neg (by decide), if_pos (by rw [List.length_append, List.length_singleton]; omega), List.length_append, List.length_singleton]
 congr 1; omega
theorem set_last {xs : List V} {x y : V} : (xs ++ [x]).set xs.length y = xs ++ [y] := by simp
structure Own (K : PySem.W.Frag) (mg : Str -> Option Value) (x : Str) (C : Addr) : Prop where
 gC : mg x = some (.ref C)
 q : PySem.W.excIn K C He.veBase "ValueError.__new__" = true
 k : PySem.W.keepIn K (.ref C) = true
 s : PySem.W.subIn K (.ref C) (.type "BaseException") = some true
 t : PySem.W.typeIn K (.ref C) = some (.type "type")
abbrev AlE : Type := He.AlD × Bool
def obsE (n : Nat) (fa : List He.Fa) (fn : List He.DefD) (ex : PySem.W.Frag -> Bool) (g : Addr -> Option Obj) : AlE := (He.obsD fa fn (He.frG g (He.asD g n)), ex (He.frG g (He.asD g n)))
def hookE (n : Nat) (fa : List He.Fa) (fn : List He.DefD) (ex : PySem.W.Frag -> Bool) : PySem.W.Hook where
 α := AlE
 obs := fun s => obsE n fa fn ex s.heap.get?
 val := fun _ => (He.valD fn, true)
 says := fun _ h => ∃ K : PySem.W.Frag, K.In h /\ He.SaysD fa fn K /\ ex K = true
 of := fun _ _ e => ⟨_, He.frG_in, congrArg (fun z : AlE => z.1) e, congrArg (fun z : AlE => z.2) e⟩
 keeps := fun _ _ _ ⟨K, hK, c⟩ k => ⟨K, PySem.W.Frag.In.keeps hK k, c⟩
theorem obsE_eq {n : Nat} {fa : List He.Fa} {fn : List He.DefD} {ex : PySem.W.Frag -> Bool} {g : Addr -> Option Obj} {s : Shared} (h : ∀ a, g a = s.heap.get? a) : obsE n fa fn ex g = (hookE n fa fn ex).obs s := by
 have e : g = s.heap.get? := funext h
 rw [e] <;> rfl
def excCB (K : PySem.W.Frag) (D : Addr) : Bool :=
 He.eqO (PySem.W.findIn K (.ref D) "__getattribute__") (some (some (.builtin "BaseException.__getattribute__"))) && (He.eqO (PySem.W.findIn K (.ref D) "__getattr__") (some none) && (decide (PySem.W.subIn K (.ref D) (.type "BaseException") = some true) && (PySem.W.hasDictIn K D && (He.eqO (PySem.W.findIn K (.ref D) "__class__") (some (some (.builtin "object.__class__"))) &&
 (He.eqO (PySem.W.specialIn K (.builtin "object.__class__") "__get__") (some (some (.builtin "getset_descriptor.__get__"))) && (decide (PySem.W.takesIn K (.builtin "object.__class__") = some true) && decide (PySem.W.mroIn K D (.type "object") = some true)))))))
theorem excCB_ok {K : PySem.W.Frag} {D : Addr} (h : excCB K D = true) : ExcC K D := by
 obtain ⟨h1, h⟩ := He.ba h
 obtain ⟨h2, h⟩ := He.ba h
 obtain ⟨h3, h⟩ := He.ba h
 obtain ⟨h4, h⟩ := He.ba h
 obtain ⟨h5, h⟩ := He.ba h
 obtain ⟨h6, h⟩ := He.ba h
 obtain ⟨h7, h8⟩ := He.ba h
 exact ⟨He.eqO_ok h1, He.eqO_ok h2, of_decide_eq_true h3, h4, He.eqO_ok h5, He.eqO_ok h6, of_decide_eq_true h7, of_decide_eq_true h8⟩
section
variable {J : It} {n : Nat} {G : Hp -> Prop} {Y : Nat -> Hp -> V -> Hp -> Prop}
theorem lcG (w : Walk J n G Y) {H0 : Hp} {Qd : Hp -> Prop} {body : (Hp -> Prop) -> V -> Hp -> Prop} (Pv : Nat -> Hp -> Prop) (h0 : Pv 0 H0) (hG : ∀ i H, i <= n -> Pv i H -> G H)
  (hs : ∀ i x H H', i < n -> Pv i H -> Y i H x H' -> body (Pv (i + 1)) x H') (hd : ∀ H, Pv n H -> Qd H) :
  ∃ W : Nat -> Nat -> Hp -> Prop, (∃ m, W 0 m H0) /\ ∀ i m H, W i m H ->
   (J.stop i H /\ Qd H) \/ (J.go i H /\ ∃ Nx : Hp -> Prop, (∀ H', Nx H' -> ∃ m', m' < m /\ W (i + 1) m' H') /\ ∀ x H', J.yld i H x H' -> body Nx x H') := by
 refine ⟨fun i m H => m = n - i /\ i <= n /\ Pv i H, ⟨n, by simp, Nat.zero_le _, h0⟩, ?_⟩
 rintro i m H ⟨rfl, hi, p⟩
 have q := hG i H hi p
 by_cases hlt : i < n
 ·exact .inr ⟨w.goes i H hlt q, Pv (i + 1), fun H' p' => ⟨n - (i + 1), by omega, rfl, hlt, p'⟩, fun x H' y => hs i x H H' hlt p (w.yields i H x H' hlt q y)⟩
 ·have e : i = n := by omega
  subst e
  exact .inl ⟨w.stops H q, hd H p⟩
end
section
variable {prog : Program} {w : World} {A : Around} {E : Value -> Shared -> Prop} {s : Shared} {β : Type} {vs : List Value} {bs : List β} {enc : β -> PyData} {R : Value -> β -> Prop}
theorem sorted_lstK {t : Addr} {kw : List (Str × Value)} {b : Bool} {Q : Value -> Shared -> Prop} (hkw : ∀ a, Builtin.«list.sort» ⟨[.ref a], kw⟩ = Builtin.«list.sort» ⟨[.ref a], [(Str.ofString "reverse", .bool b)]⟩) (ha1 : argsOk "sorted" ⟨[.ref t], kw⟩) (ha2 : ∀ x, argsOk "list.sort" ⟨[.ref x], kw⟩)
  (ht : PlainL s.heap t vs.toArray) (e : EachIs R vs bs) (er : EachIs (fun v b => ∃ as, Reads s.heap v (enc b) as) vs bs) (hal : AllAlike (bs.map enc)) (hk : Sortable (bs.map enc)) (hL : bs.length <= sizeLine)
  (hu : ∀ b, b ∈ bs -> A.units + 2 + (enc b).depth < cLine)
  (h : ∀ (out : List Value) (h' h2 : Heap) (n : Nat), (∀ b o, s.heap.get? b = some o -> h'.get? b = some o) -> (∀ b o, h'.get? b = some o -> h2.get? b = some o) -> h2.get? h'.objs.size = some (seqObj "list" out.toArray n) -> out.length = bs.length -> EachIs R out (bs.mergeSort (dataLe b enc)) -> Q (.ref h'.objs.size) { s with heap := h2 }) :
  wpAny (model prog w) A (call (.builtin "sorted") [.ref t] kw) Q E s := by
 have hlen : vs.length <= sizeLine := by rw [e.length]; exact hL
 obtain ⟨o, n0, ho, hc, _, hd⟩ := id ht
 refine call_function_entry_kw kind_sorted plain_sorted entry_sorted ha1 ?_
 unfold Builtin.«sorted»
 refine wpAny_bind (m := checkCount "sorted" 1 1 _) (wpAny_pure ?_)
 refine wpAny_bind (wpAny_collect_seq t (.inl rfl) ho hc hd (fun h' hk' => ?_) (by rw [List.size_toArray]; exact hlen))
 refine wpAny_bind (wpAny_newList ?_ hlen)
 show wpAny _ _ _ _ _ { s with heap := h'.push (seqObj "list" vs.toArray 0) }
 have hat : (h'.push (seqObj "list" vs.toArray 0)).get? h'.objs.size = some (seqObj "list" vs.toArray 0) := Heap.get?_push_size _ rfl
 refine wpAny_bind (wpAny_holding (wpAny_call_entry_kw slot_list_sort ⟨_, hat, rfl⟩ entry_list_sort ?body (ha2 _)))
 case body =>
  rw [hkw]
  have old : ∀ b o, h'.get? b = some o -> (sortingHeap (h'.push (seqObj "list" vs.toArray 0)) h'.objs.size vs).get? b = some o := fun b o q => sortingHeap_old (Nat.ne_of_lt (Heap.lt_size q)) (Heap.get?_push_of_some _ q)
  have er' : EachIs (fun v b => ∃ as, Reads (sortingHeap (h'.push (seqObj "list" vs.toArray 0)) h'.objs.size vs) v (enc b) as) vs bs := er.mono fun _ _ ⟨as, r⟩ => ⟨as, PyProof.Rows.Reads.keeps (fun b o q => old b o (hk' b o q)) r⟩
  refine list_sort_rev_vals (s := { s with heap := h'.push (seqObj "list" vs.toArray 0) }) (κ := dataKind (sortingHeap (h'.push (seqObj "list" vs.toArray 0)) h'.objs.size vs) (bs.map enc)) hat (SortsAt.data (s := { s with heap := sortingHeap (h'.push (seqObj "list" vs.toArray 0)) h'.objs.size vs }) (each_map (R := fun v d => ∃ as, Reads (sortingHeap (h'.push (seqObj "list" vs.toArray 0)) h'.objs.size vs) v d as) enc er') hal hk (bound_map hu)) hlen ?_
  refine ⟨_, rfl, wpAny_pure ⟨_, rfl, ?_⟩⟩
  obtain ⟨n2, hn2⟩ := sortedHeap_at (out := (sortVals (dataKind (sortingHeap (h'.push (seqObj "list" vs.toArray 0)) h'.objs.size vs) (bs.map enc)) b vs vs).toArray) hat
  refine h _ h' _ n2 hk' (fun b o q => ?_) hn2 (by rw [sortVals_length b rfl]; exact e.length) (sortVals_data b e er' hal)
  rw [sortedHeap_old (Nat.ne_of_lt (Heap.lt_size q)) (by rw [size_push']; exact Nat.lt_succ_of_lt (Heap.lt_size q))]
  exact Heap.get?_push_of_some _ q
end
def rSortedL (K : PySem.W.Frag) {β : Type} (enc : β -> PyData) (b : Bool) (vs : List V) (H : Hp) (Q : VK) : Prop := ∃ (a : Addr) (xs : List V) (bs : List β), vs = [V.ref a] /\ SqL K H a xs /\ Bears K H enc xs bs /\ AllAlike (bs.map enc) /\ Sortable (bs.map enc) /\ bs.length <= 10000000 /\ (∀ b ∈ bs, (enc b).depth <= 100) /\
 ∀ (p : Addr) (ys : List V), H p = none -> Bears K H enc ys (bs.mergeSort (dataLe b enc)) -> Q (.ref p) (upd H p (.lst ys))
section
variable {X : Cx}
theorem sortedL_run {β : Type} {enc : β -> PyData} {b : Bool} {kw : List (Str × Value)} (hu : X.A.units + 110 < cLine) (hkw : ∀ a, Builtin.«list.sort» ⟨[.ref a], kw⟩ = Builtin.«list.sort» ⟨[.ref a], [(Str.ofString "reverse", .bool b)]⟩) (ha1 : ∀ t, argsOk "sorted" ⟨[.ref t], kw⟩) (ha2 : ∀ x, argsOk "list.sort" ⟨[.ref x], kw⟩)
  {pins : List (Addr × Obj)} {s : Shared} {σ : L2.St} {H : Hp} {vs : List V} {us : List Value} {Q : VK} (I : Inv X pins σ H s) (r : Vals vs us) (h : rSortedL X.K enc b vs H Q) : wpAny (model X.prog X.w) X.A (call (.builtin "sorted") us kw) (EP X pins σ Q) X.xe s := by
 obtain ⟨a, xs, bs, rfl, hs, hb, hal, hsr, hl, hd, q⟩ := h
 obtain ⟨its, rv, hli, _⟩ := I.list hs
 rw [Vals.ref1 r]
 obtain ⟨e1, e2⟩ := each_of I hb rv
 refine sorted_lstK (vs := its) (bs := bs) (enc := enc) (R := fun u b => ∃ v, RelV v u /\ Dp X.K H v (enc b)) hkw (ha1 _) ha2 hli e1 e2 hal hsr (by rw [sizeLine_eq]; omega) (fun b m => by have := hd b m; omega) fun out h' h2 n k1 k2 hat ho h1 => ?_
 obtain ⟨ys, g2, g3⟩ := of_each h1
 have I' : Inv X pins σ H { s with heap := h' } := I.kept (t' := s.toks) k1
 have hlen : ys.length <= sizeLine := by rw [g2.length, ho, sizeLine_eq]; omega
 exact ⟨.ref _, upd H h'.objs.size (.lst ys), I'.laid (t' := s.toks) (fun b o e => k2 b o e) (Nat.le_refl _) ⟨hlen, out, n, g2, hat⟩, rfl, q _ ys (I'.hok.fresh (Nat.le_refl _)) g3⟩
theorem cr_sortedL {β : Type} (enc : β -> PyData) (hu : X.A.units + 110 < cLine) : CallR X (.builtin "sorted") (rSortedL X.K enc false) := by
 intro pins s σ H vs us Q I r h
 exact sortedL_run (kw := []) hu plain_is_rev (fun _ => args_sorted1 _) (fun _ => args_list_sort _) I r h
end
theorem dl_irrefl (x : PyData) : dataLt x x = false := lex_irrefl (O := itemOrd) _
theorem dl_trans {x y z : PyData} (h : dataLt x y = true) (h2 : dataLt y z = true) : dataLt x z = true := lex_trans (O := itemOrd) _ _ _ h h2
theorem dl_total {x y : PyData} (al : alike x y = true) (h : dataLt x y = false) (h2 : dataLt y x = false) : PyData.eqv x y = true := by
 have e : keyToks x = keyToks y := lex_total (O := itemOrd) _ _ h h2
 cases hq : PyData.eqv x y with
 | true => rfl
 | false =>
  have t := (toks_eqv x y al).2 hq [.inl 0] [.inl 1]
  rw [e] at t
  have t2 : PyProof.Rows.lexLt itemOrd (keyToks y ++ [.inl 0]) (keyToks y ++ [.inl 1]) = PyProof.Rows.lexLt itemOrd [.inl 0] [.inl 1] := lex_pre _ _ _
  have t3 : PyProof.Rows.lexLt itemOrd (keyToks y) (keyToks y) = false := lex_irrefl (O := itemOrd) _
  rw [t2, t3, lex_one] at t
  revert t
  decide
theorem dl_asymm {x y : PyData} (h : dataLt x y = true) : dataLt y x = false := by
 cases e : dataLt y x with
 | false => rfl
 | true => have := dl_trans h e; rw [dl_irrefl] at this; cases this
class Orderly {γ : Type} [DecidableEq γ] (enc : γ -> PyData) : Prop where
 al : ∀ a b, alike (enc a) (enc b) = true
 eq : ∀ a b, PyData.eqv (enc a) (enc b) = decide (a = b)
section
variable {γ : Type} [DecidableEq γ] {enc : γ -> PyData} [O : Orderly enc]
theorem ol_tri {a b : γ} (hne : a ≠ b) (h : dataLt (enc a) (enc b) = false) : dataLt (enc b) (enc a) = true := by
 cases e : dataLt (enc b) (enc a) with
 | true => rfl
 | false =>
  have := dl_total (O.al a b) h e
  rw [O.eq] at this
  exact absurd (of_decide_eq_true this) hne
theorem ol_ne {a b : γ} (h : dataLt (enc a) (enc b) = true) : a ≠ b := fun z => by subst z; rw [dl_irrefl] at h; cases h
instance : Orderly (pairE enc) where
 al a b := by simp [pairE, alike, alikeAll, O.al a.1 b.1]
 eq a b := by
  simp only [pairE, PyData.eqv, PyData.eqvAll, O.eq, Bool.and_true, ib]
  by_cases h : a = b
  ·subst h; simp
  ·rw [decide_eq_false h]
   rw [Bool.and_eq_false_iff]
   by_cases h1 : a.1 = b.1
   ·exact .inr (decide_eq_false fun h2 => h (Prod.ext h1 h2))
   ·exact .inl (decide_eq_false h1)
theorem pairE_lt (p q : γ × Int) : dataLt (pairE enc p) (pairE enc q) = if p.1 = q.1 then decide (p.2 < q.2) else dataLt (enc p.1) (enc q.1) := by
 unfold pairE
 rw [dataLt_pair (O.al p.1 q.1) (by simp [alike]), O.eq]
 by_cases h : p.1 = q.1
 ·rw [if_pos (by simp [h]), if_pos h, dataLt_int]
  by_cases h2 : p.2 = q.2
  ·simp [PyData.eqv, h2]
  ·simp [PyData.eqv, h2]
 ·rw [if_neg (by simp [h]), if_neg h]
def srtE (enc : γ -> PyData) (bs : List γ) : List γ := bs.mergeSort (dataLe false enc)
theorem srtE_perm (bs : List γ) : (srtE enc bs).Perm bs := List.mergeSort_perm _ _
theorem srtE_le (bs : List γ) : (srtE enc bs).Pairwise (fun a b => dataLt (enc b) (enc a) = false) := by
 have h := List.pairwise_mergeSort (le := dataLe false enc) (fun a b c h1 h2 => ?_) (fun a b => ?_) bs
 ·refine h.imp fun {a b} hab => ?_
  rw [dataLe_eq] at hab
  simpa using hab
 ·rw [dataLe_eq] at h1 h2 ⊢
  simp only [cond_false, Bool.not_eq_true'] at h1 h2 ⊢
  by_cases hab : a = b
  ·subst hab; exact h2
  ·by_cases hbc : b = c
   ·subst hbc; exact h1
   ·exact dl_asymm (dl_trans (ol_tri (fun z => hab z.symm) h1) (ol_tri (fun z => hbc z.symm) h2))
 ·rw [dataLe_eq]
  simp only [cond_false]
  cases e : dataLt (enc b) (enc a) with
  | false => rfl
  | true => rw [dl_asymm e]; rfl
def sumE (ps : List (γ × Int)) (x : γ) : Int := match ps with
 | [] => 0
 | p :: r => (if p.1 = x then p.2 else 0) + sumE r x
theorem sumE_append (x : γ) : ∀ (as bs : List (γ × Int)), sumE (as ++ bs) x = sumE as x + sumE bs x
 | [], bs => by simp [sumE]
 | p :: r, bs => by show _ + sumE (r ++ bs) x = _; rw [sumE_append x r bs, sumE]; omega
theorem sumE_perm {as bs : List (γ × Int)} (h : as.Perm bs) (x : γ) : sumE as x = sumE bs x := by
 induction h with
 | nil => rfl
 | cons y _ ih => simp only [sumE]; omega
 | swap y z l => simp only [sumE]; omega
 | trans _ _ h1 h2 => omega
theorem sumE_jstep (acc : List (γ × Int)) (p : γ × Int) (x : γ) : sumE (jstep acc p) x = sumE acc x + (if p.1 = x then p.2 else 0) := by
 rcases List.eq_nil_or_concat acc with h | ⟨a, z, h⟩
 ·subst h; rw [jstep_nil]; simp [sumE]
 ·subst h
  rw [List.concat_eq_append, jstep_snoc]
  by_cases hz : z.1 = p.1
  ·rw [if_pos hz, sumE_append, sumE_append]
   simp only [sumE, hz]
   by_cases hx : p.1 = x
   ·simp only [if_pos hx]; omega
   ·simp only [if_neg hx]; omega
  ·rw [if_neg hz, sumE_append]; simp only [sumE]; omega
theorem sumE_jn (bs : List (γ × Int)) (x : γ) : sumE (jn bs) x = sumE bs x := by
 have key : ∀ (bs acc : List (γ × Int)), sumE (bs.foldl jstep acc) x = sumE acc x + sumE bs x := by
  intro bs
  induction bs with
  | nil => intro acc; simp [sumE]
  | cons p r ih =>
   intro acc
   show sumE (r.foldl jstep (jstep acc p)) x = _
   rw [ih, sumE_jstep, sumE]; omega
 have := key bs []
 simpa [jn, sumE] using this
theorem jn_rise {bs : List (γ × Int)} (h : bs.Pairwise (fun a b => dataLt (enc b.1) (enc a.1) = false)) : (jn bs).Pairwise (fun p q => dataLt (enc p.1) (enc q.1) = true) := by
 have key : ∀ (bs acc : List (γ × Int)), acc.Pairwise (fun p q => dataLt (enc p.1) (enc q.1) = true) -> (∀ a ∈ acc, ∀ b ∈ bs, dataLt (enc b.1) (enc a.1) = false) -> bs.Pairwise (fun a b => dataLt (enc b.1) (enc a.1) = false) -> (bs.foldl jstep acc).Pairwise (fun p q => dataLt (enc p.1) (enc q.1) = true) := by
  intro bs
  induction bs with
  | nil => intro acc h _ _; exact h
  | cons p r ih =>
   intro acc h1 h2 h3
   obtain ⟨h31, h32⟩ := List.pairwise_cons.mp h3
   refine ih (jstep acc p) ?_ ?_ h32
   ·rcases List.eq_nil_or_concat acc with h | ⟨a, z, h⟩
    ·subst h; rw [jstep_nil]; exact List.pairwise_singleton _ _
    ·subst h
     rw [List.concat_eq_append] at h1 h2 ⊢
     rw [jstep_snoc]
     obtain ⟨a1, _, a3⟩ := List.pairwise_append.mp h1
     by_cases hz : z.1 = p.1
     ·rw [if_pos hz, List.pairwise_append]
      refine ⟨a1, List.pairwise_singleton _ _, fun x hx y hy => ?_⟩
      have hy' : y = (p.1, z.2 + p.2) := by simpa using hy
      subst hy'
      show dataLt (enc x.1) (enc p.1) = true
      rw [<- hz]; exact a3 x hx z (by simp)
     ·rw [if_neg hz, List.pairwise_append]
      refine ⟨h1, List.pairwise_singleton _ _, fun x hx y hy => ?_⟩
      have hy' : y = p := by simpa using hy
      subst hy'
      have hzp : dataLt (enc z.1) (enc y.1) = true := ol_tri (fun q => hz q.symm) (h2 z (by simp) y (mcs ..))
      rcases List.mem_append.mp hx with hx | hx
      ·exact dl_trans (a3 x hx z (by simp)) hzp
      ·have hx' : x = z := by simpa using hx
       subst hx'; exact hzp
   ·intro a ha b hb
    have hpb := h31 b hb
    rcases List.eq_nil_or_concat acc with h | ⟨c, z, h⟩
    ·subst h
     rw [jstep_nil] at ha
     have : a = p := by simpa using ha
     subst this; exact hpb
    ·subst h
     rw [List.concat_eq_append] at ha h2
     rw [jstep_snoc] at ha
     by_cases hz : z.1 = p.1
     ·rw [if_pos hz] at ha
      rcases List.mem_append.mp ha with ha | ha
      ·exact h2 a (List.mem_append_left _ ha) b (mcm _ hb)
      ·have : a = (p.1, z.2 + p.2) := by simpa using ha
       subst this; exact hpb
     ·rw [if_neg hz] at ha
      rcases List.mem_append.mp ha with ha | ha
      ·exact h2 a ha b (mcm _ hb)
      ·have : a = p := by simpa using ha
       subst this; exact hpb
 exact key bs [] List.Pairwise.nil (by simp) h
theorem srt_keys (bs : List (γ × Int)) : (srtE (pairE enc) bs).Pairwise (fun a b => dataLt (enc b.1) (enc a.1) = false) := by
 refine (srtE_le (enc := pairE enc) bs).imp fun {a b} hab => ?_
 rw [pairE_lt] at hab
 by_cases h : b.1 = a.1
 ·rw [h]; exact dl_irrefl _
 ·rw [if_neg h] at hab; exact hab
def tdy (enc : γ -> PyData) (bs : List (γ × Int)) : List (γ × Int) := jn (srtE (pairE enc) bs)
theorem tdy_rise (bs : List (γ × Int)) : (tdy enc bs).Pairwise (fun p q => dataLt (enc p.1) (enc q.1) = true) := jn_rise (srt_keys bs)
theorem tdy_sum (bs : List (γ × Int)) (x : γ) : sumE (tdy enc bs) x = sumE bs x := by
 unfold tdy
 rw [sumE_jn, sumE_perm (srtE_perm bs)]
theorem tdy_keys (bs : List (γ × Int)) : ∀ p ∈ tdy enc bs, ∃ q ∈ bs, q.1 = p.1 := fun p hp => by
 obtain ⟨q, hq, e⟩ := jn_keys _ p hp
 exact ⟨q, (srtE_perm bs).mem_iff.mp hq, e⟩
def allE : List (γ × Int) -> Int
 | [] => 0
 | p :: r => p.2 + allE r
theorem allE_append : ∀ as bs : List (γ × Int), allE (as ++ bs) = allE as + allE bs
 | [], bs => by simp [allE]
 | p :: r, bs => by show _ + allE (r ++ bs) = _; rw [allE_append r bs, allE]; omega
theorem allE_perm {as bs : List (γ × Int)} (h : as.Perm bs) : allE as = allE bs := by
 induction h with
 | nil => rfl
 | cons y _ ih => simp only [allE]; omega
 | swap y z l => simp only [allE]; omega
 | trans _ _ h1 h2 => omega
theorem jn_all (bs : List (γ × Int)) : allE (jn bs) = allE bs := by
 have key : ∀ (bs acc : List (γ × Int)), allE (bs.foldl jstep acc) = allE acc + allE bs := by
  intro bs
  induction bs with
  | nil => intro acc; simp [allE]
  | cons p r ih =>
   intro acc
   show allE (r.foldl jstep (jstep acc p)) = _
   rw [ih]
   have e : allE (jstep acc p) = allE acc + p.2 := by
    rcases List.eq_nil_or_concat acc with h | ⟨a, z, h⟩
    ·subst h; rw [jstep_nil]; simp [allE]
    ·subst h
     rw [List.concat_eq_append, jstep_snoc]
     split
     ·rw [allE_append, allE_append]; simp only [allE]; omega
     ·rw [allE_append]; simp only [allE]; omega
   rw [e, allE]; omega
 have := key bs []
 simpa [jn, allE] using this
theorem jn_pos {bs : List (γ × Int)} (h : ∀ p ∈ bs, 1 <= p.2) : ∀ p ∈ jn bs, 1 <= p.2 := by
 have key : ∀ (bs acc : List (γ × Int)), (∀ p ∈ acc, 1 <= p.2) -> (∀ p ∈ bs, 1 <= p.2) -> ∀ p ∈ bs.foldl jstep acc, 1 <= p.2 := by
  intro bs
  induction bs with
  | nil => intro acc h _; exact h
  | cons p r ih =>
   intro acc h1 h2
   refine ih (jstep acc p) (fun q hq => ?_) fun q hq => h2 q (mcm _ hq)
   have hp := h2 p (mcs ..)
   rcases List.eq_nil_or_concat acc with h | ⟨a, z, h⟩
   ·subst h
    rw [jstep_nil] at hq
    have : q = p := by simpa using hq
    subst this; exact hp
   ·subst h
    rw [List.concat_eq_append] at h1 hq
    rw [jstep_snoc] at hq
    have hz := h1 z (by simp)
    by_cases e : z.1 = p.1
    ·rw [if_pos e] at hq
     rcases List.mem_append.mp hq with hq | hq
     ·exact h1 q (List.mem_append_left _ hq)
     ·have : q = (p.1, z.2 + p.2) := by simpa using hq
      subst this; show 1 <= z.2 + p.2; omega
    ·rw [if_neg e] at hq
     rcases List.mem_append.mp hq with hq | hq
     ·exact h1 q hq
     ·have : q = p := by simpa using hq
      subst this; exact hp
 exact key bs [] (by simp) h
theorem le_all {bs : List (γ × Int)} (h : ∀ p ∈ bs, 1 <= p.2) : ∀ p ∈ bs, p.2 <= allE bs := by
 induction bs with
 | nil => intro p hp; cases hp
 | cons a r ih =>
  intro p hp
  have hr : 0 <= allE r := by
   clear ih hp
   have : ∀ p ∈ r, 1 <= p.2 := fun p hp => h p (mcm _ hp)
   clear h
   induction r with
   | nil => exact Int.le_refl _
   | cons b r ih2 =>
    have h1 := this b (mcs ..)
    have h2 := ih2 fun p hp => this p (mcm _ hp)
    show 0 <= b.2 + allE r; omega
  have ha := h a (mcs ..)
  rcases List.mem_cons.mp hp with hp | hp
  ·subst hp; show p.2 <= p.2 + allE r; omega
  ·have := ih (fun p hp => h p (mcm _ hp)) p hp
   show p.2 <= a.2 + allE r; omega
theorem tdy_pos {bs : List (γ × Int)} (h : ∀ p ∈ bs, 1 <= p.2) : ∀ p ∈ tdy enc bs, 1 <= p.2 /\ p.2 <= allE bs := fun p hp => by
 have h0 : ∀ p ∈ srtE (pairE enc) bs, 1 <= p.2 := fun p hp => h p ((srtE_perm bs).mem_iff.mp hp)
 have h1 := jn_pos h0
 refine ⟨h1 p hp, ?_⟩
 have h2 := le_all h1 p hp
 rw [jn_all, allE_perm (srtE_perm bs)] at h2
 exact h2
end
inductive Gr where
 | nil
 | cons (k : Str) (g : Gr) (m : Int) (r : Gr)
 deriving DecidableEq
abbrev Tr := Str × Gr
def NameOk (k : Str) : Prop := 1 <= k.cps.toList.length /\ k.cps.toList.length <= 8 /\ ∀ c ∈ k.cps.toList, 97 <= c /\ c <= 122
namespace Gr
def encs : Gr -> List PyData
 | .nil => []
 | .cons k g m r => .tuple [.tuple [.str k, .tuple g.encs], .int m] :: r.encs
def enc (g : Gr) : PyData := .tuple g.encs
def tEnc (t : Tr) : PyData := .tuple [.str t.1, t.2.enc]
abbrev pEnc : Tr × Int -> PyData := pairE tEnc
def ps : Gr -> List (Tr × Int)
 | .nil => []
 | .cons k g m r => ((k, g), m) :: r.ps
def ofPs : List (Tr × Int) -> Gr
 | [] => .nil
 | p :: r => .cons p.1.1 p.1.2 p.2 (ofPs r)
theorem ofPs_ps : ∀ g : Gr, ofPs g.ps = g
 | .nil => rfl
 | .cons k g m r => by show Gr.cons k g m (ofPs r.ps) = _; rw [ofPs_ps r]
theorem ps_ofPs : ∀ bs : List (Tr × Int), (ofPs bs).ps = bs
 | [] => rfl
 | p :: r => by show ((p.1.1, p.1.2), p.2) :: (ofPs r).ps = _; rw [ps_ofPs r]
theorem encs_ps : ∀ g : Gr, g.encs = g.ps.map pEnc
 | .nil => rfl
 | .cons k g m r => by show _ :: r.encs = _ :: r.ps.map pEnc; rw [encs_ps r]; rfl
def parts : Gr -> Nat
 | .nil => 0
 | .cons _ g _ r => 1 + g.parts + r.parts
def deep : Gr -> Nat
 | .nil => 0
 | .cons _ g _ r => max (1 + g.deep) r.deep
def tot : List (Tr × Int) -> Nat
 | [] => 0
 | p :: r => 1 + p.1.2.parts + tot r
theorem parts_ofPs : ∀ bs : List (Tr × Int), (ofPs bs).parts = tot bs
 | [] => rfl
 | p :: r => by show 1 + p.1.2.parts + (ofPs r).parts = 1 + p.1.2.parts + tot r; rw [parts_ofPs r]
theorem tot_ps (g : Gr) : tot g.ps = g.parts := by rw [<- parts_ofPs, ofPs_ps]
theorem tot_append : ∀ bs cs : List (Tr × Int), tot (bs ++ cs) = tot bs + tot cs
 | [], cs => by simp [tot]
 | p :: r, cs => by show 1 + p.1.2.parts + tot (r ++ cs) = _; rw [tot_append r cs, tot]; omega
theorem tot_perm {bs cs : List (Tr × Int)} (h : bs.Perm cs) : tot bs = tot cs := by
 induction h with
 | nil => rfl
 | cons x _ ih => simp only [tot]; omega
 | swap x y l => simp only [tot]; omega
 | trans _ _ h1 h2 => omega
theorem len_tot : ∀ bs : List (Tr × Int), bs.length <= tot bs
 | [] => Nat.le_refl _
 | p :: r => by have := len_tot r; show r.length + 1 <= 1 + p.1.2.parts + tot r; omega
theorem tot_jn (bs : List (Tr × Int)) : tot (jn bs) <= tot bs := by
 have key : ∀ (bs acc : List (Tr × Int)), tot (bs.foldl jstep acc) <= tot acc + tot bs := by
  intro bs
  induction bs with
  | nil => intro acc; simp [tot]
  | cons x r ih =>
   intro acc
   have h1 := ih (jstep acc x)
   have h2 : tot (jstep acc x) <= tot acc + (1 + x.1.2.parts) := by
    rcases List.eq_nil_or_concat acc with h | ⟨a, z, h⟩
    ·subst h; simp [jstep_nil, tot]
    ·subst h
     rw [List.concat_eq_append, jstep_snoc]
     by_cases hz : z.1 = x.1
     ·rw [if_pos hz, tot_append, tot_append]; simp only [tot]; rw [hz]; omega
     ·rw [if_neg hz, tot_append, tot_append]; simp only [tot]; omega
   show tot (r.foldl jstep (jstep acc x)) <= tot acc + (1 + x.1.2.parts + tot r)
   omega
 have := key bs []
 simpa [jn, tot] using this
theorem mem_deep : ∀ (g : Gr) (p : Tr × Int), p ∈ g.ps -> p.1.2.deep < g.deep
 | .nil, p, h => by cases h
 | .cons k g m r, p, h => by
  rcases List.mem_cons.mp h with h | h
  ·subst h; show g.deep < max (1 + g.deep) r.deep; omega
  ·have := mem_deep r p h; show _ < max (1 + g.deep) r.deep; omega
theorem mem_parts : ∀ (g : Gr) (p : Tr × Int), p ∈ g.ps -> p.1.2.parts < g.parts
 | .nil, p, h => by cases h
 | .cons k g m r, p, h => by
  rcases List.mem_cons.mp h with h | h
  ·subst h; show g.parts < 1 + g.parts + r.parts; omega
  ·have := mem_parts r p h; show _ < 1 + g.parts + r.parts; omega
theorem deep_le {n : Nat} : ∀ {g : Gr}, (∀ p ∈ g.ps, p.1.2.deep < n) -> g.deep <= n
 | .nil, _ => Nat.zero_le _
 | .cons k g m r, h => by
  have h1 := h ((k, g), m) (mcs ..)
  have h2 := deep_le (g := r) fun p hp => h p (mcm _ hp)
  show max (1 + g.deep) r.deep <= n
  have : g.deep < n := h1
  omega
theorem len_parts (g : Gr) : g.ps.length <= g.parts := by have := len_tot g.ps; rw [tot_ps] at this; exact this
theorem alikes : ∀ g h : Gr, alikeAll g.encs h.encs = true
 | .nil, _ => by simp [encs, alikeAll]
 | .cons _ _ _ _, .nil => by simp [encs, alikeAll]
 | .cons k g m r, .cons k' g' m' r' => by
  have h1 := alikes g g'
  have h2 := alikes r r'
  simp [encs, alikeAll, alike, h1, h2]
theorem alike_enc (g h : Gr) : alike g.enc h.enc = true := by
 show alike (.tuple g.encs) (.tuple h.encs) = true
 rw [alike]; exact alikes g h
theorem sb (a b : Str) : (a == b) = decide (a = b) := by by_cases h : a = b <;> simp [h]
theorem eqvs : ∀ g h : Gr, PyData.eqvAll g.encs h.encs = decide (g = h)
 | .nil, .nil => by simp [encs, PyData.eqvAll]
 | .nil, .cons _ _ _ _ => by simp [encs, PyData.eqvAll]
 | .cons _ _ _ _, .nil => by simp [encs, PyData.eqvAll]
 | .cons k g m r, .cons k' g' m' r' => by
  have h1 := eqvs g g'
  have h2 := eqvs r r'
  simp [encs, PyData.eqvAll, PyData.eqv, h1, h2, Bool.and_assoc, ib, sb]
theorem eqv_enc (g h : Gr) : PyData.eqv g.enc h.enc = decide (g = h) := by
 rw [enc, enc, PyData.eqv]; exact eqvs g h
instance : Orderly tEnc where
 al a b := by simp [tEnc, alike, alikeAll, alike_enc]
 eq a b := by
  simp only [tEnc, PyData.eqv, PyData.eqvAll, eqv_enc, Bool.and_true, sb]
  by_cases h : a = b
  ·subst h; simp
  ·rw [decide_eq_false h, Bool.and_eq_false_iff]
   by_cases h1 : a.1 = b.1
   ·exact .inr (decide_eq_false fun h2 => h (Prod.ext h1 h2))
   ·exact .inl (decide_eq_false h1)
theorem noLists_encs : ∀ g : Gr, noLists g.encs = true
 | .nil => by simp [encs, noLists]
 | .cons k g m r => by simp [encs, noLists, noList, noLists_encs g, noLists_encs r]
theorem noList_enc (g : Gr) : noList g.enc = true := by simp [enc, noList, noLists_encs g]
theorem noList_tEnc (t : Tr) : noList (tEnc t) = true := by simp [tEnc, noList, noLists, noList_enc]
theorem noList_pEnc (p : Tr × Int) : noList (pEnc p) = true := by simp [pEnc, pairE, noList, noLists, noList_tEnc]
theorem encs_depth : ∀ g : Gr, PyData.depthAll g.encs <= 3 * g.deep
 | .nil => by simp [encs, PyData.depthAll, deep]
 | .cons k g m r => by
  have h1 := encs_depth g
  have h2 := encs_depth r
  simp only [encs, PyData.depthAll, PyData.depth, deep]
  omega
theorem enc_depth (g : Gr) : g.enc.depth <= 3 * g.deep + 1 := by
 have := encs_depth g
 simp only [enc, PyData.depth]
 omega
theorem tEnc_depth (t : Tr) : (tEnc t).depth <= 3 * t.2.deep + 2 := by
 have := enc_depth t.2
 simp only [tEnc, PyData.depth, PyData.depthAll]; omega
theorem pEnc_depth (p : Tr × Int) : (pEnc p).depth <= 3 * p.1.2.deep + 3 := by
 have := tEnc_depth p.1
 simp only [pEnc, pairE, PyData.depth, PyData.depthAll]; omega
def Ok (C : Int) : Gr -> Prop
 | .nil => True
 | .cons k g m r => NameOk k /\ g.Ok C /\ 1 <= m /\ m < C /\ r.Ok C /\ ∀ p ∈ r.ps, dataLt (tEnc (k, g)) (tEnc p.1) = true
theorem Ok.mono {B C : Int} (h : B <= C) : ∀ {g : Gr}, g.Ok B -> g.Ok C
 | .nil, _ => trivial
 | .cons k g m r, ⟨h0, h1, h2, h3, h4, h5⟩ => ⟨h0, Ok.mono h h1, h2, by omega, Ok.mono h h4, h5⟩
theorem ok_ps {C : Int} : ∀ {bs : List (Tr × Int)}, (ofPs bs).Ok C ↔ (∀ p ∈ bs, NameOk p.1.1 /\ p.1.2.Ok C /\ 1 <= p.2 /\ p.2 < C) /\ bs.Pairwise (fun p q => dataLt (tEnc p.1) (tEnc q.1) = true)
 | [] => by simp [ofPs, Ok]
 | x :: r => by
  have ih := ok_ps (C := C) (bs := r)
  show (NameOk x.1.1 /\ x.1.2.Ok C /\ 1 <= x.2 /\ x.2 < C /\ (ofPs r).Ok C /\ ∀ p ∈ (ofPs r).ps, dataLt (tEnc x.1) (tEnc p.1) = true) ↔ _
  rw [ps_ofPs, List.pairwise_cons, ih]
  constructor
  ·rintro ⟨h0, h1, h2, h3, ⟨h4, h5⟩, h6⟩
   refine ⟨fun p hp => ?_, h6, h5⟩
   rcases List.mem_cons.mp hp with hp | hp
   ·subst hp; exact ⟨h0, h1, h2, h3⟩
   ·exact h4 p hp
  ·rintro ⟨h1, h2, h3⟩
   have h4 := h1 x (mcs ..)
   exact ⟨h4.1, h4.2.1, h4.2.2.1, h4.2.2.2, ⟨fun p hp => h1 p (mcm _ hp), h3⟩, h2⟩
theorem ok_iff {C : Int} {g : Gr} : g.Ok C ↔ (∀ p ∈ g.ps, NameOk p.1.1 /\ p.1.2.Ok C /\ 1 <= p.2 /\ p.2 < C) /\ g.ps.Pairwise (fun p q => dataLt (tEnc p.1) (tEnc q.1) = true) := by
 have := ok_ps (C := C) (bs := g.ps)
 rw [ofPs_ps] at this
 exact this
theorem strOk_name {k : Str} (h : NameOk k) : PySem.PyData.strOk k = true := by
 show k.cps.all (· < 0x110000) = true
 rw [Array.all_eq_true']
 intro c hc
 have := h.2.2 c (by simpa using hc)
 simp; omega
theorem lays {C : Int} : ∀ {g : Gr}, g.Ok C -> PyData.canLayAll0 g.encs = true
 | .nil, _ => by simp [encs, PyData.canLayAll0]
 | .cons k g m r, ⟨h0, h1, _, _, h4, _⟩ => by
  have e1 := lays h1
  have e2 := lays h4
  simp [encs, PyData.canLayAll0, PyData.canLay0, e1, e2, strOk_name h0]
theorem shaped_tEnc {C : Int} {t : Tr} (h0 : NameOk t.1) (h : t.2.Ok C) (hd : t.2.deep <= 20) : SeqAt.shaped (tEnc t) = true := by
 have := tEnc_depth t
 unfold SeqAt.shaped
 rw [show (tEnc t).canLay0 = true by simp [tEnc, PyData.canLay0, PyData.canLayAll0, strOk_name h0, enc, lays h]]
 simp; omega
theorem pEnc_all (bs : List (Tr × Int)) : AllAlike (bs.map pEnc) := AllAlike.of fun a b => Orderly.al (enc := pEnc) a b
theorem pEnc_sortable (bs : List (Tr × Int)) : Sortable (bs.map pEnc) := Sortable.tuples fun b => ⟨_, _, rfl⟩
def tidy (bs : List (Tr × Int)) : Gr := ofPs (tdy tEnc bs)
theorem tidy_parts (bs : List (Tr × Int)) : (tidy bs).parts <= tot bs := by
 unfold tidy
 rw [parts_ofPs]
 have h1 := tot_jn (srtE (pairE tEnc) bs)
 rw [tot_perm (srtE_perm bs)] at h1
 exact h1
theorem tidy_deep {n : Nat} {bs : List (Tr × Int)} (h : ∀ p ∈ bs, p.1.2.deep < n) : (tidy bs).deep <= n := by
 refine deep_le fun p hp => ?_
 unfold tidy at hp
 rw [ps_ofPs] at hp
 obtain ⟨q, hq, e⟩ := tdy_keys bs p hp
 rw [<- e]; exact h q hq
end Gr
def GA (K : PySem.W.Frag) (H : Hp) (v : V) (g : Gr) : Prop := Dp K H v g.enc
section
variable {K : PySem.W.Frag} {ps : List Addr} {H H' : Hp} {v : V} {g : Gr}
theorem GA.sb (h : GA K H v g) (e : SB ps H H') : GA K H' v g := Dp_sb e _ _ g.noList_enc h
theorem GA_bears (h : GA K H v g) : ∃ a xs, v = .ref a /\ SqT K H a xs /\ Bears K H Gr.pEnc xs g.ps := by
 have h' : Dp K H v (.tuple g.encs) := h
 cases h' with
 | tup hs ha =>
  rw [Gr.encs_ps] at ha
  exact ⟨_, _, rfl, hs, Bears.of ha⟩
theorem Bears_ga {a : Addr} {xs : List V} {bs : List (Tr × Int)} (h : SqT K H a xs) (hb : Bears K H Gr.pEnc xs bs) : GA K H (.ref a) (Gr.ofPs bs) := by
 refine Dp.tup h ?_
 rw [Gr.encs_ps, Gr.ps_ofPs]
 exact hb.dp
theorem GA_nil {p : Addr} (h : SqT K H p []) : GA K H (.ref p) .nil := Dp.tup h .nil
theorem TA_parts {t : Tr} (h : Dp K H v (Gr.tEnc t)) : ∃ a u, v = .ref a /\ SqT K H a [.str t.1, u] /\ GA K H u t.2 := by
 cases h with
 | tup hs ha =>
  cases ha with
  | cons h1 h2 =>
   cases h2 with
   | cons h3 h4 =>
    cases h4
    cases h1
    exact ⟨_, _, rfl, hs, h3⟩
theorem PA_parts {p : Tr × Int} (h : Dp K H v (Gr.pEnc p)) : ∃ a b u, v = .ref a /\ SqT K H a [.ref b, .int p.2] /\ SqT K H b [.str p.1.1, u] /\ GA K H u p.1.2 /\ Dp K H (.ref b) (Gr.tEnc p.1) := by
 cases h with
 | tup hs ha =>
  cases ha with
  | cons h1 h2 =>
   cases h2 with
   | cons h3 h4 =>
    cases h4
    cases h3
    obtain ⟨b, u, rfl, hb, hg⟩ := TA_parts h1
    exact ⟨_, b, u, rfl, hs, hb, hg, h1⟩
end
def Ltr (z : Str) (n : Nat) : Prop := z.cps.toList.length = n /\ ∀ c ∈ z.cps.toList, 97 <= c /\ c <= 122
theorem Ltr.name {z : Str} {n : Nat} (h : Ltr z n) (h1 : 1 <= n) (h8 : n <= 8) : NameOk z := ⟨by have := h.1; omega, by have := h.1; omega, h.2⟩
theorem Ltr.len {z : Str} {n : Nat} (h : Ltr z n) : z.length = n := by have := h.1; simpa [Str.length] using this
theorem Ltr.one {c : Nat} (h : 97 <= c /\ c <= 122) : Ltr ⟨#[c]⟩ 1 := ⟨rfl, fun x hx => by simp at hx; subst hx; exact h⟩
theorem Ltr.append {a b : Str} {n m : Nat} (ha : Ltr a n) (hb : Ltr b m) : Ltr (a ++ b) (n + m) := by
 have e : (a ++ b).cps.toList = a.cps.toList ++ b.cps.toList := by show (a.cps ++ b.cps).toList = _; simp
 unfold Ltr
 rw [e, List.length_append, ha.1, hb.1]
 refine ⟨rfl, fun c hc => ?_⟩
 rcases List.mem_append.mp hc with hc | hc
 ·exact ha.2 c hc
 ·exact hb.2 c hc
theorem Ltr.take {z : Str} {n : Nat} (h : Ltr z n) (k : Nat) : Ltr (cutS z none (some (k : Int))) (min k n) := by
 have hl := h.len
 have e : (cutS z none (some (k : Int))).cps.toList = z.cps.toList.take (min k n) := by
  unfold cutS
  rw [HT.sIx_none, HT.sIx_nat, hl]
  simp
 unfold Ltr
 rw [e, List.length_take, h.1]
 exact ⟨by omega, fun c hc => h.2 c (List.mem_of_mem_take hc)⟩
theorem Ltr.cut {z : Str} {n : Nat} (h : Ltr z n) (a b : Nat) : Ltr (cutS z (some (a : Int)) (some (b : Int))) (min b n - min a n) := by
 have hl := h.len
 have e : (cutS z (some (a : Int)) (some (b : Int))).cps.toList = (z.cps.toList.drop (min a n)).take (min b n - min a n) := by
  unfold cutS
  rw [HT.sIx_nat, HT.sIx_nat, hl]
 unfold Ltr
 rw [e, List.length_take, List.length_drop, h.1]
 exact ⟨by omega, fun c hc => h.2 c (List.mem_of_mem_drop (List.mem_of_mem_take hc))⟩
theorem glue_ones : ∀ (cs : List Nat) (acc : Array Nat), ((cs.map fun c => (⟨#[c]⟩ : Str)).foldl (fun acc p => acc ++ (Str.ofString "").cps ++ p.cps) acc).toList = acc.toList ++ cs
 | [], acc => by simp
 | c :: cs, acc => by
  have e0 : (Str.ofString "").cps = #[] := by decide +kernel
  rw [List.map_cons, List.foldl_cons, glue_ones cs]
  simp [e0]
theorem join_ltrs (cs : List Nat) (h : ∀ c ∈ cs, 97 <= c /\ c <= 122) : Ltr (Txt.join (Str.ofString "") (cs.map fun c => ⟨#[c]⟩)) cs.length := by
 have e : (Txt.join (Str.ofString "") (cs.map fun c => (⟨#[c]⟩ : Str))).cps.toList = cs := by
  show (Builtin.Str.glued (Str.ofString "") (cs.map fun c => (⟨#[c]⟩ : Str))).cps.toList = cs
  unfold Builtin.Str.glued
  cases cs with
  | nil => rfl
  | cons c r =>
   show ((r.map fun c => (⟨#[c]⟩ : Str)).foldl (fun acc p => acc ++ (Str.ofString "").cps ++ p.cps) #[c]).toList = c :: r
   rw [glue_ones]
   rfl
 unfold Ltr
 rw [e]
 exact ⟨rfl, h⟩
abbrev abc : Str := Str.ofString "abcdefghijklmnopqrstuvwxyz"
theorem abc_at : ∀ r : Nat, r < 26 -> ∃ c, abc.cps.toList[r]? = some c /\ 97 <= c /\ c <= 122 := by
 have : ∀ r : Fin 26, ∃ c : Fin 200, abc.cps.toList[r.val]? = some c.val /\ 97 <= c.val /\ c.val <= 122 := by decide +kernel
 intro r hr
 obtain ⟨c, h⟩ := this ⟨r, hr⟩
 exact ⟨c.val, h⟩
theorem abc_len : abc.length <= sizeLine := by decide +kernel
theorem atI_natN {xs : List Nat} {j : Nat} {c : Nat} (h : xs[j]? = some c) : atI xs (j : Int) = some c := by
 have hj : j < xs.length := (List.getElem?_eq_some_iff.mp h).1
 unfold atI ixN
 rw [if_pos (by omega), if_pos (by omega)]
 simpa using h
theorem cutTakeS (ks : List Str) (k : Nat) : cutV (ks.map V.str) none (some (k : Int)) = (ks.take k).map V.str := by rw [cutTake, List.map_take]
theorem cutDropS (ks : List Str) (k : Nat) : cutV (ks.map V.str) (some (k : Int)) none = (ks.drop k).map V.str := by rw [cutDrop, List.map_drop]
def rSortedB (K : PySem.W.Frag) {β : Type} (enc : β -> PyData) (vs : List V) (H : Hp) (Q : VK) : Prop := ∃ (a : Addr) (xs : List V) (bs : List β), vs = [V.ref a] /\ (SqL K H a xs \/ SqT K H a xs) /\ Bears K H enc xs bs /\ AllAlike (bs.map enc) /\ Sortable (bs.map enc) /\ bs.length <= 10000000 /\ (∀ b ∈ bs, (enc b).depth <= 100) /\
 ∀ (p : Addr) (ys : List V), H p = none -> Bears K H enc ys (bs.mergeSort (dataLe false enc)) -> Q (.ref p) (upd H p (.lst ys))
theorem cr_sortedB {X : Cx} {β : Type} (enc : β -> PyData) (hu : X.A.units + 110 < cLine) : CallR X (.builtin "sorted") (rSortedB X.K enc) := by
 intro pins s σ H vs us Q I r h
 obtain ⟨a, xs, bs, h1, h2, h3⟩ := h
 rcases h2 with h2 | h2
 ·exact cr_sortedL enc hu pins s σ H vs us Q I r ⟨a, xs, bs, h1, h2, h3⟩
 ·exact cr_sortedT enc hu pins s σ H vs us Q I r ⟨a, xs, bs, h1, h2, h3⟩
namespace Gr
def within : Gr -> List (Tr × Int)
 | .nil => []
 | .cons k g m r => ((k, g), m) :: (g.within ++ r.within)
theorem within_ps : ∀ g : Gr, g.within = g.ps.flatMap fun p => p :: p.1.2.within
 | .nil => rfl
 | .cons k g m r => by show ((k, g), m) :: (g.within ++ r.within) = _; rw [within_ps r]; rfl
theorem within_length : ∀ g : Gr, g.within.length = g.parts
 | .nil => rfl
 | .cons k g m r => by show (g.within ++ r.within).length + 1 = 1 + g.parts + r.parts; rw [List.length_append, within_length g, within_length r]; omega
theorem deep_at : ∀ h : Gr, 0 < h.deep -> ∃ p ∈ h.ps, p.1.2.deep + 1 = h.deep
 | .nil, h => by simp [deep] at h
 | .cons k g m r, _ => by
  by_cases hr : r.deep <= 1 + g.deep
  ·exact ⟨((k, g), m), mcs .., by show g.deep + 1 = max (1 + g.deep) r.deep; omega⟩
  ·obtain ⟨p, hp, e2⟩ := deep_at r (by omega)
   exact ⟨p, mcm _ hp, by show p.1.2.deep + 1 = max (1 + g.deep) r.deep; omega⟩
theorem deep_max (g : Gr) (m : Int) (hm : m ∈ (g.ps.map fun p => (p.1.2.deep : Int))) (hy : ∀ a, a ∈ (g.ps.map fun p => (p.1.2.deep : Int)) -> a <= m) : (1 : Int) + m = (g.deep : Int) := by
 obtain ⟨p, hp, rfl⟩ := List.mem_map.mp hm
 have h1 := g.mem_deep p hp
 obtain ⟨q, hq, e⟩ := g.deep_at (by omega)
 have := hy _ (List.mem_map.mpr ⟨q, hq, rfl⟩)
 omega
theorem natAbs_lt {x : Int} {n : Nat} (h0 : 0 <= x) (h : x < 2 ^ n) : x.natAbs < 2 ^ n := by
 have h2 : ((x.natAbs : Nat) : Int) = x := Int.natAbs_of_nonneg h0
 have h3 : ((2 ^ n : Nat) : Int) = (2 : Int) ^ n := by rw [Int.natCast_pow]; rfl
 exact Int.ofNat_lt.mp (by rw [h2, h3]; exact h)
end Gr
def spPairsW (K : PySem.W.Frag) (n : Nat) : Sp := fun vs H Q _ => ∃ (v : V) (g : Gr), vs = [v] /\ GA K H v g /\ g.deep < n /\ g.parts <= 200000 /\ ∀ (D : Addr) (us : List V) (H' : Hp), SB [] H H' -> H D = none -> H' D = some (.lst us) -> Bears K H' Gr.pEnc us g.within -> Q (.ref D) H'
def spPartsOf (K : PySem.W.Frag) (n : Nat) : Sp := fun vs H Q _ => ∃ (v : V) (g : Gr), vs = [v] /\ GA K H v g /\ g.deep < n /\ g.parts <= 200000 /\ ∀ H', SB [] H H' -> Q (.int (g.parts : Nat)) H'
def spDeepOf (K : PySem.W.Frag) (n : Nat) : Sp := fun vs H Q _ => ∃ (v : V) (g : Gr), vs = [v] /\ GA K H v g /\ g.deep < n /\ g.parts <= 200000 /\ ∀ H', SB [] H H' -> Q (.int (g.deep : Nat)) H'
section
variable {P : Program} {w : World} {K : PySem.W.Frag} {mg : Str -> Option Value} {base : Heap} {f : Addr} {fd : FuncData}
theorem none_pairs_within {ps : List Str} {k : Nat} : FnOk P w K mg base CX0 k f fd ps (spPairsW K 0) := none_sp fun vs H Q E ⟨v, l, _, _, h, _⟩ => by omega
theorem none_deep_of {ps : List Str} {k : Nat} : FnOk P w K mg base CX0 k f fd ps (spDeepOf K 0) := none_sp fun vs H Q E ⟨v, l, _, _, h, _⟩ => by omega
end
mutual
def plS : PyData -> Bool
 | .int _ => true
 | .str x => PyData.strOk x
 | .tuple ds => plSs ds
 | _ => false
def plSs : List PyData -> Bool
 | [] => true
 | d :: ds => plS d && plSs ds
end
mutual
theorem plS_lay : ∀ d : PyData, plS d = true -> d.canLay0 = true
 | .int _, _ => by simp [PyData.canLay0]
 | .str _, h => by rw [plS] at h; rw [PyData.canLay0]; exact h
 | .tuple ds, h => by rw [plS] at h; rw [PyData.canLay0]; exact plSs_lay ds h
 | .none, h => by simp [plS] at h
 | .bool _, h => by simp [plS] at h
 | .list _, h => by simp [plS] at h
 | .dict _, h => by simp [plS] at h
theorem plSs_lay : ∀ ds : List PyData, plSs ds = true -> PyData.canLayAll0 ds = true
 | [], _ => by simp [PyData.canLayAll0]
 | d :: ds, h => by
  rw [plSs, Bool.and_eq_true] at h
  rw [PyData.canLayAll0, plS_lay d h.1, plSs_lay ds h.2]; rfl
end
namespace Gr
def tgt (g k : Gr) : Gr := tidy (g.ps ++ k.ps)
theorem tgt_ps (g k : Gr) : (tgt g k).ps = tdy tEnc (g.ps ++ k.ps) := ps_ofPs _
theorem tgt_parts (g k : Gr) : (tgt g k).parts <= g.parts + k.parts := by
 have := tidy_parts (g.ps ++ k.ps)
 rw [tot_append, tot_ps, tot_ps] at this
 exact this
theorem tgt_deep {n : Nat} {g k : Gr} (hg : g.deep <= n) (hk : k.deep <= n) : (tgt g k).deep <= n := tidy_deep fun p hp => by
 rcases List.mem_append.mp hp with h | h
 ·have := g.mem_deep p h; omega
 ·have := k.mem_deep p h; omega
abbrev S (g : Gr) (t : Tr) : Int := sumE g.ps t
theorem S_tgt (g k : Gr) (t : Tr) : S (tgt g k) t = S g t + S k t := by
 show sumE (tgt g k).ps t = _
 rw [tgt_ps, tdy_sum, sumE_append]
theorem S_zero {bs : List (Tr × Int)} {t : Tr} (h : ∀ p ∈ bs, p.1 ≠ t) : sumE bs t = 0 := by
 induction bs with
 | nil => rfl
 | cons p r ih =>
  show (if p.1 = t then p.2 else 0) + sumE r t = 0
  rw [if_neg (h p (mcs ..)), ih fun q hq => h q (mcm _ hq)]; rfl
end Gr
theorem small5 {n : Nat} (h : n <= 1000000) : n < sizeLine := by
 have : sizeLine = 16777216 := sizeLine_eq
 omega
open PySem.Sem in
theorem enumT_new {v : Value} {o : Obj} {Hh : Heap -> Prop} (Bg : Begins v o Hh) :
  Meets (Builtin.«enumerate.__new__» ⟨[.type "enumerate", v], []⟩) (fun _ R s => Hh s.heap /\ R (.ok (.ret (.ref (s.heap.push o).objs.size))) { s with heap := (s.heap.push o).push { cls := .type "enumerate", data := .fields #[.none, .bool false, .ref s.heap.objs.size, rawInt 0, .none, .none] } }) :=
 .of_wp fun prog w A R s h => by
  obtain ⟨hp, g, d, tk, os⟩ := s
  obtain ⟨h1, h⟩ := h
  have hsub := sub_enumerate
  have go : ∀ {A2 : Around} {E2 : Value -> Shared -> Prop} {Q2 : Value -> Shared -> Prop}, Q2 (.ref hp.objs.size) ⟨hp.push o, g, d, tk, os⟩ -> wpAny (model prog w) A2 (pyIter v) Q2 E2 ⟨hp, g, d, tk, os⟩ := fun z => Bg.iter prog w _ _ ⟨hp, g, d, tk, os⟩ _ h1 z
  wp_walk using go
  refine wpAny_stack_any fun stk => wpAny_pure ?_
  split
  ·rename_i cl _ _ _ _ _
   cases (cl == Value.type "enumerate") <;> (wp_walk using go; exact ⟨_, rfl, h⟩)
  ·wp_walk using go; exact ⟨_, rfl, h⟩
section
variable {prog : Program} {w : World} {A : Around} {E : Value -> Shared -> Prop} {s : Shared}
theorem call_enumT {t : Addr} {items : Array Value} {Q : Value -> Shared -> Prop} (hT : s.heap.IsTuple t items)
  (h : ∀ h2, IsEnum h2 (s.heap.objs.size + 1) s.heap.objs.size 0 .none -> h2.IsTupleIter s.heap.objs.size t 0 -> (∀ b ob, s.heap.get? b = some ob -> h2.get? b = some ob) -> Q (.ref (s.heap.objs.size + 1)) { s with heap := h2 }) : wpAny (model prog w) A (call (.type "enumerate") [.ref t]) Q E s := by
 have Bg := begins_tuple t items
 refine callType_new F.called_enumerate (by decide) (F.typeCall_enumerate_1 _) (F.newCall_enumerate_1 _) (fun ob => F.args_object_init_2 ob _) F.entry_enumerate_new (enumT_new Bg) ⟨hT, ?_⟩
 have hz : (s.heap.push { cls := .type "tuple_iterator", data := .fields #[.ref t, .int 0 0] }).objs.size = s.heap.objs.size + 1 := Heap.size_push ..
 show _ /\ _
 rw [hz]
 have he : IsEnum ((s.heap.push { cls := .type "tuple_iterator", data := .fields #[.ref t, .int 0 0] }).push { cls := .type "enumerate", data := .fields #[.none, .bool false, .ref s.heap.objs.size, rawInt 0, .none, .none] }) (s.heap.objs.size + 1) s.heap.objs.size 0 .none := by
  have z := Heap.get?_push_size (s.heap.push { cls := .type "tuple_iterator", data := .fields #[.ref t, .int 0 0] }) (o := { cls := .type "enumerate", data := .fields #[.none, .bool false, .ref s.heap.objs.size, rawInt 0, .none, .none] }) rfl
  rw [hz] at z
  exact z
 exact ⟨⟨_, he, rfl⟩, h _ he ⟨_, Heap.get?_push_of_some _ (Heap.get?_push_size _ rfl), rfl, rfl⟩ fun b ob x => Heap.get?_push_of_some _ (Heap.get?_push_of_some _ x)⟩
end
def IteT (K : PySem.W.Frag) (a : Addr) : It :=
 ⟨fun i H => ∃ (xs : List V) (x : V), SqT K H a xs /\ xs[i]? = some x,
  fun i H v H2 => ∃ T x, v = .ref T /\ H T = none /\ H2 = upd H T (.tup [.int (i : Nat), x]) /\ ∀ xs, SqT K H a xs -> xs[i]? = some x,
  fun i H => ∃ xs : List V, SqT K H a xs /\ xs.length = i⟩
theorem turn_enumT {P : Program} {w : World} {K : PySem.W.Frag} {elts : List Expr} {kk : Nat} {tpos : Pos} (a e it : Addr) (hei : e ≠ it) (hai : a ≠ it) (hea : e ≠ a) :
  Turn P w K (.Tuple elts kk tpos) (IteT K a) [e, it] e (fun i h => (∃ old, IsEnum h e it ((i : Nat) : Int) old) /\ h.IsTupleIter it a i) where
 mem := by simp
 obj := fun i h st b hb => by
  obtain ⟨⟨old, he⟩, o, ho, hc, hd⟩ := st
  rcases (show b = e \/ b = it by simpa using hb) with z | z
  ·rw [z]; exact ⟨_, he, fun v q => nomatch q⟩
  ·rw [z]; exact ⟨o, ho, fun v q => by rw [hd] at q; cases q⟩
 keep := fun i h h2 st k => let ⟨⟨old, he⟩, o, ho, r⟩ := st; ⟨⟨old, k e (by simp) _ he⟩, o, k it (by simp) o ho, r⟩
 item := by
  intro X hP hw hK hc i pins s σ H E I hf st hg
  subst hP hw hK
  obtain ⟨⟨old, he⟩, hit⟩ := st
  obtain ⟨xs, x, hq, hx⟩ := hg
  obtain ⟨its, rv, p, hz⟩ := I.tuple hq
  obtain ⟨u, hu, ru⟩ := rv.get hx
  have hel : e < s.heap.objs.size := Heap.lt_size he
  have hil : it < s.heap.objs.size := by obtain ⟨_, z, _⟩ := hit; exact Heap.lt_size z
  have Dr := Draws.tuple (prog := X.prog) (w := X.w) (A := X.A.in1) (I.ok.hd hc) it a hai its.toArray
  have hlt : i < its.toArray.size := by
   have := (List.getElem?_eq_some_iff.mp hu).1
   simpa using this
  refine wpAny_pyNext_enum_itemD Dr he ⟨hit, p⟩ hlt hei (by simp [hei, hea]) fun y h2 tk hy ho hst hT hsz hk => ?_
  have hyu : y = u := by
   have h3 : its[i]? = some y := by simpa using hy
   rw [hu] at h3; exact (Option.some.inj h3).symm
  subst hyu
  refine ⟨_, rfl, wpAny_letOwnedTupleGo_enum (s := { s with heap := h2, toks := tk + 1 }) ho fun h3 he3 sb => ?_⟩
  have hT2 : h3.get? s.heap.objs.size = some { cls := .type "tuple", data := .seq #[.int i tk, y] } := (sb.2 _ (Nat.ne_of_gt hel)).trans hT
  have nw : ObjOk X.prog X.w (upd H s.heap.objs.size (.tup [.int (i : Nat), x])) h3 s.heap.objs.size (.tup [.int (i : Nat), x]) := ⟨by show 2 <= sizeLine; decide, [.int i tk, y], .cons ⟨_, rfl⟩ (.cons ru .nil), ⟨_, hT2, rfl, _, rfl⟩⟩
  have I1 : Inv X pins σ (upd H s.heap.objs.size (.tup [.int (i : Nat), x])) { s with heap := h3, toks := tk + 1 } := I.turnedNew (ch := [e, it]) (fun b ob hb z => (sb.2 b (fun y => hb (by simp [y]))).trans (hk b ob (fun y => hb (by simp [y])) (fun y => hb (by simp [y])) z)) hf (Nat.le_refl _) nw
  refine ⟨.ref s.heap.objs.size, _, I1, rfl, ⟨_, x, rfl, I.hok.fresh (Nat.le_refl _), rfl, fun ys hy => by rw [I.tuple_inj hy hq]; exact hx⟩, ⟨⟨y, ?_⟩, ?_⟩, fun b hb => ?_⟩
  ·rw [show ((i + 1 : Nat) : Int) = (i : Int) + 1 by omega]; exact he3
  ·obtain ⟨o, ho2, r⟩ := hst.1
   exact ⟨o, (sb.2 it (Ne.symm hei)).trans ho2, r⟩
  ·have hb2 : b < s.heap.objs.size := by
    rcases (show b = e \/ b = it by simpa using hb) with z | z
    ·rw [z]; exact hel
    ·rw [z]; exact hil
   rw [upd_ne (Nat.ne_of_lt hb2)]; exact (hf b hb).1
 done := by
  intro X hP hw hK hc i pins s σ H E I hf st hg
  subst hP hw hK
  obtain ⟨⟨old, he⟩, hit⟩ := st
  obtain ⟨xs, hq, hx⟩ := hg
  obtain ⟨its, rv, p, hz⟩ := I.tuple hq
  obtain ⟨f0, f1, f2, f3, f4, f5⟩ := hf it (by simp)
  have hl := rv.length
  have ht : s.heap.IsTuple a its.toArray := p
  have Dr := Draws.tuple (prog := X.prog) (w := X.w) (A := X.A.in1) (I.ok.hd hc) it a hai its.toArray
  have hn : its.toArray.size = i := by simp; omega
  refine wpAny_pyNext_enum_endD Dr he ⟨by rw [hn]; exact hit, ht⟩ fun h2 eb => ⟨rfl, I.turned (t' := s.toks) (fun b o hb z => eb b o hb z) f0 f1 f3 f4 f5⟩
 self := fun A i s Q E st h => let ⟨⟨_, he⟩, _⟩ := st; wpAny_pyIter_enum he h
def iEnumT (K : PySem.W.Frag) (te : TE) : TI := fun σ H R => te σ H fun v H1 => ∃ a xs, v = .ref a /\ SqT K H1 a xs /\ R (IteT K a) H1
theorem pi_enumT {X : Cx} {ex : Expr} {te : TE} {p pos tpos : Pos} {elts : List Expr} {kk : Nat} (hg : Gl X "enumerate") (hm : X.mg "enumerate" = none) (he : PE X ex te) (hs : starEach [ex] X.env = (false, eval ex X.env) :: starEach [] X.env := by rfl) :
  PI X (.Tuple elts kk tpos) (.Call (.Name "enumerate" p) [ex] [] pos) (iEnumT X.K te) := by
 refine ⟨fun pins s σ H R I h => ?_⟩
 refine Call_ (ld_blt I hg hm boot_enumerate (PyProof.Rows.callWith_type1 (args_cons (thn (he.run pins s σ H _ I h) fun u s1 ⟨v, H1, I1, r1, q1⟩ => args_nil ?_) hs) hs rfl))
 obtain ⟨a, xs, ev, hq, q⟩ := q1
 subst ev
 cases r1
 obtain ⟨its, rv, pt, hz⟩ := I1.tuple hq
 have ht : s1.heap.IsTuple a its.toArray := pt
 have hal : a < s1.heap.objs.size := by obtain ⟨_, z, _⟩ := ht; exact Heap.lt_size z
 refine call_enumT ht fun h2 he2 hit hk => wpAny_pyIter_enum he2 ?_
 have I2 : Inv X pins σ H1 { s1 with heap := h2 } := I1.kept (t' := s1.toks) hk
 refine ⟨s1.heap.objs.size + 1, [s1.heap.objs.size + 1, s1.heap.objs.size], _, _, H1, rfl, I2, turn_enumT a (s1.heap.objs.size + 1) s1.heap.objs.size (Nat.succ_ne_self _) (Nat.ne_of_lt hal) (Nat.ne_of_gt (Nat.lt_succ_of_lt hal)), ⟨⟨.none, he2⟩, hit⟩, fun b hb => ?_, q⟩
 have hle : s1.heap.objs.size <= b := by
  rcases (show b = s1.heap.objs.size + 1 \/ b = s1.heap.objs.size by simpa using hb) with z | z
  ·rw [z]; exact Nat.le_add_right _ _
  ·rw [z]; exact Nat.le_refl _
 exact I1.fpOk hle (I1.hok.fresh hle)
theorem walk_enumT {K : PySem.W.Frag} {a : Addr} {xs : List V} : Walk (IteT K a) xs.length (fun H => SqT K H a xs) (YPair (fun i => some (.int (i : Nat))) (fun i => xs[i]?)) := by
 refine ⟨fun i _ hi q => ⟨xs, xs[i], q, by simp [hi]⟩, fun _ q => ⟨xs, q, rfl⟩, fun i H v H2 _ q y => ?_⟩
 obtain ⟨T, x, h1, h2, h3, h4⟩ := y
 exact ⟨T, .int (i : Nat), x, h1, h2, h3, rfl, h4 xs q⟩
abbrev Pl := List Nat
def plInts (p : Pl) : List PyData := p.map fun n : Nat => .int (n : Int)
def plEnc (p : Pl) : PyData := .tuple (plInts p)
theorem pl_alikes : ∀ p q : Pl, alikeAll (plInts p) (plInts q) = true
 | [], _ => by simp [plInts, alikeAll]
 | _ :: _, [] => by simp [plInts, alikeAll]
 | a :: p, b :: q => by
  have := pl_alikes p q
  show alikeAll (.int a :: plInts p) (.int b :: plInts q) = true
  simp [alikeAll, alike, this]
theorem pl_eqvs : ∀ p q : Pl, PyData.eqvAll (plInts p) (plInts q) = decide (p = q)
 | [], [] => by simp [plInts, PyData.eqvAll]
 | [], _ :: _ => by simp [plInts, PyData.eqvAll]
 | _ :: _, [] => by simp [plInts, PyData.eqvAll]
 | a :: p, b :: q => by
  have ih := pl_eqvs p q
  show PyData.eqvAll (.int a :: plInts p) (.int b :: plInts q) = _
  simp only [PyData.eqvAll, PyData.eqv, ih, ib]
  by_cases h : a = b
  ·subst h; simp
  ·have : ¬ ((a : Int) = (b : Int)) := by omega
   simp [h, this]
instance : Orderly plEnc where
 al a b := by show alike (.tuple _) (.tuple _) = true; rw [alike]; exact pl_alikes a b
 eq a b := by show PyData.eqv (.tuple _) (.tuple _) = _; rw [PyData.eqv]; exact pl_eqvs a b
theorem pl_noList (p : Pl) : noList (plEnc p) = true := by
 have : ∀ p : Pl, noLists (plInts p) = true := by
  intro p
  induction p with
  | nil => simp [plInts, noLists]
  | cons a r ih => show noLists (.int a :: plInts r) = true; simp [noLists, noList, ih]
 show noList (.tuple _) = true
 rw [noList]; exact this p
theorem pl_depths (p : Pl) : PyData.depthAll (plInts p) = 0 := by
 induction p with
 | nil => simp [plInts, PyData.depthAll]
 | cons a r ih => show PyData.depthAll (.int a :: plInts r) = 0; simp [PyData.depthAll, PyData.depth, ih]
theorem pl_depth (p : Pl) : (plEnc p).depth = 1 := by show (PyData.tuple _).depth = 1; simp [PyData.depth, pl_depths]
theorem pl_plain (p : Pl) : plSs (plInts p) = true := by
 induction p with
 | nil => simp [plInts, plSs]
 | cons a r ih => show plSs (.int a :: plInts r) = true; simp [plSs, plS, ih]
theorem PL_ints {K : PySem.W.Frag} {H : Hp} {v : V} {p : Pl} (h : Dp K H v (plEnc p)) : ∃ a, v = .ref a /\ SqT K H a (p.map fun n : Nat => V.int (n : Int)) := by
 have key : ∀ {p : Pl} {xs : List V}, DpAll K H xs (plInts p) -> xs = p.map fun n : Nat => V.int (n : Int) := by
  intro p
  induction p with
  | nil => intro xs h; cases h; rfl
  | cons a r ih =>
   intro xs h
   cases h with
   | cons h1 h2 => cases h1; rw [ih h2]; rfl
 cases h with
 | tup hs ha => rw [key ha] at hs; exact ⟨_, rfl, hs⟩
theorem PL_of {K : PySem.W.Frag} {H : Hp} {a : Addr} {p : Pl} (h : SqT K H a (p.map fun n : Nat => V.int (n : Int))) : Dp K H (.ref a) (plEnc p) := by
 refine Dp.tup h ?_
 have key : ∀ p : Pl, DpAll K H (p.map fun n : Nat => V.int (n : Int)) (plInts p) := by
  intro p
  induction p with
  | nil => exact .nil
  | cons a r ih => exact .cons (.int _) ih
 exact key p
namespace Gr
def bp : Gr -> Nat -> List Pl
 | .nil, _ => []
 | .cons _ g _ r, i => (if g = .nil then [[i]] else (g.bp 0).map (i :: ·)) ++ r.bp (i + 1)
def bpP (p : Tr × Int) (i : Nat) : List Pl := if p.1.2 = .nil then [[i]] else (p.1.2.bp 0).map (i :: ·)
def bps : List (Tr × Int) -> Nat -> List Pl
 | [], _ => []
 | p :: r, i => bpP p i ++ bps r (i + 1)
theorem bp_ps : ∀ (g : Gr) (i : Nat), g.bp i = bps g.ps i
 | .nil, _ => rfl
 | .cons k g m r, i => by show _ ++ r.bp (i + 1) = _ ++ bps r.ps (i + 1); rw [bp_ps r]; rfl
theorem bps_append : ∀ (as bs : List (Tr × Int)) (i : Nat), bps (as ++ bs) i = bps as i ++ bps bs (i + as.length)
 | [], bs, i => by simp [bps]
 | p :: r, bs, i => by
  show bpP p i ++ bps (r ++ bs) (i + 1) = _
  rw [bps_append r bs (i + 1)]
  show _ = (bpP p i ++ bps r (i + 1)) ++ bps bs (i + (r.length + 1))
  rw [List.append_assoc, show i + 1 + r.length = i + (r.length + 1) by omega]
theorem bps_take {bs : List (Tr × Int)} {i : Nat} {p : Tr × Int} (h : bs[i]? = some p) : bps (bs.take (i + 1)) 0 = bps (bs.take i) 0 ++ bpP p i := by
 have hl : i < bs.length := (List.getElem?_eq_some_iff.mp h).1
 rw [List.take_add_one, h, bps_append, List.length_take, Nat.min_eq_left (by omega), Nat.zero_add]
 show _ ++ (bpP p i ++ []) = _
 rw [List.append_nil]
theorem bp_len : ∀ (g : Gr) (i : Nat), (g.bp i).length <= g.parts
 | .nil, _ => Nat.zero_le _
 | .cons k g m r, i => by
  have h1 := bp_len g 0
  have h2 := bp_len r (i + 1)
  show (_ ++ r.bp (i + 1)).length <= 1 + g.parts + r.parts
  rw [List.length_append]
  split
  ·show 1 + _ <= _; omega
  ·rw [List.length_map]; omega
theorem bp_long : ∀ (g : Gr) (i : Nat), ∀ p ∈ g.bp i, p.length <= g.deep
 | .nil, _, p, h => by cases h
 | .cons k g m r, i, p, h => by
  have h1 := bp_long g 0
  have h2 := bp_long r (i + 1)
  show p.length <= max (1 + g.deep) r.deep
  rcases List.mem_append.mp h with h | h
  ·by_cases hg : g = .nil
   ·rw [if_pos hg] at h
    have : p = [i] := by simpa using h
    subst this; show 1 <= _; omega
   ·rw [if_neg hg] at h
    obtain ⟨q, hq, rfl⟩ := List.mem_map.mp h
    have := h1 q hq
    show q.length + 1 <= _; omega
  ·have := h2 p h; omega
end Gr
def spBareP (K : PySem.W.Frag) (n : Nat) : Sp := fun vs H Q _ => ∃ (v : V) (g : Gr), vs = [v] /\ GA K H v g /\ g.deep < n /\ g.deep <= 100 /\ g.parts <= 1000 /\ ∀ (D : Addr) (us : List V) (H' : Hp), SB [] H H' -> H D = none -> H' D = some (.lst us) -> Bears K H' plEnc us (g.bp 0) -> Q (.ref D) H'
section
variable {P : Program} {w : World} {K : PySem.W.Frag} {mg : Str -> Option Value} {base : Heap} {f : Addr} {fd : FuncData}
theorem none_bare_places {ps : List Str} {k : Nat} : FnOk P w K mg base CX0 k f fd ps (spBareP K 0) := none_sp fun vs H Q E ⟨v, l, _, _, h, _⟩ => by omega
end
def Wh (K : PySem.W.Frag) (H : Hp) (v : V) (o : Option Int) : Prop := (∃ i, v = .int i /\ o = some i) \/ (o = none /\ ∃ (n : String) (b1 b2 : Bool), TyX K H v (.type n) /\ kitB n "int" = some b1 /\ (b1 = true -> kitB n "bool" = some b2) /\ (b1 && !b2) = false)
inductive Whs (K : PySem.W.Frag) (H : Hp) : List V -> List (Option Int) -> Prop where
 | nil : Whs K H [] []
 | cons {v : V} {o : Option Int} {vs : List V} {os : List (Option Int)} : Wh K H v o -> Whs K H vs os -> Whs K H (v :: vs) (o :: os)
section
variable {K : PySem.W.Frag} {H H' : Hp}
theorem Whs.length : ∀ {vs : List V} {os : List (Option Int)}, Whs K H vs os -> vs.length = os.length
 | _, _, .nil => rfl
 | _, _, .cons _ h => congrArg (· + 1) h.length
theorem Whs.get : ∀ {vs : List V} {os : List (Option Int)}, Whs K H vs os -> ∀ {i : Nat} {v : V}, vs[i]? = some v -> ∃ o, os[i]? = some o /\ Wh K H v o
 | _, _, .nil, i, v, e => by simp at e
 | _, _, .cons (o := o) h hs, 0, v, e => by
  have : _ = v := Option.some.inj e
  subst this; exact ⟨o, rfl, h⟩
 | _, _, .cons h hs, i + 1, v, e => hs.get (i := i) e
theorem Wh.sb {v : V} {o : Option Int} (h : Wh K H v o) (e : SB [] H H') : Wh K H' v o := by
 rcases h with h | ⟨h, n, b1, b2, ty, k⟩
 ·exact .inl h
 ·exact .inr ⟨h, n, b1, b2, TyX_sb e (fun _ _ => nmn) ty, k⟩
theorem Whs.sb (e : SB [] H H') : ∀ {vs : List V} {os : List (Option Int)}, Whs K H vs os -> Whs K H' vs os
 | _, _, .nil => .nil
 | _, _, .cons h hs => .cons (h.sb e) (Whs.sb e hs)
def plO (p : Pl) : List (Option Int) := p.map fun n : Nat => some (n : Int)
theorem Whs.pl (K : PySem.W.Frag) (H : Hp) : ∀ p : Pl, Whs K H (p.map fun n : Nat => V.int (n : Int)) (plO p)
 | [] => .nil
 | n :: r => .cons (.inl ⟨_, rfl, rfl⟩) (Whs.pl K H r)
end
def stp (g : Gr) : Option Int -> Option Tr
 | none => none
 | some n => if 0 <= n then (g.ps[n.toNat]?).map (·.1) else none
def lk : Tr -> List (Option Int) -> Option Tr
 | t, [] => some t
 | t, o :: r => (stp t.2 o).bind fun u => lk u r
theorem lk_append : ∀ (t : Tr) (as bs : List (Option Int)), lk t (as ++ bs) = (lk t as).bind fun u => lk u bs
 | t, [], bs => rfl
 | t, o :: r, bs => by
  show (stp t.2 o).bind (fun u => lk u (r ++ bs)) = ((stp t.2 o).bind fun u => lk u r).bind fun u => lk u bs
  cases stp t.2 o with
  | none => rfl
  | some u => exact lk_append u r bs
theorem lk_none {t : Tr} {os : List (Option Int)} {i : Nat} {o : Option Int} {u : Tr} (h1 : lk t (os.take i) = some u) (h2 : os[i]? = some o) (h3 : stp u.2 o = none) : lk t os = none := by
 have hl : i < os.length := (List.getElem?_eq_some_iff.mp h2).1
 have e : os = os.take i ++ o :: os.drop (i + 1) := by
  have := List.drop_eq_getElem_cons hl
  rw [(List.getElem?_eq_some_iff.mp h2).2] at this
  rw [<- this, List.take_append_drop]
 rw [e, lk_append, h1]
 show (stp u.2 o).bind _ = none
 rw [h3]; rfl
theorem lk_next {t : Tr} {os : List (Option Int)} {i : Nat} {o : Option Int} {u x : Tr} (h1 : lk t (os.take i) = some u) (h2 : os[i]? = some o) (h3 : stp u.2 o = some x) : lk t (os.take (i + 1)) = some x := by
 rw [List.take_add_one, h2, lk_append, h1]
 show (stp u.2 o).bind _ = some x
 rw [h3]; rfl
def spTreeAt (K : PySem.W.Frag) (C : Addr) : Sp := fun vs H Q E => ∃ (v : V) (g : Gr) (a : Addr) (xs : List V) (os : List (Option Int)), vs = [v, .ref a] /\ GA K H v g /\ SqT K H a xs /\ Whs K H xs os /\
 (∀ t, os ≠ [] -> lk ("", g) os = some t -> ∀ (x : V) (H' : Hp), SB [] H H' -> Dp K H' x (Gr.tEnc t) -> Q x H') /\ ((os = [] \/ lk ("", g) os = none) -> ∀ H', SB [] H H' -> E (.ref C) none H')
mutual
inductive Tg (K : PySem.W.Frag) (H : Hp) : V -> PyData -> Prop
 | int (i : Int) : Tg K H (.int i) (.int i)
 | str (z : Str) : z.length <= 1000 -> Tg K H (.str z) (.str z)
 | tup {a : Addr} {xs : List V} {ds : List PyData} : SqT K H a xs -> TgAll K H xs ds -> Tg K H (.ref a) (.tuple ds)
 | oth {v : V} {n : String} : TyX K H v (.type n) -> kitB n "tuple" = some false -> kitB n "str" = some false -> (kitB n "int" = some false \/ n = "bool") -> Tg K H v .none
inductive TgAll (K : PySem.W.Frag) (H : Hp) : List V -> List PyData -> Prop
 | nil : TgAll K H [] []
 | cons {v : V} {vs : List V} {d : PyData} {ds : List PyData} : Tg K H v d -> TgAll K H vs ds -> TgAll K H (v :: vs) (d :: ds)
end
mutual
def strip : PyData -> PyData
 | .int i => .int i
 | .tuple ds => .tuple (strips ds)
 | _ => .none
def strips : List PyData -> List PyData
 | [] => []
 | d :: r => strip d :: strips r
end
theorem many_strip (d : PyData) : manyD (strip d) = manyD d := by cases d <;> simp [strip, manyD]
section
variable {K : PySem.W.Frag} {H H' : Hp}
mutual
theorem Tg.th : ∀ {v : V} {d : PyData}, Tg K H v d -> Th K [] H v (strip d)
 | _, _, .int i => by rw [strip]; exact .int i
 | _, _, .str z _ => by rw [strip] <;> first | exact .oth (.base (.str z)) (by decide +kernel) (.inl (by decide +kernel)) (fun _ _ => nmn) | simp
 | _, _, .tup hs ha => by rw [strip]; exact .tup hs (TgAll.th ha)
 | _, _, .oth ty k1 _ k2 => by rw [strip] <;> first | exact .oth ty k1 k2 (fun _ _ => nmn) | simp
theorem TgAll.th : ∀ {vs : List V} {ds : List PyData}, TgAll K H vs ds -> ThAll K [] H vs (strips ds)
 | _, _, .nil => by rw [strips]; exact .nil
 | _, _, .cons h t => by rw [strips]; exact .cons (Tg.th h) (TgAll.th t)
end
mutual
theorem Tg_sb (e : SB [] H H') : ∀ {v : V} {d : PyData}, Tg K H v d -> Tg K H' v d
 | _, _, .int i => .int i
 | _, _, .str z hz => .str z hz
 | _, _, .tup hs ha => .tup (e.sqT hs) (TgAll_sb e ha)
 | _, _, .oth ty k0 k1 k2 => .oth (TyX_sb e (fun _ _ => nmn) ty) k0 k1 k2
theorem TgAll_sb (e : SB [] H H') : ∀ {vs : List V} {ds : List PyData}, TgAll K H vs ds -> TgAll K H' vs ds
 | _, _, .nil => .nil
 | _, _, .cons h t => .cons (Tg_sb e h) (TgAll_sb e t)
end
theorem TgAll.length : ∀ {vs : List V} {ds : List PyData}, TgAll K H vs ds -> vs.length = ds.length
 | _, _, .nil => rfl
 | _, _, .cons _ t => by rw [List.length_cons, List.length_cons, TgAll.length t]
theorem TgAll.get : ∀ {vs : List V} {ds : List PyData} {i : Nat} {v : V}, TgAll K H vs ds -> vs[i]? = some v -> ∃ d, ds[i]? = some d /\ Tg K H v d
 | _, _, _, _, .nil, e => by simp at e
 | _, _, 0, _, .cons h t, e => by simp at e; subst e; exact ⟨_, rfl, h⟩
 | _, _, i + 1, v, .cons h t, e => by
  obtain ⟨d, h1, h2⟩ := TgAll.get (i := i) (v := v) t (by simpa using e)
  exact ⟨d, by simpa using h1, h2⟩
theorem Tg.ty {v : V} {d : PyData} (h : Tg K H v d) : ∃ n b, TyX K H v (.type n) /\ kitB n "tuple" = some b /\ (b = true -> ∃ a xs ds, v = .ref a /\ d = .tuple ds /\ SqT K H a xs /\ TgAll K H xs ds) /\ (b = false -> ∀ ds, d ≠ .tuple ds) := by
 cases h with
 | int i => exact ⟨"int", false, .base (.int i), by decide +kernel, fun z => (nomatch z), fun _ ds z => nomatch z⟩
 | str z hz => exact ⟨"str", false, .base (.str z), by decide +kernel, fun z => (nomatch z), fun _ ds z => nomatch z⟩
 | tup hs ha => exact ⟨"tuple", true, (SqT_ty hs), by decide +kernel, fun _ => ⟨_, _, _, rfl, rfl, hs, ha⟩, fun z => (nomatch z)⟩
 | oth ty k1 _ k2 => exact ⟨_, false, ty, k1, fun z => (nomatch z), fun _ ds z => nomatch z⟩
theorem Tg.txt {v : V} {d : PyData} (h : Tg K H v d) : ∃ n b, TyX K H v (.type n) /\ kitB n "str" = some b /\ (b = true -> ∃ z, v = .str z /\ d = .str z /\ z.length <= 1000) /\ (b = false -> ∀ z, d ≠ .str z) := by
 cases h with
 | int i => exact ⟨"int", false, .base (.int i), by decide +kernel, fun z => (nomatch z), fun _ ds z => nomatch z⟩
 | str z hz => exact ⟨"str", true, .base (.str z), by decide +kernel, fun _ => ⟨z, rfl, rfl, hz⟩, fun z => (nomatch z)⟩
 | tup hs ha => exact ⟨"tuple", false, (SqT_ty hs), by decide +kernel, fun z => (nomatch z), fun _ ds z => nomatch z⟩
 | oth ty _ k1 k2 => exact ⟨_, false, ty, k1, fun z => (nomatch z), fun _ ds z => nomatch z⟩
end
instance (z : Str) : Decidable (NameOk z) := inferInstanceAs (Decidable (_ /\ _ /\ _))
def nameD : PyData -> Bool
 | .str z => decide (NameOk z)
 | _ => false
mutual
def groveD : PyData -> Bool
 | .tuple ds => grPs ds && risingD (ds.map exp0)
 | _ => false
def grPs : List PyData -> Bool
 | [] => true
 | d :: ds => grP d && grPs ds
def grP : PyData -> Bool
 | .tuple ds => grP2 ds
 | _ => false
def grP2 : List PyData -> Bool
 | [] => false
 | t :: r => treeD t && ladP3 r
def treeD : PyData -> Bool
 | .tuple ds => trD2 ds
 | _ => false
def trD2 : List PyData -> Bool
 | [] => false
 | k :: r => nameD k && trD3 r
def trD3 : List PyData -> Bool
 | [] => false
 | g :: r => groveD g && r.isEmpty
end
theorem ladP3_iff {r : List PyData} (h : ladP3 r = true) : ∃ i, r = [.int i] /\ (1 : Int) <= i := by
 match r, h with
 | [], h => simp [ladP3] at h
 | .int i :: [], h => simp [ladP3, manyD] at h; exact ⟨i, rfl, h⟩
 | .int i :: _ :: _, h => simp [ladP3] at h
 | .none :: _, h => simp [ladP3, manyD] at h
 | .bool _ :: _, h => simp [ladP3, manyD] at h
 | .str _ :: _, h => simp [ladP3, manyD] at h
 | .list _ :: _, h => simp [ladP3, manyD] at h
 | .dict _ :: _, h => simp [ladP3, manyD] at h
 | .tuple _ :: _, h => simp [ladP3, manyD] at h
theorem nameD_iff {d : PyData} (h : nameD d = true) : ∃ z, d = .str z /\ NameOk z := by
 cases d with
 | str z => exact ⟨z, rfl, of_decide_eq_true h⟩
 | _ => simp [nameD] at h
mutual
theorem groveD_gr : ∀ d : PyData, groveD d = true -> ∃ g : Gr, d = g.enc
 | .tuple ds, h => by
  rw [groveD, Bool.and_eq_true] at h
  obtain ⟨g, e⟩ := grPs_enc ds h.1
  exact ⟨g, by rw [e]; rfl⟩
 | .none, h => by simp [groveD] at h
 | .bool _, h => by simp [groveD] at h
 | .int _, h => by simp [groveD] at h
 | .str _, h => by simp [groveD] at h
 | .list _, h => by simp [groveD] at h
 | .dict _, h => by simp [groveD] at h
theorem grPs_enc : ∀ ds : List PyData, grPs ds = true -> ∃ g : Gr, ds = g.encs
 | [], _ => ⟨.nil, rfl⟩
 | d :: ds, h => by
  rw [grPs, Bool.and_eq_true] at h
  obtain ⟨r, er⟩ := grPs_enc ds h.2
  obtain ⟨t, i, ed, he⟩ := grP_enc d h.1
  exact ⟨.cons t.1 t.2 i r, by rw [er, ed]; rfl⟩
theorem grP_enc : ∀ d : PyData, grP d = true -> ∃ (t : Tr) (i : Int), d = .tuple [Gr.tEnc t, .int i] /\ (1 : Int) <= i
 | .tuple ds, h => by
  rw [grP] at h
  obtain ⟨e, i, ed, he⟩ := grP2_enc ds h
  exact ⟨e, i, by rw [ed], he⟩
 | .none, h => by simp [grP] at h
 | .bool _, h => by simp [grP] at h
 | .int _, h => by simp [grP] at h
 | .str _, h => by simp [grP] at h
 | .list _, h => by simp [grP] at h
 | .dict _, h => by simp [grP] at h
theorem grP2_enc : ∀ ds : List PyData, grP2 ds = true -> ∃ (t : Tr) (i : Int), ds = [Gr.tEnc t, .int i] /\ (1 : Int) <= i
 | [], h => by simp [grP2] at h
 | d :: r, h => by
  rw [grP2, Bool.and_eq_true] at h
  obtain ⟨t, et⟩ := treeD_tr d h.1
  obtain ⟨i, er, hi⟩ := ladP3_iff h.2
  exact ⟨t, i, by rw [et, er], hi⟩
theorem treeD_tr : ∀ d : PyData, treeD d = true -> ∃ t : Tr, d = Gr.tEnc t
 | .tuple ds, h => by
  rw [treeD] at h
  obtain ⟨t, et⟩ := trD2_enc ds h
  exact ⟨t, by rw [et]; rfl⟩
 | .none, h => by simp [treeD] at h
 | .bool _, h => by simp [treeD] at h
 | .int _, h => by simp [treeD] at h
 | .str _, h => by simp [treeD] at h
 | .list _, h => by simp [treeD] at h
 | .dict _, h => by simp [treeD] at h
theorem trD2_enc : ∀ ds : List PyData, trD2 ds = true -> ∃ t : Tr, ds = [.str t.1, t.2.enc]
 | [], h => by simp [trD2] at h
 | d :: r, h => by
  rw [trD2, Bool.and_eq_true] at h
  obtain ⟨z, ez, _⟩ := nameD_iff h.1
  obtain ⟨g, eg⟩ := trD3_enc r h.2
  exact ⟨(z, g), by rw [ez, eg]⟩
theorem trD3_enc : ∀ ds : List PyData, trD3 ds = true -> ∃ g : Gr, ds = [g.enc]
 | [], h => by simp [trD3] at h
 | d :: r, h => by
  rw [trD3, Bool.and_eq_true] at h
  obtain ⟨g, eg⟩ := groveD_gr d h.1
  have : r = [] := by cases r with | nil => rfl | cons _ _ => simp at h
  exact ⟨g, by rw [eg, this]⟩
end
section
variable {K : PySem.W.Frag} {H : Hp}
theorem GA_tg {C : Int} : ∀ (g : Gr) {vs : List V}, g.Ok C -> DpAll K H vs g.encs -> TgAll K H vs g.encs
 | .nil, vs, _, h => by cases h; exact .nil
 | .cons k g m r, vs, ho, h => by
  cases h with
  | cons h1 h2 =>
   refine .cons ?_ (GA_tg r ho.2.2.2.2.1 h2)
   cases h1 with
   | tup hs ha =>
    cases ha with
    | cons h3 h4 =>
     cases h4 with
     | cons h5 h6 =>
      cases h6; cases h5
      refine .tup hs (.cons ?_ (.cons (.int _) .nil))
      cases h3 with
      | tup hs2 hb =>
       cases hb with
       | cons h7 h8 =>
        cases h8 with
        | cons h9 h10 =>
         cases h10; cases h7
         cases h9 with
         | tup hs3 hc => exact .tup hs2 (.cons (.str _ (by have := ho.1.2.1; simp [Str.length]; simp at this; omega)) (.cons (.tup hs3 (GA_tg g ho.2.1 hc)) .nil))
theorem Tg_ga : ∀ (g : Gr) {vs : List V}, TgAll K H vs g.encs -> DpAll K H vs g.encs
 | .nil, vs, h => by cases h; exact .nil
 | .cons k g m r, vs, h => by
  cases h with
  | cons h1 h2 =>
   refine .cons ?_ (Tg_ga r h2)
   cases h1 with
   | tup hs ha =>
    cases ha with
    | cons h3 h4 =>
     cases h4 with
     | cons h5 h6 =>
      cases h6; cases h5
      refine .tup hs (.cons ?_ (.cons (.int _) .nil))
      cases h3 with
      | tup hs2 hb =>
       cases hb with
       | cons h7 h8 =>
        cases h8 with
        | cons h9 h10 =>
         cases h10; cases h7
         cases h9 with
         | tup hs3 hc => exact .tup hs2 (.cons (.str _) (.cons (.tup hs3 (Tg_ga g hc)) .nil))
end
def spName (K : PySem.W.Frag) : Sp := fun vs H Q _ => ∃ (v : V) (d : PyData), vs = [v] /\ Tg K H v d /\ ∀ H', SB [] H H' -> Q (.bl (nameD d)) H'
def spIsTree (K : PySem.W.Frag) (n : Nat) : Sp := fun vs H Q _ => ∃ (v : V) (d : PyData), vs = [v] /\ Tg K H v d /\ d.depth < n /\ d.depth <= 80 /\ wide d <= 1000 /\ ∀ H', SB [] H H' -> Q (.bl (treeD d)) H'
def spIsGrove (K : PySem.W.Frag) (n : Nat) : Sp := fun vs H Q _ => ∃ (v : V) (d : PyData), vs = [v] /\ Tg K H v d /\ d.depth < n /\ d.depth <= 80 /\ wide d <= 1000 /\ ∀ H', SB [] H H' -> Q (.bl (groveD d)) H'
def spPairsQ (K : PySem.W.Frag) (tp : Bool) (n : Nat) : Sp := fun vs H Q _ => ∃ (a : Addr) (xs : List V) (ds : List PyData), vs = [.ref a] /\ (if tp = true then SqT K H a xs else SqL K H a xs) /\ TgAll K H xs ds /\ PyData.depthAll ds < n /\ PyData.depthAll ds <= 79 /\ wide (.tuple ds) <= 1000 /\ ∀ H', SB [] H H' -> Q (.bl (grPs ds)) H'
def spRunOf (K : PySem.W.Frag) : Sp := fun vs H Q _ => ∃ (z y : Str) (k : Nat), vs = [.str z, .int (k : Int), .str y] /\ z.length <= 100000 /\ k <= z.length /\ ∀ e : Nat, k <= e -> e <= z.length -> (∀ j c, k <= j -> j < e -> z.cps.toList[j]? = some c -> c ∈ y.cps.toList) -> (∀ c, z.cps.toList[e]? = some c -> c ∉ y.cps.toList) -> Q (.str (cutS z (some (k : Int)) (some (e : Int)))) H
theorem mem_abc (c : Nat) : c ∈ abc.cps.toList ↔ 97 <= c /\ c <= 122 := by
 have e : abc.cps.toList = (List.range 26).map (· + 97) := by decide +kernel
 rw [e, List.mem_map]
 constructor
 ·rintro ⟨x, hx, rfl⟩
  have := List.mem_range.mp hx
  omega
 ·intro h
  exact ⟨c - 97, List.mem_range.mpr (by omega), by omega⟩
theorem len_cps (z : Str) : z.cps.toList.length = z.length := by simp [Str.length]
theorem cut0 (z : Str) {e : Nat} (he : e <= z.length) : (cutS z (some ((0 : Nat) : Int)) (some (e : Int))).cps.toList = z.cps.toList.take e := by
 unfold cutS
 rw [HT.sIx_nat, HT.sIx_nat]
 simp [Nat.min_eq_left he]
theorem run_name {z : Str} {e : Nat} (h1 : 1 <= z.length) (h8 : z.length <= 8) (he : e <= z.length) (hin : ∀ j c, 0 <= j -> j < e -> z.cps.toList[j]? = some c -> c ∈ abc.cps.toList) (hout : ∀ c, z.cps.toList[e]? = some c -> c ∉ abc.cps.toList) :
  decide (V.str (cutS z (some ((0 : Nat) : Int)) (some (e : Int))) = V.str z) = nameD (.str z) := by
 have hl := len_cps z
 rw [Bool.eq_iff_iff, decide_eq_true_iff, nameD, decide_eq_true_iff]
 constructor
 ·intro h
  injection h with h
  have h2 := cut0 z he
  rw [h] at h2
  have h3 : z.cps.toList.length = min e z.cps.toList.length := by
   have := congrArg List.length h2
   rwa [List.length_take] at this
  refine ⟨by omega, by omega, fun c hc => ?_⟩
  obtain ⟨j, hj⟩ := List.mem_iff_getElem?.mp hc
  have hj2 := (List.getElem?_eq_some_iff.mp hj).1
  exact (mem_abc c).mp (hin j c (Nat.zero_le _) (by omega) hj)
 ·rintro ⟨_, _, hall⟩
  have e1 : e = z.length := by
   rcases Nat.lt_or_ge e z.length with h | h
   ·obtain ⟨c, hc⟩ : ∃ c, z.cps.toList[e]? = some c := ⟨_, List.getElem?_eq_getElem (by omega)⟩
    exact absurd ((mem_abc c).mpr (hall c (List.mem_of_getElem? hc))) (hout c hc)
   ·omega
  have h2 := cut0 z he
  rw [e1, <- hl, List.take_length] at h2
  congr 1
  have h3 : ∀ a b : Str, a.cps.toList = b.cps.toList -> a = b := by
   intro a b hab
   cases a; cases b
   congr 1
   exact Array.toList_inj.mp hab
  rw [e1, <- hl]
  exact h3 _ _ h2
theorem name_out {z : Str} (h : ¬ (1 <= z.length /\ z.length <= 8)) : nameD (.str z) = false := by
 have hl := len_cps z
 rw [nameD]
 exact decide_eq_false fun ⟨h1, h2, _⟩ => h ⟨by omega, by omega⟩
theorem nameD_ok {z : Str} (h : NameOk z) : nameD (.str z) = true := decide_eq_true h
theorem treeD_of {t : Tr} (h0 : NameOk t.1) (h : groveD t.2.enc = true) : treeD (Gr.tEnc t) = true := by
 rw [Gr.tEnc, treeD, trD2, trD3, nameD_ok h0, h]; rfl
theorem grP_of {t : Tr} {m : Int} (h0 : NameOk t.1) (h : groveD t.2.enc = true) (hm : 1 <= m) : grP (Gr.pEnc (t, m)) = true := by
 show grP (.tuple [Gr.tEnc t, .int m]) = true
 rw [grP, grP2, ladP3, treeD_of h0 h]
 simp [manyD, hm]
theorem groveD_ok {C : Int} : ∀ {g : Gr}, g.Ok C -> groveD g.enc = true
 | .nil, _ => by decide +kernel
 | .cons k g m r, ⟨h0, h1, h2, h3, h4, h5⟩ => by
  have a1 := groveD_ok h1
  have a2 := groveD_ok h4
  rw [Gr.enc, groveD, Bool.and_eq_true] at a2
  have hp : grP (Gr.pEnc ((k, g), m)) = true := grP_of h0 a1 h2
  have e : (Gr.cons k g m r).encs = Gr.pEnc ((k, g), m) :: r.encs := rfl
  rw [Gr.enc, groveD, e, grPs, hp, a2.1, Bool.true_and, Bool.true_and, List.map_cons]
  cases r with
  | nil => rfl
  | cons k2 g2 m2 r2 =>
   have hlt : dataLt (Gr.tEnc (k, g)) (Gr.tEnc (k2, g2)) = true := h5 ((k2, g2), m2) (mcs ..)
   have e2 : (Gr.cons k2 g2 m2 r2).encs = Gr.pEnc ((k2, g2), m2) :: r2.encs := rfl
   have a3 := a2.2
   rw [e2, List.map_cons] at a3 ⊢
   show (dataLt (Gr.tEnc (k, g)) (Gr.tEnc (k2, g2)) :: ltsD _).all id = true
   rw [List.all_cons, show id (dataLt (Gr.tEnc (k, g)) (Gr.tEnc (k2, g2))) = true from hlt, Bool.true_and]
   exact a3
theorem wides_gr : ∀ g : Gr, wides g.encs <= 2 + g.parts /\ g.encs.length <= g.parts
 | .nil => ⟨by show wides [] <= _; rw [wides]; omega, Nat.le_refl _⟩
 | .cons k g m r => by
  obtain ⟨h1, h2⟩ := wides_gr g
  obtain ⟨h3, h4⟩ := wides_gr r
  have e : (Gr.cons k g m r).encs = Gr.pEnc ((k, g), m) :: r.encs := rfl
  have e2 : wide (Gr.pEnc ((k, g), m)) <= 2 + g.parts := by
   show wide (.tuple [.tuple [.str k, .tuple g.encs], .int m]) <= _
   simp only [wide, wides, List.length_cons, List.length_nil]
   omega
  rw [e, wides, List.length_cons]
  show _ <= 2 + (1 + g.parts + r.parts) /\ _ <= 1 + g.parts + r.parts
  omega
section
variable {K : PySem.W.Frag} {H : Hp} {C : Int}
theorem GA_thing {g : Gr} {v : V} (ho : g.Ok C) (h : GA K H v g) : Tg K H v g.enc := by
 cases (h : Dp K H v (.tuple g.encs)) with
 | tup hs ha => exact .tup hs (GA_tg g ho ha)
theorem name_short {z : Str} (h : NameOk z) : z.length <= 1000 := by
 have := h.2.1
 rw [len_cps] at this
 omega
end
theorem atI_end {α : Type} {xs : List α} {v : α} (h : xs[xs.length - 1]? = some v) : atI xs (-1) = some v := by
 rcases List.eq_nil_or_concat xs with e | ⟨ys, u, e⟩
 ·subst e; simp at h
 ·rw [List.concat_eq_append] at e
  subst e
  have : u = v := by simpa using h
  subst this
  exact atI_last ys u
theorem depthAll_app : ∀ as bs : List PyData, PyData.depthAll (as ++ bs) = max (PyData.depthAll as) (PyData.depthAll bs)
 | [], bs => by rw [List.nil_append, PyData.depthAll]; omega
 | a :: r, bs => by rw [List.cons_append, PyData.depthAll, PyData.depthAll, depthAll_app r bs]; omega
theorem SB.setD {H : Hp} {p : Addr} {kvs : List (Key × V)} {ps : List Addr} (h : H p = some (.dK kvs)) (hp : p ∈ ps) (o : HO) : SB ps H (upd H p o) := by
 refine ⟨fun b u e n => ?_, fun b u e => ?_, fun b v u e => ?_, fun b e => ?_⟩
 ·rw [upd_ne (fun (z : b = p) => n (by rw [z]; exact hp))]; exact e
 ·rw [upd_ne (fun (z : b = p) => by subst z; rw [h] at e; cases e)]; exact e
 ·rw [upd_ne (fun (z : b = p) => by subst z; rw [h] at e; cases e)]; exact e
 ·by_cases q : b = p
  ·subst q; rw [upd_same] at e; cases e
  ·rw [upd_ne q] at e; exact e
def met (xs : List Str) : Nat -> List Str
 | 0 => []
 | i + 1 => if (met xs i).any (· == xs.getD i Str.empty) = true then met xs i else met xs i ++ [xs.getD i Str.empty]
theorem met_le (xs : List Str) : ∀ i, (met xs i).length <= i
 | 0 => Nat.le_refl _
 | i + 1 => by
  have := met_le xs i
  unfold met
  split
  ·omega
  ·rw [List.length_append]; simp; omega
theorem met_any (xs : List Str) (i : Nat) (k : Str) : (met xs (i + 1)).any (· == k) = ((met xs i).any (· == k) || decide (k = xs.getD i Str.empty)) := by
 rw [met]
 by_cases e : k = xs.getD i Str.empty
 ·subst e
  split
  ·rename_i h; rw [h]; simp
  ·simp
 ·rw [decide_eq_false e, Bool.or_false]
  split
  ·rfl
  ·rw [List.any_append]
   have : ([xs.getD i Str.empty].any (· == k)) = false := by
    simp only [List.any_cons, List.any_nil, Bool.or_false, beq_eq_false_iff_ne]
    exact fun z => e z.symm
   rw [this, Bool.or_false]
theorem met_len (xs : List Str) (i : Nat) : (met xs (i + 1)).length = if (met xs i).any (· == xs.getD i Str.empty) = true then (met xs i).length else (met xs i).length + 1 := by
 rw [met]; split <;> simp
abbrev SetOfS (P : Program) (w : World) (h : Heap) (a : Addr) (L : List Str) : Prop := h.SetOf (PySem.strKind P w) a (fun k => L.any (· == k)) L.length
theorem SetOfS.keep {P : Program} {w : World} {h h' : Heap} {a : Addr} {L : List Str} (S : SetOfS P w h a L) (k : ∀ o, h.get? a = some o -> h'.get? a = some o) : SetOfS P w h' a L := by
 obtain ⟨o, es, ep, t, ho, r⟩ := S; exact ⟨o, es, ep, t, k o ho, r⟩
section
variable {P : Program} {w : World} {A : Around}
theorem met_loop {R : Result -> Shared -> Prop} {I : Addr} {fp wr : List Addr} {G : Array GenState -> Array GenState -> Prop} {n : Nat} {Pv : Nat -> Value -> Prop} {St : Nat -> Shared -> Prop} (W : WalksS P w A.in1 I fp wr G n Pv St) (S : Addr) (hSf : S ∉ fp) (xs : List Str) (hn : n + 1 < scanBound)
  (hval : ∀ i v, Pv i v -> ∃ t, v = .str (xs.getD i Str.empty) t) : ∀ (k i : Nat) (s : Shared), k + i = n -> St i s -> SetOfS P w s.heap S (met xs i) ->
   (∀ s', Moved (S :: wr) G s s' -> SetOfS P w s'.heap S (met xs n) -> R (.ok (.ret .none)) s') -> codeAny (model P w) A (.builtin "set.update.loop" ⟨[.ref S, .ref I], []⟩) R s := by
 have out : S ∉ wr := fun z => hSf (W.sub _ z)
 have up : ∀ b ∈ wr, b ∈ S :: wr := fun b z => mcm _ z
 intro k
 induction k with
 | zero =>
  intro i s e st hS hR
  rw [Nat.zero_add] at e; subst e
  refine codeAny_builtin F.entry_set_update_loop (by
   rw [Around.under_plainId F.plain_set_update_loop _]
   show wpAny _ A.in1 (pyNext (.ref I) >>= _) _ _ s
   refine wpAny_bind (W.done s _ _ st fun s' hm => ?_)
   show wpAny _ A.in1 (ret Value.none) _ _ s'
   exact wpAny_pure (hR s' (hm.mono up) (hS.keep fun o e => hm.heap S o out e)))
 | succ k ih =>
  intro i s e st hS hR
  have lt : i < n := by omega
  refine codeAny_builtin F.entry_set_update_loop (by
   rw [Around.under_plainId F.plain_set_update_loop _]
   show wpAny _ A.in1 (pyNext (.ref I) >>= _) _ _ s
   refine wpAny_bind (W.item i s _ _ lt st fun v s' hP st' hm => ?_)
   obtain ⟨t, rfl⟩ := hval i v hP
   have hS' : SetOfS P w s'.heap S (met xs i) := hS.keep fun o e => hm.heap S o out e
   show wpAny _ A.in1 (holding [Value.str (xs.getD i Str.empty) t] (setAdd S (.str (xs.getD i Str.empty) t)) >>= _) _ _ s'
   refine wpAny_bind (wpAny_holding ?_)
   unfold setAdd
   refine wpAny_holding (wpAny_bind ((PySem.strKind P w).pyHash (k := xs.getD i Str.empty) (PySem.Froz.is_str _ _) ?_))
   have room : (met xs i).length + 1 < scanBound := by have := met_le xs i; omega
   refine wpAny_setAddHashed_of (knd := PySem.strKind P w) (s := { s' with toks := s'.toks + 1 }) (PySem.Froz.is_str _ _) rfl hS' room fun h' hsb hS2 => ?_
   have hSi : SetOfS P w h' S (met xs (i + 1)) := SetOf_congr hS2 (fun k' => (met_any xs i k').symm) (met_len xs i).symm
   refine wpAny_pure ⟨plainId_quiet F.plain_set_update_loop _, ih (i + 1) _ (by omega) (W.frame _ s' _ _ st' (Nat.le_succ _) fun b hb o e => ?_) hSi fun s'' hm'' hS'' => ?_⟩
   ·rw [hsb.2 b fun z : b = S => hSf (z ▸ hb)]; exact e
   ·refine hR s'' (Moved.trans W.gtrans ((hm.mono up).then_heap (Nat.le_succ _) fun b o hb e => ?_) hm'') hS''
    rw [hsb.2 b fun z : b = S => hb (z ▸ mcs)]; exact e)
abbrev eo (led : Bool) : Obj := { cls := .type "set", dict := none, data := .set #[] 0 (.fresh 0 0 led) }
set_option maxHeartbeats 8000000 in
theorem call_setS {E : Value -> Shared -> Prop} {s : Shared} {l : Addr} {its : Array Value} {xs : List Str} {Q : Value -> Shared -> Prop} (hh : A.handled = none) (hl : s.heap.IsList l its) (hi : StrsAre its.toList xs) (hb : its.size + 1 < scanBound)
  (h : ∀ (h' : Heap) (tk : Nat), SetOfS P w h' s.heap.objs.size (met xs its.size) -> (∀ b o, b < s.heap.objs.size -> s.heap.get? b = some o -> h'.get? b = some o) -> Q (.ref s.heap.objs.size) { s with heap := h', toks := tk }) :
  wpAny (model P w) A (call (.type "set") [.ref l]) Q E s := by
 obtain ⟨c, tl', hmro⟩ := PySem.F.called_set.mro
 have k1 := PySem.F.called_set.made; have k2 := PySem.F.called_set.sub
 refine wpAny_call (codeAny_of_tree (by
  show wpAny _ _ (callAny (.type "set") _) _ _ _
  refine wpAny_pure ⟨Code.quiet_builtin _ (by decide +kernel), codeAny_builtin PySem.F.entry_type_call ?_⟩
  rw [Around.under_plain (weight_type_call_type "set" [.ref l] []) rfl]
  have k3 := PySem.F.called_set.notType; have k4 := PySem.F.called_set.canCreate; have k5 := PySem.F.typeCall_set_1 (.ref l)
  repeat (any_goals (first | assumption | wp_step))
  refine codeAny_mono (code_set_new_1 (.ref l) (E := E) (Q₁ := fun ob z => ∃ led : Bool, ob = .ref s.heap.objs.size /\ z = { s with heap := s.heap.push (eo led) }) fun led => ⟨led, rfl, rfl⟩) fun r z hr => ?_
  cases r with
  | error e => exact hr
  | ok fl =>
  cases fl with
  | ret ob =>
   obtain ⟨led, rfl, rfl⟩ := hr
   have at0 : (s.heap.push (eo led)).get? s.heap.objs.size = some (eo led) := Heap.get?_push_size _ rfl
   have ty0 : Shared.TypeIs { s with heap := s.heap.push (eo led) } (.ref s.heap.objs.size) "set" := ⟨_, at0, rfl⟩
   have k6 := PySem.F.called_set.init.lookup; have k7 := PySem.F.called_set.init.bind (.ref s.heap.objs.size)
   repeat (any_goals (first | assumption | wp_step))
   refine codeAny_mono (codeAny_call_builtin (R := wants (fun r s₂ => r = .none /\ ∃ h' tk, s₂ = { s with heap := h', toks := tk } /\ SetOfS P w h' s.heap.objs.size (met xs its.size) /\ (∀ b o, b < s.heap.objs.size -> s.heap.get? b = some o -> h'.get? b = some o)) E) PySem.F.called_set.init.plain PySem.F.entry_set_init (check_set_init_1 ty0 ?_)) fun r₂ s₂ hr₂ => ?_
   ·obtain ⟨⟨oc, od, oda, osl⟩, hol, hcl, nl, hdl⟩ := hl
    simp only at hcl hdl
    subst hcl hdl
    have hol' : (s.heap.push (eo led)).get? l = some ⟨.type "list", od, .seq its nl, osl⟩ := Heap.get?_push_of_some _ hol
    have k8 := PySem.F.sub_list_set; have k9 := PySem.F.sub_list_frozenset
    have k10 : (Value.type "list" == Value.type "dict") = false := by decide
    have isl : (s.heap.push (eo led)).IsList l its := ⟨_, hol', rfl, nl, rfl⟩
    unfold Builtin.«set.__init__» noKeywords Builtin.Frozenset.updateFrom
    generalize hPI : pyIter = PI
    wp_walk
    subst hPI
    refine wpAny_pyIter_list isl (wpAny_bind (wpAny_runValue ?_))
    have ltl : l < s.heap.objs.size := Heap.lt_size hol
    have sz1 : (s.heap.push (eo led)).objs.size = s.heap.objs.size + 1 := Heap.size_push ..
    have lne : l ≠ (s.heap.push (eo led)).objs.size := Nat.ne_of_lt (sz1 ▸ Nat.lt_succ_of_lt ltl)
    have nin : s.heap.objs.size ∉ [(s.heap.push (eo led)).objs.size, l] := by
     intro z
     rcases List.mem_cons.mp z with z | z
     ·exact absurd (z.trans sz1) (Nat.ne_of_lt (Nat.lt_succ_self _))
     ·have : s.heap.objs.size = l := by simpa using z
      exact absurd this.symm (Nat.ne_of_lt ltl)
    refine met_loop ((Walks.list (show A.in1.in1.in1.handled = none by simp [hh]) _ l lne its).toS) s.heap.objs.size nin xs hb (fun i v hv => SS.strs_at hi i v (by rw [Array.getElem?_toList]; exact hv)) its.size 0 _ rfl ⟨⟨_, Heap.get?_push_size _ rfl, rfl, rfl⟩, isl.push _⟩ ?c1 ?c2
    case c1 => exact SetOf_congr ((setObjOf_fresh (knd := PySem.strKind P w) led).setOf (Heap.get?_push_of_some _ at0) (by unfold scanBound; omega)) (fun _ => rfl) rfl
    case c2 =>
     rintro ⟨h', g', d', tk', os'⟩ hm hS'
     have eg : g' = s.gens := hm.gens; have ed : d' = s.drawn := hm.drawn; have eo' : os' = s.os := hm.os
     subst eg ed eo'
     show wpAny _ _ _ _ _ _
     refine wpAny_pure (show wpAny _ _ (ret Value.none) _ _ _ from wpAny_pure ⟨rfl, h', tk', rfl, hS', fun b o hb' e => hm.heap b o (fun z => ?_) (Heap.get?_push_of_some _ (Heap.get?_push_of_some _ e))⟩)
     rcases List.mem_cons.mp z with z | z
     ·exact absurd z (Nat.ne_of_lt hb')
     ·have : b = (s.heap.push (eo led)).objs.size := by simpa using z
      exact absurd (this.trans sz1) (Nat.ne_of_lt (Nat.lt_succ_of_lt hb'))
   ·cases r₂ with
    | error e => exact hr₂
    | ok fl₂ =>
    cases fl₂ with
    | ret r =>
     obtain ⟨rfl, h', tk, rfl, hS', hk'⟩ := hr₂
     repeat (any_goals (first | assumption | wp_step))
     exact h _ _ hS' hk'
    | _ => exact hr₂.elim
  | _ => exact hr.elim))
end
theorem met_mem (xs : List Str) : ∀ (i : Nat) (k : Str), k ∈ met xs i ↔ ∃ j, j < i /\ xs.getD j Str.empty = k
 | 0, k => by simp [met]
 | i + 1, k => by
  rw [met]
  have ih := met_mem xs i k
  split
  ·rename_i h
   rw [ih]
   refine ⟨fun ⟨j, a, b⟩ => ⟨j, by omega, b⟩, fun ⟨j, a, b⟩ => ?_⟩
   by_cases e : j = i
   ·subst e
    obtain ⟨y, hy, he⟩ := List.any_eq_true.mp h
    have := (met_mem xs j y).mp hy
    rw [beq_iff_eq.mp he, b] at this
    exact this
   ·exact ⟨j, by omega, b⟩
  ·rw [List.mem_append, ih]
   refine ⟨fun z => ?_, fun ⟨j, a, b⟩ => ?_⟩
   ·rcases z with ⟨j, a, b⟩ | z
    ·exact ⟨j, by omega, b⟩
    ·exact ⟨i, by omega, (List.mem_singleton.mp z).symm⟩
   ·by_cases e : j = i
    ·subst e; exact .inr (List.mem_singleton.mpr b.symm)
    ·exact .inl ⟨j, by omega, b⟩
theorem met_nodup (xs : List Str) : ∀ i, (met xs i).Nodup
 | 0 => List.nodup_nil
 | i + 1 => by
  rw [met]
  split
  ·exact met_nodup xs i
  ·rename_i h
   refine List.nodup_append.mpr ⟨met_nodup xs i, by simp, fun a ha b hb e => h ?_⟩
   rw [List.mem_singleton.mp hb] at e
   exact List.any_eq_true.mpr ⟨a, ha, beq_iff_eq.mpr e⟩
theorem met_all (xs : List Str) (k : Str) : k ∈ met xs xs.length ↔ k ∈ xs := by
 rw [met_mem]
 refine ⟨fun ⟨j, a, b⟩ => ?_, fun h => ?_⟩
 ·rw [<- b, List.getD_eq_getElem?_getD, List.getElem?_eq_getElem a]; exact List.getElem_mem a
 ·obtain ⟨j, a, b⟩ := List.getElem_of_mem h
  exact ⟨j, a, by rw [List.getD_eq_getElem?_getD, List.getElem?_eq_getElem a]; exact b⟩
theorem met_take (xs : List Str) : ∀ i, i <= xs.length -> (met xs i).length = i -> met xs i = xs.take i
 | 0, _, _ => by simp [met]
 | i + 1, hi, h => by
  have hl := met_le xs i
  rw [met] at h ⊢
  split at h
  ·omega
  ·rename_i hn
   rw [if_neg hn]
   rw [List.length_append, List.length_singleton] at h
   rw [met_take xs i (by omega) (by omega), List.take_add_one, List.getD_eq_getElem?_getD, List.getElem?_eq_getElem (by omega)]
   rfl
theorem met_len_nodup (xs : List Str) : (met xs xs.length).length = xs.length ↔ xs.Nodup := by
 constructor
 ·intro h
  have e := met_take xs xs.length (Nat.le_refl _) h
  rw [List.take_length] at e
  rw [<- e]; exact met_nodup xs _
 ·intro h
  exact ((List.perm_ext_iff_of_nodup (met_nodup xs _) h).mpr fun k => met_all xs k).length_eq
section
variable {X : Cx}
def tLenSetS (K : PySem.W.Frag) (ta : TE) : TE := fun σ H Q => ta σ H fun x H1 => ∃ (l : Addr) (zs : List Str), x = V.ref l /\ SqL K H1 l (zs.map V.str) /\ zs.length < 1000 /\ Q (.int (met zs zs.length).length) H1
theorem pe_lenSetS {a : Expr} {ta : TE} {p p2 q pos : Pos} (hc : X.calm = true) (B : BI X.mg) (g1 : Gl X "len") (g2 : Gl X "set") (ha : PE X a ta)
  (na : starEach [a] X.env = (false, eval a X.env) :: starEach [] X.env := by rfl) : PE X (.Call (.Name "len" p) [.Call (.Name "set" p2) [a] [] q] [] pos) (tLenSetS X.K ta) := by
 refine ⟨fun pins s σ H Q I h => Call_ (ld_blt I g1 B.len PySem.boot_len ?_)⟩
 refine PyProof.Rows.callWith_builtin1 (PyProof.Rows.args_cons (Call_ (ld_blt I g2 B.set PyProof.Rows.boot_set ?_)) rfl) rfl rfl
 refine PyProof.Rows.callWith_type1 (PyProof.Rows.args_cons (thn (ha.run pins s σ H _ I h) fun v s1 ⟨x, H1, I1, r1, l, zs, ex, hq, h1, q1⟩ => PyProof.Rows.args_nil ?_) na) na rfl
 subst ex
 cases r1
 obtain ⟨its, rv, pl, hz⟩ := I1.list hq
 have hlen : its.toArray.size = zs.length := by rw [List.size_toArray, <- rv.length, List.length_map]
 refine call_setS (xs := zs) (I1.ok.hd hc) pl.isList (by simpa using rv.strs) (by rw [hlen]; unfold scanBound; omega) fun h' tk hS hk => PyProof.Rows.args_nil ?_
 rw [hlen] at hS
 have hm := met_le zs zs.length
 obtain ⟨o, es, ep, t, ho, hex, hd, _, _, _, hf, hn⟩ := hS
 have J : Inv X pins σ H1 { s1 with heap := h', toks := tk } := I1.kept fun b o e => hk b o (Heap.lt_size e) e
 exact call_len_set ho hex hd hf (by rw [hn]; omega) ⟨.int (met zs zs.length).length, H1, J.tok _, ⟨_, by rw [hn]⟩, q1⟩
end
section
variable {X : Cx} {CX : CXT} {k : Nat} {f C : Addr} {fd : FuncData} {ps : List Str} {sp : Sp} {E : L2.St -> XK} {x m : Str} {p pos apos : Pos} {e o : Expr} {es : List Expr} {ta : TE} {t : TA}
def tMethZ (C : Addr) (m : Str) (sp : Sp) (E : L2.St -> XK) (ta : TE) (t : TA) : TE := fun σ H Q => ta σ H fun y H1 => ∃ a dx fs, y = .ref a /\ H1 a = some (.ins C dx fs) /\ fs.lookup m = none /\ t σ H1 fun vs H2 => sp (y :: vs) H2 Q (E σ)
def tMakeZ (C : Addr) (sp : Sp) (E : L2.St -> XK) (t : TA) : TE := fun σ H Q => t σ H fun vs H1 => ∀ y dx, H1 y = none -> H1 dx = none -> dx ≠ y ->
 sp (.ref y :: vs) (upd (upd H1 dx (.own y)) y (.ins C dx [])) (fun v H2 => v = .non /\ Q (.ref y) H2) (E σ)
theorem pe_methZ {pl : Sem Bool} (ho : PE X o ta) (c : Cls X.K C) (hm : Meth X.K C m f) (F : FnOk X.prog X.w X.K X.mg X.base CX k f fd ps sp) (hr : Room k X.A) (hb : Binds X.K fd ps []) (hx : ∀ σ, PassesAt CX X σ (E σ)) (ha : PA X (e :: es) t)
  (hst : starEach (e :: es) X.env = (false, eval e X.env) :: starEach es X.env := by rfl) (hpl : (backTo pos (starEach es X.env)).any (·.1) = false := by rfl)
  (ht : eval (.Call (.Attribute o m apos) (e :: es) [] pos) X.env = (do
    let ov <- eval o X.env
    standAt apos.atName
    let (g, first) <- holding [ov] (getMethod ov m pl)
    callWith pos g first (backTo pos (starEach (e :: es) X.env)) (backToKw pos (keywordEach [] X.env))) := by rfl) :
  PE X (.Call (.Attribute o m apos) (e :: es) [] pos) (tMethZ C m sp E ta t) := by
 refine ⟨fun pins s σ H Q I h => PySem.W.methodCall_KW (pl := pl) (thn (ho.run pins s σ H _ I h) fun u s1 ⟨y, H1, I1, ry, a, dx, fs, ey, ea, l, q⟩ => ?_) ht⟩
 subst ey
 cases (show u = Value.ref a from ry)
 exact getmeth_ok I1 ea c hm l (PySem.W.callWith_K (first := [.ref a]) (h₀ := X.base) I.ok.mod.kin hm.kp
  (thn (ha.run pos pins s1 σ H1 _ I1 q) fun us s2 ⟨vs, H2, I2, r, q2⟩ => ⟨I2.kIn, run_fnS (us := .ref a :: us) (vs := .ref a :: vs) F hr hb (hx σ) I2 (.cons rfl r) q2⟩) hst hpl)
theorem pe_methZ0 {pl : Sem Bool} (ho : PE X o ta) (c : Cls X.K C) (hm : Meth X.K C m f) (F : FnOk X.prog X.w X.K X.mg X.base CX k f fd ps sp) (hr : Room k X.A) (hb : Binds X.K fd ps []) (hx : ∀ σ, PassesAt CX X σ (E σ))
  (ht : eval (.Call (.Attribute o m apos) [] [] pos) X.env = (do
    let ov <- eval o X.env
    standAt apos.atName
    let (g, first) <- holding [ov] (getMethod ov m pl)
    callWith pos g first (backTo pos (starEach [] X.env)) (backToKw pos (keywordEach [] X.env))) := by rfl) :
  PE X (.Call (.Attribute o m apos) [] [] pos) (tMethZ C m sp E ta tNil) := by
 refine ⟨fun pins s σ H Q I h => PySem.W.methodCall_KW (pl := pl) (thn (ho.run pins s σ H _ I h) fun u s1 ⟨y, H1, I1, ry, a, dx, fs, ey, ea, l, q⟩ => ?_) ht⟩
 subst ey
 cases (show u = Value.ref a from ry)
 exact getmeth_ok I1 ea c hm l (PySem.W.callWith_K0 (first := [.ref a]) I1.kIn hm.kp (run_fnS (us := [.ref a]) (vs := [.ref a]) F hr hb (hx σ) I1 (.cons rfl .nil) q))
theorem pe_makeZ (M : Mk X.K C f) (F : FnOk X.prog X.w X.K X.mg X.base CX k f fd ps sp) (hr : Room (k + 1) X.A) (hg : Gl X x) (hm : X.mg x = some (.ref C)) (hb : Binds X.K fd ps []) (hx : ∀ σ, PassesAt CX X σ (E σ))
  (ha : PA X (e :: es) t) (hdb : (x == ("__debug__" : Str)) = false := by decide) (he : starEach (e :: es) X.env = (false, eval e X.env) :: starEach es X.env := by rfl) (hpl : (backTo pos (starEach es X.env)).any (·.1) = false := by rfl) :
  PE X (.Call (.Name x p) (e :: es) [] pos) (tMakeZ C sp E t) := by
 refine ⟨fun pins s σ H Q I h => wpAny_Call_Name_kw (ld_glob I hg hm ?_ hdb)⟩
 refine PySem.W.callWith_K (h₀ := X.base) I.ok.mod.kin M.kp (thn (ha.run pos pins s σ H _ I h) fun us s1 ⟨vs, H1, I1, r, q⟩ => ⟨I1.kIn, ?_⟩) he hpl
 have hq := q (s1.heap.objs.size + 1) s1.heap.objs.size (I1.hok.fresh (Nat.le_succ _)) (I1.hok.fresh (Nat.le_refl _)) (Nat.ne_of_lt (Nat.lt_succ_self _))
 have J := Inv.made (C := C) I1
 have r2 : Vals (V.ref (s1.heap.objs.size + 1) :: vs) (Value.ref (s1.heap.objs.size + 1) :: us) := .cons rfl r
 have hl : (Value.ref (s1.heap.objs.size + 1) :: us).length = ps.length := by rw [<- r2.length]; exact F.len _ _ _ _ hq
 have b := hb _ (Value.ref (s1.heap.objs.size + 1) :: us) J.kIn (by rw [List.append_nil]; exact hl)
 rw [List.append_nil] at b
 refine wpAny_call (make_map (f := f) I1.kIn M.makes M.init (beq_iff_eq.mp M.fn) (codeAny_mono (F.run _ X.stack _ _ ⟨Value.ref (s1.heap.objs.size + 1) :: us, []⟩ (Value.ref (s1.heap.objs.size + 1) :: us) _ _ (E σ) (hr.make C us [])
  (J.env0.make C us []) b r2 hq) fun r s' hq' => ?_))
 match r, hq' with
 | .error er, hq' => exact hx σ pins _ _ er s' J hq'
 | .ok (.ret u), hq' =>
  obtain ⟨v, H', J3, rv, ev, q3⟩ := J.after hq'
  subst ev
  exact ⟨rv, ⟨V.ref (s1.heap.objs.size + 1), H', J3, rfl, q3⟩⟩
 | .ok .next, hq' => exact hq'.elim
 | .ok .brk, hq' => exact hq'.elim
 | .ok .cont, hq' => exact hq'.elim
end
structure GotM (P : Program) (w : World) (K : PySem.W.Frag) (mg : Str -> Option Value) (base : Heap) (C : Addr) (m : Str) (ps : List Str) (k : Nat) (sp : Sp) : Prop where
 ex : ∃ (f : Addr) (fd : FuncData), FnOk P w K mg base CX0 k f fd ps sp /\ Meth K C m f /\ Binds K fd ps [] /\ Cls K C
section
variable {X : Cx} {C : Addr} {x m : Str} {ps : List Str} {k : Nat} {sp : Sp} {e o : Expr} {es : List Expr} {ta : TE} {t : TA} {p pos apos : Pos} {pl : Sem Bool}
theorem pe_gotM0 (G : GotM X.prog X.w X.K X.mg X.base C m ps k sp) (hr : Room k X.A) (ho : PE X o ta)
  (ht : eval (.Call (.Attribute o m apos) [] [] pos) X.env = (do
    let ov <- eval o X.env
    standAt apos.atName
    let (g, first) <- holding [ov] (getMethod ov m pl)
    callWith pos g first (backTo pos (starEach [] X.env)) (backToKw pos (keywordEach [] X.env))) := by rfl) :
  PE X (.Call (.Attribute o m apos) [] [] pos) (tMethZ C m sp (fun _ => E0) ta tNil) := by
 obtain ⟨f, fd, h1, h2, h3, h4⟩ := G.ex
 exact pe_methZ0 ho h4 h2 h1 hr h3 (fun σ pins H s e s' I c => pass0 pins σ H s e s' I c) ht
end
def spKindI (K : PySem.W.Frag) (C : Addr) : Sp := fun vs H Q _ => ∃ (a : Addr) (y : V), vs = [.ref a, y] /\ OexC K C /\ PySem.W.findIn K (.ref C) "kind" = some none /\ H a = some (exo a C none) /\ ∀ dx, H dx = none -> dx ≠ a -> Q .non (upd (upd H dx (exd dx [("kind", y)])) a (exo a C (some dx)))
structure OwnI (P : Program) (w : World) (K : PySem.W.Frag) (mg : Str -> Option Value) (base : Heap) (x : Str) (C : Addr) (k : Nat) : Prop where
 gC : mg x = some (.ref C)
 T : OexC K C
 no : PySem.W.findIn K (.ref C) "kind" = some none
 ex : ∃ (f : Addr) (fd : FuncData), PySem.W.findIn K (.ref C) "__init__" = some (some (.ref f)) /\ PySem.W.typeIn K (.ref f) = some (.type "function") /\ FnOk P w K mg base CX0 k f fd ["self", "kind"] (spKindI K C) /\ Binds K fd ["self", "kind"] []
def oexCB (K : PySem.W.Frag) (C : Addr) : Bool := (match K.lookup C with
 | some ⟨.type "type", _, .cls cd, sl⟩ => (match cd.mro, sl.toList with
  | .ref D :: bm, [_, _, _, _, some (.builtin n), _] => decide (D = C) && (n == "ValueError.__new__" && (!cd.hasDel && (cd.hasDict && PySem.HandSPX.refsVE bm)))
  | _, _ => false)
 | _ => false) && (He.eqO (PySem.W.findIn K (.ref C) "__setattr__") (some (some (.builtin "object.__setattr__"))) && (decide (PySem.W.subIn K (.ref C) (.type "BaseException") = some true) && (decide (PySem.W.typeIn K (.ref C) = some (.type "type")) && PySem.W.keepIn K (.ref C))))
theorem oexCB_ok {K : PySem.W.Frag} {C : Addr} (h : oexCB K C = true) : OexC K C := by
 obtain ⟨h1, h⟩ := He.ba h
 obtain ⟨h2, h⟩ := He.ba h
 obtain ⟨h3, h⟩ := He.ba h
 obtain ⟨h4, h5⟩ := He.ba h
 refine ⟨?_, He.eqO_ok h2, of_decide_eq_true h3, of_decide_eq_true h4, h5⟩
 split at h1
 ·rename_i dd cd sl ho
  split at h1
  ·rename_i D bm k0 k1 k2 k3 n k5 hm hs
   obtain ⟨e1, h1⟩ := He.ba h1
   obtain ⟨e2, h1⟩ := He.ba h1
   obtain ⟨e3, h1⟩ := He.ba h1
   obtain ⟨e4, e5⟩ := He.ba h1
   have e1 := of_decide_eq_true e1
   have e2 := beq_iff_eq.mp e2
   obtain ⟨nm, bs, mro, ns, qn, hd, sn, sb, ab, col, del⟩ := cd
   simp only at hm e3 e4
   subst e1 e2 hm e4
   have e3 : del = false := by simpa using e3
   subst e3
   obtain ⟨sl⟩ := sl
   simp only at hs
   subst hs
   exact ⟨nm, qn, ns, bs, bm, sn, sb, ab, col, dd, k0, k1, k2, k3, k5, ho, e5⟩
  ·cases h1
 ·cases h1
theorem _root_.L2.PE.wide {X : Cx} {e : Expr} {te : TE} (h : PE X e te) : PE X e (fun σ H Q => ∃ Q' : VK, te σ H Q' /\ ∀ v H', Q' v H' -> Q v H') :=
 ⟨fun pins s σ H Q I ⟨Q', h1, h2⟩ => thn (h.run pins s σ H Q' I h1) fun v s1 ⟨y, H1, I1, r, q⟩ => ⟨y, H1, I1, r, h2 _ _ q⟩⟩
section
variable {X : Cx} {C : Addr} {x : Str} {k : Nat} {e : Expr} {te : TE} {p pos : Pos}
def tKind (C : Addr) (te : TE) : L2.St -> Hp -> XK -> Prop := fun σ H Q => te σ H fun y H1 => ∀ d, H1 d = none -> Q (.ref C) (some d) (upd H1 d (.xd [("kind", y)]))
end
abbrev Ru := Gr × Gr
def Ru.enc (r : Ru) : PyData := .tuple [r.1.enc, r.2.enc]
def Ru.within (r : Ru) : List (Tr × Int) := r.1.within ++ r.2.within
structure Kd where
 n : Str
 w : Bool
 rs : List Ru
abbrev Bk := List Kd
abbrev Bk.names (b : Bk) : List Str := b.map (·.n)
def Kd.rowE (k : Kd) : PyData := .tuple (k.rs.map Ru.enc)
def Bk.get (b : Bk) (n : Str) : Option Kd := b.find? fun k => decide (k.n = n)
def RuOk (r : Ru) : Prop := r.1.Ok 1000000001 /\ r.2.Ok 1000000001 /\ r.1.parts + r.2.parts <= 4
def KdOk (ns : List Str) (k : Kd) : Prop := NameOk k.n /\ k.rs.length <= 4 /\ ∀ r ∈ k.rs, RuOk r /\ ∀ p ∈ Ru.within r, p.1.1 ∈ ns
structure Bk.Ok (b : Bk) : Prop where
 pos : 1 <= b.length
 len : b.length <= 8
 nd : b.names.Nodup
 kd : ∀ k ∈ b, KdOk b.names k
theorem Ru.noList_enc (r : Ru) : noList (Ru.enc r) = true := by simp [Ru.enc, noList, noLists, Gr.noList_enc]
theorem Kd.noList_rowE (k : Kd) : noList k.rowE = true := by
 unfold Kd.rowE noList
 induction k.rs with
 | nil => rfl
 | cons r l ih => rw [List.map_cons, noLists, Ru.noList_enc, ih]; rfl
theorem Bk.get_some {b : Bk} {n : Str} {k : Kd} (h : b.get n = some k) : k ∈ b /\ k.n = n :=
 ⟨List.mem_of_find?_eq_some h, of_decide_eq_true (List.find?_some (p := fun k : Kd => decide (k.n = n)) h)⟩
theorem Bk.get_none {b : Bk} {n : Str} (h : b.get n = none) : n ∉ b.names := fun z => by
 obtain ⟨k, hk, e⟩ := List.mem_map.mp z
 have := List.find?_eq_none.mp h k hk
 exact this (decide_eq_true e)
theorem Bk.get_of {b : Bk} {n : Str} (h : n ∈ b.names) : ∃ k, b.get n = some k := by
 cases e : b.get n with
 | none => exact absurd h (Bk.get_none e)
 | some k => exact ⟨k, rfl⟩
def Bk.rowKV (b : Bk) (us : List V) : List (Key × V) := List.zipWith (fun (k : Kd) (u : V) => (Sum.inr k.n, u)) b us
def Bk.spKV (b : Bk) : List (Key × V) := b.map fun k => (Sum.inr k.n, V.bl k.w)
theorem Bk.spKV_val (b : Bk) (n : Str) : valV b.spKV (Sum.inr n) = (b.get n).map fun k => V.bl k.w := by
 induction b with
 | nil => rfl
 | cons x r ih =>
  by_cases e : x.n = n
  ·subst e
   rw [show Bk.spKV (x :: r) = (Sum.inr x.n, V.bl x.w) :: Bk.spKV r from rfl, valV_pos rfl]
   simp [Bk.get]
  ·rw [show Bk.spKV (x :: r) = (Sum.inr x.n, V.bl x.w) :: Bk.spKV r from rfl, valV_neg (by simpa using e), ih]
   simp [Bk.get, e]
theorem Bk.rowKV_val {K : PySem.W.Frag} {H : Hp} (n : Str) : ∀ {b : Bk} {us : List V}, Bears K H Kd.rowE us b -> ∀ {k : Kd}, b.get n = some k -> ∃ u, valV (b.rowKV us) (Sum.inr n) = some u /\ Dp K H u k.rowE
 | [], _, _, k, h => by cases h
 | x :: r, _, .cons (v := u) (vs := us) h0 h1, k, h => by
  have e0 : Bk.rowKV (x :: r) (u :: us) = (Sum.inr x.n, u) :: Bk.rowKV r us := rfl
  by_cases e : x.n = n
  ·subst e
   have : x = k := by simpa [Bk.get] using h
   subst this
   exact ⟨u, by rw [e0, valV_pos rfl], h0⟩
  ·have h' : Bk.get r n = some k := by simpa [Bk.get, e] using h
   obtain ⟨v, a, c⟩ := Bk.rowKV_val n h1 h'
   exact ⟨v, by rw [e0, valV_neg (by simpa using e)]; exact a, c⟩
abbrev bkF (d1 d2 : Addr) : List (Str × V) := [("spread_by_name", .ref d1), ("rows_by_name", .ref d2)]
def BkA (K : PySem.W.Frag) (C : Addr) (H : Hp) (v : V) (b : Bk) : Prop := ∃ (a dx d1 d2 : Addr) (us : List V), v = .ref a /\ H a = some (.ins C dx (bkF d1 d2)) /\ H d1 = some (.dK b.spKV) /\ H d2 = some (.dK (b.rowKV us)) /\ Bears K H Kd.rowE us b
def Lsts (H : Hp) (ps : List Addr) : Prop := ∀ p ∈ ps, H p = none \/ ∃ xs, H p = some (.lst xs)
theorem Lsts.nil {H : Hp} : Lsts H [] := fun _ h => nomatch h
theorem Lsts.one {H : Hp} {p : Addr} {xs : List V} (h : H p = some (.lst xs)) : Lsts H [p] := fun q z => by rw [List.mem_singleton.mp z]; exact .inr ⟨xs, h⟩
theorem Lsts.notin {H : Hp} {ps : List Addr} (h : Lsts H ps) {a : Addr} {o : HO} (e : H a = some o) (n : ∀ xs, o ≠ .lst xs) : a ∉ ps := fun z => by
 rcases h a z with q | ⟨xs, q⟩
 ·rw [e] at q; cases q
 ·rw [e] at q; exact n xs (Option.some.inj q)
section
variable {K : PySem.W.Frag} {C : Addr} {H H' : Hp} {v : V} {b : Bk} {ps : List Addr}
theorem BkA.sb (h : BkA K C H v b) (e : SB ps H H') (hp : Lsts H ps) : BkA K C H' v b := by
 obtain ⟨a, dx, d1, d2, us, rfl, h1, h2, h3, h4⟩ := h
 exact ⟨a, dx, d1, d2, us, rfl, e.keep _ _ h1 (hp.notin h1 fun _ z => nomatch z), e.keep _ _ h2 (hp.notin h2 fun _ z => nomatch z), e.keep _ _ h3 (hp.notin h3 fun _ z => nomatch z), h4.sb e Kd.noList_rowE⟩
theorem BkA.sb0 (h : BkA K C H v b) (e : SB [] H H') : BkA K C H' v b := h.sb e Lsts.nil
theorem BkA.at (h : BkA K C H v b) : ∃ a dx d1 d2, v = .ref a /\ H a = some (.ins C dx (bkF d1 d2)) := by
 obtain ⟨a, dx, d1, d2, us, e, h1, _⟩ := h
 exact ⟨a, dx, d1, d2, e, h1⟩
end
structure ClsF (K : PySem.W.Frag) (C : Addr) (fs : List Str) : Prop where
 c : Cls K C
 no : ∀ f ∈ fs, NoAttr K C f
def spBNames (K : PySem.W.Frag) (C : Addr) : Sp := fun vs H Q _ => ∃ (v : V) (b : Bk), vs = [v] /\ BkA K C H v b /\ b.length <= 1000 /\ ∀ (l : Addr) (H' : Hp), SB [] H H' -> H l = none -> H' l = some (.lst (b.names.map V.str)) -> Q (.ref l) H'
def kindOr (N : Addr) (b : Bk) (n : Str) (H : Hp) (E : XK) (q : Kd -> Prop) : Prop := (∀ k, b.get n = some k -> q k) /\ (b.get n = none -> ∀ (d : Addr) (H' : Hp), SB [] H H' -> H d = none -> H' d = some (.xd [("kind", .str n)]) -> E (.ref N) (some d) H')
def spCheckK (K : PySem.W.Frag) (C N : Addr) : Sp := fun vs H Q E => ∃ (v : V) (b : Bk) (n : Str), vs = [v, .str n] /\ BkA K C H v b /\ b.length <= 1000 /\ kindOr N b n H E fun _ => ∀ H', SB [] H H' -> Q .non H'
def spBSpreads (K : PySem.W.Frag) (C N : Addr) : Sp := fun vs H Q E => ∃ (v : V) (b : Bk) (n : Str), vs = [v, .str n] /\ BkA K C H v b /\ b.length <= 1000 /\ kindOr N b n H E fun k => ∀ H', SB [] H H' -> Q (.bl k.w) H'
def spBRules (K : PySem.W.Frag) (C N : Addr) : Sp := fun vs H Q E => ∃ (v : V) (b : Bk) (n : Str), vs = [v, .str n] /\ BkA K C H v b /\ b.length <= 1000 /\ (∀ k ∈ b, k.rs.length <= 1000) /\
 kindOr N b n H E fun k => ∀ (l : Addr) (us : List V) (H' : Hp), SB [] H H' -> H l = none -> H' l = some (.lst us) -> Bears K H' Ru.enc us k.rs -> Q (.ref l) H'
inductive KT where
 | other
 | three (d : PyData) (w : Option Bool) (rs : Option (List PyData))
def Kd.kt (k : Kd) : KT := .three (.str k.n) (some k.w) (some (k.rs.map Ru.enc))
def KTA (K : PySem.W.Frag) (H : Hp) (v : V) : KT -> Prop
 | .other => ∃ d, Tg K H v d /\ ∀ ds, d = .tuple ds -> ds.length ≠ 3
 | .three d w rs => ∃ (t : Addr) (x y z : V), v = .ref t /\ SqT K H t [x, y, z] /\ Tg K H x d /\ (match w with
   | some b => y = .bl b
   | none => ∃ n, TyX K H y (.type n) /\ kitB n "bool" = some false) /\ (match rs with
   | some ds => ∃ (l : Addr) (zs : List V), z = .ref l /\ H l = some (.lst zs) /\ TgAll K H zs ds
   | none => ∃ n, TyX K H z (.type n) /\ kitB n "list" = some false)
def RuD (d : PyData) : Prop := ∃ r : Ru, d = Ru.enc r /\ RuOk r
def RuFit (d : PyData) : Prop := d.depth <= 60 /\ wide d <= 1000 /\ ∀ a b, d = .tuple [a, b] -> ∀ g : Gr, a = g.enc \/ b = g.enc -> g.deep <= 18 /\ g.parts <= 450
def KTFit : KT -> Prop
 | .other => True
 | .three d w rs => ∀ ds, rs = some ds -> ds.length <= 1000 /\ ∀ x ∈ ds, RuFit x
def KTKd (t : KT) : Prop := ∃ k : Kd, t = k.kt /\ NameOk k.n /\ k.rs.length <= 4 /\ ∀ r ∈ k.rs, RuOk r
def KTBk (ts : List KT) : Prop := ∃ b : Bk, ts = b.map Kd.kt /\ Bk.Ok b
inductive KTAll (K : PySem.W.Frag) (H : Hp) : List V -> List KT -> Prop
 | nil : KTAll K H [] []
 | cons {v : V} {t : KT} {vs : List V} {ts : List KT} : KTA K H v t -> KTAll K H vs ts -> KTAll K H (v :: vs) (t :: ts)
def spIsRule (K : PySem.W.Frag) : Sp := fun vs H Q _ => ∃ (v : V) (d : PyData), vs = [v] /\ Tg K H v d /\ RuFit d /\ ∀ (b : Bool) (H' : Hp), SB [] H H' -> (b = true ↔ RuD d) -> Q (.bl b) H'
def spIsKind (K : PySem.W.Frag) : Sp := fun vs H Q _ => ∃ (v : V) (t : KT), vs = [v] /\ KTA K H v t /\ KTFit t /\ ∀ (b : Bool) (H' : Hp), SB [] H H' -> (b = true ↔ KTKd t) -> Q (.bl b) H'
def spIsRuleOf (K : PySem.W.Frag) : Sp := fun vs H Q _ => ∃ (v : V) (l : Addr) (r : Ru) (ns : List Str), vs = [v, .ref l] /\ Dp K H v (Ru.enc r) /\ RuOk r /\ SqL K H l (ns.map V.str) /\ ns.length <= 1000 /\ ∀ H', SB [] H H' -> Q (.bl (decide (∀ p ∈ Ru.within r, p.1.1 ∈ ns))) H'
def spAreKinds (K : PySem.W.Frag) : Sp := fun vs H Q _ => ∃ (l : Addr) (xs : List V) (ts : List KT), vs = [.ref l] /\ SqL K H l xs /\ KTAll K H xs ts /\ (∀ t ∈ ts, KTFit t) /\ ts.length <= 1000 /\ ∀ (b : Bool) (H' : Hp), SB [] H H' -> (b = true ↔ KTBk ts) -> Q (.bl b) H'
def spBInit (K : PySem.W.Frag) (C B : Addr) : Sp := fun vs H Q E => ∃ (x dx l : Addr) (xs : List V) (ts : List KT), vs = [.ref x, .ref l] /\ H x = some (.ins C dx []) /\ H dx = some (.own x) /\ H l = some (.lst xs) /\ KTAll K H xs ts /\ (∀ t ∈ ts, KTFit t) /\ ts.length <= 1000 /\
 (∀ b : Bk, ts = b.map Kd.kt -> b.Ok -> ∀ H', SB [x] H H' -> BkA K C H' (.ref x) b -> Q .non H') /\ (¬ KTBk ts -> ∀ H', SB [] H H' -> E (.ref B) none H')
theorem inV_strs (n : Str) (zs : List Str) : inV (.str n) (zs.map V.str) = decide (n ∈ zs) := by
 induction zs with
 | nil => rfl
 | cons z r ih =>
  show ((z == n) || inV (.str n) (r.map V.str)) = _
  rw [ih]
  by_cases e : z = n
  ·subst e; simp
  ·have e' : ¬ n = z := fun y => e y.symm
   rw [show (z == n) = false from beq_eq_false_iff_ne.mpr e, Bool.false_or]
   by_cases h : n ∈ r <;> simp [h, e']
theorem flat_strs (zs : List Str) : (zs.map V.str).all flatV = true := by simp [flatV]
theorem getK {H : Hp} {d : Addr} {kvs : List (Key × V)} {n : Str} {v : V} (h : H d = some (.dK kvs)) (e : valV kvs (Sum.inr n) = some v) : DGet H d (.str n) (some v) := .inl ⟨kvs, Sum.inr n, .inl h, rfl, e.symm⟩
theorem Bk.get_isSome (b : Bk) (n : Str) : decide (n ∈ b.names) = (b.get n).isSome := by
 cases e : b.get n with
 | none => simpa using Bk.get_none e
 | some k => simpa using List.mem_map.mpr ⟨k, (Bk.get_some e).1, (Bk.get_some e).2⟩
section
variable {J : It} {n : Nat} {G : Hp -> Prop} {Y : Nat -> Hp -> V -> Hp -> Prop}
theorem lc_seq (w : Walk J n G Y) {g : TG} {tt : TT} {te : TE} {vs : List Nat} {σ : L2.St} {H : Hp} {D : Addr} {Qd : Hp -> Prop} (hD : H D = none) (hn : n < sizeLine) (R : Nat -> List V -> Hp -> Prop) (h0 : R 0 [] H) (hG : ∀ H2, SB [] H H2 -> G H2)
  (st : ∀ i us H2 H3, SB [D] H2 H3 -> R i us H2 -> R i us H3)
  (turn : ∀ (Pv : Hp -> Prop) i x H2 H' us, i < n -> SB [] H H2 -> Y i H2 x H' -> R i us H2 -> us.length <= i -> (∀ y H5, SB [] H2 H5 -> R (i + 1) (us ++ [y]) H5 -> ∃ acc, H5 D = some (.lst acc) /\ acc.length < sizeLine /\ Pv (upd H5 D (.lst (acc ++ [y])))) ->
   (∀ H4, SB [] H2 H4 -> R (i + 1) us H4 -> Pv H4) -> g x (wipe σ vs) H' fun σ2 H3 => wipe σ2 vs = wipe σ vs /\ tt σ2 H3 fun b H4 =>
    if b = true then te σ2 H4 fun y H5 => ∃ acc, H5 D = some (.lst acc) /\ acc.length < sizeLine /\ Pv (upd H5 D (.lst (acc ++ [y]))) else Pv H4)
  (done : ∀ us H2, SB [] H H2 -> H2 D = some (.lst us) -> R n us H2 -> us.length <= n -> Qd H2) :
  ∃ W : Nat -> Nat -> Hp -> Prop, (∃ m, W 0 m (upd H D (.lst []))) /\ ∀ i m H, W i m H ->
   (J.stop i H /\ Qd H) \/ (J.go i H /\ ∃ Nx : Hp -> Prop, (∀ H', Nx H' -> ∃ m', m' < m /\ W (i + 1) m' H') /\ ∀ x H', J.yld i H x H' -> g x (wipe σ vs) H' fun σ2 H2 => wipe σ2 vs = wipe σ vs /\ tt σ2 H2 fun b H3 =>
    if b = true then te σ2 H3 fun y H4 => ∃ acc, H4 D = some (.lst acc) /\ acc.length < sizeLine /\ Nx (upd H4 D (.lst (acc ++ [y]))) else Nx H3) := by
 refine lc_it w (fun i H2 => SB [D] H H2 /\ ∃ us, H2 D = some (.lst us) /\ R i us H2 /\ us.length <= i) ⟨SB.new hD _, [], upd_same, st _ _ _ _ (SB.new hD _) h0, Nat.le_refl _⟩ (fun i H2 _ h => hG H2 (h.1.drop hD)) (fun i x H2 H' hi h y => ?_) (fun H2 h => ?_)
 ·obtain ⟨s2, us, hD2, hR, hl⟩ := h
  refine turn _ i x H2 H' us hi (s2.drop hD) y hR hl (fun y H5 s5 r5 => ?_) (fun H4 s4 r4 => ⟨s2.trans s4.nil, us, s4.keep _ _ hD2 nmn, r4, by omega⟩)
  have hD5 := s5.keep _ _ hD2 nmn
  refine ⟨us, hD5, by omega, (s2.trans s5.nil).trans (SB.set hD5 (by simp) _), _, upd_same, st _ _ _ _ (SB.set hD5 (by simp) _) r5, ?_⟩
  rw [List.length_append, List.length_singleton]; omega
 ·obtain ⟨s2, us, hD2, hR, hl⟩ := h
  exact done us H2 (s2.drop hD) hD2 hR hl
end
theorem groveD_Ok {C : Int} : ∀ {g : Gr}, groveD g.enc = true -> (∀ p ∈ g.within, p.2 < C) -> g.Ok C := by
 have key : ∀ (g : Gr), (∀ p ∈ g.within, p.2 < C) -> grPs g.encs = true -> (risingD (g.encs.map exp0) = true -> g.Ok C) := by
  intro g
  induction g with
  | nil => intro _ _ _; trivial
  | cons k g m r ihg ihr =>
   intro hb hps hri
   have hb1 : ∀ p ∈ g.within, p.2 < C := fun p hp => hb p (mcm _ (List.mem_append_left _ hp))
   have hb2 : ∀ p ∈ r.within, p.2 < C := fun p hp => hb p (mcm _ (List.mem_append_right _ hp))
   have e : (Gr.cons k g m r).encs = Gr.pEnc ((k, g), m) :: r.encs := rfl
   rw [e, grPs, Bool.and_eq_true] at hps
   rw [e, List.map_cons] at hri
   have hp : grP (.tuple [.tuple [.str k, .tuple g.encs], .int m]) = true := hps.1
   rw [grP, grP2, Bool.and_eq_true, treeD, trD2, Bool.and_eq_true, trD3, Bool.and_eq_true, groveD, Bool.and_eq_true, ladP3, Bool.and_eq_true] at hp
   obtain ⟨⟨hn, ⟨hgp, hgr⟩, _⟩, hmm, _⟩ := hp
   have hname : NameOk k := by
    obtain ⟨z, ez, hz⟩ := nameD_iff hn
    cases ez; exact hz
   have hri2 : risingD (r.encs.map exp0) = true := by
    cases hre : r.encs with
    | nil => rfl
    | cons d ds =>
     rw [hre, List.map_cons] at hri
     have : (dataLt (exp0 (Gr.pEnc ((k, g), m))) (exp0 d) :: ltsD (exp0 d :: ds.map exp0)).all id = true := hri
     rw [List.all_cons, Bool.and_eq_true] at this
     rw [List.map_cons]; exact this.2
   have hro := ihr hb2 hps.2 hri2
   refine ⟨hname, ihg hb1 hgp hgr, of_decide_eq_true hmm, hb _ (mcs ..), hro, fun p hpm => ?_⟩
   cases r with
   | nil => cases hpm
   | cons k2 g2 m2 r2 =>
    have h12 : dataLt (Gr.tEnc (k, g)) (Gr.tEnc (k2, g2)) = true := by
     have : (dataLt (Gr.tEnc (k, g)) (Gr.tEnc (k2, g2)) :: ltsD (Gr.tEnc (k2, g2) :: r2.encs.map exp0)).all id = true := hri
     rw [List.all_cons, Bool.and_eq_true] at this
     exact this.1
    rcases List.mem_cons.mp hpm with h | h
    ·subst h; exact h12
    ·exact dl_trans h12 (hro.2.2.2.2.2 p h)
 intro g hg hb
 rw [Gr.enc, groveD, Bool.and_eq_true] at hg
 exact key g hb hg.1 hg.2
theorem Ok_within {C : Int} : ∀ {g : Gr}, g.Ok C -> ∀ p ∈ g.within, NameOk p.1.1 /\ p.1.2.Ok C /\ 1 <= p.2 /\ p.2 < C
 | .nil, _, p, h => by cases h
 | .cons k g m r, ⟨h0, h1, h2, h3, h4, _⟩, p, h => by
  rcases List.mem_cons.mp h with h | h
  ·subst h; exact ⟨h0, h1, h2, h3⟩
  ·rcases List.mem_append.mp h with h | h
   ·exact Ok_within h1 p h
   ·exact Ok_within h4 p h
theorem Gr.enc_inj {g h : Gr} (e : g.enc = h.enc) : g = h := by
 have := Gr.eqv_enc g h
 rw [e, Gr.eqv_enc h h, decide_eq_true rfl] at this
 exact of_decide_eq_true this.symm
theorem RuD_iff {g h : Gr} (hg : groveD g.enc = true) (hh : groveD h.enc = true) : RuD (.tuple [g.enc, h.enc]) ↔ g.parts + h.parts <= 4 /\ ∀ p ∈ g.within ++ h.within, p.2 <= 1000000000 := by
 constructor
 ·rintro ⟨r, e, h1, h2, h3⟩
  have e' : PyData.tuple [g.enc, h.enc] = .tuple [r.1.enc, r.2.enc] := e
  injection e' with e'
  injection e' with a e'
  injection e' with b _
  rw [Gr.enc_inj a, Gr.enc_inj b]
  refine ⟨h3, fun p hp => ?_⟩
  rcases List.mem_append.mp hp with hp | hp
  ·have := (Ok_within h1 p hp).2.2.2; omega
  ·have := (Ok_within h2 p hp).2.2.2; omega
 ·rintro ⟨h1, h2⟩
  exact ⟨(g, h), rfl, groveD_Ok hg fun p hp => by have := h2 p (List.mem_append_left _ hp); omega, groveD_Ok hh fun p hp => by have := h2 p (List.mem_append_right _ hp); omega, h1⟩
theorem RuD_two {d : PyData} (h : RuD d) : ∃ g k : Gr, d = .tuple [g.enc, k.enc] /\ groveD g.enc = true /\ groveD k.enc = true := by
 obtain ⟨r, e, h1, h2, _⟩ := h
 exact ⟨r.1, r.2, e, groveD_ok h1, groveD_ok h2⟩
theorem within_deep : ∀ g : Gr, g.deep <= g.parts
 | .nil => Nat.le_refl _
 | .cons k g m r => by
  have h1 := within_deep g
  have h2 := within_deep r
  show max (1 + g.deep) r.deep <= 1 + g.parts + r.parts
  omega
theorem RuD_all : ∀ {ds : List PyData}, (∀ x ∈ ds, RuD x) -> ∃ rs : List Ru, ds = rs.map Ru.enc /\ ∀ r ∈ rs, RuOk r
 | [], _ => ⟨[], rfl, fun _ h => nomatch h⟩
 | d :: ds, h => by
  obtain ⟨r, e, hr⟩ := h d (mcs ..)
  obtain ⟨rs, e2, hrs⟩ := RuD_all fun x hx => h x (mcm _ hx)
  refine ⟨r :: rs, by rw [e, e2]; rfl, fun x hx => ?_⟩
  rcases List.mem_cons.mp hx with hx | hx
  ·rw [hx]; exact hr
  ·exact hrs x hx
theorem SqL_ty {K : PySem.W.Frag} {H : Hp} {a : Addr} {xs : List V} (h : SqL K H a xs) : TyX K H (.ref a) (.type "list") := by
 rcases h with (h | ⟨o, h⟩) | ⟨o, its, n, h, c, _⟩
 ·exact .base (.lst h)
 ·exact .base (.frz h)
 ·exact .kList h c
section
variable {K : PySem.W.Frag} {H H' : Hp}
theorem KTA_sb (e : SB [] H H') : ∀ {t : KT} {v : V}, KTA K H v t -> KTA K H' v t
 | .other, v, ⟨d, h1, h2⟩ => ⟨d, Tg_sb e h1, h2⟩
 | .three d w rs, v, ⟨t, x, y, z, e0, h1, h2, h3, h4⟩ => by
  refine ⟨t, x, y, z, e0, e.sqT h1, Tg_sb e h2, ?_, ?_⟩
  ·cases w with
   | some b => exact h3
   | none =>
    obtain ⟨n, a, b⟩ := h3
    exact ⟨n, TyX_sb e (fun _ _ => nmn) a, b⟩
  ·cases rs with
   | some ds =>
    obtain ⟨l, zs, e1, h5, h6⟩ := h4
    exact ⟨l, zs, e1, e.keep _ _ h5 nmn, TgAll_sb e h6⟩
   | none =>
    obtain ⟨n, a, b⟩ := h4
    exact ⟨n, TyX_sb e (fun _ _ => nmn) a, b⟩
theorem KTAll.sb (e : SB [] H H') : ∀ {vs : List V} {ts : List KT}, KTAll K H vs ts -> KTAll K H' vs ts
 | _, _, .nil => .nil
 | _, _, .cons h t => .cons (KTA_sb e h) (KTAll.sb e t)
theorem KTAll.length : ∀ {vs : List V} {ts : List KT}, KTAll K H vs ts -> vs.length = ts.length
 | _, _, .nil => rfl
 | _, _, .cons h t => by rw [List.length_cons, List.length_cons, KTAll.length t]
theorem KTAll.get : ∀ {vs : List V} {ts : List KT} {i : Nat} {v : V}, KTAll K H vs ts -> vs[i]? = some v -> ∃ t, ts[i]? = some t /\ KTA K H v t
 | _, _, i, v, .nil, h => by simp at h
 | _, _, 0, v, .cons h t, e => by simp at e; subst e; exact ⟨_, rfl, h⟩
 | _, _, i + 1, v, .cons h t, e => by
  simp at e
  obtain ⟨t', e', h'⟩ := KTAll.get (i := i) t e
  exact ⟨t', by simpa using e', h'⟩
theorem KT_all : ∀ {ts : List KT}, (∀ t ∈ ts, KTKd t) -> ∃ b : Bk, ts = b.map Kd.kt /\ ∀ k ∈ b, NameOk k.n /\ k.rs.length <= 4 /\ ∀ r ∈ k.rs, RuOk r
 | [], _ => ⟨[], rfl, fun _ h => nomatch h⟩
 | t :: ts, h => by
  obtain ⟨k, e, hk⟩ := h t (mcs ..)
  obtain ⟨b, e2, hb⟩ := KT_all fun x hx => h x (mcm _ hx)
  refine ⟨k :: b, by rw [e, e2]; rfl, fun x hx => ?_⟩
  rcases List.mem_cons.mp hx with hx | hx
  ·rw [hx]; exact hk
  ·exact hb x hx
theorem kt_inj {k j : Kd} (e : k.kt = j.kt) : k = j := by
 obtain ⟨n, w, rs⟩ := k
 obtain ⟨n2, w2, rs2⟩ := j
 injection e with e1 e2 e3
 injection e1 with e1
 injection e2 with e2
 injection e3 with e3
 have e3 : rs.map Ru.enc = rs2.map Ru.enc := e3
 have e1 : n = n2 := e1
 have e2 : w = w2 := e2
 subst e1 e2
 have : rs = rs2 := by
  refine (List.map_inj_right ?_).mp e3
  intro x y h
  have h' : PyData.tuple [x.1.enc, x.2.enc] = .tuple [y.1.enc, y.2.enc] := h
  injection h' with h'
  injection h' with a h'
  injection h' with b _
  exact Prod.ext (Gr.enc_inj a) (Gr.enc_inj b)
 rw [this]
theorem kts_inj {b c : Bk} (e : b.map Kd.kt = c.map Kd.kt) : b = c := (List.map_inj_right (fun _ _ => kt_inj)).mp e
theorem TgAll_rules : ∀ {rs : List Ru} {zs : List V}, TgAll K H zs (rs.map Ru.enc) -> Bears K H Ru.enc zs rs
 | [], _, .nil => .nil
 | r :: rs, _, .cons h t => by
  refine .cons ?_ (TgAll_rules t)
  cases (h : Tg K H _ (.tuple [r.1.enc, r.2.enc])) with
  | tup hs ha =>
   cases ha with
   | cons h1 ha =>
   cases ha with
   | cons h2 ha =>
   cases ha
   cases h1 with
   | tup a1 b1 =>
   cases h2 with
   | tup a2 b2 => exact .tup hs (.cons (.tup a1 (Tg_ga r.1 b1)) (.cons (.tup a2 (Tg_ga r.2 b2)) .nil))
def KdA (K : PySem.W.Frag) (H : Hp) (bad : List Addr) (v : V) (k : Kd) : Prop := ∃ (t l : Addr) (zs : List V), v = .ref t /\ SqT K H t [.str k.n, .bl k.w, .ref l] /\ H l = some (.lst zs) /\ Bears K H Ru.enc zs k.rs /\ l ∉ bad
theorem KTA_kd {k : Kd} {v : V} (h : KTA K H v k.kt) : KdA K H [] v k := by
 obtain ⟨t, x, y, z, e0, h1, h2, h3, l, zs, rfl, h5, h6⟩ := h
 have h3 : y = .bl k.w := h3
 subst h3
 cases h2
 exact ⟨t, l, zs, e0, h1, h5, TgAll_rules h6, nmn⟩
def NoLst (H : Hp) (bad ps : List Addr) : Prop := ∀ p ∈ ps, p ∈ bad \/ ∀ xs, H p ≠ some (.lst xs)
theorem NoLst.nil {bad : List Addr} : NoLst H bad [] := fun _ z => nomatch z
theorem NoLst.self {bad : List Addr} : NoLst H bad bad := fun _ z => .inl z
theorem KdA.sb {k : Kd} {v : V} {ps bad : List Addr} (h : KdA K H bad v k) (e : SB ps H H') (n : NoLst H bad ps) : KdA K H' bad v k := by
 obtain ⟨t, l, zs, e0, h1, h2, h3, h4⟩ := h
 exact ⟨t, l, zs, e0, e.sqT h1, e.keep _ _ h2 fun z => (n _ z).elim h4 fun y => y _ h2, h3.sb e Ru.noList_enc, h4⟩
inductive KdAll (K : PySem.W.Frag) (H : Hp) (bad : List Addr) : List V -> Bk -> Prop
 | nil : KdAll K H bad [] []
 | cons {v : V} {k : Kd} {vs : List V} {b : Bk} : KdA K H bad v k -> KdAll K H bad vs b -> KdAll K H bad (v :: vs) (k :: b)
theorem KdAll.sb {ps bad : List Addr} (e : SB ps H H') (n : NoLst H bad ps) : ∀ {vs : List V} {b : Bk}, KdAll K H bad vs b -> KdAll K H' bad vs b
 | _, _, .nil => .nil
 | _, _, .cons h t => .cons (h.sb e n) (KdAll.sb e n t)
theorem KdAll.less {bad bad' : List Addr} (hb : ∀ x ∈ bad', x ∈ bad) : ∀ {vs : List V} {b : Bk}, KdAll K H bad vs b -> KdAll K H bad' vs b
 | _, _, .nil => .nil
 | _, _, .cons ⟨t, l, zs, h1, h2, h3, h4, h5⟩ r => .cons ⟨t, l, zs, h1, h2, h3, h4, fun z => h5 (hb l z)⟩ (KdAll.less hb r)
theorem KdAll.append {bad : List Addr} : ∀ {xs ys : List V} {bs cs : Bk}, KdAll K H bad xs bs -> KdAll K H bad ys cs -> KdAll K H bad (xs ++ ys) (bs ++ cs)
 | _, _, _, _, .nil, h => h
 | _, _, _, _, .cons a b, h => .cons a (KdAll.append b h)
theorem KdAll.length {bad : List Addr} : ∀ {vs : List V} {ts : Bk}, KdAll K H bad vs ts -> vs.length = ts.length
 | _, _, .nil => rfl
 | _, _, .cons h t => by rw [List.length_cons, List.length_cons, KdAll.length t]
theorem KdAll.get {bad : List Addr} : ∀ {vs : List V} {ts : Bk} {i : Nat} {v : V}, KdAll K H bad vs ts -> vs[i]? = some v -> ∃ t, ts[i]? = some t /\ KdA K H bad v t
 | _, _, i, v, .nil, h => by simp at h
 | _, _, 0, v, .cons h t, e => by simp at e; subst e; exact ⟨_, rfl, h⟩
 | _, _, i + 1, v, .cons h t, e => by
  simp at e
  obtain ⟨t', e', h'⟩ := KdAll.get (i := i) t e
  exact ⟨t', by simpa using e', h'⟩
theorem KTAll.kd : ∀ {b : Bk} {vs : List V}, KTAll K H vs (b.map Kd.kt) -> KdAll K H [] vs b
 | [], _, .nil => .nil
 | k :: b, _, .cons h t => .cons (KTA_kd h) (KTAll.kd t)
theorem rules_TgAll {zs : List V} : ∀ {rs : List Ru} {zs : List V}, (∀ r ∈ rs, RuOk r) -> Bears K H Ru.enc zs rs -> TgAll K H zs (rs.map Ru.enc)
 | [], _, _, .nil => .nil
 | r :: rs, _, ok, .cons h t => by
  refine .cons ?_ (rules_TgAll (zs := zs) (fun x hx => ok x (mcm _ hx)) t)
  obtain ⟨o1, o2, _⟩ := ok r (mcs ..)
  cases (h : Dp K H _ (.tuple [r.1.enc, r.2.enc])) with
  | tup hs ha =>
   cases ha with
   | cons h1 ha =>
   cases ha with
   | cons h2 ha =>
   cases ha
   exact .tup hs (.cons (GA_thing o1 h1) (.cons (GA_thing o2 h2) .nil))
theorem KdAll.kt {bad : List Addr} : ∀ {b : Bk} {vs : List V}, (∀ k ∈ b, NameOk k.n /\ ∀ r ∈ k.rs, RuOk r) -> KdAll K H bad vs b -> KTAll K H vs (b.map Kd.kt)
 | [], _, _, .nil => .nil
 | k :: b, _, ok, .cons h t => by
  refine .cons ?_ (KdAll.kt (fun x hx => ok x (mcm _ hx)) t)
  obtain ⟨t, l, zs, e0, h1, h2, h3, _⟩ := h
  obtain ⟨o1, o2⟩ := ok k (mcs ..)
  exact ⟨t, _, _, _, e0, h1, .str _ (name_short o1), rfl, l, zs, rfl, h2, rules_TgAll (zs := zs) o2 h3⟩
theorem RuFit_of {r : Ru} (h : RuOk r) : RuFit (Ru.enc r) := by
 obtain ⟨h1, h2, h3⟩ := h
 have d1 := within_deep r.1
 have d2 := within_deep r.2
 have e1 := r.1.encs_depth
 have e2 := r.2.encs_depth
 obtain ⟨w1, w2⟩ := wides_gr r.1
 obtain ⟨w3, w4⟩ := wides_gr r.2
 refine ⟨?_, ?_, fun a b e g hg => ?_⟩
 ·show PyData.depth (.tuple [.tuple r.1.encs, .tuple r.2.encs]) <= 60
  simp only [PyData.depth, PyData.depthAll]; omega
 ·show wide (.tuple [.tuple r.1.encs, .tuple r.2.encs]) <= 1000
  simp only [wide, wides, List.length_cons, List.length_nil]; omega
 ·have e' : PyData.tuple [r.1.enc, r.2.enc] = .tuple [a, b] := e
  injection e' with e'
  injection e' with ea e'
  injection e' with eb _
  rcases hg with hg | hg
  ·rw [<- ea] at hg; rw [<- Gr.enc_inj hg]; omega
  ·rw [<- eb] at hg; rw [<- Gr.enc_inj hg]; omega
theorem KTFit_of {k : Kd} (h : k.rs.length <= 4 /\ ∀ r ∈ k.rs, RuOk r) : KTFit k.kt := by
 intro ds e
 have e : some (k.rs.map Ru.enc) = some ds := e
 injection e with e
 subst e
 refine ⟨by rw [List.length_map]; omega, fun x hx => ?_⟩
 obtain ⟨r, hr, rfl⟩ := List.mem_map.mp hx
 exact RuFit_of (h.2 r hr)
end
section
variable {J : It} {n : Nat} {G : Hp -> Prop} {Y : Nat -> Hp -> V -> Hp -> Prop}
theorem dc_seq (w : Walk J n G Y) {g : TG} {tt : TT} {tk tv : TE} {vs : List Nat} {σ : L2.St} {H : Hp} {D : Addr} {Qd : Hp -> Prop} (hD : H D = none) (hn : n < sizeLine) (R : Nat -> List (Key × V) -> Hp -> Prop) (h0 : R 0 [] H) (hG : ∀ H2, SB [] H H2 -> G H2)
  (st : ∀ i us H2 H3, SB [D] H2 H3 -> R i us H2 -> R i us H3)
  (turn : ∀ (Pv : Hp -> Prop) i x H2 H' kvs, i < n -> SB [] H H2 -> Y i H2 x H' -> R i kvs H2 -> kvs.length <= i -> (∀ k z H5, SB [] H2 H5 -> R (i + 1) (putK kvs k z) H5 -> ∃ kvs k', kV k = kV k' /\ H5 D = some (.dK kvs) /\ kvs.length < sizeLine /\ Pv (upd H5 D (.dK (putK kvs k' z)))) ->
   (∀ H4, SB [] H2 H4 -> R (i + 1) kvs H4 -> Pv H4) -> g x (wipe σ vs) H' fun σ2 H3 => wipe σ2 vs = wipe σ vs /\ tt σ2 H3 fun b H4 =>
    if b = true then tk σ2 H4 fun y H5 => tv σ2 H5 fun z H6 => ∃ kvs k, y = kV k /\ H6 D = some (.dK kvs) /\ kvs.length < sizeLine /\ Pv (upd H6 D (.dK (putK kvs k z))) else Pv H4)
  (done : ∀ kvs H2, SB [] H H2 -> H2 D = some (.dK kvs) -> R n kvs H2 -> kvs.length <= n -> Qd H2) :
  ∃ W : Nat -> Nat -> Hp -> Prop, (∃ m, W 0 m (upd H D (.dK []))) /\ ∀ i m H, W i m H ->
   (J.stop i H /\ Qd H) \/ (J.go i H /\ ∃ Nx : Hp -> Prop, (∀ H', Nx H' -> ∃ m', m' < m /\ W (i + 1) m' H') /\ ∀ x H', J.yld i H x H' -> g x (wipe σ vs) H' fun σ2 H2 => wipe σ2 vs = wipe σ vs /\ tt σ2 H2 fun b H3 =>
    if b = true then tk σ2 H3 fun y H4 => tv σ2 H4 fun z H5 => ∃ kvs k, y = kV k /\ H5 D = some (.dK kvs) /\ kvs.length < sizeLine /\ Nx (upd H5 D (.dK (putK kvs k z))) else Nx H3) := by
 refine lcG (body := fun Nx x H' => g x (wipe σ vs) H' fun σ2 H2 => wipe σ2 vs = wipe σ vs /\ tt σ2 H2 fun b H3 =>
    if b = true then tk σ2 H3 fun y H4 => tv σ2 H4 fun z H5 => ∃ kvs k, y = kV k /\ H5 D = some (.dK kvs) /\ kvs.length < sizeLine /\ Nx (upd H5 D (.dK (putK kvs k z))) else Nx H3) w (fun i H2 => SB [D] H H2 /\ ∃ kvs, H2 D = some (.dK kvs) /\ R i kvs H2 /\ kvs.length <= i)
  ⟨SB.new hD _, [], upd_same, st _ _ _ _ (SB.new hD _) h0, Nat.le_refl _⟩ (fun i H2 _ h => hG H2 (h.1.drop hD)) (fun i x H2 H' hi h y => ?_) (fun H2 h => ?_)
 ·obtain ⟨s2, kvs, hD2, hR, hl⟩ := h
  refine turn _ i x H2 H' kvs hi (s2.drop hD) y hR hl (fun k z H5 s5 r5 => ?_) (fun H4 s4 r4 => ⟨s2.trans s4.nil, kvs, s4.keep _ _ hD2 nmn, r4, by omega⟩)
  have hD5 := s5.keep _ _ hD2 nmn
  refine ⟨kvs, k, rfl, hD5, by omega, (s2.trans s5.nil).trans (SB.setD hD5 (by simp) _), _, upd_same, st _ _ _ _ (SB.setD hD5 (by simp) _) r5, ?_⟩
  have := length_putK kvs k z
  omega
 ·obtain ⟨s2, kvs, hD2, hR, hl⟩ := h
  exact done kvs H2 (s2.drop hD) hD2 hR hl
end
theorem putK_new {kvs : List (Key × V)} {k : Key} {v : V} (h : ∀ p ∈ kvs, p.1 ≠ k) : putK kvs k v = kvs ++ [(k, v)] := by
 unfold putK
 rw [if_neg]
 intro z
 obtain ⟨p, hp, e⟩ := List.any_eq_true.mp z
 exact h p hp (of_decide_eq_true e)
theorem Bk.nodup_at {b : Bk} (nd : b.names.Nodup) {i : Nat} {k : Kd} (h : b[i]? = some k) : ∀ j ∈ b.take i, j.n ≠ k.n := by
 intro j hj e
 have e1 : b.names = (b.take i).map (·.n) ++ (b.drop i).map (·.n) := by rw [<- List.map_append, List.take_append_drop]
 rw [e1] at nd
 exact (List.nodup_append.mp nd).2.2 j.n (List.mem_map.mpr ⟨j, hj, rfl⟩) k.n (List.mem_map.mpr ⟨k, List.mem_of_getElem? (i := 0) (by rw [List.getElem?_drop]; exact h), rfl⟩) e
theorem SB.setG {H : Hp} {p : Addr} {o : HO} {ps : List Addr} (h : H p = some o) (hp : p ∈ ps) (n1 : ∀ xs, o ≠ .tup xs) (n2 : ∀ u v, o ≠ .frz u v) (o' : HO) : SB ps H (upd H p o') := by
 refine ⟨fun b u e n => ?_, fun b u e => ?_, fun b v u e => ?_, fun b e => ?_⟩
 ·rw [upd_ne (fun (z : b = p) => n (by rw [z]; exact hp))]; exact e
 ·rw [upd_ne (fun (z : b = p) => by subst z; rw [h] at e; exact n1 _ (Option.some.inj e))]; exact e
 ·rw [upd_ne (fun (z : b = p) => by subst z; rw [h] at e; exact n2 _ _ (Option.some.inj e))]; exact e
 ·by_cases q : b = p
  ·subst q; rw [upd_same] at e; cases e
  ·rw [upd_ne q] at e; exact e
theorem rowKV_mem : ∀ {b : Bk} {us : List V} {p : Key × V}, p ∈ b.rowKV us -> ∃ j ∈ b, p.1 = Sum.inr j.n
 | [], _, p, h => by cases h
 | k :: b, [], p, h => by cases h
 | k :: b, u :: us, p, h => by
  rcases List.mem_cons.mp (show p ∈ (Sum.inr k.n, u) :: Bk.rowKV b us from h) with h | h
  ·exact ⟨k, mcs .., by rw [h]⟩
  ·obtain ⟨j, hj, e⟩ := rowKV_mem h
   exact ⟨j, mcm _ hj, e⟩
def CPowW (i j : Int) : Prop := 0 <= j /\ j <= 1000 /\ i.natAbs < 2 ^ 1000
theorem op_powW {X : Cx} : OpR X (binaryOp .Pow) (rI CPowW fun i j => .int (i ^ j.toNat)) := opI fun i j _ _ _ _ _ hc q => pow_int hc.1 (by
 obtain ⟨h0, h1, h2⟩ := hc
 have hb : Builtin.Int.intBits i <= 1000 := intBits_le h2
 have h3 : (Builtin.Int.intBits i : Int) * j <= 1000 * j := Int.mul_le_mul_of_nonneg_right (by omega) h0
 omega) q
def PuW (H : Hp) (p : Addr) : Prop := ∃ x y : Int, H p = some (.lst [.int x, .int y]) /\ 0 <= x /\ 0 <= y /\ y < 2 ^ 62
theorem PuW.sb {H H' : Hp} {p : Addr} (h : PuW H p) (e : SB [] H H') : PuW H' p := by
 obtain ⟨x, y, h1, h2⟩ := h
 exact ⟨x, y, e.keep _ _ h1 nmn, h2⟩
theorem PuW.keep {H H' : Hp} {p : Addr} {ps : List Addr} (h : PuW H p) (e : SB ps H H') (n : p ∉ ps) : PuW H' p := by
 obtain ⟨x, y, h1, h2⟩ := h
 exact ⟨x, y, e.keep _ _ h1 n, h2⟩
theorem PuW.ne {H : Hp} {p q : Addr} (h : PuW H p) (n : H q = none) : p ≠ q := by
 obtain ⟨x, y, h1, h2⟩ := h
 exact ne_of_none h1 n
def spPurseW (K : PySem.W.Frag) : Sp := fun vs H Q _ => ∃ (a : Addr) (ns : List Int) (k : Nat), vs = [.ref a, .int (k : Int)] /\ SqL K H a (ns.map V.int) /\ ns.length <= 63 /\ k <= 1000 /\ ∀ p H', SB [] H H' -> H p = none -> PuW H' p -> Q (.ref p) H'
def spTakeW : Sp := fun vs H Q _ => ∃ (p : Addr) (m : Int), vs = [.ref p, .int m] /\ PuW H p /\ 1 <= m /\ m < 2 ^ 250 /\ ∀ r H', 0 <= r -> r < m -> SB [p] H H' -> PuW H' p -> Q (.int r) H'
section
variable {K : PySem.W.Frag} {H : Hp} {p : Addr} {Q : VK} {σ : L2.St} {i j : Nat} {m : Int}
theorem take_w (hσ : σ[i]? = some (some (.ref p))) (hp : PuW H p) (h1 : 1 <= m) (h2 : m < 2 ^ 250) (k : ∀ r H', 0 <= r -> r < m -> SB [p] H H' -> PuW H' p -> Q (.int r) H') :
  tCall spTakeW [] E0 (tCons (tVar i) (tCons (tC (.int m)) tNil)) σ H Q := ⟨_, hσ, p, m, rfl, hp, h1, h2, k⟩
end
section
variable {J : It} {n : Nat} {G : Hp -> Prop} {Y : Nat -> Hp -> V -> Hp -> Prop}
theorem lc_seqP (w : Walk J n G Y) (ps : List Addr) {g : TG} {tt : TT} {te : TE} {vs : List Nat} {σ : L2.St} {H : Hp} {D : Addr} {Qd : Hp -> Prop} (hD : H D = none) (hps : ∀ q ∈ ps, H q ≠ none) (hn : n < sizeLine) (R : Nat -> List V -> Hp -> Prop) (h0 : R 0 [] H) (hG : ∀ H2, SB ps H H2 -> G H2)
  (st : ∀ i us H2 H3, SB [D] H2 H3 -> R i us H2 -> R i us H3)
  (turn : ∀ (Pv : Hp -> Prop) i x H2 H' us, i < n -> SB ps H H2 -> Y i H2 x H' -> R i us H2 -> us.length <= i -> (∀ y H5, SB ps H2 H5 -> R (i + 1) (us ++ [y]) H5 -> ∃ acc, H5 D = some (.lst acc) /\ acc.length < sizeLine /\ Pv (upd H5 D (.lst (acc ++ [y])))) ->
   (∀ H4, SB ps H2 H4 -> R (i + 1) us H4 -> Pv H4) -> g x (wipe σ vs) H' fun σ2 H3 => wipe σ2 vs = wipe σ vs /\ tt σ2 H3 fun b H4 =>
    if b = true then te σ2 H4 fun y H5 => ∃ acc, H5 D = some (.lst acc) /\ acc.length < sizeLine /\ Pv (upd H5 D (.lst (acc ++ [y]))) else Pv H4)
  (done : ∀ us H2, SB ps H H2 -> H2 D = some (.lst us) -> R n us H2 -> us.length <= n -> Qd H2) :
  ∃ W : Nat -> Nat -> Hp -> Prop, (∃ m, W 0 m (upd H D (.lst []))) /\ ∀ i m H, W i m H ->
   (J.stop i H /\ Qd H) \/ (J.go i H /\ ∃ Nx : Hp -> Prop, (∀ H', Nx H' -> ∃ m', m' < m /\ W (i + 1) m' H') /\ ∀ x H', J.yld i H x H' -> g x (wipe σ vs) H' fun σ2 H2 => wipe σ2 vs = wipe σ vs /\ tt σ2 H2 fun b H3 =>
    if b = true then te σ2 H3 fun y H4 => ∃ acc, H4 D = some (.lst acc) /\ acc.length < sizeLine /\ Nx (upd H4 D (.lst (acc ++ [y]))) else Nx H3) := by
 have nD : D ∉ ps := fun z => hps D z hD
 have up : ∀ {H1 H2 : Hp}, SB ps H1 H2 -> SB (D :: ps) H1 H2 := fun e => e.mono fun b hb => mcm _ hb
 have up1 : ∀ {H1 H2 : Hp}, SB [D] H1 H2 -> SB (D :: ps) H1 H2 := fun e => e.mono fun b hb => by rw [List.mem_singleton.mp hb]; exact mcs ..
 refine lc_it w (fun i H2 => SB (D :: ps) H H2 /\ ∃ us, H2 D = some (.lst us) /\ R i us H2 /\ us.length <= i) ⟨SB.new hD _, [], upd_same, st _ _ _ _ (SB.new hD _) h0, Nat.le_refl _⟩ (fun i H2 _ h => hG H2 (h.1.drop hD)) (fun i x H2 H' hi h y => ?_) (fun H2 h => ?_)
 ·obtain ⟨s2, us, hD2, hR, hl⟩ := h
  refine turn _ i x H2 H' us hi (s2.drop hD) y hR hl (fun y H5 s5 r5 => ?_) (fun H4 s4 r4 => ⟨s2.trans (up s4), us, s4.keep _ _ hD2 nD, r4, by omega⟩)
  have hD5 := s5.keep _ _ hD2 nD
  refine ⟨us, hD5, by omega, (s2.trans (up s5)).trans (SB.set hD5 (by simp) _), _, upd_same, st _ _ _ _ (SB.set hD5 (by simp) _) r5, ?_⟩
  rw [List.length_append, List.length_singleton]; omega
 ·obtain ⟨s2, us, hD2, hR, hl⟩ := h
  exact done us H2 (s2.drop hD) hD2 hR hl
end
abbrev rJoinS (K : PySem.W.Frag) : V -> List V -> Hp -> VK -> Prop := fun x xs H Q => ∃ a p, ∃ ys : List Str, x = .str a /\ xs = [.ref p] /\ (SqL K H p (ys.map V.str) \/ SqT K H p (ys.map V.str)) /\ (ys.map (·.length)).sum + ys.length * a.length <= 16777216 /\ Q (.str (Txt.join a ys)) H
theorem PuW.some {H : Hp} {p : Addr} (h : PuW H p) : ∀ q ∈ [p], H q ≠ none := fun q hq z => by
 obtain ⟨x, y, h1, _⟩ := h
 rw [List.mem_singleton.mp hq, h1] at z
 cases z
theorem join_w {K : PySem.W.Frag} {H : Hp} {p : Addr} {Q : VK} {σ : L2.St} {jP jL jV k : Nat} {wi : TI} (hk : k <= 1000) (h1 : ∀ x, ((wipe σ [jV]).set jV (some x))[jP]? = some (some (.ref p))) (h2 : ∀ x, ((wipe σ [jV]).set jV (some x))[jL]? = some (some (.str abc)))
  (h3 : ∀ x, wipe ((wipe σ [jV]).set jV (some x)) [jV] = wipe σ [jV]) (hwi : ∀ R : It -> Hp -> Prop, R (Itr 0 k) H -> wi σ H R) (hp : PuW H p) (q : ∀ z H', SB [p] H H' -> PuW H' p -> Ltr z k -> Q (.str z) H') :
  tM1 (rJoinS K) (tC (.str (Str.ofString ""))) (tLc wi (gName jV) tYes (tOp rIxS (tVar jL) (tCall spTakeW [] E0 (tCons (tVar jP) (tCons (tC (.int 26)) tNil)))) [jV]) σ H Q := by
 refine ⟨⟨_, rfl⟩, hwi _ fun D hD => ?_⟩
 have pD : p ≠ D := hp.ne hD
 have szl := sizeLine_eq
 refine lc_seqP walk_range [p] hD hp.some (by omega) (fun i us H2 => PuW H2 p /\ ∃ cs : List Nat, us = cs.map (fun c => V.str ⟨#[c]⟩) /\ cs.length = i /\ ∀ c ∈ cs, 97 <= c /\ c <= 122) ⟨hp, [], rfl, rfl, by simp⟩ (fun _ _ => trivial) (fun i us H2 H3 e ⟨a, b⟩ => ⟨a.keep e (by simpa using pD), b⟩) (fun Pv i x H2 H' us hi s2 y hR hl fin _ => ?_) (fun us H2 s2 hD2 hR hl => ?_)
 ·obtain ⟨rfl, rfl⟩ := y
  obtain ⟨hp2, cs, rfl, cl, co⟩ := hR
  refine ⟨h3 _, _, h2 _, ?_⟩
  refine take_w (h1 _) hp2 (by decide) (by decide) fun r H3 r0 r26 s3 hp3 => ?_
  obtain ⟨n, rfl⟩ : ∃ n : Nat, r = (n : Int) := ⟨r.toNat, by omega⟩
  obtain ⟨c, hc, hco⟩ := abc_at n (by omega)
  refine ⟨_, _, c, rfl, rfl, abc_len, atI_natN hc, fin _ _ s3 ⟨hp3, cs ++ [c], by rw [List.map_append]; rfl, by simp [cl], fun d hd => ?_⟩⟩
  rcases List.mem_append.mp hd with hd | hd
  ·exact co d hd
  ·rw [List.mem_singleton.mp hd]; exact hco
 ·obtain ⟨hp2, cs, rfl, cl, co⟩ := hR
  have e1 : (cs.map fun c => V.str ⟨#[c]⟩) = (cs.map fun c => (⟨#[c]⟩ : Str)).map V.str := by rw [List.map_map]; rfl
  rw [e1] at hD2
  refine ⟨_, D, cs.map fun c => ⟨#[c]⟩, rfl, rfl, .inl (SqL.of hD2), ?_, q _ _ s2 hp2 (by have := join_ltrs cs co; rw [cl] at this; exact this)⟩
  have : ∀ cs : List Nat, ((cs.map fun c => (⟨#[c]⟩ : Str)).map (·.length)).sum = cs.length := by
   intro cs
   induction cs with
   | nil => rfl
   | cons c r ih => rw [List.map_cons, List.map_cons, List.sum_cons, ih]; show 1 + r.length = r.length + 1; omega
  rw [this, List.length_map, cl]
  have : (Str.ofString "").length = 0 := by decide +kernel
  rw [this]; omega
def spWords (K : PySem.W.Frag) : Sp := fun vs H Q _ => ∃ (p : Addr) (m : Nat), vs = [.ref p, .int (m : Int)] /\ PuW H p /\ 1 <= m /\ m <= 8 /\ ∀ (n : Addr) (ks : List Str) (H' : Hp), SB [p] H H' -> PuW H' p -> H n = none -> H' n = some (.lst (ks.map V.str)) -> ks.length = m -> (∀ k ∈ ks, NameOk k) -> ks.Nodup -> Q (.ref n) H'
theorem abc_code : ∀ r : Nat, r < 26 -> abc.cps.toList[r]? = some (97 + r) := by
 have : ∀ r : Fin 26, abc.cps.toList[r.val]? = some (97 + r.val) := by decide +kernel
 intro r hr
 exact this ⟨r, hr⟩
theorem Ltr.mid {a b : Str} {n c : Nat} (ha : Ltr a n) : (a ++ ⟨#[c]⟩ ++ b).cps.toList[n]? = some c := by
 have e : (a ++ ⟨#[c]⟩ ++ b).cps.toList = a.cps.toList ++ (c :: b.cps.toList) := by show (a.cps ++ #[c] ++ b.cps).toList = _; simp
 rw [e, List.getElem?_append_right (by rw [ha.1]; exact Nat.le_refl _), ha.1, Nat.sub_self]
 rfl
theorem nodup_range {α : Type} {F : Nat -> α} {m : Nat} (h : ∀ i j, i < m -> j < m -> i ≠ j -> F i ≠ F j) : ((List.range m).map F).Nodup := by
 refine List.pairwise_map.mpr (List.Pairwise.imp_of_mem (fun {i j} hi hj hn => h i j (List.mem_range.mp hi) (List.mem_range.mp hj) hn) List.nodup_range)
section
variable {D : Ends} {σ : L2.St} {H : Hp} {t u : TS} {te : TE} {g : TG} {c : TT}
theorem nextI {f : L2.St -> Hp -> Prop} {r : VK} {b c' : L2.St -> Hp -> Prop} (h : f σ H) : tNext ⟨f, r, b, c'⟩ σ H := h
theorem seqI (h : t { D with nx := u D } σ H) : tSeq t u D σ H := h
theorem asgI (h : te σ H fun x H1 => g x σ H1 D.nx) : tAsg te g D σ H := h
theorem ifI (h : c σ H fun b H1 => if b = true then t D σ H1 else u D σ H1) : tIfS c t u D σ H := h
end
theorem srt_ok {C : Int} {bs : List (Tr × Int)} (nd : (bs.map (·.1)).Nodup) (h : ∀ p ∈ bs, NameOk p.1.1 /\ p.1.2.Ok C /\ 1 <= p.2 /\ p.2 < C) : (Gr.ofPs (srtE Gr.pEnc bs)).Ok C := by
 rw [Gr.ok_ps]
 refine ⟨fun p hp => h p ((srtE_perm bs).mem_iff.mp hp), ?_⟩
 have h1 : (srtE Gr.pEnc bs).Pairwise (fun a b => dataLt (Gr.tEnc b.1) (Gr.tEnc a.1) = false) := srt_keys bs
 have h2 : ((srtE Gr.pEnc bs).map (·.1)).Nodup := (((srtE_perm bs).map _).nodup_iff).mpr nd
 have h3 : (srtE Gr.pEnc bs).Pairwise (fun a b => a.1 ≠ b.1) := List.pairwise_map.mp h2
 refine (List.pairwise_and_iff.mpr ⟨h1, h3⟩).imp fun {a b} ⟨x, y⟩ => ol_tri (enc := Gr.tEnc) (fun z => y z.symm) x
theorem sum_from0 : ∀ {ns : List Int}, (∀ x ∈ ns, 0 <= x) -> 0 <= ns.sum
 | [], _ => by simp
 | x :: r, h => by
  have h1 := h x (mcs ..)
  have h2 := sum_from0 fun y hy => h y (mcm _ hy)
  rw [List.sum_cons]; omega
theorem tot_filter (c : Tr × Int -> Bool) : ∀ bs : List (Tr × Int), Gr.tot (bs.filter c) <= Gr.tot bs
 | [] => Nat.le_refl _
 | p :: r => by
  have := tot_filter c r
  rw [List.filter_cons]
  split
  ·simp only [Gr.tot]; omega
  ·simp only [Gr.tot]; omega
theorem names_shaped {zs : List Str} (h : ∀ z ∈ zs, NameOk z) : SeqAt.shaped (.list (zs.map .str)) = true := by
 have h1 : PyData.canLayAll0 (zs.map .str) = true := by
  induction zs with
  | nil => simp [PyData.canLayAll0]
  | cons z r ih =>
   rw [List.map_cons, PyData.canLayAll0, ih fun y hy => h y (mcm _ hy)]
   simp [PyData.canLay0, Gr.strOk_name (h z (mcs ..))]
 have h2 : PyData.depthAll (zs.map .str) = 0 := by
  clear h1 h
  induction zs with
  | nil => simp [PyData.depthAll]
  | cons z r ih => rw [List.map_cons, PyData.depthAll, ih]; simp [PyData.depth]
 unfold SeqAt.shaped
 rw [PyData.canLay0, h1, Bool.true_and]
 exact decide_eq_true (by simp only [PyData.depth, h2]; omega)
theorem Dp_strs {K : PySem.W.Frag} {H : Hp} : ∀ zs : List Str, DpAll K H (zs.map V.str) (zs.map .str)
 | [] => .nil
 | z :: r => .cons (.str z) (Dp_strs r)
theorem eqv_nil (zs : List Str) : PyData.eqv (.list (zs.map .str)) (.list []) = decide (zs = []) := by
 cases zs with
 | nil => decide +kernel
 | cons z r => simp [PyData.eqv, PyData.eqvAll]
theorem erase_map {α β : Type} (f : α -> β) : ∀ (l : List α) (i : Nat), (l.map f).eraseIdx i = (l.eraseIdx i).map f
 | [], _ => rfl
 | _ :: _, 0 => rfl
 | x :: r, i + 1 => by rw [List.map_cons, List.eraseIdx_cons_succ, List.eraseIdx_cons_succ, List.map_cons, erase_map f r i]
theorem idx_perm {α : Type} : ∀ {l : List α} {u : Nat} {x : α}, l[u]? = some x -> (x :: l.eraseIdx u).Perm l
 | [], _, _, h => by simp at h
 | y :: r, 0, x, h => by
  have h : y = x := by simpa using h
  subst h; exact List.Perm.refl _
 | y :: r, u + 1, x, h => by
  have h : r[u]? = some x := by simpa using h
  rw [List.eraseIdx_cons_succ]
  exact (List.Perm.swap y x _).trans (List.Perm.cons y (idx_perm h))
section
variable {J : It} {n : Nat} {G : Hp -> Prop} {Y : Nat -> Hp -> V -> Hp -> Prop}
theorem lc_seqQ (w : Walk J n G Y) (ps : List Addr) {g : TG} {tt : TT} {te : TE} {vs : List Nat} {σ : L2.St} {H : Hp} {D : Addr} {Qd : Hp -> Prop} (hD : H D = none) (hps : ∀ q ∈ ps, H q ≠ none) (hn : n < sizeLine) (R : Nat -> List V -> Hp -> Prop) (h0 : R 0 [] H) (hG : ∀ H2, SB ps H H2 -> G H2)
  (st : ∀ i us H2 H3, SB [D] H2 H3 -> R i us H2 -> R i us H3)
  (turn : ∀ (Pv : Hp -> Prop) i x H2 H' us, i < n -> SB ps H H2 -> Y i H2 x H' -> R i us H2 -> us.length <= i -> H2 D = some (.lst us) -> (∀ y H5, SB ps H2 H5 -> R (i + 1) (us ++ [y]) H5 -> ∃ acc, H5 D = some (.lst acc) /\ acc.length < sizeLine /\ Pv (upd H5 D (.lst (acc ++ [y])))) ->
   (∀ H4, SB ps H2 H4 -> R (i + 1) us H4 -> Pv H4) -> g x (wipe σ vs) H' fun σ2 H3 => wipe σ2 vs = wipe σ vs /\ tt σ2 H3 fun b H4 =>
    if b = true then te σ2 H4 fun y H5 => ∃ acc, H5 D = some (.lst acc) /\ acc.length < sizeLine /\ Pv (upd H5 D (.lst (acc ++ [y]))) else Pv H4)
  (done : ∀ us H2, SB ps H H2 -> H2 D = some (.lst us) -> R n us H2 -> us.length <= n -> Qd H2) :
  ∃ W : Nat -> Nat -> Hp -> Prop, (∃ m, W 0 m (upd H D (.lst []))) /\ ∀ i m H, W i m H ->
   (J.stop i H /\ Qd H) \/ (J.go i H /\ ∃ Nx : Hp -> Prop, (∀ H', Nx H' -> ∃ m', m' < m /\ W (i + 1) m' H') /\ ∀ x H', J.yld i H x H' -> g x (wipe σ vs) H' fun σ2 H2 => wipe σ2 vs = wipe σ vs /\ tt σ2 H2 fun b H3 =>
    if b = true then te σ2 H3 fun y H4 => ∃ acc, H4 D = some (.lst acc) /\ acc.length < sizeLine /\ Nx (upd H4 D (.lst (acc ++ [y]))) else Nx H3) := by
 have nD : D ∉ ps := fun z => hps D z hD
 have up : ∀ {H1 H2 : Hp}, SB ps H1 H2 -> SB (D :: ps) H1 H2 := fun e => e.mono fun b hb => mcm _ hb
 have up1 : ∀ {H1 H2 : Hp}, SB [D] H1 H2 -> SB (D :: ps) H1 H2 := fun e => e.mono fun b hb => by rw [List.mem_singleton.mp hb]; exact mcs ..
 refine lc_it w (fun i H2 => SB (D :: ps) H H2 /\ ∃ us, H2 D = some (.lst us) /\ R i us H2 /\ us.length <= i) ⟨SB.new hD _, [], upd_same, st _ _ _ _ (SB.new hD _) h0, Nat.le_refl _⟩ (fun i H2 _ h => hG H2 (h.1.drop hD)) (fun i x H2 H' hi h y => ?_) (fun H2 h => ?_)
 ·obtain ⟨s2, us, hD2, hR, hl⟩ := h
  refine turn _ i x H2 H' us hi (s2.drop hD) y hR hl hD2 (fun y H5 s5 r5 => ?_) (fun H4 s4 r4 => ⟨s2.trans (up s4), us, s4.keep _ _ hD2 nD, r4, by omega⟩)
  have hD5 := s5.keep _ _ hD2 nD
  refine ⟨us, hD5, by omega, (s2.trans (up s5)).trans (SB.set hD5 (by simp) _), _, upd_same, st _ _ _ _ (SB.set hD5 (by simp) _) r5, ?_⟩
  rw [List.length_append, List.length_singleton]; omega
 ·obtain ⟨s2, us, hD2, hR, hl⟩ := h
  exact done us H2 (s2.drop hD) hD2 hR hl
end
section
variable {K : PySem.W.Frag} {H H' : Hp}
theorem Bears_dp {α : Type} {enc : α -> PyData} : ∀ {vs : List V} {xs : List α}, Bears K H enc vs xs -> DpAll K H vs (xs.map enc)
 | _, _, .nil => .nil
 | _, _, .cons h t => .cons h (Bears_dp t)
end
theorem shaped_pl {d : PyData} (h : plS d = true) (hd : d.depth <= 64) : SeqAt.shaped d = true := by
 unfold SeqAt.shaped
 rw [plS_lay d h, Bool.true_and]
 exact decide_eq_true hd
open TL (tl)
theorem seq_via {t rest : TS} {D : Ends} {σ : L2.St} {H : Hp} (R : L2.St -> Hp -> Prop) (h : ∀ nx : L2.St -> Hp -> Prop, (∀ σ' H', R σ' H' -> nx σ' H') -> t { D with nx := nx } σ H) (k : ∀ σ' H', R σ' H' -> rest D σ' H') : tSeq t rest D σ H := h (rest D) k
theorem nameI {i : Nat} {v : V} {σ : L2.St} {H : Hp} {f : L2.St -> Hp -> Prop} {r : VK} {b c : L2.St -> Hp -> Prop} (h : f (σ.set i (some v)) H) : gName i v σ H (Ends.mk f r b c).nx := h
abbrev rListOf (K : PySem.W.Frag) : List V -> Hp -> VK -> Prop := fun xs H Q => ∃ p ys, xs = [.ref p] /\ (SqL K H p ys \/ SqT K H p ys) /\ ∀ l, H l = none -> Q (.ref l) (upd H l (.lst ys))
theorem Bk.Ok.two {b : Bk} (ok : b.Ok) : ∀ k ∈ b, k.rs.length <= 4 /\ ∀ r ∈ k.rs, RuOk r := fun k hk => ⟨(ok.kd k hk).2.1, fun r hr => ((ok.kd k hk).2.2 r hr).1⟩
theorem Bk.Ok.three {b : Bk} (ok : b.Ok) : ∀ k ∈ b, NameOk k.n /\ ∀ r ∈ k.rs, RuOk r := fun k hk => ⟨(ok.kd k hk).1, (ok.two k hk).2⟩
theorem make_core {K : PySem.W.Frag} {C B : Addr} {b : Bk} {H : Hp} {l : Addr} {xs : List V} {bad : List Addr} {Q : VK} {E : XK} (hl : H l = some (.lst xs)) (ha : KdAll K H bad xs b) (ok : b.Ok) (k : ∀ y H', SB [] H H' -> H y = none -> BkA K C H' (.ref y) b -> Q (.ref y) H') :
  ∀ y dx, H y = none -> H dx = none -> dx ≠ y -> spBInit K C B (.ref y :: [.ref l]) (upd (upd H dx (.own y)) y (.ins C dx [])) (fun v H2 => v = .non /\ Q (.ref y) H2) E := by
 intro y dx hy hdx hne
 have b8 := ok.len
 have hy' : upd H dx (.own y) y = none := by rw [upd_ne (fun z => hne z.symm)]; exact hy
 have t4 := (SB.new (ps := []) hdx (.own y)).trans (SB.new hy' (.ins C dx []))
 have hdx4 : upd (upd H dx (.own y)) y (.ins C dx []) dx = some (.own y) := by rw [upd_ne hne, upd_same]
 have hx4 : upd (upd H dx (.own y)) y (.ins C dx []) y = some (.ins C dx []) := upd_same
 refine ⟨y, dx, l, xs, b.map Kd.kt, rfl, hx4, hdx4, t4.keep _ _ hl nmn, (ha.sb t4 NoLst.nil).kt ok.three, fun t ht => ?_, by rw [List.length_map]; omega, fun b' e ok' H5 s5 hbk => ?_, fun z => absurd ⟨b, rfl, ok⟩ z⟩
 ·obtain ⟨k, hk, rfl⟩ := List.mem_map.mp ht
  exact KTFit_of (ok.two k hk)
 ·have e := kts_inj e
  subst e
  exact ⟨rfl, k y H5 (((t4.nil (ps := [y])).trans s5).drop hy) hy hbk⟩
theorem log_lt {x : Int} {a b : Nat} (h : x.natAbs < 2 ^ a) (hb : a <= b) (h0 : 0 < a) : x.natAbs.log2 < b := by
 by_cases e : x.natAbs = 0
 ·rw [e]; simp [Nat.log2_zero]; omega
 ·exact Nat.lt_of_lt_of_le ((Nat.log2_lt e).mpr h) hb
open PySem.Froz (SD sObj TxOk addTx tailTx)
structure TxS (P : Program) (w : World) (D : SD) (l : List Str) : Prop where
 ok : TxOk P w D l
 nd : l.Nodup
 ris : Ris D.2.2.place.toList
 led : w.params.followText "set-order" = true \/ D.2.2.led = true
def insS (k : Str) (l : List Str) : List Str := if k ∈ l then l else k :: l
section
variable {P : Program} {w : World} {A : Around} {E : Value -> Shared -> Prop} {s : Shared} {D : SD} {l : List Str} {k : Str} {u : Tok} {a : Addr} {T : String}
theorem tail_walk {es : Array (Int × Value)} {ep : Nat} {t : SetTable} {b : Bool} (r : Ris t.place.toList) (d : w.params.followText "set-order" = true \/ t.led = true) :
  Ris (tailTx ep es t b).2.2.place.toList /\ (w.params.followText "set-order" = true \/ (tailTx ep es t b).2.2.led = true) := by
 unfold tailTx
 split
 ·exact ⟨relayAll_ris .., d.imp id fun z => by rw [relayAll_led]; exact z⟩
 ·exact ⟨r, d⟩
theorem TxS.add (F : TxS P w D l) (hk : k ∉ l) : TxS P w (addTx (hashStr w k) (.str k u) D) (k :: l) := by
 obtain ⟨es, ep, t⟩ := D
 have r1 := layNew_ris t es (hashStr w k) (.str k u) F.ris
 have d1 := F.led.imp id fun z => (layNew_led t es (hashStr w k) (.str k u)).trans z
 have key : ∀ t' : SetTable, t'.place = (layNew t es (hashStr w k) (.str k u)).2.1.place -> t'.led = (layNew t es (hashStr w k) (.str k u)).2.1.led -> ∀ es' b, Ris (tailTx ep es' t' b).2.2.place.toList /\ (w.params.followText "set-order" = true \/ (tailTx ep es' t' b).2.2.led = true) :=
  fun t' e1 e2 es' b => tail_walk (by rw [e1]; exact r1) (by rw [e2]; exact d1)
 have z := key (if (layNew t es (hashStr w k) (.str k u)).2.1.plain = true then { (layNew t es (hashStr w k) (.str k u)).2.1 with plain := false } else (layNew t es (hashStr w k) (.str k u)).2.1) (by split <;> rfl) (by split <;> rfl) (layNew t es (hashStr w k) (.str k u)).1 (layNew t es (hashStr w k) (.str k u)).2.2.1
 exact ⟨PySem.Froz.add_ok u F.ok, List.nodup_cons.mpr ⟨hk, F.nd⟩, z.1, z.2⟩
theorem add_there {Q : Bool -> Shared -> Prop} (ho : s.heap.get? a = some (sObj T D)) (F : TxOk P w D l) (hk : k ∈ l) (hb : l.length < scanBound) (h : Q false s) : wpAny (model P w) A (setAddHashed a (.str k u) (hashStr w k)) Q E s := by
 obtain ⟨es, ep, t⟩ := D
 have hd : (sObj T (es, ep, t)).data = .set es ep t := rfl
 have hel : ElemsOf (strKind P w) es.toList := F.el
 have hsz : es.size = l.length := F.sz
 have is0 : (strKind P w).is k (.str k u) = true := PySem.Froz.is_str k u
 obtain ⟨j, hj⟩ : ∃ j, List.findIdx? (fun e => (strKind P w).is k e.2) es.toList = some j := by
  cases e : List.findIdx? (fun e => (strKind P w).is k e.2) es.toList with
  | some j => exact ⟨j, rfl⟩
  | none =>
   obtain ⟨x, hx, hi⟩ := (F.mem k).mp hk
   have := List.findIdx?_eq_none_iff.mp e x hx
   rw [hi] at this
   cases this
 unfold setAddHashed setAddHashedIn
 refine wpAny_holding (wpAny_bind (wpAny_setState_of ho hd F.fit ?_))
 dsimp only
 rw [byScan_of rfl (by rw [hsz]; exact hb) hel]
 simp only [↓reduceIte]
 unfold setAddByScan
 refine wpAny_bind (wpAny_bind (wpAny_rule (wpAny_bind (wpAny_setScan_of (knd := strKind P w) (k := k) is0 ho hd F.fit hel ?_))))
 rw [hj]
 exact wpAny_pure (wpAny_pure h)
theorem add_any {Q : Bool -> Shared -> Prop} (ho : s.heap.get? a = some (sObj T D)) (F : TxS P w D l) (hb : l.length + 1 < scanBound)
  (h : ∀ (b : Bool) (h' : Heap) (D' : SD), Heap.SameBut a s.heap h' -> h'.get? a = some (sObj T D') -> TxS P w D' (insS k l) -> Q b { s with heap := h' }) : wpAny (model P w) A (setAddHashed a (.str k u) (hashStr w k)) Q E s := by
 by_cases hk : k ∈ l
 ·refine add_there ho F.ok hk (by omega) (h false s.heap D (Heap.SameBut.refl a s.heap) ho ?_)
  unfold insS
  rw [if_pos hk]
  exact F
 ·refine PySem.Froz.add_x ho F.ok hk hb (h true _ _ (Heap.SameBut.update ..) (PySem.Froz.get_upd _ ho rfl) ?_)
  unfold insS
  rw [if_neg hk]
  exact F.add hk
end
section
variable {P : Program} {w : World} {A : Around} {E : Value -> Shared -> Prop} {s : Shared} {D : SD} {l : List Str} {k : Str} {u : Tok} {a : Addr}
theorem call_add {Q : Value -> Shared -> Prop} (ho : s.heap.get? a = some (sObj "set" D)) (F : TxS P w D l) (hb : l.length + 1 < scanBound)
  (h : ∀ (h' : Heap) (D' : SD), Heap.SameBut a s.heap h' -> h'.get? a = some (sObj "set" D') -> TxS P w D' (insS k l) -> Q .none { s with heap := h', toks := s.toks + 1 }) : wpAny (model P w) A (call (.builtin "set.add") [.ref a, .str k u]) Q E s := by
 refine wpAny_call_entry PySem.F.slot_set_add ⟨_, ho, rfl⟩ PySem.F.entry_set_add ?_ (PySem.F.args_set_add_2 _ _)
 unfold Builtin.«set.add» Builtin.Frozenset.oneOther
 simp only [List.isEmpty_nil, bind_assoc]
 unfold Builtin.Frozenset.addrOf setAdd
 refine wpAny_bind (wpAny_pure ?_)
 try dsimp only
 refine wpAny_bind (wpAny_pure ?_)
 try dsimp only
 refine wpAny_bind (wpAny_holding (wpAny_bind ((strKind P w).pyHash (k := k) (PySem.Froz.is_str k u) ?_)))
 refine add_any (s := { s with toks := s.toks + 1 }) ho F hb fun b h' D' sb o' F' => ?_
 refine (?_ : wpAny (model P w) _ (ret Value.none) _ E _)
 exact wpAny_pure ⟨_, rfl, h h' D' sb o' F'⟩
end
def SetSO (P : Program) (w : World) (a : Addr) (l : List Str) : HO := .ext fun h => ∃ D : SD, h.get? a = some (sObj "set" D) /\ TxS P w D l
theorem setSO_new {P : Program} {w : World} {H : Hp} {h : Heap} {a : Addr} {l : List Str} {D : SD} (ho : h.get? a = some (sObj "set" D)) (F : TxS P w D l) : ObjOk P w H h a (SetSO P w a l) :=
 ⟨⟨D, ho, F⟩, ⟨_, ho⟩, fun h1 h2 ⟨D', q, F'⟩ k => ⟨D', k _ q, F'⟩⟩
section
variable {X : Cx} {pins : List (Addr × Obj)} {σ : L2.St} {H : Hp} {s : Shared} {l : List Str}
theorem setSO_get {a : Addr} (I : Inv X pins σ H s) (ha : H a = some (SetSO X.prog X.w a l)) : ∃ D : SD, s.heap.get? a = some (sObj "set" D) /\ TxS X.prog X.w D l := (I.hok a _ ha).1
theorem addS_ok {E : Value -> Shared -> Prop} {a : Addr} {k : Str} {u : Tok} {Q : Value -> Shared -> Prop} (I : Inv X pins σ H s) (ha : H a = some (SetSO X.prog X.w a l)) (room : l.length + 1 < scanBound)
  (h : ∀ s', Inv X pins σ (upd H a (SetSO X.prog X.w a (insS k l))) s' -> Q .none s') : wpAny (model X.prog X.w) X.A (call (.builtin "set.add") [.ref a, .str k u]) Q E s := by
 obtain ⟨D, ho, F⟩ := setSO_get I ha
 refine call_add ho F room fun h' D' sb o' F' => ?_
 exact h _ (I.write (e := a) (t' := s.toks + 1) (by rw [ha]; trivial) (.inl rfl) (fun b o hb hu => (sb.2 b hb).trans hu) ⟨_, o'⟩ (setSO_new o' F'))
end
theorem fresh_txs (P : Program) (w : World) : TxS P w (#[], 0, .fresh 0 0 (!w.params.followText "set-order")) [] := by
 refine ⟨PySem.Froz.TxOk.nil rfl, List.nodup_nil, List.Pairwise.nil, ?_⟩
 show _ \/ (!w.params.followText "set-order") = true
 cases w.params.followText "set-order"
 ·exact .inr rfl
 ·exact .inl rfl
theorem is_shape {P : Program} {w : World} {k : Str} {v : Value} (h : (strKind P w).is k v = true) : ∃ tk, v = Value.str k tk := by
 have h : Value.isStrOf k v = true := h
 cases v <;> simp [Value.isStrOf] at h
 exact ⟨_, by rw [h]⟩
theorem strs_of : ∀ (l : List Value), (∀ v ∈ l, ∃ k tk, v = Value.str k tk) -> ∃ ss : List Str, StrsAre l ss /\ ∀ k, k ∈ ss ↔ ∃ v ∈ l, ∃ tk, v = Value.str k tk
 | [], _ => ⟨[], .nil, fun k => by simp⟩
 | v :: r, h => by
  obtain ⟨k, tk, rfl⟩ := h v (mcs ..)
  obtain ⟨ss, h1, h2⟩ := strs_of r fun x hx => h x (mcm _ hx)
  refine ⟨k :: ss, .cons k tk h1, fun j => ?_⟩
  rw [List.mem_cons, h2 j]
  refine ⟨fun z => ?_, fun ⟨x, hx, t', e⟩ => ?_⟩
  ·rcases z with rfl | ⟨x, hx, e⟩
   ·exact ⟨_, mcs .., tk, rfl⟩
   ·exact ⟨x, mcm _ hx, e⟩
  ·rcases List.mem_cons.mp hx with q | q
   ·rw [q] at e; cases e; exact .inl rfl
   ·exact .inr ⟨x, q, t', e⟩
theorem perm_of {α : Type} : ∀ {a b : List α}, b.Nodup -> a.length = b.length -> (∀ k, k ∈ b -> k ∈ a) -> a.Perm b
 | a, [], _, hl, _ => by
  have : a = [] := List.eq_nil_of_length_eq_zero hl
  rw [this]
 | a, x :: b, nd, hl, hm => by
  obtain ⟨p, q, e⟩ := List.append_of_mem (hm x (mcs ..))
  subst e
  obtain ⟨n1, n2⟩ := List.nodup_cons.mp nd
  have ih := perm_of (a := p ++ q) (b := b) n2 (by simp at hl ⊢; omega) fun k hk => by
   have hx : k ≠ x := fun z => n1 (z ▸ hk)
   have := hm k (mcm _ hk)
   simp only [List.mem_append, List.mem_cons] at this ⊢
   rcases this with z | z | z
   ·exact .inl z
   ·exact absurd z hx
   ·exact .inr z
  exact List.perm_middle.trans (ih.cons x)
section
variable {P : Program} {w : World} {A : Around} {E : Value -> Shared -> Prop} {s : Shared} {D : SD} {l : List Str} {a : Addr}
theorem sorted_txt {Q : Value -> Shared -> Prop} (hh : A.handled = none) (ho : s.heap.get? a = some (sObj "set" D)) (F : TxS P w D l) (h64 : l.length < 64)
  (h : ∀ (s' : Shared) (p : Addr) (out : Array Value) (c : Nat) (ss : List Str), (∀ b o, s.heap.get? b = some o -> s'.heap.get? b = some o) -> s'.gens = s.gens -> s'.os = s.os -> s.heap.objs.size <= p -> s'.heap.get? p = some (seqObj "list" out c) -> StrsAre out.toList ss -> ss.Perm l -> sortedS ss = true -> Q (.ref p) s') :
  wpAny (model P w) A (call (.builtin "sorted") [.ref a]) Q E s := by
 obtain ⟨es, ep, t⟩ := D
 have hsz : es.size = l.length := F.ok.sz
 have hsc : es.size < scanBound := by rw [hsz]; unfold scanBound; omega
 refine Calls.call_function_entry kind_sorted plain_sorted entry_sorted (args_sorted1 _) ?_
 unfold Builtin.«sorted»
 refine wpAny_bind (m := checkCount "sorted" 1 1 _) (wpAny_pure ?_)
 refine wpAny_bind (collect_set (A := A.in1) hh ⟨_, ho, rfl, rfl⟩ F.ok.fit hsc F.ris F.led fun s1 vs k1 z1 g1 o1 pm => ?_)
 have vl : vs.length = l.length := by rw [pm.length_eq, List.length_map, Array.length_toList, hsz]
 have shape : ∀ v ∈ vs, ∃ k tk, v = Value.str k tk := fun v hv => by
  obtain ⟨e, he, rfl⟩ := List.mem_map.mp (pm.mem_iff.mp hv)
  obtain ⟨⟨k, hk, _⟩, _⟩ := F.ok.el e he
  obtain ⟨tk, q⟩ := is_shape hk
  exact ⟨k, tk, q⟩
 obtain ⟨ss, hS, hmem⟩ := strs_of vs shape
 have hp : ss.Perm l := by
  refine perm_of F.nd (by rw [<- hS.length]; exact vl) fun k hk => ?_
  obtain ⟨e, he, hi⟩ := (F.ok.mem k).mp hk
  obtain ⟨tk, q⟩ := is_shape hi
  exact (hmem k).mpr ⟨e.2, pm.mem_iff.mpr (List.mem_map_of_mem he), tk, q⟩
 refine wpAny_bind (wpAny_newList ?_ (by rw [vl, sizeLine_eq]; omega))
 have at1 : (s1.heap.push (seqObj "list" vs.toArray 0)).get? s1.heap.objs.size = some (seqObj "list" vs.toArray 0) := Heap.get?_push_size _ rfl
 refine wpAny_bind (wpAny_holding (wpAny_call_entry slot_list_sort ⟨_, at1, rfl⟩ entry_list_sort (list_sort_treeK strKind_oneLt at1 hS.keysOf (fun v1 v2 r e => keyKind_strs (by rw [<- e]; exact hS)) (by rw [vl]; exact h64) fun st' p1 p2 => ⟨_, rfl, ?_⟩) (args_list_sort _)))
 obtain ⟨ss', q1, q2, q3⟩ := sorted_out_str hS p1 p2
 obtain ⟨c, hc⟩ := sortedHeap_at (vs := vs) (out := (arrOf st').map (·.2)) at1
 refine wpAny_pure ⟨_, rfl, h _ s1.heap.objs.size _ c ss' (fun b o e => ?_) g1 o1 z1 hc q1 (q2.trans hp) q3⟩
 have e1 := k1 b o e
 have lt := Heap.lt_size e1
 show (sortedHeap (s1.heap.push (seqObj "list" vs.toArray 0)) s1.heap.objs.size vs _).get? b = some o
 rw [sortedHeap_old (Nat.ne_of_lt lt) (by rw [size_push']; exact Nat.lt_succ_of_lt lt)]
 exact Heap.get?_push_of_some _ e1
end
section
variable {X : Cx}
def rSortedTx (P : Program) (w : World) : List V -> Hp -> VK -> Prop := fun vs H Q => ∃ (a : Addr) (l : List Str), vs = [.ref a] /\ H a = some (SetSO P w a l) /\ l.length < 64 /\ ∀ (ss : List Str) (p : Addr), ss.Perm l -> sortedS ss = true -> H p = none -> Q (.ref p) (upd H p (.lst (ss.map V.str)))
theorem cr_sortedTx (hc : X.calm = true) : CallR X (.builtin "sorted") (rSortedTx X.prog X.w) := by
 intro pins s σ H vs us Q I r h
 obtain ⟨a, l, rfl, ha, h64, q⟩ := h
 obtain ⟨D, ho, F⟩ := setSO_get I ha
 rw [Vals.ref1 r]
 refine sorted_txt (I.ok.hd hc) ho F h64 fun s' p out c ss kp eg eo hp at' hS pm srt => ?_
 have hn : H p = none := I.hok.fresh hp
 have hz : (ss.map V.str).length <= sizeLine := by rw [List.length_map, pm.length_eq, sizeLine_eq]; omega
 obtain ⟨h', g', d', tk', os'⟩ := s'
 have eo : os' = s.os := eo
 subst eo
 exact ⟨.ref p, upd H p (.lst (ss.map V.str)), I.call (ch := []) (Un.laid kp hp hn) (I.hok.laid kp hp ⟨hz, out.toList, c, vals_of_strs hS, at'⟩) (by rw [show g' = s.gens from eg]; exact I.bare) (fun _ z => nomatch z), rfl, q ss p pm srt hn⟩
end
section
variable {X : Cx}
def tScS (P : Program) (w : World) (wi : TI) (g : TG) (tt : TT) (te : TE) (vs : List Nat) : TE := fun σ H Q => wi σ H fun J H1 => ∀ D, H1 D = none -> ∃ W : Nat -> Nat -> Hp -> Prop, (∃ m, W 0 m (upd H1 D (SetSO P w D []))) /\ ∀ i m Hi, W i m Hi ->
 (J.stop i Hi /\ Q (.ref D) Hi) \/ (J.go i Hi /\ ∃ Nx : Hp -> Prop, (∀ H', Nx H' -> ∃ m', m' < m /\ W (i + 1) m' H') /\ ∀ x H', J.yld i Hi x H' -> g x (wipe σ vs) H' fun σ2 H2 => wipe σ2 vs = wipe σ vs /\ tt σ2 H2 fun b H3 =>
  if b = true then te σ2 H3 fun y H4 => ∃ (z : Str) (l : List Str), y = .str z /\ H4 D = some (SetSO P w D l) /\ l.length + 1 < scanBound /\ Nx (upd H4 D (SetSO P w D (insS z l))) else Nx H3)
theorem pe_scS {elt tg iter : Expr} {ifs : List Expr} {scope : Scope} {own : List (PySem.Str × Nat)} {pos : Pos} {wi : TI} {g : TG} {tt : TT} {te : TE} (hc : X.calm = true) (hN : X.N.Nodup) (hi : PI X tg iter wi) (ok : BlkOk X.N X.env.scope scope own)
  (hg : ∀ (s1 : Shared) (H1 : Hp) (C : Addr) (cl : List (PySem.Str × Addr)) (fp : List Addr), L2.PG (X.blk s1 H1 scope (compEnvC scope cl C X.env) fp) tg g) (ht : ∀ (s1 : Shared) (H1 : Hp) (C : Addr) (cl : List (PySem.Str × Addr)) (fp : List Addr), L2.PTs (X.blk s1 H1 scope (compEnvC scope cl C X.env) fp) ifs tt)
  (he : ∀ (s1 : Shared) (H1 : Hp) (C : Addr) (cl : List (PySem.Str × Addr)) (fp : List Addr), L2.PE (X.blk s1 H1 scope (compEnvC scope cl C X.env) fp) elt te) (hs : ∀ x, foldedSetIterable iter X.env x = pure x := by intro _; rfl) :
  PE X (.SetComp elt [⟨tg, iter, ifs, 0⟩] scope pos) (tScS X.prog X.w wi g tt te (own.map (·.2))) := by
 refine ⟨fun pins s σ H Q I h => ?_⟩
 rw [PpSet.eval_SetComp]
 have clo : ∀ y ∈ scope.names, y.2 = .free -> ∃ c, X.env.cells.lookup y.1 = some c := fun y hy e => (ok.free y hy e).elim (fun k => I.ok.has _ (.inl k)) fun k => I.ok.has _ (.inr k)
 refine wpAny_comprehension_free (use := none) rfl hs (closure_ok clo) ok.kind (fun y hy e => by rw [ok.uniq y hy, e]) (thn (hi.run pins s σ H _ I h) fun xv s1 hx => thn hx fun itv s2 got => ?_)
 obtain ⟨it, fp, tn, J, Ha, e0, Ia, Tn, sta, fpa, walk⟩ := got
 subst e0
 refine PpSet.newSet_ok (newEnv_comp ?_)
 -- the new set, at the heap's end
 generalize eD : s2.heap.objs.size = D
 have freeD : Ha D = none := Ia.hok.fresh (Nat.le_of_eq eD)
 obtain ⟨W, ⟨m0, w0⟩, turn⟩ := walk D freeD
 generalize eb : ({ s2 with heap := s2.heap.push { cls := .type "set", dict := none, data := .set #[] 0 (.fresh 0 0 (!X.w.params.followText "set-order")) } } : Shared) = sb
 have hpb : sb.heap = s2.heap.push { cls := .type "set", dict := none, data := .set #[] 0 (.fresh 0 0 (!X.w.params.followText "set-order")) } := by rw [<- eb]
 have Ib : Inv X pins σ (upd Ha D (SetSO X.prog X.w D [])) sb := by
  rw [<- eb]
  refine Ia.laid (t' := s2.toks) (fun b o e => Heap.get?_push_of_some _ e) (Nat.le_of_eq eD) ?_
  rw [<- eD]
  exact setSO_new (Heap.get?_push_size _ rfl) (fresh_txs X.prog X.w)
 have low : ∀ b ∈ fp, b < s2.heap.objs.size := fun b hb => let ⟨o, e, _⟩ := Tn.obj _ _ sta b hb; Heap.lt_size e
 have fpb : ∀ b ∈ fp, FpOk X pins (upd Ha D (SetSO X.prog X.w D [])) b /\ b < sb.heap.objs.size := fun b hb => by
  refine ⟨⟨?_, (fpa b hb).2⟩, by rw [hpb, Heap.size_push]; exact Nat.lt_succ_of_lt (low b hb)⟩
  rw [upd_ne (by rw [<- eD]; exact Nat.ne_of_lt (low b hb))]
  exact (fpa b hb).1
 have stb : tn 0 sb.heap := Tn.keep _ _ _ sta fun b _ o e => by rw [hpb]; exact Heap.get?_push_of_some _ e
 have Ic := block_start Ib ok hN fpb
 generalize eHb : upd Ha D (SetSO X.prog X.w D []) = Hb at Ib Ic w0 fpb
 have pg := hg sb Hb sb.heap.objs.size (cellsFrom (sb.heap.objs.size + 1) scope.names (cloFrom X.env.cells scope.names [])) fp
 have pt := ht sb Hb sb.heap.objs.size (cellsFrom (sb.heap.objs.size + 1) scope.names (cloFrom X.env.cells scope.names [])) fp
 have pe := he sb Hb sb.heap.objs.size (cellsFrom (sb.heap.objs.size + 1) scope.names (cloFrom X.env.cells scope.names [])) fp
 show codeAny (model X.prog X.w) X.A (.compStart (.SetComp elt [⟨tg, iter, ifs, 0⟩] scope pos) 0 (.ref it) (.ref D) (compEnvC scope (cellsFrom (sb.heap.objs.size + 1) scope.names (cloFrom X.env.cells scope.names [])) sb.heap.objs.size X.env)) (compPost (model X.prog X.w) X.A X.xe none (EP X pins σ Q) (.ref D) sb.heap.objs.size) { sb with heap := pushCells (sb.heap.push { cls := .type "dict", data := .dict #[] }) scope.names }
 have noneF : ∀ b ∈ fp, Hb b = none := fun b hb => (fpb b hb).1.1
 generalize ece : compEnvC scope (cellsFrom (sb.heap.objs.size + 1) scope.names (cloFrom X.env.cells scope.names [])) sb.heap.objs.size X.env = ce at Ic pg pt pe ⊢
 have ecl : ce.locals = sb.heap.objs.size := by subst ece; rfl
 generalize esc : ({ sb with heap := pushCells (sb.heap.push { cls := .type "dict", data := .dict #[] }) scope.names } : Shared) = sc at Ic ⊢
 have stc : tn 0 sc.heap := Tn.keep _ _ _ stb fun b _ o e => by rw [<- esc]; exact pushCells_keeps _ _ _ _ (Heap.get?_push_of_some _ e)
 -- the block's context
 let XB : Cx := X.blk sb Hb scope ce fp
 have still : ∀ {τ : L2.St} {G : Hp} {t : Shared}, Inv XB [] τ G t -> (∀ b ∈ fp, G b = none) -> ∀ b ∈ fp, FpOk XB [] G b := fun {τ G t} I' hn b hb =>
  ⟨hn b hb, (I'.ok.exf b hb).1, I'.ok.exfs b hb, .inl hb, fun x c e => (I'.ok.exf b hb).2 x c e, fun p hp => absurd (show p ∈ ([] : List (Addr × Obj)) ++ [] from hp) (by simp)⟩
 have loop : codeAny (model X.prog X.w) X.A (.compLoop (.SetComp elt [⟨tg, iter, ifs, 0⟩] scope pos) 0 (.ref it) (.ref D) ce) (compPost (model X.prog X.w) X.A X.xe none (EP X pins σ Q) (.ref D) sb.heap.objs.size) sc := by
  refine PpSet.compLoopS_any (fun n t => ∃ i G, Inv XB [] (wipe σ (own.map (·.2))) G t /\ tn i t.heap /\ (∀ b ∈ fp, G b = none) /\ W i n G) ?_ m0 ⟨0, Hb, Ic, stc, noneF, w0⟩
  rintro n t ⟨i, G, It, stt, nt, wt⟩
  rcases turn i n G wt with ⟨ends, qq⟩ | ⟨goes, Nx, hNx, step⟩
  ·refine thnF (Tn.done XB rfl rfl rfl hc i [] t _ G (fun _ _ => False) It (still It nt) stt ends) fun r t6 ⟨er, I6⟩ => ?_
   subst er
   have I7 : Inv X pins σ G t6 := Ib.call' (ch := fp) I6.os I6.base I6.hok I6.bare fun b hb => ⟨(fpb b hb).1.2.2.2.1, (fpb b hb).1.2.1, (fpb b hb).1.2.2.2.2.1, (fpb b hb).1.2.2.2.2.2⟩
   have nC : G sb.heap.objs.size = none := ecl ▸ (show G ce.locals = none from I6.free)
   obtain ⟨m, hn, _⟩ := I6.loc
   have hn : t6.heap.Ns sb.heap.objs.size m := ecl ▸ (show t6.heap.Ns ce.locals m from hn)
   obtain ⟨f0, f1, f2, f3, f4, f5⟩ := Ib.fpOk (Nat.le_refl _) nC
   exact ⟨m, hn, fun h'' same => ⟨.ref D, G, I7.turned (t' := t6.toks) (fun b o hb e => (same.2 b hb).trans e) f0 f1 f3 f4 f5, rfl, qq⟩⟩
  ·refine thnF (Tn.item XB rfl rfl rfl hc i [] t _ G (fun _ _ => False) It (still It nt) stt goes) fun r t6 ⟨u, er, h6⟩ => ?_
   subst er
   refine thnF h6 fun _ t7 ⟨x, G7, I7, r7, y7, st7, n7⟩ => ?_
   have P7 := I7.pinned (still I7 n7) (Tn.obj _ _ st7)
   refine thnF (pg.run _ t7 _ G7 x u _ P7 r7 (step x G7 y7)) fun _ t8 ⟨τ, G8, I8, hw, q8⟩ => ?_
   refine thnF (pt.run _ t8 τ G8 _ I8 q8) fun b t9 ⟨G9, I9, q9⟩ => ?_
   have back : ∀ {t' : Shared} {G' : Hp}, Inv XB ([] ++ pinsAt fp t7.heap) τ G' t' -> Nx G' -> ∃ m, m < n /\ ∃ i G, Inv XB [] (wipe σ (own.map (·.2))) G t' /\ tn i t'.heap /\ (∀ b ∈ fp, G b = none) /\ W i m G := fun {t' G'} I' nx => by
    obtain ⟨m', hm, w'⟩ := hNx G' nx
    have keep : ∀ b ∈ fp, ∀ o, t7.heap.get? b = some o -> t'.heap.get? b = some o /\ G' b = none := fun b hb o e =>
     have z := I'.pin (b, o) (List.mem_append_right _ (List.mem_append_right _ (mem_pinsAt hb e)))
     ⟨z.1, z.2.1⟩
    refine ⟨m', hm, i + 1, G', (I'.unpinned (pins := [])).weak (by rw [<- hw, wipe_length]) (fun j v e => (wipe_some (hw ▸ e)).1), Tn.keep _ _ _ st7 fun b hb o e => (keep b hb o e).1, fun b hb => ?_, w'⟩
    obtain ⟨o, e, _⟩ := Tn.obj _ _ st7 b hb
    exact (keep b hb o e).2
   cases b with
   | false => exact back I9 q9
   | true =>
    refine thnF (pe.run _ t9 τ G9 _ I9 q9) fun z t10 ⟨yv, G10, I10, r10, zz, l0, ey, hD10, room, nx⟩ => ?_
    subst ey
    obtain ⟨tk, rfl⟩ := r10
    exact addS_ok (X := XB) I10 hD10 room fun t11 I11 => back I11 nx
 exact PpSet.codeAny_compStart_set loop (Tn.self X.A 0 _ _ _ stc loop)
end
open PySem.Froz (SD sObj TxOk addTx tailTx)
theorem insS_mem {k x : Str} {l : List Str} : k ∈ insS x l ↔ k = x \/ k ∈ l := by
 unfold insS
 split
 ·rename_i h
  exact ⟨.inr, fun z => z.elim (fun e => e ▸ h) id⟩
 ·exact List.mem_cons
theorem insS_len (x : Str) (l : List Str) : (insS x l).length <= l.length + 1 := by
 unfold insS
 split
 ·omega
 ·simp
theorem rising_all : ∀ {l : List Str} {p : Str}, risingS p l = true -> ∀ x ∈ l, ¬ x.cps.toList < p.cps.toList
 | [], _, _, x, h => by cases h
 | y :: r, p, h, x, hx => by
  rw [risingS, Bool.and_eq_true, Bool.not_eq_true', ltCps_eq] at h
  have h1 : ¬ y.cps.toList < p.cps.toList := of_decide_eq_false h.1
  rcases List.mem_cons.mp hx with e | e
  ·rw [e]; exact h1
  ·exact List.le_trans h1 (rising_all h.2 x e)
theorem sortedS_tail {x : Str} {r : List Str} (h : sortedS (x :: r) = true) : sortedS r = true := by
 cases r with
 | nil => rfl
 | cons y s =>
  have h : risingS x (y :: s) = true := h
  rw [risingS, Bool.and_eq_true] at h
  exact h.2
def spManyP : Sp := fun vs H Q _ => ∃ (p : Addr) (m : Int), vs = [.ref p, .int m] /\ PuW H p /\ 9 <= m /\ m < 2 ^ 200 /\ ∀ r H', 1 <= r -> r <= m -> SB [p] H H' -> PuW H' p -> Q (.int r) H'
def spWood (K : PySem.W.Frag) (n : Nat) : Sp := fun vs H Q _ => ∃ (p l R : Addr) (ks : List Str) (a b low : Nat) (m : Int), vs = [.ref p, .ref l, .ref R, .int (low : Int), .int m] /\ PuW H p /\ H l = some (.lst (ks.map V.str)) /\ H R = some (.lst [.int (a : Int), .int (b : Int)]) /\ l ≠ p /\ l ≠ R /\ R ≠ p /\ (a <= 60 /\ 1 <= b /\ b <= 9) /\ (1 <= low /\ low <= n /\ low <= 12) /\ (9 <= m /\ m <= 10 ^ 30) /\ (ks.length <= 8 /\ ∀ k ∈ ks, NameOk k) /\
 ∀ (v : V) (g : Gr) (a' : Nat) (H' : Hp), SB [p, R] H H' -> PuW H' p -> H' R = some (.lst [.int (a' : Int), .int (b : Int)]) -> GA K H' v g -> g.Ok (m + 1) -> g.parts + a' <= a -> g.deep <= low -> (∀ q ∈ g.within, q.1.1 ∈ ks) -> Q v H'
def spKindsP (K : PySem.W.Frag) : Sp := fun vs H Q _ => ∃ (a l : Addr) (ns : List Int) (ks : List Str), vs = [.ref a, .ref l] /\ SqL K H a (ns.map V.int) /\ ns.length <= 63 /\ H l = some (.lst (ks.map V.str)) /\ 1 <= ks.length /\ ks.length <= 8 /\ ks.Nodup /\ (∀ k ∈ ks, NameOk k) /\
 ∀ (d : Addr) (xs : List V) (b : Bk) (H' : Hp), SB [] H H' -> H d = none -> H' d = some (.lst xs) -> KdAll K H' [d] xs b -> b.Ok -> b.names.Perm ks -> Q (.ref d) H'
def spKindP (K : PySem.W.Frag) : Sp := fun vs H Q _ => ∃ (l : Addr) (xs : List V) (b : Bk) (k : Kd), vs = [.ref l, .str k.n] /\ H l = some (.lst xs) /\ KdAll K H [] xs b /\ k ∈ b /\ b.names.Nodup /\ b.length <= 8 /\ ∀ (v : V) (H' : Hp), SB [] H H' -> KdA K H' [] v k -> Q v H'
theorem step_inj {b s i j : Nat} (hs : s = 1 \/ s = 3 \/ s = 5 \/ s = 7 \/ s = 9 \/ s = 11 \/ s = 15 \/ s = 17) (hi : i < 8) (hj : j < 8) (e : (b + s * i) % 26 = (b + s * j) % 26) : i = j := by
 rcases hs with rfl | rfl | rfl | rfl | rfl | rfl | rfl | rfl <;> omega
section
variable {J : It} {n : Nat} {G : Hp -> Prop} {Y : Nat -> Hp -> V -> Hp -> Prop} {P : Program} {w' : World}
theorem SetSO.noTup {a : Addr} {l : List Str} : (∀ xs, SetSO P w' a l ≠ .tup xs) /\ ∀ u v, SetSO P w' a l ≠ .frz u v := ⟨(fun _ z => nomatch z), (fun _ _ z => nomatch z)⟩
theorem sc_seq (w : Walk J n G Y) {g : TG} {tt : TT} {te : TE} {vs : List Nat} {σ : L2.St} {H : Hp} {D : Addr} {Qd : Hp -> Prop} (hD : H D = none) (hn : n + 1 < scanBound) (R : Nat -> List Str -> Hp -> Prop) (h0 : R 0 [] H) (hG : ∀ H2, SB [] H H2 -> G H2)
  (st : ∀ i us H2 H3, SB [D] H2 H3 -> R i us H2 -> R i us H3)
  (turn : ∀ (Pv : Hp -> Prop) i x H2 H' us, i < n -> SB [] H H2 -> Y i H2 x H' -> R i us H2 -> us.length <= i -> (∀ z H5, SB [] H2 H5 -> R (i + 1) (insS z us) H5 -> ∃ (z' : Str) (l : List Str), V.str z = .str z' /\ H5 D = some (SetSO P w' D l) /\ l.length + 1 < scanBound /\ Pv (upd H5 D (SetSO P w' D (insS z' l)))) ->
   (∀ H4, SB [] H2 H4 -> R (i + 1) us H4 -> Pv H4) -> g x (wipe σ vs) H' fun σ2 H3 => wipe σ2 vs = wipe σ vs /\ tt σ2 H3 fun b H4 =>
    if b = true then te σ2 H4 fun y H5 => ∃ (z : Str) (l : List Str), y = .str z /\ H5 D = some (SetSO P w' D l) /\ l.length + 1 < scanBound /\ Pv (upd H5 D (SetSO P w' D (insS z l))) else Pv H4)
  (done : ∀ us H2, SB [] H H2 -> H2 D = some (SetSO P w' D us) -> R n us H2 -> us.length <= n -> Qd H2) :
  ∃ W : Nat -> Nat -> Hp -> Prop, (∃ m, W 0 m (upd H D (SetSO P w' D []))) /\ ∀ i m Hi, W i m Hi ->
   (J.stop i Hi /\ Qd Hi) \/ (J.go i Hi /\ ∃ Nx : Hp -> Prop, (∀ H', Nx H' -> ∃ m', m' < m /\ W (i + 1) m' H') /\ ∀ x H', J.yld i Hi x H' -> g x (wipe σ vs) H' fun σ2 H2 => wipe σ2 vs = wipe σ vs /\ tt σ2 H2 fun b H3 =>
    if b = true then te σ2 H3 fun y H4 => ∃ (z : Str) (l : List Str), y = .str z /\ H4 D = some (SetSO P w' D l) /\ l.length + 1 < scanBound /\ Nx (upd H4 D (SetSO P w' D (insS z l))) else Nx H3) := by
 refine lcG (body := fun Nx x H' => g x (wipe σ vs) H' fun σ2 H2 => wipe σ2 vs = wipe σ vs /\ tt σ2 H2 fun b H3 =>
    if b = true then te σ2 H3 fun y H4 => ∃ (z : Str) (l : List Str), y = .str z /\ H4 D = some (SetSO P w' D l) /\ l.length + 1 < scanBound /\ Nx (upd H4 D (SetSO P w' D (insS z l))) else Nx H3) w (fun i H2 => SB [D] H H2 /\ ∃ us, H2 D = some (SetSO P w' D us) /\ R i us H2 /\ us.length <= i) ⟨SB.new hD _, [], upd_same, st _ _ _ _ (SB.new hD _) h0, Nat.le_refl _⟩ (fun i H2 _ h => hG H2 (h.1.drop hD)) (fun i x H2 H' hi h y => ?_) (fun H2 h => ?_)
 ·obtain ⟨s2, us, hD2, hR, hl⟩ := h
  refine turn _ i x H2 H' us hi (s2.drop hD) y hR hl (fun z H5 s5 r5 => ?_) (fun H4 s4 r4 => ⟨s2.trans s4.nil, us, s4.keep _ _ hD2 nmn, r4, by omega⟩)
  have hD5 := s5.keep _ _ hD2 nmn
  have t6 : SB [D] H5 (upd H5 D (SetSO P w' D (insS z us))) := SB.setG hD5 (by simp) SetSO.noTup.1 SetSO.noTup.2 _
  refine ⟨z, us, rfl, hD5, by omega, (s2.trans s5.nil).trans t6, _, upd_same, st _ _ _ _ t6 r5, ?_⟩
  have := insS_len z us
  omega
 ·obtain ⟨s2, us, hD2, hR, hl⟩ := h
  exact done us H2 (s2.drop hD) hD2 hR hl
end
def spRulesN (K : PySem.W.Frag) (C N : Addr) : Sp := fun vs H Q E => ∃ (v : V) (b : Bk) (n : Str), vs = [v, .str n] /\ BkA K C H v b /\ b.length <= 1000 /\ (∀ k ∈ b, k.rs.length <= 1000) /\
 kindOr N b n H E fun k => ∀ (l : Addr) (us : List V) (H' : Hp), SB [] H H' -> H l = none -> H' l = some (.lst us) -> Bears K H' Ru.enc us ((.nil, .nil) :: k.rs) -> Q (.ref l) H'
def chE (c : Pl × Nat) : PyData := .tuple [plEnc c.1, .int (c.2 : Int)]
theorem chE_noList (c : Pl × Nat) : noList (chE c) = true := by simp [chE, noList, noLists, pl_noList]
def Gr.bk : Gr -> Nat -> List (Pl × Str)
 | .nil, _ => []
 | .cons k g _ r, i => (if g = .nil then [([i], k)] else (g.bk 0).map fun x => (i :: x.1, x.2)) ++ r.bk (i + 1)
def Bk.cnt (b : Bk) (n : Str) : Nat := match b.get n with
 | some k => 1 + k.rs.length
 | none => 0
def chs (b : Bk) (x : Pl × Str) : List (Pl × Nat) := (List.range (b.cnt x.2)).map fun r => (x.1, r)
def spChoices (K : PySem.W.Frag) (C N : Addr) : Sp := fun vs H Q E => ∃ (v w : V) (b : Bk) (g : Gr), vs = [v, w] /\ BkA K C H v b /\ GA K H w g /\ b.Ok /\ g.deep < 20 /\ g.parts <= 60 /\ (∀ x ∈ g.within, NameOk x.1.1) /\ (∀ x ∈ g.within, x.1.1 ∈ b.names) /\ ∀ (l : Addr) (us : List V) (H' : Hp), SB [] H H' -> H l = none -> H' l = some (.lst us) -> Bears K H' chE us ((g.bk 0).flatMap (chs b)) -> Q (.ref l) H'
def bkE (x : Pl × Str) : PyData := .tuple [plEnc x.1, .str x.2]
theorem bkE_noList (x : Pl × Str) : noList (bkE x) = true := by simp [bkE, noList, noLists, pl_noList]
namespace Gr
def ak : Gr -> Nat -> List (Pl × Str)
 | .nil, _ => []
 | .cons k g _ r, i => (([i], k) :: (g.ak 0).map fun x => (i :: x.1, x.2)) ++ r.ak (i + 1)
theorem ak_kinds : ∀ (g : Gr) (i : Nat), (g.ak i).map (·.2) = g.within.map (·.1.1)
 | .nil, _ => rfl
 | .cons k g m r, i => by
  have h1 := ak_kinds g 0
  have h2 := ak_kinds r (i + 1)
  show ((([i], k) :: (g.ak 0).map fun x => (i :: x.1, x.2)) ++ r.ak (i + 1)).map (·.2) = (((k, g), m) :: (g.within ++ r.within)).map (·.1.1)
  rw [List.map_append, List.map_cons, List.map_map, h2, List.map_cons, List.map_append, <- h1]
  rfl
theorem ak_long : ∀ (g : Gr) (i : Nat), ∀ x ∈ g.ak i, x.1.length <= g.deep
 | .nil, _, x, h => by cases h
 | .cons k g m r, i, x, h => by
  have h1 := ak_long g 0
  have h2 := ak_long r (i + 1)
  show x.1.length <= max (1 + g.deep) r.deep
  rcases List.mem_append.mp h with h | h
  ·rcases List.mem_cons.mp h with h | h
   ·rw [h]; show 1 <= _; omega
   ·obtain ⟨q, hq, rfl⟩ := List.mem_map.mp h
    have := h1 q hq
    show q.1.length + 1 <= _; omega
  ·have := h2 x h; omega
theorem lk_root {a b : Str} {g : Gr} {os : List (Option Int)} (h : os ≠ []) : lk (a, g) os = lk (b, g) os := by
 cases os with
 | nil => exact absurd rfl h
 | cons o r => rfl
theorem ak_at {G : Gr} : ∀ (g : Gr) (i : Nat), G.ps.drop i = g.ps -> ∀ x ∈ g.ak i, plO x.1 ≠ [] /\ ∃ t : Tr, lk ("", G) (plO x.1) = some t /\ t.1 = x.2
 | .nil, _, _, x, h => by cases h
 | .cons k g m r, i, hd, x, h => by
  have hd' : G.ps.drop i = ((k, g), m) :: r.ps := hd
  have hi : G.ps[i]? = some ((k, g), m) := by
   have := congrArg (·[0]?) hd'
   simpa using this
  have hs : stp G (some ((i : Nat) : Int)) = some (k, g) := by
   show (if (0 : Int) <= ((i : Nat) : Int) then (G.ps[((i : Nat) : Int).toNat]?).map (·.1) else none) = _
   rw [if_pos (by omega), Int.toNat_natCast, hi]; rfl
  rcases List.mem_append.mp h with h | h
  ·rcases List.mem_cons.mp h with h | h
   ·rw [h]
    refine ⟨by simp [plO], (k, g), ?_, rfl⟩
    show (stp G (some ((i : Nat) : Int))).bind _ = _
    rw [hs]; rfl
   ·obtain ⟨q, hq, rfl⟩ := List.mem_map.mp h
    obtain ⟨n1, t, e1, e2⟩ := ak_at (G := g) g 0 rfl q hq
    refine ⟨by simp [plO], t, ?_, e2⟩
    show (stp G (some ((i : Nat) : Int))).bind (fun u => lk u (plO q.1)) = _
    rw [hs]
    show lk (k, g) (plO q.1) = some t
    rw [lk_root (b := "") n1, e1]
  ·refine ak_at r (i + 1) ?_ x h
   rw [<- List.drop_drop, hd']; rfl
theorem ak_place (g : Gr) : ∀ x ∈ g.ak 0, plO x.1 ≠ [] /\ ∃ t : Tr, lk ("", g) (plO x.1) = some t /\ t.1 = x.2 := ak_at g 0 rfl
theorem deep_parts : ∀ g : Gr, g.deep <= g.parts
 | .nil => Nat.le_refl _
 | .cons k g m r => by
  have h1 := deep_parts g
  have h2 := deep_parts r
  show max (1 + g.deep) r.deep <= 1 + g.parts + r.parts
  omega
theorem bk_ak : ∀ (g : Gr) (i : Nat), ∀ x ∈ g.bk i, x ∈ g.ak i
 | .nil, _, x, h => by cases h
 | .cons k g m r, i, x, h => by
  have h1 := bk_ak g 0
  have h2 := bk_ak r (i + 1)
  rcases List.mem_append.mp h with h | h
  ·refine List.mem_append_left _ ?_
   by_cases hg : g = .nil
   ·rw [if_pos hg] at h
    rw [show x = ([i], k) by simpa using h]; exact mcs
   ·rw [if_neg hg] at h
    obtain ⟨q, hq, rfl⟩ := List.mem_map.mp h
    exact mcm _ (List.mem_map.mpr ⟨q, h1 q hq, rfl⟩)
  ·exact List.mem_append_right _ (h2 x h)
theorem bk_bp : ∀ (g : Gr) (i : Nat), (g.bk i).map (·.1) = g.bp i
 | .nil, _ => rfl
 | .cons k g m r, i => by
  have h1 := bk_bp g 0
  have h2 := bk_bp r (i + 1)
  show ((if g = .nil then [([i], k)] else (g.bk 0).map fun x => (i :: x.1, x.2)) ++ r.bk (i + 1)).map (·.1) = (if g = .nil then [[i]] else (g.bp 0).map (i :: ·)) ++ r.bp (i + 1)
  rw [List.map_append, h2]
  by_cases hg : g = .nil
  ·rw [if_pos hg, if_pos hg]; rfl
  ·rw [if_neg hg, if_neg hg, List.map_map, <- h1, List.map_map]; rfl
end Gr
structure SrtOf (ss ks : List Str) : Prop where
 srt : sortedS ss = true
 nd : ss.Nodup
 mem : ∀ x, x ∈ ss ↔ x ∈ ks
theorem insS_nodup {x : Str} {l : List Str} (h : l.Nodup) : (insS x l).Nodup := by
 unfold insS
 split
 ·exact h
 ·rename_i hx
  exact List.nodup_cons.mpr ⟨hx, h⟩
theorem SrtOf.perm {ss l ks : List Str} (pm : ss.Perm l) (s : sortedS ss = true) (nd : l.Nodup) (h : ∀ x, x ∈ l ↔ x ∈ ks) : SrtOf ss ks :=
 ⟨s, pm.nodup_iff.mpr nd, fun x => pm.mem_iff.trans (h x)⟩
def emptyB (K : PySem.W.Frag) (x : Addr) : Bool := match K.lookup x with
 | some o => (match o.cls, o.data with
  | .type t, .seq its _ => decide (t = "tuple") && decide (its.toList.length = 0)
  | _, _ => false)
 | none => false
def no2B (K : PySem.W.Frag) (a : Addr) : Bool := match K.lookup a with
 | some o => (match o.cls, o.data with
  | .type t, .seq its _ => decide (t = "tuple") && (match its.toList with
   | [.ref x, .ref y] => emptyB K x && emptyB K y
   | _ => false)
  | _, _ => false)
 | none => false
theorem emptyB_ok {K : PySem.W.Frag} {x : Addr} (h : emptyB K x = true) (H : Hp) : SqT K H x [] := by
 unfold emptyB at h
 split at h
 ·rename_i o ho
  split at h
  ·rename_i t its n hc hd
   rw [Bool.and_eq_true, decide_eq_true_eq, decide_eq_true_eq] at h
   have hz : its.size = 0 := by simpa using h.2
   have he : its.toList = [] := List.length_eq_zero_iff.mp h.2
   refine .inr ⟨o, its, n, ho, by rw [hc, h.1], hd, by rw [hz]; exact Nat.zero_le _, by rw [he]; exact .nil⟩
  ·cases h
 ·cases h
theorem no2B_ok {K : PySem.W.Frag} {a : Addr} (h : no2B K a = true) (H : Hp) : Dp K H (.ref a) (Ru.enc (.nil, .nil)) := by
 unfold no2B at h
 split at h
 ·rename_i o ho
  split at h
  ·rename_i t its n hc hd
   rw [Bool.and_eq_true, decide_eq_true_eq] at h
   obtain ⟨h1, h2⟩ := h
   split at h2
   ·rename_i x y he
    rw [Bool.and_eq_true] at h2
    have hz : its.size = 2 := by have := congrArg List.length he; simpa using this
    have hs : SqT K H a [.ref x, .ref y] := .inr ⟨o, its, n, ho, by rw [hc, h1], hd, by rw [hz]; decide, by rw [he]; exact .cons rfl (.cons rfl .nil)⟩
    exact .tup hs (.cons (.tup (emptyB_ok h2.1 H) .nil) (.cons (.tup (emptyB_ok h2.2 H) .nil) .nil))
   ·cases h2
  ·cases h
 ·cases h
namespace Gr
def bkP (p : Tr × Int) (i : Nat) : List (Pl × Str) := if p.1.2 = .nil then [([i], p.1.1)] else (p.1.2.bk 0).map fun x => (i :: x.1, x.2)
def bks : List (Tr × Int) -> Nat -> List (Pl × Str)
 | [], _ => []
 | p :: r, i => bkP p i ++ bks r (i + 1)
theorem bk_ps : ∀ (g : Gr) (i : Nat), g.bk i = bks g.ps i
 | .nil, _ => rfl
 | .cons k g m r, i => by show _ ++ r.bk (i + 1) = _ ++ bks r.ps (i + 1); rw [bk_ps r]; rfl
theorem bks_append : ∀ (as bs : List (Tr × Int)) (i : Nat), bks (as ++ bs) i = bks as i ++ bks bs (i + as.length)
 | [], bs, i => by simp [bks]
 | p :: r, bs, i => by
  show bkP p i ++ bks (r ++ bs) (i + 1) = _
  rw [bks_append r bs (i + 1)]
  show _ = (bkP p i ++ bks r (i + 1)) ++ bks bs (i + (r.length + 1))
  rw [List.append_assoc, show i + 1 + r.length = i + (r.length + 1) by omega]
theorem bks_take {bs : List (Tr × Int)} {i : Nat} {p : Tr × Int} (h : bs[i]? = some p) : bks (bs.take (i + 1)) 0 = bks (bs.take i) 0 ++ bkP p i := by
 have hl : i < bs.length := (List.getElem?_eq_some_iff.mp h).1
 rw [List.take_add_one, h, bks_append, List.length_take, Nat.min_eq_left (by omega), Nat.zero_add]
 show _ ++ (bkP p i ++ []) = _
 rw [List.append_nil]
theorem bk_len (g : Gr) (i : Nat) : (g.bk i).length <= g.parts := by
 have h := congrArg List.length (bk_bp g i)
 rw [List.length_map] at h
 rw [h]; exact bp_len g i
theorem bk_long (g : Gr) (i : Nat) : ∀ x ∈ g.bk i, x.1.length <= g.deep := fun x hx => ak_long g i x (bk_ak g i x hx)
theorem enc_eq_nil (g : Gr) : PyData.eqv g.enc (.tuple []) = decide (g = .nil) := by
 cases g with
 | nil => simp [enc, encs, PyData.eqv, PyData.eqvAll]
 | cons k g m r => simp [enc, encs, PyData.eqv, PyData.eqvAll]
end Gr
theorem KdAll.erase {K : PySem.W.Frag} {H : Hp} {bad : List Addr} : ∀ {vs : List V} {b : Bk} (u : Nat), KdAll K H bad vs b -> KdAll K H bad (vs.eraseIdx u) (b.eraseIdx u)
 | _, _, _, .nil => .nil
 | _, _, 0, .cons _ t => t
 | _, _, u + 1, .cons h t => .cons h (KdAll.erase u t)
theorem KdAll.bad1 {K : PySem.W.Frag} {H : Hp} {bad : List Addr} {p : Addr} (hp : H p = none) : ∀ {vs : List V} {b : Bk}, KdAll K H bad vs b -> KdAll K H (p :: bad) vs b
 | _, _, .nil => .nil
 | _, _, .cons ⟨t, l, zs, e, h1, h2, h3, h4⟩ r => .cons ⟨t, l, zs, e, h1, h2, h3, fun z => by
   rcases List.mem_cons.mp z with z | z
   ·rw [z, hp] at h2; cases h2
   ·exact h4 z⟩ (KdAll.bad1 hp r)
theorem Bk.Ok.of_perm {b : Bk} {ks : List Str} (k1 : 1 <= ks.length) (k8 : ks.length <= 8) (nd : ks.Nodup) (pm : b.names.Perm ks) (h : ∀ k ∈ b, KdOk ks k) : b.Ok := by
 have hl : b.length = ks.length := by have := pm.length_eq; rwa [List.length_map] at this
 refine ⟨by omega, by omega, pm.nodup_iff.mpr nd, fun k hk => ?_⟩
 obtain ⟨h1, h2, h3⟩ := h k hk
 exact ⟨h1, h2, fun r hr => ⟨(h3 r hr).1, fun p hp => pm.mem_iff.mpr ((h3 r hr).2 p hp)⟩⟩
theorem copy_lc {K : PySem.W.Frag} {σ : L2.St} {H : Hp} {kh : Addr} {xs : List V} {b : Bk} {Q : VK} {i a1 a2 a3 : Nat} {vs : List Nat} (hσ : σ[i]? = some (some (.ref kh)))
  (w0 : ∀ x y z : V, wipe ((((wipe σ vs).set a1 (some x)).set a2 (some y)).set a3 (some z)) vs = wipe σ vs)
  (w1 : ∀ x y z : V, ((((wipe σ vs).set a1 (some x)).set a2 (some y)).set a3 (some z))[a1]? = some (some x)) (w2 : ∀ x y z : V, ((((wipe σ vs).set a1 (some x)).set a2 (some y)).set a3 (some z))[a2]? = some (some y)) (w3 : ∀ x y z : V, ((((wipe σ vs).set a1 (some x)).set a2 (some y)).set a3 (some z))[a3]? = some (some z))
  (hkh : H kh = some (.lst xs)) (hb : KdAll K H [] xs b) (b8 : b.length <= 8)
  (k : ∀ (D : Addr) (us : List V) (ls : List Addr) (H' : Hp), SB [] H H' -> H D = none -> H' D = some (.lst us) -> KdAll K H' [D] us b -> D ∉ ls -> (∀ p ∈ ls, H p = none /\ ∃ zs, H' p = some (.lst zs)) -> (∀ u ∈ us, ∃ t x y l, u = .ref t /\ SqT K H' t [x, y, .ref l] /\ l ∈ ls) -> Q (.ref D) H') :
  tLc (iList K (tVar i)) (gTup K 3 (gCons (gName a1) (gCons (gName a2) (gCons (gName a3) gNil)))) tYes (tTup (tCons (tVar a1) (tCons (tVar a2) (tCons (tCB (rListOf K) (tCons (tVar a3) tNil)) tNil)))) vs σ H Q := by
 have szl := sizeLine_eq
 have xl := hb.length
 refine ⟨_, hσ, kh, rfl, ⟨_, SqL.of hkh⟩, fun D hD => ?_⟩
 refine lc_seqQ (walk_list (xs := xs)) [] hD (by simp) (by omega) (fun i us H2 => ∃ ls : List Addr, KdAll K H2 [D] us (b.take i) /\ D ∉ ls /\ (∀ p ∈ ls, H p = none /\ ∃ zs, H2 p = some (.lst zs)) /\ ∀ u ∈ us, ∃ t x y l, u = .ref t /\ SqT K H2 t [x, y, .ref l] /\ l ∈ ls)
  ⟨[], .nil, by simp, by simp, by simp⟩ (fun H3 s3 => s3.sqL nmn (SqL.of hkh)) (fun i us H2 H3 s3 ⟨ls, h1, h2, h3, h4⟩ => ⟨ls, h1.sb s3 NoLst.self, h2, fun p hp => ⟨(h3 p hp).1, (h3 p hp).2.imp fun zs hz => s3.keep _ _ hz fun z => h2 (by rw [<- List.mem_singleton.mp z]; exact hp)⟩, fun u hu => by
   obtain ⟨t, x, y, l, e, h5, h6⟩ := h4 u hu
   exact ⟨t, x, y, l, e, s3.sqT h5, h6⟩⟩) (fun Pv i x Hq H2 us hi s2 y hR hu hD2 fin _ => ?_) (fun us H2 s2 hD2 hR hul => ?_)
 ·obtain ⟨rfl, ey⟩ := y
  obtain ⟨ls, g1, g2, g3, g4⟩ := hR
  obtain ⟨k, ek, t, r, zs, rfl, h1, h2, h3, _⟩ := hb.get ey
  refine ⟨t, _, rfl, s2.sqT h1, rfl, _, _, rfl, _, _, rfl, _, _, rfl, rfl, w0 _ _ _, ?_⟩
  refine ⟨_, w1 _ _ _, _, w2 _ _ _, _, w3 _ _ _, r, zs, rfl, .inl (SqL.of (s2.keep _ _ h2 nmn)), fun l' hl' => ⟨by show 3 <= sizeLine; decide, fun T hT => ?_⟩⟩
  have t3 := SB.new (ps := []) hl' (.lst zs)
  have hl3 : upd H2 l' (.lst zs) l' = some (.lst zs) := upd_same
  generalize upd H2 l' (.lst zs) = H3 at t3 hl3 hT
  have t4 := SB.new (ps := []) hT (.tup [.str k.n, .bl k.w, .ref l'])
  have t24 := t3.trans t4
  have hl4 := t4.keep _ _ hl3 nmn
  have lD : l' ≠ D := fun z => by rw [z, hD2] at hl'; cases hl'
  refine fin _ _ t24 ⟨ls ++ [l'], ?_, ?_, ?_, ?_⟩
  ·rw [List.take_add_one, ek]
   exact (g1.sb t24 NoLst.nil).append (.cons ⟨T, l', zs, rfl, SqT.of upd_same, hl4, h3.sb (s2.trans t24) Ru.noList_enc, by simpa using lD⟩ .nil)
  ·intro z
   rcases List.mem_append.mp z with z | z
   ·exact g2 z
   ·exact lD (List.mem_singleton.mp z).symm
  ·intro p hp
   rcases List.mem_append.mp hp with hp | hp
   ·exact ⟨(g3 p hp).1, (g3 p hp).2.imp fun zs hz => t24.keep _ _ hz nmn⟩
   ·rw [List.mem_singleton.mp hp]
    exact ⟨s2.dom _ hl', zs, hl4⟩
  ·intro u hu
   rcases List.mem_append.mp hu with hu | hu
   ·obtain ⟨t, x, y, l, e, h5, h6⟩ := g4 u hu
    exact ⟨t, x, y, l, e, t24.sqT h5, List.mem_append_left _ h6⟩
   ·rw [List.mem_singleton.mp hu]
    exact ⟨T, _, _, l', rfl, SqT.of upd_same, by simp⟩
 obtain ⟨ls, g1, g2, g3, g4⟩ := hR
 rw [xl, List.take_length] at g1
 exact k D us ls H2 s2 hD hD2 g1 g2 g3 g4
section
variable {σ : L2.St} {H : Hp} {t : TE} {ta tb : TE} {as : TA}
theorem consI {Q : List V -> Hp -> Prop} (h : t σ H fun x H1 => as σ H1 fun xs H2 => Q (x :: xs) H2) : tCons t as σ H Q := h
theorem makeI {C : Addr} {sp : Sp} {E : L2.St -> XK} {Q : VK} (h : as σ H fun vs H1 => ∀ y dx, H1 y = none -> H1 dx = none -> dx ≠ y -> sp (.ref y :: vs) (upd (upd H1 dx (.own y)) y (.ins C dx [])) (fun v H2 => v = .non /\ Q (.ref y) H2) (E σ)) : tMakeZ C sp E as σ H Q := h
end
theorem copy_make {K : PySem.W.Frag} {C B : Addr} {E : L2.St -> XK} {σ : L2.St} {H : Hp} {kh : Addr} {xs : List V} {b : Bk} {Q : VK} {i a1 a2 a3 : Nat} {vs : List Nat} (hσ : σ[i]? = some (some (.ref kh)))
  (w0 : ∀ x y z : V, wipe ((((wipe σ vs).set a1 (some x)).set a2 (some y)).set a3 (some z)) vs = wipe σ vs)
  (w1 : ∀ x y z : V, ((((wipe σ vs).set a1 (some x)).set a2 (some y)).set a3 (some z))[a1]? = some (some x)) (w2 : ∀ x y z : V, ((((wipe σ vs).set a1 (some x)).set a2 (some y)).set a3 (some z))[a2]? = some (some y)) (w3 : ∀ x y z : V, ((((wipe σ vs).set a1 (some x)).set a2 (some y)).set a3 (some z))[a3]? = some (some z))
  (hkh : H kh = some (.lst xs)) (hb : KdAll K H [] xs b) (ok : b.Ok) (k : ∀ y H', SB [] H H' -> H y = none -> BkA K C H' (.ref y) b -> Q (.ref y) H') :
  tMakeZ C (spBInit K C B) E (tCons (tLc (iList K (tVar i)) (gTup K 3 (gCons (gName a1) (gCons (gName a2) (gCons (gName a3) gNil)))) tYes (tTup (tCons (tVar a1) (tCons (tVar a2) (tCons (tCB (rListOf K) (tCons (tVar a3) tNil)) tNil)))) vs) tNil) σ H Q := by
 refine makeI (consI (copy_lc hσ w0 w1 w2 w3 hkh hb ok.len fun D us ls H' s nD hD hK _ _ _ => ?_))
 exact make_core hD hK ok fun y H2 s2 ny hbk => k y H2 (s.trans s2) (s.dom _ ny) hbk
theorem sumE_cons {γ : Type} [DecidableEq γ] (p : γ × Int) (r : List (γ × Int)) (x : γ) : sumE (p :: r) x = (if p.1 = x then p.2 else 0) + sumE r x := rfl
namespace Gr
def woL (t : Tr) (m : Int) : List (Tr × Int) -> List (Tr × Int)
 | [] => []
 | p :: r => if p.1 ≠ t then p :: woL t m r else if m < p.2 then (p.1, p.2 - m) :: woL t m r else woL t m r
theorem woL_append (t : Tr) (m : Int) : ∀ as bs : List (Tr × Int), woL t m (as ++ bs) = woL t m as ++ woL t m bs
 | [], bs => rfl
 | p :: as, bs => by
  simp only [List.cons_append, woL, woL_append t m as bs]
  split
  ·rfl
  ·split <;> rfl
theorem woL_none {t : Tr} {m : Int} : ∀ {bs : List (Tr × Int)}, (∀ p ∈ bs, p.1 ≠ t) -> woL t m bs = bs
 | [], _ => rfl
 | p :: r, h => by
  rw [woL, if_pos (h p (by simp)), woL_none fun q hq => h q (by simp [hq])]
theorem woL_mem {t : Tr} {m : Int} (hm : 0 <= m) : ∀ {bs : List (Tr × Int)} {p : Tr × Int}, p ∈ woL t m bs -> ∃ q ∈ bs, q.1 = p.1 /\ p.2 <= q.2 /\ (1 <= q.2 -> 1 <= p.2)
 | [], _, h => nomatch h
 | q :: r, p, h => by
  rw [woL] at h
  split at h
  ·rcases List.mem_cons.mp h with e | h
   ·exact ⟨q, by simp, by rw [e], by rw [e]; exact Int.le_refl _, by rw [e]; exact id⟩
   ·obtain ⟨q', h1, h2⟩ := woL_mem hm h; exact ⟨q', by simp [h1], h2⟩
  ·split at h
   ·rcases List.mem_cons.mp h with e | h
    ·exact ⟨q, by simp, by rw [e], by rw [e]; show q.2 - m <= q.2; omega, by rw [e]; show _ -> 1 <= q.2 - m; omega⟩
    ·obtain ⟨q', h1, h2⟩ := woL_mem hm h; exact ⟨q', by simp [h1], h2⟩
   ·obtain ⟨q', h1, h2⟩ := woL_mem hm h; exact ⟨q', by simp [h1], h2⟩
theorem woL_key {t : Tr} {m : Int} : ∀ {bs : List (Tr × Int)} {p : Tr × Int}, p ∈ woL t m bs -> ∃ q ∈ bs, q.1 = p.1
 | [], _, h => nomatch h
 | q :: r, p, h => by
  rw [woL] at h
  split at h
  ·rcases List.mem_cons.mp h with e | h
   ·exact ⟨q, by simp, by rw [e]⟩
   ·obtain ⟨q', h1, h2⟩ := woL_key h; exact ⟨q', by simp [h1], h2⟩
  ·split at h
   ·rcases List.mem_cons.mp h with e | h
    ·exact ⟨q, by simp, by rw [e]⟩
    ·obtain ⟨q', h1, h2⟩ := woL_key h; exact ⟨q', by simp [h1], h2⟩
   ·obtain ⟨q', h1, h2⟩ := woL_key h; exact ⟨q', by simp [h1], h2⟩
theorem woL_pair {R : Tr -> Tr -> Prop} {t : Tr} {m : Int} : ∀ {bs : List (Tr × Int)}, bs.Pairwise (fun p q => R p.1 q.1) -> (woL t m bs).Pairwise (fun p q => R p.1 q.1)
 | [], _ => .nil
 | p :: r, h => by
  obtain ⟨h1, h2⟩ := List.pairwise_cons.mp h
  have ih := woL_pair (t := t) (m := m) h2
  have hk : ∀ q ∈ woL t m r, R p.1 q.1 := fun q hq => by
   obtain ⟨q', hq', e⟩ := woL_key hq
   rw [<- e]; exact h1 q' hq'
  rw [woL]
  split
  ·exact List.pairwise_cons.mpr ⟨hk, ih⟩
  ·split
   ·exact List.pairwise_cons.mpr ⟨hk, ih⟩
   ·exact ih
theorem woL_tot (t : Tr) (m : Int) : ∀ bs : List (Tr × Int), tot (woL t m bs) <= tot bs
 | [] => Nat.le_refl _
 | p :: r => by
  have ih := woL_tot t m r
  rw [woL]
  split
  ·simp only [tot]; omega
  ·split
   ·simp only [tot]; omega
   ·simp only [tot]; omega
theorem woL_len (t : Tr) (m : Int) : ∀ bs : List (Tr × Int), (woL t m bs).length <= bs.length
 | [] => Nat.le_refl _
 | p :: r => by
  have ih := woL_len t m r
  rw [woL]
  split
  ·simp only [List.length_cons]; omega
  ·split
   ·simp only [List.length_cons]; omega
   ·simp only [List.length_cons]; omega
theorem sumE_woL {t : Tr} {m : Int} (x : Tr) : ∀ {bs : List (Tr × Int)}, bs.Pairwise (fun p q => p.1 ≠ q.1) -> (∀ p ∈ bs, 0 < p.2) -> 0 <= m -> sumE (woL t m bs) x = if x = t then (if m < sumE bs t then sumE bs t - m else 0) else sumE bs x
 | [], _, _, hm => by
  show (0 : Int) = if x = t then (if m < 0 then 0 - m else 0) else 0
  split
  ·rw [if_neg (by omega)]
  ·rfl
 | p :: r, h, hp, hm => by
  obtain ⟨h1, h2⟩ := List.pairwise_cons.mp h
  have ih := sumE_woL (t := t) (m := m) x h2 (fun q hq => hp q (by simp [hq])) hm
  rw [woL]
  by_cases e : p.1 = t
  ·rw [if_neg (by simpa using e)]
   have hr : ∀ q ∈ r, q.1 ≠ t := fun q hq z => h1 q hq (by rw [e, z])
   have z0 : sumE r t = 0 := S_zero hr
   rw [woL_none hr, sumE_cons p r t, if_pos e, z0, Int.add_zero]
   by_cases hlt : m < p.2
   ·rw [if_pos hlt, if_pos hlt, sumE_cons]
    by_cases hx : x = t
    ·rw [if_pos hx, hx, if_pos (by exact e), z0]; simp
    ·rw [if_neg hx, if_neg (by rw [e]; exact fun z => hx z.symm), sumE_cons, if_neg (by rw [e]; exact fun z => hx z.symm)]
   ·rw [if_neg hlt, if_neg hlt]
    by_cases hx : x = t
    ·rw [if_pos hx, hx, z0]
    ·rw [if_neg hx, sumE_cons, if_neg (by rw [e]; exact fun z => hx z.symm), Int.zero_add]
  ·rw [if_pos e, sumE_cons, ih, sumE_cons p r t, if_neg e, Int.zero_add]
   by_cases hx : x = t
   ·rw [if_pos hx, if_pos hx, hx, if_neg e, Int.zero_add]
   ·rw [if_neg hx, if_neg hx, sumE_cons]
def wo (g : Gr) (t : Tr) (m : Int) : Gr := ofPs (woL t m g.ps)
theorem wo_ps (g : Gr) (t : Tr) (m : Int) : (wo g t m).ps = woL t m g.ps := ps_ofPs _
variable {C D E : Int} {g k : Gr}
theorem ok_ne (h : g.Ok C) : g.ps.Pairwise (fun p q => p.1 ≠ q.1) := (ok_iff.mp h).2.imp fun z => ol_ne z
theorem ok_pos (h : g.Ok C) : ∀ p ∈ g.ps, 0 < p.2 := fun p hp => by have := ((ok_iff.mp h).1 p hp).2.2.1; omega
theorem wo_ok (h : g.Ok C) {t : Tr} {m : Int} (hm : 0 <= m) : (wo g t m).Ok C := by
 obtain ⟨h1, h2⟩ := ok_iff.mp h
 refine ok_ps.mpr ⟨fun p hp => ?_, woL_pair (R := fun a b => dataLt (tEnc a) (tEnc b) = true) h2⟩
 obtain ⟨q, hq, e, l, o⟩ := woL_mem hm hp
 obtain ⟨a, b, c, d⟩ := h1 q hq
 rw [<- e]
 exact ⟨a, b, o c, by omega⟩
theorem S_wo (h : g.Ok C) {t : Tr} {m : Int} (hm : 0 <= m) (x : Tr) : S (wo g t m) x = if x = t then (if m < S g t then S g t - m else 0) else S g x := by
 show sumE (wo g t m).ps x = _
 rw [wo_ps]; exact sumE_woL x (ok_ne h) (ok_pos h) hm
theorem wo_parts (g : Gr) (t : Tr) (m : Int) : (wo g t m).parts <= g.parts := by
 rw [wo, parts_ofPs, <- tot_ps g]; exact woL_tot _ _ _
theorem wo_len (g : Gr) (t : Tr) (m : Int) : (wo g t m).ps.length <= g.ps.length := by rw [wo_ps]; exact woL_len _ _ _
theorem wo_deep (g : Gr) (t : Tr) (m : Int) : (wo g t m).deep <= g.deep := by
 refine deep_le fun p hp => ?_
 rw [wo_ps] at hp
 obtain ⟨q, hq, e⟩ := woL_key hp
 rw [<- e]; exact mem_deep g q hq
theorem sumE_mem : ∀ {bs : List (Tr × Int)}, bs.Pairwise (fun p q => p.1 ≠ q.1) -> ∀ p ∈ bs, sumE bs p.1 = p.2
 | [], _, _, h => nomatch h
 | q :: r, h, p, hp => by
  obtain ⟨h1, h2⟩ := List.pairwise_cons.mp h
  rw [sumE_cons]
  rcases List.mem_cons.mp hp with e | hp
  ·rw [e, if_pos rfl, S_zero fun q' hq' z => h1 q' hq' z.symm, Int.add_zero]
  ·rw [if_neg (h1 p hp), Int.zero_add]; exact sumE_mem h2 p hp
theorem S_mem (h : g.Ok C) {p : Tr × Int} (hp : p ∈ g.ps) : S g p.1 = p.2 := sumE_mem (ok_ne h) p hp
theorem S_cases (h : g.Ok C) (x : Tr) : (S g x = 0 /\ ∀ p ∈ g.ps, p.1 ≠ x) \/ ∃ m, (x, m) ∈ g.ps /\ S g x = m /\ 1 <= m /\ m < C := by
 by_cases e : ∃ p ∈ g.ps, p.1 = x
 ·obtain ⟨p, hp, rfl⟩ := e
  obtain ⟨_, _, c, d⟩ := (ok_iff.mp h).1 p hp
  exact .inr ⟨p.2, hp, S_mem h hp, c, d⟩
 ·have h' : ∀ p ∈ g.ps, p.1 ≠ x := fun p hp z => e ⟨p, hp, z⟩
  exact .inl ⟨S_zero h', h'⟩
theorem S_nonneg (h : g.Ok C) (x : Tr) : 0 <= S g x := by
 rcases S_cases h x with ⟨e, _⟩ | ⟨m, _, e, h1, _⟩
 ·omega
 ·omega
theorem S_lt (h : g.Ok C) (hC : 1 <= C) (x : Tr) : S g x < C := by
 rcases S_cases h x with ⟨e, _⟩ | ⟨m, _, e, _, h1⟩
 ·omega
 ·omega
theorem S_pos (h : g.Ok C) {x : Tr} (hx : 1 <= S g x) : ∃ m, (x, m) ∈ g.ps /\ S g x = m := by
 rcases S_cases h x with ⟨e, _⟩ | ⟨m, h1, e, _⟩
 ·omega
 ·exact ⟨m, h1, e⟩
theorem tgt_okM (hg : ∀ p ∈ g.ps, NameOk p.1.1 /\ p.1.2.Ok E /\ 1 <= p.2) (hk : ∀ p ∈ k.ps, NameOk p.1.1 /\ p.1.2.Ok E /\ 1 <= p.2) (h : ∀ t, S g t + S k t < E) : (tgt g k).Ok E := by
 have hr := tdy_rise (enc := tEnc) (g.ps ++ k.ps)
 have hall : ∀ p ∈ g.ps ++ k.ps, NameOk p.1.1 /\ p.1.2.Ok E /\ 1 <= p.2 := fun p hp => (List.mem_append.mp hp).elim (hg p) (hk p)
 refine ok_ps.mpr ⟨fun p hp => ?_, hr⟩
 obtain ⟨q, hq, e⟩ := tdy_keys (enc := tEnc) _ p hp
 obtain ⟨a, b, _⟩ := hall q hq
 have h1 := (tdy_pos (enc := tEnc) (fun p hp => (hall p hp).2.2) p hp).1
 have e2 : sumE (tdy tEnc (g.ps ++ k.ps)) p.1 = p.2 := sumE_mem (hr.imp fun z => ol_ne z) p hp
 rw [tdy_sum, sumE_append] at e2
 have := h p.1
 refine ⟨e ▸ a, e ▸ b, h1, ?_⟩
 show p.2 < E
 rw [<- e2]; exact this
theorem ok_three (h : g.Ok C) (hC : C <= E) : ∀ p ∈ g.ps, NameOk p.1.1 /\ p.1.2.Ok E /\ 1 <= p.2 := fun p hp => by
 obtain ⟨a, b, c, _⟩ := (ok_iff.mp h).1 p hp
 exact ⟨a, b.mono hC, c⟩
theorem tgt_ok2 (hg : g.Ok C) (hk : k.Ok D) (hC : 1 <= C) (hD : 1 <= D) : (tgt g k).Ok (C + D) := by
 refine tgt_okM (ok_three hg (by omega)) (ok_three hk (by omega)) fun t => ?_
 have := S_lt hg hC t
 have := S_lt hk hD t
 omega
def tmsL (m : Int) (bs : List (Tr × Int)) : List (Tr × Int) := bs.map fun p => (p.1, p.2 * m)
def tmsG (g : Gr) (m : Int) : Gr := if m = 0 then .nil else ofPs (tmsL m g.ps)
theorem tot_tms (m : Int) : ∀ bs : List (Tr × Int), tot (tmsL m bs) = tot bs
 | [] => rfl
 | p :: r => by
  show 1 + p.1.2.parts + tot (tmsL m r) = 1 + p.1.2.parts + tot r
  rw [tot_tms m r]
theorem tms_parts (g : Gr) (m : Int) : (tmsG g m).parts <= g.parts := by
 rw [tmsG]
 split
 ·exact Nat.zero_le _
 ·rw [parts_ofPs, tot_tms, tot_ps]; exact Nat.le_refl _
theorem tms_len (g : Gr) (m : Int) : (tmsG g m).ps.length <= g.ps.length := by
 rw [tmsG]
 split
 ·exact Nat.zero_le _
 ·rw [ps_ofPs, tmsL, List.length_map]; exact Nat.le_refl _
theorem tms_key {m : Int} {p : Tr × Int} (hp : p ∈ (tmsG g m).ps) : ∃ q ∈ g.ps, q.1 = p.1 := by
 rw [tmsG] at hp
 split at hp
 ·exact nomatch hp
 ·rw [ps_ofPs] at hp
  obtain ⟨q, hq, e⟩ := List.mem_map.mp hp
  exact ⟨q, hq, by rw [<- e]⟩
theorem tms_deep (g : Gr) (m : Int) : (tmsG g m).deep <= g.deep := by
 refine deep_le fun p hp => ?_
 obtain ⟨q, hq, e⟩ := tms_key hp
 rw [<- e]; exact mem_deep g q hq
theorem tms_ok (h : g.Ok C) (hC : 1 <= C) {m : Int} (hm : 0 <= m) : (tmsG g m).Ok (C * m + C) := by
 have hle : C <= C * m + C := by have := Int.mul_nonneg (show (0 : Int) <= C by omega) hm; omega
 rw [tmsG]
 split
 ·trivial
 ·obtain ⟨h1, h2⟩ := ok_iff.mp h
  refine ok_ps.mpr ⟨fun p hp => ?_, ?_⟩
  ·obtain ⟨q, hq, rfl⟩ := List.mem_map.mp hp
   obtain ⟨a, b, c, d⟩ := h1 q hq
   have m1 : 1 <= m := by omega
   refine ⟨a, b.mono hle, ?_, ?_⟩
   ·show 1 <= q.2 * m
    have := Int.mul_le_mul c m1 (by omega) (by omega)
    omega
   ·show q.2 * m < C * m + C
    have := Int.mul_le_mul_of_nonneg_right (show q.2 <= C by omega) hm
    omega
  ·exact List.pairwise_map.mpr (h2.imp fun z => z)
def pos (g : Gr) (t : Tr) : Nat := (g.ps.map (·.1)).idxOf t
theorem pos_at (h : g.Ok C) {t : Tr} {m : Int} (hp : (t, m) ∈ g.ps) : g.ps[pos g t]? = some (t, m) := by
 have ht : t ∈ g.ps.map (·.1) := List.mem_map.mpr ⟨_, hp, rfl⟩
 have hl : pos g t < (g.ps.map (·.1)).length := List.idxOf_lt_length_of_mem ht
 have hl2 : pos g t < g.ps.length := by rwa [List.length_map] at hl
 have e : (g.ps.map (·.1))[pos g t] = t := List.getElem_idxOf hl
 rw [List.getElem_map] at e
 rw [List.getElem?_eq_getElem hl2]
 have hm := List.getElem_mem hl2
 have e1 := S_mem h hm
 have e2 := S_mem h hp
 rw [e] at e1
 have e3 : (g.ps[pos g t]).2 = m := by rw [<- e1]; exact e2
 exact congrArg some (Prod.ext e e3)
theorem pos_of (h : g.Ok C) {i : Nat} {p : Tr × Int} (hp : g.ps[i]? = some p) : pos g p.1 = i := by
 have h1 := pos_at (t := p.1) (m := p.2) h (List.mem_of_getElem? hp)
 obtain ⟨hi, ei⟩ := List.getElem?_eq_some_iff.mp hp
 obtain ⟨hj, ej⟩ := List.getElem?_eq_some_iff.mp h1
 have nd : (g.ps.map (·.1)).Nodup := List.pairwise_map.mpr (ok_ne h)
 refine (List.getElem?_inj (by rw [List.length_map]; exact hj) nd).mp ?_
 rw [List.getElem?_map, List.getElem?_map, h1, hp]
def Named (ns : List Str) (g : Gr) : Prop := ∀ x ∈ g.within, x.1.1 ∈ ns
theorem named_iff {ns : List Str} : Named ns g ↔ ∀ p ∈ g.ps, p.1.1 ∈ ns /\ Named ns p.1.2 := by
 unfold Named
 rw [within_ps]
 constructor
 ·intro h p hp
  exact ⟨h p (List.mem_flatMap.mpr ⟨p, hp, by simp⟩), fun x hx => h x (List.mem_flatMap.mpr ⟨p, hp, by simp [hx]⟩)⟩
 ·intro h x hx
  obtain ⟨p, hp, hx⟩ := List.mem_flatMap.mp hx
  rcases List.mem_cons.mp hx with e | hx
  ·rw [e]; exact (h p hp).1
  ·exact (h p hp).2 x hx
def one (t : Tr) (m : Int) : Gr := .cons t.1 t.2 m .nil
theorem one_ps (t : Tr) (m : Int) : (one t m).ps = [(t, m)] := rfl
theorem S_one (t : Tr) (m : Int) (x : Tr) : S (one t m) x = if t = x then m else 0 := by
 show sumE [(t, m)] x = _
 rw [sumE_cons]; exact Int.add_zero _
theorem one_ok {t : Tr} {m : Int} (h1 : NameOk t.1) (h2 : t.2.Ok C) (h3 : 1 <= m) (h4 : m < C) : (one t m).Ok C := ⟨h1, h2, h3, h4, trivial, fun _ h => nomatch h⟩
end Gr
def Wd (d : PyData) : Prop := d.canLay0 = true /\ d.depth <= 190
theorem Wd.of {d : PyData} (h : SeqAt.shaped d = true) : Wd d := ⟨SeqAt.canLay_of_shaped h, by have := SeqAt.depth_of_shaped h; omega⟩
def rEqW (K : PySem.W.Frag) : R2 := fun x y H Q => ∃ d e, Dp K H x d /\ Dp K H y e /\ Wd d /\ Wd e /\ Q (.bl (PyData.eqv d e)) H
def rNeW (K : PySem.W.Frag) : R2 := fun x y H Q => ∃ d e, Dp K H x d /\ Dp K H y e /\ Wd d /\ Wd e /\ Q (.bl (!PyData.eqv d e)) H
section
variable {X : Cx}
theorem room_w {n : Nat} {d e : PyData} (hd : Wd d) (hu : n + 195 < cLine) : n + min d.depth e.depth < cLine := by
 have h1 := hd.2
 have h2 : min d.depth e.depth <= d.depth := Nat.min_le_left ..
 omega
theorem op_eqW (hu : X.A.units + 195 < cLine) : OpR X (compareOp .Eq) (rEqW X.K) := by
 intro pn s σ H a b v1 v2 Q I ra rb ⟨d, e, da, db, wd, we, q⟩
 obtain ⟨l1, k1⟩ := Dp.reads I d a v1 da ra
 obtain ⟨l2, k2⟩ := Dp.reads I e b v2 db rb
 exact SeqAt.compareEq_reads k1 k2 wd.1 we.1 (room_w wd hu) ⟨.bl _, H, I, rfl, q⟩
theorem op_neW (hu : X.A.units + 195 < cLine) : OpR X (compareOp .NotEq) (rNeW X.K) := by
 intro pn s σ H a b v1 v2 Q I ra rb ⟨d, e, da, db, wd, we, q⟩
 obtain ⟨l1, k1⟩ := Dp.reads I d a v1 da ra
 obtain ⟨l2, k2⟩ := Dp.reads I e b v2 db rb
 exact SeqAt.compareNe_reads k1 k2 wd.1 we.1 (room_w wd hu) ⟨.bl _, H, I, rfl, q⟩
def rIndexW (K : PySem.W.Frag) : V -> List V -> Hp -> VK -> Prop := fun x xs H Q => ∃ (a : Addr) (y : V) (d : PyData) (ds : List PyData) (j : Nat) (z : PyData), x = V.ref a /\ xs = [y] /\ Dp K H (V.ref a) (.list ds) /\ Dp K H y d /\
 PyData.canLayAll0 ds = true /\ Wd d /\ ds[j]? = some z /\ PyData.eqv z d = true /\ (∀ (m : Nat) (z' : PyData), m < j -> ds[m]? = some z' -> PyData.eqv z' d = false) /\ Q (.int (j : Nat)) H
theorem mt_indexW (hu : X.A.units + 196 < cLine) : MtR X "list.index" (rIndexW X.K) := by
 intro pn s σ H x xs v us Q I rx rs ⟨a, y, d, ds, j, z, ex, exs, dl, dy, lay, wd, ez, eqz, before, q⟩
 subst ex exs
 cases rx
 cases rs with
 | cons ry rt =>
  rename_i uy ut
  cases rt
  obtain ⟨ls, k1⟩ := Dp.reads I d y uy dy ry
  have room : X.A.units + 1 + min (PyData.depthAll ds) d.depth < cLine := by
   have h1 := wd.2
   have h2 : min (PyData.depthAll ds) d.depth <= d.depth := Nat.min_le_right ..
   omega
  cases dl with
  | lst dh da =>
   obtain ⟨its, vals, ⟨⟨c1, c2, c3, c4⟩, cnt, hget, hcls, hdict, hdata⟩, hlen⟩ := I.list dh
   simp only at hcls hdata
   subst hcls hdata
   obtain ⟨ms, k2⟩ := Dp.readsAll I ds _ its da vals
   have el : its.length = ds.length := SeqAt.ReadsAll.length ds its ms k2
   have em : its.map (SeqAt.readOf s.heap) = ds := SeqAt.readsAll_map ds its ms lay k2
   have szl := sizeLine_eq
   have vlen := vals.length
   obtain ⟨jd, _⟩ := List.getElem?_eq_some_iff.mp ez
   have jl : j < its.length := by omega
   have ja : j < its.toArray.size := by simpa using jl
   have look : ∀ (m : Nat) (hm : m < its.toArray.size) (z' : PyData), ds[m]? = some z' -> SeqAt.readOf s.heap its.toArray[m] = z' := by
    intro m hm z' e
    have hm' : m < its.length := by simpa using hm
    rw [<- em, List.getElem?_map, List.getElem?_eq_getElem hm'] at e
    have e' := Option.some.inj (show some (SeqAt.readOf s.heap its[m]) = some z' from e)
    simpa using e'
   refine call_meets PySem.F.slot_list_index ⟨_, hget, rfl⟩ PySem.F.entry_list_index (PySem.F.args_list_index_2 _ _)
    (SeqAt.list_indexAt a its.toArray cnt c2 c4 uy (fun u => PyData.eqv (SeqAt.readOf s.heap u) d) j ja (by omega) ?_ ?_) ⟨hget, SeqAt.items_eqAt (vs := its.toArray) (show ReadsAll s.heap its.toArray.toList ds ms from k2) k1 lay wd.1 room, ?_⟩
   ·show PyData.eqv (SeqAt.readOf s.heap its.toArray[j]) d = true
    rw [look j ja z ez]; exact eqz
   ·intro m hm hmj
    have e : ds[m]? = some ds[m] := List.getElem?_eq_getElem (show m < ds.length by omega)
    show PyData.eqv (SeqAt.readOf s.heap its.toArray[m]) d = false
    rw [look m hm _ e]; exact before m _ hmj e
   ·exact ⟨.int (j : Nat), H, I.tok _, ⟨_, rfl⟩, q⟩
def rSortedW (K : PySem.W.Frag) {β : Type} (enc : β -> PyData) (vs : List V) (H : Hp) (Q : VK) : Prop := ∃ (a : Addr) (xs : List V) (bs : List β), vs = [V.ref a] /\ (SqL K H a xs \/ SqT K H a xs) /\ Bears K H enc xs bs /\ AllAlike (bs.map enc) /\ Sortable (bs.map enc) /\ bs.length <= 10000000 /\ (∀ b ∈ bs, (enc b).depth <= 190) /\
 ∀ (p : Addr) (ys : List V), H p = none -> Bears K H enc ys (bs.mergeSort (dataLe false enc)) -> Q (.ref p) (upd H p (.lst ys))
theorem cr_sortedW {β : Type} (enc : β -> PyData) (hu : X.A.units + 195 < cLine) : CallR X (.builtin "sorted") (rSortedW X.K enc) := by
 intro pn s σ H vs us Q I r ⟨a, xs, bs, e, hs, hb, hal, hsr, hl, hd, q⟩
 subst e
 rw [Vals.ref1 r]
 rcases hs with hs | hs
 ·obtain ⟨its, rv, hli, _⟩ := I.list hs
  obtain ⟨e1, e2⟩ := each_of I hb rv
  refine sorted_lstK (kw := []) (vs := its) (bs := bs) (enc := enc) (b := false) (R := fun u b => ∃ v, RelV v u /\ Dp X.K H v (enc b)) plain_is_rev (args_sorted1 _) (fun _ => args_list_sort _) hli e1 e2 hal hsr (by rw [sizeLine_eq]; omega) (fun b m => by have := hd b m; omega) fun out h' h2 n k1 k2 hat ho h1 => ?_
  obtain ⟨ys, g2, g3⟩ := of_each h1
  have I' : Inv X pn σ H { s with heap := h' } := I.kept (t' := s.toks) k1
  have hlen : ys.length <= sizeLine := by rw [g2.length, ho, sizeLine_eq]; omega
  exact ⟨.ref _, upd H h'.objs.size (.lst ys), I'.laid (t' := s.toks) (fun b o e => k2 b o e) (Nat.le_refl _) ⟨hlen, out, n, g2, hat⟩, rfl, q _ ys (I'.hok.fresh (Nat.le_refl _)) g3⟩
 ·obtain ⟨its, rv, hli, _⟩ := I.tuple hs
  obtain ⟨e1, e2⟩ := each_of I hb rv
  refine sorted_tupK (kw := []) (vs := its) (bs := bs) (enc := enc) (b := false) (R := fun u b => ∃ v, RelV v u /\ Dp X.K H v (enc b)) plain_is_rev (args_sorted1 _) (fun _ => args_list_sort _) hli e1 e2 hal hsr (by rw [sizeLine_eq]; omega) (fun b m => by have := hd b m; omega) fun out h' h2 n k1 k2 hat ho h1 => ?_
  obtain ⟨ys, g2, g3⟩ := of_each h1
  have I' : Inv X pn σ H { s with heap := h' } := I.kept (t' := s.toks) k1
  have hlen : ys.length <= sizeLine := by rw [g2.length, ho, sizeLine_eq]; omega
  exact ⟨.ref _, upd H h'.objs.size (.lst ys), I'.laid (t' := s.toks) (fun b o e => k2 b o e) (Nat.le_refl _) ⟨hlen, out, n, g2, hat⟩, rfl, q _ ys (I'.hok.fresh (Nat.le_refl _)) g3⟩
end
theorem Gr.wd {C : Int} {g : Gr} (h : g.Ok C) (hd : g.deep <= 63) : Wd g.enc := ⟨by simp [Gr.enc, PyData.canLay0, Gr.lays h], by have := g.enc_depth; omega⟩
theorem Gr.wd_t {C : Int} {t : Tr} (h0 : NameOk t.1) (h : t.2.Ok C) (hd : t.2.deep <= 62) : Wd (Gr.tEnc t) := ⟨by simp [Gr.tEnc, Gr.enc, PyData.canLay0, PyData.canLayAll0, Gr.lays h, Gr.strOk_name h0], by have := Gr.tEnc_depth t; omega⟩
theorem Gr.lay_ts {C : Int} : ∀ {ps : List (Tr × Int)}, (∀ p ∈ ps, NameOk p.1.1 /\ p.1.2.Ok C) -> PyData.canLayAll0 (ps.map fun p => Gr.tEnc p.1) = true
 | [], _ => by simp [PyData.canLayAll0]
 | p :: r, h => by
  obtain ⟨a, b⟩ := h p (by simp)
  rw [List.map_cons, PyData.canLayAll0, lay_ts fun q hq => h q (by simp [hq])]
  simp [Gr.tEnc, Gr.enc, PyData.canLay0, PyData.canLayAll0, Gr.lays b, Gr.strOk_name a]
theorem Gr.t_eqv (a b : Tr) : PyData.eqv (Gr.tEnc a) (Gr.tEnc b) = decide (a = b) := Orderly.eq a b
def Bk.far (b : Bk) (k : Str) (n : Int) : Int := match b.get k with
 | some kd => if kd.w = true then n else 0
 | none => 0
theorem Bk.far_le (b : Bk) (k : Str) {n : Int} (h : 0 <= n) : 0 <= b.far k n /\ b.far k n <= n := by
 unfold Bk.far
 split
 ·split <;> omega
 ·omega
namespace Gr
variable {b : Bk} {n : Int} {C F E : Int} {g fr : Gr}
def grw (r : Ru) (n : Int) : Gr := tgt r.1 (tmsG r.2 n)
theorem grw_ok {r : Ru} (h : RuOk r) (hn : 0 <= n) : (grw r n).Ok (1000000001 * n + 2000000002) := by
 have h2 := tms_ok h.2.1 (by omega) hn
 exact (tgt_ok2 h.1 h2 (by omega) (by omega)).mono (by omega)
theorem grw_parts {r : Ru} (h : RuOk r) (n : Int) : (grw r n).parts <= 4 := by
 have h1 := tgt_parts r.1 (tmsG r.2 n)
 have h2 := tms_parts r.2 n
 have h3 := h.2.2
 unfold grw
 omega
theorem grw_deep {r : Ru} (h : RuOk r) (n : Int) : (grw r n).deep <= 4 := by
 have h1 := within_deep (grw r n)
 have h2 := grw_parts h n
 omega
def stk (b : Bk) (n : Int) (fr : Gr) : Pl -> Gr -> Gr × Pl
 | [], g => (g, [])
 | i :: r, g => match g.ps[i]? with
  | none => (g, [])
  | some p => if r = [] then (tgt (wo g p.1 1) fr, []) else
    (tgt (wo g p.1 1) (one (p.1.1, (stk b n fr r p.1.2).1) (1 + b.far p.1.1 n)), pos (tgt (wo g p.1 1) (one (p.1.1, (stk b n fr r p.1.2).1) (1 + b.far p.1.1 n))) (p.1.1, (stk b n fr r p.1.2).1) :: (stk b n fr r p.1.2).2)
def bareAt : Gr -> Pl -> Option Str
 | _, [] => none
 | g, i :: r => match g.ps[i]? with
  | none => none
  | some p => if r = [] then (if p.1.2 = .nil then some p.1.1 else none) else bareAt p.1.2 r
theorem stk_one {i : Nat} {p : Tr × Int} (e : g.ps[i]? = some p) : stk b n fr [i] g = (tgt (wo g p.1 1) fr, []) := by
 rw [stk, e]; rfl
def chg (b : Bk) (n : Int) (fr : Gr) (r : Pl) (p : Tr × Int) : Tr := (p.1.1, (stk b n fr r p.1.2).1)
def chR (b : Bk) (n : Int) (fr : Gr) (r : Pl) (g : Gr) (p : Tr × Int) : Gr := tgt (wo g p.1 1) (one (chg b n fr r p) (1 + b.far p.1.1 n))
theorem stk_more {i : Nat} {r : Pl} {p : Tr × Int} (e : g.ps[i]? = some p) (hr : r ≠ []) : stk b n fr (i :: r) g = (chR b n fr r g p, pos (chR b n fr r g p) (chg b n fr r p) :: (stk b n fr r p.1.2).2) := by
 rw [stk, e]
 simp only [if_neg hr]
 rfl
theorem bare_one {i : Nat} {k : Str} (h : bareAt g [i] = some k) : ∃ p, g.ps[i]? = some p /\ p.1 = (k, .nil) := by
 rw [bareAt] at h
 cases e : g.ps[i]? with
 | none => rw [e] at h; cases h
 | some p =>
  rw [e] at h
  simp only [if_true] at h
  by_cases z : p.1.2 = .nil
  ·rw [if_pos z] at h
   exact ⟨p, rfl, Prod.ext (Option.some.inj h) z⟩
  ·rw [if_neg z] at h; cases h
theorem bare_more {i : Nat} {r : Pl} {k : Str} (hr : r ≠ []) (h : bareAt g (i :: r) = some k) : ∃ p, g.ps[i]? = some p /\ bareAt p.1.2 r = some k := by
 rw [bareAt] at h
 cases e : g.ps[i]? with
 | none => rw [e] at h; cases h
 | some p =>
  rw [e] at h
  simp only [if_neg hr] at h
  exact ⟨p, rfl, h⟩
theorem bare_ne {pl : Pl} {k : Str} (h : bareAt g pl = some k) : pl ≠ [] := fun z => by rw [z] at h; cases h
theorem wo_okM {t : Tr} {m : Int} (h : g.Ok C) (hm : 0 <= m) (hC : C <= E) : ∀ p ∈ (wo g t m).ps, NameOk p.1.1 /\ p.1.2.Ok E /\ 1 <= p.2 := ok_three (wo_ok h hm) hC
theorem S_wo_le (h : g.Ok C) {t : Tr} {m : Int} (hm : 0 <= m) (x : Tr) : S (wo g t m) x <= S g x := by
 rw [S_wo h hm]
 split
 ·next e => 
  subst e
  have := S_nonneg h x
  split <;> omega
 ·exact Int.le_refl _
theorem ok_mem (h : g.Ok C) {p : Tr × Int} (hp : p ∈ g.ps) : NameOk p.1.1 /\ p.1.2.Ok C /\ 1 <= p.2 /\ p.2 < C := (ok_iff.mp h).1 p hp
theorem C_pos {p : Tr × Int} (h : g.Ok C) (hp : p ∈ g.ps) : 2 <= C := by have := (ok_mem h hp).2.2; omega
theorem stk_ok (hn : 0 <= n) (hF : 1 <= F) (hfr : fr.Ok F) : ∀ {pl : Pl} {g : Gr} {k : Str}, g.Ok C -> bareAt g pl = some k -> (stk b n fr pl g).1.Ok (C + F + n + 2)
 | [], _, _, _, h => nomatch h
 | i :: r, g, k, ho, h => by
  by_cases hr : r = []
  ·subst hr
   obtain ⟨p, e, _⟩ := bare_one h
   rw [stk_one e]
   have hC := C_pos ho (List.mem_of_getElem? e)
   exact (tgt_ok2 (wo_ok ho (by omega)) hfr (by omega) hF).mono (by omega)
  ·obtain ⟨p, e, h2⟩ := bare_more hr h
   rw [stk_more e hr]
   have pm := List.mem_of_getElem? e
   have hC := C_pos ho pm
   obtain ⟨a, o, _, _⟩ := ok_mem ho pm
   have ih := stk_ok hn hF hfr o h2
   obtain ⟨f1, f2⟩ := Bk.far_le b p.1.1 hn
   refine tgt_okM (wo_okM ho (by omega) (by omega)) (fun q hq => ?_) fun t => ?_
   ·rw [one_ps] at hq
    rw [List.mem_singleton.mp hq]
    exact ⟨a, ih, by show 1 <= 1 + b.far p.1.1 n; omega⟩
   ·have h1 := S_wo_le ho (t := p.1) (m := 1) (by omega) t
    have h3 := S_lt ho (by omega) t
    rw [S_one]
    split <;> omega
theorem stk_parts : ∀ {pl : Pl} {g : Gr} {k : Str}, bareAt g pl = some k -> (stk b n fr pl g).1.parts <= pl.length * (g.parts + 1) + fr.parts
 | [], _, _, h => nomatch h
 | i :: r, g, k, h => by
  by_cases hr : r = []
  ·subst hr
   obtain ⟨p, e, _⟩ := bare_one h
   rw [stk_one e]
   have h1 := tgt_parts (wo g p.1 1) fr
   have h2 := wo_parts g p.1 1
   simp only [List.length_cons, List.length_nil]
   omega
  ·obtain ⟨p, e, h2⟩ := bare_more hr h
   rw [stk_more e hr]
   have pm := List.mem_of_getElem? e
   have ih := stk_parts h2
   have h3 := tgt_parts (wo g p.1 1) (one (chg b n fr r p) (1 + b.far p.1.1 n))
   have h4 := wo_parts g p.1 1
   have h5 : (one (chg b n fr r p) (1 + b.far p.1.1 n)).parts = 1 + (stk b n fr r p.1.2).1.parts := rfl
   have h6 := mem_parts g p pm
   have h7 : r.length * (p.1.2.parts + 1) <= r.length * (g.parts + 1) := Nat.mul_le_mul_left _ (by omega)
   show (chR b n fr r g p).parts <= _
   rw [List.length_cons, Nat.succ_mul]
   unfold chR
   omega
theorem stk_deep : ∀ {pl : Pl} {g : Gr} {k : Str}, bareAt g pl = some k -> (stk b n fr pl g).1.deep <= max g.deep (pl.length - 1 + fr.deep)
 | [], _, _, h => nomatch h
 | i :: r, g, k, h => by
  by_cases hr : r = []
  ·subst hr
   obtain ⟨p, e, _⟩ := bare_one h
   rw [stk_one e]
   have h2 := wo_deep g p.1 1
   exact tgt_deep (by omega) (by simp only [List.length_cons, List.length_nil]; omega)
  ·obtain ⟨p, e, h2⟩ := bare_more hr h
   rw [stk_more e hr]
   have pm := List.mem_of_getElem? e
   have ih := stk_deep h2
   have h4 := wo_deep g p.1 1
   have h5 : (one (chg b n fr r p) (1 + b.far p.1.1 n)).deep = max (1 + (stk b n fr r p.1.2).1.deep) 0 := rfl
   have h6 := mem_deep g p pm
   have h7 : 0 < r.length := List.length_pos_iff.mpr hr
   refine tgt_deep (by omega) ?_
   rw [h5, List.length_cons]
   omega
theorem bare_len : ∀ {pl : Pl} {g : Gr} {k : Str}, bareAt g pl = some k -> pl.length <= g.deep
 | [], _, _, h => nomatch h
 | i :: r, g, k, h => by
  by_cases hr : r = []
  ·subst hr
   obtain ⟨p, e, _⟩ := bare_one h
   have := mem_deep g p (List.mem_of_getElem? e)
   simp only [List.length_cons, List.length_nil]
   omega
  ·obtain ⟨p, e, h2⟩ := bare_more hr h
   have := mem_deep g p (List.mem_of_getElem? e)
   have := bare_len h2
   simp only [List.length_cons]
   omega
theorem stk_plen : ∀ {pl : Pl} {g : Gr} {k : Str}, bareAt g pl = some k -> (stk b n fr pl g).2.length = pl.length - 1
 | [], _, _, h => nomatch h
 | i :: r, g, k, h => by
  by_cases hr : r = []
  ·subst hr
   obtain ⟨p, e, _⟩ := bare_one h
   rw [stk_one e]; rfl
  ·obtain ⟨p, e, h2⟩ := bare_more hr h
   rw [stk_more e hr]
   have ih := stk_plen h2
   have h7 : 0 < r.length := List.length_pos_iff.mpr hr
   simp only [List.length_cons]
   omega
theorem bare_lk : ∀ {pl : Pl} {g : Gr} {k : Str} (a : Str), bareAt g pl = some k -> lk (a, g) (plO pl) = some (k, .nil)
 | [], _, _, _, h => nomatch h
 | i :: r, g, k, a, h => by
  have hs : ∀ p, g.ps[i]? = some p -> stp g (some (i : Int)) = some p.1 := fun p e => by
   show (if 0 <= (i : Int) then (g.ps[(i : Int).toNat]?).map (·.1) else none) = _
   rw [if_pos (by omega), Int.toNat_natCast, e]; rfl
  by_cases hr : r = []
  ·subst hr
   obtain ⟨p, e, e2⟩ := bare_one h
   show (stp g (some (i : Int))).bind (fun u => lk u (plO [])) = _
   rw [hs p e, e2]; rfl
  ·obtain ⟨p, e, h2⟩ := bare_more hr h
   show (stp g (some (i : Int))).bind (fun u => lk u (plO r)) = _
   rw [hs p e]
   exact bare_lk p.1.1 h2
theorem bks_at : ∀ {ps : List (Tr × Int)} {j : Nat} {x : Pl × Str}, x ∈ bks ps j -> ∃ i p, ps[i]? = some p /\ x ∈ bkP p (j + i)
 | [], _, _, h => nomatch h
 | p :: r, j, x, h => by
  rcases List.mem_append.mp h with h | h
  ·exact ⟨0, p, rfl, h⟩
  ·obtain ⟨i, q, e, h2⟩ := bks_at h
   exact ⟨i + 1, q, e, by rw [show j + (i + 1) = j + 1 + i by omega]; exact h2⟩
theorem bk_bare : ∀ (m : Nat) {g : Gr} {x : Pl × Str}, x.1.length <= m -> x ∈ g.bk 0 -> bareAt g x.1 = some x.2
 | 0, g, x, hl, h => by
  rw [bk_ps] at h
  obtain ⟨i, p, e, h2⟩ := bks_at h
  unfold bkP at h2
  split at h2
  ·rw [List.mem_singleton.mp h2] at hl; simp at hl
  ·obtain ⟨y, _, rfl⟩ := List.mem_map.mp h2; simp at hl
 | m + 1, g, x, hl, h => by
  rw [bk_ps] at h
  obtain ⟨i, p, e, h2⟩ := bks_at h
  rw [Nat.zero_add] at h2
  unfold bkP at h2
  split at h2
  ·next z =>
   rw [List.mem_singleton.mp h2]
   show bareAt g [i] = _
   rw [bareAt, e]
   simp [z]
  ·obtain ⟨y, hy, rfl⟩ := List.mem_map.mp h2
   have h3 : y.1 ≠ [] := by
    rw [bk_ps] at hy
    obtain ⟨i', p', e', h'⟩ := bks_at hy
    unfold bkP at h'
    split at h'
    ·rw [List.mem_singleton.mp h']; simp
    ·obtain ⟨y', _, rfl⟩ := List.mem_map.mp h'; simp
   have ih := bk_bare m (x := y) (by simp only [List.length_cons] at hl; omega) hy
   show bareAt g (i :: y.1) = _
   rw [bareAt, e]
   simp only [if_neg h3]
   exact ih
end Gr
def spJoinedW (K : PySem.W.Frag) {γ : Type} [DecidableEq γ] (enc : γ -> PyData) : Sp := fun vs H Q _ => ∃ (a : Addr) (xs : List V) (bs : List (γ × Int)), vs = [.ref a] /\ SqL K H a xs /\ Bears K H (pairE enc) xs bs /\ bs.length <= 5000 /\ (∀ b ∈ bs, Wd (enc b.1)) /\
 ∀ (c : Addr) (ys : List V) (H' : Hp), SB [] H H' -> SqT K H' c ys -> Bears K H' (pairE enc) ys (jn bs) -> Q (.ref c) H'
def spTogetherF (K : PySem.W.Frag) : Sp := fun vs H Q _ => ∃ (v u : V) (g k : Gr), vs = [v, u] /\ GA K H v g /\ GA K H u k /\ (∃ C, g.Ok C /\ k.Ok C) /\ g.deep <= 63 /\ k.deep <= 63 /\ g.ps.length <= 2100 /\ k.ps.length <= 2100 /\ ∀ (x : V) (H' : Hp), SB [] H H' -> GA K H' x (Gr.tgt g k) -> Q x H'
def spWithout (K : PySem.W.Frag) : Sp := fun vs H Q _ => ∃ (v u : V) (g : Gr) (t : Tr) (m : Int), vs = [v, u, .int m] /\ GA K H v g /\ Dp K H u (Gr.tEnc t) /\ (∃ C, g.Ok C /\ t.2.Ok C) /\ NameOk t.1 /\ g.deep <= 63 /\ t.2.deep <= 62 /\ g.ps.length <= 5000 /\ ∀ (x : V) (H' : Hp), SB [] H H' -> GA K H' x (Gr.wo g t m) -> Q x H'
def spTimes (K : PySem.W.Frag) : Sp := fun vs H Q _ => ∃ (v : V) (g : Gr) (m : Int), vs = [v, .int m] /\ GA K H v g /\ g.ps.length <= 5000 /\ (∀ p ∈ g.ps, 0 <= p.2 /\ p.2 < 2 ^ 2000) /\ 0 <= m /\ m < 2 ^ 2000 /\ ∀ (x : V) (H' : Hp), SB [] H H' -> GA K H' x (Gr.tmsG g m) -> Q x H'
def spNumOf (K : PySem.W.Frag) : Sp := fun vs H Q _ => ∃ (v u : V) (g : Gr) (t : Tr) (m : Int), vs = [v, u] /\ GA K H v g /\ Dp K H u (Gr.tEnc t) /\ (∃ C, g.Ok C) /\ g.deep <= 63 /\ g.ps.length <= 5000 /\ (t, m) ∈ g.ps /\ ∀ H', SB [] H H' -> Q (.int (Gr.pos g t : Nat)) H'
def spGrown (K : PySem.W.Frag) : Sp := fun vs H Q _ => ∃ (v : V) (r : Ru) (n : Int), vs = [v, .int n] /\ Dp K H v (Ru.enc r) /\ RuOk r /\ 0 <= n /\ n < 2 ^ 900 /\ ∀ (x : V) (H' : Hp), SB [] H H' -> GA K H' x (Gr.grw r n) -> Q x H'
def spFar (K : PySem.W.Frag) (C : Addr) : Sp := fun vs H Q _ => ∃ (v : V) (b : Bk) (k : Str) (n : Int), vs = [v, .str k, .int n] /\ BkA K C H v b /\ b.length <= 1000 /\ k ∈ b.names /\ ∀ H', SB [] H H' -> Q (.int (b.far k n)) H'
def spChkNum (K : PySem.W.Frag) (C : Addr) : Sp := fun vs H Q E => ∃ (v : V) (o : Option Int), vs = [v] /\ Wh K H v o /\ ((∃ n, o = some n /\ 0 <= n) -> ∀ H', SB [] H H' -> Q .non H') /\ ((∀ n, o = some n -> n < 0) -> ∀ H', SB [] H H' -> E (.ref C) none H')
abbrev noR : Ru := (.nil, .nil)
def spRuleAt (K : PySem.W.Frag) (C R : Addr) : Sp := fun vs H Q E => ∃ (v x : V) (b : Bk) (k : Str) (kd : Kd) (o : Option Int), vs = [v, .str k, x] /\ BkA K C H v b /\ b.Ok /\ b.get k = some kd /\ Wh K H x o /\
 (∀ (i : Nat) (r : Ru), o = some (i : Int) -> (noR :: kd.rs)[i]? = some r -> ∀ (y : V) (H' : Hp), SB [] H H' -> Dp K H' y (Ru.enc r) -> Q y H') /\ ((∀ i : Nat, o = some (i : Int) -> (noR :: kd.rs)[i]? = none) -> ∀ H', SB [] H H' -> E (.ref R) none H')
def spChkBound (K : PySem.W.Frag) (C : Addr) : Sp := fun vs H Q E => ∃ (v : V) (g : Gr), vs = [v] /\ GA K H v g /\ g.deep <= 68 /\ g.parts <= 200000 /\ ((g.parts <= 2000 /\ g.deep <= 60) -> ∀ H', SB [] H H' -> Q .non H') /\ (¬ (g.parts <= 2000 /\ g.deep <= 60) -> ∀ H', SB [] H H' -> E (.ref C) none H')
def spKindsF (K : PySem.W.Frag) : Sp := fun vs H Q _ => ∃ (v : V) (g : Gr) (ns : List Str), vs = [v] /\ GA K H v g /\ g.deep <= 68 /\ g.parts <= 3000 /\ Gr.Named ns g /\ ns.length <= 60 /\ ∀ (l : Addr) (ss : List Str) (H' : Hp), SB [] H H' -> H l = none -> H' l = some (.lst (ss.map V.str)) -> SrtOf ss (g.within.map (·.1.1)) -> ss.length <= 60 -> Q (.ref l) H'
def spStruck (K : PySem.W.Frag) (C : Addr) (m : Nat) : Sp := fun vs H Q _ => ∃ (v w fv : V) (a : Addr) (n D F : Int) (b : Bk) (g fr : Gr) (pl : Pl) (k : Str), vs = [v, w, .ref a, fv, .int n] /\ (BkA K C H v b /\ b.Ok) /\ (GA K H w g /\ g.Ok D /\ g.deep <= 60 /\ g.parts <= 2000 /\ Gr.Named b.names g) /\ (GA K H fv fr /\ 1 <= F /\ fr.Ok F /\ fr.deep <= 4 /\ fr.parts <= 4) /\ SqT K H a (pl.map fun n : Nat => V.int (n : Int)) /\ Gr.bareAt g pl = some k /\ pl.length < m /\ 0 <= n /\
 ∀ (t : Addr) (u p : V) (H' : Hp), SB [] H H' -> SqT K H' t [u, p] -> GA K H' u (Gr.stk b n fr pl g).1 -> Dp K H' p (plEnc (Gr.stk b n fr pl g).2) -> Q (.ref t) H'
def InBound (g : Gr) : Prop := g.parts <= 2000 /\ g.deep <= 60
def spFallen (K : PySem.W.Frag) (C NP NR NN TG : Addr) : Sp := fun vs H Q E => ∃ (v w x y : V) (a : Addr) (b : Bk) (g : Gr) (D : Int) (xs : List V) (os : List (Option Int)) (ro so : Option Int), vs = [v, w, .ref a, x, y] /\ (BkA K C H v b /\ b.Ok) /\ (GA K H w g /\ g.Ok D /\ g.deep <= 60 /\ g.parts <= 2000 /\ Gr.Named b.names g) /\ (SqT K H a xs /\ Whs K H xs os) /\ Wh K H x ro /\ Wh K H y so /\ (∀ n, so = some n -> n < 2 ^ 900) /\
 ((∀ pl k, os = plO pl -> Gr.bareAt g pl ≠ some k) -> ∀ H', SB [] H H' -> E (.ref NP) none H') /\
 ∀ (pl : Pl) (k : Str) (kd : Kd), os = plO pl -> Gr.bareAt g pl = some k -> b.get k = some kd ->
  ((∀ i : Nat, ro = some (i : Int) -> (noR :: kd.rs)[i]? = none) -> ∀ H', SB [] H H' -> E (.ref NR) none H') /\
  ∀ (i : Nat) (r : Ru), ro = some (i : Int) -> (noR :: kd.rs)[i]? = some r ->
   ((∀ n, so = some n -> n < 0) -> ∀ H', SB [] H H' -> E (.ref NN) none H') /\
   ∀ n : Int, so = some n -> 0 <= n ->
    (¬ InBound (Gr.stk b n (Gr.grw r n) pl g).1 -> ∀ H', SB [] H H' -> E (.ref TG) none H') /\
    (InBound (Gr.stk b n (Gr.grw r n) pl g).1 -> ∀ (t : Addr) (u p : V) (H' : Hp), SB [] H H' -> H t = none -> SqT K H' t [u, p] -> GA K H' u (Gr.stk b n (Gr.grw r n) pl g).1 -> Dp K H' p (plEnc (Gr.stk b n (Gr.grw r n) pl g).2) -> Q (.ref t) H')
namespace Gr
variable {b : Bk} {n : Int} {C F : Int} {g fr : Gr}
theorem chR_mem (hn : 0 <= n) (hF : 1 <= F) (hfr : fr.Ok F) {i : Nat} {r : Pl} {p : Tr × Int} {k : Str} (ho : g.Ok C) (hr : r ≠ []) (e : g.ps[i]? = some p) (h : bareAt g (i :: r) = some k) : (∃ D, (chR b n fr r g p).Ok D) /\ ∃ m, (chg b n fr r p, m) ∈ (chR b n fr r g p).ps := by
 have h1 := stk_ok (b := b) hn hF hfr ho h
 rw [stk_more e hr] at h1
 refine ⟨⟨_, h1⟩, ?_⟩
 have h2 : 1 <= S (chR b n fr r g p) (chg b n fr r p) := by
  show 1 <= S (tgt _ _) _
  rw [S_tgt, S_one, if_pos rfl]
  have := S_nonneg (wo_ok ho (t := p.1) (m := 1) (by omega)) (chg b n fr r p)
  have := (Bk.far_le b p.1.1 hn).1
  omega
 obtain ⟨m, hm, _⟩ := S_pos h1 h2
 exact ⟨m, hm⟩
end Gr
theorem Gr.lk_bare : ∀ {os : List (Option Int)} {g : Gr} {a : Str} {t : Tr}, os ≠ [] -> lk (a, g) os = some t -> ∃ pl, os = plO pl /\ (t.2 = .nil -> Gr.bareAt g pl = some t.1)
 | [], _, _, _, h, _ => absurd rfl h
 | o :: r, g, a, t, _, h => by
  rw [lk] at h
  obtain ⟨u, hu, h2⟩ := Option.bind_eq_some_iff.mp h
  cases o with
  | none => cases hu
  | some n =>
   change (if 0 <= n then (g.ps[n.toNat]?).map (·.1) else none) = some u at hu
   by_cases h0 : 0 <= n
   ·rw [if_pos h0] at hu
    obtain ⟨p, ep, rfl⟩ := Option.map_eq_some_iff.mp hu
    have en : some n = some ((n.toNat : Nat) : Int) := by rw [Int.toNat_of_nonneg h0]
    by_cases hr : r = []
    ·subst hr
     have e : p.1 = t := Option.some.inj h2
     refine ⟨[n.toNat], by rw [en]; rfl, fun z => ?_⟩
     rw [Gr.bareAt, ep]
     simp only [if_true]
     rw [e, if_pos z]
    ·obtain ⟨pl, e, h3⟩ := lk_bare (a := p.1.1) (g := p.1.2) hr h2
     refine ⟨n.toNat :: pl, by rw [e, en]; rfl, fun z => ?_⟩
     have hp : pl ≠ [] := fun z => hr (by rw [e, z]; rfl)
     rw [Gr.bareAt, ep]
     simp only [if_neg hp]
     exact h3 z
   ·rw [if_neg h0] at hu; cases hu
theorem Gr.bare_named {ns : List Str} : ∀ {pl : Pl} {g : Gr} {k : Str}, Gr.Named ns g -> Gr.bareAt g pl = some k -> k ∈ ns
 | [], _, _, _, h => nomatch h
 | i :: r, g, k, hn, h => by
  by_cases hr : r = []
  ·subst hr
   obtain ⟨p, e, e2⟩ := Gr.bare_one h
   have := (Gr.named_iff.mp hn p (List.mem_of_getElem? e)).1
   rwa [e2] at this
  ·obtain ⟨p, e, h2⟩ := Gr.bare_more hr h
   exact bare_named (Gr.named_iff.mp hn p (List.mem_of_getElem? e)).2 h2
theorem Whs.ints {K : PySem.W.Frag} {H : Hp} : ∀ {pl : Pl} {xs : List V}, Whs K H xs (plO pl) -> xs = pl.map fun n : Nat => V.int (n : Int)
 | [], _, h => by cases h; rfl
 | i :: r, _, h => by
  cases h with
  | cons h1 h2 =>
   rw [Whs.ints h2]
   rcases h1 with ⟨n, rfl, e⟩ | ⟨e, _⟩
   ·rw [<- Option.some.inj e]; rfl
   ·cases e
theorem Wh.int {K : PySem.W.Frag} {H : Hp} {v : V} {n : Int} (h : Wh K H v (some n)) : v = .int n := by
 rcases h with ⟨i, rfl, e⟩ | ⟨e, _⟩
 ·rw [Option.some.inj e]
 ·cases e
theorem rule_ok {kd : Kd} (h : ∀ r ∈ kd.rs, RuOk r) {i : Nat} {r : Ru} (e : (noR :: kd.rs)[i]? = some r) : RuOk r := by
 rcases List.mem_cons.mp (List.mem_of_getElem? e) with rfl | hm
 ·exact ⟨trivial, trivial, Nat.zero_le _⟩
 ·exact h r hm
theorem plO_inj : ∀ {p q : Pl}, plO p = plO q -> p = q
 | [], [], _ => rfl
 | [], _ :: _, h => nomatch h
 | _ :: _, [], h => nomatch h
 | i :: r, j :: s, h => by
  obtain ⟨h1, h2⟩ := List.cons.inj (show some (i : Int) :: plO r = some (j : Int) :: plO s from h)
  have := Option.some.inj h1
  rw [plO_inj h2, show i = j by omega]
def spMkBook (K : PySem.W.Frag) (C : Addr) : Sp := fun vs H Q _ => ∃ (l : Addr) (xs : List V) (b : Bk), vs = [.ref l] /\ H l = some (.lst xs) /\ KdAll K H [] xs b /\ b.Ok /\ ∀ (y : Addr) (H' : Hp), SB [] H H' -> H y = none -> BkA K C H' (.ref y) b -> Q (.ref y) H'
theorem wd_pl {d : PyData} (h : plS d = true) (hd : d.depth <= 190) : Wd d := ⟨plS_lay d h, hd⟩
def gpE (x : Gr × Pl) : PyData := .tuple [x.1.enc, plEnc x.2]
theorem gp_mk {K : PySem.W.Frag} {H : Hp} {t : Addr} {u p : V} {g : Gr} {pl : Pl} (h : SqT K H t [u, p]) (hu : GA K H u g) (hp : Dp K H p (plEnc pl)) : Dp K H (.ref t) (gpE (g, pl)) := .tup h (.cons hu (.cons hp .nil))
theorem Gr.wd_nil : Wd (.tuple []) := ⟨by decide +kernel, by decide +kernel⟩
def spBareF (K : PySem.W.Frag) (n : Nat) : Sp := fun vs H Q _ => ∃ (v u : V) (g : Gr) (pl : Pl), vs = [v, u] /\ GA K H v g /\ Dp K H u (plEnc pl) /\ g.deep < n /\ g.deep + pl.length <= 63 /\ g.parts <= 5000 /\ (∃ C, g.Ok C) /\ ∀ (l : Addr) (us : List V) (H' : Hp), SB [] H H' -> H l = none -> H' l = some (.lst us) -> Bears K H' bkE us ((g.bk 0).map fun x => (pl ++ x.1, x.2)) -> Q (.ref l) H'
theorem nilI {σ : L2.St} {H : Hp} {Q : List V -> Hp -> Prop} (h : Q [] H) : tNil σ H Q := h
section
variable {prog : Program} {w : World} {A : Around} {E : Value -> Shared -> Prop} {st : Shared} {K : PySem.W.Frag} {e D : Addr} {oe : Obj} {dd : Option Obj}
theorem look_cls (C : ExcC K D) : PySem.W.findObj K D dd "__class__" = some (.bind (.builtin "getset_descriptor.__get__") (.builtin "object.__class__")) := by
 obtain ⟨cd, hcd, _⟩ := PySem.W.any_some C.hd
 simp only [PySem.W.findObj, hcd, C.ha, C.hn, C.ht, Option.bind_some]
theorem cls_exc {Q : Option Value -> Shared -> Prop} (C : ExcC K D) (X : K.In st.heap) (I : PySem.W.InstAt st.heap e oe D dd) (q : Q (some (.ref D)) { st with toks := st.toks + 1 }) : wpAny (model prog w) A (getAttr? (.ref e) "__class__") Q E st := by
 have kf := look_cls (dd := dd) C
 obtain ⟨hp, gn, dc, tk, ows⟩ := st
 have K0 := I.type (M := model prog w)
 have K1 := PySem.W.looks_findIn (M := model prog w) X C.hg
 have K2 := PySem.W.looks_findIn (M := model prog w) X C.hk
 have K3 := PySem.W.looks_find (M := model prog w) X I kf
 have kb : Looks (model prog w) hp (isInstance (.ref e) (.type "BaseException")) true := K0.andThen (PySem.W.looks_subIn X C.hs)
 have z2 : (Value.builtin "BaseException.__getattribute__" == Value.builtin "object.__getattribute__") = false := by decide +kernel
 have z1 : (onTheHeap (Value.ref D) && Value.builtin "BaseException.__getattribute__" == Value.builtin "object.__getattribute__") = false := by rw [z2, Bool.and_false]
 unfold getAttr? getAttrBy? getAttrBy
 refine wpAny_bind (wpAny_mkText (wpAny_bind (wpAny_attempt (wpAny_holding (wpAny_bind (K0.at (wpAny_bind (K1.at ?gb))))))))
 case gb =>
 show wpAny _ _ (if (onTheHeap (Value.ref D) && Value.builtin "BaseException.__getattribute__" == Value.builtin "object.__getattribute__") = true then _ else _) _ _ _
 rw [z1, if_neg Bool.false_ne_true]
 unfold getAttrByItsOwn hookBefore
 refine wpAny_bind ?gc
 case gc =>
 rw [if_pos (show onTheHeap (Value.ref D) = true from rfl)]
 refine K2.at (wpAny_bind (wpAny_attempt (wpAny_holding ?gd)))
 case gd =>
 unfold callGetattribute
 rw [show (false && onTheHeap (Value.builtin "BaseException.__getattribute__")) = false from rfl, if_neg Bool.false_ne_true]
 unfold boundAndCalled
 rw [PySem.F.excAttr_ValueError.ga.bind (.ref e)]
 refine wpAny_bind (wpAny_pure ?ge)
 case ge =>
 show wpAny _ _ (call (.builtin "BaseException.__getattribute__") [.ref e, .str "__class__" tk]) _ _ _
 refine wpAny_call (codeAny_call_builtin PySem.F.excAttr_ValueError.ga.plain PySem.F.entry_bexc_ga ?gf)
 case gf =>
 refine @check_slot (model prog w) _ _ ⟨hp, gn, dc, tk + 1, ows⟩ "BaseException.__getattribute__" "BaseException" "__getattribute__" (.ref e) [.str "__class__" tk] [] _ (by decide +kernel) (by decide +kernel) kb (PySem.F.args_bexc_ga (.ref e) (.str "__class__" tk)) ?gg
 case gg =>
 unfold Builtin.«object.__getattribute__»
 refine wpAny_bind (wpAny_of_eq (a := ((Value.ref e : Value), [Value.str "__class__" tk])) (by first | rfl | (simp only [slotArgs]; rfl)) ?gh)
 case gh =>
 refine wpAny_bind (wpAny_pure (wpAny_bind (K0.at (wpAny_bind (K3.at ?gi)))))
 case gi =>
 show wpAny _ _ (holding [Value.builtin "object.__class__"] (call (.builtin "getset_descriptor.__get__") [.builtin "object.__class__", .ref e, .ref D]) >>= ret) _ _ _
 refine wpAny_bind (wpAny_holding (wpAny_call (PySem.W.class_get (s := ⟨hp, gn, dc, tk + 1, ows⟩) (ox := oe) (od := dd) X I C.hm ?gj)))
 case gj =>
 refine wpAny_pure ?gk
 case gk =>
 show wpAny _ _ (handedOut (.ref D)) _ _ _
 rw [handedOut_of (v := .ref D) rfl]
 first
  | exact wpAny_pure (wpAny_pure q)
  | exact wpAny_pure q
  | exact wpAny_pure (wpAny_bind (wpAny_pure (wpAny_pure q)))
theorem kit_exc (C : ExcC K D) : PySem.W.KitX K (.ref e) (.ref D) (fun h => PySem.W.InstAt h e oe D dd) where
 ty := fun _ _ _ I => I.type
 it := fun M h X _ => by
  obtain ⟨cd, hcd, _⟩ := PySem.W.any_some C.hd
  unfold PySem.W.clsIn at hcd
  split at hcd
  ·next ho => exact fun A' Q' E' s' k q => by unfold isType loadHead; exact wpAny_bind (wpAny_loadPart (k _ _ (X _ _ ho)) (wpAny_pure q))
  ·cases hcd
 ne := fun h tp dd' its n sl X htp => Bool.eq_false_iff.mpr fun q => by
  obtain ⟨cd, hcd, _⟩ := PySem.W.any_some C.hd
  cases Value.ref.inj (beq_iff_eq.mp q)
  unfold PySem.W.clsIn at hcd
  split at hcd
  ·next ho => exact absurd ((X _ _ ho).symm.trans htp) (fun z => by cases z)
  ·cases hcd
 ca := fun X I k => cls_exc C X I k
end
def ExD (H : Hp) (d : Option Addr) : Prop := d = none \/ ∃ dd fs, d = some dd /\ H dd = some (.xd fs)
theorem ExD.sb {H H' : Hp} {d : Option Addr} (h : ExD H d) (s : SB [] H H') : ExD H' d := by
 rcases h with h | ⟨dd, fs, h, g⟩
 ·exact .inl h
 ·exact .inr ⟨dd, fs, h, s.keep _ _ g nmn⟩
def rIsEg (K : PySem.W.Frag) (a : Addr) (cls : Value) (d : Option Addr) : List V -> Hp -> VK -> Prop := fun xs H Q => ∃ (D : Addr) (c : V) (cv : Value) (b : Bool), cls = .ref D /\ ExcC K D /\ ExD H d /\ xs = [.ref a, c] /\ (∀ u, RelV c u -> u = cv) /\ PySem.W.kitOne K (.ref D) cv = some b /\ Q (.bl b) H
def tXfg (K : PySem.W.Frag) (a : Addr) (cls : Value) (d : Option Addr) (f : Str) (te : TE) : TE := fun σ H Q => te σ H fun x H1 => ∃ (C dd : Addr) (fs : List (Str × V)) (v : V), x = .ref a /\ cls = .ref C /\ ExcC K C /\ PySem.W.findIn K (.ref C) f = some none /\ d = some dd /\ H1 dd = some (.xd fs) /\ fs.lookup f = some v /\ Q v H1
section
variable {X : Cx} {a : Addr} {oe : Obj} {cls : Value} {d : Option Addr}
theorem inst_e {D : Addr} {pins : List (Addr × Obj)} {σ : L2.St} {H : Hp} {s : Shared} (hm : (a, oe) ∈ X.pn) (hz : Zc (.ref D) d oe) (hf : ∃ vs, oe.data = .fields vs) (I : Inv X pins σ H s) (hd : ExD H d) : ∃ dd, PySem.W.InstAt s.heap a oe D dd := by
 obtain ⟨h, _⟩ := I.pin (a, oe) (List.mem_append.mpr (.inl hm))
 obtain ⟨vs, hv⟩ := hf
 obtain ⟨h1, h2⟩ := hz
 have nc : PySem.W.notCls oe = true := by unfold PySem.W.notCls; rw [hv]
 rcases hd with e | ⟨dd, fs, e, g⟩
 ·exact ⟨none, h, h1, nc, by rw [h2, e]; trivial⟩
 ·obtain ⟨mA, hns, _⟩ := (show ObjOk X.prog X.w H s.heap dd (.xd fs) from I.hok dd _ g)
  obtain ⟨od, ho, _⟩ := lookIn_ns hns
  exact ⟨some od, h, h1, nc, by rw [h2, e]; exact ho⟩
theorem call_isEg (hm : (a, oe) ∈ X.pn) (hz : Zc cls d oe) (hf : ∃ vs, oe.data = .fields vs) : CallR X (.builtin "isinstance") (rIsEg X.K a cls d) := by
 intro pins s σ H xs us Q I r h
 obtain ⟨D, c, cv, b, ec, C, hd, rfl, hcv, e, q⟩ := h
 subst ec
 obtain ⟨u1, u2, rfl, r1, r2⟩ := vals2 r
 cases (show u1 = Value.ref a from r1)
 cases hcv _ r2
 obtain ⟨dd, J⟩ := inst_e hm hz hf I hd
 exact PySem.W.kia_one (kit_exc C) I.kIn J e (fun z => nomatch z) fun tk => ⟨.bl b, H, I.kept (t' := tk) fun _ _ z => z, rfl, q⟩
theorem pe_xfg {e : Expr} {te : TE} {pos : Pos} {n : Str} (hm : (a, oe) ∈ X.pn) (hz : Zc cls d oe) (hf : ∃ vs, oe.data = .fields vs) (he : PE X e te) (hb : attributeBase e n X.env (eval e X.env) = eval e X.env := by rfl) : PE X (.Attribute e n pos) (tXfg X.K a cls d n te) := by
 refine ⟨fun pins st σ H Q I h => attr_of hb (thn (he.run pins st σ H _ I h) fun u s1 hh => ?_)⟩
 obtain ⟨x, H1, J1, rx, C, dd, fs, v, ex, ec, T, hno, ed, hx, l, q⟩ := hh
 subst ex ec ed
 cases (show u = Value.ref a from rx)
 obtain ⟨ga, _⟩ := J1.pin (a, oe) (List.mem_append.mpr (.inl hm))
 obtain ⟨mA, hns, hr⟩ := (show ObjOk X.prog X.w H1 s1.heap dd (.xd fs) from J1.hok dd _ hx)
 obtain ⟨od, ho, hl⟩ := lookIn_ns hns
 obtain ⟨w, hw, rw'⟩ := RelO.some_of (v := v) (o := mA n) (by rw [<- l]; exact hr n)
 obtain ⟨vs, hv⟩ := hf
 have nc : PySem.W.notCls oe = true := by unfold PySem.W.notCls; rw [hv]
 have ins : PySem.W.InstAt s1.heap a oe C (some od) := ⟨ga, hz.1, nc, by rw [hz.2]; exact ho⟩
 exact HandSPX.exc_get J1.kIn ins T.hg T.hk T.hs (PySem.W.findObj_own T.hd hno rfl (by rw [hl, hw])) (handed_of rw') ⟨v, H1, J1.tok _, rw', q⟩
end
structure ErrsM (K : PySem.W.Frag) (mg : Str -> Option Value) (c : Str -> Addr) (caught names kinds : List Str) : Prop where
 glo : ∀ n ∈ names, mg n = some (.ref (c n))
 FellError : mg "FellError" = some (.ref (c "FellError"))
 ve : mg "ValueError" = none
 exc : ∀ n ∈ caught, ExcC K (c n)
 exm : ∀ n ∈ caught, PySem.W.exmOne K (.ref (c n)) (.ref (c "FellError")) = some true
 kve : ∀ n ∈ caught, PySem.W.kitOne K (.ref (c n)) (.type "ValueError") = some true
 kit : ∀ n ∈ caught, ∀ m ∈ names, PySem.W.kitOne K (.ref (c n)) (.ref (c m)) = some (decide (n = m))
 nok : ∀ n ∈ kinds, PySem.W.findIn K (.ref (c n)) "kind" = some none
 exo : ∀ n ∈ caught, ∀ m ∈ names, PySem.W.exmOne K (.ref (c n)) (.ref (c m)) = some (decide (n = m))
def ermB (K : PySem.W.Frag) (c : Str -> Addr) (caught names : List Str) : Bool := caught.all fun n => excCB K (c n) && (decide (PySem.W.exmOne K (.ref (c n)) (.ref (c "FellError")) = some true) && (decide (PySem.W.kitOne K (.ref (c n)) (.type "ValueError") = some true) && names.all fun m => decide (PySem.W.kitOne K (.ref (c n)) (.ref (c m)) = some (decide (n = m))) && decide (PySem.W.exmOne K (.ref (c n)) (.ref (c m)) = some (decide (n = m)))))
theorem ermB_ok {K : PySem.W.Frag} {mg : Str -> Option Value} {c : Str -> Addr} {caught names kinds : List Str} (h : ermB K c caught names = true) (g : ∀ n ∈ names, mg n = some (.ref (c n))) (f : mg "FellError" = some (.ref (c "FellError"))) (v : mg "ValueError" = none) (k : ∀ n ∈ kinds, PySem.W.findIn K (.ref (c n)) "kind" = some none) : ErrsM K mg c caught names kinds := by
 have hh : ∀ n ∈ caught, excCB K (c n) = true /\ PySem.W.exmOne K (.ref (c n)) (.ref (c "FellError")) = some true /\ PySem.W.kitOne K (.ref (c n)) (.type "ValueError") = some true /\ ∀ m ∈ names, PySem.W.kitOne K (.ref (c n)) (.ref (c m)) = some (decide (n = m)) /\ PySem.W.exmOne K (.ref (c n)) (.ref (c m)) = some (decide (n = m)) := fun n hn => by
  have := List.all_eq_true.mp h n hn
  simp only [Bool.and_eq_true, decide_eq_true_eq, List.all_eq_true] at this
  exact this
 exact ⟨g, f, v, fun n hn => excCB_ok (hh n hn).1, fun n hn => (hh n hn).2.1, fun n hn => (hh n hn).2.2.1, fun n hn m hm => ((hh n hn).2.2.2 m hm).1, k, fun n hn m hm => ((hh n hn).2.2.2 m hm).2⟩
theorem _root_.L2.Room.sui {j k : Nat} {A : Around} {v : Option Value} (r : Room k A) (h : j <= k) : L2H.RoomH j (A.mark v) := by
 have q := r.mono h
 exact ⟨q.dp, q.un⟩
abbrev cxE (P : Program) (w : World) (K : PySem.W.Frag) (mg : Str -> Option Value) (base : Heap) (N : List Str) (qual : Str) (st : Stmt) (f : Addr) (cdv : Value) (A : Around) (outer : List Env) (s : Shared) (H : Hp) (E : XK) (a : Addr) (oe : Obj) : Cx := (L2H.cxH CX0 P w K mg base N qual (defScope st) f cdv A outer s H E (a, oe)).nox
def tCallP (sp : Addr -> Obj -> Sp) (a : Addr) (cls : Value) (d : Option Addr) (t : TA) : TE := fun σ H Q => t σ H fun vs H1 => ∀ oe, Zc cls d oe -> (∃ fs, oe.data = .fields fs) -> sp a oe vs H1 Q E0
structure LeastOut (P : Str -> Prop) (g : Gr) (n : Str) : Prop where
 mem : n ∈ g.within.map (·.1.1)
 out : P n
 low : ∀ m ∈ g.within.map (·.1.1), P m -> ¬ m.cps.toList < n.cps.toList
def spCheckKX (K : PySem.W.Frag) (C N : Addr) : Sp := fun vs H Q E => ∃ (v w : V) (b : Bk) (g : Gr) (ns : List Str), vs = [v, w] /\ BkA K C H v b /\ GA K H w g /\ b.length <= 60 /\ g.deep <= 68 /\ g.parts <= 3000 /\ Gr.Named ns g /\ ns.length <= 60 /\ (Gr.Named b.names g -> ∀ H', SB [] H H' -> Q .non H') /\
 ∀ n, LeastOut (fun m => m ∉ b.names) g n -> ∀ (d : Addr) (H' : Hp), SB [] H H' -> H d = none -> H' d = some (.xd [("kind", .str n)]) -> E (.ref N) (some d) H'
theorem sorted_drop {ss : List Str} (h : sortedS ss = true) : ∀ (i : Nat), sortedS (ss.drop i) = true
 | 0 => h
 | i + 1 => by
  have ih := sorted_drop h i
  cases e : ss.drop i with
  | nil => rw [List.drop_eq_nil_iff] at e; rw [List.drop_eq_nil_iff.mpr (by omega)]; rfl
  | cons x r =>
   rw [e] at ih
   have : ss.drop (i + 1) = r := by rw [<- List.drop_drop, e]; rfl
   rw [this]; exact sortedS_tail ih
theorem LeastOut.at {P : Str -> Prop} {g : Gr} {ss : List Str} (so : SrtOf ss (g.within.map (·.1.1))) {i : Nat} {n : Str} (en : ss[i]? = some n) (hp : P n) (hb : ∀ m ∈ ss.take i, ¬ P m) : LeastOut P g n := ⟨(so.mem n).mp (List.mem_of_getElem? en), hp, fun m hm hP => by
 have hm := (so.mem m).mpr hm
 rw [<- List.take_append_drop i ss] at hm
 rcases List.mem_append.mp hm with z | z
 ·exact absurd hP (hb m z)
 ·obtain ⟨hi, e⟩ := List.getElem?_eq_some_iff.mp en
  have hd := sorted_drop so.srt i
  rw [List.drop_eq_getElem_cons hi, e] at z hd
  rcases List.mem_cons.mp z with z | z
  ·rw [z]; exact List.lt_irrefl _
  ·exact rising_all hd m z⟩
def W12 : List Str := ["NoKind", "NoPlace", "NoRule", "NoNumber", "NoRise", "TooGreat", "NoFall", "NoBook", "Endless", "NoGrove", "NoName", "NoRow"]
def W7 : List Str := ["kind", "place", "rule", "said", "rise", "great", "fall"]
def spWhich (K : PySem.W.Frag) (c : Str -> Addr) (caught : List Str) : Addr -> Obj -> Sp := fun a oe vs H Q _ => ∃ (n : Str) (d : Option Addr) (j : Nat), vs = [.ref a] /\ Zc (.ref (c n)) d oe /\ (∃ fs, oe.data = .fields fs) /\ n ∈ caught /\ ExD H d /\ j < 7 /\ W12[j]? = some n /\
 (j = 0 -> ∃ (dd : Addr) (z : Str), d = some dd /\ H dd = some (.xd [("kind", .str z)]) /\ ∀ (T : Addr) (H' : Hp), SB [] H H' -> SqT K H' T [.str "kind", .str z] -> Q (.ref T) H') /\
 (j ≠ 0 -> ∀ (T : Addr) (w : Str) (H' : Hp), SB [] H H' -> W7[j]? = some w -> SqT K H' T [.str w] -> Q (.ref T) H')
theorem w12_nd : W12.Nodup := by decide +kernel
theorem w12_at {i j : Nat} {m n : Str} (h1 : W12[i]? = some m) (h2 : W12[j]? = some n) : decide (n = m) = decide (i = j) := by
 by_cases e : i = j
 ·subst e; rw [h1] at h2; cases h2; simp
 ·rw [decide_eq_false e]
  refine decide_eq_false fun z => e ?_
  subst z
  have := (List.getElem?_eq_some_iff.mp h1).1
  exact (List.getElem?_inj (l := W12) this w12_nd).mp (by rw [h1, h2])
def whD : PyData -> Option Int
 | .int i => some i
 | _ => none
theorem Wh_of {K : PySem.W.Frag} {H : Hp} {v : V} {d : PyData} (h : Dp K H v d) : Wh K H v (whD d) := by
 cases h with
 | int i => exact .inl ⟨i, rfl, rfl⟩
 | non => exact .inr ⟨rfl, "NoneType", false, false, .base .non, by decide +kernel, (fun z => nomatch z), rfl⟩
 | bl b => exact .inr ⟨rfl, "bool", true, true, .base (.bl b), by decide +kernel, fun _ => by decide +kernel, rfl⟩
 | str x => exact .inr ⟨rfl, "str", false, false, .base (.str x), by decide +kernel, (fun z => nomatch z), rfl⟩
 | tup hs _ => exact .inr ⟨rfl, "tuple", false, false, SqT_ty hs, by decide +kernel, (fun z => nomatch z), rfl⟩
 | lst hs _ => exact .inr ⟨rfl, "list", false, false, SqL_ty hs, by decide +kernel, (fun z => nomatch z), rfl⟩
theorem Whs_of {K : PySem.W.Frag} {H : Hp} : ∀ {vs : List V} {ds : List PyData}, DpAll K H vs ds -> Whs K H vs (ds.map whD)
 | _, _, .nil => .nil
 | _, _, .cons h t => .cons (Wh_of h) (Whs_of t)
theorem plO_whD : ∀ pl : Pl, (plInts pl).map whD = plO pl
 | [] => rfl
 | n :: r => by show whD _ :: (plInts r).map whD = _ :: plO r; rw [plO_whD r]; rfl
theorem whD_pl : ∀ {ds : List PyData} {pl : Pl}, ds.map whD = plO pl -> ds = plInts pl
 | [], [], _ => rfl
 | [], n :: r, h => by cases h
 | d :: r, [], h => by cases h
 | d :: r, n :: p, h => by
  have h' : whD d :: r.map whD = some (n : Int) :: plO p := h
  injection h' with h1 h2
  rw [whD_pl h2]
  cases d <;> simp only [whD] at h1 <;> cases h1
  rfl
inductive Ro where
 | kind (n : Str)
 | place
 | rule
 | said
 | rise
 | done
def Ro.vs : Ro -> List V
 | .kind n => [.str "kind", .str n]
 | .place => [.str "place"]
 | .rule => [.str "rule"]
 | .said => [.str "said"]
 | .rise => [.str "rise"]
 | .done => [.str "done"]
def Ro.ds : Ro -> List PyData
 | .kind n => [.str "kind", .str n]
 | .place => [.str "place"]
 | .rule => [.str "rule"]
 | .said => [.str "said"]
 | .rise => [.str "rise"]
 | .done => [.str "done"]
theorem Ro.dp (K : PySem.W.Frag) (H : Hp) (o : Ro) : DpAll K H o.vs o.ds := by
 cases o <;> first | exact .cons (.str _) .nil | exact .cons (.str _) (.cons (.str _) .nil)
def NatO (o : Option Int) : Prop := ∃ n : Nat, o = some (n : Int)
abbrev Fa := Pl × Nat × Int
def faE (f : Fa) : PyData := .tuple [plEnc f.1, .int (f.2.1 : Nat), .int f.2.2]
def fgE (x : Fa × Gr) : PyData := .tuple [faE x.1, x.2.enc]
theorem faE_noList (f : Fa) : noList (faE f) = true := by simp [faE, noList, noLists, pl_noList]
theorem fgE_noList (x : Fa × Gr) : noList (fgE x) = true := by simp [fgE, noList, noLists, faE_noList, Gr.noList_enc]
abbrev plF (bv : V) (ls ld lu : Addr) : List (Str × V) := [("book", bv), ("stood", .ref ls), ("done", .ref ld), ("undone", .ref lu)]
structure Ply (K : PySem.W.Frag) (C : Addr) (H : Hp) (bv : V) (a ls ld lu : Addr) (gs : List Gr) (ds : List Fa) (us : List (Fa × Gr)) : Prop where
 ins : ∃ dx, H a = some (.ins C dx (plF bv ls ld lu))
 st : ∃ vs, H ls = some (.lst vs) /\ Bears K H Gr.enc vs gs
 dn : ∃ vs, H ld = some (.lst vs) /\ Bears K H faE vs ds
 un : ∃ vs, H lu = some (.lst vs) /\ Bears K H fgE vs us
 n1 : ls ≠ ld
 n2 : ls ≠ lu
 n3 : ld ≠ lu
section
variable {K : PySem.W.Frag} {C : Addr} {H H' : Hp} {bv : V} {a ls ld lu : Addr} {gs : List Gr} {ds : List Fa} {us : List (Fa × Gr)} {ps : List Addr}
theorem Ply.sb (h : Ply K C H bv a ls ld lu gs ds us) (e : SB ps H H') (na : a ∉ ps) (n1 : ls ∉ ps) (n2 : ld ∉ ps) (n3 : lu ∉ ps) : Ply K C H' bv a ls ld lu gs ds us := by
 obtain ⟨⟨dx, h0⟩, ⟨v1, h1, b1⟩, ⟨v2, h2, b2⟩, ⟨v3, h3, b3⟩, m1, m2, m3⟩ := h
 exact ⟨⟨dx, e.keep _ _ h0 na⟩, ⟨v1, e.keep _ _ h1 n1, b1.sb e Gr.noList_enc⟩, ⟨v2, e.keep _ _ h2 n2, b2.sb e faE_noList⟩, ⟨v3, e.keep _ _ h3 n3, b3.sb e fgE_noList⟩, m1, m2, m3⟩
theorem Ply.sb0 (h : Ply K C H bv a ls ld lu gs ds us) (e : SB [] H H') : Ply K C H' bv a ls ld lu gs ds us := h.sb e (by simp) (by simp) (by simp) (by simp)
theorem Bears.last {β : Type} {enc : β -> PyData} {b : β} : ∀ {bs : List β} {vs : List V}, Bears K H enc vs (bs ++ [b]) -> ∃ us u, vs = us ++ [u] /\ Bears K H enc us bs /\ Dp K H u (enc b)
 | [], _, .cons h .nil => ⟨[], _, rfl, .nil, h⟩
 | _ :: bs, _, .cons h t => by
  obtain ⟨us, u, e, h1, h2⟩ := Bears.last (bs := bs) t
  exact ⟨_ :: us, u, by rw [e]; rfl, .cons h h1, h2⟩
theorem atI_app {α : Type} {us : List α} {u : α} : atI (us ++ [u]) (-1) = some u := atI_end (by simp)
end
def spPyGrove (K : PySem.W.Frag) (C : Addr) : Sp := fun vs H Q _ => ∃ (a ls ld lu : Addr) (bv : V) (gs : List Gr) (g : Gr) (ds : List Fa) (us : List (Fa × Gr)), vs = [.ref a] /\ Ply K C H bv a ls ld lu (gs ++ [g]) ds us /\ ∀ v, GA K H v g -> Q v H
def spPyFalls (K : PySem.W.Frag) (C : Addr) : Sp := fun vs H Q _ => ∃ (a ls ld lu : Addr) (bv : V) (gs : List Gr) (ds : List Fa) (us : List (Fa × Gr)), vs = [.ref a] /\ Ply K C H bv a ls ld lu gs ds us /\ ∀ (l : Addr) (ws : List V) (H' : Hp), SB [] H H' -> H l = none -> H' l = some (.lst ws) -> Bears K H' faE ws ds -> Q (.ref l) H'
def spPyFall (K : PySem.W.Frag) (C CB NP NR NN TG : Addr) : Sp := fun vs H Q E => ∃ (a ls ld lu pa : Addr) (bv x y : V) (b : Bk) (gs : List Gr) (g : Gr) (ds : List Fa) (us : List (Fa × Gr)) (D : Int) (xs : List V) (os : List (Option Int)) (ro so : Option Int), vs = [.ref a, .ref pa, x, y] /\
 (Ply K C H bv a ls ld lu (gs ++ [g]) ds us /\ gs.length <= 1000 /\ ds.length <= 1000) /\ (BkA K CB H bv b /\ b.Ok) /\ (g.Ok D /\ g.deep <= 60 /\ g.parts <= 2000 /\ Gr.Named b.names g) /\ (SqT K H pa xs /\ Whs K H xs os) /\ Wh K H x ro /\ Wh K H y so /\ (∀ n, so = some n -> n < 2 ^ 900) /\
 ((∀ pl k, os = plO pl -> Gr.bareAt g pl ≠ some k) -> ∀ H', SB [] H H' -> E (.ref NP) none H') /\
 ∀ (pl : Pl) (k : Str) (kd : Kd), os = plO pl -> Gr.bareAt g pl = some k -> b.get k = some kd ->
  ((∀ i : Nat, ro = some (i : Int) -> (noR :: kd.rs)[i]? = none) -> ∀ H', SB [] H H' -> E (.ref NR) none H') /\
  ∀ (i : Nat) (r : Ru), ro = some (i : Int) -> (noR :: kd.rs)[i]? = some r ->
   ((∀ n, so = some n -> n < 0) -> ∀ H', SB [] H H' -> E (.ref NN) none H') /\
   ∀ n : Int, so = some n -> 0 <= n ->
    (¬ InBound (Gr.stk b n (Gr.grw r n) pl g).1 -> ∀ H', SB [] H H' -> E (.ref TG) none H') /\
    (InBound (Gr.stk b n (Gr.grw r n) pl g).1 -> ∀ (lu' : Addr) (p : V) (H' : Hp), SB [a, ls, ld] H H' -> H lu' = none -> Ply K C H' bv a ls ld lu' (gs ++ [g] ++ [(Gr.stk b n (Gr.grw r n) pl g).1]) (ds ++ [(pl, i, n)]) [] -> Dp K H' p (plEnc (Gr.stk b n (Gr.grw r n) pl g).2) -> Q p H')
def spPyBack (K : PySem.W.Frag) (C NF : Addr) : Sp := fun vs H Q E => ∃ (a ls ld lu : Addr) (bv : V) (gs : List Gr) (ds : List Fa) (us : List (Fa × Gr)), vs = [.ref a] /\ Ply K C H bv a ls ld lu gs ds us /\ us.length <= 1000 /\ (ds = [] -> ∀ H', SB [] H H' -> E (.ref NF) none H') /\
 (ds ≠ [] -> ∃ (g0 : List Gr) (h g : Gr) (d0 : List Fa) (f : Fa), gs = g0 ++ [h] ++ [g] /\ ds = d0 ++ [f] /\ ∀ (v : V) (H' : Hp), SB [ls, ld, lu] H H' -> Ply K C H' bv a ls ld lu (g0 ++ [h]) d0 (us ++ [(f, g)]) -> GA K H' v h -> Q v H')
def spPyAgain (K : PySem.W.Frag) (C NF : Addr) : Sp := fun vs H Q E => ∃ (a ls ld lu : Addr) (bv : V) (gs : List Gr) (ds : List Fa) (us : List (Fa × Gr)), vs = [.ref a] /\ Ply K C H bv a ls ld lu gs ds us /\ gs.length <= 1000 /\ ds.length <= 1000 /\ (us = [] -> ∀ H', SB [] H H' -> E (.ref NF) none H') /\
 (us ≠ [] -> ∃ (u0 : List (Fa × Gr)) (f : Fa) (g : Gr), us = u0 ++ [(f, g)] /\ ∀ (v : V) (H' : Hp), SB [ls, ld, lu] H H' -> Ply K C H' bv a ls ld lu (gs ++ [g]) (ds ++ [f]) u0 -> GA K H' v g -> Q v H')
instance : Orderly faE where
 al a b := by simp [faE, alike, alikeAll, Orderly.al (enc := plEnc) a.1 b.1]
 eq a b := by
  simp only [faE, PyData.eqv, PyData.eqvAll, Orderly.eq (enc := plEnc), Bool.and_true, ib]
  by_cases h : a = b
  ·subst h; simp
  ·rw [decide_eq_false h]
   refine Bool.eq_false_iff.mpr fun z => h ?_
   simp only [Bool.and_eq_true, decide_eq_true_eq] at z
   exact Prod.ext z.1 (Prod.ext (by have := z.2.1; omega) z.2.2)
end FT
namespace FTH
open PySem PySem.Spec PyProof.Rows HotX
open Sem (wp)
section
variable {prog : Program} {w : World} {A : Around} {E : Value -> Shared -> Prop} {s : Shared}
theorem stop_hot {α : Type} {x1 it : Addr} {f : Obj -> Obj} {Q : α -> Shared -> Prop} (hot : HotAt A x1 s.heap) (hne : x1 ≠ it)
  (k : ∀ h' a, Heap.ExtBut it s.heap h' -> (∃ o, h'.get? a = some o /\ o.cls = .type "StopIteration") -> E (.ref a) { s with heap := h' }) :
  wpAny (model prog w) A (newExc (.type "StopIteration") [] >>= fun e => (raiseNew e : Sem α)) Q E { s with heap := s.heap.update it f } := by
 obtain ⟨hh, o1, vs1, h1, d1, c1⟩ := hot
 have g1 : (s.heap.update it f).get? x1 = some o1 := (Heap.get?_update_other _ _ (Ne.symm hne)).trans h1
 refine wpAny_bind ?_
 simp only [newExc, newTuple]
 refine wpAny_bind (wpAny_newObj_type ?_ (by size_fits))
 refine wpAny_bind (m := firstArgMember _ _) (wpAny_of_eq (a := Value.none) (by first | rfl | (simp only [firstArgMember]; rfl)) ?_)
 refine wpAny_newObj_type ?_ (by size_fits)
 refine raiseNew_hot ⟨hh, o1, vs1, Heap.get?_push_of_some _ (Heap.get?_push_of_some _ g1), d1, c1⟩ (Nat.ne_of_lt (Heap.lt_size (Heap.get?_push_of_some _ g1))) (Heap.get?_push_size _ rfl) rfl (by first | (simp; done) | (simp; omega) | (simp only [Array.size_append]; simp; omega)) ?_
 refine k _ _ (fun b o hb e => ?_) ⟨_, Heap.get?_update_self _ (Heap.get?_push_size _ rfl) rfl, rfl⟩
 have e2 : (s.heap.update it f).get? b = some o := (Heap.get?_update_other _ _ (Ne.symm hb)).trans e
 rw [Heap.get?_update_other _ _ (Nat.ne_of_gt (Heap.lt_size (Heap.get?_push_of_some _ e2)))]
 exact Heap.get?_push_of_some _ (Heap.get?_push_of_some _ e2)
theorem hot_ne {x1 it : Addr} {o : Obj} {a b : Value} (hot : HotAt A x1 s.heap) (ho : s.heap.get? it = some o) (hd : o.data = .fields #[a, b]) : x1 ≠ it := by
 obtain ⟨_, o1, vs1, h1, d1, c1⟩ := hot
 intro z
 subst z
 rw [ho] at h1; cases h1
 rw [hd] at d1; cases d1
 cases c1
theorem next_tuple_end_hot {it t x1 : Addr} {i : Nat} {items : Array Value} {Q : Option Value -> Shared -> Prop} (hot : HotAt A x1 s.heap)
  (hit : s.heap.IsTupleIter it t i) (ht : s.heap.IsTuple t items) (hx : items[i]? = none)
  (hQ : ∀ h', Heap.ExtBut it s.heap h' -> Q none { s with heap := h' }) : wpAny (model prog w) A (pyNext (.ref it)) Q E s := by
 obtain ⟨o, ho, hc, hd⟩ := id hit
 obtain ⟨ol, hol, _, nl, hdl⟩ := ht
 have hne := hot_ne hot ho hd
 unfold pyNext
 refine wpAny_bind (wpAny_attempt (wpAny_callSpecial?_slot (name := Str.ofString "__next__") hit.typeIs F.slot_tuple_iterator_next
  (wpAny_call_entry F.slot_tuple_iterator_next hit.typeIs F.entry_tuple_iterator_next ?_ (F.args_tuple_iterator_next_1 _))))
 show wpAny _ _ (field (.ref it) 0 >>= _) _ _ s
 refine wpAny_bind (wpAny_field ho hd (x := .ref t) rfl ?_)
 show wpAny _ _ (if (Value.ref t == Value.none) = true then _ else _) _ _ s
 rw [if_neg (show ¬ ((Value.ref t == Value.none) = true) from Bool.false_ne_true)]
 show wpAny _ _ (field (.ref it) 1 >>= _) _ _ s
 refine wpAny_bind (wpAny_field ho hd (x := .int i 0) rfl ?_)
 show wpAny _ _ (seqItems? (.ref t) >>= _) _ _ s
 refine wpAny_bind (wpAny_seqItems hol hdl ?_)
 simp only [Int.toNat_natCast, hx]
 refine wpAny_bind (wpAny_rule (wpAny_bind (wpAny_setField ho hd (by simp) ?_)))
 refine stop_hot (A := A.in1) hot hne fun h' a e1 e2 => ?_
 obtain ⟨o2, g2, c2⟩ := e2
 refine wpAny_bind (wpAny_isInstance (T := "StopIteration") (b := true) ⟨o2, g2, c2⟩ isSubtype_stop ?_)
 exact wpAny_pure (hQ _ e1)
theorem nextOf_list_end_hot {it l x1 : Addr} {i : Nat} {items : Array Value} {Q : Value -> Shared -> Prop} (hot : HotAt A x1 s.heap)
  (hit : s.heap.IsListIter it l i) (hl : s.heap.IsList l items) (hx : items[i]? = none)
  (hE : ∀ h' e, Heap.ExtBut it s.heap h' -> (∃ o, h'.get? e = some o /\ o.cls = .type "StopIteration") -> E (.ref e) { s with heap := h' }) :
  wpAny (model prog w) A (Builtin.SmallTypes.nextOf (.ref it)) Q E s := by
 obtain ⟨o, ho, hc, hd⟩ := id hit
 obtain ⟨ol, hol, _, nl, hdl⟩ := hl
 have hne := hot_ne hot ho hd
 unfold Builtin.SmallTypes.nextOf
 refine wpAny_bind (wpAny_callSpecial?_slot (name := Str.ofString "__next__") hit.typeIs slot_listiter_next
  (wpAny_call_entry slot_listiter_next hit.typeIs entry_listiter_next ?_ (args_listiter_next _)))
 show wpAny _ _ (field (.ref it) 0 >>= _) _ _ s
 refine wpAny_bind (wpAny_field ho hd (x := .ref l) rfl ?_)
 show wpAny _ _ (if (Value.ref l == Value.none) = true then _ else _) _ _ s
 rw [if_neg (show ¬ ((Value.ref l == Value.none) = true) from Bool.false_ne_true)]
 show wpAny _ _ (field (.ref it) 1 >>= _) _ _ s
 refine wpAny_bind (wpAny_field ho hd (x := .int i 0) rfl ?_)
 show wpAny _ _ (seqItems? (.ref l) >>= _) _ _ s
 refine wpAny_bind (wpAny_seqItems hol hdl ?_)
 simp only [Int.toNat_natCast, hx]
 refine wpAny_bind (wpAny_rule (wpAny_bind (wpAny_setField ho hd (by simp) ?_)))
 exact stop_hot (A := A.in1) hot hne fun h' a e1 e2 => hE _ _ e1 e2
theorem next_enum_end_hot {e it l x1 : Addr} {i : Nat} {items : Array Value} {old : Value} {Q : Option Value -> Shared -> Prop} (hot : HotAt A x1 s.heap)
  (he : IsEnum s.heap e it i old) (hit : s.heap.IsListIter it l i) (hl : s.heap.IsList l items) (hx : items[i]? = none)
  (hQ : ∀ h', Heap.ExtBut it s.heap h' -> Q none { s with heap := h' }) : wpAny (model prog w) A (pyNext (.ref e)) Q E s := by
 have hT : s.TypeIs (.ref e) "enumerate" := ⟨_, he, rfl⟩
 unfold pyNext
 refine wpAny_bind (wpAny_attempt (wpAny_callSpecial?_slot (name := Str.ofString "__next__") hT F.slot_enumerate_next
  (wpAny_call_entry F.slot_enumerate_next hT F.entry_enumerate_next ?_ (F.args_enumerate_next_1 _))))
 show wpAny _ _ (field (.ref e) 2 >>= _) _ _ _
 refine wpAny_bind (wpAny_field he rfl (x := .ref it) rfl ?_)
 refine wpAny_bind (nextOf_list_end_hot (A := A.in1) hot hit hl hx fun h' x he' hx' => ?_)
 obtain ⟨o, ho, hc⟩ := hx'
 refine wpAny_bind (wpAny_isInstance (T := "StopIteration") (b := true) ⟨o, ho, hc⟩ isSubtype_stop ?_)
 exact wpAny_pure (hQ _ he')
theorem rnext_tuple_end_hot {it t x1 : Addr} {i : Nat} {items : Array Value} {Q : Option Value -> Shared -> Prop} (hot : HotAt A x1 s.heap)
  (hit : IsTupIter s.heap it t i) (ht : IsTup s.heap t items) (hx : items[i]? = none)
  (hQ : ∀ h', Heap.ExtBut it s.heap h' -> Q none { s with heap := h' }) : wpAny (model prog w) A (pyNext (.ref it)) Q E s := next_tuple_end_hot hot hit ht hx hQ
theorem assign_tuple_hot {env : Env} {elts : List Expr} {x1 : Addr} {k} {pos : Pos} {t : Addr} {items : Array Value} {Q : Unit -> Shared -> Prop} (hot : HotAt A x1 s.heap) (ht : IsTup s.heap t items)
  (hn : (assignEach elts env).length = items.size) (hstar : (assignEach elts env).findIdx? (·.1) = none)
  (h : ∀ h', Heap.ExtBut s.heap.objs.size s.heap h' -> wpAny (model prog w) A (assignInOrder ((assignEach elts env).map (·.2)) items.toList) Q E { s with heap := h' }) :
  wpAny (model prog w) A (assign (.Tuple elts k pos) env (.ref t)) Q E s := by
 rw [assign_Tuple]
 refine wpAny_bind (wpAny_standAt ?_)
 unfold unpack
 rw [hn, hstar]
 refine wpAny_bind (wpAny_holding ?_)
 have hlt : t ≠ s.heap.objs.size := by obtain ⟨o, ho, _⟩ := ht; exact Nat.ne_of_lt (Heap.lt_size ho)
 have hx1 : x1 ≠ s.heap.objs.size := by obtain ⟨_, o, _, ho, _⟩ := hot; exact Nat.ne_of_lt (Heap.lt_size ho)
 unfold unpackItems
 refine wpAny_bind ?_
 ·unfold notIterableAtAll
  refine wpAny_bind (wpAny_specialOf ht.typeIs slot_tuple_iter.lookup ?_)
  refine wpAny_pure ?_
  simp only [Bool.false_eq_true, if_false]
  refine wpAny_bind (wpAny_holding (iter_tuple ht ?_))
  refine wpAny_bind (wpAny_holding (draw_tuple hlt items.size 0 _ _ ⟨_, Heap.get?_push_size _ rfl, rfl, rfl⟩ (ht.push _) (by omega) fun h₁ hit₁ hs₁ => ?_))
  have hall : List.take items.size (List.drop 0 items.toList) = items.toList := by
   rw [List.drop_zero]; exact List.take_of_length_le (by simp)
  rw [hall]
  rw [if_neg (by simp)]
  have ht₁ : IsTup h₁ t items := (ht.push _).extBut hs₁.extBut hlt
  have hot₁ : HotAt A x1 h₁ := by
   obtain ⟨hh, o1, vs1, g1, d1, c1⟩ := hot
   exact ⟨hh, o1, vs1, hs₁.extBut x1 o1 hx1 (Heap.get?_push_of_some _ g1), d1, c1⟩
  refine wpAny_bind (wpAny_holding (rnext_tuple_end_hot hot₁ hit₁ ht₁ (by simp) fun h₂ he₂ => ?_))
  simp only [Option.isSome_none, Bool.false_eq_true, if_false]
  refine wpAny_pure (h h₂ fun b o hb e => he₂ b o hb (hs₁.extBut b o hb (Heap.get?_push_of_some _ e)))
theorem walks_tuple_hot {x1 : Addr} (I ax : Addr) (hne : ax ≠ I) (hx : x1 ≠ I) (items : Array Value) :
  Walks prog w A I [I, ax, x1] [I] items.size (fun i v => items[i]? = some v) (fun i h => h.IsTupleIter I ax i /\ h.IsTuple ax items /\ HotAt A x1 h) where
 sub := fun b hb => by simp at hb; simp [hb]
 frame := fun _ _ _ st hk => ⟨st.1.at fun o e => hk I (by simp) o e, st.2.1.at fun o e => hk ax (by simp) o e, by
  obtain ⟨hh, o1, vs1, g1, d1, c1⟩ := st.2.2
  exact ⟨hh, o1, vs1, hk x1 (by simp) _ g1, d1, c1⟩⟩
 item := fun i s Q E hi st hQ => by
  refine wpAny_pyNext_tuple_item st.1 st.2.1 (x := items[i]) (by simp [hi]) fun h' hit' hs' => ?_
  refine hQ _ h' s.toks (by simp [hi]) ⟨hit', st.2.1.extBut hs'.extBut hne, ?_⟩ fun b o hb e => hs'.extBut b o (fun h => hb (by simp [h])) e
  obtain ⟨hh, o1, vs1, g1, d1, c1⟩ := st.2.2
  exact ⟨hh, o1, vs1, hs'.extBut x1 _ hx g1, d1, c1⟩
 done := fun s Q E st hQ => next_tuple_end_hot st.2.2 st.1 st.2.1 (by simp) fun h' he' => hQ h' s.toks fun b o hb e => he' b o (fun h => hb (by simp [h])) e
 self := fun _ _ _ _ st hQ => wpAny_pyIter_tupleiter st.1 hQ
theorem min_two_hot {a b : Int} {t u : Tok} {x1 : Addr} {Q : Value -> Shared -> Prop} (hot : HotAt A x1 s.heap)
  (h : ∀ h' tk, (∀ c o, s.heap.get? c = some o -> h'.get? c = some o) -> Q (if b < a then .int b u else .int a t) { s with heap := h', toks := tk }) :
  wpAny (model prog w) A (call (.builtin "min") [.int a t, .int b u]) Q E s := by
 have hT : (s.heap.push { cls := .type "tuple", data := .seq #[.int a t, .int b u] }).IsTuple s.heap.objs.size (intItems #[(a, t), (b, u)]) := ⟨_, Heap.get?_push_size _ rfl, rfl, 0, by simp [intItems]⟩
 refine call_min_two (wpAny_pyIter_tuple hT ?_)
 have hsz : (s.heap.push { cls := .type "tuple", data := .seq #[.int a t, .int b u] }).objs.size = s.heap.objs.size + 1 := Heap.size_push ..
 have hx1 : x1 < s.heap.objs.size := by obtain ⟨_, o, _, ho, _⟩ := hot; exact Heap.lt_size ho
 refine ⟨_, [_, s.heap.objs.size, x1], [_], _, _, _, _, rfl, walks_tuple_hot (A := A.in1) (x1 := x1) _ s.heap.objs.size (by rw [hsz]; exact Nat.ne_of_lt (Nat.lt_succ_self _)) (by rw [hsz]; exact Nat.ne_of_lt (Nat.lt_succ_of_lt hx1)) (intItems #[(a, t), (b, u)]),
  ⟨⟨_, Heap.get?_push_size _ rfl, rfl, rfl⟩, hT.push _, ?_⟩, fun c hc => ?_, by simp [intItems], CmpOf.ints_lt (numAt #[(a, t), (b, u)]) (fun _ _ => intItems_at), fun v h' tk hP hk => ?_⟩
 ·obtain ⟨hh, o1, vs1, g1, d1, c1⟩ := hot
  exact ⟨hh, o1, vs1, Heap.get?_push_of_some _ (Heap.get?_push_of_some _ g1), d1, c1⟩
 ·show c < ((s.heap.push _).push _).objs.size
  rw [Heap.size_push, hsz]
  rcases List.mem_cons.mp hc with rfl | hc
  ·rw [hsz]; exact Nat.lt_succ_self _
  ·rcases List.mem_cons.mp hc with rfl | hc
   ·exact Nat.lt_succ_of_lt (Nat.lt_succ_self _)
   ·rw [List.mem_singleton.mp hc]; exact Nat.lt_succ_of_lt (Nat.lt_succ_of_lt hx1)
 ·have hold : ∀ c o, s.heap.get? c = some o -> h'.get? c = some o := fun c o e => by
   refine hk c o (fun hm => ?_) (Heap.get?_push_of_some _ (Heap.get?_push_of_some _ e))
   rcases List.mem_cons.mp hm with e1 | hm
   ·have := Heap.lt_size e; rw [e1, hsz] at this; exact Nat.lt_irrefl _ (Nat.lt_of_succ_lt this)
   ·cases hm
  have := h h' tk hold
  have hv : v = if b < a then Value.int b u else Value.int a t := by
   have hP' : (intItems #[(a, t), (b, u)])[argBest (fun i j => decide (numAt #[(a, t), (b, u)] i < numAt #[(a, t), (b, u)] j)) 1]? = some v := by
    have hsz2 : (intItems #[(a, t), (b, u)]).size - 1 = 1 := by simp [intItems]
    rw [<- hsz2]; exact hP
   by_cases hba : b < a
   ·have e : argBest (fun i j => decide (numAt #[(a, t), (b, u)] i < numAt #[(a, t), (b, u)] j)) 1 = 1 := by simp [argBest, numAt, hba]
    rw [e] at hP'
    simpa [intItems, hba] using hP'.symm
   ·have e : argBest (fun i j => decide (numAt #[(a, t), (b, u)] i < numAt #[(a, t), (b, u)] j)) 1 = 0 := by simp [argBest, numAt, hba]
    rw [e] at hP'
    simpa [intItems, hba] using hP'.symm
  rw [hv]; exact this
end
end FTH
namespace FT
open PySem PySem.W PySem.Spec PyProof.Rows L2
section
variable {X : Cx}
theorem pg_tupH {es : List Expr} {k : Nat} {t : TGs} {n : Nat} {pos : Pos} (hc : L2H.HotC X) (h : L2.PGs X es t)
  (hn : (assignEach es X.env).length = n := by rfl) (hst : (assignEach es X.env).findIdx? (·.1) = none := by rfl) : L2.PG X (.Tuple es k pos) (gTup X.K n t) := by
 refine ⟨fun pins s σ H v u Q I r hw => ?_⟩
 obtain ⟨a, xs, e1, hq, hl, hw⟩ := hw
 subst e1
 cases r
 obtain ⟨its, rv, ht, hz⟩ := I.tuple hq
 obtain ⟨x1, hot⟩ := hc.at I
 refine FTH.assign_tuple_hot hot ht (by simp [hn, <- hl, rv.length]) hst fun h' hx => ?_
 have I1 : Inv X pins σ H { s with heap := h' } := I.kept (t' := s.toks) fun b o e => hx b o (Nat.ne_of_lt (Heap.lt_size e)) e
 exact h.run pins _ σ H xs _ Q I1 (by simpa using rv) hw
theorem call_min2H (hc : L2H.HotC X) : CallR X (.builtin "min") (fun xs H Q => ∃ i j, xs = [.int i, .int j] /\ Q (.int (if j < i then j else i)) H) := by
 intro pins s σ H xs us Q I r h
 obtain ⟨i, j, rfl, q⟩ := h
 obtain ⟨u, w', rfl, ⟨t, rfl⟩, ⟨t', rfl⟩⟩ := vals2 r
 obtain ⟨x1, hot⟩ := hc.at I
 refine FTH.min_two_hot hot fun h' tk k => ⟨_, H, I.kept k, ?_, q⟩
 by_cases hj : j < i
 ·rw [if_pos hj, if_pos hj]; exact ⟨_, rfl⟩
 ·rw [if_neg hj, if_neg hj]; exact ⟨_, rfl⟩
theorem turn_enumH {P : Program} {w : World} {K : PySem.W.Frag} {elts : List Expr} {kk : Nat} {tpos : Pos} (a e it : Addr) :
  L2H.TurnH P w K (.Tuple elts kk tpos) (Ite K a) [e, it] e (fun i h => (∃ old, IsEnum h e it ((i : Nat) : Int) old) /\ h.IsListIter it a i /\ e ≠ it) where
 mem := by simp
 obj := fun i h st b hb => by
  obtain ⟨⟨old, he⟩, ⟨o, ho, hc, hd⟩, _⟩ := st
  have e' : b = e \/ b = it := by simpa using hb
  rcases e' with z | z
  ·rw [z]; exact ⟨_, he, fun v q => nomatch q⟩
  ·rw [z]; exact ⟨o, ho, fun v q => by rw [hd] at q; cases q⟩
 keep := fun i h h' st k => let ⟨⟨old, he⟩, hi, hne⟩ := st; ⟨⟨old, k e (by simp) _ he⟩, hi.at fun o q => k it (by simp) o q, hne⟩
 item := by
  intro X hP hw hK hc i pins s σ H E I hf st hg
  subst hP hw hK
  obtain ⟨⟨old, he⟩, hit, hne⟩ := st
  obtain ⟨xs, x, hq, hx⟩ := hg
  obtain ⟨its, rv, p, hz⟩ := I.list hq
  obtain ⟨u, hu, ru⟩ := rv.get hx
  have hel : e < s.heap.objs.size := Heap.lt_size he
  have hil : it < s.heap.objs.size := by obtain ⟨_, q, _⟩ := hit; exact Heap.lt_size q
  refine wpAny_pyNext_enum_item he hit p.isList (x := u) (by simpa using hu) hne fun h' ho hit' hT hsz hk => ?_
  refine ⟨_, rfl, wpAny_letOwnedTupleGo_enum (s := { s with heap := h', toks := s.toks + 1 }) ho fun h'' he' sb => ?_⟩
  have hT2 : h''.get? s.heap.objs.size = some { cls := .type "tuple", data := .seq #[.int i s.toks, u] } := (sb.2 _ (Nat.ne_of_gt hel)).trans hT
  have new : ObjOk X.prog X.w (upd H s.heap.objs.size (.tup [.int (i : Nat), x])) h'' s.heap.objs.size (.tup [.int (i : Nat), x]) :=
   ⟨by show 2 <= sizeLine; decide, [.int i s.toks, u], .cons ⟨_, rfl⟩ (.cons ru .nil), ⟨_, hT2, rfl, _, rfl⟩⟩
  have I1 : Inv X pins σ (upd H s.heap.objs.size (.tup [.int (i : Nat), x])) { s with heap := h'', toks := s.toks + 1 } :=
   I.turnedNew (ch := [e, it]) (fun b ob hb q => (sb.2 b (fun z => hb (by simp [z]))).trans (hk b ob (fun z => hb (by simp [z])) (fun z => hb (by simp [z])) q)) hf (Nat.le_refl _) new
  refine ⟨.ref s.heap.objs.size, _, I1, rfl, ⟨_, x, rfl, I.hok.fresh (Nat.le_refl _), rfl, fun ys hy => by rw [I.list_inj hy hq]; exact hx⟩, ⟨⟨u, ?_⟩, hit'.at fun o q => (sb.2 it (Ne.symm hne)).trans q, hne⟩, fun b hb => ?_⟩
  ·have e1 : ((i + 1 : Nat) : Int) = (i : Int) + 1 := by omega
   rw [e1]; exact he'
  ·have hb' : b < s.heap.objs.size := by
    have e' : b = e \/ b = it := by simpa using hb
    rcases e' with z | z
    ·rw [z]; exact hel
    ·rw [z]; exact hil
   rw [upd_ne (Nat.ne_of_lt hb')]
   exact (hf b hb).1
 done := by
  intro X hP hw hK hc i pins s σ H E I hf st hg
  subst hP hw hK
  obtain ⟨⟨old, he⟩, hit, hne⟩ := st
  obtain ⟨xs, hq, hx⟩ := hg
  obtain ⟨its, rv, p, hz⟩ := I.list hq
  obtain ⟨f0, f1, f2, f3, f4, f5⟩ := hf it (by simp)
  have hl := rv.length
  obtain ⟨x1, hot⟩ := hc.at I
  exact FTH.next_enum_end_hot hot he hit p.isList (by simp; omega) fun h' eb => ⟨rfl, I.turned (t' := s.toks) (fun b o hb q => eb b o hb q) f0 f1 f3 f4 f5⟩
 self := fun A i s Q E st h => let ⟨⟨_, he⟩, _⟩ := st; wpAny_pyIter_enum he h
theorem pi_enumH {e : Expr} {ta : TA} {p pos tpos : Pos} {elts : List Expr} {kk : Nat} (hg : Gl X "enumerate") (hm : X.mg "enumerate" = none) (ha : PA X [e] ta) (hs : starEach [e] X.env = [(false, eval e X.env)] := by rfl) :
  L2H.PIH X (.Tuple elts kk tpos) (.Call (.Name "enumerate" p) [e] [] pos) (iEnum X.K ta) := by
 refine ⟨fun pins s σ H R I h => ?_⟩
 refine Call_ (ld_blt I hg hm boot_enumerate (PyProof.Rows.callWith_type1 (thn (ha.run pos pins s σ H _ I h) fun us s1 ⟨vs, H1, I1, r1, q1⟩ => ?_) hs rfl))
 obtain ⟨a, xs, ex, hq, q⟩ := q1
 subst ex
 cases r1 with
 | cons r rr =>
  cases rr
  cases r
  obtain ⟨its, rv, p', hz⟩ := I1.list hq
  refine call_enumerate_list p'.isList fun h' he hit hsz hk => wpAny_pyIter_enum he ?_
  have I2 : Inv X pins σ H1 { s1 with heap := h' } := I1.kept (t' := s1.toks) hk
  refine ⟨s1.heap.objs.size + 1, [s1.heap.objs.size + 1, s1.heap.objs.size], _, _, H1, rfl, I2, turn_enumH a (s1.heap.objs.size + 1) s1.heap.objs.size, ⟨⟨.none, he⟩, hit, Nat.succ_ne_self _⟩, fun b hb => ?_, q⟩
  have e' : b = s1.heap.objs.size + 1 \/ b = s1.heap.objs.size := by simpa using hb
  have hle : s1.heap.objs.size <= b := by
   rcases e' with z | z
   ·rw [z]; exact Nat.le_add_right _ _
   ·rw [z]; exact Nat.le_refl _
  exact I1.fpOk hle (I1.hok.fresh hle)
end
structure FnPN (P : Program) (w : World) (K : PySem.W.Frag) (mg : Str -> Option Value) (base : Heap) (k : Nat) (f : Addr) (fd : FuncData) (ps : List Str) (sp : Addr -> Obj -> Sp) : Prop where
 len : ∀ a oe vs H Q E, sp a oe vs H Q E -> vs.length = ps.length
 run : ∀ (A : Around) (outer : List Env) (s : Shared) (H : Hp) (args : Args) (us : List Value) (vs : List V) (Q : VK) (E : XK) (a : Addr) (oe : Obj), L2H.Hot1 A (a, oe) -> L2H.RoomH k A -> L2H.PinOk outer H s (a, oe) -> Env0 P w K mg base A outer s H -> BindsTo s fd args (ps.zip us) -> Vals vs us -> sp a oe vs H Q E -> codeAny (model P w) A (.call (.ref f) args) (CR CX0 outer P w H s Q E) s
theorem okPN {P : Program} {w : World} {K : PySem.W.Frag} {mg : Str -> Option Value} {base : Heap} {x qual : Str} {st : Stmt} {f : Addr} {fd : FuncData} {N ps : List Str} {k : Nat} {sp : Addr -> Obj -> Sp} (F : Fun K x qual st f fd) (S : FnScope N ps (defScope st)) (len : ∀ a oe vs H Q E, sp a oe vs H Q E -> vs.length = ps.length)
  (body : ∀ (cdv : Value) (A : Around) (outer : List Env) (s : Shared) (H : Hp) (vs : List V) (Q : VK) (E : XK) (a : Addr) (oe : Obj), L2H.HotC (cxE P w K mg base N qual st f cdv A outer s H E a oe) -> L2H.RoomH k (A.deeper (envOfC qual (defScope st) s.heap.objs.size f cdv)) -> sp a oe vs H Q E -> ∃ t, PSs (cxE P w K mg base N qual st f cdv A outer s H E a oe) (defBody st) t /\ t { nx := fun _ H' => Q .non H', rt := Q } (start N vs) H) : FnPN P w K mg base (k + 1) f fd ps sp := by
 obtain ⟨oc, od, kV, doc, pm, an, cdv, ct, osl, rfl, lk, hcd⟩ := F.ex
 refine ⟨len, fun A outer s H args us vs Q E a oe hot room pin e0 bd rel hsp => ?_⟩
 have inK : K.In s.heap := e0.mod.kin.keeps fun b o e => (e0.bs b o e).1
 have noL : s.heap.NoLimit := e0.mod.nolimit.keeps fun b o e => (e0.bs b o e).1
 have kinds : ∀ y ∈ ps.zip us, (defScope st).names.lookup y.1 = some .local \/ ((defScope st).names.lookup y.1 = some .cell /\ ((cellsFrom (s.heap.objs.size + 1) (defScope st).names []).lookup y.1).isSome = true) := by
  rintro ⟨n, v⟩ hy
  exact (S.par n (List.of_mem_zip hy).1).imp id fun q => ⟨q, PySem.W.cellsFrom_some _ _ _ (.inl q)⟩
 refine codeAny_call_function room.depth (inK _ _ lk) rfl S.co S.gen rfl (PySem.W.codeRec_of inK hcd) (bd _ _ _ _ (wpAny_newFunctionEnv_cells S.kind kinds ?_))
 rintro env rfl s1 ic
 obtain ⟨t, ht, ht2⟩ := body cdv A outer s H vs Q E a oe ⟨(a, oe), ⟨hot.1, hot.2⟩, List.mem_singleton.mpr rfl⟩ (room.deeper _) hsp
 refine ⟨noL.keeps ic.toInCall.keep, codeAny_func (wpAny_mono (ht.nox.run [] s1 (start N vs) H _ (L2H.inv_startH (CX := CX0) (E := E) S pin e0 (len _ _ _ _ _ _ hsp) rel ic) ht2) ?_ fun e s' z => z)⟩
 intro fl s' hs
 match fl, hs with
 | .ret u, ⟨v, σ', H', J, rv, q⟩ => exact ⟨v, H', J.os, J.bare, J.base, J.hok, rv, q⟩
 | .next, ⟨σ', H', J, q⟩ => exact ⟨.non, H', J.os, J.bare, J.base, J.hok, rfl, q⟩
 | .brk, ⟨_, _, _, q⟩ => exact q.elim
 | .cont, ⟨_, _, _, q⟩ => exact q.elim
structure GotPN (P : Program) (w : World) (K : PySem.W.Frag) (mg : Str -> Option Value) (base : Heap) (x : Str) (ps : List Str) (k : Nat) (sp : Addr -> Obj -> Sp) : Prop where
 ex : ∃ (f : Addr) (fd : FuncData), FnPN P w K mg base k f fd ps sp /\ PySem.W.keepIn K (.ref f) = true /\ Binds K fd ps [] /\ mg x = some (.ref f)
section
variable {X : Cx} {a : Addr} {oe : Obj} {cls : Value} {d : Option Addr} {x : Str} {ps : List Str} {k : Nat} {sp : Addr -> Obj -> Sp} {e : Expr} {es : List Expr} {t : TA} {p pos : Pos}
theorem pe_gotPN (G : GotPN X.prog X.w X.K X.mg X.base x ps k sp) (hr : L2H.RoomH k X.A) (hg : Gl X x) (hm : (a, oe) ∈ X.pn) (hA : X.A.handled = some (.ref a)) (hz : L2N.Zn cls d oe) (hf : ∃ vs, oe.data = .fields vs) (ha : PA X (e :: es) t) (hdb : (x == ("__debug__" : Str)) = false := by decide) (he : starEach (e :: es) X.env = (false, eval e X.env) :: starEach es X.env := by rfl) (hpl : (backTo pos (starEach es X.env)).any (·.1) = false := by rfl) :
  PE X (.Call (.Name x p) (e :: es) [] pos) (tCallP sp a cls d t) := by
 obtain ⟨f, fd, F, h2, hb, h4⟩ := G.ex
 refine ⟨fun pins s σ H Q I h => wpAny_Call_Name_kw (ld_glob I hg h4 ?_ hdb)⟩
 refine PySem.W.callWith_K (h₀ := X.base) I.ok.mod.kin h2 (thn (ha.run pos pins s σ H _ I h) fun us s1 ⟨vs, H1, J, r, q⟩ => ⟨J.kIn, ?_⟩) he hpl
 have q1 := q oe hz.zc hf
 have P1 := J.pin (a, oe) (List.mem_append.mpr (.inl hm))
 have hl : (us ++ []).length = ps.length := by rw [List.append_nil, <- r.length]; exact F.len _ _ _ _ _ _ q1
 have b := hb s1 us J.kIn hl
 rw [List.append_nil] at b
 obtain ⟨fv, efv⟩ := hf
 refine wpAny_call (codeAny_mono (F.run X.A X.stack s1 H1 ⟨us, []⟩ us vs Q E0 a oe ⟨hA, fv, efv, hz.2.2 fv efv⟩ hr ⟨P1.1, P1.2.1, fun z => (List.mem_cons.mp (J.stkSub a z)).elim P1.2.2.1 P1.2.2.2.1, P1.2.2.2.2⟩ J.env0 b r q1) ?_)
 intro z s' hq
 match z, hq with
 | .error e, hq => exact (show False from hq).elim
 | .ok (.ret u), hq => exact J.after hq
 | .ok .next, hq => exact hq.elim
 | .ok .brk, hq => exact hq.elim
 | .ok .cont, hq => exact hq.elim
end
theorem passLN {X : Cx} : Passes (L2N.CX X.prog X.w) X E0 := fun _ _ _ _ _ _ _ h => by
 obtain ⟨_, _, _, _, _, _, _, _, _, _, _, _, z⟩ := h
 exact z.elim
theorem takes0N {X : Cx} : L2N.Takes X (fun _ _ _ _ => False) := fun _ _ x => by
 obtain ⟨_, _, _, _, _, _, _, _, _, _, _, _, _, _, _, _, z⟩ := x
 exact z.elim
theorem _root_.L2.Fun.okXN {P : Program} {w : World} {K : PySem.W.Frag} {mg : Str -> Option Value} {base : Heap} {x qual : Str} {st : Stmt} {f : Addr} {fd : FuncData} {N ps : List Str} {k : Nat} {sp : Sp} (F : Fun K x qual st f fd) (S : FnScope N ps (defScope st)) (len : ∀ vs H Q E, sp vs H Q E -> vs.length = ps.length)
  (hbody : ∀ (cdv : Value) (A : Around) (outer : List Env) (s : Shared) (H : Hp) (vs : List V) (Q : VK) (E : XK), Room k (A.deeper (envOfC qual (defScope st) s.heap.objs.size f cdv)) -> sp vs H Q E ->
   ∃ t, PSs (cxOf (L2N.CX P w) P w K mg base N qual (defScope st) f cdv A outer s H E) (defBody st) t /\ t { nx := fun _ H' => Q .non H', rt := Q } (start N vs) H) : FnOk P w K mg base (L2N.CX P w) (k + 1) f fd ps sp := by
 obtain ⟨oc, od, kV, doc, pm, an, cdv, ct, osl, rfl, lk, hcd⟩ := F.ex
 exact fn_of lk hcd S len fun A outer s H vs Q E hr hsp => hbody cdv A outer s H vs Q E hr hsp
structure GotXN (P : Program) (w : World) (K : PySem.W.Frag) (mg : Str -> Option Value) (base : Heap) (x : Str) (ps : List Str) (k : Nat) (sp : Sp) : Prop where
 ex : ∃ (f : Addr) (fd : FuncData), FnOk P w K mg base (L2N.CX P w) k f fd ps sp /\ PySem.W.keepIn K (.ref f) = true /\ Binds K fd ps [] /\ mg x = some (.ref f)
structure GotMXN (P : Program) (w : World) (K : PySem.W.Frag) (mg : Str -> Option Value) (base : Heap) (C : Addr) (m : Str) (ps : List Str) (k : Nat) (sp : Sp) : Prop where
 ex : ∃ (f : Addr) (fd : FuncData), FnOk P w K mg base (L2N.CX P w) k f fd ps sp /\ Meth K C m f /\ Binds K fd ps [] /\ Cls K C
structure GotIN (P : Program) (w : World) (K : PySem.W.Frag) (mg : Str -> Option Value) (base : Heap) (x : Str) (C : Addr) (ps : List Str) (k : Nat) (sp : Sp) : Prop where
 ex : ∃ (f : Addr) (fd : FuncData), FnOk P w K mg base (L2N.CX P w) k f fd ps sp /\ Mk K C f /\ Binds K fd ps [] /\ mg x = some (.ref C)
section
variable {X : Cx} {C : Addr} {x m : Str} {ps : List Str} {k : Nat} {sp : Sp} {e o : Expr} {es : List Expr} {ta : TE} {t : TA} {p pos apos : Pos} {pl : Sem Bool}
theorem pe_gotSN {W : WX} (G : GotXN X.prog X.w X.K X.mg X.base x ps k sp) (hr : Room k X.A) (hg : Gl X x) (tk : L2N.Takes X W) (ha : PA X (e :: es) t) (hdb : (x == ("__debug__" : Str)) = false := by decide) (he : starEach (e :: es) X.env = (false, eval e X.env) :: starEach es X.env := by rfl) (hpl : (backTo pos (starEach es X.env)).any (·.1) = false := by rfl) :
  PE X (.Call (.Name x p) (e :: es) [] pos) (tCallS sp (WE W) t) := by
 obtain ⟨f, fd, h1, h2, h3, h4⟩ := G.ex
 exact pe_callS h1 hr hg h4 h2 h3 (fun σ => L2N.passAt tk σ) ha hdb he hpl
theorem pe_gotMXN (G : GotMXN X.prog X.w X.K X.mg X.base C m ps k sp) (hr : Room k X.A) (ho : PE X o ta) (ha : PA X (e :: es) t)
  (hst : starEach (e :: es) X.env = (false, eval e X.env) :: starEach es X.env := by rfl) (hpl : (backTo pos (starEach es X.env)).any (·.1) = false := by rfl)
  (ht : eval (.Call (.Attribute o m apos) (e :: es) [] pos) X.env = (do
    let ov <- eval o X.env
    standAt apos.atName
    let (g, first) <- holding [ov] (getMethod ov m pl)
    callWith pos g first (backTo pos (starEach (e :: es) X.env)) (backToKw pos (keywordEach [] X.env))) := by rfl) :
  PE X (.Call (.Attribute o m apos) (e :: es) [] pos) (tMethZ C m sp (fun _ => E0) ta t) := by
 obtain ⟨f, fd, h1, h2, h3, h4⟩ := G.ex
 exact pe_methZ ho h4 h2 h1 hr h3 (fun σ pins H s e s' I c => passLN pins σ H s e s' I c) ha hst hpl ht
theorem pe_gotMSN {W : WX} (G : GotMXN X.prog X.w X.K X.mg X.base C m ps k sp) (hr : Room k X.A) (tk : L2N.Takes X W) (ho : PE X o ta) (ha : PA X (e :: es) t)
  (hst : starEach (e :: es) X.env = (false, eval e X.env) :: starEach es X.env := by rfl) (hpl : (backTo pos (starEach es X.env)).any (·.1) = false := by rfl)
  (ht : eval (.Call (.Attribute o m apos) (e :: es) [] pos) X.env = (do
    let ov <- eval o X.env
    standAt apos.atName
    let (g, first) <- holding [ov] (getMethod ov m pl)
    callWith pos g first (backTo pos (starEach (e :: es) X.env)) (backToKw pos (keywordEach [] X.env))) := by rfl) :
  PE X (.Call (.Attribute o m apos) (e :: es) [] pos) (tMethZ C m sp (WE W) ta t) := by
 obtain ⟨f, fd, h1, h2, h3, h4⟩ := G.ex
 exact pe_methZ ho h4 h2 h1 hr h3 (fun σ => L2N.passAt tk σ) ha hst hpl ht
theorem pe_gotIN (G : GotIN X.prog X.w X.K X.mg X.base x C ps k sp) (hr : Room (k + 1) X.A) (hg : Gl X x) (ha : PA X (e :: es) t) (hdb : (x == ("__debug__" : Str)) = false := by decide)
  (he : starEach (e :: es) X.env = (false, eval e X.env) :: starEach es X.env := by rfl) (hpl : (backTo pos (starEach es X.env)).any (·.1) = false := by rfl) :
  PE X (.Call (.Name x p) (e :: es) [] pos) (tMakeZ C sp (fun _ => E0) t) := by
 obtain ⟨f, fd, h1, h2, h3, h4⟩ := G.ex
 exact pe_makeZ h2 h1 hr hg h4 h3 (fun σ pins H s e s' I c => passLN pins σ H s e s' I c) ha hdb he hpl
theorem pe_gotISN {W : WX} (G : GotIN X.prog X.w X.K X.mg X.base x C ps k sp) (hr : Room (k + 1) X.A) (hg : Gl X x) (tk : L2N.Takes X W) (ha : PA X (e :: es) t) (hdb : (x == ("__debug__" : Str)) = false := by decide)
  (he : starEach (e :: es) X.env = (false, eval e X.env) :: starEach es X.env := by rfl) (hpl : (backTo pos (starEach es X.env)).any (·.1) = false := by rfl) :
  PE X (.Call (.Name x p) (e :: es) [] pos) (tMakeZ C sp (WE W) t) := by
 obtain ⟨f, fd, h1, h2, h3, h4⟩ := G.ex
 exact pe_makeZ h2 h1 hr hg h4 h3 (fun σ => L2N.passAt tk σ) ha hdb he hpl
theorem pmk_oexN {CX : CXT} {fI : Addr} {fd : FuncData} {ds : List Value} {dvs : List V} (T : OexC X.K C) (iC : PySem.W.findIn X.K (.ref C) "__init__" = some (some (.ref fI))) (tI : PySem.W.typeIn X.K (.ref fI) = some (.type "function"))
  (F1 : FnOk X.prog X.w X.K X.mg X.base CX k fI fd ps sp) (hr : Room (k + 1) X.A) (hb : Binds X.K fd ps ds) (hd : Vals dvs ds) (hx : Passes CX X (fun _ _ _ => False)) (hg : Gl X x) (hm : X.mg x = some (.ref C)) (ha : PA X (e :: es) t)
  (hdb : (x == ("__debug__" : Str)) = false := by decide) (he : starEach (e :: es) X.env = (false, eval e X.env) :: starEach es X.env := by rfl) (hpl : (backTo pos (starEach es X.env)).any (·.1) = false := by rfl) :
  L2N.PMk X (.Call (.Name x p) (e :: es) [] pos) (tMkO C sp dvs t) := by
 intro pins s σ H Q I h
 obtain ⟨nm, q, N, bs, bm, sn, sub, ab, col, dd, k0, k1, k2, k3, k5, hC, hbm⟩ := T.cls
 refine wpAny_Call_Name_kw (ld_glob I hg hm ?_ hdb)
 refine PySem.W.callWith_K (h₀ := X.base) I.ok.mod.kin T.kC (thn (ha.run pos pins s σ H _ I h) fun us s1 ⟨vs, H1, I1, r1, hz, q1⟩ => ⟨I1.kIn, ?_⟩) he hpl
 show wpAny _ _ (call (.ref C) us) _ _ _
 obtain ⟨hp, g, dr, tk, os⟩ := s1
 have hsz : hp.objs.size <= hp.objs.size + 1 := Nat.le_succ _
 have hn : H1 (hp.objs.size + 1) = none := I1.hok.fresh hsz
 have hq := q1 (hp.objs.size + 1) hn
 have kk : ∀ b o, hp.get? b = some o -> ((hp.push (PySem.W.kdv_tup us)).push (PySem.HandSPX.excO C hp.objs.size)).get? b = some o := fun b o e => Heap.get?_push_of_some _ (Heap.get?_push_of_some _ e)
 have hget : ((hp.push (PySem.W.kdv_tup us)).push (PySem.HandSPX.excO C hp.objs.size)).get? (hp.objs.size + 1) = some (PySem.HandSPX.excO C hp.objs.size) := by heap_get
 have I2 : Inv X pins σ (upd H1 (hp.objs.size + 1) (exo (hp.objs.size + 1) C none)) ⟨(hp.push (PySem.W.kdv_tup us)).push (PySem.HandSPX.excO C hp.objs.size), g, dr, tk, os⟩ :=
  I1.laid (t' := tk) (a := hp.objs.size + 1) (o := exo (hp.objs.size + 1) C none) (h' := (hp.push (PySem.W.kdv_tup us)).push (PySem.HandSPX.excO C hp.objs.size)) kk hsz (exo_ok hget)
 have r2 : Vals (V.ref (hp.objs.size + 1) :: (vs ++ dvs)) (Value.ref (hp.objs.size + 1) :: (us ++ ds)) := .cons rfl (r1.append hd)
 have hl : (Value.ref (hp.objs.size + 1) :: us ++ ds).length = ps.length := by
  have e := r2.length
  rw [F1.len _ _ _ _ hq] at e
  exact e.symm
 have hus : us.length <= sizeLine := by
  rw [<- Paired.length r1, sizeLine_eq]
  omega
 refine wpAny_call (PySem.HandSPX.call_own F.excBase_ValueError (fun Y => PySem.HandSPX.refsVE_contains Y bm hbm) (I1.kIn _ _ hC) (PySem.W.looks_findIn I1.kIn iC) (fun self => PySem.W.bind_fn I1.kIn self tI) hus
  (codeAny_mono (F1.run _ X.stack _ _ ⟨Value.ref (hp.objs.size + 1) :: us, []⟩ (Value.ref (hp.objs.size + 1) :: (us ++ ds)) _ _ (fun _ _ _ => False) (hr.make C us []) (I2.env0.make C us []) (hb _ (Value.ref (hp.objs.size + 1) :: us) I2.kIn hl) r2 hq) fun r s' hq' => ?_))
 cases r with
 | error er => exact hx pins σ _ _ er s' I2 hq'
 | ok fl =>
  cases fl with
  | ret u =>
   obtain ⟨v, H2, os2, bare2, un2, hok2, rv, ev, d, fs, ea, ed, hd1, q2⟩ := hq'
   subst ev
   obtain ⟨h2, g2, d2, t2, os'⟩ := s'
   obtain ⟨t0, G, J, kG, ge, hoe, na⟩ := mk_end0 (d2 := d2) (t2 := t2) I1 hsz kk un2 hok2 os2 bare2 ea ed hd1
   refine ⟨rv, ⟨hp.objs.size + 1, _, _, ⟨G, g2, d2, t2, os'⟩, _, .ref C, some d, rfl, J, kG, ge, hoe, ⟨rfl, rfl, fun vs hv => ?_⟩, rfl, rfl, na, rfl, bare2, raises_own T.exC T.tyC, q2⟩⟩
   cases hv
   rfl
  | next => exact False.elim hq'
  | brk => exact False.elim hq'
  | cont => exact False.elim hq'
theorem pmk_kindN {te : TE} (O : OwnI X.prog X.w X.K X.mg X.base x C k) (hr : Room (k + 1) X.A) (hg : Gl X x) (he : PE X e te) (hdb : (x == ("__debug__" : Str)) = false := by decide)
  (hs : starEach [e] X.env = (false, eval e X.env) :: starEach [] X.env := by rfl) (hpl : (backTo pos (starEach [] X.env)).any (·.1) = false := by rfl) : L2N.PMk X (.Call (.Name x p) [e] [] pos) (tKind C te) := by
 obtain ⟨f, fd, h1, h2, h3, h4⟩ := O.ex
 have hw := pmk_oexN (p := p) O.T h1 h2 h3 hr h4 .nil pass0 hg O.gC (pa_cons (hs := hs) he.wide pa_nil) hdb hs hpl
 intro pins s σ H Q I h
 refine hw pins s σ H Q I ⟨_, h, fun y H1 q => ?_⟩
 refine ⟨by simp, fun a ha => ⟨a, y, rfl, O.T, O.no, upd_same, fun dx hd ne => ⟨rfl, dx, [("kind", y)], upd_same, ?_, ?_, ?_⟩⟩⟩
 ·rw [upd_ne ne, upd_same]
 ·rw [upd_ne ne] at hd; exact hd
 ·have e : upd (del (upd (upd (upd H1 a (exo a C none)) dx (exd dx [("kind", y)])) a (exo a C (some dx))) a) dx (.xd [("kind", y)]) = upd H1 dx (.xd [("kind", y)]) := by
   funext b
   by_cases h1 : b = dx
   ·subst h1; rw [upd_same, upd_same]
   ·rw [upd_ne h1, upd_ne h1]
    by_cases h2 : b = a
    ·subst h2; rw [del_same, ha]
    ·rw [del_ne h2, upd_ne h2, upd_ne h1, upd_ne h2]
  rw [e]
  rw [upd_ne ne] at hd
  exact q dx hd
end
instance strOrd : Orderly PyData.str where
 al a b := by simp [alike]
 eq a b := by simp [PyData.eqv, Gr.sb]
theorem str_all (bs : List Str) : AllAlike (bs.map PyData.str) := AllAlike.of fun a b => Orderly.al (enc := PyData.str) a b
theorem str_sortable (bs : List Str) : Sortable (bs.map PyData.str) := .inr fun d hd => by
 obtain ⟨x, _, rfl⟩ := List.mem_map.mp hd
 exact ⟨(fun z => nomatch z), fun xs z => nomatch z⟩
theorem Bears_strs {K : PySem.W.Frag} {H : Hp} : ∀ {us : List V} {ss : List Str}, Bears K H PyData.str us ss -> us = ss.map V.str
 | _, _, .nil => rfl
 | _, _, .cons h t => by cases h; rw [List.map_cons, Bears_strs t]
theorem strs_bears (K : PySem.W.Frag) (H : Hp) : ∀ ss : List Str, Bears K H PyData.str (ss.map V.str) ss
 | [] => .nil
 | s :: r => .cons (.str s) (strs_bears K H r)
theorem cps_one {a b : Str} (h1 : ¬ a.cps.toList < b.cps.toList) (h2 : ¬ b.cps.toList < a.cps.toList) : a = b := by
 have e1 : dataLt (.str a) (.str b) = false := by rw [dataLt_str]; exact decide_eq_false h1
 have e2 : dataLt (.str b) (.str a) = false := by rw [dataLt_str]; exact decide_eq_false h2
 exact Classical.byContradiction fun z => by
  have := ol_tri (enc := PyData.str) z e1
  rw [e2] at this; cases this
theorem LeastOut.one {P : Str -> Prop} {g : Gr} {n m : Str} (h1 : LeastOut P g n) (h2 : LeastOut P g m) : n = m := cps_one (h2.low n h1.mem h1.out) (h1.low m h2.mem h2.out)
theorem LeastOut.not {b : Bk} {g : Gr} {n : Str} (h : LeastOut (fun m => m ∉ b.names) g n) (hn : Gr.Named b.names g) : False := by
 obtain ⟨x, hx, e⟩ := List.mem_map.mp h.mem
 exact h.out (e ▸ hn x hx)
def LeastL (P : Str -> Prop) (g : Gr) (xs : List Str) : Prop := (xs = [] /\ ∀ x ∈ g.within, ¬ P x.1.1) \/ ∃ n, xs = [n] /\ LeastOut P g n
theorem least_srt {P : Str -> Prop} {g : Gr} {fs : List Str} (h1 : ∀ n ∈ fs, P n /\ n ∈ g.within.map (·.1.1)) (h2 : ∀ m ∈ g.within.map (·.1.1), P m -> ∃ n ∈ fs, ¬ m.cps.toList < n.cps.toList) : LeastL P g ((srtE PyData.str fs).take 1) := by
 have hp := srtE_perm (enc := PyData.str) fs
 have hs := srtE_le (enc := PyData.str) fs
 cases e : srtE PyData.str fs with
 | nil =>
  refine .inl ⟨rfl, fun x hx z => ?_⟩
  obtain ⟨n, hn, _⟩ := h2 _ (List.mem_map.mpr ⟨x, hx, rfl⟩) z
  have := hp.mem_iff.mpr hn
  rw [e] at this; cases this
 | cons n r =>
  rw [e] at hp hs
  have hn := h1 n (hp.mem_iff.mp (mcs ..))
  refine .inr ⟨n, rfl, hn.2, hn.1, fun m hm hP z => ?_⟩
  obtain ⟨q, hq, hmq⟩ := h2 m hm hP
  have hq' := hp.mem_iff.mpr hq
  have : ¬ q.cps.toList < n.cps.toList := by
   rcases List.mem_cons.mp hq' with e2 | hq'
   ·rw [e2]; exact List.lt_irrefl _
   ·have := List.rel_of_pairwise_cons hs hq'
    rw [dataLt_str] at this
    exact of_decide_eq_false this
  by_cases hqm : q.cps.toList < m.cps.toList
  ·exact this (List.lt_trans hqm z)
  ·have := cps_one hmq hqm
   subst this
   exact absurd z (by assumption)
section
variable {K : PySem.W.Frag} {H H' : Hp}
mutual
theorem Dp_s0 (e : SB [] H H') : ∀ (d : PyData) (v : V), Dp K H v d -> Dp K H' v d
 | .none, _, h => by cases h; exact .non
 | .bool b, _, h => by cases h; exact .bl b
 | .int i, _, h => by cases h; exact .int i
 | .str x, _, h => by cases h; exact .str x
 | .list ds, _, h => by
  cases h with
  | lst hs ha => exact .lst (e.sqL nmn hs) (DpAll_s0 e ds _ ha)
 | .dict ds, _, h => by cases h
 | .tuple ds, _, h => by
  cases h with
  | tup hs ha => exact .tup (e.sqT hs) (DpAll_s0 e ds _ ha)
theorem DpAll_s0 (e : SB [] H H') : ∀ (ds : List PyData) (vs : List V), DpAll K H vs ds -> DpAll K H' vs ds
 | [], _, h => by cases h; exact .nil
 | d :: ds, _, h => by
  cases h with
  | cons h1 h2 => exact .cons (Dp_s0 e d _ h1) (DpAll_s0 e ds _ h2)
end
end
def del (p : Addr) (H : Hp) : Hp := fun x => if x = p then none else H x
theorem del_sub {p : Addr} {H : Hp} : SB [] (del p H) H := by
 have h : ∀ b o, del p H b = some o -> H b = some o := fun b o e => by
  unfold del at e
  split at e
  ·cases e
  ·exact e
 exact ⟨fun b o e _ => h b o e, fun b xs e => h b _ e, fun b o u e => h b _ e, fun b e => by unfold del; split <;> simp_all⟩
theorem del_of {p : Addr} {H : Hp} {b : Addr} {o : HO} (h : H b = some o) (n : b ≠ p) : del p H b = some o := by unfold del; rw [if_neg n]; exact h
theorem SB.del {p : Addr} {H H' : Hp} (s : SB [p] H H') : SB [] (del p H) (del p H') := by
 have h : ∀ b o, FT.del p H b = some o -> b ≠ p /\ H b = some o := fun b o e => by
  unfold FT.del at e
  split at e
  ·cases e
  ·next z => exact ⟨z, e⟩
 refine ⟨fun b o e _ => ?_, fun b xs e => ?_, fun b o u e => ?_, fun b e => ?_⟩
 ·obtain ⟨n, e⟩ := h b o e; exact del_of (s.keep b o e (by simpa using n)) n
 ·obtain ⟨n, e⟩ := h b _ e; exact del_of (s.tups b xs e) n
 ·obtain ⟨n, e⟩ := h b _ e; exact del_of (s.frzs b o u e) n
 ·unfold FT.del at e ⊢
  split
  ·rfl
  ·next z => rw [if_neg z] at e; exact s.dom b e
structure Rin (K : PySem.W.Frag) (H : Hp) (w : V) (a : Addr) (x y : V) (b : Bk) (g : Gr) (ds : List PyData) (ro so : Option Int) : Prop where
 ok : b.Ok
 gr : GA K H w g
 gok : g.Ok (10 ^ 30 + 1)
 deep : g.deep <= 12
 parts : g.parts <= 100
 nm : ∃ ns : List Str, Gr.Named ns g /\ ns.length <= 60
 pl : ∃ xs, SqT K H a xs /\ DpAll K H xs ds
 pll : ds.length <= 1000
 sh : SeqAt.shaped (.tuple ds) = true
 ru : Wh K H x ro
 sa : Wh K H y so
 sn : ∀ n, so = some n -> n < 2 ^ 900
theorem Rin.sb {K : PySem.W.Frag} {H H' : Hp} {w : V} {a : Addr} {x y : V} {b : Bk} {g : Gr} {ds : List PyData} {ro so : Option Int} (s : SB [] H H') (h : Rin K H w a x y b g ds ro so) : Rin K H' w a x y b g ds ro so :=
 ⟨h.ok, h.gr.sb s, h.gok, h.deep, h.parts, h.nm, by obtain ⟨xs, h1, h2⟩ := h.pl; exact ⟨xs, s.sqT h1, DpAll_s0 s _ _ h2⟩, h.pll, h.sh, h.ru.sb s, h.sa.sb s, h.sn⟩
def RoV (K : PySem.W.Frag) (H : Hp) (T : Addr) : Ro -> Prop
 | .kind n => SqT K H T [.str "kind", .str n]
 | .place => SqT K H T [.str "place"]
 | .rule => SqT K H T [.str "rule"]
 | .said => SqT K H T [.str "said"]
 | .rise => SqT K H T [.str "rise"]
 | .done => ∃ (t : Addr) (x : Gr × Pl), SqT K H T [.str "done", .ref t] /\ Dp K H (.ref t) (gpE x) /\ Wd (.tuple [.str "done", gpE x])
theorem RoV.vs {K : PySem.W.Frag} {H : Hp} {T : Addr} {o : Ro} (h : RoV K H T o) (hd : o ≠ .done) : SqT K H T o.vs := by
 cases o with
 | done => exact absurd rfl hd
 | _ => exact h
def spWholeP (K : PySem.W.Frag) : Sp := fun vs H Q _ => ∃ (v : V) (o : Option Int), vs = [v] /\ Wh K H v o /\ ∀ bb : Bool, (bb = true ↔ NatO o) -> Q (.bl bb) H
def spLeast (K : PySem.W.Frag) (n : Nat) : Sp := fun vs H Q _ => ∃ (v : V) (l : Addr) (g : Gr) (ns : List Str), vs = [v, .ref l] /\ GA K H v g /\ H l = some (.lst (ns.map V.str)) /\ (∀ m ∈ ns, NameOk m) /\ (∃ D, g.Ok D) /\ g.deep < n /\ g.parts <= 2000 /\ ns.length <= 60 /\ ∀ (L : Addr) (xs : List Str) (H' : Hp), SB [] H H' -> H L = none -> H' L = some (.lst (xs.map V.str)) -> LeastL (fun m => m ∉ ns) g xs -> Q (.ref L) H'
theorem canLay_sub {ds es : List PyData} (h : ∀ d ∈ es, d ∈ ds) (hl : PyData.canLayAll0 ds = true) : PyData.canLayAll0 es = true := by
 have key : ∀ {xs : List PyData}, PyData.canLayAll0 xs = true ↔ ∀ d ∈ xs, d.canLay0 = true := by
  intro xs
  induction xs with
  | nil => simp [PyData.canLayAll0]
  | cons x r ih => rw [PyData.canLayAll0, Bool.and_eq_true, ih]; simp
 rw [key] at hl ⊢
 exact fun d hd => hl d (h d hd)
theorem depth_sub {ds es : List PyData} (h : ∀ d ∈ es, d ∈ ds) : PyData.depthAll es <= PyData.depthAll ds := by
 have key : ∀ {xs : List PyData} {n : Nat}, PyData.depthAll xs <= n ↔ ∀ d ∈ xs, d.depth <= n := by
  intro xs n
  induction xs with
  | nil => simp [PyData.depthAll]
  | cons x r ih => rw [PyData.depthAll]; simp only [List.mem_cons, forall_eq_or_imp]; rw [<- ih]; omega
 rw [key]
 exact fun d hd => key.mp (Nat.le_refl _) d (h d hd)
theorem gp_wd {C : Int} {x : Gr × Pl} (h : x.1.Ok C) (hd : x.1.deep <= 60) : Wd (.tuple [.str "done", gpE x]) := by
 obtain ⟨a1, a2⟩ := Gr.wd h (show x.1.deep <= 63 by omega)
 have b := wd_pl (d := plEnc x.2) (by simp [plEnc, plS, pl_plain]) (by rw [pl_depth]; omega)
 obtain ⟨b1, b2⟩ := b
 have e : gpE x = .tuple [x.1.enc, plEnc x.2] := rfl
 have e1 : (gpE x).canLay0 = true := by rw [e, PyData.canLay0, PyData.canLayAll0, PyData.canLayAll0, a1, b1]; rfl
 refine ⟨by rw [PyData.canLay0, PyData.canLayAll0, PyData.canLayAll0, e1]; decide +kernel, ?_⟩
 have := x.1.enc_depth
 have := pl_depth x.2
 rw [e]
 simp only [PyData.depth, PyData.depthAll]
 omega
theorem eqv_pls (p q : Pl) : PyData.eqv (plEnc p) (plEnc q) = decide (p = q) := Orderly.eq (enc := plEnc) p q
namespace Gr
variable {C : Int} {g : Gr} {bs as : List (Tr × Int)}
theorem add_ok (ha : ∀ p ∈ as, NameOk p.1.1 /\ p.1.2.Ok C /\ 1 <= p.2 /\ p.2 < C) (na : (as.map (·.1)).Nodup) (hb : ∀ p ∈ bs, NameOk p.1.1 /\ p.1.2.Ok C /\ 1 <= p.2 /\ p.2 < C) (nb : (bs.map (·.1)).Nodup) (hd : ∀ p ∈ bs, ∀ x ∈ as, x.1 ≠ p.1) : (Gr.ofPs (srtE Gr.pEnc (as ++ bs))).Ok C := by
 refine srt_ok ?_ fun p hp => ?_
 ·rw [List.map_append, List.nodup_append]
  refine ⟨na, nb, fun x hx y hy e => ?_⟩
  obtain ⟨p, hp, rfl⟩ := List.mem_map.mp hx
  obtain ⟨q, hq, rfl⟩ := List.mem_map.mp hy
  exact hd q hq p hp e
 ·rcases List.mem_append.mp hp with h | h
  ·exact ha p h
  ·exact hb p h
theorem add_parts (bs : List (Tr × Int)) : (ofPs (srtE Gr.pEnc bs)).parts = tot bs := by rw [parts_ofPs, tot_perm (srtE_perm bs)]
theorem add_deep {d : Nat} (h : ∀ p ∈ bs, p.1.2.deep < d) : (ofPs (srtE Gr.pEnc bs)).deep <= d := deep_le fun x hx => by
 rw [ps_ofPs] at hx
 exact h x ((srtE_perm bs).mem_iff.mp hx)
theorem add_within {P : Str -> Prop} (h : ∀ p ∈ bs, P p.1.1 /\ ∀ x ∈ p.1.2.within, P x.1.1) : ∀ x ∈ (ofPs (srtE Gr.pEnc bs)).within, P x.1.1 := fun x hx => by
 rw [within_ps, ps_ofPs] at hx
 obtain ⟨p, hp, hx⟩ := List.mem_flatMap.mp hx
 obtain ⟨h1, h2⟩ := h p ((srtE_perm bs).mem_iff.mp hp)
 rcases List.mem_cons.mp hx with e | hx
 ·rw [e]; exact h1
 ·exact h2 x hx
theorem ok_rows (h : g.Ok C) : (∀ p ∈ g.ps, NameOk p.1.1 /\ p.1.2.Ok C /\ 1 <= p.2 /\ p.2 < C) /\ (g.ps.map (·.1)).Nodup :=
 ⟨fun p hp => ok_mem h hp, List.pairwise_map.mpr (ok_ne h)⟩
end Gr
theorem sqT_del {K : PySem.W.Frag} {H : Hp} {p a : Addr} {xs ys : List V} (h : SqT K H a xs) (hp : H p = some (.lst ys)) : SqT K (del p H) a xs := by
 rcases h with h | h
 ·rcases h with h | h
  ·exact .inl (.inl (del_of h fun z => by rw [z, hp] at h; cases h))
  ·obtain ⟨o, h⟩ := h
   exact .inl (.inr ⟨o, del_of h fun z => by rw [z, hp] at h; cases h⟩)
 ·exact .inr h
theorem sub_del {p : Addr} {H G : Hp} (s : SB [] H G) (n : H p = none) : SB [] H (FT.del p G) :=
 ⟨fun b o e h => del_of (s.keep b o e h) (fun z => by rw [z, n] at e; cases e), fun b xs e => del_of (s.tups b xs e) (fun z => by rw [z, n] at e; cases e), fun b o u e => del_of (s.frzs b o u e) (fun z => by rw [z, n] at e; cases e), fun b e => by
  unfold FT.del at e
  split at e
  ·next z => rw [z]; exact n
  ·exact s.dom b e⟩
def PlA (K : PySem.W.Frag) (H : Hp) (v : V) : Prop := ∃ (a : Addr) (xs : List V) (ds : List PyData), v = .ref a /\ SqT K H a xs /\ DpAll K H xs ds /\ SeqAt.shaped (.tuple ds) = true /\ ds.length <= 1000
theorem PlA.sb {K : PySem.W.Frag} {H H' : Hp} {v : V} (s : SB [] H H') : PlA K H v -> PlA K H' v
 | ⟨a, xs, ds, e, h1, h2, h3⟩ => ⟨a, xs, ds, e, s.sqT h1, DpAll_s0 s _ _ h2, h3⟩
theorem least_or (b : Bk) (g : Gr) (h : ¬ Gr.Named b.names g) : ∃ n, LeastOut (fun m => m ∉ b.names) g n := by
 rcases least_srt (P := fun m => m ∉ b.names) (g := g) (fs := (g.within.map (·.1.1)).filter fun m => decide (m ∉ b.names)) (fun n hn => by
  obtain ⟨h1, h2⟩ := List.mem_filter.mp hn
  exact ⟨of_decide_eq_true h2, h1⟩) (fun m hm hP => ⟨m, List.mem_filter.mpr ⟨hm, decide_eq_true hP⟩, List.lt_irrefl _⟩) with ⟨_, z⟩ | ⟨n, _, z⟩
 ·exact absurd (fun x hx => Classical.byContradiction fun e => z x hx e) h
 ·exact ⟨n, z⟩
theorem canLayAll_app : ∀ {as bs : List PyData}, PyData.canLayAll0 (as ++ bs) = (PyData.canLayAll0 as && PyData.canLayAll0 bs)
 | [], bs => by simp [PyData.canLayAll0]
 | a :: r, bs => by rw [List.cons_append, PyData.canLayAll0, PyData.canLayAll0, canLayAll_app, Bool.and_assoc]
theorem ints_lay : ∀ is : List Int, PyData.canLayAll0 (is.map PyData.int) = true /\ PyData.depthAll (is.map PyData.int) = 0
 | [] => ⟨rfl, rfl⟩
 | i :: r => by
  obtain ⟨h1, h2⟩ := ints_lay r
  rw [List.map_cons, PyData.canLayAll0, PyData.depthAll, h1, h2]
  exact ⟨rfl, rfl⟩
theorem ints_dp (K : PySem.W.Frag) (H : Hp) : ∀ is : List Int, DpAll K H (is.map V.int) (is.map PyData.int)
 | [] => .nil
 | i :: r => .cons (.int i) (ints_dp K H r)
theorem pla_ints {K : PySem.W.Frag} {H : Hp} {a : Addr} {is : List Int} {v : V} {d : PyData} (h : SqT K H a (is.map V.int ++ [v])) (hd : Dp K H v d) (h1 : d.canLay0 = true) (h2 : d.depth <= 10) (hl : is.length <= 500) : PlA K H (.ref a) := by
 obtain ⟨i1, i2⟩ := ints_lay is
 refine ⟨a, _, is.map PyData.int ++ [d], rfl, h, DpAll.append (ints_dp K H is) (.cons hd .nil), ?_, by rw [List.length_append, List.length_map, List.length_singleton]; omega⟩
 unfold SeqAt.shaped
 rw [Bool.and_eq_true, decide_eq_true_iff, PyData.canLay0, canLayAll_app, i1]
 refine ⟨by simp [PyData.canLayAll0, h1], ?_⟩
 simp only [PyData.depth, depthAll_app, i2, PyData.depthAll]
 omega
theorem pl_ints (pl : Pl) : (pl.map fun n : Nat => V.int (n : Int)) = (pl.map fun n : Nat => (n : Int)).map V.int := by rw [List.map_map]; rfl
theorem pla_pl {K : PySem.W.Frag} {H : Hp} {a : Addr} {pl : Pl} (h : SqT K H a (pl.map fun n : Nat => V.int (n : Int))) (hl : pl.length <= 500) : PlA K H (.ref a) := by
 have e : plEnc pl = .tuple (plInts pl) := rfl
 refine ⟨a, _, plInts pl, rfl, h, ?_, by rw [<- e]; exact shaped_pl (by simp [plEnc, plS, pl_plain]) (by rw [pl_depth]; omega), by rw [plInts, List.length_map]; omega⟩
 have := ints_dp K H (pl.map fun n : Nat => (n : Int))
 rw [<- pl_ints, List.map_map] at this
 exact this
theorem Ro.eqv (o : Ro) : PyData.eqv (.tuple o.ds) (.tuple o.ds) = true := by
 cases o <;> simp [Ro.ds, PyData.eqv, PyData.eqvAll]
theorem Ro.wd {o : Ro} (h : ∀ n, o = .kind n -> PyData.strOk n = true) : Wd (.tuple o.ds) := by
 cases o with
 | kind n => exact ⟨by simp [Ro.ds, PyData.canLay0, PyData.canLayAll0, h n rfl, show PyData.strOk (Str.ofString "kind") = true by decide +kernel], by simp [Ro.ds, PyData.depth, PyData.depthAll]⟩
 | _ => exact ⟨by decide +kernel, by decide +kernel⟩
theorem Ro.vs_dp {K : PySem.W.Frag} {H : Hp} {T : Addr} {o : Ro} (h : SqT K H T o.vs) : Dp K H (.ref T) (.tuple o.ds) := .tup h (Ro.dp K H o)
def kindFirst (K : PySem.W.Frag) (C NK : Addr) (v w : V) (H : Hp) (E : XK) (inner : Prop) : Prop := ∃ (b : Bk) (g : Gr) (ns : List Str), BkA K C H v b /\ b.length <= 60 /\ GA K H w g /\ g.deep <= 68 /\ g.parts <= 3000 /\ Gr.Named ns g /\ ns.length <= 60 /\
 (∀ n, LeastOut (fun m => m ∉ b.names) g n -> ∀ (d : Addr) (H' : Hp), SB [] H H' -> H d = none -> H' d = some (.xd [("kind", .str n)]) -> E (.ref NK) (some d) H') /\ (Gr.Named b.names g -> inner)
def spFallenX (K : PySem.W.Frag) (C NK NP NR NN TG : Addr) : Sp := fun vs H Q E => ∃ v w r1 r2 r3 : V, vs = [v, w, r1, r2, r3] /\ kindFirst K C NK v w H E (spFallen K C NP NR NN TG [v, w, r1, r2, r3] H Q E)
def spChoicesK (K : PySem.W.Frag) (C N : Addr) : Sp := fun vs H Q E => ∃ v w : V, vs = [v, w] /\ kindFirst K C N v w H E (spChoices K C N [v, w] H Q E)
theorem fallen_x_of {K : PySem.W.Frag} {C NK NP NR NN TG : Addr} {vs : List V} {H : Hp} {Q : VK} {E : XK} (h : spFallen K C NP NR NN TG vs H Q E) : spFallenX K C NK NP NR NN TG vs H Q E := by
 have h0 := h
 obtain ⟨v, w, x, y, a, b, g, D, xs, os, ro, so, rfl, ⟨hv, ok⟩, ⟨hw, go, gd, gp, gn⟩, _⟩ := h
 have := ok.len
 exact ⟨v, w, .ref a, x, y, rfl, b, g, b.names, hv, by omega, hw, by omega, by omega, gn, by rw [show b.names.length = b.length from List.length_map ..]; omega, fun n lo => (lo.not gn).elim, fun _ => h0⟩
def spPyInitX (K : PySem.W.Frag) (C CB NK : Addr) : Sp := fun vs H Q E => ∃ (x dx : Addr) (bv gv : V) (b : Bk) (g : Gr) (ns : List Str), vs = [.ref x, bv, gv] /\ H x = some (.ins C dx []) /\ BkA K CB H bv b /\ b.length <= 60 /\ GA K H gv g /\ g.deep <= 68 /\ g.parts <= 3000 /\ Gr.Named ns g /\ ns.length <= 60 /\
 (∀ n, LeastOut (fun m => m ∉ b.names) g n -> ∀ (d : Addr) (H' : Hp), SB [] H H' -> H d = none -> H' d = some (.xd [("kind", .str n)]) -> E (.ref NK) (some d) H') /\
 (Gr.Named b.names g -> ∀ (ls ld lu : Addr) (H' : Hp), SB [x] H H' -> H ls = none -> H ld = none -> H lu = none -> Ply K C H' bv x ls ld lu [g] [] [] -> Q .non H')
inductive Due34 (b : Bk) (g : Gr) (os : List (Option Int)) (ro so : Option Int) : Ro -> Prop
 | kindG {n : Str} : LeastOut (fun m => m ∉ b.names) g n -> Due34 b g os ro so (.kind n)
 | place : Gr.Named b.names g -> (∀ pl k, os = plO pl -> Gr.bareAt g pl ≠ some k) -> Due34 b g os ro so .place
 | rule {pl : Pl} {k : Str} {kd : Kd} : Gr.Named b.names g -> os = plO pl -> Gr.bareAt g pl = some k -> b.get k = some kd -> (∀ i : Nat, ro = some (i : Int) -> (noR :: kd.rs)[i]? = none) -> Due34 b g os ro so .rule
 | said {pl : Pl} {k : Str} {kd : Kd} {i : Nat} {r : Ru} : Gr.Named b.names g -> os = plO pl -> Gr.bareAt g pl = some k -> b.get k = some kd -> ro = some (i : Int) -> (noR :: kd.rs)[i]? = some r -> ¬ NatO so -> Due34 b g os ro so .said
 | done {pl : Pl} {k : Str} {kd : Kd} {i : Nat} {r : Ru} {n : Nat} : Gr.Named b.names g -> os = plO pl -> Gr.bareAt g pl = some k -> b.get k = some kd -> ro = some (i : Int) -> (noR :: kd.rs)[i]? = some r -> so = some (n : Int) -> Due34 b g os ro so .done
theorem Due34.uniq {b : Bk} {g : Gr} {os : List (Option Int)} {ro so : Option Int} {o o' : Ro} (h : Due34 b g os ro so o) (h' : Due34 b g os ro so o') : o = o' := by
 have pls : ∀ {p q : Pl}, os = plO p -> os = plO q -> p = q := fun a b => plO_inj (a.symm.trans b)
 have same : ∀ {p q : Pl} {k k' : Str} {kd kd' : Kd}, os = plO p -> os = plO q -> Gr.bareAt g p = some k -> Gr.bareAt g q = some k' -> b.get k = some kd -> b.get k' = some kd' -> kd = kd' := fun e1 e2 h1 h2 g1 g2 => by
  obtain rfl := pls e1 e2
  rw [h1] at h2
  cases h2
  rw [g1] at g2
  exact Option.some.inj g2
 cases h with
 | kindG l =>
  cases h' with
  | kindG l' => rw [l.one l']
  | place n _ => exact (l.not n).elim
  | rule n _ _ _ _ => exact (l.not n).elim
  | said n _ _ _ _ _ _ => exact (l.not n).elim
  | done n _ _ _ _ _ _ => exact (l.not n).elim
 | place n hp =>
  cases h' with
  | kindG l => exact (l.not n).elim
  | place _ _ => rfl
  | rule _ e1 e2 _ _ => exact (hp _ _ e1 e2).elim
  | said _ e1 e2 _ _ _ _ => exact (hp _ _ e1 e2).elim
  | done _ e1 e2 _ _ _ _ => exact (hp _ _ e1 e2).elim
 | rule n e1 e2 e hr =>
  cases h' with
  | kindG l => exact (l.not n).elim
  | place _ hp => exact (hp _ _ e1 e2).elim
  | rule _ _ _ _ _ => rfl
  | said _ e1' e2' e' e3 e4 _ => rw [same e1 e1' e2 e2' e e'] at hr; rw [hr _ e3] at e4; cases e4
  | done _ e1' e2' e' e3 e4 _ => rw [same e1 e1' e2 e2' e e'] at hr; rw [hr _ e3] at e4; cases e4
 | said n e1 e2 e e3 e4 hs =>
  cases h' with
  | kindG l => exact (l.not n).elim
  | place _ hp => exact (hp _ _ e1 e2).elim
  | rule _ e1' e2' e' hr => rw [<- same e1 e1' e2 e2' e e'] at hr; rw [hr _ e3] at e4; cases e4
  | said _ _ _ _ _ _ _ => rfl
  | done _ _ _ _ _ _ e5 => exact (hs ⟨_, e5⟩).elim
 | done n e1 e2 e e3 e4 e5 =>
  cases h' with
  | kindG l => exact (l.not n).elim
  | place _ hp => exact (hp _ _ e1 e2).elim
  | rule _ e1' e2' e' hr => rw [<- same e1 e1' e2 e2' e e'] at hr; rw [hr _ e3] at e4; cases e4
  | said _ _ _ _ _ _ hs => exact (hs ⟨_, e5⟩).elim
  | done _ _ _ _ _ _ _ => rfl
theorem due34 (b : Bk) (g : Gr) (os : List (Option Int)) (ro so : Option Int) (hl : ¬ Gr.Named b.names g -> ∃ n, LeastOut (fun m => m ∉ b.names) g n) : ∃ o, Due34 b g os ro so o := by
 by_cases hn : Gr.Named b.names g
 case neg => obtain ⟨n, h⟩ := hl hn; exact ⟨_, .kindG h⟩
 by_cases hp : ∃ pl k, os = plO pl /\ Gr.bareAt g pl = some k
 case neg => exact ⟨_, .place hn fun pl k e z => hp ⟨pl, k, e, z⟩⟩
 obtain ⟨pl, k, e1, e2⟩ := hp
 obtain ⟨kd, eg⟩ := Bk.get_of (Gr.bare_named hn e2)
 by_cases hr : ∃ (i : Nat) (r : Ru), ro = some (i : Int) /\ (noR :: kd.rs)[i]? = some r
 case neg =>
  refine ⟨_, .rule hn e1 e2 eg fun i e => ?_⟩
  cases z : (noR :: kd.rs)[i]? with
  | none => rfl
  | some r => exact absurd ⟨i, r, e, z⟩ hr
 obtain ⟨i, r, e3, e4⟩ := hr
 by_cases hs : NatO so
 case neg => exact ⟨_, .said hn e1 e2 eg e3 e4 hs⟩
 obtain ⟨n, e5⟩ := hs
 exact ⟨_, .done hn e1 e2 eg e3 e4 e5⟩
theorem Due34.wd {b : Bk} {g : Gr} {os : List (Option Int)} {ro so : Option Int} {o : Ro} {C : Int} (h : Due34 b g os ro so o) (ho : g.Ok C) : Wd (.tuple o.ds) := Ro.wd fun n e => by
 subst e
 cases h with
 | kindG lo =>
  obtain ⟨x, hx, e⟩ := List.mem_map.mp lo.mem
  rw [<- e]; exact Gr.strOk_name (Ok_within ho x hx).1
def spDone34 (K : PySem.W.Frag) (C : Addr) : Sp := fun vs H Q _ => ∃ (v w x y : V) (a : Addr) (b : Bk) (g : Gr) (ds : List PyData) (ro so : Option Int) (o : Ro), vs = [v, w, .ref a, x, y] /\ BkA K C H v b /\ Rin K H w a x y b g ds ro so /\ Due34 b g (ds.map whD) ro so o /\ ∀ (T : Addr) (H' : Hp), SB [] H H' -> RoV K H' T o -> Q (.ref T) H'
def spPlayed34 (K : PySem.W.Frag) (C CB : Addr) : Sp := fun vs H Q _ => ∃ (z a ls ld lu : Addr) (v w x y : V) (b : Bk) (g : Gr) (ds : List PyData) (ro so : Option Int) (o : Ro), vs = [.ref z, .ref a, x, y] /\ Ply K C H v z ls ld lu [g] [] [] /\ BkA K CB H v b /\ Rin K H w a x y b g ds ro so /\ Gr.Named b.names g /\ Due34 b g (ds.map whD) ro so o /\ o ≠ .done /\ ∀ (T : Addr) (H' : Hp), SB [] H H' -> SqT K H' T o.vs -> Q (.ref T) H'
def kdE (n : Str) : PyData := .tuple [.str "kind", .str n]
def spLooked34 (K : PySem.W.Frag) (C : Addr) : Sp := fun vs H Q _ => ∃ (v w : V) (b : Bk) (g : Gr) (ns : List Str), vs = [v, w] /\ BkA K C H v b /\ b.Ok /\ GA K H w g /\ g.Ok (10 ^ 30 + 1) /\ g.deep <= 12 /\ g.parts <= 60 /\ Gr.Named ns g /\ ns.length <= 60 /\ ∀ (L : Addr) (us : List V) (xs : List Str) (H' : Hp), SB [] H H' -> H' L = some (.lst us) -> Bears K H' kdE us (xs ++ xs) -> LeastL (fun m => m ∉ b.names) g xs -> Q (.ref L) H'
def spSame34 (K : PySem.W.Frag) : Sp := fun vs H Q _ => ∃ (u v : V) (pl : Pl) (ds : List PyData), vs = [u, v] /\ Dp K H u (plEnc pl) /\ Dp K H v (.tuple ds) /\ SeqAt.shaped (.tuple ds) = true /\ ds.length <= 1000 /\ ∀ (bb : Bool) (H' : Hp), SB [] H H' -> (bb = true ↔ ds = plInts pl) -> Q (.bl bb) H'
def duV (K : PySem.W.Frag) (H : Hp) (v : V) (o : Ro) : Prop := (o = .done /\ v = .non) \/ (o ≠ .done /\ ∃ T, v = .ref T /\ SqT K H T o.vs)
def spDue34 (K : PySem.W.Frag) : Sp := fun vs H Q _ => ∃ (l : Addr) (xs : List V) (w x y : V) (a : Addr) (b : Bk) (g : Gr) (ds : List PyData) (ro so : Option Int) (o : Ro), vs = [.ref l, w, .ref a, x, y] /\ (H l = some (.lst xs) /\ KdAll K H [] xs b) /\ Rin K H w a x y b g ds ro so /\ Due34 b g (ds.map whD) ro so o /\ ∀ (v : V) (H' : Hp), SB [] H H' -> duV K H' v o -> Q v H'
def spHolds34 (K : PySem.W.Frag) (C CB : Addr) : Sp := fun vs H Q _ => ∃ (l : Addr) (xs : List V) (v w x y : V) (a : Addr) (b : Bk) (g : Gr) (ds : List PyData) (ro so : Option Int), vs = [.ref l, v, w, .ref a, x, y] /\ (H l = some (.lst xs) /\ KdAll K H [] xs b) /\ BkA K CB H v b /\ Rin K H w a x y b g ds ro so /\ ∀ H', SB [] H H' -> Q (.bl true) H'
def spPlaces34 (K : PySem.W.Frag) : Sp := fun vs H Q _ => ∃ (p : Addr) (v : V) (g : Gr), vs = [.ref p, v] /\ PuW H p /\ GA K H v g /\ (∃ C, g.Ok C) /\ g.deep <= 12 /\ g.parts <= 100 /\ ∀ (L : Addr) (us : List V) (H' : Hp), SB [p] H H' -> PuW H' p -> H L = none -> H' L = some (.lst us) -> us.length <= 200 -> (∀ u ∈ us, PlA K (del p H') u) -> Q (.ref L) H'
def spStrange34 (K : PySem.W.Frag) : Sp := fun vs H Q _ => ∃ (v u : V) (g sm : Gr) (way : Int), vs = [v, u, .int way] /\ GA K H v g /\ GA K H u sm /\ g.Ok (10 ^ 30 + 1) /\ sm.Ok (10 ^ 30 + 1) /\ g.deep <= 11 /\ g.parts <= 50 /\ sm.deep <= 2 /\ sm.parts <= 4 /\ (∀ x ∈ sm.within, ∀ z ∈ g.within, z.1.1 ≠ x.1.1) /\
 ∀ (t : V) (h : Gr) (H' : Hp), SB [] H H' -> GA K H' t h -> h.Ok (10 ^ 30 + 1) -> h.deep <= 12 -> h.parts <= 60 -> (∀ x ∈ h.within, (∃ z ∈ sm.within, x.1.1 = z.1.1) \/ ∃ z ∈ g.within, x.1.1 = z.1.1) -> Q t H'
namespace Gr
variable {C : Int} {g sm : Gr}
theorem beside2_ok (go : g.Ok C) (so : sm.Ok C) (hd : ∀ x ∈ sm.within, ∀ z ∈ g.within, z.1.1 ≠ x.1.1) :
  (ofPs (srtE Gr.pEnc (g.ps ++ sm.ps))).Ok C /\ (ofPs (srtE Gr.pEnc (g.ps ++ sm.ps))).deep <= max g.deep sm.deep /\ (ofPs (srtE Gr.pEnc (g.ps ++ sm.ps))).parts = g.parts + sm.parts /\
  ∀ x ∈ (ofPs (srtE Gr.pEnc (g.ps ++ sm.ps))).within, (∃ z ∈ sm.within, x.1.1 = z.1.1) \/ ∃ z ∈ g.within, x.1.1 = z.1.1 := by
 obtain ⟨a1, a2⟩ := ok_rows go
 obtain ⟨b1, b2⟩ := ok_rows so
 have wi : ∀ {h : Gr} {p : Tr × Int}, p ∈ h.ps -> ∀ x ∈ p :: p.1.2.within, x ∈ h.within := fun hp x hx => by rw [within_ps]; exact List.mem_flatMap.mpr ⟨_, hp, hx⟩
 refine ⟨add_ok a1 a2 b1 b2 fun p hp x hx e => ?_, add_deep fun p hp => ?_, ?_, add_within (P := fun m => (∃ z ∈ sm.within, m = z.1.1) \/ ∃ z ∈ g.within, m = z.1.1) fun p hp => ?_⟩
 ·exact hd p (wi hp p (mcs ..)) x (wi hx x (mcs ..)) (by rw [e])
 ·rcases List.mem_append.mp hp with h | h
  ·have := g.mem_deep p h; omega
  ·have := sm.mem_deep p h; omega
 ·rw [add_parts, tot_append, tot_ps, tot_ps]
 ·rcases List.mem_append.mp hp with h | h
  ·exact ⟨.inr ⟨p, wi h p (mcs ..), rfl⟩, fun x hx => .inr ⟨x, wi h x (mcm _ hx), rfl⟩⟩
  ·exact ⟨.inl ⟨p, wi h p (mcs ..), rfl⟩, fun x hx => .inl ⟨x, wi h x (mcm _ hx), rfl⟩⟩
theorem within2_ok {p0 : Tr × Int} {r : List (Tr × Int)} (go : g.Ok C) (so : sm.Ok C) (e : g.ps = p0 :: r) (hne : sm ≠ .nil) (hC : 2 < C) (hd : ∀ x ∈ sm.within, ∀ z ∈ g.within, z.1.1 ≠ x.1.1) :
  ∃ h : Gr, h = ofPs (srtE Gr.pEnc (p0.1.2.ps ++ sm.ps)) /\ h.Ok C /\ h.deep <= max p0.1.2.deep sm.deep /\ h.parts = p0.1.2.parts + sm.parts /\ (ofPs (srtE Gr.pEnc (r ++ [((p0.1.1, h), 1)]))).Ok C /\ (ofPs (srtE Gr.pEnc (r ++ [((p0.1.1, h), 1)]))).deep <= max g.deep (1 + sm.deep) /\ (ofPs (srtE Gr.pEnc (r ++ [((p0.1.1, h), 1)]))).parts = g.parts + sm.parts /\
  ∀ x ∈ (ofPs (srtE Gr.pEnc (r ++ [((p0.1.1, h), 1)]))).within, (∃ z ∈ sm.within, x.1.1 = z.1.1) \/ ∃ z ∈ g.within, x.1.1 = z.1.1 := by
 obtain ⟨a1, a2⟩ := ok_rows go
 rw [e] at a1 a2
 have p0m : p0 ∈ g.ps := by rw [e]; exact mcs ..
 have rm : ∀ p ∈ r, p ∈ g.ps := fun p hp => by rw [e]; exact mcm _ hp
 obtain ⟨q1, q2, q3, q4⟩ := a1 p0 (mcs ..)
 have hw : ∀ p ∈ g.ps, ∀ x ∈ p :: p.1.2.within, x ∈ g.within := fun p hp x hx => by rw [within_ps]; exact List.mem_flatMap.mpr ⟨p, hp, hx⟩
 obtain ⟨h1, h2, h3, h4⟩ := beside2_ok q2 so fun x hx z hz => hd x hx z (hw p0 p0m z (mcm _ hz))
 have hin : ∃ x ∈ (ofPs (srtE Gr.pEnc (p0.1.2.ps ++ sm.ps))).within, ∃ z ∈ sm.within, x.1.1 = z.1.1 := by
  obtain ⟨s0, hs0⟩ : ∃ s0, s0 ∈ sm.ps := by
   cases sm with
   | nil => exact absurd rfl hne
   | cons k h m t => exact ⟨_, mcs ..⟩
  refine ⟨s0, ?_, s0, by rw [within_ps]; exact List.mem_flatMap.mpr ⟨s0, hs0, mcs ..⟩, rfl⟩
  rw [within_ps, ps_ofPs]
  exact List.mem_flatMap.mpr ⟨_, (srtE_perm _).mem_iff.mpr (List.mem_append_right _ hs0), mcs ..⟩
 generalize hh : ofPs (srtE Gr.pEnc (p0.1.2.ps ++ sm.ps)) = h at h1 h2 h3 h4 hin
 have pd := g.mem_deep p0 p0m
 refine ⟨h, rfl, h1, h2, h3, ?_, add_deep fun p hp => ?_, ?_, add_within (P := fun m => (∃ z ∈ sm.within, m = z.1.1) \/ ∃ z ∈ g.within, m = z.1.1) fun p hp => ?_⟩
 ·refine add_ok (fun p hp => a1 p (mcm _ hp)) (List.nodup_cons.mp a2).2 (fun p hp => ?_) (by simp) fun p hp x hx e2 => ?_
  ·rw [List.mem_singleton.mp hp]; exact ⟨q1, h1, by show (1 : Int) <= 1; decide, by show (1 : Int) < C; omega⟩
  ·rw [List.mem_singleton.mp hp] at e2
   obtain ⟨z, hz, y, hy, ez⟩ := hin
   have e3 : x.1.2 = h := by rw [e2]
   rw [<- e3] at hz
   exact hd y hy z (hw x (rm x hx) z (mcm _ hz)) ez
 ·rcases List.mem_append.mp hp with h' | h'
  ·have := g.mem_deep p (rm p h'); omega
  ·rw [List.mem_singleton.mp h']
   show h.deep < max g.deep (1 + sm.deep)
   omega
 ·have e5 : tot g.ps = g.parts := tot_ps g
  rw [e] at e5
  rw [add_parts, tot_append]
  simp only [tot] at e5 ⊢
  omega
 ·rcases List.mem_append.mp hp with h' | h'
  ·exact ⟨.inr ⟨p, hw p (rm p h') p (mcs ..), rfl⟩, fun x hx => .inr ⟨x, hw p (rm p h') x (mcm _ hx), rfl⟩⟩
  ·rw [List.mem_singleton.mp h']
   refine ⟨.inr ⟨p0, hw p0 p0m p0 (mcs ..), rfl⟩, fun x hx => ?_⟩
   rcases h4 x hx with z | ⟨z, hz, ez⟩
   ·exact .inl z
   ·exact .inr ⟨z, hw p0 p0m z (mcm _ hz), ez⟩
theorem bks_of {x : Pl × Str} {p : Tr × Int} : ∀ {bs : List (Tr × Int)} {i j : Nat}, bs[j]? = some p -> x ∈ bkP p (i + j) -> x ∈ bks bs i
 | q :: r, i, 0, e, h => by
  have : q = p := Option.some.inj e
  subst this
  exact List.mem_append.mpr (.inl h)
 | q :: r, i, j + 1, e, h => List.mem_append.mpr (.inr (bks_of (i := i + 1) (j := j) e (by rw [show i + 1 + j = i + (j + 1) by omega]; exact h)))
theorem bare_bk : ∀ {pl : Pl} {g : Gr} {k : Str}, bareAt g pl = some k -> (pl, k) ∈ g.bk 0
 | [], g, k, h => by cases h
 | i :: r, g, k, h => by
  rw [bk_ps]
  by_cases hr : r = []
  ·subst hr
   obtain ⟨p, e, ep⟩ := bare_one h
   refine bks_of e ?_
   rw [bkP, ep]
   simp
  ·obtain ⟨p, e, hp⟩ := bare_more hr h
   have ih := bare_bk hp
   refine bks_of e ?_
   have hn : p.1.2 ≠ .nil := fun z => by rw [z] at ih; cases ih
   rw [bkP, if_neg hn]
   exact List.mem_map.mpr ⟨(r, k), ih, by simp⟩
end Gr
def isBl : PyData -> Bool
 | .bool _ => true
 | _ => false
theorem bool_of {K : PySem.W.Frag} {H : Hp} {v : V} {d : PyData} (h : Dp K H v d) : ∃ n : String, TyX K H v (.type n) /\ kitB n "bool" = some (isBl d) := by
 cases h with
 | int i => exact ⟨"int", .base (.int i), by show kitB "int" "bool" = some false; decide +kernel⟩
 | non => exact ⟨"NoneType", .base .non, by show kitB "NoneType" "bool" = some false; decide +kernel⟩
 | bl b => exact ⟨"bool", .base (.bl b), by show kitB "bool" "bool" = some true; decide +kernel⟩
 | str x => exact ⟨"str", .base (.str x), by show kitB "str" "bool" = some false; decide +kernel⟩
 | tup hs _ => exact ⟨"tuple", SqT_ty hs, by show kitB "tuple" "bool" = some false; decide +kernel⟩
 | lst hs _ => exact ⟨"list", SqL_ty hs, by show kitB "list" "bool" = some false; decide +kernel⟩
theorem int_like {n : Int} {d : PyData} (h : PyData.eqv (.int n) d = true) (hb : isBl d = false) : d = .int n := by
 cases d with
 | int i => simp only [PyData.eqv, beq_iff_eq, decide_eq_true_eq] at h; rw [h]
 | bool b => cases hb
 | _ => simp [PyData.eqv] at h
theorem pl_like : ∀ {pl : Pl} {ds : List PyData}, PyData.eqvAll (plInts pl) ds = true -> (∀ d ∈ ds, isBl d = false) -> ds = plInts pl
 | [], [], _, _ => rfl
 | [], d :: r, h, _ => by simp [plInts, PyData.eqvAll] at h
 | n :: p, [], h, _ => by simp [plInts, PyData.eqvAll] at h
 | n :: p, d :: r, h, hb => by
  have h' : PyData.eqvAll (.int (n : Int) :: plInts p) (d :: r) = true := h
  rw [PyData.eqvAll, Bool.and_eq_true] at h'
  rw [int_like h'.1 (hb d (mcs ..)), pl_like h'.2 fun x hx => hb x (mcm _ hx)]
  rfl
theorem pl_nobool (pl : Pl) : ∀ d ∈ plInts pl, isBl d = false := fun d hd => by
 obtain ⟨n, _, rfl⟩ : ∃ n ∈ pl, (PyData.int ((n : Nat) : Int)) = d := by simpa [plInts] using hd
 rfl
theorem same_iff {pl : Pl} {ds : List PyData} : (PyData.eqv (plEnc pl) (.tuple ds) = true /\ ds.filter isBl = []) ↔ ds = plInts pl := by
 constructor
 ·rintro ⟨h1, h2⟩
  rw [List.filter_eq_nil_iff] at h2
  refine pl_like (by simpa [plEnc, PyData.eqv] using h1) fun d hd => ?_
  have := h2 d hd
  simpa using this
 ·rintro rfl
  refine ⟨by have := eqv_pls pl pl; rw [decide_eq_true rfl] at this; exact this, ?_⟩
  rw [List.filter_eq_nil_iff]
  intro d hd
  rw [pl_nobool pl d hd]
  decide
theorem pla_mix {K : PySem.W.Frag} {H : Hp} {a : Addr} {xs : List V} {ds : List PyData} (h : SqT K H a xs) (hd : DpAll K H xs ds) (h1 : PyData.canLayAll0 ds = true) (h2 : PyData.depthAll ds <= 20) (hl : ds.length <= 1000) : PlA K H (.ref a) := by
 refine ⟨a, xs, ds, rfl, h, hd, ?_, hl⟩
 unfold SeqAt.shaped
 rw [Bool.and_eq_true, decide_eq_true_iff, PyData.canLay0]
 refine ⟨h1, ?_⟩
 simp only [PyData.depth]
 omega
theorem pla_head {K : PySem.W.Frag} {H : Hp} {a : Addr} {is : List Int} {v : V} {d : PyData} (h : SqT K H a ([v] ++ is.map V.int)) (hd : Dp K H v d) (h1 : d.canLay0 = true) (h2 : d.depth <= 10) (hl : is.length <= 500) : PlA K H (.ref a) := by
 obtain ⟨i1, i2⟩ := ints_lay is
 refine pla_mix h (.cons hd (ints_dp K H is)) (by rw [PyData.canLayAll0, h1, i1]; rfl) (by simp only [PyData.depthAll, i2]; omega) (by rw [List.length_cons, List.length_map]; omega)
theorem isl {K : PySem.W.Frag} {H : Hp} {a : Addr} {is : List Int} (h : SqT K H a (is.map V.int)) (hl : is.length <= 500) : PlA K H (.ref a) := by
 obtain ⟨i1, i2⟩ := ints_lay is
 exact pla_mix h (ints_dp K H is) i1 (by omega) (by rw [List.length_map]; omega)
theorem kdE_noList (n : Str) : noList (kdE n) = true := by simp [kdE, noList, noLists]
theorem LeastL.uniq {P : Str -> Prop} {g : Gr} {xs ys : List Str} (h : LeastL P g xs) (h' : LeastL P g ys) : xs = ys := by
 have no : ∀ {n : Str}, LeastOut P g n -> (∀ x ∈ g.within, ¬ P x.1.1) -> False := fun lo hno => by
  obtain ⟨x, hx, e⟩ := List.mem_map.mp lo.mem
  exact hno x hx (by rw [e]; exact lo.out)
 rcases h with ⟨rfl, h1⟩ | ⟨n, rfl, h1⟩ <;> rcases h' with ⟨rfl, h2⟩ | ⟨m, rfl, h2⟩
 ·rfl
 ·exact (no h2 h1).elim
 ·exact (no h1 h2).elim
 ·rw [h1.one h2]
theorem LeastL.mem {P : Str -> Prop} {g : Gr} {xs : List Str} (h : LeastL P g xs) : xs.length <= 1 /\ ∀ n ∈ xs, n ∈ g.within.map (·.1.1) := by
 rcases h with ⟨rfl, _⟩ | ⟨n, rfl, h⟩
 ·exact ⟨by decide, fun n z => by cases z⟩
 ·exact ⟨by simp, fun m hm => by rw [List.mem_singleton.mp hm]; exact h.mem⟩
theorem kdE_eqv : ∀ l : List Str, PyData.eqvAll (l.map kdE) (l.map kdE) = true
 | [] => rfl
 | n :: r => by
  rw [List.map_cons, PyData.eqvAll, kdE_eqv r, kdE]
  simp [PyData.eqv, PyData.eqvAll]
theorem kdE_wd {l : List Str} (h : ∀ n ∈ l, NameOk n) : Wd (.list (l.map kdE)) := by
 have hk : ∀ n, NameOk n -> (kdE n).canLay0 = true := fun n hn => by
  simp [kdE, PyData.canLay0, PyData.canLayAll0, Gr.strOk_name hn, show PyData.strOk (Str.ofString "kind") = true by decide +kernel]
 have h1 : PyData.canLayAll0 (l.map kdE) = true := by
  induction l with
  | nil => rfl
  | cons n r ih => rw [List.map_cons, PyData.canLayAll0, hk n (h n (mcs ..)), ih fun m hm => h m (mcm _ hm)]; rfl
 have h2 : ∀ l : List Str, PyData.depthAll (l.map kdE) <= 1 := by
  intro l
  induction l with
  | nil => decide
  | cons n r ih => rw [List.map_cons, PyData.depthAll]; have : (kdE n).depth = 1 := by simp [kdE, PyData.depth, PyData.depthAll]
                   omega
 refine ⟨by rw [PyData.canLay0]; exact h1, ?_⟩
 have := h2 l
 simp only [PyData.depth]
 omega
def top (i : Nat) : Stmt := PySem.Challenge.pw_felltimber_k34_falls_refused.main.body.getD i (.Pass ⟨0, 0, 0, 0⟩)
abbrev s_is_whole : Stmt := top 3
abbrev s_is_many : Stmt := top 4
abbrev s_is_name : Stmt := top 5
abbrev s_is_rising : Stmt := top 6
abbrev s_joined : Stmt := top 7
abbrev s_run_of : Stmt := top 8
abbrev s_is_tree : Stmt := top 24
abbrev s_is_grove : Stmt := top 25
abbrev s_are_grove_pairs : Stmt := top 26
abbrev s_together : Stmt := top 27
abbrev s_without : Stmt := top 28
abbrev s_times : Stmt := top 29
abbrev s_pairs_within : Stmt := top 30
abbrev s_kinds_within : Stmt := top 31
abbrev s_parts_of : Stmt := top 32
abbrev s_deep_of : Stmt := top 33
abbrev s_rules_from_nought : Stmt := top 41
abbrev s_check_kind : Stmt := top 42
abbrev s_check_kinds : Stmt := top 43
abbrev s_are_kinds : Stmt := top 44
abbrev s_is_kind : Stmt := top 45
abbrev s_is_rule : Stmt := top 46
abbrev s_is_rule_of : Stmt := top 47
abbrev s_tree_at : Stmt := top 49
abbrev s_number_of : Stmt := top 50
abbrev s_bare_places : Stmt := top 51
abbrev s_fallen : Stmt := top 55
abbrev s_rule_at : Stmt := top 56
abbrev s_check_number : Stmt := top 57
abbrev s_check_bound : Stmt := top 58
abbrev s_grown : Stmt := top 59
abbrev s_further_ones : Stmt := top 60
abbrev s_struck : Stmt := top 61
abbrev s_choices : Stmt := top 62
abbrev s__law_purse : Stmt := top 66
abbrev s__law_take : Stmt := top 67
abbrev s__law_names : Stmt := top 68
abbrev s__law_many : Stmt := top 69
abbrev s__law_wood : Stmt := top 70
abbrev s__law_kinds : Stmt := top 71
abbrev s__law_kind : Stmt := top 72
abbrev s__law_book : Stmt := top 73
abbrev s__law_bare : Stmt := top 74
abbrev s__law_which : Stmt := top 75
abbrev s__law_done : Stmt := top 76
abbrev s__law_played : Stmt := top 77
abbrev s__law_looked : Stmt := top 78
abbrev s__law_strange : Stmt := top 79
abbrev s__law_least : Stmt := top 80
abbrev s__law_places : Stmt := top 81
abbrev s__law_whole : Stmt := top 82
abbrev s__law_same : Stmt := top 83
abbrev s__law_due : Stmt := top 84
abbrev s__law_holds : Stmt := top 85
abbrev s_law : Stmt := top 86
abbrev s_NoKind___init__ : Stmt := inClass (top 14) 0
abbrev s_Endless___init__ : Stmt := inClass (top 20) 0
abbrev s_Book___init__ : Stmt := inClass (top 40) 0
abbrev s_Book_names : Stmt := inClass (top 40) 1
abbrev s_Book_spreads : Stmt := inClass (top 40) 2
abbrev s_Book_rules : Stmt := inClass (top 40) 3
abbrev s_Play___init__ : Stmt := inClass (top 64) 0
abbrev s_Play_grove : Stmt := inClass (top 64) 1
abbrev s_Play_falls : Stmt := inClass (top 64) 2
abbrev s_Play_fall : Stmt := inClass (top 64) 3
abbrev s_Play_back : Stmt := inClass (top 64) 4
abbrev s_Play_again : Stmt := inClass (top 64) 5
abbrev eC : List Str := ["NoKind", "NoPlace", "NoRule", "NoNumber"]
abbrev eN : List Str := ["NoGrove", "NoPlace", "NoBook", "NoKind", "NoRule", "NoNumber", "TooGreat", "NoRise", "NoFall", "Endless", "NoRow", "NoName"]
abbrev eK : List Str := ["NoKind"]
def d_is_whole : He.DefD := ⟨("is_whole", none), "is_whole", "is_whole", defArgs s_is_whole, defBody s_is_whole, defScope s_is_whole, [], []⟩
def d_is_many : He.DefD := ⟨("is_many", none), "is_many", "is_many", defArgs s_is_many, defBody s_is_many, defScope s_is_many, [], []⟩
def d_is_name : He.DefD := ⟨("is_name", none), "is_name", "is_name", defArgs s_is_name, defBody s_is_name, defScope s_is_name, [], []⟩
def d_is_rising : He.DefD := ⟨("is_rising", none), "is_rising", "is_rising", defArgs s_is_rising, defBody s_is_rising, defScope s_is_rising, [], []⟩
def d_joined : He.DefD := ⟨("joined", none), "joined", "joined", defArgs s_joined, defBody s_joined, defScope s_joined, [], []⟩
def d_run_of : He.DefD := ⟨("run_of", none), "run_of", "run_of", defArgs s_run_of, defBody s_run_of, defScope s_run_of, [], []⟩
def d_is_tree : He.DefD := ⟨("is_tree", none), "is_tree", "is_tree", defArgs s_is_tree, defBody s_is_tree, defScope s_is_tree, [], []⟩
def d_is_grove : He.DefD := ⟨("is_grove", none), "is_grove", "is_grove", defArgs s_is_grove, defBody s_is_grove, defScope s_is_grove, [], []⟩
def d_are_grove_pairs : He.DefD := ⟨("are_grove_pairs", none), "are_grove_pairs", "are_grove_pairs", defArgs s_are_grove_pairs, defBody s_are_grove_pairs, defScope s_are_grove_pairs, [], []⟩
def d_together : He.DefD := ⟨("together", none), "together", "together", defArgs s_together, defBody s_together, defScope s_together, [], []⟩
def d_without : He.DefD := ⟨("without", none), "without", "without", defArgs s_without, defBody s_without, defScope s_without, [], []⟩
def d_times : He.DefD := ⟨("times", none), "times", "times", defArgs s_times, defBody s_times, defScope s_times, [], []⟩
def d_pairs_within : He.DefD := ⟨("pairs_within", none), "pairs_within", "pairs_within", defArgs s_pairs_within, defBody s_pairs_within, defScope s_pairs_within, [], []⟩
def d_kinds_within : He.DefD := ⟨("kinds_within", none), "kinds_within", "kinds_within", defArgs s_kinds_within, defBody s_kinds_within, defScope s_kinds_within, [], []⟩
def d_parts_of : He.DefD := ⟨("parts_of", none), "parts_of", "parts_of", defArgs s_parts_of, defBody s_parts_of, defScope s_parts_of, [], []⟩
def d_deep_of : He.DefD := ⟨("deep_of", none), "deep_of", "deep_of", defArgs s_deep_of, defBody s_deep_of, defScope s_deep_of, [], []⟩
def d_rules_from_nought : He.DefD := ⟨("rules_from_nought", none), "rules_from_nought", "rules_from_nought", defArgs s_rules_from_nought, defBody s_rules_from_nought, defScope s_rules_from_nought, [], []⟩
def d_check_kind : He.DefD := ⟨("check_kind", none), "check_kind", "check_kind", defArgs s_check_kind, defBody s_check_kind, defScope s_check_kind, [], []⟩
def d_check_kinds : He.DefD := ⟨("check_kinds", none), "check_kinds", "check_kinds", defArgs s_check_kinds, defBody s_check_kinds, defScope s_check_kinds, [], []⟩
def d_are_kinds : He.DefD := ⟨("are_kinds", none), "are_kinds", "are_kinds", defArgs s_are_kinds, defBody s_are_kinds, defScope s_are_kinds, [], []⟩
def d_is_kind : He.DefD := ⟨("is_kind", none), "is_kind", "is_kind", defArgs s_is_kind, defBody s_is_kind, defScope s_is_kind, [], []⟩
def d_is_rule : He.DefD := ⟨("is_rule", none), "is_rule", "is_rule", defArgs s_is_rule, defBody s_is_rule, defScope s_is_rule, [], []⟩
def d_is_rule_of : He.DefD := ⟨("is_rule_of", none), "is_rule_of", "is_rule_of", defArgs s_is_rule_of, defBody s_is_rule_of, defScope s_is_rule_of, [], []⟩
def d_tree_at : He.DefD := ⟨("tree_at", none), "tree_at", "tree_at", defArgs s_tree_at, defBody s_tree_at, defScope s_tree_at, [], []⟩
def d_number_of : He.DefD := ⟨("number_of", none), "number_of", "number_of", defArgs s_number_of, defBody s_number_of, defScope s_number_of, [], []⟩
def d_bare_places : He.DefD := ⟨("bare_places", none), "bare_places", "bare_places", defArgs s_bare_places, defBody s_bare_places, defScope s_bare_places, [], []⟩
def d_fallen : He.DefD := ⟨("fallen", none), "fallen", "fallen", defArgs s_fallen, defBody s_fallen, defScope s_fallen, [], []⟩
def d_rule_at : He.DefD := ⟨("rule_at", none), "rule_at", "rule_at", defArgs s_rule_at, defBody s_rule_at, defScope s_rule_at, [], []⟩
def d_check_number : He.DefD := ⟨("check_number", none), "check_number", "check_number", defArgs s_check_number, defBody s_check_number, defScope s_check_number, [], []⟩
def d_check_bound : He.DefD := ⟨("check_bound", none), "check_bound", "check_bound", defArgs s_check_bound, defBody s_check_bound, defScope s_check_bound, [], []⟩
def d_grown : He.DefD := ⟨("grown", none), "grown", "grown", defArgs s_grown, defBody s_grown, defScope s_grown, [], []⟩
def d_further_ones : He.DefD := ⟨("further_ones", none), "further_ones", "further_ones", defArgs s_further_ones, defBody s_further_ones, defScope s_further_ones, [], []⟩
def d_struck : He.DefD := ⟨("struck", none), "struck", "struck", defArgs s_struck, defBody s_struck, defScope s_struck, [], []⟩
def d_choices : He.DefD := ⟨("choices", none), "choices", "choices", defArgs s_choices, defBody s_choices, defScope s_choices, [], []⟩
def d__law_purse : He.DefD := ⟨("_law_purse", none), "_law_purse", "_law_purse", defArgs s__law_purse, defBody s__law_purse, defScope s__law_purse, [], []⟩
def d__law_take : He.DefD := ⟨("_law_take", none), "_law_take", "_law_take", defArgs s__law_take, defBody s__law_take, defScope s__law_take, [], []⟩
def d__law_names : He.DefD := ⟨("_law_names", none), "_law_names", "_law_names", defArgs s__law_names, defBody s__law_names, defScope s__law_names, [], []⟩
def d__law_many : He.DefD := ⟨("_law_many", none), "_law_many", "_law_many", defArgs s__law_many, defBody s__law_many, defScope s__law_many, [], []⟩
def d__law_wood : He.DefD := ⟨("_law_wood", none), "_law_wood", "_law_wood", defArgs s__law_wood, defBody s__law_wood, defScope s__law_wood, [], []⟩
def d__law_kinds : He.DefD := ⟨("_law_kinds", none), "_law_kinds", "_law_kinds", defArgs s__law_kinds, defBody s__law_kinds, defScope s__law_kinds, [], []⟩
def d__law_kind : He.DefD := ⟨("_law_kind", none), "_law_kind", "_law_kind", defArgs s__law_kind, defBody s__law_kind, defScope s__law_kind, [], []⟩
def d__law_book : He.DefD := ⟨("_law_book", none), "_law_book", "_law_book", defArgs s__law_book, defBody s__law_book, defScope s__law_book, [], []⟩
def d__law_bare : He.DefD := ⟨("_law_bare", none), "_law_bare", "_law_bare", defArgs s__law_bare, defBody s__law_bare, defScope s__law_bare, [], []⟩
def d__law_which : He.DefD := ⟨("_law_which", none), "_law_which", "_law_which", defArgs s__law_which, defBody s__law_which, defScope s__law_which, [], []⟩
def d__law_done : He.DefD := ⟨("_law_done", none), "_law_done", "_law_done", defArgs s__law_done, defBody s__law_done, defScope s__law_done, [], []⟩
def d__law_played : He.DefD := ⟨("_law_played", none), "_law_played", "_law_played", defArgs s__law_played, defBody s__law_played, defScope s__law_played, [], []⟩
def d__law_looked : He.DefD := ⟨("_law_looked", none), "_law_looked", "_law_looked", defArgs s__law_looked, defBody s__law_looked, defScope s__law_looked, [], []⟩
def d__law_strange : He.DefD := ⟨("_law_strange", none), "_law_strange", "_law_strange", defArgs s__law_strange, defBody s__law_strange, defScope s__law_strange, [], []⟩
def d__law_least : He.DefD := ⟨("_law_least", none), "_law_least", "_law_least", defArgs s__law_least, defBody s__law_least, defScope s__law_least, [], []⟩
def d__law_places : He.DefD := ⟨("_law_places", none), "_law_places", "_law_places", defArgs s__law_places, defBody s__law_places, defScope s__law_places, [], []⟩
def d__law_whole : He.DefD := ⟨("_law_whole", none), "_law_whole", "_law_whole", defArgs s__law_whole, defBody s__law_whole, defScope s__law_whole, [], []⟩
def d__law_same : He.DefD := ⟨("_law_same", none), "_law_same", "_law_same", defArgs s__law_same, defBody s__law_same, defScope s__law_same, [], []⟩
def d__law_due : He.DefD := ⟨("_law_due", none), "_law_due", "_law_due", defArgs s__law_due, defBody s__law_due, defScope s__law_due, [], []⟩
def d__law_holds : He.DefD := ⟨("_law_holds", none), "_law_holds", "_law_holds", defArgs s__law_holds, defBody s__law_holds, defScope s__law_holds, [], []⟩
def d_law : He.DefD := ⟨("law", none), "law", "law", defArgs s_law, defBody s_law, defScope s_law, [], []⟩
def d_NoKind___init__ : He.DefD := ⟨("NoKind", some "__init__"), "__init__", "NoKind.__init__", defArgs s_NoKind___init__, defBody s_NoKind___init__, defScope s_NoKind___init__, [], []⟩
def d_Endless___init__ : He.DefD := ⟨("Endless", some "__init__"), "__init__", "Endless.__init__", defArgs s_Endless___init__, defBody s_Endless___init__, defScope s_Endless___init__, [], []⟩
def d_Book___init__ : He.DefD := ⟨("Book", some "__init__"), "__init__", "Book.__init__", defArgs s_Book___init__, defBody s_Book___init__, defScope s_Book___init__, [], []⟩
def d_Book_names : He.DefD := ⟨("Book", some "names"), "names", "Book.names", defArgs s_Book_names, defBody s_Book_names, defScope s_Book_names, [], []⟩
def d_Book_spreads : He.DefD := ⟨("Book", some "spreads"), "spreads", "Book.spreads", defArgs s_Book_spreads, defBody s_Book_spreads, defScope s_Book_spreads, [], []⟩
def d_Book_rules : He.DefD := ⟨("Book", some "rules"), "rules", "Book.rules", defArgs s_Book_rules, defBody s_Book_rules, defScope s_Book_rules, [], []⟩
def d_Play___init__ : He.DefD := ⟨("Play", some "__init__"), "__init__", "Play.__init__", defArgs s_Play___init__, defBody s_Play___init__, defScope s_Play___init__, [], []⟩
def d_Play_grove : He.DefD := ⟨("Play", some "grove"), "grove", "Play.grove", defArgs s_Play_grove, defBody s_Play_grove, defScope s_Play_grove, [], []⟩
def d_Play_falls : He.DefD := ⟨("Play", some "falls"), "falls", "Play.falls", defArgs s_Play_falls, defBody s_Play_falls, defScope s_Play_falls, [], []⟩
def d_Play_fall : He.DefD := ⟨("Play", some "fall"), "fall", "Play.fall", defArgs s_Play_fall, defBody s_Play_fall, defScope s_Play_fall, [], []⟩
def d_Play_back : He.DefD := ⟨("Play", some "back"), "back", "Play.back", defArgs s_Play_back, defBody s_Play_back, defScope s_Play_back, [], []⟩
def d_Play_again : He.DefD := ⟨("Play", some "again"), "again", "Play.again", defArgs s_Play_again, defBody s_Play_again, defScope s_Play_again, [], []⟩
def fn : List He.DefD := [d_is_whole, d_is_many, d_is_name, d_is_rising, d_joined, d_run_of, d_is_tree, d_is_grove, d_are_grove_pairs, d_together, d_without, d_times, d_pairs_within, d_kinds_within, d_parts_of, d_deep_of, d_rules_from_nought, d_check_kind, d_check_kinds, d_are_kinds, d_is_kind, d_is_rule, d_is_rule_of, d_tree_at, d_number_of, d_bare_places, d_fallen, d_rule_at, d_check_number, d_check_bound, d_grown, d_further_ones, d_struck, d_choices, d__law_purse, d__law_take, d__law_names, d__law_many, d__law_wood, d__law_kinds, d__law_kind, d__law_book, d__law_bare, d__law_which, d__law_done, d__law_played, d__law_looked, d__law_strange, d__law_least, d__law_places, d__law_whole, d__law_same, d__law_due, d__law_holds, d_law, d_NoKind___init__, d_Endless___init__, d_Book___init__, d_Book_names, d_Book_spreads, d_Book_rules, d_Play___init__, d_Play_grove, d_Play_falls, d_Play_fall, d_Play_back, d_Play_again]
def fa1 : List He.Fa := [.glo "is_whole", .glo "is_many", .glo "is_name", .glo "is_rising", .glo "joined", .glo "run_of", .glo "is_tree", .glo "is_grove", .glo "are_grove_pairs", .glo "together", .glo "without", .glo "times", .glo "pairs_within", .glo "kinds_within", .glo "parts_of", .glo "deep_of", .glo "rules_from_nought", .glo "check_kind", .glo "check_kinds", .glo "are_kinds", .glo "is_kind", .glo "is_rule", .glo "is_rule_of", .glo "tree_at", .glo "number_of", .glo "bare_places", .glo "fallen", .glo "rule_at", .glo "check_number", .glo "check_bound", .glo "grown", .glo "further_ones", .glo "struck", .glo "choices", .glo "_law_purse", .glo "_law_take", .glo "_law_names", .glo "_law_many", .glo "_law_wood", .glo "_law_kinds", .glo "_law_kind", .glo "_law_book", .glo "_law_bare", .glo "_law_which", .glo "_law_done", .glo "_law_played", .glo "_law_looked", .glo "_law_strange", .glo "_law_least", .glo "_law_places", .glo "_law_whole", .glo "_law_same", .glo "_law_due", .glo "_law_holds", .glo "law", .free "len", .free "isinstance", .free "int", .free "bool", .free "str", .free "tuple", .free "list", .free "all", .free "zip", .free "sum"]
def fa2 : List He.Fa := [.free "max", .free "range", .free "enumerate", .free "abs", .free "sorted", .free "min", .free "reversed", .free "any", .free "set", .free "dict", .free "repr", .glo "FellError", .free "ValueError", .glo "NoGrove", .glo "NoPlace", .glo "NoBook", .glo "NoKind", .glo "NoRule", .glo "NoNumber", .glo "TooGreat", .glo "NoRise", .glo "NoFall", .glo "Endless", .glo "NoRow", .glo "NoName", .noat "NoKind" "kind", .str "LETTERS" "abcdefghijklmnopqrstuvwxyz", .int "LONGEST_NAME" (8), .int "MOST_KINDS" (8), .int "MOST_RULES" (4), .int "MOST_RULE_PARTS" (4), .int "MOST_MANY" (1000000000), .int "MOST_PARTS_STANDING" (2000), .int "MOST_DEEP_STANDING" (60), .glo "NO_GROVES", .exc "NoBook", .exc "NoFall", .exc "NoNumber", .exc "NoPlace", .exc "NoRule", .exc "TooGreat", .meth "NoKind" "__init__", .meth "Endless" "__init__", .noat "Endless" "kind", .glo "Book", .cls "Book", .noat "Book" "spread_by_name", .noat "Book" "rows_by_name", .mkr "Book", .meth "Book" "names", .meth "Book" "spreads", .meth "Book" "rules", .glo "Play", .cls "Play", .noat "Play" "book", .noat "Play" "stood", .noat "Play" "done", .noat "Play" "undone", .mkr "Play", .meth "Play" "grove", .meth "Play" "falls", .meth "Play" "fall", .meth "Play" "back", .meth "Play" "again"]
def fa : List He.Fa := fa1 ++ fa2
def exOk (K : PySem.W.Frag) : Bool := oexCB K (He.ga K "NoKind") && (oexCB K (He.ga K "Endless") && (no2B K (He.ga K "NO_GROVES") && (ermB K (He.ga K) eC eN)))
abbrev R : PySem.W.OpenRow := PySem.W.OpenLaw.row PySem.Challenge.rw_felltimber_k34_falls_refused
abbrev hk : PySem.W.Hook := hookE 6 fa fn exOk
def ob (s : PySem.W.SharedT) : AlE := obsE 6 fa fn exOk (HandSHeadRun.getT s)
theorem ob_eq (s : PySem.W.SharedT) : ob s = hk.obs s.abs := obsE_eq (HandSHeadRun.getT_eq s)
def loose : List PySem.Str := (["is_whole", "is_many", "is_name", "is_rising", "joined", "run_of", "FellError", "NoGrove", "NoPlace", "NoBook", "NoKind", "NoRule"] : List PySem.Str) ++ (["NoNumber", "TooGreat", "NoRise", "NoFall", "Endless", "NoRow", "NoName", "is_tree", "is_grove", "are_grove_pairs", "together", "without"] : List PySem.Str) ++ (["times", "pairs_within", "kinds_within", "parts_of", "deep_of", "Book", "rules_from_nought", "check_kind", "check_kinds", "are_kinds", "is_kind", "is_rule"] : List PySem.Str) ++ (["is_rule_of", "tree_at", "number_of", "bare_places", "fallen", "rule_at", "check_number", "check_bound", "grown", "further_ones", "struck", "choices"] : List PySem.Str) ++ (["Play", "_law_purse", "_law_take", "_law_names", "_law_many", "_law_wood", "_law_kinds", "_law_kind", "_law_book", "_law_bare", "_law_which", "_law_done"] : List PySem.Str) ++ (["_law_played", "_law_looked", "_law_strange", "_law_least", "_law_places", "_law_whole", "_law_same", "_law_due", "_law_holds", "LETTERS", "LONGEST_NAME", "MOST_DEEP_STANDING"] : List PySem.Str) ++ (["MOST_KINDS", "MOST_MANY", "MOST_PARTS_STANDING", "MOST_RULES", "MOST_RULE_PARTS", "NO_GROVES"] : List PySem.Str)
def KTr (s : PySem.W.SharedT) : PySem.W.Frag := He.frG (HandSHeadRun.getT s) (He.asD (HandSHeadRun.getT s) 6)
theorem run1 (w : World) (os : PySem.OsState) : (HandSHeadRun.endF (HandSHeadRun.stepQ (HandSHeadRun.denQ HandSHeadRun.tabQ) R.prog w) 6000 R.prog w os).map (fun s => HandSHeadRun.looksF R.prog (PySem.W.boot_heap w.params) s.abs) = some true := by
 kernel_rfl
theorem run2 (w : World) (os : PySem.OsState) : (HandSHeadRun.endF (HandSHeadRun.stepQ (HandSHeadRun.denQ HandSHeadRun.tabQ) R.prog w) 6000 R.prog w os).map (fun s => HandSHeadRun.seenQ (PySem.W.view R.prog [86]) loose (importedModules R.prog.main.body) (fun s => xlAt (PySem.W.view R.prog [86]) [] s && recOk R.toRowW.records s) s.abs) = some (openGood (PySem.W.view R.prog [86]) loose) := by
 kernel_rfl
theorem run3 (w : World) (os : PySem.OsState) : (HandSHeadRun.endF (HandSHeadRun.stepQ (HandSHeadRun.denQ HandSHeadRun.tabQ) R.prog w) 6000 R.prog w os).map (fun s => fa1.all fun f => f.ok (KTr s)) = some true := by
 kernel_rfl
theorem run4 (w : World) (os : PySem.OsState) : (HandSHeadRun.endF (HandSHeadRun.stepQ (HandSHeadRun.denQ HandSHeadRun.tabQ) R.prog w) 6000 R.prog w os).map (fun s => fa2.all fun f => f.ok (KTr s)) = some true := by
 kernel_rfl
theorem run5 (w : World) (os : PySem.OsState) : (HandSHeadRun.endF (HandSHeadRun.stepQ (HandSHeadRun.denQ HandSHeadRun.tabQ) R.prog w) 6000 R.prog w os).map (fun s => fn.all fun d => d.ok (KTr s)) = some true := by
 kernel_rfl
theorem run6 (w : World) (os : PySem.OsState) : (HandSHeadRun.endF (HandSHeadRun.stepQ (HandSHeadRun.denQ HandSHeadRun.tabQ) R.prog w) 6000 R.prog w os).map (fun s => fn.map fun d => He.fnW (KTr s) d.at_) = some (fn.map He.DefD.val) := by
 kernel_rfl
theorem run7 (w : World) (os : PySem.OsState) : (HandSHeadRun.endF (HandSHeadRun.stepQ (HandSHeadRun.denQ HandSHeadRun.tabQ) R.prog w) 6000 R.prog w os).map (fun s => exOk (KTr s)) = some true := by
 kernel_rfl
theorem map3 {σ α β γ : Type} {o : Option σ} {A : σ -> α} {B : σ -> β} {C : σ -> γ} {a : α} {b : β} {c : γ} (h1 : o.map A = some a) (h2 : o.map B = some b) (h3 : o.map C = some c) : o.map (fun s => (A s, B s, C s)) = some (a, b, c) := by
 cases o with
 | none => cases h1
 | some s => exact congrArg some (Prod.ext (Option.some.inj h1) (Prod.ext (Option.some.inj h2) (Option.some.inj h3)))
theorem mapE {σ : Type} {o : Option σ} {f1 f2 : List He.Fa} {gn : List He.DefD} {ex : PySem.W.Frag -> Bool} (K : σ -> PySem.W.Frag) (h1 : o.map (fun s => f1.all fun f => f.ok (K s)) = some true) (h2 : o.map (fun s => f2.all fun f => f.ok (K s)) = some true) (h3 : o.map (fun s => gn.all fun d => d.ok (K s)) = some true) (h4 : o.map (fun s => gn.map fun d => He.fnW (K s) d.at_) = some (gn.map He.DefD.val)) (h5 : o.map (fun s => ex (K s)) = some true) : o.map (fun s => (He.obsD (f1 ++ f2) gn (K s), ex (K s))) = some (He.valD gn, true) := by
 cases o with
 | none => cases h1
 | some s =>
  have e1 : (f1.all fun f => f.ok (K s)) = true := Option.some.inj h1
  have e2 : (f2.all fun f => f.ok (K s)) = true := Option.some.inj h2
  have e3 : (gn.all fun d => d.ok (K s)) = true := Option.some.inj h3
  have e4 : (gn.map fun d => He.fnW (K s) d.at_) = gn.map He.DefD.val := Option.some.inj h4
  have e5 : ex (K s) = true := Option.some.inj h5
  refine congrArg some (Prod.ext (Prod.ext ?_ e4) e5)
  show (((f1 ++ f2).all fun f => f.ok (K s)) && gn.all fun d => d.ok (K s)) = true
  rw [List.all_append, e1, e2, e3]; rfl
theorem run (w : World) : HandSHeadRun.RunEq R (PySem.W.view R.prog [86]) hk ob 6000 loose w := by
 intro os
 exact map3 (run1 w os) (run2 w os) (mapE KTr (run3 w os) (run4 w os) (run5 w os) (run6 w os) (run7 w os))
section
variable {P : Program} {w : World} {K : PySem.W.Frag} {mg : Str -> Option Value} {base : Heap} {f : Addr} {fd : FuncData} {ps : List Addr}
theorem sc_is_whole : FnScope ["thing"] ["thing"] (defScope s_is_whole) := ⟨rfl, rfl, rfl, by decide +kernel, rfl, by decide +kernel, by decide +kernel⟩
theorem ok_is_whole (B : BI mg) (F : Fun K "is_whole" "is_whole" s_is_whole f fd) : FnOk P w K mg base CX0 1 f fd ["thing"] (spWhole K) := by
 refine F.ok sc_is_whole (fun vs H Q E h => ?_) (fun cdv A outer s H vs Q E hr h => ?_)
 ·obtain ⟨v, n, b1, b2, rfl, _⟩ := h
  rfl
 obtain ⟨v, n, b1, b2, rfl, ty, k1, k2, q⟩ := h
 refine ⟨_, pss_one (ps_ret (pe_and (pe_isi B (pv 0) B.int boot_int) (pe_one (pe_not (pe_isi B (pv 0) B.bool boot_bool))))), ?_⟩
 refine ⟨_, rfl, _, _, n, b1, rfl, ty, k1, b1, rfl, ?_⟩
 cases b1 with
 | false => exact iteF q
 | true =>
  refine iteT ⟨_, rfl, _, _, n, b2, rfl, ty, k2 rfl, b2, rfl, ?_⟩
  exact q
end
section
variable {P : Program} {w : World} {K : PySem.W.Frag} {mg : Str -> Option Value} {base : Heap} {f : Addr} {fd : FuncData} {ps : List Addr}
theorem sc_is_many : FnScope ["thing"] ["thing"] (defScope s_is_many) := ⟨rfl, rfl, rfl, by decide +kernel, rfl, by decide +kernel, by decide +kernel⟩
theorem ok_is_many {ps : List Addr} (B : BI mg) (G : Got P w K mg base "is_whole" ["thing"] 1 (spWhole K)) (F : Fun K "is_many" "is_many" s_is_many f fd) : FnOk P w K mg base CX0 2 f fd ["thing"] (spMany K ps) := by
 refine F.ok sc_is_many (fun vs H Q E h => ?_) (fun cdv A outer s H vs Q E hr h => ?_)
 ·obtain ⟨v, d, rfl, _⟩ := h
  rfl
 obtain ⟨v, d, rfl, th, q⟩ := h
 refine ⟨_, pss_one (ps_ret (pe_and (pe_got G hr rfl (pa_cons (pv 0) pa_nil)) (pe_one (pe_cmpR op_ge (pv 0) pe_int (nomark _))))), ?_⟩
 obtain ⟨n, b1, b2, ty, k1, k2, y1, y2⟩ := th.whole
 refine ⟨_, rfl, v, n, b1, b2, rfl, ty, k1, k2, b1 && !b2, rfl, ?_⟩
 cases e : (b1 && !b2) with
 | false =>
  refine iteF ?_
  rw [y2 e] at q
  exact q
 | true =>
  obtain ⟨i, rfl, rfl⟩ := y1 e
  exact iteT ⟨_, rfl, _, _, rfl, rfl, q⟩
end
section
variable {P : Program} {w : World} {K : PySem.W.Frag} {mg : Str -> Option Value} {base : Heap} {f : Addr} {fd : FuncData}
theorem sc_is_name : FnScope ["thing"] ["thing"] (defScope s_is_name) := ⟨rfl, rfl, rfl, by decide +kernel, rfl, by decide +kernel, by decide +kernel⟩
theorem ok_is_name (B : BI mg) (L : ∃ t, mg "LETTERS" = some (.str abc t)) (N : ∃ t, mg "LONGEST_NAME" = some (.int 8 t)) (G : Got P w K mg base "run_of" ["text", "at", "signs"] 1 (spRunOf K)) (F : Fun K "is_name" "is_name" s_is_name f fd) : FnOk P w K mg base CX0 2 f fd ["thing"] (spName K) := by
 refine F.ok sc_is_name (fun vs H Q E h => ?_) (fun cdv A outer s H vs Q E hr h => ?_)
 ·obtain ⟨v, d, rfl, _⟩ := h
  rfl
 obtain ⟨v, d, rfl, th, q⟩ := h
 obtain ⟨tl, hL⟩ := L
 obtain ⟨tn, hN⟩ := N
 refine ⟨_, pss_cons (ps_if (PW.pt (pw_or (pt_not (pt_val (pe_isi B (pv 0) B.str boot_str))) (pw_or1 (pt_not (pt_chain op_le op_le pe_int (pe_callB call_len_str rfl B.len PySem.boot_len (pa_cons (pv 0) pa_nil)) (pe_glob (v := .int 8) rfl hN ⟨_, rfl⟩)))))) (pss_one (ps_ret pe_bl)) pss_nil)
  (pss_one (ps_ret (pe_cmpR op_eq (pe_got G hr rfl (pa_cons (pv 0) (pa_cons pe_int (pa_cons (pe_glob (v := .str abc) rfl hL ⟨_, rfl⟩) pa_nil)))) (pv 0) (nomark _)))), ?_⟩
 obtain ⟨n1, b, ty, kb, y1, y2⟩ := th.txt
 refine ⟨_, rfl, _, _, n1, b, rfl, ty, kb, b, rfl, ?_⟩
 cases b with
 | false =>
  refine iteT (iteT ?_)
  have e : nameD d = false := by
   cases d with
   | str z => exact absurd rfl (y2 rfl z)
   | _ => simp [nameD]
  have := q H SB.refl
  rw [e] at this
  exact this
 | true =>
 refine iteF ?_
 obtain ⟨z, rfl, rfl, hz⟩ := y1 rfl
 have hzl : z.length <= sizeLine := by have := sizeLine_eq; omega
 refine ⟨_, rfl, z, rfl, hzl, _, _, rfl, rfl, _, rfl, ?_⟩
 by_cases h1 : 1 <= z.length
 ·rw [show decide ((1 : Int) <= (z.length : Int)) = true from decide_eq_true (by omega)]
  refine iteT ⟨_, _, rfl, rfl, _, rfl, ?_⟩
  by_cases h8 : z.length <= 8
  ·rw [show decide ((z.length : Int) <= 8) = true from decide_eq_true (by omega)]
   refine iteF ?_
   refine ⟨_, rfl, z, abc, 0, rfl, by omega, Nat.zero_le _, fun e _ he hin hout => ?_⟩
   refine ⟨_, rfl, rfl, ?_⟩
   have := q H SB.refl
   rw [<- run_name h1 h8 he hin hout] at this
   exact this
  ·rw [show decide ((z.length : Int) <= 8) = false from decide_eq_false (by omega)]
   have := q H SB.refl
   rw [name_out fun h => h8 h.2] at this
   exact iteT this
 ·rw [show decide ((1 : Int) <= (z.length : Int)) = false from decide_eq_false (by omega)]
  have := q H SB.refl
  rw [name_out fun h => h1 h.1] at this
  exact iteF ⟨_, rfl, iteT this⟩
end
section
variable {P : Program} {w : World} {K : PySem.W.Frag} {mg : Str -> Option Value} {base : Heap} {f : Addr} {fd : FuncData} {ps : List Addr}
theorem sc_is_rising : FnScope N_rising ["things"] (defScope s_is_rising) := ⟨rfl, rfl, rfl, by decide +kernel, rfl, by decide +kernel, by decide +kernel⟩
theorem ok_is_rising (B : BI mg) (F : Fun K "is_rising" "is_rising" s_is_rising f fd) : FnOk P w K mg base CX0 1 f fd ["things"] (spRising K) := by
 refine F.ok sc_is_rising (fun vs H Q E h => ?_) (fun cdv A outer s H vs Q E hr h => ?_)
 ·obtain ⟨v, n, b1, rfl, _⟩ := h
  rfl
 obtain ⟨a, xs, ds, rfl, hS, hDp, hok, hal, hz, q⟩ := h
 have hu : A.units + 200 < cLine := by have := hr.un; show A.units + 200 < cLine; have h3 : (A.deeper (envOfC "is_rising" (defScope s_is_rising) s.heap.objs.size f cdv)).units = A.units + 3 := rfl; omega
 refine ⟨_, pss_one (ps_ret (pe_callB (cr_all rfl) rfl B.all boot_all (pa_cons
  (pe_lc (own := [("low", 1), ("high", 2)]) (g := gTup K 2 (gCons (gName 1) (gCons (gName 2) gNil))) (tt := tYes) (te := tOp (rLtD K) (tVar 1) (tVar 2)) rfl sc_is_rising.nd
   (pi_zip rfl B.zip (pa_cons (pv 0) (pa_cons (pe_slice sl_list (pv 0) (po_some pe_int) po_none) pa_nil)))
   (blkOk_by (N := N_rising) (sc := defScope s_is_rising) (by decide +kernel))
   (fun _ _ _ _ _ => pg_tup rfl (pgs_cons (pg_name (i := 1) sc_is_rising.nd rfl (.inl rfl)) (pgs_cons (pg_name (i := 2) sc_is_rising.nd rfl (.inl rfl)) pgs_nil)))
   (fun _ _ _ _ _ => pts_nil)
   (fun _ _ _ _ _ => pe_cmpR (op_ltD (by have := hu; show A.units + 3 + 100 < cLine; omega)) (pv 1) (pv 2) (nomark _))) pa_nil))), ?_⟩
 refine ⟨_, rfl, _, rfl, 1, rfl, a, xs, rfl, hS, fun p hp => ?_⟩
 rw [cut1]
 have e1 : SB [] H (upd H p (.lst (xs.drop 1))) := SB.new hp _
 refine ⟨a, p, xs, xs.drop 1, rfl, e1.sqL nmn hS, SqL.of upd_same, fun D hD => ?_⟩
 have hpD : p ≠ D := fun z => by subst z; rw [upd_same] at hD; cases hD
 have dl : ds.length = xs.length := (DpAll.length hDp).symm
 refine lc_it (walk_zip (n := min xs.length (xs.drop 1).length) rfl) (fun i H2 => SB [D] (upd H p (.lst (xs.drop 1))) H2 /\ H2 D = some (.lst (((ltsD ds).take i).map V.bl))) ⟨SB.new hD _, upd_same⟩ (fun i H2 hi h2 => ?_) (fun i x H2 H' hi h2 y => ?_) (fun H2 h2 => ?_)
 ·obtain ⟨h2, h3⟩ := h2
  have h4 := h2.drop hD
  exact ⟨(e1.trans h4).sqL nmn hS, h4.sqL nmn (SqL.of upd_same)⟩
 ·obtain ⟨h2, h3⟩ := h2
  have h4 := e1.trans (h2.drop hD)
  obtain ⟨T, x1, y1, rfl, hT, rfl, ex, ey⟩ := y
  have ey : (xs.drop 1)[i]? = some y1 := ey
  rw [List.getElem?_drop, Nat.add_comm] at ey
  obtain ⟨d, ed, hd⟩ := DpAll.get hDp ex
  obtain ⟨d', ed', hd'⟩ := DpAll.get (i := i + 1) hDp ey
  have e5 : SB [] H (upd H2 T (.tup [x1, y1])) := h4.trans (SB.new hT _)
  have m1 := List.mem_of_getElem? ed
  have m2 := List.mem_of_getElem? ed'
  have hTD : D ≠ T := fun z => by subst z; rw [h3] at hT; cases hT
  refine ⟨T, _, rfl, SqT.of upd_same, rfl, _, _, rfl, _, _, rfl, rfl, rfl, ?_⟩
  refine ⟨_, rfl, _, rfl, d, d', Dp_sb e5 _ _ (hok d m1).1 hd, Dp_sb e5 _ _ (hok d' m2).1 hd', hal d m1 d' m2, (hok d m1).2.1, (hok d m1).2.2, _, by rw [upd_ne hTD]; exact h3, ?_, ?_⟩
  ·have := ltsD_length ds
   rw [List.length_map, List.length_take]
   exact small1000 (by omega)
  ·refine ⟨(h2.trans (SB.new hT _)).trans (SB.set (by rw [upd_ne hTD]; exact h3) (by simp) _), ?_⟩
   rw [upd_same, List.take_add_one, ltsD_get ds i d d' ed ed']
   simp
 ·obtain ⟨h2, h3⟩ := h2
  have h4 := e1.trans (h2.drop hD)
  have e6 : (ltsD ds).take (min xs.length (xs.drop 1).length) = ltsD ds := by
   apply List.take_of_length_le
   rw [ltsD_length, List.length_drop]
   omega
  rw [e6] at h3
  exact ⟨D, _, rfl, SqL.of h3, q _ h4⟩
end
section
variable {P : Program} {w : World} {K : PySem.W.Frag} {mg : Str -> Option Value} {base : Heap} {f : Addr} {fd : FuncData}
abbrev N_joined : List Str := ["pairs", "row", "thing", "many"]
theorem sc_joined : FnScope N_joined ["pairs"] (defScope s_joined) := ⟨rfl, rfl, rfl, by decide +kernel, rfl, by decide +kernel, by decide +kernel⟩
theorem ok_joined (B : BI mg) (F : Fun K "joined" "joined" s_joined f fd) : FnOk P w K mg base CX0 (1) f fd ["pairs"] (spJoinedW K Gr.tEnc) := by
 refine F.ok sc_joined (fun vs H Q E h => ?_) (fun cdv A outer s H vs Q E hr h => ?_)
 ·obtain ⟨a, xs, bs, rfl, _⟩ := h
  rfl
 obtain ⟨a, xs, bs, rfl, hs, hb, hl, hsh, q⟩ := h
 have hun2 := hunT hr
 refine ⟨_, pss_cons (ps_set (i := 1) sc_joined.nd rfl (.inl rfl) (pe_lst pa_nil))
  (pss_cons (ps_for PassesOwn.never rfl (pi_list (pv 0)) (pg_tup rfl (pgs_cons (pg_name (i := 2) sc_joined.nd rfl (.inl rfl)) (pgs_cons (pg_name (i := 3) sc_joined.nd rfl (.inl rfl)) pgs_nil)))
   (pss_one (ps_if (PW.pt (pw_and (pt_truth (pv 1) (by intro _; rfl)) (pw_and1 (pt_cmpR (op_eqW (by show A.units + 3 + 195 < cLine; omega)) (pe_ix ix_tup (pe_ix ix_list (pv 1) (pe_un un_neg pe_int) (fun _ _ => rfl)) pe_int (fun _ _ => rfl)) (pv 2) (nomark _))))) (pss_one (ps_asg (pe_tup (pa_cons (pv 2) (pa_cons (pe_op op_add (pe_ix ix_tup (pe_ix ix_list (pv 1) (pe_un un_neg pe_int) (fun _ _ => rfl)) pe_int (fun _ _ => rfl)) (pv 3)) pa_nil))) (pg_sub (pv 1) (pe_un un_neg pe_int) set_list))) (pss_one (ps_expr (pe_bm PySem.F.plainAttrs_list PySem.F.slot_list_append PySem.F.type_list_append mt_append (pv 1) (pa_cons (pe_tup (pa_cons (pv 2) (pa_cons (pv 3) pa_nil))) pa_nil)))))))
  (pss_one (ps_ret (pe_callTy call_tuple_of rfl B.tuple boot_tuple (pa_cons (pv 1) pa_nil))))), ?_⟩
 refine ⟨(by show 0 <= sizeLine; decide), fun D hD => ?_⟩
 have t0 := SB.new (ps := []) hD (.lst [])
 refine ⟨_, rfl, a, rfl, ⟨xs, t0.sqL nmn hs⟩, ?_⟩
 have xl := hb.length
 refine for_list (K := K) (a := a) (xs := xs) (fun i σ H2 => SB [D] H H2 /\ ∃ acc o2 o3, σ = [some (.ref a), some (.ref D), o2, o3] /\ H2 D = some (.lst acc) /\ Bears K H2 (Gr.pEnc) acc (jn (bs.take i))) ⟨SB.new hD _, [], none, none, rfl, upd_same, .nil⟩ (fun i σ H2 hi h2 => (h2.1.drop hD).sqL nmn hs) (fun i x σ H2 hx h2 => ?_) (fun σ H2 h2 => ?_)
 ·obtain ⟨s2, acc, o2, o3, rfl, hD2, hb2⟩ := h2
  have s2' := s2.drop hD
  obtain ⟨p, ep, hpd⟩ := hb.get hx
  have pm := List.mem_of_getElem? ep
  obtain ⟨ad, ux, rfl, hsx, hdx⟩ := pair_at hpd
  have al := hb2.length
  have jl := jn_length (bs.take i)
  rw [List.length_take] at jl
  have nl := pairE_noList Gr.noList_tEnc
  rw [jn_take bs i p ep]
  have hdx2 := Dp_sb s2' _ _ (Gr.noList_tEnc _) hdx
  refine ⟨ad, _, rfl, s2'.sqT hsx, rfl, _, _, rfl, _, _, rfl, rfl, ?_⟩
  -- the row ahead: none, or a last one
  have app : jstep (jn (bs.take i)) p = jn (bs.take i) ++ [p] -> tDrop (tBM K "list" rAppend (tVar 1) (tCons (tTup (tCons (tVar 2) (tCons (tVar 3) tNil))) tNil)) { nx := fun σ H2 => SB [D] H H2 /\ ∃ acc o2 o3, σ = [some (.ref a), some (.ref D), o2, o3] /\ H2 D = some (.lst acc) /\ Bears K H2 (Gr.pEnc) acc (jstep (jn (bs.take i)) p), rt := Q } [some (.ref a), some (.ref D), some ux, some (.int p.2)] H2 := by
   intro e
   rw [e]
   refine ⟨_, rfl, .inl ⟨rfl, _, SqL.of hD2⟩, _, rfl, _, rfl, (by show 2 <= sizeLine; decide), fun t ht => ?_⟩
   have t3 := SB.new (ps := [D]) ht (.tup [ux, .int p.2])
   have hD3 : (upd H2 t (.tup [ux, .int p.2])) D = some (.lst acc) := by rw [upd_ne (ne_of_none hD2 ht)]; exact hD2
   refine ⟨D, acc, _, rfl, rfl, hD3, small5 (by omega), ?_⟩
   have t4 := SB.set (ps := [D]) hD3 (by simp) (.lst (acc ++ [.ref t]))
   exact ⟨(s2.trans t3).trans t4, _, _, _, rfl, upd_same, Bears.append ((hb2.sb t3 nl).sb t4 nl) (.cons (pair_mk (t4.sqT (SqT.of upd_same)) (Dp_sb t4 _ _ (Gr.noList_tEnc _) (Dp_sb t3 _ _ (Gr.noList_tEnc _) hdx2))) .nil)⟩
  rcases List.eq_nil_or_concat (jn (bs.take i)) with he | ⟨js, z, he⟩
  ·rw [he] at hb2 app
   cases hb2
   refine ⟨_, rfl, _, .inl ⟨[], SqL.of hD2, rfl⟩, iteF (iteF ?_)⟩
   rw [he]
   exact app rfl
  ·rw [List.concat_eq_append] at he
   rw [he] at hb2 app
   rw [he]
   obtain ⟨us, u, rfl, hus, hu⟩ := hb2.snoc
   obtain ⟨az, uz, rfl, hsz, hdz⟩ := pair_at hu
   have zsh : Wd (Gr.tEnc z.1) := by
    obtain ⟨q2, hq2, eq2⟩ := jn_keys (bs.take i) z (by rw [he]; simp)
    rw [<- eq2]
    exact hsh q2 (List.mem_of_mem_take hq2)
   refine ⟨_, rfl, _, .inl ⟨us ++ [.ref az], SqL.of hD2, rfl⟩, ?_⟩
   have e0 : (!(us ++ [V.ref az]).isEmpty) = true := by simp
   rw [e0]
   refine iteT ?_
   refine ⟨_, rfl, 1, rfl, D, _, _, _, rfl, rfl, SqL.of hD2, at_last, az, _, _, _, rfl, rfl, hsz, atI_nat (j := 0) rfl, _, rfl, Gr.tEnc z.1, Gr.tEnc p.1, hdz, hdx2, zsh, hsh p pm, _, rfl, ?_⟩
   rw [Gr.t_eqv]
   by_cases hz : z.1 = p.1
   ·rw [show decide (z.1 = p.1) = true by simp [hz]]
    refine iteT ?_
    refine ⟨_, rfl, _, rfl, 1, rfl, D, _, _, _, rfl, rfl, SqL.of hD2, at_last, az, _, _, _, rfl, rfl, hsz, atI_nat (j := 1) rfl, _, rfl, _, _, rfl, rfl, (by show 2 <= sizeLine; decide), fun t ht => ?_⟩
    have t3 := SB.new (ps := [D]) ht (.tup [ux, .int (z.2 + p.2)])
    have hD3 : (upd H2 t (.tup [ux, .int (z.2 + p.2)])) D = some (.lst (us ++ [.ref az])) := by rw [upd_ne (ne_of_none hD2 ht)]; exact hD2
    refine ⟨_, rfl, 1, rfl, D, _, _, us.length, rfl, rfl, hD3, ixN_last, ?_⟩
    rw [set_last]
    have t4 := SB.set (ps := [D]) hD3 (by simp) (.lst (us ++ [.ref t]))
    refine ⟨(s2.trans t3).trans t4, _, _, _, rfl, upd_same, ?_⟩
    rw [jstep_snoc, if_pos hz]
    exact Bears.append ((hus.sb t3 nl).sb t4 nl) (.cons (pair_mk (t4.sqT (SqT.of upd_same)) (Dp_sb t4 _ _ (Gr.noList_tEnc _) (Dp_sb t3 _ _ (Gr.noList_tEnc _) hdx2))) .nil)
   ·rw [show decide (z.1 = p.1) = false by simp [hz]]
    refine iteF ?_
    exact app (by rw [jstep_snoc, if_neg hz])
 ·obtain ⟨s2, acc, o2, o3, rfl, hD2, hb2⟩ := h2
  rw [xl, List.take_length] at hb2
  refine ⟨_, rfl, D, acc, rfl, .inl ⟨SqL.of hD2, fun t ht => ?_⟩⟩
  have t3 := SB.new (ps := []) ht (.tup acc)
  exact q _ _ _ ((s2.drop hD).trans t3) (SqT.of upd_same) (hb2.sb t3 (pairE_noList Gr.noList_tEnc))
theorem sc_run_of : FnScope ["text", "at", "signs", "end"] ["text", "at", "signs"] (defScope s_run_of) := ⟨rfl, rfl, rfl, by decide +kernel, rfl, by decide +kernel, by decide +kernel⟩
theorem ok_run_of (B : BI mg) (F : Fun K "run_of" "run_of" s_run_of f fd) : FnOk P w K mg base CX0 1 f fd ["text", "at", "signs"] (spRunOf K) := by
 refine F.ok sc_run_of (fun vs H Q E h => ?_) (fun cdv A outer s H vs Q E hr h => ?_)
 ·obtain ⟨z, y, k, rfl, _⟩ := h
  rfl
 obtain ⟨z, y, k, rfl, hz, hk, q⟩ := h
 refine ⟨_, pss_cons (ps_set (i := 3) sc_run_of.nd rfl (.inl rfl) (pv 1))
  (pss_cons (ps_while PassesOwn.never (PW.pt (pw_and (pt_cmpR op_lt (pv 3) (pe_callB call_len_str rfl B.len PySem.boot_len (pa_cons (pv 0) pa_nil)) (nomark _)) (pw_and1 (pt_cmpR op_in_sign (pe_ix ix_str (pv 0) (pv 3) (fun _ _ => rfl)) (pv 2) (by rfl)))))
   (pss_one (ps_aug (i := 3) sc_run_of.nd rfl (.inl rfl) pe_int ip_add)))
  (pss_one (ps_ret (pe_slice sl_str (pv 0) (po_some (pv 1)) (po_some (pv 3)))))), ?_⟩
 have hzl : z.length <= sizeLine := by have := sizeLine_eq; omega
 have hl := len_cps z
 refine ⟨_, rfl, ?_⟩
 refine ⟨fun mm σ H2 => ∃ e : Nat, mm = z.length - e /\ H2 = H /\ σ = [some (.str z), some (.int (k : Int)), some (.str y), some (.int (e : Int))] /\ k <= e /\ e <= z.length /\ (∀ j c, k <= j -> j < e -> z.cps.toList[j]? = some c -> c ∈ y.cps.toList), ⟨_, k, rfl, rfl, rfl, Nat.le_refl _, hk, fun j c h1 h2 _ => by omega⟩, fun mm σ H2 h2 => ?_⟩
 obtain ⟨e, rfl, rfl, rfl, ke, el, hin⟩ := h2
 refine ⟨_, rfl, _, rfl, z, rfl, hzl, _, _, rfl, rfl, _, rfl, ?_⟩
 have fin : (∀ c, z.cps.toList[e]? = some c -> c ∉ y.cps.toList) -> Q (.str (cutS z (some (k : Int)) (some (e : Int)))) H2 := fun ho => q e ke el hin ho
 by_cases hlt : e < z.length
 ·rw [show decide ((e : Int) < (z.length : Int)) = true from decide_eq_true (by omega)]
  refine iteT ?_
  obtain ⟨c, hc⟩ : ∃ c, z.cps.toList[e]? = some c := ⟨_, List.getElem?_eq_getElem (by omega)⟩
  refine ⟨_, rfl, _, rfl, z, _, c, rfl, rfl, hzl, atI_natN hc, _, rfl, c, y, rfl, rfl, _, rfl, ?_⟩
  by_cases hm : c ∈ y.cps.toList
  ·rw [decide_eq_true hm]
   refine iteT ?_
   refine ⟨_, fun σ' H' z => z, ?_⟩
   refine ⟨_, rfl, _, _, rfl, rfl, z.length - (e + 1), by omega, e + 1, rfl, rfl, rfl, by omega, by omega, fun j c' h1 h2 h3 => ?_⟩
   rcases Nat.lt_or_ge j e with h | h
   ·exact hin j c' h1 h h3
   ·have : j = e := by omega
    subst this
    rw [hc] at h3; cases h3; exact hm
  ·rw [decide_eq_false hm]
   refine iteF ?_
   refine ⟨_, rfl, _, rfl, _, rfl, _, rfl, _, rfl, z, rfl, hzl, fin fun c' h' => ?_⟩
   rw [hc] at h'; cases h'; exact hm
 ·rw [show decide ((e : Int) < (z.length : Int)) = false from decide_eq_false (by omega)]
  refine iteF (iteF ?_)
  refine ⟨_, rfl, _, rfl, _, rfl, _, rfl, _, rfl, z, rfl, hzl, fin fun c' h' => ?_⟩
  have := (List.getElem?_eq_some_iff.mp h').1
  omega
theorem sc_is_tree : FnScope ["thing"] ["thing"] (defScope s_is_tree) := ⟨rfl, rfl, rfl, by decide +kernel, rfl, by decide +kernel, by decide +kernel⟩
theorem none_is_tree {ps : List Str} {k : Nat} : FnOk P w K mg base CX0 k f fd ps (spIsTree K 0) := none_sp fun vs H Q E ⟨v, d, _, _, h, _⟩ => by omega
theorem ok_is_tree {n : Nat} (B : BI mg) (GN : Got P w K mg base "is_name" ["thing"] 2 (spName K)) (G : Got P w K mg base "is_grove" ["thing"] (n + 3) (spIsGrove K n)) (F : Fun K "is_tree" "is_tree" s_is_tree f fd) :
  FnOk P w K mg base CX0 (n + 4) f fd ["thing"] (spIsTree K (n + 1)) := by
 refine F.ok sc_is_tree (fun vs H Q E h => ?_) (fun cdv A outer s H vs Q E hr h => ?_)
 ·obtain ⟨v, l, rfl, _⟩ := h
  rfl
 obtain ⟨v, d, rfl, th, hd, h80, hw, q⟩ := h
 refine ⟨_, pss_one (ps_ret (pe_and (pe_isi B (pv 0) B.tuple boot_tuple) (pe_and (pe_cmpR op_eq (pe_callB call_len_seq rfl B.len PySem.boot_len (pa_cons (pv 0) pa_nil)) pe_int (nomark _))
  (pe_and (pe_got GN (hr.mono (by omega)) rfl (pa_cons (pe_ix ix_tup (pv 0) pe_int (fun _ _ => rfl)) pa_nil)) (pe_one (pe_got G hr rfl (pa_cons (pe_ix ix_tup (pv 0) pe_int (fun _ _ => rfl)) pa_nil))))))), ?_⟩
 obtain ⟨n1, b, ty, kb, y1, y2⟩ := th.ty
 refine ⟨_, rfl, _, _, n1, b, rfl, ty, kb, b, rfl, ?_⟩
 cases b with
 | false =>
  refine iteF ?_
  have e : treeD d = false := by
   cases d with
   | tuple ds => exact absurd rfl (y2 rfl ds)
   | _ => simp [treeD]
  have := q H SB.refl
  rw [e] at this
  exact this
 | true =>
 refine iteT ?_
 obtain ⟨a, xs, ds, rfl, rfl, hs, ha⟩ := y1 rfl
 refine ⟨_, rfl, a, xs, rfl, .inr hs, rfl, _, rfl, ?_⟩
 have hl := TgAll.length ha
 refine ite2 (fun c => ?_) (fun c => ?_)
 ·have c' : V.int (xs.length : Nat) = V.int 2 := of_decide_eq_true c
  injection c' with c'
  have c2 : xs.length = 2 := by omega
  cases ha with
  | nil => simp at c2
  | cons t1 ta =>
   cases ta with
   | nil => simp at c2
   | cons t2 ta =>
    cases ta with
    | cons t3 ta => simp at c2
    | nil =>
     rename_i v1 d1 v2 d2
     have q1 : d2.depth < PyData.depth (.tuple [d1, d2]) := by simp only [PyData.depth, PyData.depthAll]; omega
     have q2 : wide d2 <= wide (.tuple [d1, d2]) := by simp only [wide, wides]; omega
     refine ⟨_, rfl, a, _, _, _, rfl, rfl, hs, atI_nat (j := 0) rfl, v1, d1, rfl, t1, fun H1 h1 => ?_⟩
     refine ⟨_, rfl, ?_⟩
     cases e1 : nameD d1 with
     | false =>
      refine iteF ?_
      have := q H1 h1
      have e : treeD (.tuple [d1, d2]) = false := by simp [treeD, trD2, e1]
      rw [e] at this
      exact this
     | true =>
      refine iteT ?_
      refine ⟨_, rfl, a, _, _, _, rfl, rfl, h1.sqT hs, atI_nat (j := 1) rfl, v2, d2, rfl, Tg_sb h1 t2, by omega, by omega, by omega, fun H2 h2 => ?_⟩
      have := q H2 (h1.trans h2)
      have e : treeD (.tuple [d1, d2]) = groveD d2 := by simp [treeD, trD2, trD3, e1]
      rw [e] at this
      exact this
 ·have c' : ¬ V.int (xs.length : Nat) = V.int 2 := of_decide_eq_false (Bool.eq_false_iff.mpr c)
  have c2 : ¬ xs.length = 2 := fun z => c' (by rw [z]; rfl)
  have e : treeD (.tuple ds) = false := by
   cases e : treeD (.tuple ds) with
   | false => rfl
   | true =>
    obtain ⟨t, e2⟩ := treeD_tr _ e
    injection e2 with e2
    rw [e2] at hl
    exact absurd hl c2
  have := q H SB.refl
  rw [e] at this
  exact this
abbrev N_is_grove : List Str := ["thing", "pair"]
theorem sc_is_grove : FnScope N_is_grove ["thing"] (defScope s_is_grove) := ⟨rfl, rfl, rfl, by decide +kernel, rfl, by decide +kernel, by decide +kernel⟩
theorem none_is_grove {ps : List Str} {k : Nat} : FnOk P w K mg base CX0 k f fd ps (spIsGrove K 0) := none_sp fun vs H Q E ⟨v, d, _, _, h, _⟩ => by omega
theorem exp0_pEnc (bs : List (Tr × Int)) : (bs.map Gr.pEnc).map exp0 = bs.map fun p => Gr.tEnc p.1 := by rw [List.map_map]; rfl
theorem noLists_trs : ∀ bs : List (Tr × Int), noLists (bs.map fun p => Gr.tEnc p.1) = true
 | [] => by simp [noLists]
 | p :: r => by rw [List.map_cons, noLists, noLists_trs r, Gr.noList_tEnc]; rfl
theorem ok_is_grove {n : Nat} (B : BI mg) (GR : Got P w K mg base "is_rising" ["things"] 1 (spRising K)) (G : Got P w K mg base "are_grove_pairs" ["things"] (n + 3) (spPairsQ K true n)) (F : Fun K "is_grove" "is_grove" s_is_grove f fd) :
  FnOk P w K mg base CX0 (n + 4) f fd ["thing"] (spIsGrove K (n + 1)) := by
 refine F.ok sc_is_grove (fun vs H Q E h => ?_) (fun cdv A outer s H vs Q E hr h => ?_)
 ·obtain ⟨v, l, rfl, _⟩ := h
  rfl
 obtain ⟨v, d, rfl, th, hd, h80, hw, q⟩ := h
 refine ⟨_, pss_cons (ps_if (PW.pt (pw_or (pt_not (pt_val (pe_isi B (pv 0) B.tuple boot_tuple))) (pw_or1 (pt_not (pt_val (pe_got G hr rfl (pa_cons (pv 0) pa_nil))))))) (pss_one (ps_ret pe_bl)) pss_nil)
  (pss_one (ps_ret (pe_got GR (hr.mono (by omega)) rfl (pa_cons (pe_lc (own := [("pair", 1)]) (g := gName 1) (tt := tYes) (te := tOp (rIxT K) (tVar 1) (tC (.int 0))) rfl sc_is_grove.nd
   (pi_tup (pv 0))
   (blkOk_by (N := N_is_grove) (sc := defScope s_is_grove) (by decide +kernel))
   (fun _ _ _ _ _ => pg_name (i := 1) sc_is_grove.nd rfl (.inl rfl))
   (fun _ _ _ _ _ => pts_nil)
   (fun _ _ _ _ _ => pe_ix ix_tup (pv 1) pe_int (fun _ _ => rfl))) pa_nil)))), ?_⟩
 obtain ⟨n1, b, ty, kb, y1, y2⟩ := th.ty
 refine ⟨_, rfl, _, _, n1, b, rfl, ty, kb, b, rfl, ?_⟩
 cases b with
 | false =>
  refine iteT (iteT ?_)
  have e : groveD d = false := by
   cases d with
   | tuple ds => exact absurd rfl (y2 rfl ds)
   | _ => simp [groveD]
  have := q H SB.refl
  rw [e] at this
  exact this
 | true =>
 refine iteF ?_
 obtain ⟨a, xs, ds, rfl, rfl, hs, ha⟩ := y1 rfl
 have hl := TgAll.length ha
 have m3 : PyData.depth (.tuple ds) = PyData.depthAll ds + 1 := by simp [PyData.depth]
 refine ⟨_, rfl, a, xs, ds, rfl, by simpa using hs, ha, by omega, by omega, hw, fun H2 h2 => ⟨_, rfl, ?_⟩⟩
 cases e1 : grPs ds with
 | false =>
  refine iteT ?_
  have := q H2 h2
  rw [groveD, e1] at this
  exact this
 | true =>
  refine iteF ?_
  obtain ⟨g, rfl⟩ := grPs_enc ds e1
  have hga : GA K H (.ref a) g := Dp.tup hs (Tg_ga g ha)
  obtain ⟨a', xs', e', hs', hb⟩ := GA_bears (hga.sb h2)
  cases e'
  have hlen := hb.length
  have gl : g.encs.length = g.ps.length := by rw [Gr.encs_ps, List.length_map]
  rw [wide_tuple] at hw
  refine ⟨_, rfl, a, rfl, ⟨xs', hs'⟩, fun D hD => ?_⟩
  refine lc_it (walk_tup (xs := xs')) (fun i H3 => SB [D] H2 H3 /\ ∃ acc, H3 D = some (.lst acc) /\ DpAll K H3 acc ((g.ps.take i).map fun p => Gr.tEnc p.1)) ⟨SB.new hD _, [], upd_same, .nil⟩ (fun i H3 hi h3 => (h3.1.drop hD).sqT hs') (fun i x H3 H' hi h3 y => ?_) (fun H3 h3 => ?_)
  ·obtain ⟨h3, acc, h4, h5⟩ := h3
   obtain ⟨rfl, ex⟩ := y
   obtain ⟨p, ep, hpd⟩ := hb.get ex
   obtain ⟨ad, bd, ux, rfl, hsx, hst, hdx, hdt⟩ := PA_parts hpd
   have h6 := h3.drop hD
   have hla2 := DpAll.length h5
   refine ⟨rfl, ?_⟩
   refine ⟨_, rfl, ad, _, _, _, rfl, rfl, h6.sqT hsx, atI_nat (j := 0) rfl, acc, h4, ?_, ?_⟩
   ·rw [hla2, List.length_map, List.length_take]
    exact small1000 (by omega)
   ·have h7 := SB.set (ps := [D]) h4 (by simp) (.lst (acc ++ [.ref bd]))
    refine ⟨h3.trans h7, _, upd_same, ?_⟩
    rw [List.take_add_one, ep, List.map_append]
    exact DpAll.append (DpAll_sb h7 _ _ (noLists_trs _) h5) (.cons (Dp_sb h7 _ _ (Gr.noList_tEnc _) (Dp_sb h6 _ _ (Gr.noList_tEnc _) hdt)) .nil)
  ·obtain ⟨h3', acc, h4, h5⟩ := h3
   rw [hlen, List.take_length] at h5
   have h6 := h3'.drop hD
   have hla2 := DpAll.length h5
   refine ⟨D, acc, g.ps.map fun p => Gr.tEnc p.1, rfl, SqL.of h4, h5, ?_, ?_, ?_, fun H9 h9 => ?_⟩
   ·intro d hd'
    obtain ⟨p1, m1, rfl⟩ := List.mem_map.mp hd'
    have hd2 : (Gr.pEnc p1).depth <= PyData.depthAll g.encs := PyData.depth_le_depthAll _ _ (by rw [Gr.encs_ps]; exact List.mem_map_of_mem m1)
    have hd3 : (Gr.tEnc p1.1).depth < (Gr.pEnc p1).depth := by
     show _ < (PyData.tuple [Gr.tEnc p1.1, .int p1.2]).depth
     simp only [PyData.depth, PyData.depthAll]; omega
    exact ⟨Gr.noList_tEnc _, (fun z : Gr.tEnc p1.1 = .none => by simp [Gr.tEnc] at z), by omega⟩
   ·intro d hd' d2 hd2
    obtain ⟨p1, _, rfl⟩ := List.mem_map.mp hd'
    obtain ⟨p2, _, rfl⟩ := List.mem_map.mp hd2
    exact Orderly.al (enc := Gr.tEnc) _ _
   ·rw [hla2, List.length_map]; omega
   ·have := q H9 ((h2.trans h6).trans h9)
    rw [groveD, e1, Bool.true_and, Gr.encs_ps, exp0_pEnc] at this
    exact this
abbrev N_are_pairs : List Str := ["things", "thing"]
theorem sc_are_grove_pairs : FnScope N_are_pairs ["things"] (defScope s_are_grove_pairs) := ⟨rfl, rfl, rfl, by decide +kernel, rfl, by decide +kernel, by decide +kernel⟩
theorem none_are_grove_pairs {ps : List Str} {tp : Bool} {k : Nat} : FnOk P w K mg base CX0 k f fd ps (spPairsQ K tp 0) := none_sp fun vs H Q E ⟨a, xs, ds, _, _, _, h, _⟩ => by omega
theorem grPs_all : ∀ ds : List PyData, grPs ds = ds.all grP
 | [] => by rw [grPs]; rfl
 | d :: ds => by rw [grPs, grPs_all ds]; rfl
theorem ok_are_grove_pairs {n : Nat} (B : BI mg) (GM : Got P w K mg base "is_many" ["thing"] 2 (spMany K [])) (G : Got P w K mg base "is_tree" ["thing"] (n + 3) (spIsTree K n)) (F : Fun K "are_grove_pairs" "are_grove_pairs" s_are_grove_pairs f fd) :
  FnOk P w K mg base CX0 (n + 4) f fd ["things"] (spPairsQ K true (n + 1)) := by
 refine F.ok sc_are_grove_pairs (fun vs H Q E h => ?_) (fun cdv A outer s H vs Q E hr h => ?_)
 ·obtain ⟨a, xs, ds, rfl, _⟩ := h
  rfl
 obtain ⟨a, xs, ds, rfl, hs, ha, hd, h79, hw, q⟩ := h
 refine ⟨_, pss_cons (ps_for PassesOwn.never rfl (pi_tup (pv 0)) (pg_name (i := 1) sc_are_grove_pairs.nd rfl (.inl rfl))
   (pss_cons (ps_if (PW.pt (pw_or (pt_not (pt_val (pe_isi B (pv 1) B.tuple boot_tuple))) (pw_or1 (pt_cmpR op_ne (pe_callB call_len_seq rfl B.len PySem.boot_len (pa_cons (pv 1) pa_nil)) pe_int (nomark _))))) (pss_one (ps_ret pe_bl)) pss_nil)
   (pss_one (ps_if (PW.pt (pw_or (pt_not (pt_val (pe_got G hr rfl (pa_cons (pe_ix ix_tup (pv 1) pe_int (fun _ _ => rfl)) pa_nil)))) (pw_or1 (pt_not (pt_val (pe_got GM (hr.mono (by omega)) rfl (pa_cons (pe_ix ix_tup (pv 1) pe_int (fun _ _ => rfl)) pa_nil))))))) (pss_one (ps_ret pe_bl)) pss_nil))))
  (pss_one (ps_ret pe_bl)), ?_⟩
 have hs : SqT K H a xs := by simpa using hs
 have hl := TgAll.length ha
 rw [wide_tuple] at hw
 refine ⟨_, rfl, a, rfl, ⟨xs, hs⟩, ?_⟩
 refine for_tup (K := K) (a := a) (xs := xs) (fun i σ H2 => SB [] H H2 /\ (∃ o, σ = [some (.ref a), o]) /\ (ds.take i).all grP = true) ⟨SB.refl, ⟨none, rfl⟩, by simp⟩ (fun i σ H2 hi h2 => h2.1.sqT hs) (fun i x σ H2 hx h2 => ?_) (fun σ H2 h2 => ?_)
 ·obtain ⟨h2, ⟨o, rfl⟩, h3⟩ := h2
  obtain ⟨dx, ex, tx⟩ := TgAll.get ha hx
  have mx := List.mem_of_getElem? ex
  have m1 := depthAll_get ex
  have m2 := wide_mem _ _ mx
  have no : grP dx = false -> ∀ H', SB [] H2 H' -> Q (.bl false) H' := fun e H' s' => by
   have := q H' (h2.trans s')
   have e2 : grPs ds = false := by
    rw [grPs_all, List.all_eq_false]
    exact ⟨dx, mx, by rw [e]; exact Bool.false_ne_true⟩
   rw [e2] at this
   exact this
  obtain ⟨n1, b, ty, kb, y1, y2⟩ := (Tg_sb h2 tx).ty
  refine ⟨_, rfl, _, _, n1, b, rfl, ty, kb, b, rfl, ?_⟩
  cases b with
  | false =>
   refine iteT (iteT (no ?_ _ SB.refl))
   cases dx with
   | tuple ds => exact absurd rfl (y2 rfl ds)
   | _ => simp [grP]
  | true =>
  refine iteF ?_
  obtain ⟨b1, ys, es, rfl, rfl, hs1, ha1⟩ := y1 rfl
  refine ⟨_, rfl, b1, ys, rfl, .inr hs1, rfl, _, rfl, ?_⟩
  have hl1 := TgAll.length ha1
  by_cases c2 : ys.length = 2
  ·rw [show (!decide (V.int (ys.length : Nat) = V.int 2)) = false by rw [c2]; rfl]
   refine iteF ?_
   cases ha1 with
   | nil => simp at c2
   | cons t1 ta =>
    cases ta with
    | nil => simp at c2
    | cons t2 ta =>
     cases ta with
     | cons t3 ta => simp at c2
     | nil =>
      rename_i v1 d1 v2 d2
      have q1 : d1.depth < PyData.depth (.tuple [d1, d2]) := by simp only [PyData.depth, PyData.depthAll]; omega
      have q2 : wide d1 <= wide (.tuple [d1, d2]) := by simp only [wide, wides]; omega
      refine ⟨_, rfl, b1, _, _, _, rfl, rfl, hs1, atI_nat (j := 0) rfl, v1, d1, rfl, t1, by omega, by omega, by omega, fun H3 h3' => ?_⟩
      refine ⟨_, rfl, ?_⟩
      cases e1 : treeD d1 with
      | false => exact iteT (iteT (no (by simp [grP, grP2, e1]) _ h3'))
      | true =>
       refine iteF ?_
       refine ⟨_, rfl, b1, _, _, _, rfl, rfl, h3'.sqT hs1, atI_nat (j := 1) rfl, v2, strip d2, rfl, (Tg_sb h3' t2).th, _, rfl, ?_⟩
       rw [many_strip]
       have e : grP (.tuple [d1, d2]) = manyD d2 := by simp [grP, grP2, ladP3, e1]
       cases e2 : manyD d2 with
       | false => exact iteT (no (by rw [e, e2]) _ h3')
       | true =>
        refine iteF ⟨h2.trans h3', ⟨_, rfl⟩, ?_⟩
        rw [List.take_add_one, ex, List.all_append, h3]
        simp [e, e2]
  ·rw [show (!decide (V.int (ys.length : Nat) = V.int 2)) = true by rw [decide_eq_false (fun z => by injection z with z; omega)]; rfl]
   refine iteT (no ?_ _ SB.refl)
   cases e : grP (.tuple es) with
   | false => rfl
   | true =>
    obtain ⟨t, i, e2, _⟩ := grP_enc _ e
    injection e2 with e2
    rw [e2] at hl1
    exact absurd hl1 c2
 ·obtain ⟨h2, ⟨o, rfl⟩, h3⟩ := h2
  rw [hl, List.take_length, <- grPs_all] at h3
  have := q H2 h2
  rw [h3] at this
  exact this
theorem ok_are_grove_pairsL {n : Nat} (B : BI mg) (GM : Got P w K mg base "is_many" ["thing"] 2 (spMany K [])) (G : Got P w K mg base "is_tree" ["thing"] (n + 3) (spIsTree K n)) (F : Fun K "are_grove_pairs" "are_grove_pairs" s_are_grove_pairs f fd) :
  FnOk P w K mg base CX0 (n + 4) f fd ["things"] (spPairsQ K false (n + 1)) := by
 refine F.ok sc_are_grove_pairs (fun vs H Q E h => ?_) (fun cdv A outer s H vs Q E hr h => ?_)
 ·obtain ⟨a, xs, ds, rfl, _⟩ := h
  rfl
 obtain ⟨a, xs, ds, rfl, hs, ha, hd, h79, hw, q⟩ := h
 refine ⟨_, pss_cons (ps_for PassesOwn.never rfl (pi_list (pv 0)) (pg_name (i := 1) sc_are_grove_pairs.nd rfl (.inl rfl))
   (pss_cons (ps_if (PW.pt (pw_or (pt_not (pt_val (pe_isi B (pv 1) B.tuple boot_tuple))) (pw_or1 (pt_cmpR op_ne (pe_callB call_len_seq rfl B.len PySem.boot_len (pa_cons (pv 1) pa_nil)) pe_int (nomark _))))) (pss_one (ps_ret pe_bl)) pss_nil)
   (pss_one (ps_if (PW.pt (pw_or (pt_not (pt_val (pe_got G hr rfl (pa_cons (pe_ix ix_tup (pv 1) pe_int (fun _ _ => rfl)) pa_nil)))) (pw_or1 (pt_not (pt_val (pe_got GM (hr.mono (by omega)) rfl (pa_cons (pe_ix ix_tup (pv 1) pe_int (fun _ _ => rfl)) pa_nil))))))) (pss_one (ps_ret pe_bl)) pss_nil))))
  (pss_one (ps_ret pe_bl)), ?_⟩
 have hs : SqL K H a xs := by simpa using hs
 have hl := TgAll.length ha
 rw [wide_tuple] at hw
 refine ⟨_, rfl, a, rfl, ⟨xs, hs⟩, ?_⟩
 refine for_list (K := K) (a := a) (xs := xs) (fun i σ H2 => SB [] H H2 /\ (∃ o, σ = [some (.ref a), o]) /\ (ds.take i).all grP = true) ⟨SB.refl, ⟨none, rfl⟩, by simp⟩ (fun i σ H2 hi h2 => h2.1.sqL nmn hs) (fun i x σ H2 hx h2 => ?_) (fun σ H2 h2 => ?_)
 ·obtain ⟨h2, ⟨o, rfl⟩, h3⟩ := h2
  obtain ⟨dx, ex, tx⟩ := TgAll.get ha hx
  have mx := List.mem_of_getElem? ex
  have m1 := depthAll_get ex
  have m2 := wide_mem _ _ mx
  have no : grP dx = false -> ∀ H', SB [] H2 H' -> Q (.bl false) H' := fun e H' s' => by
   have := q H' (h2.trans s')
   have e2 : grPs ds = false := by
    rw [grPs_all, List.all_eq_false]
    exact ⟨dx, mx, by rw [e]; exact Bool.false_ne_true⟩
   rw [e2] at this
   exact this
  obtain ⟨n1, b, ty, kb, y1, y2⟩ := (Tg_sb h2 tx).ty
  refine ⟨_, rfl, _, _, n1, b, rfl, ty, kb, b, rfl, ?_⟩
  cases b with
  | false =>
   refine iteT (iteT (no ?_ _ SB.refl))
   cases dx with
   | tuple ds => exact absurd rfl (y2 rfl ds)
   | _ => simp [grP]
  | true =>
  refine iteF ?_
  obtain ⟨b1, ys, es, rfl, rfl, hs1, ha1⟩ := y1 rfl
  refine ⟨_, rfl, b1, ys, rfl, .inr hs1, rfl, _, rfl, ?_⟩
  have hl1 := TgAll.length ha1
  by_cases c2 : ys.length = 2
  ·rw [show (!decide (V.int (ys.length : Nat) = V.int 2)) = false by rw [c2]; rfl]
   refine iteF ?_
   cases ha1 with
   | nil => simp at c2
   | cons t1 ta =>
    cases ta with
    | nil => simp at c2
    | cons t2 ta =>
     cases ta with
     | cons t3 ta => simp at c2
     | nil =>
      rename_i v1 d1 v2 d2
      have q1 : d1.depth < PyData.depth (.tuple [d1, d2]) := by simp only [PyData.depth, PyData.depthAll]; omega
      have q2 : wide d1 <= wide (.tuple [d1, d2]) := by simp only [wide, wides]; omega
      refine ⟨_, rfl, b1, _, _, _, rfl, rfl, hs1, atI_nat (j := 0) rfl, v1, d1, rfl, t1, by omega, by omega, by omega, fun H3 h3' => ?_⟩
      refine ⟨_, rfl, ?_⟩
      cases e1 : treeD d1 with
      | false => exact iteT (iteT (no (by simp [grP, grP2, e1]) _ h3'))
      | true =>
       refine iteF ?_
       refine ⟨_, rfl, b1, _, _, _, rfl, rfl, h3'.sqT hs1, atI_nat (j := 1) rfl, v2, strip d2, rfl, (Tg_sb h3' t2).th, _, rfl, ?_⟩
       rw [many_strip]
       have e : grP (.tuple [d1, d2]) = manyD d2 := by simp [grP, grP2, ladP3, e1]
       cases e2 : manyD d2 with
       | false => exact iteT (no (by rw [e, e2]) _ h3')
       | true =>
        refine iteF ⟨h2.trans h3', ⟨_, rfl⟩, ?_⟩
        rw [List.take_add_one, ex, List.all_append, h3]
        simp [e, e2]
  ·rw [show (!decide (V.int (ys.length : Nat) = V.int 2)) = true by rw [decide_eq_false (fun z => by injection z with z; omega)]; rfl]
   refine iteT (no ?_ _ SB.refl)
   cases e : grP (.tuple es) with
   | false => rfl
   | true =>
    obtain ⟨t, i, e2, _⟩ := grP_enc _ e
    injection e2 with e2
    rw [e2] at hl1
    exact absurd hl1 c2
 ·obtain ⟨h2, ⟨o, rfl⟩, h3⟩ := h2
  rw [hl, List.take_length, <- grPs_all] at h3
  have := q H2 h2
  rw [h3] at this
  exact this
abbrev N_together : List Str := ["one", "other"]
theorem sc_together : FnScope N_together ["one", "other"] (defScope s_together) := ⟨rfl, rfl, rfl, by decide +kernel, rfl, by decide +kernel, by decide +kernel⟩
theorem ok_together (B : BI mg) (G_joined : Got P w K mg base "joined" ["pairs"] (1) (spJoinedW K Gr.tEnc)) (F : Fun K "together" "together" s_together f fd) : FnOk P w K mg base CX0 (2) f fd ["one", "other"] (spTogetherF K) := by
 refine F.ok sc_together (fun vs H Q E h => ?_) (fun cdv A outer s H vs Q E hr h => ?_)
 ·obtain ⟨v, u, g, k, rfl, _⟩ := h
  rfl
 obtain ⟨v, u, g, k, rfl, hv, hu, ⟨C, go, ko⟩, gd, kd, gp, kp, q⟩ := h
 have hun2 := hunT hr
 refine ⟨_, pss_one (ps_ret (pe_got G_joined (hr.mono (by omega)) rfl (pa_cons (pe_callB (cr_sortedW Gr.pEnc (by show A.units + 3 + 195 < cLine; omega)) rfl B.sorted (by decide +kernel) (pa_cons (pe_op op_catB (pv 0) (pv 1)) pa_nil)) pa_nil))), ?_⟩
 obtain ⟨a, xs, rfl, hsa, hba⟩ := GA_bears hv
 obtain ⟨b, ys, rfl, hsb, hbb⟩ := GA_bears hu
 have xl := hba.length
 have yl := hbb.length
 have hok : ∀ p ∈ g.ps ++ k.ps, NameOk p.1.1 /\ p.1.2.Ok C /\ p.1.2.deep <= 62 := fun p hp => by
  rcases List.mem_append.mp hp with h | h
  ·have h1 := (Gr.ok_iff.mp go).1 p h
   have h2 := g.mem_deep p h
   exact ⟨h1.1, h1.2.1, by omega⟩
  ·have h1 := (Gr.ok_iff.mp ko).1 p h
   have h2 := k.mem_deep p h
   exact ⟨h1.1, h1.2.1, by omega⟩
 refine ⟨_, rfl, _, rfl, a, b, xs, ys, rfl, rfl, hsa, hsb, by have := small5 (n := xs.length + ys.length) (by omega); omega, fun c H1 s1 hc => ?_⟩
 refine ⟨c, _, g.ps ++ k.ps, rfl, .inr hc, Bears.append (hba.sb s1 Gr.noList_pEnc) (hbb.sb s1 Gr.noList_pEnc), Gr.pEnc_all _, Gr.pEnc_sortable _, by rw [List.length_append]; omega, fun p hp => ?_, fun p zs hp hz => ?_⟩
 ·have := Gr.pEnc_depth p
  have := (hok p hp).2.2
  omega
 have s2 := SB.new (ps := []) hp (.lst zs)
 refine ⟨p, zs, srtE Gr.pEnc (g.ps ++ k.ps), rfl, SqL.of upd_same, hz.sb s2 Gr.noList_pEnc, ?_, fun b hb => ?_, fun c2 ws H3 s3 hc2 hb3 => ?_⟩
 ·rw [(srtE_perm _).length_eq, List.length_append]; omega
 ·obtain ⟨h1, h2, h3⟩ := hok b ((srtE_perm _).mem_iff.mp hb)
  exact Gr.wd_t h1 h2 (by omega)
 ·exact q _ _ ((s1.trans s2).trans s3) (Bears_ga hc2 hb3)
abbrev N_without : List Str := ["grove", "tree", "many", "left", "other", "count"]
theorem sc_without : FnScope N_without ["grove", "tree", "many"] (defScope s_without) := ⟨rfl, rfl, rfl, by decide +kernel, rfl, by decide +kernel, by decide +kernel⟩
theorem ok_without (B : BI mg) (F : Fun K "without" "without" s_without f fd) : FnOk P w K mg base CX0 (1) f fd ["grove", "tree", "many"] (spWithout K) := by
 refine F.ok sc_without (fun vs H Q E h => ?_) (fun cdv A outer s H vs Q E hr h => ?_)
 ·obtain ⟨v, u, g, t, m, rfl, _⟩ := h
  rfl
 obtain ⟨v, u, g, t, m, rfl, hv, hu, ⟨C, go, to⟩, tn, gd, td, gl, q⟩ := h
 have hun2 := hunT hr
 refine ⟨_, pss_cons (ps_set (i := 3) sc_without.nd rfl (.inl rfl) (pe_lst pa_nil))
  (pss_cons (ps_for PassesOwn.never rfl (pi_tup (pv 0)) (pg_tup rfl (pgs_cons (pg_name (i := 4) sc_without.nd rfl (.inl rfl)) (pgs_cons (pg_name (i := 5) sc_without.nd rfl (.inl rfl)) pgs_nil)))
   (pss_one (ps_if (pt_cmpR (op_neW (by show A.units + 3 + 195 < cLine; omega)) (pv 4) (pv 1) (nomark _)) (pss_one (ps_expr (pe_bm PySem.F.plainAttrs_list PySem.F.slot_list_append PySem.F.type_list_append mt_append (pv 3) (pa_cons (pe_tup (pa_cons (pv 4) (pa_cons (pv 5) pa_nil))) pa_nil)))) (pss_one (ps_if (pt_cmpR op_gt (pv 5) (pv 2) (nomark _)) (pss_one (ps_expr (pe_bm PySem.F.plainAttrs_list PySem.F.slot_list_append PySem.F.type_list_append mt_append (pv 3) (pa_cons (pe_tup (pa_cons (pv 4) (pa_cons (pe_op op_sub (pv 5) (pv 2)) pa_nil))) pa_nil)))) pss_nil)))))
  (pss_one (ps_ret (pe_callTy call_tuple_of rfl B.tuple boot_tuple (pa_cons (pv 3) pa_nil))))), ?_⟩
 have szl := sizeLine_eq
 obtain ⟨a, xs, rfl, hs, hb⟩ := GA_bears hv
 have xl := hb.length
 refine ⟨by show 0 <= sizeLine; decide, fun D nD => ?_⟩
 have t1 := SB.new (ps := []) nD (.lst [])
 have hD1 : upd H D (.lst []) D = some (.lst []) := upd_same
 generalize upd H D (.lst []) = H1 at t1 hD1
 refine ⟨_, rfl, a, rfl, ⟨xs, t1.sqT hs⟩, ?_⟩
 refine for_it (walk_tup (xs := xs)) (fun i σ H2 => ∃ (us : List V) (o4 o5 : Option V), σ = [some (.ref a), some u, some (.int m), some (.ref D), o4, o5] /\ SB [D] H1 H2 /\ H2 D = some (.lst us) /\ Bears K H2 Gr.pEnc us (Gr.woL t m (g.ps.take i)) /\ us.length <= i)
  ⟨[], none, none, rfl, SB.refl, hD1, .nil, Nat.le_refl _⟩ (fun i σ H2 hi h2 => by obtain ⟨_, _, _, _, s, _⟩ := h2; exact s.sqT (t1.sqT hs)) (fun i x σ H2 H' hi h2 y => ?_) (fun σ H2 h2 => ?_)
 ·obtain ⟨us, o4, o5, rfl, s2, hD2, hb2, ul⟩ := h2
  obtain ⟨rfl, ey⟩ := y
  obtain ⟨p, ep, hpd⟩ := hb.get ey
  have pm := List.mem_of_getElem? ep
  obtain ⟨n1, o1, _, _⟩ := Gr.ok_mem go pm
  have pd := g.mem_deep p pm
  have s02 : SB [] H H' := ((t1.nil (ps := [D])).trans s2).drop nD
  obtain ⟨ad, bd, ux, rfl, h1, h2, h3, h4⟩ := PA_parts hpd
  have h4' := Dp_sb s02 _ _ (Gr.noList_tEnc _) h4
  have hst : Gr.woL t m (g.ps.take (i + 1)) = Gr.woL t m (g.ps.take i) ++ Gr.woL t m [p] := by rw [List.take_add_one, ep, Gr.woL_append]; rfl
  refine ⟨ad, _, rfl, s02.sqT h1, rfl, _, _, rfl, _, _, rfl, rfl, ?_⟩
  refine ⟨_, rfl, _, rfl, Gr.tEnc p.1, Gr.tEnc t, h4', Dp_sb s02 _ _ (Gr.noList_tEnc _) hu, Gr.wd_t n1 o1 (by omega), Gr.wd_t tn to td, _, rfl, ?_⟩
  rw [Gr.t_eqv]
  -- what is put behind
  have app : ∀ c : Int, Gr.woL t m [p] = [(p.1, c)] -> ∀ (T : Addr), H' T = none -> ∃ us' o4' o5', [some (V.ref a), some u, some (.int m), some (.ref D), some (.ref bd), some (.int p.2)] = [some (.ref a), some u, some (.int m), some (.ref D), o4', o5'] /\ SB [D] H1 (upd (upd H' T (.tup [.ref bd, .int c])) D (.lst (us ++ [.ref T]))) /\ upd (upd H' T (.tup [.ref bd, .int c])) D (.lst (us ++ [.ref T])) D = some (.lst us') /\ Bears K (upd (upd H' T (.tup [.ref bd, .int c])) D (.lst (us ++ [.ref T]))) Gr.pEnc us' (Gr.woL t m (g.ps.take (i + 1))) /\ us'.length <= i + 1 := fun c e T nT => by
   have t3 := SB.new (ps := [D]) nT (.tup [.ref bd, .int c])
   have hD3 : upd H' T (.tup [.ref bd, .int c]) D = some (.lst us) := by rw [upd_ne (ne_of_none hD2 nT)]; exact hD2
   have t4 := SB.set (ps := [D]) hD3 (by simp) (.lst (us ++ [.ref T]))
   refine ⟨us ++ [.ref T], _, _, rfl, (s2.trans t3).trans t4, upd_same, ?_, by rw [List.length_append]; show us.length + 1 <= _; omega⟩
   rw [hst, e]
   exact ((hb2.sb t3 Gr.noList_pEnc).sb t4 Gr.noList_pEnc).append (.cons (pair_mk (t4.sqT (SqT.of upd_same)) (Dp_sb (t3.trans t4) _ _ (Gr.noList_tEnc _) h4')) .nil)
  by_cases hz : p.1 = t
  ·rw [show (!decide (p.1 = t)) = false by simp [hz]]
   refine iteF ⟨_, rfl, _, rfl, _, _, rfl, rfl, _, rfl, ?_⟩
   by_cases hm : m < p.2
   ·rw [decide_eq_true hm]
    refine iteT ⟨_, rfl, .inl ⟨rfl, _, SqL.of hD2⟩, _, rfl, _, rfl, _, rfl, _, _, rfl, rfl, by show 2 <= sizeLine; decide, fun T nT => ?_⟩
    have hD3 : upd H' T (.tup [.ref bd, .int (p.2 - m)]) D = some (.lst us) := by rw [upd_ne (ne_of_none hD2 nT)]; exact hD2
    exact ⟨D, _, _, rfl, rfl, hD3, by omega, app (p.2 - m) (by rw [Gr.woL, if_neg (by simpa using hz), if_pos hm]; rfl) T nT⟩
   ·rw [decide_eq_false hm]
    refine iteF ⟨us, _, _, rfl, s2, hD2, ?_, by omega⟩
    rw [hst, show Gr.woL t m [p] = [] by rw [Gr.woL, if_neg (by simpa using hz), if_neg hm]; rfl, List.append_nil]
    exact hb2
  ·rw [show (!decide (p.1 = t)) = true by simp [hz]]
   refine iteT ⟨_, rfl, .inl ⟨rfl, _, SqL.of hD2⟩, _, rfl, _, rfl, by show 2 <= sizeLine; decide, fun T nT => ?_⟩
   have hD3 : upd H' T (.tup [.ref bd, .int p.2]) D = some (.lst us) := by rw [upd_ne (ne_of_none hD2 nT)]; exact hD2
   exact ⟨D, _, _, rfl, rfl, hD3, by omega, app p.2 (by rw [Gr.woL, if_pos hz]; rfl) T nT⟩
 ·obtain ⟨us, o4, o5, rfl, s2, hD2, hb2, ul⟩ := h2
  rw [xl, List.take_length] at hb2
  refine ⟨_, rfl, D, us, rfl, .inl ⟨SqL.of hD2, fun T nT => ?_⟩⟩
  have t3 := SB.new (ps := []) nT (.tup us)
  have s02 : SB [] H H2 := ((t1.nil (ps := [D])).trans s2).drop nD
  exact q _ _ (s02.trans t3) (Bears_ga (SqT.of upd_same) (hb2.sb t3 Gr.noList_pEnc))
abbrev N_times : List Str := ["grove", "many", "tree", "count"]
theorem sc_times : FnScope N_times ["grove", "many"] (defScope s_times) := ⟨rfl, rfl, rfl, by decide +kernel, rfl, by decide +kernel, by decide +kernel⟩
theorem ok_times (B : BI mg) (F : Fun K "times" "times" s_times f fd) : FnOk P w K mg base CX0 (1) f fd ["grove", "many"] (spTimes K) := by
 refine F.ok sc_times (fun vs H Q E h => ?_) (fun cdv A outer s H vs Q E hr h => ?_)
 ·obtain ⟨v, g, m, rfl, _⟩ := h
  rfl
 obtain ⟨v, g, m, rfl, hv, gl, hp, m0, mb, q⟩ := h
 have hun2 := hunT hr
 refine ⟨_, pss_cons (ps_if (pt_cmpR op_eq (pv 1) pe_int (nomark _)) (pss_one (ps_ret (pe_tup pa_nil))) pss_nil)
  (pss_one (ps_ret (pe_callTy call_tuple_of rfl B.tuple boot_tuple (pa_cons (pe_lc (own := [("tree", 2), ("count", 3)]) (g := (gTup K 2 (gCons (gName 2) (gCons (gName 3) gNil)))) (tt := tYes) (te := (tTup (tCons (tVar 2) (tCons (tOp (rI CMulW fun i j => .int (i * j)) (tVar 3) (tVar 1)) tNil)))) rfl sc_times.nd (pi_tup (pv 0)) (blkOk_by (N := N_times) (sc := defScope s_times) (by decide +kernel)) (fun _ _ _ _ _ => (pg_tup rfl (pgs_cons (pg_name (i := 2) sc_times.nd rfl (.inl rfl)) (pgs_cons (pg_name (i := 3) sc_times.nd rfl (.inl rfl)) pgs_nil)))) (fun _ _ _ _ _ => pts_nil) (fun _ _ _ _ _ => (pe_tup (pa_cons (pv 2) (pa_cons (pe_op op_mulW (pv 3) (pv 1)) pa_nil))))) pa_nil)))), ?_⟩
 have szl := sizeLine_eq
 obtain ⟨a, xs, rfl, hs, hb⟩ := GA_bears hv
 have xl := hb.length
 refine ⟨_, rfl, rfl, _, rfl, ?_⟩
 by_cases z : m = 0
 ·subst z
  refine iteT ⟨by show 0 <= sizeLine; decide, fun T nT => ?_⟩
  exact q _ _ (SB.new (ps := []) nT _) (GA_nil (SqT.of upd_same))
 rw [show decide (V.int m = V.int 0) = false by simp [z]]
 refine iteF ⟨_, rfl, a, rfl, ⟨xs, hs⟩, fun D nD => ?_⟩
 refine lc_seqQ (walk_tup (xs := xs)) [] nD (by simp) (by omega) (fun i us H2 => Bears K H2 Gr.pEnc us (Gr.tmsL m (g.ps.take i))) .nil (fun H2 s2 => s2.sqT hs) (fun i us H2 H3 s3 h => h.sb s3 Gr.noList_pEnc) (fun Pv i x Hq H2 us hi s2 y hR hu hD2 fin _ => ?_) (fun us H2 s2 hD2 hR hul => ?_)
 ·obtain ⟨rfl, ey⟩ := y
  obtain ⟨p, ep, hpd⟩ := hb.get ey
  obtain ⟨p0, p1⟩ := hp p (List.mem_of_getElem? ep)
  obtain ⟨ad, bd, ux, rfl, h1, h2, h3, h4⟩ := PA_parts hpd
  refine ⟨ad, _, rfl, s2.sqT h1, rfl, _, _, rfl, _, _, rfl, rfl, rfl, ?_⟩
  refine ⟨_, rfl, _, rfl, _, rfl, _, _, rfl, rfl, ?_, by show 2 <= sizeLine; decide, fun T nT => ?_⟩
  ·have e1 := log_lt (x := p.2) (a := 2000) (b := 2000) (Gr.natAbs_lt p0 p1) (Nat.le_refl _) (by decide)
   have e2 := log_lt (x := m) (a := 2000) (b := 2000) (Gr.natAbs_lt m0 mb) (Nat.le_refl _) (by decide)
   unfold CMulW
   omega
  have t3 := SB.new (ps := []) nT (.tup [.ref bd, .int (p.2 * m)])
  refine fin _ _ t3 ?_
  have hst : Gr.tmsL m (g.ps.take (i + 1)) = Gr.tmsL m (g.ps.take i) ++ [(p.1, p.2 * m)] := by rw [List.take_add_one, ep, Gr.tmsL, Gr.tmsL, List.map_append]; rfl
  rw [hst]
  exact (hR.sb t3 Gr.noList_pEnc).append (.cons (pair_mk (SqT.of upd_same) (Dp_sb (s2.trans t3) _ _ (Gr.noList_tEnc _) h4)) .nil)
 ·rw [xl, List.take_length] at hR
  refine ⟨D, us, rfl, .inl ⟨SqL.of hD2, fun T nT => ?_⟩⟩
  have t3 := SB.new (ps := []) nT (.tup us)
  refine q _ _ (s2.trans t3) ?_
  rw [Gr.tmsG, if_neg z]
  exact Bears_ga (SqT.of upd_same) (hR.sb t3 Gr.noList_pEnc)
theorem sc_pairs_within : FnScope ["grove", "found", "pair"] ["grove"] (defScope s_pairs_within) := ⟨rfl, rfl, rfl, by decide +kernel, rfl, by decide +kernel, by decide +kernel⟩
theorem ok_pairs_within {n : Nat} (G : Got P w K mg base "pairs_within" ["grove"] n (spPairsW K n)) (F : Fun K "pairs_within" "pairs_within" s_pairs_within f fd) : FnOk P w K mg base CX0 (n + 1) f fd ["grove"] (spPairsW K (n + 1)) := by
 refine F.ok sc_pairs_within (fun vs H Q E h => ?_) (fun cdv A outer s H vs Q E hr h => ?_)
 ·obtain ⟨v, g, rfl, _⟩ := h
  rfl
 obtain ⟨v, g, rfl, hg, hd, hp, q⟩ := h
 refine ⟨_, pss_cons (ps_set (i := 1) sc_pairs_within.nd rfl (.inl rfl) (pe_lst pa_nil))
  (pss_cons (ps_for PassesOwn.never rfl (pi_tup (pv 0)) (pg_name (i := 2) sc_pairs_within.nd rfl (.inl rfl))
   (pss_cons (ps_expr (pe_bm PySem.F.plainAttrs_list PySem.F.slot_list_append PySem.F.type_list_append mt_append (pv 1) (pa_cons (pv 2) pa_nil)))
   (pss_one (ps_expr (pe_bm PySem.F.plainAttrs_list PySem.F.slot_list_extend PySem.F.type_list_extend mt_extend (pv 1) (pa_cons (pe_got G hr rfl (pa_cons (pe_ix ix_tup (pe_ix ix_tup (pv 2) pe_int (fun _ _ => rfl)) pe_int (fun _ _ => rfl)) pa_nil)) pa_nil))))))
  (pss_one (ps_ret (pv 1)))), ?_⟩
 obtain ⟨a, xs, rfl, hs, hb⟩ := GA_bears hg
 have bl := hb.length
 have wl := g.within_length
 refine ⟨(by show 0 <= sizeLine; decide), fun D hD => ?_⟩
 refine ⟨_, rfl, a, rfl, ⟨xs, (SB.new (ps := []) hD _).sqT hs⟩, ?_⟩
 refine for_it (walk_tup (xs := xs)) (fun i σ H2 => SB [D] H H2 /\ ∃ us o2, σ = [some (.ref a), some (.ref D), o2] /\ H2 D = some (.lst us) /\ Bears K H2 Gr.pEnc us ((g.ps.take i).flatMap fun p => p :: p.1.2.within)) ⟨SB.new hD _, [], none, rfl, upd_same, .nil⟩ (fun i σ H2 hi h2 => (h2.1.drop hD).sqT hs) (fun i x σ H2 H' hi h2 y => ?_) (fun σ H2 h2 => ?_)
 ·obtain ⟨s2, us, o2, rfl, hD2, hb2⟩ := h2
  obtain ⟨rfl, ex⟩ := y
  obtain ⟨p, ep, hpd⟩ := hb.get ex
  have pm := List.mem_of_getElem? ep
  obtain ⟨ad, td, ux, rfl, hs2, hs3, hga, _⟩ := PA_parts hpd
  have s2' := s2.drop hD
  have ul := hb2.length
  have hsplit : (g.ps.take (i + 1)).flatMap (fun p => p :: p.1.2.within) = (g.ps.take i).flatMap (fun p => p :: p.1.2.within) ++ (p :: p.1.2.within) := by rw [List.take_add_one, ep]; simp
  have hle : ((g.ps.take i).flatMap (fun p => p :: p.1.2.within)).length + (p.1.2.within.length + 1) <= 200000 := by
   have h1 : g.within = (g.ps.take (i + 1)).flatMap (fun p => p :: p.1.2.within) ++ (g.ps.drop (i + 1)).flatMap (fun p => p :: p.1.2.within) := by rw [Gr.within_ps, <- List.flatMap_append, List.take_append_drop]
   have h2 := congrArg List.length h1
   rw [hsplit, List.length_append, List.length_append, List.length_cons, wl] at h2
   omega
  refine ⟨_, rfl, .inl ⟨rfl, _, SqL.of hD2⟩, _, rfl, D, us, _, rfl, rfl, hD2, small5 (by omega), ?_⟩
  have t3 := SB.set (ps := [D]) hD2 (by simp) (.lst (us ++ [.ref ad]))
  have hD3 : (upd H' D (.lst (us ++ [.ref ad]))) D = some (.lst (us ++ [.ref ad])) := upd_same
  have hb3 := Bears.append (hb2.sb t3 Gr.noList_pEnc) (.cons (Dp_sb (s2.trans t3) _ _ (Gr.noList_pEnc _) hpd) .nil)
  have s3 := s2.trans t3
  have s3' := s3.drop hD
  generalize hH3 : upd H' D (.lst (us ++ [.ref ad])) = H3 at t3 hD3 hb3 s3 s3'
  have pd := g.mem_deep p pm
  have pp := g.mem_parts p pm
  refine ⟨_, rfl, .inl ⟨rfl, _, SqL.of hD3⟩, _, rfl, ad, _, _, _, rfl, rfl, s3'.sqT hs2, atI_nat (j := 0) rfl, td, _, _, _, rfl, rfl, s3'.sqT hs3, atI_nat (j := 1) rfl, ux, p.1.2, rfl, hga.sb s3', by omega, by omega, fun D2 vs2 H4 s4 hDn hD4 hb4 => ?_⟩
  have hD4' := s4.keep _ _ hD3 nmn
  have vl := hb4.length
  refine ⟨D, D2, _, _, rfl, rfl, hD4', hD4, ?_, ?_⟩
  ·rw [List.length_append, List.length_singleton]
   have : 1000000 <= sizeLine := by decide
   omega
  have t5 := SB.set (ps := [D]) hD4' (by simp) (.lst (us ++ [.ref ad] ++ vs2))
  refine ⟨(s3.trans s4.nil).trans t5, _, _, rfl, upd_same, ?_⟩
  rw [hsplit, show ((g.ps.take i).flatMap (fun p => p :: p.1.2.within) ++ (p :: p.1.2.within)) = (g.ps.take i).flatMap (fun p => p :: p.1.2.within) ++ [p] ++ p.1.2.within by simp]
  exact Bears.append ((hb3.sb s4 Gr.noList_pEnc).sb t5 Gr.noList_pEnc) (hb4.sb t5 Gr.noList_pEnc)
 ·obtain ⟨s2, us, o2, rfl, hD2, hb2⟩ := h2
  rw [bl, List.take_length, <- Gr.within_ps] at hb2
  exact ⟨_, rfl, q D us H2 (s2.drop hD) hD hD2 hb2⟩
abbrev N_kinds_within : List Str := ["grove", "tree", "many"]
theorem sc_kinds_within : FnScope N_kinds_within ["grove"] (defScope s_kinds_within) := ⟨rfl, rfl, rfl, by decide +kernel, rfl, by decide +kernel, by decide +kernel⟩
theorem ok_kinds_within (B : BI mg) (G_pairs_within : Got P w K mg base "pairs_within" ["grove"] (70) (spPairsW K 70)) (F : Fun K "kinds_within" "kinds_within" s_kinds_within f fd) : FnOk P w K mg base CX0 (71) f fd ["grove"] (spKindsF K) := by
 refine F.ok sc_kinds_within (fun vs H Q E h => ?_) (fun cdv A outer s H vs Q E hr h => ?_)
 ·obtain ⟨v, g, ns, rfl, _⟩ := h
  rfl
 obtain ⟨v, g, ns, rfl, hv, hd, hp, hk, hn, q⟩ := h
 have hun2 := hunT hr
 refine ⟨_, pss_one (ps_ret (pe_callB (cr_sortedTx rfl) rfl B.sorted (by decide +kernel) (pa_cons (pe_scS (own := [("tree", 1), ("many", 2)]) (g := (gTup K 2 (gCons (gName 1) (gCons (gName 2) gNil)))) (tt := tYes) (te := (tOp (rIxT K) (tVar 1) (tC (.int 0)))) rfl sc_kinds_within.nd (pi_list (pe_got G_pairs_within (hr.mono (by omega)) rfl (pa_cons (pv 0) pa_nil))) (blkOk_by (N := N_kinds_within) (sc := defScope s_kinds_within) (by decide +kernel)) (fun _ _ _ _ _ => (pg_tup rfl (pgs_cons (pg_name (i := 1) sc_kinds_within.nd rfl (.inl rfl)) (pgs_cons (pg_name (i := 2) sc_kinds_within.nd rfl (.inl rfl)) pgs_nil)))) (fun _ _ _ _ _ => pts_nil) (fun _ _ _ _ _ => (pe_ix ix_tup (pv 1) pe_int (fun _ _ => rfl)))) pa_nil))), ?_⟩
 have scb : 3001 < scanBound := by decide +kernel
 have wl := g.within_length
 refine ⟨_, rfl, v, g, rfl, hv, by omega, by omega, fun ll us H1 s1 nll hll hbl => ?_⟩
 have ul := hbl.length
 refine ⟨ll, rfl, ⟨_, SqL.of hll⟩, fun D nD => ?_⟩
 refine sc_seq (walk_list (xs := us)) nD (by omega) (fun i ss H2 => ss.Nodup /\ ∀ x, x ∈ ss ↔ x ∈ (g.within.take i).map fun p : Tr × Int => p.1.1) ⟨List.nodup_nil, by simp⟩ (fun H2 s2 => s2.sqL nmn (SqL.of hll)) (fun _ _ _ _ _ h => h) (fun Pv i x Hq H2 ss hi s2 y hR hl fin _ => ?_) (fun ss H2 s2 hD2 hR hl => ?_)
 ·obtain ⟨rfl, ey⟩ := y
  obtain ⟨p, ep, hpd⟩ := hbl.get ey
  obtain ⟨ad, td, ux, rfl, hs2, hs3, hga, _⟩ := PA_parts hpd
  refine ⟨ad, _, rfl, s2.sqT hs2, rfl, _, _, rfl, _, _, rfl, rfl, rfl, ?_⟩
  refine ⟨_, rfl, td, _, _, _, rfl, rfl, s2.sqT hs3, atI_nat (j := 0) rfl, fin p.1.1 _ SB.refl ⟨insS_nodup hR.1, fun x => ?_⟩⟩
  rw [insS_mem, hR.2, List.take_add_one, ep, List.map_append, List.mem_append]
  simp [or_comm]
 ·rw [ul, List.take_length] at hR
  have sl : ss.length <= 60 := by
   have := hR.1.length_le_of_subset (l₂ := ns) fun x hx => by
    obtain ⟨p, hp, e⟩ := List.mem_map.mp ((hR.2 x).mp hx)
    rw [<- e]; exact hk p hp
   omega
  refine ⟨D, ss, rfl, hD2, by omega, fun ss' p pm srt np => ?_⟩
  have t3 := SB.new (ps := []) np (.lst (ss'.map V.str))
  exact q p ss' _ ((s1.trans s2).trans t3) ((s1.trans s2).dom _ np) upd_same (.perm pm srt hR.1 hR.2) (by rw [pm.length_eq]; omega)
theorem sc_parts_of : FnScope ["grove"] ["grove"] (defScope s_parts_of) := ⟨rfl, rfl, rfl, by decide +kernel, rfl, by decide +kernel, by decide +kernel⟩
theorem ok_parts_of {n : Nat} (B : BI mg) (G : Got P w K mg base "pairs_within" ["grove"] n (spPairsW K n)) (F : Fun K "parts_of" "parts_of" s_parts_of f fd) : FnOk P w K mg base CX0 (n + 1) f fd ["grove"] (spPartsOf K n) := by
 refine F.ok sc_parts_of (fun vs H Q E h => ?_) (fun cdv A outer s H vs Q E hr h => ?_)
 ·obtain ⟨v, g, rfl, _⟩ := h
  rfl
 obtain ⟨v, g, rfl, hg, hd, hp, q⟩ := h
 refine ⟨_, pss_one (ps_ret (pe_callB call_len_seq rfl B.len PySem.boot_len (pa_cons (pe_got G hr rfl (pa_cons (pv 0) pa_nil)) pa_nil))), ?_⟩
 refine ⟨_, rfl, v, g, rfl, hg, hd, hp, fun D us H2 s2 _ hD hb => ?_⟩
 refine ⟨D, us, rfl, .inl (SqL.of hD), ?_⟩
 rw [hb.length, g.within_length]
 exact q _ s2
abbrev N_deepof : List Str := ["grove", "tree", "many"]
theorem sc_deep_of : FnScope N_deepof ["grove"] (defScope s_deep_of) := ⟨rfl, rfl, rfl, by decide +kernel, rfl, by decide +kernel, by decide +kernel⟩
theorem ok_deep_of {n : Nat} (B : BI mg) (G : Got P w K mg base "deep_of" ["grove"] n (spDeepOf K n)) (F : Fun K "deep_of" "deep_of" s_deep_of f fd) : FnOk P w K mg base CX0 (n + 1) f fd ["grove"] (spDeepOf K (n + 1)) := by
 refine F.ok sc_deep_of (fun vs H Q E h => ?_) (fun cdv A outer s H vs Q E hr h => ?_)
 ·obtain ⟨v, g, rfl, _⟩ := h
  rfl
 obtain ⟨v, g, rfl, hg, hd, hp, q⟩ := h
 refine ⟨_, pss_cons (ps_if (pt_not (pt_truth (pv 0) (by intro _; rfl))) (pss_one (ps_ret pe_int)) pss_nil) (pss_one (ps_ret (pe_op op_add pe_int (pe_callB (cr_max rfl) rfl B.max boot_max (pa_cons
  (pe_lc (own := [("tree", 1), ("many", 2)]) (g := gPair K) (tt := tYes) (te := (tCall (spDeepOf K n) [] E0 (tCons (tOp (rIxT K) (tVar 1) (tC (.int 1))) tNil))) rfl sc_deep_of.nd
   (pi_tup (pv 0))
   (blkOk_by (N := N_deepof) (sc := defScope s_deep_of) (by decide +kernel))
   (fun _ _ _ _ _ => pg_tup rfl (pgs_cons (pg_name (i := 1) sc_deep_of.nd rfl (.inl rfl)) (pgs_cons (pg_name (i := 2) sc_deep_of.nd rfl (.inl rfl)) pgs_nil)))
   (fun _ _ _ _ _ => pts_nil)
   (fun _ _ _ _ _ => (pe_got G hr rfl (pa_cons (pe_ix ix_tup (pv 1) pe_int (fun _ _ => rfl)) pa_nil)))) pa_nil))))), ?_⟩
 obtain ⟨a, xs, rfl, hs, hb⟩ := GA_bears hg
 have bl := hb.length
 refine ⟨_, rfl, _, .inr (.inl ⟨xs, hs, rfl⟩), ?_⟩
 cases ex : xs with
 | nil =>
  refine iteT ?_
  have e0 : g.deep = 0 := by
   cases g with
   | nil => rfl
   | cons k g m r => rw [ex] at bl; simp [Gr.ps] at bl
  have := q H SB.refl
  rw [e0] at this
  exact this
 | cons x0 xr =>
 refine iteF ?_
 refine ⟨_, rfl, a, rfl, ⟨xs, hs⟩, fun D hD => ?_⟩
 have hz := g.len_parts
 refine lc_it (walk_tup (xs := xs)) (fun i H2 => SB [D] H H2 /\ H2 D = some (.lst (((g.ps.take i).map fun p => (p.1.2.deep : Int)).map V.int))) ⟨SB.new hD _, upd_same⟩ (fun i H2 hi h2 => (h2.1.drop hD).sqT hs) (fun i x H2 H' hi h2 y => ?_) (fun H2 h2 => ?_)
 ·obtain ⟨h2, h3⟩ := h2
  obtain ⟨rfl, ex⟩ := y
  obtain ⟨p, ep, hpd⟩ := hb.get ex
  have pm := List.mem_of_getElem? ep
  obtain ⟨ad, td, ux, rfl, hs2, hs3, hga, _⟩ := PA_parts hpd
  have h4 := h2.drop hD
  have m1 := g.mem_deep p pm
  have m2 := g.mem_parts p pm
  refine ⟨ad, _, rfl, h4.sqT hs2, rfl, _, _, rfl, _, _, rfl, rfl, rfl, ?_⟩
  refine ⟨_, rfl, td, _, _, _, rfl, rfl, h4.sqT hs3, atI_nat (j := 1) rfl, ux, p.1.2, rfl, hga.sb h4, by omega, by omega, fun H5 h5 => ?_⟩
  have h6 := h5.keep _ _ h3 nmn
  refine ⟨_, h6, ?_, ?_⟩
  ·rw [List.length_map, List.length_map, List.length_take]
   exact small5 (by omega)
  ·refine ⟨(h2.trans h5.nil).trans (SB.set h6 (by simp) _), ?_⟩
   rw [upd_same, List.take_add_one, ep]
   simp
 ·obtain ⟨h2, h3⟩ := h2
  rw [bl, List.take_length] at h3
  refine ⟨D, _, rfl, SqL.of h3, ?_, fun m hm hy => ?_⟩
  ·rw [List.length_map, <- bl, ex]; simp
  refine ⟨_, _, rfl, rfl, ?_⟩
  show Q (.int (1 + m)) H2
  rw [Gr.deep_max g m hm hy]
  exact q _ (h2.drop hD)
abbrev N_rules_from_nought : List Str := ["book", "name"]
theorem sc_rules_from_nought : FnScope N_rules_from_nought ["book", "name"] (defScope s_rules_from_nought) := ⟨rfl, rfl, rfl, by decide +kernel, rfl, by decide +kernel, by decide +kernel⟩
theorem ok_rules_from_nought {C_NO_GROVES C_Book C_NoKind : Addr} (B : BI mg) (V_NO_GROVES : mg "NO_GROVES" = some (.ref C_NO_GROVES)) (W_NO_GROVES : ∀ H, Dp K H (.ref C_NO_GROVES) (Ru.enc (.nil, .nil))) (G_Book_rules : GotMXN P w K mg base C_Book "rules" ["self", "name"] (4) (spBRules K C_Book C_NoKind)) (F : Fun K "rules_from_nought" "rules_from_nought" s_rules_from_nought f fd) : FnOk P w K mg base (L2N.CX P w) (5) f fd ["book", "name"] (spRulesN K C_Book C_NoKind) := by
 refine F.okXN sc_rules_from_nought (fun vs H Q E h => ?_) (fun cdv A outer s H vs Q E hr h => ?_)
 ·obtain ⟨v, b, n, rfl, _⟩ := h
  rfl
 obtain ⟨v, b, n, rfl, hb, hl, hr4, qk, qE⟩ := h
 have hun2 := hunT hr
 refine ⟨_, pss_one (ps_ret (pe_op op_cat (pe_lst (pa_cons (pe_glob (v := .ref C_NO_GROVES) rfl V_NO_GROVES rfl) pa_nil)) (pe_gotMSN G_Book_rules (hr.mono (by omega)) (L2N.takes_of rfl rfl rfl rfl) (pv 0) (pa_cons (pv 1) pa_nil)))), ?_⟩
 have szl := sizeLine_eq
 obtain ⟨va, vdx, vd1, vd2, rfl, hva⟩ := hb.at
 refine ⟨by show 1 <= sizeLine; decide, fun L hL => ?_⟩
 have t1 := SB.new (ps := []) hL (.lst [.ref C_NO_GROVES])
 have hL1 : upd H L (.lst [.ref C_NO_GROVES]) L = some (.lst [.ref C_NO_GROVES]) := upd_same
 generalize upd H L (.lst [.ref C_NO_GROVES]) = H1 at t1 hL1
 refine ⟨_, rfl, va, vdx, _, rfl, t1.keep _ _ hva nmn, rfl, _, rfl, _, b, n, rfl, hb.sb0 t1, hl, hr4, fun k eg ll us H2 s2 nll hll hbl => ?_, fun z d H' s' nd hd => qE z d H' (t1.trans s') (t1.dom d nd) hd⟩
 have k4 := hr4 k (Bk.get_some eg).1
 have ul := hbl.length
 refine ⟨L, ll, _, _, rfl, rfl, s2.keep _ _ hL1 nmn, hll, by show 1 + _ <= sizeLine; omega, fun M hM => ?_⟩
 have t3 := SB.new (ps := []) hM (.lst ([.ref C_NO_GROVES] ++ us))
 have s3 := t1.trans s2
 exact qk k eg M _ _ (s3.trans t3) (s3.dom _ hM) upd_same (.cons (W_NO_GROVES _) (hbl.sb t3 Ru.noList_enc))
abbrev N_check_kind : List Str := ["book", "name"]
theorem sc_check_kind : FnScope N_check_kind ["book", "name"] (defScope s_check_kind) := ⟨rfl, rfl, rfl, by decide +kernel, rfl, by decide +kernel, by decide +kernel⟩
theorem ok_check_kind {C_NoKind C_Book : Addr} (B : BI mg) (O_NoKind : OwnI P w K mg base "NoKind" C_NoKind 1) (G_Book_names : GotM P w K mg base C_Book "names" ["self"] (1) (spBNames K C_Book)) (F : Fun K "check_kind" "check_kind" s_check_kind f fd) : FnOk P w K mg base (L2N.CX P w) (3) f fd ["book", "name"] (spCheckK K C_Book C_NoKind) := by
 refine F.okXN sc_check_kind (fun vs H Q E h => ?_) (fun cdv A outer s H vs Q E hr h => ?_)
 ·obtain ⟨v, b, n, rfl, _⟩ := h
  rfl
 obtain ⟨v, b, n, rfl, hb, hl, qk, qE⟩ := h
 have hun2 := hunT hr
 refine ⟨_, pss_one (ps_if (pt_cmpR op_notIn_seq (pv 1) (pe_gotM0 G_Book_names (hr.mono (by omega)) (pv 0)) (by rfl)) (pss_one (L2N.ps_raise rfl (L2N.takes_of rfl rfl rfl rfl) (pmk_kindN O_NoKind (hr.mono (by omega)) rfl (pv 1)))) pss_nil), ?_⟩
 obtain ⟨a, dx, d1, d2, rfl, h1⟩ := hb.at
 refine ⟨_, rfl, _, rfl, a, dx, _, rfl, h1, rfl, ?_⟩
 refine ⟨_, b, rfl, hb, hl, fun l H1 s1 hn hl1 => ?_⟩
 refine ⟨l, _, rfl, .inl (SqL.of hl1), rfl, flat_strs _, _, rfl, ?_⟩
 rw [inV_strs, Bk.get_isSome]
 cases e : b.get n with
 | some k => exact qk k e H1 s1
 | none => exact ⟨_, rfl, fun d hd => qE e d _ (s1.trans (SB.new hd _)) (s1.dom d hd) upd_same⟩
abbrev N_check_kinds : List Str := ["book", "grove", "kind"]
theorem sc_check_kinds : FnScope N_check_kinds ["book", "grove"] (defScope s_check_kinds) := ⟨rfl, rfl, rfl, by decide +kernel, rfl, by decide +kernel, by decide +kernel⟩
theorem ok_check_kinds {C_Book C_NoKind : Addr} (B : BI mg) (G_kinds_within : Got P w K mg base "kinds_within" ["grove"] (71) (spKindsF K)) (G_check_kind : GotXN P w K mg base "check_kind" ["book", "name"] (3) (spCheckK K C_Book C_NoKind)) (F : Fun K "check_kinds" "check_kinds" s_check_kinds f fd) : FnOk P w K mg base (L2N.CX P w) (72) f fd ["book", "grove"] (spCheckKX K C_Book C_NoKind) := by
 refine F.okXN sc_check_kinds (fun vs H Q E h => ?_) (fun cdv A outer s H vs Q E hr h => ?_)
 ·obtain ⟨v, w, b, g, ns, rfl, _⟩ := h
  rfl
 obtain ⟨v, w, b, g, ns, rfl, hv, hg, hl, hd, hp, hk, hn, q, qE⟩ := h
 have hun2 := hunT hr
 refine ⟨_, pss_one (ps_for (passes_of rfl) rfl (pi_list (pe_got G_kinds_within (hr.mono (by omega)) rfl (pa_cons (pv 1) pa_nil))) (pg_name (i := 2) sc_check_kinds.nd rfl (.inl rfl))
   (pss_one (ps_expr (pe_gotSN G_check_kind (hr.mono (by omega)) rfl (L2N.takes_of rfl rfl rfl rfl) (pa_cons (pv 0) (pa_cons (pv 2) pa_nil)))))), ?_⟩
 refine ⟨_, rfl, w, g, ns, rfl, hg, hd, hp, hk, hn, fun l ss H1 s1 nl hls so sl => ?_⟩
 refine ⟨l, rfl, ⟨_, SqL.of hls⟩, ?_⟩
 refine for_it (walk_list (xs := ss.map V.str)) (fun i σ H2 => SB [] H1 H2 /\ (∀ m ∈ ss.take i, ¬ (m ∉ b.names)) /\ ∃ o2, σ = [some v, some w, o2]) ⟨SB.refl, by simp, none, rfl⟩ (fun i σ H2 hi h2 => h2.1.sqL nmn (SqL.of hls)) (fun i x σ Hq H2 hi h2 y => ?_) (fun σ H2 h2 => ?_)
 ·obtain ⟨s2, bef, o2, rfl⟩ := h2
  obtain ⟨rfl, ey⟩ := y
  rw [List.getElem?_map] at ey
  obtain ⟨k, ek, rfl⟩ := Option.map_eq_some_iff.mp ey
  have s02 := s1.trans s2
  refine ⟨_, rfl, _, rfl, v, b, k, rfl, hv.sb0 s02, by omega, fun kd e H3 s3 => ⟨s2.trans s3, fun m hm => ?_, _, rfl⟩, fun z d H3 s3 nd hd3 => qE k (.at so ek (fun hm => ?_) bef) d H3 (s02.trans s3) (s02.dom _ nd) hd3⟩
  ·rw [List.take_add_one, ek] at hm
   rcases List.mem_append.mp hm with z | z
   ·exact bef m z
   ·rw [List.mem_singleton.mp z]
    exact fun z => z (List.mem_map.mpr ⟨kd, (Bk.get_some e).1, (Bk.get_some e).2⟩)
  ·obtain ⟨kd, e⟩ := Bk.get_of hm
   rw [e] at z; cases z
 ·obtain ⟨s2, bef, o2, rfl⟩ := h2
  rw [List.length_map, List.take_length] at bef
  exact q (fun x hx => Classical.byContradiction fun z => bef x.1.1 ((so.mem _).mpr (List.mem_map.mpr ⟨x, hx, rfl⟩)) z) _ (s1.trans s2)
abbrev N_are_kinds : List Str := ["things", "thing", "names", "rule"]
theorem sc_are_kinds : FnScope N_are_kinds ["things"] (defScope s_are_kinds) := ⟨rfl, rfl, rfl, by decide +kernel, rfl, by decide +kernel, by decide +kernel⟩
theorem ok_are_kinds (B : BI mg) (L_MOST_KINDS : ∃ t, mg "MOST_KINDS" = some (.int (8) t)) (G_is_kind : Got P w K mg base "is_kind" ["thing"] (86) (spIsKind K)) (G_is_rule_of : Got P w K mg base "is_rule_of" ["rule", "names"] (71) (spIsRuleOf K)) (F : Fun K "are_kinds" "are_kinds" s_are_kinds f fd) : FnOk P w K mg base CX0 (87) f fd ["things"] (spAreKinds K) := by
 refine F.ok sc_are_kinds (fun vs H Q E h => ?_) (fun cdv A outer s H vs Q E hr h => ?_)
 ·obtain ⟨l, xs, ts, rfl, _⟩ := h
  rfl
 obtain ⟨l, xs, ts, rfl, hs, ha, hf, hl, q⟩ := h
 obtain ⟨tk_MOST_KINDS, h_MOST_KINDS⟩ := L_MOST_KINDS
 have hun2 := hunT hr
 refine ⟨_, pss_cons (ps_if (pt_not (pt_chain op_le op_le pe_int (pe_callB call_len_seq rfl B.len PySem.boot_len (pa_cons (pv 0) pa_nil)) (pe_glob (v := .int (8)) rfl h_MOST_KINDS ⟨_, rfl⟩))) (pss_one (ps_ret pe_bl)) pss_nil)
  (pss_cons (ps_for PassesOwn.never rfl (pi_list (pv 0)) (pg_name (i := 1) sc_are_kinds.nd rfl (.inl rfl))
   (pss_one (ps_if (pt_not (pt_val (pe_got G_is_kind (hr.mono (by omega)) rfl (pa_cons (pv 1) pa_nil)))) (pss_one (ps_ret pe_bl)) pss_nil)))
  (pss_cons (ps_set (i := 2) sc_are_kinds.nd rfl (.inr rfl) (pe_lc (own := [("thing", 1)]) (g := (gName 1)) (tt := tYes) (te := (tOp (rIxT K) (tVar 1) (tC (.int 0)))) rfl sc_are_kinds.nd (pi_list (pv 0)) (blkOk_by (N := N_are_kinds) (sc := defScope s_are_kinds) (by decide +kernel)) (fun _ _ _ _ _ => (pg_name (i := 1) sc_are_kinds.nd rfl (.inl rfl))) (fun _ _ _ _ _ => pts_nil) (fun _ _ _ _ _ => (pe_ix ix_tup (pv 1) pe_int (fun _ _ => rfl)))))
  (pss_cons (ps_if (pt_cmpR op_ne (pe_lenSetS rfl B rfl rfl (pv 2)) (pe_callB call_len_seq rfl B.len PySem.boot_len (pa_cons (pv 2) pa_nil)) (nomark _)) (pss_one (ps_ret pe_bl)) pss_nil)
  (pss_one (ps_ret (pe_callB (cr_all rfl) rfl B.all boot_all (pa_cons (pe_lc2 (own := [("thing", 1), ("rule", 3)]) (vs1 := [3]) (wi1 := (iList K (tOp (rIxT K) (tVar 1) (tC (.int 2))))) (g := (gName 1)) (g1 := (gName 3)) (tt := tYes) (tt1 := tYes) (te := (tCall (spIsRuleOf K) [] E0 (tCons (tVar 3) (tCons (tVar 2) tNil)))) rfl sc_are_kinds.nd (pi_list (pv 0)) (blkOk_by (N := N_are_kinds) (sc := defScope s_are_kinds) (by decide +kernel)) (by simp) (fun _ _ _ _ _ => (pg_name (i := 1) sc_are_kinds.nd rfl (.inl rfl))) (fun _ _ _ _ _ => pts_nil) (fun _ _ _ _ _ => (pi_list (pe_ix ix_tup (pv 1) pe_int (fun _ _ => rfl)))) (fun _ _ _ _ _ => (pg_name (i := 3) sc_are_kinds.nd rfl (.inl rfl))) (fun _ _ _ _ _ => pts_nil) (fun _ _ _ _ _ => (pe_got G_is_rule_of (hr.mono (by omega)) rfl (pa_cons (pv 3) (pa_cons (pv 2) pa_nil))))) pa_nil))))))), ?_⟩
 have no : ¬ KTBk ts -> ∀ H', SB [] H H' -> Q (.bl false) H' := fun e H' s' => q false H' s' ⟨(fun z => nomatch z), fun z => absurd z e⟩
 have xlen := ha.length
 have szl := sizeLine_eq
 refine ⟨_, rfl, l, xs, rfl, .inl hs, _, _, rfl, rfl, _, rfl, ?_⟩
 refine ite2 (fun c => ?_) (fun c => ?_)
 ·have c1 := of_decide_eq_true c
  refine ⟨_, _, rfl, rfl, _, rfl, ?_⟩
  cases c8 : decide (((xs.length : Nat) : Int) <= 8) with
  | false =>
   have c2 := of_decide_eq_false c8
   refine iteT (no ?_ _ SB.refl)
   rintro ⟨b, e, ok⟩
   have := ok.len
   rw [e, List.length_map] at xlen
   omega
  | true =>
  refine iteF ?_
  have c2 := of_decide_eq_true c8
  refine ⟨_, rfl, l, rfl, ⟨xs, hs⟩, ?_⟩
  refine for_list (K := K) (a := l) (xs := xs) (fun i σ H2 => SB [] H H2 /\ (∃ o, σ = [some (.ref l), o, none, none]) /\ ∀ t ∈ ts.take i, KTKd t) ⟨SB.refl, ⟨none, rfl⟩, by simp⟩ (fun i σ H2 hi h2 => h2.1.sqL nmn hs) (fun i x σ H2 hx h2 => ?_) (fun σ H2 h2 => ?_)
  ·obtain ⟨h2, ⟨o, rfl⟩, h3⟩ := h2
   obtain ⟨t, et, ht⟩ := ha.get hx
   have mt := List.mem_of_getElem? et
   refine ⟨_, rfl, x, t, rfl, KTA_sb h2 ht, hf t mt, fun b H3 s3 hb => ?_⟩
   refine ⟨_, rfl, ?_⟩
   cases b with
   | false =>
    refine iteT (no ?_ _ (h2.trans s3))
    rintro ⟨bk, e, ok⟩
    rw [e] at mt
    obtain ⟨k, hk, rfl⟩ := List.mem_map.mp mt
    obtain ⟨o1, o2, o3⟩ := ok.kd k hk
    exact nomatch hb.mpr ⟨k, rfl, o1, o2, fun r hr => (o3 r hr).1⟩
   | true =>
    refine iteF ⟨h2.trans s3, ⟨_, rfl⟩, fun t' ht' => ?_⟩
    rw [List.take_add_one, et, Option.toList_some] at ht'
    rcases List.mem_append.mp ht' with h | h
    ·exact h3 t' h
    ·rw [List.mem_singleton.mp h]; exact hb.mp rfl
  ·obtain ⟨h2, ⟨o, rfl⟩, h3⟩ := h2
   rw [xlen, List.take_length] at h3
   obtain ⟨bk, et, hk⟩ := KT_all h3
   subst et
   rw [List.length_map] at xlen
   have ha2 := (ha.sb h2).kd
   have hs2 := h2.sqL nmn hs
   refine ⟨_, rfl, l, rfl, ⟨xs, hs2⟩, fun D hD => ?_⟩
   refine lc_seq (walk_list (xs := xs)) hD (by omega) (fun i us _ => us = ((Bk.names bk).take i).map V.str) rfl (fun H6 s6 => s6.sqL nmn hs2) (fun _ _ _ _ _ h => h) (fun Pv i x H6 H' us hi s6 y hR hl6 fin _ => ?_) (fun us H6 s6 hD6 hR _ => ?_)
   ·obtain ⟨rfl, ex⟩ := y
    obtain ⟨k, ek, t, r, zs, rfl, g1, g2, g3, _⟩ := ha2.get ex
    refine ⟨rfl, _, rfl, t, _, _, _, rfl, rfl, s6.sqT g1, atI_nat (j := 0) rfl, fin _ _ SB.refl ?_⟩
    rw [hR, List.take_add_one, List.getElem?_map, ek, Option.map_some, Option.toList_some, List.map_append]; rfl
   ·rw [xlen, show (Bk.names bk).take bk.length = Bk.names bk by rw [List.take_of_length_le (by simp)]] at hR
    subst hR
    have s06 := h2.trans s6
    refine ⟨_, rfl, D, Bk.names bk, rfl, SqL.of hD6, by rw [List.length_map]; omega, ?_⟩
    refine ⟨_, rfl, D, _, rfl, .inl (SqL.of hD6), rfl, _, rfl, ?_⟩
    have hnd := met_len_nodup (Bk.names bk)
    rw [show (List.map V.str (Bk.names bk)).length = (Bk.names bk).length from List.length_map ..]
    by_cases nd : (Bk.names bk).Nodup
    ·rw [hnd.mpr nd, show (!decide (V.int ((Bk.names bk).length : Nat) = V.int ((Bk.names bk).length : Nat))) = false by simp]
     refine iteF ?_
     have ha6 := ha2.sb s6 NoLst.nil
     have hs6 := s6.sqL nmn hs2
     refine ⟨_, rfl, l, rfl, ⟨xs, hs6⟩, fun E1 hE1 => ?_⟩
     have good : ∀ r : Ru, (∃ k ∈ bk, r ∈ k.rs) -> RuOk r := fun r ⟨k, h1, h2⟩ => (hk k h1).2.2 r h2
     refine lcG (walk_list (xs := xs)) (fun i H2 => SB [E1] H6 H2 /\ ∃ bs : List Bool, H2 E1 = some (.lst (bs.map V.bl)) /\ bs = ((bk.take i).flatMap fun k => k.rs.map fun r => decide (∀ p ∈ Ru.within r, p.1.1 ∈ Bk.names bk))) ⟨SB.new hE1 _, [], upd_same, rfl⟩ (fun i H2 hi h2 => (h2.1.drop hE1).sqL nmn hs6) (fun i x H2 H' hi h2 y => ?_) (fun H2 h2 => ?_)
     ·obtain ⟨s7, bs, hE7, hbs⟩ := h2
      obtain ⟨rfl, ex⟩ := y
      obtain ⟨k, ek, t, r, zs, rfl, g1, g2, g3, _⟩ := ha6.get ex
      have mk := List.mem_of_getElem? ek
      have zl := g3.length
      have r4 := (hk k mk).2.1
      have s7' := s7.drop hE1
      refine ⟨rfl, ?_⟩
      refine ⟨_, rfl, t, _, _, _, rfl, rfl, s7'.sqT g1, atI_nat (j := 2) rfl, r, rfl, ⟨zs, SqL.of (s7'.keep _ _ g2 nmn)⟩, ?_⟩
      have hsplit : ((bk.take (i + 1)).flatMap fun k => k.rs.map fun r => decide (∀ p ∈ Ru.within r, p.1.1 ∈ Bk.names bk)) = ((bk.take i).flatMap fun k => k.rs.map fun r => decide (∀ p ∈ Ru.within r, p.1.1 ∈ Bk.names bk)) ++ k.rs.map fun r => decide (∀ p ∈ Ru.within r, p.1.1 ∈ Bk.names bk) := by rw [List.take_add_one, ek]; simp
      have hlen : bs.length <= 4 * i := by
       rw [hbs]
       clear hbs hE7 s7 s7' hsplit ex ek
       induction i with
       | zero => simp
       | succ i ih =>
        rw [List.take_add_one, List.flatMap_append, List.length_append]
        have := ih (by omega)
        cases e : bk[i]? with
        | none => simp only [Option.toList_none, List.flatMap_nil, List.length_nil]; omega
        | some k2 =>
         have := (hk k2 (List.mem_of_getElem? e)).2.1
         simp only [Option.toList_some, List.flatMap_cons, List.flatMap_nil, List.append_nil, List.length_map]; omega
      refine lcG (walk_list (xs := zs)) (fun j H3 => SB [E1] H6 H3 /\ ∃ bs2 : List Bool, H3 E1 = some (.lst (bs2.map V.bl)) /\ bs2 = bs ++ ((k.rs.take j).map fun r => decide (∀ p ∈ Ru.within r, p.1.1 ∈ Bk.names bk))) ⟨s7, bs, hE7, by simp⟩ (fun j H3 hj h3 => (h3.1.drop hE1).sqL nmn (SqL.of g2)) (fun j x H3 H4 hj h3 y => ?_) (fun H3 h3 => ?_)
      ·obtain ⟨s8, bs2, hE8, hbs2⟩ := h3
       obtain ⟨rfl, ex2⟩ := y
       obtain ⟨ru, er, hru⟩ := g3.get ex2
       have s8' := s8.drop hE1
       have mr := List.mem_of_getElem? er
       refine ⟨rfl, ?_⟩
       refine ⟨_, rfl, _, rfl, _, D, ru, Bk.names bk, rfl, Dp_sb s8' _ _ (Ru.noList_enc _) hru, (hk k mk).2.2 ru mr, SqL.of (s8'.keep _ _ hD6 nmn), by rw [List.length_map]; omega, fun H9 s9 => ?_⟩
       have hE9 := s9.keep _ _ hE8 nmn
       refine ⟨_, hE9, ?_, (s8.trans s9.nil).trans (SB.set hE9 (by simp) _), bs2 ++ [decide (∀ p ∈ Ru.within ru, p.1.1 ∈ Bk.names bk)], (by rw [upd_same, List.map_append]; rfl), ?_⟩
       ·rw [List.length_map, hbs2, List.length_append, List.length_map, List.length_take]
        omega
       ·rw [hbs2, List.take_add_one, er, Option.toList_some, List.map_append, <- List.append_assoc]
        exact rfl
      ·obtain ⟨s8, bs2, hE8, hbs2⟩ := h3
       refine ⟨s8, bs2, hE8, ?_⟩
       rw [hsplit, hbs2, hbs, zl, List.take_length]
     ·obtain ⟨s7, bs, hE7, hbs⟩ := h2
      rw [xlen, List.take_length] at hbs
      refine ⟨E1, bs, rfl, SqL.of hE7, q _ _ (s06.trans (s7.drop hE1)) ?_⟩
      rw [hbs]
      simp only [List.all_flatMap, List.all_map, List.all_eq_true, Function.comp, id_eq, decide_eq_true_eq]
      constructor
      ·intro h
       exact ⟨bk, rfl, by omega, by omega, nd, fun k mk => ⟨(hk k mk).1, (hk k mk).2.1, fun r mr => ⟨(hk k mk).2.2 r mr, h k mk r mr⟩⟩⟩
      ·rintro ⟨b2, e2, ok⟩ k mk r mr
       have e3 := kts_inj e2
       subst e3
       exact ((ok.kd k mk).2.2 r mr).2
    ·rw [show (!decide (V.int ((met (Bk.names bk) (Bk.names bk).length).length : Nat) = V.int ((Bk.names bk).length : Nat))) = true by
      rw [decide_eq_false (fun z => by injection z with z; exact nd (hnd.mp (by omega)))]; rfl]
     refine iteT (no ?_ _ s06)
     rintro ⟨b2, e2, ok⟩
     have e3 := kts_inj e2
     subst e3
     exact nd ok.nd
 ·have c1 := of_decide_eq_false (Bool.eq_false_iff.mpr c)
  refine ⟨_, rfl, ?_⟩
  refine iteT (no ?_ _ SB.refl)
  rintro ⟨b, e, ok⟩
  have := ok.pos
  rw [e, List.length_map] at xlen
  omega
abbrev N_is_kind : List Str := ["thing", "name", "spreading", "rows", "row"]
theorem sc_is_kind : FnScope N_is_kind ["thing"] (defScope s_is_kind) := ⟨rfl, rfl, rfl, by decide +kernel, rfl, by decide +kernel, by decide +kernel⟩
theorem ok_is_kind (B : BI mg) (L_MOST_RULES : ∃ t, mg "MOST_RULES" = some (.int (4) t)) (G_is_name : Got P w K mg base "is_name" ["thing"] (2) (spName K)) (G_is_rule : Got P w K mg base "is_rule" ["thing"] (85) (spIsRule K)) (F : Fun K "is_kind" "is_kind" s_is_kind f fd) : FnOk P w K mg base CX0 (86) f fd ["thing"] (spIsKind K) := by
 refine F.ok sc_is_kind (fun vs H Q E h => ?_) (fun cdv A outer s H vs Q E hr h => ?_)
 ·obtain ⟨v, t, rfl, _⟩ := h
  rfl
 obtain ⟨v, t, rfl, th, hf, q⟩ := h
 obtain ⟨tk_MOST_RULES, h_MOST_RULES⟩ := L_MOST_RULES
 have hun2 := hunT hr
 refine ⟨_, pss_cons (ps_if (PW.pt (pw_or (pt_not (pt_val (pe_isi B (pv 0) B.tuple boot_tuple))) (pw_or1 (pt_cmpR op_ne (pe_callB call_len_seq rfl B.len PySem.boot_len (pa_cons (pv 0) pa_nil)) pe_int (nomark _))))) (pss_one (ps_ret pe_bl)) pss_nil)
  (pss_cons (ps_asg (pv 0) (pg_tup rfl (pgs_cons (pg_name (i := 1) sc_is_kind.nd rfl (.inl rfl)) (pgs_cons (pg_name (i := 2) sc_is_kind.nd rfl (.inl rfl)) (pgs_cons (pg_name (i := 3) sc_is_kind.nd rfl (.inl rfl)) pgs_nil)))))
  (pss_cons (ps_if (PW.pt (pw_or (pt_not (pt_val (pe_got G_is_name (hr.mono (by omega)) rfl (pa_cons (pv 1) pa_nil)))) (pw_or1 (pt_not (pt_val (pe_isi B (pv 2) B.bool boot_bool)))))) (pss_one (ps_ret pe_bl)) pss_nil)
  (pss_one (ps_ret (pe_and (pe_isi B (pv 3) B.list boot_list) (pe_and (pe_cmpR op_le (pe_callB call_len_seq rfl B.len PySem.boot_len (pa_cons (pv 3) pa_nil)) (pe_glob (v := .int (4)) rfl h_MOST_RULES ⟨_, rfl⟩) (nomark _)) (pe_one (pe_callB (cr_all rfl) rfl B.all boot_all (pa_cons (pe_lc (own := [("row", 4)]) (g := (gName 4)) (tt := tYes) (te := (tCall (spIsRule K) [] E0 (tCons (tVar 4) tNil))) rfl sc_is_kind.nd (pi_list (pv 3)) (blkOk_by (N := N_is_kind) (sc := defScope s_is_kind) (by decide +kernel)) (fun _ _ _ _ _ => (pg_name (i := 4) sc_is_kind.nd rfl (.inl rfl))) (fun _ _ _ _ _ => pts_nil) (fun _ _ _ _ _ => (pe_got G_is_rule (hr.mono (by omega)) rfl (pa_cons (pv 4) pa_nil)))) pa_nil))))))))), ?_⟩
 have no : ¬ KTKd t -> ∀ H', SB [] H H' -> Q (.bl false) H' := fun e H' s' => q false H' s' ⟨(fun z => nomatch z), fun z => absurd z e⟩
 cases t with
 | other =>
  have n0 : ¬ KTKd .other := by rintro ⟨k, e, _⟩; cases e
  obtain ⟨d, tg, hd⟩ := th
  obtain ⟨n1, b, ty, kb, y1, y2⟩ := tg.ty
  refine ⟨_, rfl, _, _, n1, b, rfl, ty, kb, b, rfl, ?_⟩
  cases b with
  | false => exact iteT (iteT (no n0 _ SB.refl))
  | true =>
  refine iteF ?_
  obtain ⟨a, xs, ds, rfl, rfl, hs, ha⟩ := y1 rfl
  refine ⟨_, rfl, a, xs, rfl, .inr hs, rfl, _, rfl, ?_⟩
  have hl := TgAll.length ha
  have h3 := hd ds rfl
  rw [show (!decide (V.int (xs.length : Nat) = V.int 3)) = true by rw [decide_eq_false (fun z => by injection z with z; omega)]; rfl]
  exact iteT (no n0 _ SB.refl)
 | three d w rs =>
  obtain ⟨a, x, y, z, rfl, hs, tx, ty, tz⟩ := th
  refine ⟨_, rfl, _, _, "tuple", true, rfl, SqT_ty hs, by decide +kernel, _, rfl, ?_⟩
  refine iteF ?_
  refine ⟨_, rfl, a, _, rfl, .inr hs, rfl, _, rfl, ?_⟩
  rw [show (!decide (V.int (([x, y, z] : List V).length : Nat) = V.int 3)) = false from rfl]
  refine iteF ?_
  refine ⟨_, rfl, a, _, rfl, hs, rfl, _, _, rfl, _, _, rfl, _, _, rfl, rfl, ?_⟩
  refine ⟨_, rfl, x, d, rfl, tx, fun H1 s1 => ?_⟩
  refine ⟨_, rfl, ?_⟩
  cases g1 : nameD d with
  | false =>
   refine iteT (iteT (no ?_ _ s1))
   rintro ⟨k, e, hk, _⟩
   injection e with e _ _
   rw [e, nameD_ok hk] at g1
   cases g1
  | true =>
  refine iteF ?_
  obtain ⟨nm, rfl, hnm⟩ := nameD_iff g1
  cases w with
  | none =>
   obtain ⟨n, ty, kb⟩ := ty
   refine ⟨_, rfl, _, _, n, false, rfl, TyX_sb s1 (fun _ _ => nmn) ty, kb, _, rfl, ?_⟩
   refine iteT (no ?_ _ s1)
   rintro ⟨k, e, _⟩
   injection e with _ e _
   cases e
  | some bb =>
  have ty : y = .bl bb := ty
  subst ty
  refine ⟨_, rfl, _, _, "bool", true, rfl, .base (.bl bb), by decide +kernel, _, rfl, ?_⟩
  refine iteF ?_
  cases rs with
  | none =>
   obtain ⟨n, ty, kb⟩ := tz
   refine ⟨_, rfl, _, _, n, false, rfl, TyX_sb s1 (fun _ _ => nmn) ty, kb, _, rfl, ?_⟩
   refine iteF (no ?_ _ s1)
   rintro ⟨k, e, _⟩
   injection e with _ _ e
   cases e
  | some ds =>
  obtain ⟨l, zs, rfl, hl, ha⟩ := tz
  obtain ⟨hd1, hd2⟩ := hf ds rfl
  refine ⟨_, rfl, _, _, "list", true, rfl, SqL_ty (s1.sqL nmn (SqL.of hl)), by decide +kernel, _, rfl, ?_⟩
  refine iteT ?_
  have hlen := TgAll.length ha
  refine ⟨_, rfl, l, _, rfl, .inl (s1.sqL nmn (SqL.of hl)), _, _, rfl, rfl, _, rfl, ?_⟩
  refine ite2 (fun c => ?_) (fun c => ?_)
  ·have c1 := of_decide_eq_true c
   rw [hlen] at c1
   have szl := sizeLine_eq
   refine ⟨_, rfl, l, rfl, ⟨_, s1.sqL nmn (SqL.of hl)⟩, fun D hD => ?_⟩
   refine lc_seq (walk_list (xs := zs)) hD (by omega) (fun i us _ => ∃ bs : List Bool, us = bs.map V.bl /\ bs.length = i /\ ∀ j b, bs[j]? = some b -> ∀ x, ds[j]? = some x -> (b = true ↔ RuD x)) ⟨[], rfl, rfl, fun j b h => by rw [List.getElem?_nil] at h; cases h⟩ (fun H6 s6 => s6.sqL nmn (s1.sqL nmn (SqL.of hl))) (fun _ _ _ _ _ h => h) (fun Pv i x H6 H' us hi s6 y hR hl6 fin _ => ?_) (fun us H6 s6 hD6 hR _ => ?_)
   ·obtain ⟨rfl, ex⟩ := y
    obtain ⟨p, ep, hp⟩ := TgAll.get ha ex
    obtain ⟨bs, rfl, hbl, hbs⟩ := hR
    refine ⟨rfl, _, rfl, x, p, rfl, Tg_sb (s1.trans s6) hp, hd2 _ (List.mem_of_getElem? ep), fun b H7 s7 hb => fin _ _ s7 ⟨bs ++ [b], by rw [List.map_append]; rfl, by rw [List.length_append, hbl]; rfl, fun j b' hj y hy => ?_⟩⟩
    by_cases hji : j < bs.length
    ·rw [List.getElem?_append_left hji] at hj
     exact hbs j b' hj y hy
    ·have hj' : j = bs.length := by
      have := (List.getElem?_eq_some_iff.mp hj).1
      rw [List.length_append, List.length_singleton] at this
      omega
     subst hj'
     rw [List.getElem?_append_right (Nat.le_refl _), Nat.sub_self] at hj
     cases hj
     rw [hbl, ep] at hy
     cases hy
     exact hb
   ·obtain ⟨bs, rfl, hbl, hbs⟩ := hR
    refine ⟨D, bs, rfl, SqL.of hD6, q _ _ (s1.trans s6) ?_⟩
    have h1 : (bs.all id = true) ↔ ∀ x ∈ ds, RuD x := by
     rw [List.all_eq_true]
     constructor
     ·intro h x hx
      obtain ⟨j, hj, e⟩ := List.getElem_of_mem hx
      have hjb : j < bs.length := by omega
      exact (hbs j bs[j] (List.getElem?_eq_getElem hjb) x (by rw [List.getElem?_eq_getElem hj, e])).mp (h _ (List.getElem_mem hjb))
     ·intro h b hb
      obtain ⟨j, hj, e⟩ := List.getElem_of_mem hb
      have hjb : j < ds.length := by omega
      exact (hbs j b (by rw [List.getElem?_eq_getElem hj, e]) ds[j] (List.getElem?_eq_getElem hjb)).mpr (h _ (List.getElem_mem hjb))
    rw [h1]
    constructor
    ·intro h
     obtain ⟨rr, e1, e2⟩ := RuD_all h
     exact ⟨⟨nm, bb, rr⟩, by rw [Kd.kt, e1], hnm, by rw [e1, List.length_map] at c1; show rr.length <= 4; omega, e2⟩
    ·rintro ⟨k, e, _, _, hk⟩ x hx
     injection e with _ _ e
     injection e with e
     rw [e] at hx
     obtain ⟨r, hr, rfl⟩ := List.mem_map.mp hx
     exact ⟨r, rfl, hk r hr⟩
  ·have c1 := of_decide_eq_false (Bool.eq_false_iff.mpr c)
   rw [hlen] at c1
   refine no ?_ _ s1
   rintro ⟨k, e, _, h4, _⟩
   injection e with _ _ e
   injection e with e
   rw [e, List.length_map] at c1
   omega
abbrev N_is_rule : List Str := ["thing", "once", "each", "pairs", "tree", "many"]
theorem sc_is_rule : FnScope N_is_rule ["thing"] (defScope s_is_rule) := ⟨rfl, rfl, rfl, by decide +kernel, rfl, by decide +kernel, by decide +kernel⟩
theorem ok_is_rule (B : BI mg) (L_MOST_RULE_PARTS : ∃ t, mg "MOST_RULE_PARTS" = some (.int (4) t)) (L_MOST_MANY : ∃ t, mg "MOST_MANY" = some (.int (1000000000) t)) (G_is_grove : Got P w K mg base "is_grove" ["thing"] (84) (spIsGrove K 81)) (G_pairs_within : Got P w K mg base "pairs_within" ["grove"] (70) (spPairsW K 70)) (F : Fun K "is_rule" "is_rule" s_is_rule f fd) : FnOk P w K mg base CX0 (85) f fd ["thing"] (spIsRule K) := by
 refine F.ok sc_is_rule (fun vs H Q E h => ?_) (fun cdv A outer s H vs Q E hr h => ?_)
 ·obtain ⟨v, d, rfl, _⟩ := h
  rfl
 obtain ⟨v, d, rfl, th, hf, q⟩ := h
 obtain ⟨tk_MOST_RULE_PARTS, h_MOST_RULE_PARTS⟩ := L_MOST_RULE_PARTS
 obtain ⟨tk_MOST_MANY, h_MOST_MANY⟩ := L_MOST_MANY
 have hun2 := hunT hr
 refine ⟨_, pss_cons (ps_if (PW.pt (pw_or (pt_not (pt_val (pe_isi B (pv 0) B.tuple boot_tuple))) (pw_or1 (pt_cmpR op_ne (pe_callB call_len_seq rfl B.len PySem.boot_len (pa_cons (pv 0) pa_nil)) pe_int (nomark _))))) (pss_one (ps_ret pe_bl)) pss_nil)
  (pss_cons (ps_asg (pv 0) (pg_tup rfl (pgs_cons (pg_name (i := 1) sc_is_rule.nd rfl (.inl rfl)) (pgs_cons (pg_name (i := 2) sc_is_rule.nd rfl (.inl rfl)) pgs_nil))))
  (pss_cons (ps_if (PW.pt (pw_or (pt_not (pt_val (pe_got G_is_grove (hr.mono (by omega)) rfl (pa_cons (pv 1) pa_nil)))) (pw_or1 (pt_not (pt_val (pe_got G_is_grove (hr.mono (by omega)) rfl (pa_cons (pv 2) pa_nil))))))) (pss_one (ps_ret pe_bl)) pss_nil)
  (pss_cons (ps_set (i := 3) sc_is_rule.nd rfl (.inl rfl) (pe_op op_cat (pe_got G_pairs_within (hr.mono (by omega)) rfl (pa_cons (pv 1) pa_nil)) (pe_got G_pairs_within (hr.mono (by omega)) rfl (pa_cons (pv 2) pa_nil))))
  (pss_one (ps_ret (pe_and (pe_cmpR op_le (pe_callB call_len_seq rfl B.len PySem.boot_len (pa_cons (pv 3) pa_nil)) (pe_glob (v := .int (4)) rfl h_MOST_RULE_PARTS ⟨_, rfl⟩) (nomark _)) (pe_one (pe_callB (cr_all rfl) rfl B.all boot_all (pa_cons (pe_lc (own := [("tree", 4), ("many", 5)]) (g := (gTup K 2 (gCons (gName 4) (gCons (gName 5) gNil)))) (tt := tYes) (te := (tOp (rI0 fun i j => .bl (decide (i <= j))) (tVar 5) (tC (.int (1000000000))))) rfl sc_is_rule.nd (pi_list (pv 3)) (blkOk_by (N := N_is_rule) (sc := defScope s_is_rule) (by decide +kernel)) (fun _ _ _ _ _ => (pg_tup rfl (pgs_cons (pg_name (i := 4) sc_is_rule.nd rfl (.inl rfl)) (pgs_cons (pg_name (i := 5) sc_is_rule.nd rfl (.inl rfl)) pgs_nil)))) (fun _ _ _ _ _ => pts_nil) (fun _ _ _ _ _ => (pe_cmpR op_le (pv 5) (pe_glob (v := .int (1000000000)) rfl h_MOST_MANY ⟨_, rfl⟩) (nomark _)))) pa_nil))))))))), ?_⟩
 have no : ¬ RuD d -> ∀ H', SB [] H H' -> Q (.bl false) H' := fun e H' s' => q false H' s' ⟨(fun z => nomatch z), fun z => absurd z e⟩
 obtain ⟨n1, b, ty, kb, y1, y2⟩ := th.ty
 refine ⟨_, rfl, _, _, n1, b, rfl, ty, kb, b, rfl, ?_⟩
 cases b with
 | false =>
  refine iteT (iteT (no ?_ _ SB.refl))
  rintro ⟨r, e, _⟩
  exact y2 rfl _ e
 | true =>
 refine iteF ?_
 obtain ⟨a, xs, ds, rfl, rfl, hs, ha⟩ := y1 rfl
 refine ⟨_, rfl, a, xs, rfl, .inr hs, rfl, _, rfl, ?_⟩
 have hl := TgAll.length ha
 by_cases c2 : xs.length = 2
 ·rw [show (!decide (V.int (xs.length : Nat) = V.int 2)) = false by rw [c2]; rfl]
  refine iteF ?_
  cases ha with
  | nil => simp at c2
  | cons t1 ta =>
   cases ta with
   | nil => simp at c2
   | cons t2 ta =>
    cases ta with
    | cons t3 ta => simp at c2
    | nil =>
     rename_i v1 d1 v2 d2
     obtain ⟨f1, f2, f3⟩ := hf
     have q1 : d1.depth < PyData.depth (.tuple [d1, d2]) /\ d2.depth < PyData.depth (.tuple [d1, d2]) := by simp only [PyData.depth, PyData.depthAll]; omega
     have q2 : wide d1 <= wide (.tuple [d1, d2]) /\ wide d2 <= wide (.tuple [d1, d2]) := by simp only [wide, wides]; omega
     refine ⟨_, rfl, a, _, rfl, hs, rfl, _, _, rfl, _, _, rfl, rfl, ?_⟩
     refine ⟨_, rfl, v1, d1, rfl, t1, by omega, by omega, by omega, fun H1 s1 => ?_⟩
     refine ⟨_, rfl, ?_⟩
     cases g1 : groveD d1 with
     | false =>
      refine iteT (iteT (no ?_ _ s1))
      intro z
      obtain ⟨g, k, e, z1, _⟩ := RuD_two z
      injection e with e
      injection e with e _
      rw [e, z1] at g1
      cases g1
     | true =>
     refine iteF ?_
     refine ⟨_, rfl, v2, d2, rfl, Tg_sb s1 t2, by omega, by omega, by omega, fun H2 s2 => ?_⟩
     have s02 := s1.trans s2
     refine ⟨_, rfl, ?_⟩
     cases g2 : groveD d2 with
     | false =>
      refine iteT (no ?_ _ s02)
      intro z
      obtain ⟨g, k, e, _, z1⟩ := RuD_two z
      injection e with e
      injection e with _ e
      injection e with e _
      rw [e, z1] at g2
      cases g2
     | true =>
     refine iteF ?_
     obtain ⟨u1, rfl⟩ := groveD_gr _ g1
     obtain ⟨u2, rfl⟩ := groveD_gr _ g2
     obtain ⟨w1, w2⟩ := f3 _ _ rfl u1 (.inl rfl)
     obtain ⟨w3, w4⟩ := f3 _ _ rfl u2 (.inr rfl)
     have ga1 : GA K H v1 u1 := by
      cases t1 with
      | tup h1 h2 => exact .tup h1 (Tg_ga u1 h2)
     have ga2 : GA K H v2 u2 := by
      cases t2 with
      | tup h1 h2 => exact .tup h1 (Tg_ga u2 h2)
     refine ⟨_, rfl, _, u1, rfl, ga1.sb s02, by omega, by omega, fun D1 us1 H3 s3 hn1 hD1 hb1 => ?_⟩
     refine ⟨_, rfl, _, u2, rfl, (ga2.sb s02).sb s3, by omega, by omega, fun D2 us2 H4 s4 hn2 hD2 hb2 => ?_⟩
     have l1 := hb1.length
     have l2 := hb2.length
     rw [Gr.within_length] at l1 l2
     have szl := sizeLine_eq
     refine ⟨D1, D2, us1, us2, rfl, rfl, s4.keep _ _ hD1 nmn, hD2, by omega, fun D3 hn3 => ?_⟩
     have t5 := SB.new (ps := []) hn3 (.lst (us1 ++ us2))
     have s05 := ((s02.trans s3).trans s4).trans t5
     have hD3 : upd H4 D3 (.lst (us1 ++ us2)) D3 = some (.lst (us1 ++ us2)) := upd_same
     have hb3 : Bears K (upd H4 D3 (.lst (us1 ++ us2))) Gr.pEnc (us1 ++ us2) (u1.within ++ u2.within) := Bears.append ((hb1.sb s4 Gr.noList_pEnc).sb t5 Gr.noList_pEnc) (hb2.sb t5 Gr.noList_pEnc)
     generalize upd H4 D3 (.lst (us1 ++ us2)) = H5 at t5 s05 hD3 hb3
     have iff1 := RuD_iff g1 g2
     refine ⟨_, rfl, D3, _, rfl, .inl (SqL.of hD3), _, _, rfl, rfl, _, rfl, ?_⟩
     refine ite2 (fun c => ?_) (fun c => ?_)
     ·have c1 := of_decide_eq_true c
      rw [List.length_append, l1, l2] at c1
      have bl3 := hb3.length
      refine ⟨_, rfl, D3, rfl, ⟨_, SqL.of hD3⟩, fun D hD => ?_⟩
      refine lc_seq (walk_list (xs := us1 ++ us2)) hD (by rw [List.length_append]; omega) (fun i us _ => us = ((u1.within ++ u2.within).take i).map fun p => V.bl (decide (p.2 <= 1000000000))) rfl (fun H6 s6 => s6.sqL nmn (SqL.of hD3)) (fun _ _ _ _ _ h => h) (fun Pv i x H6 H' us hi s6 y hR hl6 fin _ => ?_) (fun us H6 s6 hD6 hR _ => ?_)
      ·obtain ⟨rfl, ex⟩ := y
       obtain ⟨p, ep, hpd⟩ := hb3.get ex
       obtain ⟨ad, td, ux, rfl, hs2, hs3, hga, hdt⟩ := PA_parts hpd
       refine ⟨ad, _, rfl, s6.sqT hs2, rfl, _, _, rfl, _, _, rfl, rfl, rfl, ?_⟩
       refine ⟨_, rfl, _, _, rfl, rfl, fin _ _ SB.refl ?_⟩
       rw [hR, List.take_add_one, ep, Option.toList_some, List.map_append]; rfl
      ·rw [bl3, List.take_length] at hR
       subst hR
       refine ⟨D, ((u1.within ++ u2.within).map fun p => decide (p.2 <= 1000000000)), rfl, SqL.of (by rw [List.map_map]; exact hD6), q _ _ (s05.trans s6) ?_⟩
       rw [iff1]
       simp only [List.all_map, List.all_eq_true, Function.comp, id_eq, decide_eq_true_eq]
       exact ⟨fun h => ⟨by omega, h⟩, fun h => h.2⟩
     ·have c1 := of_decide_eq_false (Bool.eq_false_iff.mpr c)
      rw [List.length_append, l1, l2] at c1
      refine q false _ s05 ⟨(fun z => nomatch z), fun z => absurd (iff1.mp z).1 (by omega)⟩
 ·rw [show (!decide (V.int (xs.length : Nat) = V.int 2)) = true by rw [decide_eq_false (fun z => by injection z with z; omega)]; rfl]
  refine iteT (no ?_ _ SB.refl)
  rintro ⟨r, e, _⟩
  have e' : PyData.tuple ds = .tuple [r.1.enc, r.2.enc] := e
  injection e' with e'
  rw [e'] at hl
  exact c2 hl
abbrev N_is_rule_of : List Str := ["rule", "names", "once", "each", "tree", "many"]
theorem sc_is_rule_of : FnScope N_is_rule_of ["rule", "names"] (defScope s_is_rule_of) := ⟨rfl, rfl, rfl, by decide +kernel, rfl, by decide +kernel, by decide +kernel⟩
theorem ok_is_rule_of (B : BI mg) (G_pairs_within : Got P w K mg base "pairs_within" ["grove"] (70) (spPairsW K 70)) (F : Fun K "is_rule_of" "is_rule_of" s_is_rule_of f fd) : FnOk P w K mg base CX0 (71) f fd ["rule", "names"] (spIsRuleOf K) := by
 refine F.ok sc_is_rule_of (fun vs H Q E h => ?_) (fun cdv A outer s H vs Q E hr h => ?_)
 ·obtain ⟨v, l, r, ns, rfl, _⟩ := h
  rfl
 obtain ⟨v, l, r, ns, rfl, hv, ho, hs, hn, q⟩ := h
 have hun2 := hunT hr
 refine ⟨_, pss_cons (ps_asg (pv 0) (pg_tup rfl (pgs_cons (pg_name (i := 2) sc_is_rule_of.nd rfl (.inl rfl)) (pgs_cons (pg_name (i := 3) sc_is_rule_of.nd rfl (.inl rfl)) pgs_nil))))
  (pss_one (ps_ret (pe_callB (cr_all rfl) rfl B.all boot_all (pa_cons (pe_lc (own := [("tree", 4), ("many", 5)]) (g := (gTup K 2 (gCons (gName 4) (gCons (gName 5) gNil)))) (tt := tYes) (te := (tOp (rIn K false) (tOp (rIxT K) (tVar 4) (tC (.int 0))) (tVar 1))) rfl sc_is_rule_of.nd (pi_list (pe_op op_cat (pe_got G_pairs_within (hr.mono (by omega)) rfl (pa_cons (pv 2) pa_nil)) (pe_got G_pairs_within (hr.mono (by omega)) rfl (pa_cons (pv 3) pa_nil)))) (blkOk_by (N := N_is_rule_of) (sc := defScope s_is_rule_of) (by decide +kernel)) (fun _ _ _ _ _ => (pg_tup rfl (pgs_cons (pg_name (i := 4) sc_is_rule_of.nd rfl (.inl rfl)) (pgs_cons (pg_name (i := 5) sc_is_rule_of.nd rfl (.inl rfl)) pgs_nil)))) (fun _ _ _ _ _ => pts_nil) (fun _ _ _ _ _ => (pe_cmpR op_in_seq (pe_ix ix_tup (pv 4) pe_int (fun _ _ => rfl)) (pv 1) (by rfl)))) pa_nil)))), ?_⟩
 obtain ⟨ho1, ho2, ho3⟩ := ho
 cases (hv : Dp K H v (.tuple [r.1.enc, r.2.enc])) with
 | tup ht hd =>
 rename_i a xs
 cases hd with
 | cons g1 hd =>
 cases hd with
 | cons g2 hd =>
 cases hd
 have dp1 := (within_deep r.1)
 have dp2 := (within_deep r.2)
 refine ⟨_, rfl, a, _, rfl, ht, rfl, _, _, rfl, _, _, rfl, rfl, ?_⟩
 have ga1 : GA K H _ r.1 := g1
 have ga2 : GA K H _ r.2 := g2
 refine ⟨_, rfl, _, r.1, rfl, ga1, by omega, by omega, fun D1 us1 H3 s3 hn1 hD1 hb1 => ?_⟩
 refine ⟨_, rfl, _, r.2, rfl, ga2.sb s3, by omega, by omega, fun D2 us2 H4 s4 hn2 hD2 hb2 => ?_⟩
 have l1 := hb1.length
 have l2 := hb2.length
 rw [Gr.within_length] at l1 l2
 have szl := sizeLine_eq
 refine ⟨D1, D2, us1, us2, rfl, rfl, s4.keep _ _ hD1 nmn, hD2, by omega, fun D3 hn3 => ?_⟩
 have t5 := SB.new (ps := []) hn3 (.lst (us1 ++ us2))
 have s05 := (s3.trans s4).trans t5
 have hD3 : upd H4 D3 (.lst (us1 ++ us2)) D3 = some (.lst (us1 ++ us2)) := upd_same
 have hb3 : Bears K (upd H4 D3 (.lst (us1 ++ us2))) Gr.pEnc (us1 ++ us2) (r.1.within ++ r.2.within) := Bears.append ((hb1.sb s4 Gr.noList_pEnc).sb t5 Gr.noList_pEnc) (hb2.sb t5 Gr.noList_pEnc)
 generalize upd H4 D3 (.lst (us1 ++ us2)) = H5 at t5 s05 hD3 hb3
 have bl3 := hb3.length
 refine ⟨D3, rfl, ⟨_, SqL.of hD3⟩, fun D hD => ?_⟩
 refine lc_seq (walk_list (xs := us1 ++ us2)) hD (by rw [List.length_append]; omega) (fun i us _ => us = ((r.1.within ++ r.2.within).take i).map fun p => V.bl (decide (p.1.1 ∈ ns))) rfl (fun H6 s6 => s6.sqL nmn (SqL.of hD3)) (fun _ _ _ _ _ h => h) (fun Pv i x H6 H' us hi s6 y hR hl6 fin _ => ?_) (fun us H6 s6 hD6 hR _ => ?_)
 ·obtain ⟨rfl, ex⟩ := y
  obtain ⟨p, ep, hpd⟩ := hb3.get ex
  obtain ⟨ad, td, ux, rfl, hs2, hs3, hga, hdt⟩ := PA_parts hpd
  refine ⟨ad, _, rfl, s6.sqT hs2, rfl, _, _, rfl, _, _, rfl, rfl, rfl, ?_⟩
  refine ⟨_, rfl, td, _, _, _, rfl, rfl, s6.sqT hs3, atI_nat (j := 0) rfl, _, rfl, l, _, rfl, .inl ((s05.trans s6).sqL nmn hs), rfl, flat_strs _, fin _ _ SB.refl ?_⟩
  rw [hR, List.take_add_one, ep, Option.toList_some, List.map_append, inV_strs]; rfl
 ·rw [bl3, List.take_length] at hR
  subst hR
  refine ⟨D, ((r.1.within ++ r.2.within).map fun p => decide (p.1.1 ∈ ns)), rfl, SqL.of (by rw [List.map_map]; exact hD6), ?_⟩
  have := q _ (s05.trans s6)
  rw [show (List.map (fun p : Tr × Int => decide (p.1.1 ∈ ns)) (r.1.within ++ r.2.within)).all id = decide (∀ p ∈ Ru.within r, p.1.1 ∈ ns) by
   rw [Bool.eq_iff_iff]
   simp only [List.all_map, List.all_eq_true, Function.comp, id_eq, decide_eq_true_eq]
   exact Iff.rfl]
  exact this
abbrev N_tree_at : List Str := ["grove", "place", "tree", "row", "at"]
theorem sc_tree_at : FnScope N_tree_at ["grove", "place"] (defScope s_tree_at) := ⟨rfl, rfl, rfl, by decide +kernel, rfl, by decide +kernel, by decide +kernel⟩
theorem ok_tree_at {C : Addr} (B : BI mg) (O : Own K mg "NoPlace" C) (GW : Got P w K mg base "is_whole" ["thing"] 1 (spWhole K)) (F : Fun K "tree_at" "tree_at" s_tree_at f fd) : FnOk P w K mg base (L2N.CX P w) 2 f fd ["grove", "place"] (spTreeAt K C) := by
 refine F.okXN sc_tree_at (fun vs H Q E h => ?_) (fun cdv A outer s H vs Q E hr h => ?_)
 ·obtain ⟨v, g, a, xs, os, rfl, _⟩ := h
  rfl
 obtain ⟨v, g, a, xs, os, rfl, hv, hs, hw, q, qE⟩ := h
 refine ⟨_, pss_cons (ps_if (pt_not (pt_truth (pv 1) (by intro _; rfl))) (pss_one (L2N.ps_raise rfl (L2N.takes_of rfl rfl rfl rfl) (L2N.pmk_own PySem.F.excBase_ValueError O.q O.gC O.k (raises_own O.s O.t) rfl))) pss_nil)
  (pss_cons (ps_set (i := 2) sc_tree_at.nd rfl (.inl rfl) (pe_tup pa_nil))
  (pss_cons (ps_set (i := 3) sc_tree_at.nd rfl (.inl rfl) (pv 0))
  (pss_cons (ps_for (passes_of rfl) rfl (pi_tup (pv 1)) (pg_name (i := 4) sc_tree_at.nd rfl (.inl rfl))
   (pss_cons (ps_if (PW.pt (pw_or (pt_not (pt_val (pe_got GW hr rfl (pa_cons (pv 4) pa_nil)))) (pw_or1 (pt_not (pt_chain op_le op_lt pe_int (pv 4) (pe_callB call_len_seq rfl B.len PySem.boot_len (pa_cons (pv 3) pa_nil)))))))
    (pss_one (L2N.ps_raise rfl (L2N.takes_of rfl rfl rfl rfl) (L2N.pmk_own PySem.F.excBase_ValueError O.q O.gC O.k (raises_own O.s O.t) rfl))) pss_nil)
   (pss_cons (ps_set (i := 2) sc_tree_at.nd rfl (.inl rfl) (pe_ix ix_tup (pe_ix ix_tup (pv 3) (pv 4) (fun _ _ => rfl)) pe_int (fun _ _ => rfl)))
   (pss_one (ps_set (i := 3) sc_tree_at.nd rfl (.inl rfl) (pe_ix ix_tup (pv 2) pe_int (fun _ _ => rfl)))))))
  (pss_one (ps_ret (pv 2)))))), ?_⟩
 have wl := hw.length
 by_cases hnil : os = []
 ·have x0 : xs = [] := by rw [hnil] at wl; exact List.length_eq_zero_iff.mp wl
  exact ⟨_, rfl, false, .inr (.inl ⟨xs, hs, by rw [x0]; rfl⟩), iteT (qE (.inl hnil) _ SB.refl)⟩
 have x1 : xs ≠ [] := fun z => hnil (by rw [z] at wl; exact List.length_eq_zero_iff.mp wl.symm)
 refine ⟨_, rfl, true, .inr (.inl ⟨xs, hs, by cases xs with | nil => exact absurd rfl x1 | cons _ _ => rfl⟩), iteF ?_⟩
 refine ⟨(by show 0 <= sizeLine; decide), fun e0 he0 => ?_⟩
 have t0 := SB.new (ps := []) he0 (.tup [])
 have hv0 := hv.sb t0
 have hs0 := t0.sqT hs
 have hw' : Whs K (upd H e0 (.tup [])) xs os := Whs.sb t0 hw
 generalize hH0 : upd H e0 (.tup []) = H0 at t0 hv0 hs0 hw'
 refine ⟨_, rfl, _, rfl, a, rfl, ⟨xs, hs0⟩, ?_⟩
 refine for_tup (K := K) (a := a) (xs := xs) (fun i σ H2 => H2 = H0 /\ ∃ (tv rv : V) (t : Tr) (o4 : Option V), σ = [some v, some (.ref a), some tv, some rv, o4] /\ lk ("", g) (os.take i) = some t /\ GA K H0 rv t.2 /\ (i = 0 \/ Dp K H0 tv (Gr.tEnc t)))
  ⟨rfl, _, _, ("", g), none, rfl, rfl, hv0, .inl rfl⟩ (fun i σ H2 hi h2 => by rw [h2.1]; exact hs0) (fun i x σ H2 hx h2 => ?_) (fun σ H2 h2 => ?_)
 ·obtain ⟨rfl, tv, rv, t, o4, rfl, hlk, hrv, _⟩ := h2
  obtain ⟨o, eo, hwx⟩ := hw'.get hx
  have bad : stp t.2 o = none -> E (.ref C) none H2 := fun z => qE (.inr (lk_none hlk eo z)) _ t0
  rcases hwx with ⟨n, rfl, rfl⟩ | ⟨rfl, n, b1, b2, ty, k1, k2, k3⟩
  ·refine ⟨_, rfl, _, "int", true, false, rfl, .base (.int n), by decide +kernel, fun _ => by decide +kernel, true, rfl, iteF ?_⟩
   obtain ⟨c, ys, rfl, hsc, hbc⟩ := GA_bears hrv
   have yl := hbc.length
   refine ⟨_, rfl, _, _, rfl, rfl, _, rfl, ?_⟩
   by_cases h0 : 0 <= n
   ·rw [decide_eq_true h0]
    refine iteT ⟨_, rfl, c, ys, rfl, .inr hsc, _, _, rfl, rfl, _, rfl, ?_⟩
    obtain ⟨m, rfl⟩ : ∃ m : Nat, n = (m : Int) := ⟨n.toNat, by omega⟩
    by_cases h1 : m < ys.length
    ·rw [show decide ((m : Int) < (ys.length : Nat)) = true from decide_eq_true (by omega)]
     refine iteF ?_
     obtain ⟨y, hy⟩ : ∃ y, ys[m]? = some y := ⟨_, List.getElem?_eq_getElem h1⟩
     obtain ⟨p, ep, hpd⟩ := hbc.get hy
     obtain ⟨ad, bd, ux, rfl, hsx, hst, hdx, hdt⟩ := PA_parts hpd
     refine ⟨_, rfl, _, rfl, c, ys, _, _, rfl, rfl, hsc, atI_nat hy, ad, _, _, _, rfl, rfl, hsx, atI_nat (j := 0) rfl, ?_⟩
     refine ⟨_, rfl, bd, _, _, _, rfl, rfl, hst, atI_nat (j := 1) rfl, ?_⟩
     have es : stp t.2 (some (m : Int)) = some p.1 := by
      show (if 0 <= (m : Int) then (t.2.ps[(m : Int).toNat]?).map (·.1) else none) = _
      rw [if_pos h0, Int.toNat_natCast, ep]; rfl
     exact ⟨rfl, _, _, p.1, _, rfl, lk_next hlk eo es, hdx, .inr hdt⟩
    ·rw [show decide ((m : Int) < (ys.length : Nat)) = false from decide_eq_false (by omega)]
     refine iteT (bad ?_)
     show (if 0 <= (m : Int) then (t.2.ps[(m : Int).toNat]?).map (·.1) else none) = _
     rw [if_pos h0, Int.toNat_natCast, List.getElem?_eq_none (by omega)]; rfl
   ·rw [decide_eq_false h0]
    refine iteF ⟨_, rfl, iteT (bad ?_)⟩
    show (if 0 <= n then (t.2.ps[n.toNat]?).map (·.1) else none) = _
    rw [if_neg h0]
  ·refine ⟨_, rfl, _, n, b1, b2, rfl, ty, k1, k2, _, rfl, ?_⟩
   rw [k3]
   exact iteT (iteT (bad rfl))
 ·obtain ⟨rfl, tv, rv, t, o4, rfl, hlk, hrv, h3⟩ := h2
  rw [wl, List.take_length] at hlk
  refine ⟨_, rfl, q t hnil hlk _ _ t0 ?_⟩
  rcases h3 with h3 | h3
  ·exact absurd (List.length_eq_zero_iff.mp h3) x1
  ·exact h3
abbrev N_number_of : List Str := ["grove", "tree", "pair"]
theorem sc_number_of : FnScope N_number_of ["grove", "tree"] (defScope s_number_of) := ⟨rfl, rfl, rfl, by decide +kernel, rfl, by decide +kernel, by decide +kernel⟩
theorem ok_number_of (B : BI mg) (F : Fun K "number_of" "number_of" s_number_of f fd) : FnOk P w K mg base CX0 (1) f fd ["grove", "tree"] (spNumOf K) := by
 refine F.ok sc_number_of (fun vs H Q E h => ?_) (fun cdv A outer s H vs Q E hr h => ?_)
 ·obtain ⟨v, u, g, t, m, rfl, _⟩ := h
  rfl
 obtain ⟨v, u, g, t, m, rfl, hv, hu, ⟨C, go⟩, gd, gl, tm, q⟩ := h
 have hun2 := hunT hr
 refine ⟨_, pss_one (ps_ret (pe_bm PySem.F.plainAttrs_list PySem.F.slot_list_index PySem.F.type_list_index (mt_indexW (by show A.units + 3 + 196 < cLine; omega)) (pe_lc (own := [("pair", 2)]) (g := (gName 2)) (tt := tYes) (te := (tOp (rIxT K) (tVar 2) (tC (.int 0)))) rfl sc_number_of.nd (pi_tup (pv 0)) (blkOk_by (N := N_number_of) (sc := defScope s_number_of) (by decide +kernel)) (fun _ _ _ _ _ => (pg_name (i := 2) sc_number_of.nd rfl (.inl rfl))) (fun _ _ _ _ _ => pts_nil) (fun _ _ _ _ _ => (pe_ix ix_tup (pv 2) pe_int (fun _ _ => rfl)))) (pa_cons (pv 1) pa_nil))), ?_⟩
 have szl := sizeLine_eq
 obtain ⟨a, xs, rfl, hs, hb⟩ := GA_bears hv
 have xl := hb.length
 obtain ⟨n1, o1, _, _⟩ := Gr.ok_mem go tm
 have td : t.2.deep < g.deep := g.mem_deep (t, m) tm
 have hpos := Gr.pos_at go tm
 refine ⟨_, rfl, a, rfl, ⟨xs, hs⟩, fun D nD => ?_⟩
 refine lc_seqQ (walk_tup (xs := xs)) [] nD (by simp) (by omega) (fun i us H2 => Bears K H2 Gr.tEnc us ((g.ps.take i).map fun p : Tr × Int => p.1)) .nil (fun H2 s2 => s2.sqT hs) (fun i us H2 H3 s3 h => h.sb s3 Gr.noList_tEnc) (fun Pv i x Hq H2 us hi s2 y hR hu hD2 fin _ => ?_) (fun us H2 s2 hD2 hR hul => ?_)
 ·obtain ⟨rfl, ey⟩ := y
  obtain ⟨p, ep, hpd⟩ := hb.get ey
  obtain ⟨ad, bd, ux, rfl, h1, h2, h3, h4⟩ := PA_parts hpd
  refine ⟨rfl, _, rfl, ad, _, _, _, rfl, rfl, s2.sqT h1, atI_nat (j := 0) rfl, fin _ _ SB.refl ?_⟩
  rw [List.take_add_one, ep, List.map_append]
  exact hR.append (.cons (Dp_sb s2 _ _ (Gr.noList_tEnc _) h4) .nil)
 ·rw [xl, List.take_length] at hR
  have hds : DpAll K H2 us ((g.ps.map fun p : Tr × Int => p.1).map Gr.tEnc) := Bears_dp hR
  have e : ∀ i : Nat, ((g.ps.map fun p : Tr × Int => p.1).map Gr.tEnc)[i]? = (g.ps[i]?).map fun p => Gr.tEnc p.1 := fun i => by rw [List.getElem?_map, List.getElem?_map, Option.map_map]; rfl
  refine ⟨.inl ⟨rfl, _, SqL.of hD2⟩, _, rfl, D, _, Gr.tEnc t, _, Gr.pos g t, Gr.tEnc t, rfl, rfl, .lst (SqL.of hD2) hds, Dp_sb s2 _ _ (Gr.noList_tEnc _) hu, ?_, Gr.wd_t n1 o1 (by omega), ?_, ?_, fun j z' hj hz => ?_, q _ s2⟩
  ·rw [List.map_map]
   exact Gr.lay_ts fun p hp => by obtain ⟨h1, h2, _⟩ := Gr.ok_mem go hp; exact ⟨h1, h2⟩
  ·rw [e, hpos]; rfl
  ·rw [Gr.t_eqv]; simp
  ·rw [e] at hz
   obtain ⟨p, ep, rfl⟩ := Option.map_eq_some_iff.mp hz
   rw [Gr.t_eqv]
   refine decide_eq_false fun z => ?_
   have := Gr.pos_of go ep
   rw [z] at this
   omega
abbrev N_bare : List Str := ["grove", "found", "at", "pair", "held", "place"]
theorem sc_bare_places : FnScope N_bare ["grove"] (defScope s_bare_places) := ⟨rfl, rfl, rfl, by decide +kernel, rfl, by decide +kernel, by decide +kernel⟩
theorem ok_bare_places {n : Nat} (B : BI mg) (G : Got P w K mg base "bare_places" ["grove"] n (spBareP K n)) (F : Fun K "bare_places" "bare_places" s_bare_places f fd) : FnOk P w K mg base CX0 (n + 1) f fd ["grove"] (spBareP K (n + 1)) := by
 refine F.ok sc_bare_places (fun vs H Q E h => ?_) (fun cdv A outer s H vs Q E hr h => ?_)
 ·obtain ⟨v, g, rfl, _⟩ := h
  rfl
 obtain ⟨v, g, rfl, hg, hd, hd2, hp, q⟩ := h
 refine ⟨_, pss_cons (ps_set (i := 1) sc_bare_places.nd rfl (.inl rfl) (pe_lst pa_nil))
  (pss_cons (ps_for PassesOwn.never rfl (pi_enumT rfl B.enumerate (pv 0)) (pg_tup rfl (pgs_cons (pg_name (i := 2) sc_bare_places.nd rfl (.inr rfl)) (pgs_cons (pg_name (i := 3) sc_bare_places.nd rfl (.inl rfl)) pgs_nil)))
   (pss_cons (ps_set (i := 4) sc_bare_places.nd rfl (.inl rfl) (pe_ix ix_tup (pe_ix ix_tup (pv 3) pe_int (fun _ _ => rfl)) pe_int (fun _ _ => rfl)))
   (pss_one (ps_if (pt_truth (pv 4) (by intro _; rfl))
    (pss_one (ps_expr (pe_bm PySem.F.plainAttrs_list PySem.F.slot_list_extend PySem.F.type_list_extend mt_extend (pv 1) (pa_cons
     (pe_lc (own := [("place", 5)]) (g := gName 5) (tt := tYes) (te := tOp (rCatB K) (tTup (tCons (tVar 2) tNil)) (tVar 5)) rfl sc_bare_places.nd (pi_list (pe_got G hr rfl (pa_cons (pv 4) pa_nil)))
      (blkOk_by (N := N_bare) (sc := defScope s_bare_places) (by decide +kernel))
      (fun _ _ _ _ _ => pg_name (i := 5) sc_bare_places.nd rfl (.inl rfl)) (fun _ _ _ _ _ => pts_nil)
      (fun _ _ _ _ _ => pe_op op_catB (pe_tup (pa_cons (pv 2) pa_nil)) (pv 5))) pa_nil))))
    (pss_one (ps_expr (pe_bm PySem.F.plainAttrs_list PySem.F.slot_list_append PySem.F.type_list_append mt_append (pv 1) (pa_cons (pe_tup (pa_cons (pv 2) pa_nil)) pa_nil))))))))
  (pss_one (ps_ret (pv 1)))), ?_⟩
 obtain ⟨a, xs, rfl, hs, hb⟩ := GA_bears hg
 have bl := hb.length
 have lenb := g.bp_len 0
 refine ⟨(by show 0 <= sizeLine; decide), fun D hD => ?_⟩
 refine ⟨_, rfl, a, xs, rfl, (SB.new (ps := []) hD _).sqT hs, ?_⟩
 refine for_it (walk_enumT (xs := xs)) (fun i σ H2 => SB [D] H H2 /\ ∃ us o2 o3 o4, σ = [some (.ref a), some (.ref D), o2, o3, o4, none] /\ H2 D = some (.lst us) /\ Bears K H2 plEnc us (Gr.bps (g.ps.take i) 0)) ⟨SB.new hD _, [], none, none, none, rfl, upd_same, .nil⟩ (fun i σ H2 hi h2 => (h2.1.drop hD).sqT hs) (fun i x σ H2 H' hi h2 y => ?_) (fun σ H2 h2 => ?_)
 ·obtain ⟨s2, us, o2, o3, o4, rfl, hD2, hb2⟩ := h2
  obtain ⟨T, e1, e2, rfl, hT, rfl, ee1, ee2⟩ := y
  have he1 : e1 = .int (i : Nat) := (Option.some.inj ee1).symm
  subst he1
  obtain ⟨p, ep, hpd⟩ := hb.get ee2
  have pm := List.mem_of_getElem? ep
  obtain ⟨ad, td, ux, rfl, hs2, hs3, hga, _⟩ := PA_parts hpd
  have t3 := SB.new (ps := [D]) hT (.tup [.int (i : Nat), .ref ad])
  have hD3 : (upd H2 T (.tup [.int (i : Nat), .ref ad])) D = some (.lst us) := by rw [upd_ne (ne_of_none hD2 hT)]; exact hD2
  have hT3 : SqT K (upd H2 T (.tup [.int (i : Nat), .ref ad])) T [.int (i : Nat), .ref ad] := SqT.of upd_same
  have s3 := s2.trans t3
  have hb3 := hb2.sb t3 pl_noList
  generalize hH3 : upd H2 T (.tup [.int (i : Nat), .ref ad]) = H3 at t3 hD3 hT3 s3 hb3
  have s3' := s3.drop hD
  have ul := hb3.length
  have pd := g.mem_deep p pm
  have pp := g.mem_parts p pm
  have hsp : g.bp 0 = Gr.bps (g.ps.take i) 0 ++ Gr.bpP p i ++ Gr.bps (g.ps.drop (i + 1)) (i + 1) := by
   rw [Gr.bp_ps]
   conv => lhs; rw [<- List.take_append_drop (i + 1) g.ps]
   rw [Gr.bps_append, Gr.bps_take ep, List.length_take, Nat.min_eq_left (by omega), Nat.zero_add]
  have hlen := congrArg List.length hsp
  rw [List.length_append, List.length_append] at hlen
  refine ⟨T, _, rfl, hT3, rfl, _, _, rfl, _, _, rfl, rfl, ?_⟩
  refine ⟨_, rfl, ad, _, _, _, rfl, rfl, s3'.sqT hs2, atI_nat (j := 0) rfl, td, _, _, _, rfl, rfl, s3'.sqT hs3, atI_nat (j := 1) rfl, ?_⟩
  obtain ⟨b, ys, rfl, hsb, hbb⟩ := GA_bears hga
  have yl := hbb.length
  refine ⟨_, rfl, _, .inr (.inl ⟨ys, s3'.sqT hsb, rfl⟩), ?_⟩
  by_cases hnil : p.1.2 = .nil
  ·have ys0 : ys = [] := by
    rw [hnil] at yl
    exact List.length_eq_zero_iff.mp yl
   rw [ys0]
   refine iteF ?_
   have hbP : Gr.bpP p i = [[i]] := if_pos hnil
   refine ⟨_, rfl, .inl ⟨rfl, _, SqL.of hD3⟩, _, rfl, (by show 1 <= sizeLine; decide), fun t ht => ?_⟩
   have t4 := SB.new (ps := [D]) ht (.tup [.int (i : Nat)])
   have hD4 : (upd H3 t (.tup [.int (i : Nat)])) D = some (.lst us) := by rw [upd_ne (ne_of_none hD3 ht)]; exact hD3
   refine ⟨D, us, _, rfl, rfl, hD4, small1000 (by omega), ?_⟩
   have t5 := SB.set (ps := [D]) hD4 (by simp) (.lst (us ++ [.ref t]))
   refine ⟨(s3.trans t4).trans t5, _, _, _, _, rfl, upd_same, ?_⟩
   rw [Gr.bps_take ep, hbP]
   exact Bears.append ((hb3.sb t4 pl_noList).sb t5 pl_noList) (.cons (PL_of (p := [i]) (t5.sqT (SqT.of upd_same))) .nil)
  ·have ys1 : ys ≠ [] := fun z => by
    rw [z] at yl
    cases hq : p.1.2 with
    | nil => exact hnil hq
    | cons k g m r => rw [hq] at yl; simp [Gr.ps] at yl
   have hie : (!ys.isEmpty) = true := by cases ys with
    | nil => exact absurd rfl ys1
    | cons _ _ => rfl
   rw [hie]
   refine iteT ?_
   have hbP : Gr.bpP p i = (p.1.2.bp 0).map (i :: ·) := if_neg hnil
   refine ⟨_, rfl, .inl ⟨rfl, _, SqL.of hD3⟩, _, rfl, .ref b, p.1.2, rfl, hga.sb s3', by omega, by omega, by omega, fun D2 vs2 H4 s4 hDn hD4 hb4 => ?_⟩
   have hD3' := s4.keep _ _ hD3 nmn
   have s24 := s3.trans s4.nil
   have vl := hb4.length
   refine ⟨D2, rfl, ⟨_, SqL.of hD4⟩, fun L hL => ?_⟩
   have DL : D ≠ L := ne_of_none hD3' hL
   have D2L : D2 ≠ L := ne_of_none hD4 hL
   refine lc_it (walk_list (xs := vs2)) (fun j H5 => SB [L] H4 H5 /\ ∃ ws, H5 L = some (.lst ws) /\ Bears K H5 plEnc ws (((p.1.2.bp 0).take j).map (i :: ·))) ⟨SB.new hL _, [], upd_same, .nil⟩ (fun j H5 hj h5 => h5.1.sqL (by simpa using D2L) (SqL.of hD4)) (fun j z H5 H6 hj h5 hz => ?_) (fun H5 h5 => ?_)
   ·obtain ⟨s5, ws, hL5, hb5⟩ := h5
    obtain ⟨rfl, ez⟩ := hz
    obtain ⟨pl, epl, hpl⟩ := hb4.get ez
    obtain ⟨pa, rfl, hpa⟩ := PL_ints hpl
    have plong := p.1.2.bp_long 0 pl (List.mem_of_getElem? epl)
    have pbl := p.1.2.bp_len 0
    have wl := hb5.length
    rw [List.length_map, List.length_take] at wl
    have s5' := s5.drop hL
    refine ⟨rfl, ?_⟩
    refine ⟨_, rfl, (by show 1 <= sizeLine; decide), fun t ht => ?_⟩
    have t6 := SB.new (ps := [L]) ht (.tup [.int (i : Nat)])
    have hL6 : (upd H6 t (.tup [.int (i : Nat)])) L = some (.lst ws) := by rw [upd_ne (ne_of_none hL5 ht)]; exact hL5
    have hsx : SqT K (upd H6 t (.tup [.int (i : Nat)])) pa (pl.map fun n : Nat => V.int (n : Int)) := t6.sqT (s5'.sqT hpa)
    refine ⟨_, rfl, t, pa, _, _, rfl, rfl, SqT.of upd_same, hsx, ?_, fun c H7 s7 hc => ?_⟩
    ·rw [List.length_map, List.length_singleton]
     have := small5 (n := 1 + pl.length) (by omega)
     omega
    have hL7 := s7.keep _ _ hL6 nmn
    refine ⟨ws, hL7, small1000 (by omega), ?_⟩
    have t8 := SB.set (ps := [L]) hL7 (by simp) (.lst (ws ++ [.ref c]))
    refine ⟨((s5.trans t6).trans s7.nil).trans t8, _, upd_same, ?_⟩
    rw [List.take_add_one, epl, Option.toList_some, List.map_append]
    exact Bears.append (((hb5.sb t6 pl_noList).sb s7 pl_noList).sb t8 pl_noList) (.cons (PL_of (p := i :: pl) (t8.sqT hc)) .nil)
   ·obtain ⟨s5, ws, hL5, hb5⟩ := h5
    rw [vl, List.take_length, <- hbP] at hb5
    have wl := hb5.length
    have hD5 := s5.keep _ _ hD3' (by simpa using DL)
    refine ⟨D, L, _, _, rfl, rfl, hD5, hL5, ?_, ?_⟩
    ·have := small5 (n := us.length + ws.length) (by omega)
     omega
    have t6 := SB.set (ps := [D]) hD5 (by simp) (.lst (us ++ ws))
    refine ⟨s24.trans ((s5.drop hL).nil.trans t6), _, _, _, _, rfl, upd_same, ?_⟩
    rw [Gr.bps_take ep]
    exact Bears.append (((hb3.sb s4 pl_noList).sb s5 pl_noList).sb t6 pl_noList) (hb5.sb t6 pl_noList)
 ·obtain ⟨s2, us, o2, o3, o4, rfl, hD2, hb2⟩ := h2
  rw [bl, List.take_length, <- Gr.bp_ps] at hb2
  exact ⟨_, rfl, q D us H2 (s2.drop hD) hD hD2 hb2⟩
abbrev N_fallen : List Str := ["book", "grove", "place", "rule", "number", "kind", "held", "told", "left", "changed"]
theorem sc_fallen : FnScope N_fallen ["book", "grove", "place", "rule", "number"] (defScope s_fallen) := ⟨rfl, rfl, rfl, by decide +kernel, rfl, by decide +kernel, by decide +kernel⟩
theorem ok_fallen {C_NoPlace C_Book C_NoKind C_NoRule C_NoNumber C_TooGreat : Addr} (B : BI mg) (O_NoPlace : Own K mg "NoPlace" C_NoPlace) (G_check_kinds : GotXN P w K mg base "check_kinds" ["book", "grove"] (72) (spCheckKX K C_Book C_NoKind)) (G_tree_at : GotXN P w K mg base "tree_at" ["grove", "place"] (2) (spTreeAt K C_NoPlace)) (G_rule_at : GotXN P w K mg base "rule_at" ["book", "kind", "rule"] (6) (spRuleAt K C_Book C_NoRule)) (G_check_number : GotXN P w K mg base "check_number" ["thing"] (2) (spChkNum K C_NoNumber)) (G_struck : Got P w K mg base "struck" ["book", "grove", "place", "fresh", "number"] (70) (spStruck K C_Book 64)) (G_grown : Got P w K mg base "grown" ["rule", "number"] (3) (spGrown K)) (G_check_bound : GotXN P w K mg base "check_bound" ["grove"] (72) (spChkBound K C_TooGreat)) (F : Fun K "fallen" "fallen" s_fallen f fd) : FnOk P w K mg base (L2N.CX P w) (74) f fd ["book", "grove", "place", "rule", "number"] (spFallenX K C_Book C_NoKind C_NoPlace C_NoRule C_NoNumber C_TooGreat) := by
 refine F.okXN sc_fallen (fun vs H Q E h => ?_) (fun cdv A outer s H vs Q E hr h => ?_)
 ·obtain ⟨v, w, r1, r2, r3, rfl, _⟩ := h
  rfl
 obtain ⟨v, w, r1, r2, r3, rfl, b0, g0, ns, hv0, b60, hg0, gd0, gp0, gn0, nsl, qK, qI⟩ := h
 have hun2 := hunT hr
 refine ⟨_, pss_cons (ps_expr (pe_gotSN G_check_kinds (hr.mono (by omega)) rfl (L2N.takes_of rfl rfl rfl rfl) (pa_cons (pv 0) (pa_cons (pv 1) pa_nil))))
  (pss_cons (ps_asg (pe_gotSN G_tree_at (hr.mono (by omega)) rfl (L2N.takes_of rfl rfl rfl rfl) (pa_cons (pv 1) (pa_cons (pv 2) pa_nil))) (pg_tup rfl (pgs_cons (pg_name (i := 5) sc_fallen.nd rfl (.inl rfl)) (pgs_cons (pg_name (i := 6) sc_fallen.nd rfl (.inl rfl)) pgs_nil))))
  (pss_cons (ps_if (pt_truth (pv 6) (by intro _; rfl)) (pss_one (L2N.ps_raise rfl (L2N.takes_of rfl rfl rfl rfl) (L2N.pmk_own PySem.F.excBase_ValueError O_NoPlace.q O_NoPlace.gC O_NoPlace.k (raises_own O_NoPlace.s O_NoPlace.t) rfl))) pss_nil)
  (pss_cons (ps_set (i := 7) sc_fallen.nd rfl (.inl rfl) (pe_gotSN G_rule_at (hr.mono (by omega)) rfl (L2N.takes_of rfl rfl rfl rfl) (pa_cons (pv 0) (pa_cons (pv 5) (pa_cons (pv 3) pa_nil)))))
  (pss_cons (ps_expr (pe_gotSN G_check_number (hr.mono (by omega)) rfl (L2N.takes_of rfl rfl rfl rfl) (pa_cons (pv 4) pa_nil)))
  (pss_cons (ps_asg (pe_got G_struck (hr.mono (by omega)) rfl (pa_cons (pv 0) (pa_cons (pv 1) (pa_cons (pv 2) (pa_cons (pe_got G_grown (hr.mono (by omega)) rfl (pa_cons (pv 7) (pa_cons (pv 4) pa_nil))) (pa_cons (pv 4) pa_nil)))))) (pg_tup rfl (pgs_cons (pg_name (i := 8) sc_fallen.nd rfl (.inl rfl)) (pgs_cons (pg_name (i := 9) sc_fallen.nd rfl (.inl rfl)) pgs_nil))))
  (pss_cons (ps_expr (pe_gotSN G_check_bound (hr.mono (by omega)) rfl (L2N.takes_of rfl rfl rfl rfl) (pa_cons (pv 8) pa_nil)))
  (pss_one (ps_ret (pe_tup (pa_cons (pv 8) (pa_cons (pv 9) pa_nil))))))))))), ?_⟩
 have szl := sizeLine_eq
 refine ⟨_, rfl, _, rfl, v, w, b0, g0, ns, rfl, hv0, hg0, b60, gd0, gp0, gn0, nsl, fun gnm H1 s1 => ?_, fun n hn d H1 s1 nd hd1 => qK n hn d H1 s1 nd hd1⟩
 obtain ⟨v', w', x, y, a, b, g, D, xs, os, ro, so, e, ⟨hv, ok⟩, ⟨hw, go, gd, gp, gn⟩, ⟨ha, hos⟩, hx, hy, sb, qP, q⟩ := qI gnm
 cases e
 have b8 := ok.len
 have xsl := hos.length
 refine ⟨_, rfl, _, rfl, w, g, a, xs, os, rfl, hw.sb s1, s1.sqT ha, hos.sb s1, fun t hne hlk vt H2 s2 ht => ?_, fun hbad H2 s2 => qP (fun pl k e hb => ?_) _ (s1.trans s2)⟩
 case refine_2 =>
  have h1 := Gr.bare_lk "" hb
  rw [<- e] at h1
  rcases hbad with h | h
  ·rw [e] at h
   exact Gr.bare_ne hb (by simpa [plO] using h)
  ·rw [h] at h1; cases h1
 obtain ⟨pl, epl, hbare⟩ := Gr.lk_bare hne hlk
 cases (ht : Dp K H2 vt (.tuple [.str t.1, t.2.enc])) with
 | @tup ad us' _ hs' hda =>
 cases hda with
 | cons g1 hda =>
 cases hda with
 | cons g2 hda =>
 cases hda
 cases g1
 rename_i hd
 have hheld : GA K H2 hd t.2 := g2
 obtain ⟨ga, gs, rfl, hga, hgb⟩ := GA_bears hheld
 have gsl := hgb.length
 have s12 := s1.trans s2
 refine ⟨ad, _, rfl, hs', rfl, _, _, rfl, _, _, rfl, rfl, ?_⟩
 by_cases hnil : t.2 = .nil
 case neg =>
  have hgs : gs ≠ [] := fun z => by
   rw [z] at gsl
   cases e : t.2 with
   | nil => exact hnil e
   | cons _ _ _ _ => rw [e] at gsl; simp [Gr.ps] at gsl
  refine ⟨_, rfl, true, .inr (.inl ⟨gs, hga, by cases gs with | nil => exact absurd rfl hgs | cons _ _ => rfl⟩), iteT (qP (fun pl' k e hb => ?_) _ s12)⟩
  have h1 := Gr.bare_lk "" hb
  rw [<- e, hlk] at h1
  exact hnil (by rw [Option.some.inj h1])
 have hb := hbare hnil
 have hgs : gs = [] := by
  rw [hnil] at gsl
  exact List.length_eq_zero_iff.mp gsl
 subst hgs
 refine ⟨_, rfl, false, .inr (.inl ⟨[], hga, rfl⟩), iteF ?_⟩
 have kn := Gr.bare_named gn hb
 obtain ⟨kd, eg⟩ := Bk.get_of kn
 obtain ⟨km, _⟩ := Bk.get_some eg
 obtain ⟨_, r4, rr⟩ := ok.kd kd km
 obtain ⟨q1, q2⟩ := q pl t.1 kd epl hb eg
 refine ⟨_, rfl, _, rfl, _, rfl, v, r2, b, t.1, kd, ro, rfl, hv.sb0 s12, ok, eg, hx.sb s12, fun i r er hr yv H3 s3 hyr => ?_, fun hno H3 s3 => q1 hno _ (s12.trans s3)⟩
 obtain ⟨q3, q4⟩ := q2 i r er hr
 have s13 := s12.trans s3
 refine ⟨_, rfl, r3, so, rfl, hy.sb s13, fun ⟨n, en, n0⟩ H4 s4 => ?_, fun hneg H4 s4 => q3 hneg _ (s13.trans s4)⟩
 subst en
 have ey := hy.int
 subst ey
 obtain ⟨q5, q6⟩ := q4 n rfl n0
 have s14 := s13.trans s4
 have rok := rule_ok (fun r hr => (rr r hr).1) hr
 have nb := sb n rfl
 subst epl
 have exs := hos.ints
 subst exs
 refine ⟨_, rfl, _, rfl, _, rfl, _, rfl, _, rfl, yv, r, n, rfl, Dp_sb s4 _ _ (Ru.noList_enc _) hyr, rok, n0, nb, fun fv H5 s5 hf => ?_⟩
 have s15 := s14.trans s5
 have plen := Gr.bare_len hb
 have go2 := Gr.grw_ok rok n0
 have gd2 := Gr.grw_deep rok n
 have gp2 := Gr.grw_parts rok n
 refine ⟨_, rfl, v, w, fv, a, n, D, 1000000001 * n + 2000000002, b, g, Gr.grw r n, pl, t.1, rfl, ⟨hv.sb0 s15, ok⟩, ⟨hw.sb s15, go, gd, gp, gn⟩, ⟨hf, by omega, go2, gd2, gp2⟩, s15.sqT ha, hb, by omega, n0, fun tt u pt H6 s6 htt hu hpt => ?_⟩
 refine ⟨tt, _, rfl, htt, rfl, _, _, rfl, _, _, rfl, rfl, ?_⟩
 have d1 := Gr.stk_deep (b := b) (n := n) (fr := Gr.grw r n) hb
 have p1 := Gr.stk_parts (b := b) (n := n) (fr := Gr.grw r n) hb
 have p2 : pl.length * (g.parts + 1) <= 60 * 2001 := Nat.mul_le_mul (by omega) (by omega)
 have s16 := s15.trans s6
 refine ⟨_, rfl, u, _, rfl, hu, by omega, by omega, fun hin H7 s7 => ?_, fun hout H7 s7 => q5 hout _ (s16.trans s7)⟩
 refine ⟨_, rfl, _, rfl, by show 2 <= sizeLine; decide, fun T nT => ?_⟩
 have t8 := SB.new (ps := []) nT (.tup [u, pt])
 have s17 := s16.trans s7
 exact q6 hin T u pt _ (s17.trans t8) (s17.dom _ nT) (SqT.of upd_same) ((hu.sb s7).sb t8) (Dp_sb (s7.trans t8) _ _ (pl_noList _) hpt)
abbrev N_rule_at : List Str := ["book", "kind", "rule", "rows"]
theorem sc_rule_at : FnScope N_rule_at ["book", "kind", "rule"] (defScope s_rule_at) := ⟨rfl, rfl, rfl, by decide +kernel, rfl, by decide +kernel, by decide +kernel⟩
theorem ok_rule_at {C_NoRule C_Book C_NoKind : Addr} (B : BI mg) (O_NoRule : Own K mg "NoRule" C_NoRule) (G_rules_from_nought : GotXN P w K mg base "rules_from_nought" ["book", "name"] (5) (spRulesN K C_Book C_NoKind)) (G_is_whole : Got P w K mg base "is_whole" ["thing"] (1) (spWhole K)) (F : Fun K "rule_at" "rule_at" s_rule_at f fd) : FnOk P w K mg base (L2N.CX P w) (6) f fd ["book", "kind", "rule"] (spRuleAt K C_Book C_NoRule) := by
 refine F.okXN sc_rule_at (fun vs H Q E h => ?_) (fun cdv A outer s H vs Q E hr h => ?_)
 ·obtain ⟨v, x, b, k, kd, o, rfl, _⟩ := h
  rfl
 obtain ⟨v, x, b, k, kd, o, rfl, hv, ok, eg, hx, q, qE⟩ := h
 have hun2 := hunT hr
 refine ⟨_, pss_cons (ps_set (i := 3) sc_rule_at.nd rfl (.inl rfl) (pe_gotSN G_rules_from_nought (hr.mono (by omega)) rfl (L2N.takes_of rfl rfl rfl rfl) (pa_cons (pv 0) (pa_cons (pv 1) pa_nil))))
  (pss_cons (ps_if (PW.pt (pw_or (pt_not (pt_val (pe_got G_is_whole (hr.mono (by omega)) rfl (pa_cons (pv 2) pa_nil)))) (pw_or1 (pt_not (pt_chain op_le op_lt pe_int (pv 2) (pe_callB call_len_seq rfl B.len PySem.boot_len (pa_cons (pv 3) pa_nil))))))) (pss_one (L2N.ps_raise rfl (L2N.takes_of rfl rfl rfl rfl) (L2N.pmk_own PySem.F.excBase_ValueError O_NoRule.q O_NoRule.gC O_NoRule.k (raises_own O_NoRule.s O_NoRule.t) rfl))) pss_nil)
  (pss_one (ps_ret (pe_ix ix_list (pv 3) (pv 2) (fun _ _ => rfl))))), ?_⟩
 have szl := sizeLine_eq
 have r4 : ∀ k ∈ b, k.rs.length <= 4 := fun k hk => (ok.kd k hk).2.1
 have k4 := r4 kd (Bk.get_some eg).1
 refine ⟨_, rfl, _, rfl, v, b, k, rfl, hv, by have := ok.len; omega, fun k hk => by have := r4 k hk; omega, fun kd' e l us H1 s1 nl hl hb => ?_, fun z => by rw [eg] at z; cases z⟩
 rw [eg] at e
 cases e
 have ul := hb.length
 rw [List.length_cons] at ul
 rcases hx with ⟨i, rfl, rfl⟩ | ⟨rfl, n, b1, b2, ty, k1, k2, k3⟩
 ·refine ⟨_, rfl, _, "int", true, false, rfl, .base (.int i), by decide +kernel, fun _ => by decide +kernel, true, rfl, iteF ?_⟩
  refine ⟨_, rfl, _, _, rfl, rfl, _, rfl, ?_⟩
  by_cases h0 : 0 <= i
  ·rw [decide_eq_true h0]
   refine iteT ⟨_, rfl, l, us, rfl, .inl (SqL.of hl), _, _, rfl, rfl, _, rfl, ?_⟩
   obtain ⟨m, rfl⟩ : ∃ m : Nat, i = (m : Int) := ⟨i.toNat, by omega⟩
   by_cases h1 : m < us.length
   ·rw [show decide ((m : Int) < (us.length : Nat)) = true from decide_eq_true (by omega)]
    refine iteF ?_
    obtain ⟨y, hy⟩ : ∃ y, us[m]? = some y := ⟨_, List.getElem?_eq_getElem h1⟩
    obtain ⟨r, er, hr⟩ := hb.get hy
    exact ⟨_, rfl, _, rfl, l, us, _, _, rfl, rfl, SqL.of hl, atI_nat hy, q m r rfl er y H1 s1 hr⟩
   ·rw [show decide ((m : Int) < (us.length : Nat)) = false from decide_eq_false (by omega)]
    refine iteT (qE (fun j e => ?_) _ s1)
    have e : (m : Int) = (j : Int) := Option.some.inj e
    exact List.getElem?_eq_none (by rw [List.length_cons]; omega)
  ·rw [decide_eq_false h0]
   refine iteF ⟨_, rfl, iteT (qE (fun j e => ?_) _ s1)⟩
   have e : i = (j : Int) := Option.some.inj e
   omega
 ·refine ⟨_, rfl, x, n, b1, b2, rfl, TyX_sb s1 (fun _ _ => nmn) ty, k1, k2, _, rfl, ?_⟩
  rw [k3]
  exact iteT (qE (fun j e => nomatch e) _ s1)
abbrev N_check_number : List Str := ["thing"]
theorem sc_check_number : FnScope N_check_number ["thing"] (defScope s_check_number) := ⟨rfl, rfl, rfl, by decide +kernel, rfl, by decide +kernel, by decide +kernel⟩
theorem ok_check_number {C_NoNumber : Addr} (B : BI mg) (O_NoNumber : Own K mg "NoNumber" C_NoNumber) (G_is_whole : Got P w K mg base "is_whole" ["thing"] (1) (spWhole K)) (F : Fun K "check_number" "check_number" s_check_number f fd) : FnOk P w K mg base (L2N.CX P w) (2) f fd ["thing"] (spChkNum K C_NoNumber) := by
 refine F.okXN sc_check_number (fun vs H Q E h => ?_) (fun cdv A outer s H vs Q E hr h => ?_)
 ·obtain ⟨v, o, rfl, _⟩ := h
  rfl
 obtain ⟨v, o, rfl, hv, q1, q2⟩ := h
 have hun2 := hunT hr
 refine ⟨_, pss_one (ps_if (PW.pt (pw_or (pt_not (pt_val (pe_got G_is_whole (hr.mono (by omega)) rfl (pa_cons (pv 0) pa_nil)))) (pw_or1 (pt_cmpR op_lt (pv 0) pe_int (nomark _))))) (pss_one (L2N.ps_raise rfl (L2N.takes_of rfl rfl rfl rfl) (L2N.pmk_own PySem.F.excBase_ValueError O_NoNumber.q O_NoNumber.gC O_NoNumber.k (raises_own O_NoNumber.s O_NoNumber.t) rfl))) pss_nil), ?_⟩
 rcases hv with ⟨i, rfl, rfl⟩ | ⟨rfl, n, b1, b2, ty, k1, k2, k3⟩
 ·refine ⟨_, rfl, _, "int", true, false, rfl, .base (.int i), by decide +kernel, fun _ => by decide +kernel, true, rfl, iteF ?_⟩
  refine ⟨_, rfl, _, _, rfl, rfl, _, rfl, ?_⟩
  by_cases h : i < 0
  ·rw [decide_eq_true h]
   exact iteT (q2 (fun n e => by cases e; exact h) _ SB.refl)
  ·rw [decide_eq_false h]
   exact iteF (q1 ⟨i, rfl, by omega⟩ _ SB.refl)
 ·refine ⟨_, rfl, _, n, b1, b2, rfl, ty, k1, k2, _, rfl, ?_⟩
  rw [k3]
  exact iteT (q2 (fun n e => nomatch e) _ SB.refl)
abbrev N_check_bound : List Str := ["grove"]
theorem sc_check_bound : FnScope N_check_bound ["grove"] (defScope s_check_bound) := ⟨rfl, rfl, rfl, by decide +kernel, rfl, by decide +kernel, by decide +kernel⟩
theorem ok_check_bound {C_TooGreat : Addr} (B : BI mg) (O_TooGreat : Own K mg "TooGreat" C_TooGreat) (L_MOST_PARTS_STANDING : ∃ t, mg "MOST_PARTS_STANDING" = some (.int (2000) t)) (L_MOST_DEEP_STANDING : ∃ t, mg "MOST_DEEP_STANDING" = some (.int (60) t)) (G_parts_of : Got P w K mg base "parts_of" ["grove"] (71) (spPartsOf K 70)) (G_deep_of : Got P w K mg base "deep_of" ["grove"] (70) (spDeepOf K 70)) (F : Fun K "check_bound" "check_bound" s_check_bound f fd) : FnOk P w K mg base (L2N.CX P w) (72) f fd ["grove"] (spChkBound K C_TooGreat) := by
 refine F.okXN sc_check_bound (fun vs H Q E h => ?_) (fun cdv A outer s H vs Q E hr h => ?_)
 ·obtain ⟨v, g, rfl, _⟩ := h
  rfl
 obtain ⟨v, g, rfl, hv, gd, gp, q, qE⟩ := h
 obtain ⟨tk_MOST_PARTS_STANDING, h_MOST_PARTS_STANDING⟩ := L_MOST_PARTS_STANDING
 obtain ⟨tk_MOST_DEEP_STANDING, h_MOST_DEEP_STANDING⟩ := L_MOST_DEEP_STANDING
 have hun2 := hunT hr
 refine ⟨_, pss_one (ps_if (PW.pt (pw_or (pt_cmpR op_gt (pe_got G_parts_of (hr.mono (by omega)) rfl (pa_cons (pv 0) pa_nil)) (pe_glob (v := .int (2000)) rfl h_MOST_PARTS_STANDING ⟨_, rfl⟩) (nomark _)) (pw_or1 (pt_cmpR op_gt (pe_got G_deep_of (hr.mono (by omega)) rfl (pa_cons (pv 0) pa_nil)) (pe_glob (v := .int (60)) rfl h_MOST_DEEP_STANDING ⟨_, rfl⟩) (nomark _))))) (pss_one (L2N.ps_raise rfl (L2N.takes_of rfl rfl rfl rfl) (L2N.pmk_own PySem.F.excBase_ValueError O_TooGreat.q O_TooGreat.gC O_TooGreat.k (raises_own O_TooGreat.s O_TooGreat.t) rfl))) pss_nil), ?_⟩
 refine ⟨_, rfl, v, g, rfl, hv, by omega, gp, fun H1 s1 => ?_⟩
 refine ⟨_, _, rfl, rfl, _, rfl, ?_⟩
 by_cases h1 : g.parts <= 2000
 ·rw [show decide ((2000 : Int) < (g.parts : Nat)) = false from decide_eq_false (by omega)]
  refine iteF ⟨_, rfl, v, g, rfl, hv.sb s1, by omega, gp, fun H2 s2 => ?_⟩
  refine ⟨_, _, rfl, rfl, _, rfl, ?_⟩
  by_cases h2 : g.deep <= 60
  ·rw [show decide ((60 : Int) < (g.deep : Nat)) = false from decide_eq_false (by omega)]
   exact iteF (q ⟨h1, h2⟩ _ (s1.trans s2))
  ·rw [show decide ((60 : Int) < (g.deep : Nat)) = true from decide_eq_true (by omega)]
   exact iteT (qE (fun z => h2 z.2) _ (s1.trans s2))
 ·rw [show decide ((2000 : Int) < (g.parts : Nat)) = true from decide_eq_true (by omega)]
  exact iteT (qE (fun z => h1 z.1) _ s1)
abbrev N_grown : List Str := ["rule", "number", "once", "each"]
theorem sc_grown : FnScope N_grown ["rule", "number"] (defScope s_grown) := ⟨rfl, rfl, rfl, by decide +kernel, rfl, by decide +kernel, by decide +kernel⟩
theorem ok_grown (B : BI mg) (G_together : Got P w K mg base "together" ["one", "other"] (2) (spTogetherF K)) (G_times : Got P w K mg base "times" ["grove", "many"] (1) (spTimes K)) (F : Fun K "grown" "grown" s_grown f fd) : FnOk P w K mg base CX0 (3) f fd ["rule", "number"] (spGrown K) := by
 refine F.ok sc_grown (fun vs H Q E h => ?_) (fun cdv A outer s H vs Q E hr h => ?_)
 ·obtain ⟨v, r, n, rfl, _⟩ := h
  rfl
 obtain ⟨v, r, n, rfl, hv, ok, n0, nb, q⟩ := h
 have hun2 := hunT hr
 refine ⟨_, pss_cons (ps_asg (pv 0) (pg_tup rfl (pgs_cons (pg_name (i := 2) sc_grown.nd rfl (.inl rfl)) (pgs_cons (pg_name (i := 3) sc_grown.nd rfl (.inl rfl)) pgs_nil))))
  (pss_one (ps_ret (pe_got G_together (hr.mono (by omega)) rfl (pa_cons (pv 2) (pa_cons (pe_got G_times (hr.mono (by omega)) rfl (pa_cons (pv 3) (pa_cons (pv 1) pa_nil))) pa_nil))))), ?_⟩
 have szl := sizeLine_eq
 cases (hv : Dp K H v (.tuple [r.1.enc, r.2.enc])) with
 | @tup ad us' _ hs' hda =>
 cases hda with
 | cons g1 hda =>
 cases hda with
 | cons g2 hda =>
 cases hda
 rename_i v1 v2
 have h1 : GA K H v1 r.1 := g1
 have h2 : GA K H v2 r.2 := g2
 obtain ⟨o1, o2, pp⟩ := ok
 have d1 := Gr.deep_parts r.1
 have d2 := Gr.deep_parts r.2
 have l1 := r.1.len_parts
 have l2 := r.2.len_parts
 refine ⟨_, rfl, ad, _, rfl, hs', rfl, _, _, rfl, _, _, rfl, rfl, ?_⟩
 refine ⟨_, rfl, _, rfl, _, rfl, v2, r.2, n, rfl, h2, by omega, fun p hp => ?_, n0, ?_, fun x H2 s2 hx => ?_⟩
 ·obtain ⟨_, _, a, c⟩ := Gr.ok_mem o2 hp
  exact ⟨by omega, Int.lt_of_lt_of_le c (by decide +kernel)⟩
 ·exact Int.lt_of_lt_of_le nb (by decide +kernel)
 have hm := Gr.tms_ok o2 (by omega) n0
 have e1 := Gr.tms_len r.2 n
 have e2 := Gr.tms_deep r.2 n
 have le := Int.mul_nonneg (show (0 : Int) <= 1000000001 by omega) n0
 exact ⟨_, _, r.1, Gr.tmsG r.2 n, rfl, h1.sb s2, hx, ⟨_, o1.mono (C := 1000000001 * n + 1000000001) (by omega), hm⟩, by omega, by omega, by omega, by omega, fun y H3 s3 hy => q y H3 (s2.trans s3) hy⟩
abbrev N_further_ones : List Str := ["book", "kind", "number"]
theorem sc_further_ones : FnScope N_further_ones ["book", "kind", "number"] (defScope s_further_ones) := ⟨rfl, rfl, rfl, by decide +kernel, rfl, by decide +kernel, by decide +kernel⟩
theorem ok_further_ones {C_Book C_NoKind : Addr} (B : BI mg) (G_Book_spreads : GotMXN P w K mg base C_Book "spreads" ["self", "name"] (4) (spBSpreads K C_Book C_NoKind)) (F : Fun K "further_ones" "further_ones" s_further_ones f fd) : FnOk P w K mg base CX0 (5) f fd ["book", "kind", "number"] (spFar K C_Book) := by
 refine F.ok sc_further_ones (fun vs H Q E h => ?_) (fun cdv A outer s H vs Q E hr h => ?_)
 ·obtain ⟨v, b, k, n, rfl, _⟩ := h
  rfl
 obtain ⟨v, b, k, n, rfl, hv, bl, hk, q⟩ := h
 have hun2 := hunT hr
 refine ⟨_, pss_cons (ps_if (pt_val (pe_gotMXN G_Book_spreads (hr.mono (by omega)) (pv 0) (pa_cons (pv 1) pa_nil))) (pss_one (ps_ret (pv 2))) pss_nil)
  (pss_one (ps_ret pe_int)), ?_⟩
 obtain ⟨kd, eg⟩ := Bk.get_of hk
 obtain ⟨va, vdx, vd1, vd2, rfl, hva⟩ := hv.at
 refine ⟨_, rfl, va, vdx, _, rfl, hva, rfl, _, rfl, _, b, k, rfl, hv, bl, fun kd' e H1 s1 => ?_, fun z => by rw [eg] at z; cases z⟩
 have hq := q H1 s1
 unfold Bk.far at hq
 rw [e] at hq
 dsimp only at hq
 refine ⟨_, rfl, ?_⟩
 cases hw : kd'.w with
 | true => rw [hw, if_pos rfl] at hq; exact iteT ⟨_, rfl, hq⟩
 | false => rw [hw, if_neg (by decide)] at hq; exact iteF hq
abbrev N_struck : List Str := ["book", "grove", "place", "fresh", "number", "tree", "left", "kind", "held", "inner", "path", "changed", "row"]
theorem sc_struck : FnScope N_struck ["book", "grove", "place", "fresh", "number"] (defScope s_struck) := ⟨rfl, rfl, rfl, by decide +kernel, rfl, by decide +kernel, by decide +kernel⟩
theorem none_struck {C_Book : Addr} {ps : List Str} {k : Nat} : FnOk P w K mg base CX0 k f fd ps (spStruck K C_Book 0) := none_sp fun vs H Q E ⟨v, w, fv, a, n, D, F, b, g, fr, pl, k, _, _, _, _, _, _, h, _⟩ => by omega
theorem ok_struck {m : Nat} {C_Book : Addr} (B : BI mg) (G_without : Got P w K mg base "without" ["grove", "tree", "many"] (1) (spWithout K)) (G_together : Got P w K mg base "together" ["one", "other"] (2) (spTogetherF K)) (G_struck : Got P w K mg base "struck" ["book", "grove", "place", "fresh", "number"] (m + 6) (spStruck K C_Book m)) (G_further_ones : Got P w K mg base "further_ones" ["book", "kind", "number"] (5) (spFar K C_Book)) (G_number_of : Got P w K mg base "number_of" ["grove", "tree"] (1) (spNumOf K)) (F : Fun K "struck" "struck" s_struck f fd) : FnOk P w K mg base CX0 (m + 7) f fd ["book", "grove", "place", "fresh", "number"] (spStruck K C_Book (m + 1)) := by
 refine F.ok sc_struck (fun vs H Q E h => ?_) (fun cdv A outer s H vs Q E hr h => ?_)
 ·obtain ⟨v, w, fv, a, n, D, F, b, g, fr, pl, k, rfl, _⟩ := h
  rfl
 obtain ⟨v, w, fv, a, n, D, F, b, g, fr, pl, k, rfl, ⟨hv, ok⟩, ⟨hw, go, gd, gp, gn⟩, ⟨hf, F1, fo, fd4, fp4⟩, hpl, hb, hm, n0, q⟩ := h
 have hun2 := hunT hr
 refine ⟨_, pss_cons (ps_set (i := 5) sc_struck.nd rfl (.inl rfl) (pe_ix ix_tup (pe_ix ix_tup (pv 1) (pe_ix ix_tup (pv 2) pe_int (fun _ _ => rfl)) (fun _ _ => rfl)) pe_int (fun _ _ => rfl)))
  (pss_cons (ps_set (i := 6) sc_struck.nd rfl (.inl rfl) (pe_got G_without (hr.mono (by omega)) rfl (pa_cons (pv 1) (pa_cons (pv 5) (pa_cons pe_int pa_nil)))))
  (pss_cons (ps_if (pt_cmpR op_eq (pe_callB call_len_seq rfl B.len PySem.boot_len (pa_cons (pv 2) pa_nil)) pe_int (nomark _)) (pss_one (ps_ret (pe_tup (pa_cons (pe_got G_together (hr.mono (by omega)) rfl (pa_cons (pv 6) (pa_cons (pv 3) pa_nil))) (pa_cons (pe_tup pa_nil) pa_nil))))) pss_nil)
  (pss_cons (ps_asg (pv 5) (pg_tup rfl (pgs_cons (pg_name (i := 7) sc_struck.nd rfl (.inl rfl)) (pgs_cons (pg_name (i := 8) sc_struck.nd rfl (.inl rfl)) pgs_nil))))
  (pss_cons (ps_asg (pe_got G_struck (hr.mono (by omega)) rfl (pa_cons (pv 0) (pa_cons (pv 8) (pa_cons (pe_slice sl_tupB (pv 2) (po_some pe_int) po_none) (pa_cons (pv 3) (pa_cons (pv 4) pa_nil)))))) (pg_tup rfl (pgs_cons (pg_name (i := 9) sc_struck.nd rfl (.inl rfl)) (pgs_cons (pg_name (i := 10) sc_struck.nd rfl (.inl rfl)) pgs_nil))))
  (pss_cons (ps_set (i := 11) sc_struck.nd rfl (.inl rfl) (pe_tup (pa_cons (pv 7) (pa_cons (pv 9) pa_nil))))
  (pss_cons (ps_set (i := 12) sc_struck.nd rfl (.inl rfl) (pe_got G_together (hr.mono (by omega)) rfl (pa_cons (pv 6) (pa_cons (pe_tup (pa_cons (pe_tup (pa_cons (pv 11) (pa_cons (pe_op op_add pe_int (pe_got G_further_ones (hr.mono (by omega)) rfl (pa_cons (pv 0) (pa_cons (pv 7) (pa_cons (pv 4) pa_nil))))) pa_nil))) pa_nil)) pa_nil))))
  (pss_one (ps_ret (pe_tup (pa_cons (pv 12) (pa_cons (pe_op op_catB (pe_tup (pa_cons (pe_got G_number_of (hr.mono (by omega)) rfl (pa_cons (pv 12) (pa_cons (pv 11) pa_nil))) pa_nil)) (pv 10)) pa_nil))))))))))), ?_⟩
 have szl := sizeLine_eq
 have b8 := ok.len
 obtain ⟨i, r, rfl⟩ : ∃ i r, pl = i :: r := by
  cases pl with
  | nil => exact absurd hb (by intro z; cases z)
  | cons i r => exact ⟨i, r, rfl⟩
 obtain ⟨ga, gs, rfl, hga, hgb⟩ := GA_bears hw
 have gl := hgb.length
 have glp := g.len_parts
 obtain ⟨p, ep⟩ : ∃ p, g.ps[i]? = some p := by
  by_cases hr : r = []
  ·subst hr
   obtain ⟨p, e, _⟩ := Gr.bare_one hb
   exact ⟨p, e⟩
  ·obtain ⟨p, e, _⟩ := Gr.bare_more hr hb
   exact ⟨p, e⟩
 have pm := List.mem_of_getElem? ep
 obtain ⟨n1, o1, _, _⟩ := Gr.ok_mem go pm
 have pd := g.mem_deep p pm
 have pp := g.mem_parts p pm
 obtain ⟨vp, evp, hpd⟩ := hgb.at ep
 obtain ⟨ad, bd, ux, rfl, h1, h2, h3, h4⟩ := PA_parts hpd
 have plen := Gr.bare_len hb
 have hC := Gr.C_pos go pm
 have w1 := Gr.wo_ok go (t := p.1) (m := 1) (by omega)
 have w2 := Gr.wo_deep g p.1 1
 have w3 := Gr.wo_len g p.1 1
 have frl := fr.len_parts
 refine ⟨_, rfl, _, rfl, a, _, _, _, rfl, rfl, hpl, atI_nat (j := 0) rfl, ga, gs, _, _, rfl, rfl, hga, atI_nat evp, ad, _, _, _, rfl, rfl, h1, atI_nat (j := 0) rfl, ?_⟩
 refine ⟨_, rfl, _, rfl, _, _, g, p.1, 1, rfl, hw, h4, ⟨D, go, o1⟩, n1, by omega, by omega, by omega, fun left H1 s1 hleft => ?_⟩
 have hpl1 := s1.sqT hpl
 refine ⟨_, rfl, a, _, rfl, .inr hpl1, rfl, _, rfl, ?_⟩
 by_cases hr : r = []
 ·subst hr
  refine iteT ⟨_, rfl, _, rfl, left, fv, Gr.wo g p.1 1, fr, rfl, hleft, hf.sb s1, ⟨D + F, w1.mono (by omega), fo.mono (by omega)⟩, by omega, by omega, by omega, by omega, fun x H2 s2 hx => ?_⟩
  refine ⟨by show 0 <= sizeLine; decide, fun T nT => ?_⟩
  have t3 := SB.new (ps := []) nT (.tup [])
  have hT : SqT K (upd H2 T (.tup [])) T [] := SqT.of upd_same
  generalize upd H2 T (.tup []) = H3 at t3 hT
  refine ⟨by show 2 <= sizeLine; decide, fun T2 nT2 => ?_⟩
  have t4 := SB.new (ps := []) nT2 (.tup [x, .ref T])
  refine q T2 x (.ref T) _ (((s1.trans s2).trans t3).trans t4) (SqT.of upd_same) ?_ ?_
  ·rw [Gr.stk_one ep]; exact hx.sb (t3.trans t4)
  ·rw [Gr.stk_one ep]; exact PL_of (p := []) (t4.sqT hT)
 have hlen : decide (V.int (((i :: r).map fun n : Nat => V.int (n : Int)).length : Nat) = V.int 1) = false := by
  have := List.length_pos_iff.mpr hr
  simp only [List.length_map, List.length_cons, V.int.injEq]
  exact decide_eq_false (by omega)
 rw [hlen]
 obtain ⟨p', ep', hb2⟩ := Gr.bare_more hr hb
 have e := ep.symm.trans ep'
 cases e
 obtain ⟨kn, pn⟩ := Gr.named_iff.mp gn p pm
 refine iteF ⟨_, rfl, bd, _, rfl, s1.sqT h2, rfl, _, _, rfl, _, _, rfl, rfl, ?_⟩
 refine ⟨_, rfl, _, rfl, _, rfl, _, rfl, a, _, rfl, hpl1, fun c H2 s2 hc => ?_⟩
 rw [cut1, List.map_cons, List.drop_succ_cons, List.drop_zero] at hc
 have s02 := s1.trans s2
 rw [List.length_cons] at hm plen
 refine ⟨_, rfl, _, rfl, v, ux, fv, c, n, D, F, b, p.1.2, fr, r, k, rfl, ⟨hv.sb0 s02, ok⟩, ⟨h3.sb s02, o1, by omega, by omega, pn⟩, ⟨hf.sb s02, F1, fo, fd4, fp4⟩, hc, hb2, by omega, n0, fun t u pt H3 s3 ht hu hq => ?_⟩
 obtain ⟨pa, rfl, hpa⟩ := PL_ints hq
 refine ⟨t, _, rfl, ht, rfl, _, _, rfl, _, _, rfl, rfl, ?_⟩
 refine ⟨_, rfl, _, rfl, by show 2 <= sizeLine; decide, fun T nT => ?_⟩
 have t4 := SB.new (ps := []) nT (.tup [.str p.1.1, u])
 have hT : SqT K (upd H3 T (.tup [.str p.1.1, u])) T [.str p.1.1, u] := SqT.of upd_same
 generalize upd H3 T (.tup [.str p.1.1, u]) = H4 at t4 hT
 have hch : Dp K H4 (.ref T) (Gr.tEnc (Gr.chg b n fr r p)) := .tup hT (.cons (.str _) (.cons (hu.sb t4) .nil))
 have s34 := s3.trans t4
 have s04 := s02.trans s34
 refine ⟨_, rfl, _, rfl, _, rfl, _, rfl, _, rfl, v, b, p.1.1, n, rfl, hv.sb0 s04, by omega, kn, fun H5 s5 => ?_⟩
 refine ⟨_, _, rfl, rfl, by show 2 <= sizeLine; decide, fun T2 nT2 => ?_⟩
 have t6 := SB.new (ps := []) nT2 (.tup [.ref T, .int (1 + b.far p.1.1 n)])
 have hT2 : SqT K (upd H5 T2 (.tup [.ref T, .int (1 + b.far p.1.1 n)])) T2 [.ref T, .int (1 + b.far p.1.1 n)] := SqT.of upd_same
 generalize upd H5 T2 (.tup [.ref T, .int (1 + b.far p.1.1 n)]) = H6 at t6 hT2
 refine ⟨by show 1 <= sizeLine; decide, fun T3 nT3 => ?_⟩
 have t7 := SB.new (ps := []) nT3 (.tup [.ref T2])
 have hT3 : SqT K (upd H6 T3 (.tup [.ref T2])) T3 [.ref T2] := SqT.of upd_same
 generalize upd H6 T3 (.tup [.ref T2]) = H7 at t7 hT3
 have s57 := (s5.trans t6).trans t7
 have hone : GA K H7 (.ref T3) (Gr.one (Gr.chg b n fr r p) (1 + b.far p.1.1 n)) := Bears_ga (bs := [(Gr.chg b n fr r p, 1 + b.far p.1.1 n)]) hT3 (.cons (pair_mk (t7.sqT hT2) (Dp_sb s57 _ _ (Gr.noList_tEnc _) hch)) .nil)
 obtain ⟨f0, f1⟩ := Bk.far_le b p.1.1 n0
 have io := Gr.stk_ok (b := b) n0 F1 fo o1 hb2
 have id := Gr.stk_deep (b := b) (n := n) (fr := fr) hb2
 have il := Gr.bare_len hb2
 have cd : (Gr.one (Gr.chg b n fr r p) (1 + b.far p.1.1 n)).deep <= 63 := by
  show max (1 + (Gr.stk b n fr r p.1.2).1.deep) 0 <= 63
  omega
 have hso : (Gr.one (Gr.chg b n fr r p) (1 + b.far p.1.1 n)).Ok (D + F + n + 2) := Gr.one_ok (t := Gr.chg b n fr r p) n1 io (by omega) (by omega)
 refine ⟨left, .ref T3, Gr.wo g p.1 1, Gr.one (Gr.chg b n fr r p) (1 + b.far p.1.1 n), rfl, ((hleft.sb s2).sb s34).sb s57, hone, ⟨_, w1.mono (by omega), hso⟩, by omega, cd, by omega, by rw [Gr.one_ps]; simp, fun row H8 s8 hrow => ?_⟩
 obtain ⟨⟨D2, ro⟩, m2, rm⟩ := Gr.chR_mem (b := b) n0 F1 fo go hr ep hb
 have rd : (Gr.chR b n fr r g p).deep <= 63 := Gr.tgt_deep (by omega) cd
 have rl : (Gr.chR b n fr r g p).ps.length <= 5000 := by
  have h1 := jn_length (srtE (pairE Gr.tEnc) ((Gr.wo g p.1 1).ps ++ (Gr.one (Gr.chg b n fr r p) (1 + b.far p.1.1 n)).ps))
  rw [(srtE_perm _).length_eq, List.length_append, Gr.one_ps] at h1
  show (Gr.tgt _ _).ps.length <= _
  rw [Gr.tgt_ps, Gr.one_ps]
  unfold tdy
  simp only [List.length_cons, List.length_nil] at h1
  omega
 refine ⟨_, rfl, _, rfl, _, rfl, row, .ref T, Gr.chR b n fr r g p, Gr.chg b n fr r p, m2, rfl, hrow, Dp_sb (s57.trans s8) _ _ (Gr.noList_tEnc _) hch, ⟨D2, ro⟩, rd, rl, rm, fun H9 s9 => ?_⟩
 refine ⟨by show 1 <= sizeLine; decide, fun T4 nT4 => ?_⟩
 have t10 := SB.new (ps := []) nT4 (.tup [.int (Gr.pos (Gr.chR b n fr r g p) (Gr.chg b n fr r p) : Nat)])
 have hT4 : SqT K (upd H9 T4 (.tup [.int (Gr.pos (Gr.chR b n fr r g p) (Gr.chg b n fr r p) : Nat)])) T4 [.int (Gr.pos (Gr.chR b n fr r g p) (Gr.chg b n fr r p) : Nat)] := SqT.of upd_same
 generalize upd H9 T4 (.tup [.int (Gr.pos (Gr.chR b n fr r g p) (Gr.chg b n fr r p) : Nat)]) = H10 at t10 hT4
 have s4A := ((s57.trans s8).trans s9).trans t10
 have pl2 := Gr.stk_plen (b := b) (n := n) (fr := fr) hb2
 refine ⟨_, rfl, T4, pa, _, _, rfl, rfl, hT4, (t4.trans s4A).sqT hpa, by rw [List.length_map]; simp only [List.length_cons, List.length_nil]; omega, fun c2 H11 s11 hc2 => ?_⟩
 refine ⟨by show 2 <= sizeLine; decide, fun T5 nT5 => ?_⟩
 have t12 := SB.new (ps := []) nT5 (.tup [row, .ref c2])
 refine q T5 row (.ref c2) _ (((s04.trans s4A).trans s11).trans t12) (SqT.of upd_same) ?_ ?_
 ·rw [Gr.stk_more ep hr]
  exact ((((hrow.sb s9).sb t10).sb s11).sb t12)
 ·rw [Gr.stk_more ep hr]
  exact PL_of (t12.sqT hc2)
abbrev N_choices : List Str := ["book", "grove", "found", "place", "rows", "rule"]
theorem sc_choices : FnScope N_choices ["book", "grove"] (defScope s_choices) := ⟨rfl, rfl, rfl, by decide +kernel, rfl, by decide +kernel, by decide +kernel⟩
theorem ok_choices {C_Book C_NoKind C_NoPlace : Addr} (B : BI mg) (G_check_kinds : GotXN P w K mg base "check_kinds" ["book", "grove"] (72) (spCheckKX K C_Book C_NoKind)) (G_bare_places : Got P w K mg base "bare_places" ["grove"] (20) (spBareP K 20)) (G_rules_from_nought : GotXN P w K mg base "rules_from_nought" ["book", "name"] (5) (spRulesN K C_Book C_NoKind)) (G_tree_at : GotXN P w K mg base "tree_at" ["grove", "place"] (2) (spTreeAt K C_NoPlace)) (F : Fun K "choices" "choices" s_choices f fd) : FnOk P w K mg base (L2N.CX P w) (76) f fd ["book", "grove"] (spChoicesK K C_Book C_NoKind) := by
 refine F.okXN sc_choices (fun vs H Q E h => ?_) (fun cdv A outer s H vs Q E hr h => ?_)
 ·obtain ⟨v, w, rfl, _⟩ := h
  rfl
 obtain ⟨v, w, rfl, b0, g0, ns, hv0, b60, hg0, gd0, gp0, gn0, nsl, qK, qI⟩ := h
 have hun2 := hunT hr
 refine ⟨_, pss_cons (ps_expr (pe_gotSN G_check_kinds (hr.mono (by omega)) rfl (L2N.takes_of rfl rfl rfl rfl) (pa_cons (pv 0) (pa_cons (pv 1) pa_nil))))
  (pss_cons (ps_set (i := 2) sc_choices.nd rfl (.inl rfl) (pe_lst pa_nil))
  (pss_cons (ps_for (passes_of rfl) rfl (pi_list (pe_got G_bare_places (hr.mono (by omega)) rfl (pa_cons (pv 1) pa_nil))) (pg_name (i := 3) sc_choices.nd rfl (.inr rfl))
   (pss_cons (ps_set (i := 4) sc_choices.nd rfl (.inl rfl) (pe_gotSN G_rules_from_nought (hr.mono (by omega)) rfl (L2N.takes_of rfl rfl rfl rfl) (pa_cons (pv 0) (pa_cons (pe_ix ix_tup (pe_gotSN G_tree_at (hr.mono (by omega)) rfl (L2N.takes_of rfl rfl rfl rfl) (pa_cons (pv 1) (pa_cons (pv 3) pa_nil))) pe_int (fun _ _ => rfl)) pa_nil))))
  (pss_one (ps_expr (pe_bm PySem.F.plainAttrs_list PySem.F.slot_list_extend PySem.F.type_list_extend mt_extend (pv 2) (pa_cons (pe_lc (own := [("rule", 5)]) (g := (gName 5)) (tt := tYes) (te := (tTup (tCons (tVar 3) (tCons (tVar 5) tNil)))) rfl sc_choices.nd (pi_range1 rfl B.range (pa_cons (pe_callB call_len_seq rfl B.len PySem.boot_len (pa_cons (pv 4) pa_nil)) pa_nil)) (blkOk_by (N := N_choices) (sc := defScope s_choices) (by decide +kernel)) (fun _ _ _ _ _ => (pg_name (i := 5) sc_choices.nd rfl (.inl rfl))) (fun _ _ _ _ _ => pts_nil) (fun _ _ _ _ _ => (pe_tup (pa_cons (pv 3) (pa_cons (pv 5) pa_nil))))) pa_nil))))))
  (pss_one (ps_ret (pv 2))))), ?_⟩
 have szl := sizeLine_eq
 refine ⟨_, rfl, _, rfl, v, w, b0, g0, ns, rfl, hv0, hg0, b60, gd0, gp0, gn0, nsl, fun gnm H1 s1 => ?_, fun n hn d H1 s1 nd hd1 => qK n hn d H1 s1 nd hd1⟩
 obtain ⟨v', w', b, g, e, hv, hg, ok, hd, hp, ho, hk, q⟩ := qI gnm
 cases e
 have b8 := ok.len
 have r4 : ∀ k ∈ b, k.rs.length <= 4 := fun k hk => (ok.kd k hk).2.1
 have bl := g.bp_len 0
 have bkl : (g.bk 0).length = (g.bp 0).length := by rw [<- Gr.bk_bp, List.length_map]
 refine ⟨(by show 0 <= sizeLine; decide), fun D hD => ?_⟩
 have t2 := SB.new (ps := []) hD (.lst [])
 have hD2 : upd H1 D (.lst []) D = some (.lst []) := upd_same
 generalize upd H1 D (.lst []) = H2 at t2 hD2
 have s2 := s1.trans t2
 refine ⟨_, rfl, w, g, rfl, hg.sb s2, hd, by omega, by omega, fun M us H3 s3 nM hM hbp => ⟨M, rfl, ⟨_, SqL.of hM⟩, ?_⟩⟩
 have ul := hbp.length
 have MD : M ≠ D := fun z => by rw [z, hD2] at nM; cases nM
 have s03 := s2.trans s3
 have cl : ∀ xs : List (Pl × Str), (∀ x ∈ xs, x.2 ∈ b.names) -> (xs.flatMap (chs b)).length <= 5 * xs.length := by
  intro xs
  induction xs with
  | nil => intro _; simp
  | cons x xs ih =>
   intro h
   have h1 := ih fun y hy => h y (mcm _ hy)
   obtain ⟨kd, eg⟩ := Bk.get_of (h x mcs)
   have h2 := r4 kd (Bk.get_some eg).1
   have h3 : b.cnt x.2 = 1 + kd.rs.length := by unfold Bk.cnt; rw [eg]
   have h4 : (chs b x).length = b.cnt x.2 := by unfold chs; rw [List.length_map, List.length_range]
   rw [List.flatMap_cons, List.length_append, List.length_cons, h4, h3]
   omega
 have nms : ∀ x ∈ g.bk 0, x.2 ∈ b.names := fun x hx => by
  have h1 : x.2 ∈ (g.ak 0).map (·.2) := List.mem_map.mpr ⟨x, Gr.bk_ak g 0 x hx, rfl⟩
  rw [Gr.ak_kinds] at h1
  obtain ⟨p, hp, e⟩ := List.mem_map.mp h1
  rw [<- e]; exact hk p hp
 refine for_it (walk_list (xs := us)) (fun i σ H4 => SB [D] H3 H4 /\ ∃ ws o3 o4, σ = [some v, some w, some (.ref D), o3, o4, none] /\ H4 D = some (.lst ws) /\ Bears K H4 chE ws (((g.bk 0).take i).flatMap (chs b))) ⟨SB.refl, [], none, none, rfl, s3.keep _ _ hD2 nmn, .nil⟩ (fun i σ H4 hi h4 => h4.1.sqL (by simpa using MD) (SqL.of hM)) (fun i z σ Hq H4 hi h4 y => ?_) (fun σ H4 h4 => ?_)
 ·obtain ⟨s4, ws, o3, o4, rfl, hD4, hb4⟩ := h4
  obtain ⟨rfl, ey⟩ := y
  obtain ⟨pl, epl, hpl⟩ := hbp.get ey
  rw [<- Gr.bk_bp, List.getElem?_map] at epl
  obtain ⟨x, ex, rfl⟩ := Option.map_eq_some_iff.mp epl
  have xm := List.mem_of_getElem? ex
  obtain ⟨pa, rfl, hpa⟩ := PL_ints hpl
  obtain ⟨n1, t, e1, e2⟩ := g.ak_place x (Gr.bk_ak g 0 x xm)
  obtain ⟨kd, eg⟩ := Bk.get_of (nms x xm)
  have k4 := r4 kd (Bk.get_some eg).1
  have ecn : b.cnt x.2 = 1 + kd.rs.length := by unfold Bk.cnt; rw [eg]
  have wl := hb4.length
  have hcl := cl ((g.bk 0).take i) fun x hx => nms x (List.mem_of_mem_take hx)
  rw [List.length_take] at hcl
  have nl : Lsts H3 [D] := fun p hp => by rw [List.mem_singleton.mp hp]; exact .inr ⟨_, s3.keep _ _ hD2 nmn⟩
  have hv4 := (hv.sb0 s03).sb s4 nl
  have hg4 := GA.sb (hg.sb s03) s4
  refine ⟨_, rfl, _, rfl, _, rfl, w, g, pa, _, plO x.1, rfl, hg4, s4.sqT hpa, Whs.pl K H4 x.1, fun t' _ et X H5 s5 hX => ?_, fun z => ?_⟩
  ·obtain rfl : t' = t := Option.some.inj (et.symm.trans e1)
   cases (hX : Dp K H5 X (.tuple [.str t'.1, t'.2.enc])) with
   | tup hX1 hX2 =>
   cases hX2 with
   | cons k1 hX2 =>
   cases hX2 with
   | cons k2 hX2 =>
   cases hX2
   cases k1
   refine ⟨_, _, _, _, rfl, rfl, hX1, atI_nat (j := 0) rfl, v, b, t'.1, rfl, hv4.sb0 s5, by omega, fun k hk => by have := r4 k hk; omega, fun k' eg' R rs H6 s6 nR hR hbR => ?_, fun z => by rw [e2, eg] at z; cases z⟩
   rw [e2, eg] at eg'
   cases eg'
   have rl := hbR.length
   rw [List.length_cons] at rl
   have s46 := s5.trans s6
   have hD6 := s46.keep _ _ hD4 nmn
   refine ⟨_, rfl, .inl ⟨rfl, _, SqL.of hD6⟩, ?_⟩
   refine ⟨_, rfl, R, rs, rfl, .inl (SqL.of hR), _, rfl, by omega, by omega, fun L hL => ?_⟩
   have re : ((rs.length : Nat) : Int).toNat = rs.length := Int.toNat_natCast _
   refine lc_seq (walk_range (lo := 0) (n := ((rs.length : Nat) : Int).toNat)) hL (by omega) (fun j us7 H7 => Bears K H7 chE us7 ((List.range j).map fun r => (x.1, r))) .nil (fun _ _ => trivial) (fun _ _ _ _ e h => h.sb e chE_noList) (fun Pv j z Hq H7 us7 hj s7 y hR7 hu7 fin _ => ?_) (fun us7 H7 s7 hL7 hR7 hu7 => ?_)
   ·obtain ⟨rfl, rfl⟩ := y
    refine ⟨rfl, _, rfl, _, rfl, by show 2 <= sizeLine; decide, fun T hT => ?_⟩
    refine fin _ _ (SB.new (ps := []) hT _) ?_
    rw [List.range_succ, List.map_append]
    refine Bears.append (hR7.sb (SB.new (ps := []) hT _) chE_noList) (.cons ?_ .nil)
    refine .tup (SqT.of upd_same) (.cons (Dp_sb (SB.new (ps := [D]) hT _) _ _ (pl_noList _) (Dp_sb ((s4.trans s46.nil).trans s7.nil) _ _ (pl_noList _) hpl)) (.cons ?_ .nil))
    show Dp K _ (.int (0 + (j : Int))) (.int ((j : Nat) : Int))
    rw [Int.zero_add]; exact .int _
   ·rw [re, rl, Nat.add_comm, <- ecn] at hR7
    have hR7 : Bears K H7 chE us7 (chs b x) := hR7
    have u7 := hR7.length
    have hD7 := s7.keep _ _ hD6 nmn
    have cxl : (chs b x).length = 1 + kd.rs.length := by unfold chs; rw [List.length_map, List.length_range, ecn]
    refine ⟨D, L, _, _, rfl, rfl, hD7, hL7, by omega, ?_⟩
    have t8 := SB.set (ps := [D]) hD7 (by simp) (.lst (ws ++ us7))
    have s47 := s46.trans s7
    refine ⟨(s4.trans s47.nil).trans t8, _, _, _, rfl, upd_same, ?_⟩
    rw [List.take_add_one, ex, List.flatMap_append]
    refine Bears.append ((hb4.sb s47 chE_noList).sb t8 chE_noList) ?_
    simpa using hR7.sb t8 chE_noList
  ·rcases z with z | z
   ·exact absurd z n1
   ·rw [e1] at z; cases z
 ·obtain ⟨s4, ws, o3, o4, rfl, hD4, hb4⟩ := h4
  rw [ul, <- bkl, List.take_length] at hb4
  exact ⟨_, rfl, q D ws H4 ((s03.nil.trans s4).drop (s1.dom _ hD)) (s1.dom _ hD) hD4 hb4⟩
abbrev N__law_purse : List Str := ["_law_script", "_law_k", "_law_cell", "_law_left", "_law_mixed"]
theorem sc__law_purse : FnScope N__law_purse ["_law_script", "_law_k"] (defScope s__law_purse) := ⟨rfl, rfl, rfl, by decide +kernel, rfl, by decide +kernel, by decide +kernel⟩
theorem ok__law_purse (B : BI mg) (F : Fun K "_law_purse" "_law_purse" s__law_purse f fd) : FnOk P w K mg base CX0 (1) f fd ["_law_script", "_law_k"] (spPurseW K) := by
 refine F.ok sc__law_purse (fun vs H Q E h => ?_) (fun cdv A outer s H vs Q E hr h => ?_)
 ·obtain ⟨a, ns, k, rfl, _⟩ := h
  rfl
 obtain ⟨a, ns, k, rfl, hs, h63, hk, q⟩ := h
 have hun2 := hunT hr
 refine ⟨_, pss_cons (ps_set (i := 2) sc__law_purse.nd rfl (.inl rfl) pe_int)
  (pss_cons (ps_if (pt_cmpR op_gt (pe_callB call_len_seq rfl B.len PySem.boot_len (pa_cons (pv 0) pa_nil)) pe_int (nomark _)) (pss_one (ps_set (i := 2) sc__law_purse.nd rfl (.inl rfl) (pe_op op_mod (pe_ix ix_list (pv 0) (pe_op op_mod (pv 1) (pe_callB call_len_seq rfl B.len PySem.boot_len (pa_cons (pv 0) pa_nil))) (fun _ _ => rfl)) (pe_op op_powW (pe_op op_pow pe_int pe_int) pe_int)))) pss_nil)
  (pss_cons (ps_set (i := 3) sc__law_purse.nd rfl (.inl rfl) pe_int)
  (pss_cons (ps_if (PW.pt (pw_and (pt_cmpR op_lt (pv 1) (pe_callB call_len_seq rfl B.len PySem.boot_len (pa_cons (pv 0) pa_nil)) (nomark _)) (pw_and1 (pt_cmpR op_ge (pv 2) (pe_op op_pow pe_int pe_int) (nomark _))))) (pss_one (ps_set (i := 3) sc__law_purse.nd rfl (.inl rfl) (pv 2))) pss_nil)
  (pss_cons (ps_set (i := 4) sc__law_purse.nd rfl (.inl rfl) (pe_op op_add (pe_op op_add (pe_op op_add (pe_op op_mul (pe_op op_mod (pv 2) pe_int) pe_int) (pe_op op_mul (pe_op op_mul pe_int (pv 1)) (pv 1))) (pe_op op_mul pe_int (pv 1))) pe_int))
  (pss_one (ps_ret (pe_lst (pa_cons (pv 3) (pa_cons (pe_op op_mod (pv 4) pe_int) pa_nil))))))))), ?_⟩
 have kk : (k : Int) * k <= 1000 * 1000 := Int.mul_le_mul (by omega) (by omega) (by omega) (by decide)
 have kk0 : 0 <= (k : Int) * k := Int.mul_nonneg (by omega) (by omega)
 refine nameI (seq_via (fun σ' H' => H' = H /\ ∃ c : Int, 0 <= c /\ σ' = [some (.ref a), some (.int (k : Int)), some (.int c), none, none]) (fun nx hnx => ?_) (fun σ' H' h => ?_))
 ·refine ⟨_, rfl, a, _, rfl, .inl hs, _, _, rfl, rfl, _, rfl, ?_⟩
  by_cases h : 0 < ns.length
  ·rw [show decide ((0 : Int) < (((ns.map V.int).length : Nat) : Int)) = true from decide_eq_true (by rw [List.length_map]; omega)]
   refine iteT ?_
   have hm : k % ns.length < ns.length := Nat.mod_lt _ h
   have ei : ((k : Int) % (((ns.map V.int).length : Nat) : Int)) = ((k % ns.length : Nat) : Int) := by rw [List.length_map]; rfl
   refine ⟨_, rfl, _, rfl, _, rfl, a, _, rfl, .inl hs, _, _, rfl, rfl, by show (0 : Int) < (((ns.map V.int).length : Nat) : Int); rw [List.length_map]; omega, a, _, _, .int ns[k % ns.length], rfl, rfl, hs, ?_, ?_⟩
   ·show atI (ns.map V.int) ((k : Int) % (((ns.map V.int).length : Nat) : Int)) = _
    rw [ei]
    exact atI_nat (by rw [List.getElem?_map, List.getElem?_eq_getElem hm]; rfl)
   refine ⟨_, _, rfl, rfl, ⟨by decide, by decide, by decide⟩, _, _, rfl, rfl, ⟨by decide, by decide, by decide⟩, _, _, rfl, rfl, (by show (0 : Int) < (10 ^ 64) ^ 14; decide), hnx _ _ ⟨rfl, _, Int.emod_nonneg _ (by decide), rfl⟩⟩
  ·rw [show decide ((0 : Int) < (((ns.map V.int).length : Nat) : Int)) = false from decide_eq_false (by rw [List.length_map]; omega)]
   exact iteF (hnx _ _ ⟨rfl, 0, by omega, rfl⟩)
 obtain ⟨rfl, c, c0, rfl⟩ := h
 refine nameI (seq_via (fun σ' H2 => H2 = H' /\ ∃ d : Int, 0 <= d /\ σ' = [some (.ref a), some (.int (k : Int)), some (.int c), some (.int d), none]) (fun nx hnx => ?_) (fun σ' H2 h => ?_))
 ·refine ⟨_, rfl, _, rfl, a, _, rfl, .inl hs, _, _, rfl, rfl, _, rfl, ?_⟩
  refine ite2 (fun _ => ?_) (fun _ => ?_)
  ·refine ⟨_, rfl, _, _, rfl, rfl, ⟨by decide, by decide, by decide⟩, _, _, rfl, rfl, _, rfl, ?_⟩
   refine ite2 (fun _ => ⟨_, rfl, hnx _ _ ⟨rfl, c, c0, rfl⟩⟩) (fun _ => hnx _ _ ⟨rfl, 0, by omega, rfl⟩)
  ·exact hnx _ _ ⟨rfl, 0, by omega, rfl⟩
 obtain ⟨rfl, d, d0, rfl⟩ := h
 refine ⟨_, rfl, _, _, rfl, rfl, (by show (0 : Int) < 2147483647; decide), _, _, rfl, rfl, .inr ⟨by decide, by decide⟩, _, rfl, _, _, rfl, rfl, .inl ⟨by decide, by decide⟩, _, rfl, _, _, rfl, rfl, .inl ⟨?_, ?_⟩, _, _, rfl, rfl, _, rfl, _, _, rfl, rfl, .inl ⟨by decide, by decide⟩, _, _, rfl, rfl, _, _, rfl, rfl, ?_⟩
 ·show (-(2 ^ 64) : Int) < 7919 * (k : Int); omega
 ·show 7919 * (k : Int) < 2 ^ 64; omega
 refine ⟨_, rfl, _, rfl, _, _, rfl, rfl, (by show (0 : Int) < 2147483647; decide), (by show 2 <= sizeLine; decide), fun p hp => ?_⟩
 exact q p _ (SB.new hp _) hp ⟨_, _, upd_same, d0, Int.emod_nonneg _ (by decide), Int.lt_of_lt_of_le (Int.emod_lt_of_pos _ (by decide)) (by decide)⟩
abbrev N__law_take : List Str := ["_law_purse_here", "_law_many_here", "_law_digit", "_law_once"]
theorem sc__law_take : FnScope N__law_take ["_law_purse_here", "_law_many_here"] (defScope s__law_take) := ⟨rfl, rfl, rfl, by decide +kernel, rfl, by decide +kernel, by decide +kernel⟩
theorem ok__law_take (B : BI mg) (F : Fun K "_law_take" "_law_take" s__law_take f fd) : FnOk P w K mg base CX0 (1) f fd ["_law_purse_here", "_law_many_here"] (spTakeW) := by
 refine F.ok sc__law_take (fun vs H Q E h => ?_) (fun cdv A outer s H vs Q E hr h => ?_)
 ·obtain ⟨p, m, rfl, _⟩ := h
  rfl
 obtain ⟨p, m, rfl, hp, hm, hm2, q⟩ := h
 have hun2 := hunT hr
 refine ⟨_, pss_cons (ps_if (pt_cmpR op_gt (pe_ix ix_list (pv 0) pe_int (fun _ _ => rfl)) pe_int (nomark _)) (pss_cons (ps_set (i := 2) sc__law_take.nd rfl (.inl rfl) (pe_op op_mod (pe_ix ix_list (pv 0) pe_int (fun _ _ => rfl)) (pv 1)))
  (pss_cons (ps_asg (pe_op op_fdivW (pe_ix ix_list (pv 0) pe_int (fun _ _ => rfl)) (pv 1)) (pg_sub (pv 0) pe_int set_list))
  (pss_one (ps_ret (pv 2))))) pss_nil)
  (pss_cons (ps_asg (pe_op op_mod (pe_op op_add (pe_op op_mul (pe_ix ix_list (pv 0) pe_int (fun _ _ => rfl)) pe_int) pe_int) pe_int) (pg_sub (pv 0) pe_int set_list))
  (pss_cons (ps_set (i := 3) sc__law_take.nd rfl (.inl rfl) (pe_op op_add (pe_op op_mod (pe_op op_mulW (pe_ix ix_list (pv 0) pe_int (fun _ _ => rfl)) (pe_ix ix_list (pv 0) pe_int (fun _ _ => rfl))) pe_int) pe_int))
  (pss_cons (ps_if (pt_cmpR op_gt (pv 1) (pe_op op_pow pe_int pe_int) (nomark _)) (pss_one (ps_ret (pe_op op_mod (pe_op op_fdivW (pe_op op_powW (pv 3) pe_int) pe_int) (pv 1)))) pss_nil)
  (pss_one (ps_ret (pe_op op_mod (pe_op op_fdivW (pv 3) pe_int) (pv 1))))))), ?_⟩
 obtain ⟨x, y, hp, hx, hy, hy2⟩ := hp
 have hS : SqL K H p [.int x, .int y] := SqL.of hp
 refine ⟨_, rfl, p, _, _, _, rfl, rfl, hS, ix0, _, _, rfl, rfl, _, rfl, ?_⟩
 refine ite2 (fun c => ?_) (fun c => ?_)
 ·refine ⟨_, rfl, p, _, _, _, rfl, rfl, hS, ix0, _, rfl, _, _, rfl, rfl, (by show (0 : Int) < m; omega), ?_⟩
  refine ⟨_, rfl, p, _, _, _, rfl, rfl, hS, ix0, _, rfl, _, _, rfl, rfl, wide_div (b := 250) (by omega) (by omega) (by decide) (by decide), ?_⟩
  refine ⟨_, rfl, p, _, _, _, rfl, rfl, hp, rfl, ?_⟩
  exact ⟨_, rfl, q _ _ (Int.emod_nonneg _ (by omega)) (Int.emod_lt_of_pos _ (by omega)) (SB.set hp (by simp) _) ⟨x / m, y, upd_same, Int.ediv_nonneg hx (by omega), hy, hy2⟩⟩
 ·refine ⟨_, rfl, p, _, _, _, rfl, rfl, hS, ix1, _, _, rfl, rfl, .inr ⟨by decide, by decide⟩, _, _, rfl, rfl, _, _, rfl, rfl, (by show (0 : Int) < 2147483647; decide), ?_⟩
  refine ⟨_, rfl, p, _, _, _, rfl, rfl, hp, rfl, ?_⟩
  have b1 := Int.emod_nonneg (y * 48271 + 11) (b := 2147483647) (by decide)
  have b2 := Int.emod_lt_of_pos (y * 48271 + 11) (b := 2147483647) (by decide)
  obtain ⟨z, hz⟩ : ∃ z, z = (y * 48271 + 11) % 2147483647 := ⟨_, rfl⟩
  rw [<- hz] at b1 b2
  have e0 : upd H p (.lst ([V.int x, V.int y].set (Int.toNat 1) (V.int ((y * 48271 + 11) % 2147483647)))) = upd H p (.lst [.int x, .int z]) := by rw [hz]; rfl
  refine cast (congrArg _ e0.symm) ?_
  have hp2 : (upd H p (.lst [.int x, .int z])) p = some (.lst [.int x, .int z]) := upd_same
  have hS2 : SqL K (upd H p (.lst [.int x, .int z])) p [.int x, .int z] := SqL.of hp2
  refine ⟨_, rfl, p, _, _, _, rfl, rfl, hS2, ix1, _, rfl, p, _, _, _, rfl, rfl, hS2, ix1, _, _, rfl, rfl, wide_mul (a := 64) (b := 64) (by omega) (by omega) (by decide) (by decide) (by decide), _, _, rfl, rfl, (by show (0 : Int) < 2147483629; decide), _, _, rfl, rfl, ?_⟩
  have c1 := Int.emod_nonneg (z * z) (b := 2147483629) (by decide)
  have c2 := Int.emod_lt_of_pos (z * z) (b := 2147483629) (by decide)
  have fin := fun r (h0 : 0 <= r) (h1 : r < m) => q r (upd H p (.lst [.int x, .int z])) h0 h1 (SB.set hp (by simp) _) ⟨x, z, upd_same, hx, by omega, by omega⟩
  have co : 0 <= z * z % 2147483629 + 7 /\ z * z % 2147483629 + 7 < 2 ^ 40 := by omega
  refine ⟨_, rfl, _, _, rfl, rfl, ⟨by decide, by decide, by decide⟩, _, _, rfl, rfl, _, rfl, ?_⟩
  refine ite2 (fun _ => ?_) (fun _ => ?_)
  ·refine ⟨_, rfl, _, _, rfl, rfl, ⟨by decide, by decide, ?_⟩, _, _, rfl, rfl, ⟨by decide, by decide⟩, _, rfl, _, _, rfl, rfl, (by show (0 : Int) < m; omega), ?_⟩
   ·have : (z * z % 2147483629 + 7).natAbs < 2 ^ 40 := by omega
    exact Nat.lt_trans this (by decide +kernel)
   ·exact fin _ (Int.emod_nonneg _ (by omega)) (Int.emod_lt_of_pos _ (by omega))
  ·exact ⟨_, rfl, _, _, rfl, rfl, ⟨by decide, by decide⟩, _, rfl, _, _, rfl, rfl, (by show (0 : Int) < m; omega), fin _ (Int.emod_nonneg _ (by omega)) (Int.emod_lt_of_pos _ (by omega))⟩
abbrev N__law_names : List Str := ["_law_purse_here", "_law_many_here", "_law_letters", "_law_stem", "_law_wide", "_law_at", "_law_first", "_law_step", "_law_words", "_law_k", "_law_sign"]
theorem sc__law_names : FnScope N__law_names ["_law_purse_here", "_law_many_here"] (defScope s__law_names) := ⟨rfl, rfl, rfl, by decide +kernel, rfl, by decide +kernel, by decide +kernel⟩
theorem ok__law_names (B : BI mg) (G__law_take : Got P w K mg base "_law_take" ["_law_purse_here", "_law_many_here"] (1) (spTakeW)) (F : Fun K "_law_names" "_law_names" s__law_names f fd) : FnOk P w K mg base CX0 (2) f fd ["_law_purse_here", "_law_many_here"] (spWords K) := by
 refine F.ok sc__law_names (fun vs H Q E h => ?_) (fun cdv A outer s H vs Q E hr h => ?_)
 ·obtain ⟨p, m, rfl, _⟩ := h
  rfl
 obtain ⟨p, m, rfl, hp, m1, m8, q⟩ := h
 have hun2 := hunT hr
 refine ⟨_, pss_cons (ps_set (i := 2) sc__law_names.nd rfl (.inr rfl) pe_str)
  (pss_cons (ps_set (i := 3) sc__law_names.nd rfl (.inr rfl) (pe_join pe_str (pe_lc (own := [("_law_k", 9)]) (g := (gName 9)) (tt := tYes) (te := (tOp rIxS (tVar 2) (tCall (spTakeW) [] E0 (tCons (tVar 0) (tCons (tC (.int 26)) tNil))))) rfl sc__law_names.nd (pi_range1 rfl B.range (pa_cons pe_int pa_nil)) (blkOk_by (N := N__law_names) (sc := defScope s__law_names) (by decide +kernel)) (fun _ _ _ _ _ => (pg_name (i := 9) sc__law_names.nd rfl (.inl rfl))) (fun _ _ _ _ _ => pts_nil) (fun _ _ _ _ _ => (pe_ix ix_str (pv 2) (pe_got G__law_take (hr.mono (by omega)) rfl (pa_cons (pv 0) (pa_cons pe_int pa_nil))) (fun _ _ => rfl))))))
  (pss_cons (ps_set (i := 4) sc__law_names.nd rfl (.inl rfl) (pe_got G__law_take (hr.mono (by omega)) rfl (pa_cons (pv 0) (pa_cons pe_int pa_nil))))
  (pss_cons (ps_set (i := 5) sc__law_names.nd rfl (.inl rfl) (pe_got G__law_take (hr.mono (by omega)) rfl (pa_cons (pv 0) (pa_cons (pe_op op_add (pv 4) pe_int) pa_nil))))
  (pss_cons (ps_set (i := 6) sc__law_names.nd rfl (.inl rfl) (pe_got G__law_take (hr.mono (by omega)) rfl (pa_cons (pv 0) (pa_cons pe_int pa_nil))))
  (pss_cons (ps_set (i := 7) sc__law_names.nd rfl (.inl rfl) (pe_ix ix_list (pe_lst (pa_cons pe_int (pa_cons pe_int (pa_cons pe_int (pa_cons pe_int (pa_cons pe_int (pa_cons pe_int (pa_cons pe_int (pa_cons pe_int pa_nil))))))))) (pe_got G__law_take (hr.mono (by omega)) rfl (pa_cons (pv 0) (pa_cons pe_int pa_nil))) (fun _ _ => rfl)))
  (pss_cons (ps_set (i := 8) sc__law_names.nd rfl (.inr rfl) (pe_lst pa_nil))
  (pss_cons (ps_for PassesOwn.never rfl (pi_range1 rfl B.range (pa_cons pe_int pa_nil)) (pg_name (i := 9) sc__law_names.nd rfl (.inl rfl))
   (pss_cons (ps_set (i := 10) sc__law_names.nd rfl (.inl rfl) (pe_ix ix_str (pv 2) (pe_op op_mod (pe_op op_add (pv 6) (pe_op op_mul (pv 7) (pv 9))) pe_int) (fun _ _ => rfl)))
  (pss_one (ps_expr (pe_bm PySem.F.plainAttrs_list PySem.F.slot_list_append PySem.F.type_list_append mt_append (pv 8) (pa_cons (pe_op op_add_str (pe_op op_add_str (pe_slice sl_str (pv 3) po_none (po_some (pv 5))) (pv 10)) (pe_slice sl_str (pv 3) (po_some (pv 5)) (po_some (pv 4)))) pa_nil))))))
  (pss_cons (ps_if (pt_cmpR op_eq (pe_got G__law_take (hr.mono (by omega)) rfl (pa_cons (pv 0) (pa_cons pe_int pa_nil))) pe_int (nomark _)) (pss_one (ps_set (i := 8) sc__law_names.nd rfl (.inr rfl) (pe_lc (own := [("_law_k", 9)]) (g := (gName 9)) (tt := tYes) (te := (tSl rSlS (tVar 3) tNoPart (tPart (tOp (rI0 fun i j => .int (i + j)) (tVar 9) (tC (.int 1)))))) rfl sc__law_names.nd (pi_range1 rfl B.range (pa_cons pe_int pa_nil)) (blkOk_by (N := N__law_names) (sc := defScope s__law_names) (by decide +kernel)) (fun _ _ _ _ _ => (pg_name (i := 9) sc__law_names.nd rfl (.inl rfl))) (fun _ _ _ _ _ => pts_nil) (fun _ _ _ _ _ => (pe_slice sl_str (pv 3) po_none (po_some (pe_op op_add (pv 9) pe_int))))))) pss_nil)
  (pss_one (ps_ret (pe_lc (own := [("_law_k", 9)]) (g := (gName 9)) (tt := tYes) (te := (tBM K "list" rPopAt (tVar 8) (tCons (tCall (spTakeW) [] E0 (tCons (tVar 0) (tCons (tCB (fun xs H Q => ∃ p ys, xs = [.ref p] /\ (SqL K H p ys \/ SqT K H p ys) /\ Q (.int ys.length) H) (tCons (tVar 8) tNil)) tNil))) tNil))) rfl sc__law_names.nd (pi_range1 rfl B.range (pa_cons (pv 1) pa_nil)) (blkOk_by (N := N__law_names) (sc := defScope s__law_names) (by decide +kernel)) (fun _ _ _ _ _ => (pg_name (i := 9) sc__law_names.nd rfl (.inl rfl))) (fun _ _ _ _ _ => pts_nil) (fun _ _ _ _ _ => (pe_bm PySem.F.plainAttrs_list PySem.F.slot_list_pop PySem.F.type_list_pop mt_popAt (pv 8) (pa_cons (pe_got G__law_take (hr.mono (by omega)) rfl (pa_cons (pv 0) (pa_cons (pe_callB call_len_seq rfl B.len PySem.boot_len (pa_cons (pv 8) pa_nil)) pa_nil))) pa_nil)))))))))))))), ?_⟩
 have szl := sizeLine_eq
 refine nameI (seqI (asgI ?_))
 refine join_w (k := 8) (jP := 0) (jL := 2) (jV := 9) (wi := iRng1 (tCons (tC (.int 8)) tNil)) (σ := [some (.ref p), some (.int (m : Int)), some (.str abc), none, none, none, none, none, none, none, none]) (by omega) (fun _ => rfl) (fun _ => rfl) (fun _ => rfl) (fun R hR => ⟨_, rfl, by decide, by decide, hR⟩) hp (fun st H1 s1 hp1 hst => ?_)
 have sl := hst.len
 refine take_w (i := 0) rfl hp1 (by decide) (by decide) fun r2 H2 r20 r28 s2 hp2 => ?_
 obtain ⟨sz, rfl⟩ : ∃ u : Nat, r2 = (u : Int) := ⟨r2.toNat, by omega⟩
 refine ⟨_, rfl, _, rfl, _, _, rfl, rfl, p, _, rfl, hp2, by omega, by omega, fun r3 H3 r30 r38 s3 hp3 => ?_⟩
 obtain ⟨at_, rfl⟩ : ∃ u : Nat, r3 = (u : Int) := ⟨r3.toNat, by omega⟩
 have hat : at_ <= sz := by omega
 refine take_w (i := 0) rfl hp3 (by decide) (by decide) fun r4 H4 r40 r48 s4 hp4 => ?_
 obtain ⟨bg, rfl⟩ : ∃ u : Nat, r4 = (u : Int) := ⟨r4.toNat, by omega⟩
 refine ⟨by show 8 <= sizeLine; decide, fun la hla => ?_⟩
 have t5 := SB.new (ps := []) hla (.lst [.int 1, .int 3, .int 5, .int 7, .int 9, .int 11, .int 15, .int 17])
 have hla5 : upd H4 la (.lst [.int 1, .int 3, .int 5, .int 7, .int 9, .int 11, .int 15, .int 17]) la = some (.lst [.int 1, .int 3, .int 5, .int 7, .int 9, .int 11, .int 15, .int 17]) := upd_same
 have lap : la ∉ [p] := by simpa using fun z : la = p => hp4.ne hla z.symm
 have hp5 := hp4.sb t5
 generalize upd H4 la (.lst [.int 1, .int 3, .int 5, .int 7, .int 9, .int 11, .int 15, .int 17]) = H5 at t5 hla5 hp5
 refine take_w (i := 0) rfl hp5 (by decide) (by decide) fun r6 H6 r60 r68 s6 hp6 => ?_
 have hla6 := s6.keep _ _ hla5 lap
 obtain ⟨st', hz, hst'⟩ : ∃ s' : Nat, atI [V.int 1, .int 3, .int 5, .int 7, .int 9, .int 11, .int 15, .int 17] r6 = some (.int (s' : Int)) /\ (s' = 1 \/ s' = 3 \/ s' = 5 \/ s' = 7 \/ s' = 9 \/ s' = 11 \/ s' = 15 \/ s' = 17) := by
  have : r6 = 0 \/ r6 = 1 \/ r6 = 2 \/ r6 = 3 \/ r6 = 4 \/ r6 = 5 \/ r6 = 6 \/ r6 = 7 := by omega
  rcases this with h | h | h | h | h | h | h | h <;> subst h
  ·exact ⟨1, rfl, by simp⟩
  ·exact ⟨3, rfl, by simp⟩
  ·exact ⟨5, rfl, by simp⟩
  ·exact ⟨7, rfl, by simp⟩
  ·exact ⟨9, rfl, by simp⟩
  ·exact ⟨11, rfl, by simp⟩
  ·exact ⟨15, rfl, by simp⟩
  ·exact ⟨17, rfl, by simp⟩
 have st17 : st' <= 17 := by omega
 refine ⟨la, _, _, _, rfl, rfl, SqL.of hla6, hz, ?_⟩
 have s06 : SB [p] H H6 := ((((s1.trans s2).trans s3).trans s4).trans t5.nil).trans s6
 refine ⟨by show 0 <= sizeLine; decide, fun W hW => ?_⟩
 have t7 := SB.new (ps := []) hW (.lst [])
 have hp7 := hp6.sb t7
 have nW : H W = none := s06.dom _ hW
 have pW : p ≠ W := hp6.ne hW
 have hW7 : upd H6 W (.lst []) W = some (.lst []) := upd_same
 have s07 := s06.trans (t7.nil (ps := [p]))
 generalize upd H6 W (.lst []) = H7 at t7 hp7 hW7 s07
 let wd : Nat -> Str := fun k => cutS st none (some (at_ : Int)) ++ ⟨#[97 + (bg + st' * k) % 26]⟩ ++ cutS st (some (at_ : Int)) (some (sz : Int))
 refine ⟨_, rfl, by decide, by decide, ?_⟩
 refine for_it walk_range (fun i σ H8 => SB [W] H7 H8 /\ ∃ o9 o10 : Option V, σ = [some (.ref p), some (.int (m : Int)), some (.str abc), some (.str st), some (.int (sz : Int)), some (.int (at_ : Int)), some (.int (bg : Int)), some (.int (st' : Int)), some (.ref W), o9, o10] /\ H8 W = some (.lst (((List.range i).map wd).map V.str)))
  ⟨SB.refl, none, none, rfl, hW7⟩ (fun _ _ _ _ _ => trivial) (fun i x σ H8 H' hi h2 y => ?_) (fun σ H8 h2 => ?_)
 ·obtain ⟨s8, o9, o10, rfl, hW8⟩ := h2
  obtain ⟨rfl, rfl⟩ := y
  have la' := (hst.take at_).len
  have lb := (hst.cut at_ sz).len
  have e1 : ((bg : Int) + (st' : Int) * (0 + (i : Int))) % 26 = (((bg + st' * i) % 26 : Nat) : Int) := by
   rw [Int.zero_add]; push_cast; rfl
  refine ⟨_, rfl, _, rfl, _, rfl, _, rfl, _, _, rfl, rfl, .inl ⟨by show (-(2 ^ 64) : Int) < (st' : Int); omega, by show (st' : Int) < 2 ^ 64; omega⟩, _, _, rfl, rfl, _, _, rfl, rfl, (by show (0 : Int) < 26; decide), abc, _, 97 + (bg + st' * i) % 26, rfl, rfl, abc_len, ?_, ?_⟩
  ·show atI abc.cps.toList (((bg : Int) + (st' : Int) * (0 + (i : Int))) % 26) = _
   rw [e1]
   exact atI_natN (abc_code _ (by omega))
  refine ⟨_, rfl, .inl ⟨rfl, _, SqL.of hW8⟩, _, rfl, _, rfl, _, rfl, st, rfl, by omega, _, rfl, _, _, rfl, rfl, by rw [la']; show _ + 1 <= _; omega, ?_⟩
  refine ⟨_, rfl, _, rfl, _, rfl, _, rfl, _, rfl, st, rfl, by omega, _, _, rfl, rfl, ?_, W, _, _, rfl, rfl, hW8, by rw [List.length_map, List.length_map, List.length_range]; omega, ?_⟩
  ·have : (cutS st none (some (at_ : Int)) ++ (⟨#[97 + (bg + st' * i) % 26]⟩ : Str)).length = min at_ 8 + 1 := ((hst.take at_).append (Ltr.one (c := 97 + (bg + st' * i) % 26) (by omega))).len
   rw [this, lb]; omega
  refine ⟨s8.trans (SB.set hW8 (by simp) _), _, _, rfl, ?_⟩
  rw [upd_same, List.range_succ, List.map_append, List.map_append]
  rfl
 obtain ⟨s8, o9, o10, rfl, hW8⟩ := h2
 have e8 : ((8 : Int)).toNat = 8 := rfl
 rw [e8] at hW8
 have hp8 := hp7.keep s8 (by simpa using pW)
 have s08 : SB [p] H H8 := (s07.mono (qs := [p, W]) (by simp)).trans (s8.mono (by simp)) |>.drop2 nW
 have key2 : ∀ i, Ltr (wd i) (min at_ 8 + 1 + (min sz 8 - min at_ 8)) := fun i => ((hst.take at_).append (Ltr.one (by omega))).append (hst.cut at_ sz)
 dsimp only
 refine seq_via (fun σ' H9 => SB [p] H H9 /\ PuW H9 p /\ ∃ (W' : Addr) (ws : List Str) (o9 o10 : Option V), σ' = [some (.ref p), some (.int (m : Int)), some (.str abc), some (.str st), some (.int (sz : Int)), some (.int (at_ : Int)), some (.int (bg : Int)), some (.int (st' : Int)), some (.ref W'), o9, o10] /\ H W' = none /\ W' ≠ p /\ H9 W' = some (.lst (ws.map V.str)) /\ ws.length = 8 /\ ws.Nodup /\ ∀ k ∈ ws, NameOk k) (fun nx hnx => ?_) (fun σ' H9 h => ?_)
 ·refine ifI ?_
  refine take_w (i := 0) rfl hp8 (by decide) (by decide) fun r9 H9 r90 r93 s9 hp9 => ?_
  have hW9 := s9.keep _ _ hW8 (by simpa using fun z : W = p => pW z.symm)
  refine ⟨rfl, _, rfl, ?_⟩
  refine ite2 (fun _ => ?_) (fun _ => ?_)
  ·refine ⟨_, rfl, by decide, by decide, fun D hD => ?_⟩
   refine lc_seq walk_range hD (by decide) (fun i us _ => us = ((List.range i).map fun k => cutS st none (some ((k + 1 : Nat) : Int))).map V.str) rfl (fun _ _ => trivial) (fun _ _ _ _ _ h => h) (fun Pv i x Hx H' us hi sx y hR hl fin _ => ?_) (fun us Hx sx hDx hR hl => ?_)
   ·obtain ⟨rfl, rfl⟩ := y
    have e0 : (0 : Int) + (i : Int) + 1 = ((i + 1 : Nat) : Int) := by omega
    refine ⟨rfl, _, rfl, _, rfl, _, _, rfl, rfl, _, rfl, st, rfl, by omega, fin _ _ SB.refl ?_⟩
    rw [hR, List.range_succ, List.map_append, List.map_append, e0]
    rfl
   ·subst hR
    have k3 : ∀ i, i < 8 -> Ltr (cutS st none (some ((i + 1 : Nat) : Int))) (i + 1) := fun i hi => by
     have := hst.take (i + 1)
     rw [Nat.min_eq_left (by omega)] at this
     exact this
    have pD : p ≠ D := hp9.ne hD
    refine hnx _ _ ⟨(s08.trans s9).trans sx.nil, hp9.sb sx, D, (List.range 8).map fun k => cutS st none (some ((k + 1 : Nat) : Int)), _, _, rfl, (s08.trans s9).dom _ hD, fun z => pD z.symm, hDx, by simp, nodup_range fun i j hi hj hn e => ?_, fun k hk => ?_⟩
    ·have e1 := (k3 i hi).1
     rw [e, (k3 j hj).1] at e1
     omega
    ·obtain ⟨i, hi, rfl⟩ := List.mem_map.mp hk
     have hi := List.mem_range.mp hi
     exact (k3 i hi).name (by omega) (by omega)
  ·refine hnx _ _ ⟨s08.trans s9, hp9, W, (List.range 8).map wd, _, _, rfl, nW, fun z => pW z.symm, hW9, by simp, nodup_range fun i j hi hj hn e => ?_, fun k hk => ?_⟩
   ·have e1 := (hst.take at_).mid (c := 97 + (bg + st' * i) % 26) (b := cutS st (some (at_ : Int)) (some (sz : Int)))
    have e2 := (hst.take at_).mid (c := 97 + (bg + st' * j) % 26) (b := cutS st (some (at_ : Int)) (some (sz : Int)))
    have e' : cutS st none (some (at_ : Int)) ++ (⟨#[97 + (bg + st' * i) % 26]⟩ : Str) ++ cutS st (some (at_ : Int)) (some (sz : Int)) = cutS st none (some (at_ : Int)) ++ (⟨#[97 + (bg + st' * j) % 26]⟩ : Str) ++ cutS st (some (at_ : Int)) (some (sz : Int)) := e
    rw [e', e2] at e1
    injection e1 with e1
    exact hn (step_inj (b := bg) hst' hi hj (by omega))
   ·obtain ⟨i, hi, rfl⟩ := List.mem_map.mp hk
    exact (key2 i).name (by omega) (by omega)
 obtain ⟨s9, hp9, W', ws, q9, q10, rfl, nW', Wp, hW', wl, wn, wok⟩ := h
 refine ⟨_, rfl, _, rfl, by omega, by omega, fun D hD => ?_⟩
 rw [Int.toNat_natCast]
 have pD : p ≠ D := hp9.ne hD
 have WD : W' ≠ D := ne_of_none hW' hD
 refine lc_seqP walk_range [p, W'] hD (fun x hx z => ?_) (by omega) (fun i us H2 => PuW H2 p /\ ∃ ls os : List Str, us = os.map V.str /\ H2 W' = some (.lst (ls.map V.str)) /\ os.length = i /\ (os ++ ls).Perm ws) ⟨hp9, ws, [], rfl, hW', rfl, List.Perm.refl _⟩ (fun _ _ => trivial) (fun i us H2 H3 e ⟨h1, ls, os, h2, h3, h4⟩ => ⟨h1.keep e (by simpa using pD), ls, os, h2, e.keep _ _ h3 (by simpa using WD), h4⟩) (fun Pv i x Hx H10 us hi sx y hR hl fin _ => ?_) (fun us Hx sx hDx hR hl => ?_)
 ·rcases List.mem_cons.mp hx with e | hx
  ·exact hp9.some p (by simp) (e ▸ z)
  ·rw [List.mem_singleton.mp hx, hW'] at z; cases z
 ·obtain ⟨rfl, rfl⟩ := y
  obtain ⟨hp10, ls, os, rfl, hW10, ol, pm⟩ := hR
  have pl := pm.length_eq
  rw [List.length_append, wl] at pl
  refine ⟨rfl, _, rfl, .inl ⟨rfl, _, SqL.of hW10⟩, _, rfl, _, rfl, W', _, rfl, .inl (SqL.of hW10), p, _, rfl, hp10, by rw [List.length_map]; omega, by rw [List.length_map]; omega, fun r11 H11 r110 r11m s11 hp11 => ?_⟩
  rw [List.length_map] at r11m
  obtain ⟨u, rfl⟩ : ∃ u : Nat, r11 = (u : Int) := ⟨r11.toNat, by omega⟩
  have hu : u < ls.length := by omega
  have hW11 := s11.keep _ _ hW10 (by simpa using Wp)
  have eu : ls[u]? = some ls[u] := List.getElem?_eq_getElem hu
  refine ⟨W', _, _, u, .str ls[u], rfl, rfl, hW11, by omega, by omega, ?_, by rw [List.getElem?_map, eu]; rfl, ?_⟩
  ·rw [PySem.seqIndex_of (by omega) (by rw [List.length_map]; omega), Int.toNat_natCast]
  rw [erase_map]
  refine fin _ _ ((s11.mono (by simp)).trans (SB.set hW11 (by simp) _)) ⟨hp11.keep (SB.set (ps := [W']) hW11 (by simp) _) (by simpa using fun z : p = W' => Wp z.symm), ls.eraseIdx u, os ++ [ls[u]], by rw [List.map_append]; rfl, upd_same, by rw [List.length_append, ol]; rfl, ?_⟩
  rw [List.append_assoc]
  exact (List.Perm.append_left os (idx_perm eu)).trans pm
 obtain ⟨hpx, ls, os, rfl, hWx, ol, pm⟩ := hR
 have s0x : SB [p] H Hx := (s9.mono (qs := [p, W']) (by simp)).trans sx |>.drop2 nW'
 refine q D os Hx s0x hpx (s9.dom _ hD) hDx ol (fun k hk => wok k (pm.mem_iff.mp (List.mem_append_left _ hk))) ?_
 exact (List.nodup_append.mp (pm.nodup_iff.mpr wn)).1
abbrev N__law_many : List Str := ["_law_purse_here", "_law_most", "_law_way"]
theorem sc__law_many : FnScope N__law_many ["_law_purse_here", "_law_most"] (defScope s__law_many) := ⟨rfl, rfl, rfl, by decide +kernel, rfl, by decide +kernel, by decide +kernel⟩
theorem ok__law_many (B : BI mg) (G__law_take : Got P w K mg base "_law_take" ["_law_purse_here", "_law_many_here"] (1) (spTakeW)) (F : Fun K "_law_many" "_law_many" s__law_many f fd) : FnOk P w K mg base CX0 (2) f fd ["_law_purse_here", "_law_most"] (spManyP) := by
 refine F.ok sc__law_many (fun vs H Q E h => ?_) (fun cdv A outer s H vs Q E hr h => ?_)
 ·obtain ⟨p, m, rfl, _⟩ := h
  rfl
 obtain ⟨p, m, rfl, hp, hm, hm2, q⟩ := h
 have hun2 := hunT hr
 refine ⟨_, pss_cons (ps_set (i := 2) sc__law_many.nd rfl (.inl rfl) (pe_got G__law_take (hr.mono (by omega)) rfl (pa_cons (pv 0) (pa_cons pe_int pa_nil))))
  (pss_cons (ps_if (pt_cmpR op_lt (pv 2) pe_int (nomark _)) (pss_one (ps_ret (pe_op op_add pe_int (pv 2)))) pss_nil)
  (pss_one (ps_ret (pe_op op_add pe_int (pe_got G__law_take (hr.mono (by omega)) rfl (pa_cons (pv 0) (pa_cons (pe_ix ix_list (pe_lst (pa_cons pe_int (pa_cons (pv 1) pa_nil))) (pe_op op_sub (pv 2) pe_int) (fun _ _ => rfl)) pa_nil))))))), ?_⟩
 refine take_w (i := 0) rfl hp (by decide) (by decide) fun r1 H1 r10 r14 s1 hp1 => ?_
 refine ⟨_, rfl, _, _, rfl, rfl, _, rfl, ?_⟩
 by_cases h : r1 < 2
 ·rw [decide_eq_true h]
  exact iteT ⟨_, rfl, _, _, rfl, rfl, q _ _ (by omega) (by omega) s1 hp1⟩
 rw [decide_eq_false h]
 refine iteF ?_
 refine ⟨_, rfl, _, rfl, by show 2 <= sizeLine; decide, fun L hL => ?_⟩
 have t2 := SB.new (ps := []) hL (.lst [.int 9, .int m])
 obtain ⟨z, hz, z1, z2⟩ : ∃ z : Int, atI [V.int 9, V.int m] (r1 - 2) = some (.int z) /\ 9 <= z /\ z <= m := by
  have : r1 = 2 \/ r1 = 3 := by omega
  rcases this with e | e <;> subst e
  ·exact ⟨9, rfl, by omega, hm⟩
  ·exact ⟨m, rfl, hm, by omega⟩
 have hb : z < 2 ^ 250 := Int.lt_of_le_of_lt z2 (Int.lt_trans hm2 (by decide))
 refine ⟨_, rfl, _, _, rfl, rfl, L, _, _, _, rfl, rfl, SqL.of upd_same, hz, p, z, rfl, hp1.sb t2, by omega, hb, fun r3 H3 r30 r3m s3 hp3 => ?_⟩
 exact ⟨_, _, rfl, rfl, q _ _ (by omega) (by omega) ((s1.trans t2.nil).trans s3) hp3⟩
abbrev N__law_wood : List Str := ["_law_purse_here", "_law_pool", "_law_room", "_law_low", "_law_most", "_law_found", "_law_k", "_law_name", "_law_inner", "_law_tree", "_law_many_here", "_law_one", "_law_old", "_law_pair"]
theorem sc__law_wood : FnScope N__law_wood ["_law_purse_here", "_law_pool", "_law_room", "_law_low", "_law_most"] (defScope s__law_wood) := ⟨rfl, rfl, rfl, by decide +kernel, rfl, by decide +kernel, by decide +kernel⟩
theorem none__law_wood {ps : List Str} {k : Nat} : FnOk P w K mg base CX0 k f fd ps (spWood K 0) := none_sp fun vs H Q E ⟨p, l, R, ks, a, b, low, m, _, _, _, _, _, _, _, _, h, _⟩ => by omega
theorem ok__law_wood {n : Nat} (B : BI mg) (G__law_take : Got P w K mg base "_law_take" ["_law_purse_here", "_law_many_here"] (1) (spTakeW)) (G__law_wood : Got P w K mg base "_law_wood" ["_law_purse_here", "_law_pool", "_law_room", "_law_low", "_law_most"] (n + 2) (spWood K n)) (G__law_many : Got P w K mg base "_law_many" ["_law_purse_here", "_law_most"] (2) (spManyP)) (F : Fun K "_law_wood" "_law_wood" s__law_wood f fd) : FnOk P w K mg base CX0 (n + 3) f fd ["_law_purse_here", "_law_pool", "_law_room", "_law_low", "_law_most"] (spWood K (n + 1)) := by
 refine F.ok sc__law_wood (fun vs H Q E h => ?_) (fun cdv A outer s H vs Q E hr h => ?_)
 ·obtain ⟨p, l, R, ks, a, b, low, m, rfl, _⟩ := h
  rfl
 obtain ⟨p, l, R, ks, a, b, low, m, rfl, hp, hl, hR, lp, lR, Rp, ab, hlow, hm, kn, q⟩ := h
 have hun2 := hunT hr
 refine ⟨_, pss_cons (ps_set (i := 5) sc__law_wood.nd rfl (.inl rfl) (pe_lst pa_nil))
  (pss_cons (ps_for PassesOwn.never rfl (pi_range1 rfl B.range (pa_cons (pe_got G__law_take (hr.mono (by omega)) rfl (pa_cons (pv 0) (pa_cons (pe_ix ix_list (pv 2) pe_int (fun _ _ => rfl)) pa_nil))) pa_nil)) (pg_name (i := 6) sc__law_wood.nd rfl (.inl rfl))
   (pss_one (ps_if (PW.pt (pw_and (pt_cmpR op_gt (pe_ix ix_list (pv 2) pe_int (fun _ _ => rfl)) pe_int (nomark _)) (pw_and1 (pt_cmpR (op_neD (by show A.units + 3 + 64 < cLine; omega)) (pv 1) (pe_lst pa_nil) (nomark _))))) (pss_cons (ps_asg (pe_op op_sub (pe_ix ix_list (pv 2) pe_int (fun _ _ => rfl)) pe_int) (pg_sub (pv 2) pe_int set_list))
  (pss_cons (ps_set (i := 7) sc__law_wood.nd rfl (.inl rfl) (pe_ix ix_list (pv 1) (pe_got G__law_take (hr.mono (by omega)) rfl (pa_cons (pv 0) (pa_cons (pe_callB call_len_seq rfl B.len PySem.boot_len (pa_cons (pv 1) pa_nil)) pa_nil))) (fun _ _ => rfl)))
  (pss_cons (ps_set (i := 8) sc__law_wood.nd rfl (.inl rfl) (pe_tup pa_nil))
  (pss_cons (ps_if (PW.pt (pw_and (pt_cmpR op_gt (pv 3) pe_int (nomark _)) (pw_and1 (pt_cmpR op_gt (pe_got G__law_take (hr.mono (by omega)) rfl (pa_cons (pv 0) (pa_cons pe_int pa_nil))) pe_int (nomark _))))) (pss_one (ps_set (i := 8) sc__law_wood.nd rfl (.inl rfl) (pe_got G__law_wood (hr.mono (by omega)) rfl (pa_cons (pv 0) (pa_cons (pv 1) (pa_cons (pv 2) (pa_cons (pe_op op_sub (pv 3) pe_int) (pa_cons (pv 4) pa_nil)))))))) pss_nil)
  (pss_cons (ps_set (i := 9) sc__law_wood.nd rfl (.inr rfl) (pe_tup (pa_cons (pv 7) (pa_cons (pv 8) pa_nil))))
  (pss_cons (ps_set (i := 10) sc__law_wood.nd rfl (.inl rfl) (pe_op op_add (pe_got G__law_many (hr.mono (by omega)) rfl (pa_cons (pv 0) (pa_cons (pv 4) pa_nil))) (pe_callB (cr_sum rfl) rfl B.sum boot_sum (pa_cons (pe_lc (own := [("_law_one", 11), ("_law_old", 12)]) (g := (gTup K 2 (gCons (gName 11) (gCons (gName 12) gNil)))) (tt := (tTest (tOp (rEqD K) (tVar 11) (tVar 9)))) (te := (tVar 12)) rfl sc__law_wood.nd (pi_list (pv 5)) (blkOk_by (N := N__law_wood) (sc := defScope s__law_wood) (by decide +kernel)) (fun _ _ _ _ _ => (pg_tup rfl (pgs_cons (pg_name (i := 11) sc__law_wood.nd rfl (.inl rfl)) (pgs_cons (pg_name (i := 12) sc__law_wood.nd rfl (.inl rfl)) pgs_nil)))) (fun _ _ _ _ _ => (pts_one (pt_cmpR (op_eqD (by show A.units + 3 + 64 < cLine; omega)) (pv 11) (pv 9) (nomark _)))) (fun _ _ _ _ _ => (pv 12))) pa_nil))))
  (pss_one (ps_set (i := 5) sc__law_wood.nd rfl (.inl rfl) (pe_op op_cat (pe_lc (own := [("_law_pair", 13)]) (g := (gName 13)) (tt := (tTest (tOp (rNeD K) (tOp (rIxT K) (tVar 13) (tC (.int 0))) (tVar 9)))) (te := (tVar 13)) rfl sc__law_wood.nd (pi_list (pv 5)) (blkOk_by (N := N__law_wood) (sc := defScope s__law_wood) (by decide +kernel)) (fun _ _ _ _ _ => (pg_name (i := 13) sc__law_wood.nd rfl (.inl rfl))) (fun _ _ _ _ _ => (pts_one (pt_cmpR (op_neD (by show A.units + 3 + 64 < cLine; omega)) (pe_ix ix_tup (pv 13) pe_int (fun _ _ => rfl)) (pv 9) (nomark _)))) (fun _ _ _ _ _ => (pv 13))) (pe_lst (pa_cons (pe_tup (pa_cons (pv 9) (pa_cons (pe_callB (call_min2 rfl) rfl B.min boot_min (pa_cons (pv 4) (pa_cons (pv 10) pa_nil))) pa_nil))) pa_nil))))))))))) pss_nil)))
  (pss_one (ps_ret (pe_callTy call_tuple_of rfl B.tuple boot_tuple (pa_cons (pe_callB (cr_sortedB Gr.pEnc (by show A.units + 3 + 110 < cLine; omega)) rfl B.sorted (by decide +kernel) (pa_cons (pv 5) pa_nil)) pa_nil))))), ?_⟩
 have szl := sizeLine_eq
 obtain ⟨a60, b1, b9⟩ := ab
 obtain ⟨low1, lown, low12⟩ := hlow
 obtain ⟨m9, m30⟩ := hm
 obtain ⟨k8, kn⟩ := kn
 have m200 : m < 2 ^ 200 := Int.lt_of_le_of_lt m30 (by decide)
 refine ⟨by show 0 <= sizeLine; decide, fun F0 hF0 => ?_⟩
 have t0 := SB.new (ps := []) hF0 (.lst [])
 have hp0 := hp.sb t0
 have hl0 := t0.keep _ _ hl nmn
 have hR0 := t0.keep _ _ hR nmn
 have hF00 : upd H F0 (.lst []) F0 = some (.lst []) := upd_same
 have Fp0 : F0 ≠ p := fun z => hp.ne hF0 z.symm
 have FR0 : F0 ≠ R := fun z => ne_of_none hR hF0 z.symm
 generalize upd H F0 (.lst []) = H0 at t0 hp0 hl0 hR0 hF00
 refine ⟨_, rfl, _, rfl, R, _, _, _, rfl, rfl, SqL.of hR0, atI_nat (j := 1) rfl, p, (b : Int), rfl, hp0, by omega, by omega, fun r1 H1 r10 r1b s1 hp1 => ?_⟩
 obtain ⟨c, rfl⟩ : ∃ c : Nat, r1 = (c : Int) := ⟨r1.toNat, by omega⟩
 refine ⟨_, rfl, by omega, by omega, ?_⟩
 rw [Int.toNat_natCast]
 have nF : ∀ {F : Addr}, F ≠ p -> F ∉ [p] := fun h => by simpa using h
 have lR1 := s1.keep _ _ hl0 (by simpa using lp)
 refine for_it walk_range (fun i σ H2 => SB [p, R] H H2 /\ PuW H2 p /\ ∃ (F : Addr) (ys : List V) (bs : List (Tr × Int)) (a' : Nat) (o6 o7 o8 o9 o10 : Option V), σ = [some (.ref p), some (.ref l), some (.ref R), some (.int (low : Int)), some (.int m), some (.ref F), o6, o7, o8, o9, o10, none, none, none] /\ F ≠ p /\ F ≠ R /\ H2 F = some (.lst ys) /\ H2 R = some (.lst [.int (a' : Int), .int (b : Int)]) /\ Bears K H2 Gr.pEnc ys bs /\
   (bs.map (·.1)).Nodup /\ (∀ x ∈ bs, NameOk x.1.1 /\ x.1.2.Ok (m + 1) /\ 1 <= x.2 /\ x.2 < m + 1 /\ x.1.2.deep < low /\ x.1.1 ∈ ks /\ ∀ y ∈ x.1.2.within, y.1.1 ∈ ks) /\ Gr.tot bs + a' <= a /\ bs.length <= i)
  ⟨(t0.nil (ps := [p, R])).trans (s1.mono (by simp)), hp1, F0, [], [], a, none, none, none, none, none, rfl, Fp0, FR0, s1.keep _ _ hF00 (nF Fp0), s1.keep _ _ hR0 (by simpa using Rp), .nil, by simp, by simp, by simp [Gr.tot], by simp⟩ (fun _ _ _ _ _ => trivial) (fun i x σ Hq H2 hi h2 y => ?_) (fun σ H2 h2 => ?_)
 ·obtain ⟨s2, hp2, F, ys, bs, a', o6, o7, o8, o9, o10, rfl, Fp, FR, hF2, hR2, hbs, nd, ok, ht, hbl⟩ := h2
  obtain ⟨rfl, rfl⟩ := y
  have hl2 := s2.keep _ _ hl (by simp [lp, lR])
  have yl := hbs.length
  refine ⟨_, rfl, R, _, _, _, rfl, rfl, SqL.of hR2, atI_nat (j := 0) rfl, _, _, rfl, rfl, _, rfl, ?_⟩
  by_cases ha : 0 < a'
  ·rw [show decide ((0 : Int) < (a' : Int)) = true from decide_eq_true (by omega)]
   refine iteT ?_
   refine ⟨_, rfl, by show 0 <= sizeLine; decide, fun e0 he0 => ?_⟩
   have t3 := SB.new (ps := []) he0 (.lst [])
   refine ⟨_, _, .lst (t3.sqL nmn (SqL.of hl2)) (Dp_strs ks), .lst (SqL.of upd_same) .nil, names_shaped kn, by decide +kernel, _, rfl, ?_⟩
   rw [eqv_nil]
   have s3 := s2.trans (t3.nil (ps := [p, R]))
   have hp3 := hp2.sb t3
   have hl3 := t3.keep _ _ hl2 nmn
   have hF3 := t3.keep _ _ hF2 nmn
   have hR3 := t3.keep _ _ hR2 nmn
   have hbs3 := hbs.sb t3 Gr.noList_pEnc
   generalize upd H2 e0 (.lst []) = H3 at t3 s3 hp3 hl3 hF3 hR3 hbs3
   by_cases hk : ks = []
   ·rw [show (!decide (ks = [])) = false by simp [hk]]
    exact iteF ⟨s3, hp3, F, ys, bs, a', _, _, _, _, _, rfl, Fp, FR, hF3, hR3, hbs3, nd, ok, ht, by omega⟩
   ·rw [show (!decide (ks = [])) = true by simp [hk]]
    refine iteT ?_
    have kpos : 0 < ks.length := List.length_pos_iff.mpr hk
    refine ⟨_, rfl, R, _, _, _, rfl, rfl, SqL.of hR3, atI_nat (j := 0) rfl, _, _, rfl, rfl, ?_⟩
    refine ⟨_, rfl, R, _, _, _, rfl, rfl, hR3, rfl, ?_⟩
    have e4 : upd H3 R (.lst ([V.int (a' : Int), V.int (b : Int)].set (Int.toNat 0) (V.int ((a' : Int) - 1)))) = upd H3 R (.lst [.int ((a' - 1 : Nat) : Int), .int (b : Int)]) := by
     rw [show ((a' - 1 : Nat) : Int) = (a' : Int) - 1 by omega]; rfl
    refine cast (congrArg _ e4.symm) ?_
    have t4 := SB.set (ps := [R]) hR3 (by simp) (.lst [.int ((a' - 1 : Nat) : Int), .int (b : Int)])
    have s4 := s3.trans (t4.mono (qs := [p, R]) (by simp))
    have hp4 := hp3.keep t4 (by simpa using fun z : p = R => Rp z.symm)
    have hl4 := t4.keep _ _ hl3 (by simpa using lR)
    have hF4 := t4.keep _ _ hF3 (by simpa using FR)
    have hR4 : upd H3 R (.lst [.int ((a' - 1 : Nat) : Int), .int (b : Int)]) R = some (.lst [.int ((a' - 1 : Nat) : Int), .int (b : Int)]) := upd_same
    have hbs4 := hbs3.sb t4 Gr.noList_pEnc
    generalize upd H3 R (.lst [.int ((a' - 1 : Nat) : Int), .int (b : Int)]) = H4 at t4 s4 hp4 hl4 hF4 hR4 hbs4
    refine ⟨_, rfl, _, rfl, _, rfl, l, _, rfl, .inl (SqL.of hl4), p, _, rfl, hp4, by rw [List.length_map]; omega, by rw [List.length_map]; omega, fun r5 H5 r50 r5m s5 hp5 => ?_⟩
    obtain ⟨kk, rfl⟩ : ∃ u : Nat, r5 = (u : Int) := ⟨r5.toNat, by omega⟩
    rw [List.length_map] at r5m
    have hk1 : kk < ks.length := by omega
    have hl5 := s5.keep _ _ hl4 (by simpa using lp)
    have hF5 := s5.keep _ _ hF4 (nF Fp)
    have hR5 := s5.keep _ _ hR4 (by simpa using Rp)
    have hbs5 := hbs4.sb s5 Gr.noList_pEnc
    have s05 := s4.trans (s5.mono (qs := [p, R]) (by simp))
    refine ⟨l, _, _, _, rfl, rfl, SqL.of hl5, atI_nat (j := kk) (v := .str ks[kk]) (by rw [List.getElem?_map, List.getElem?_eq_getElem hk1]; rfl), ?_⟩
    have nmk : ks[kk] ∈ ks := List.getElem_mem hk1
    have nmo := kn _ nmk
    generalize ks[kk] = nm at nmk nmo
    refine ⟨by show 0 <= sizeLine; decide, fun e1 he1 => ?_⟩
    have t6 := SB.new (ps := []) he1 (.tup [])
    have hp6 := hp5.sb t6
    have hl6 := t6.keep _ _ hl5 nmn
    have hF6 := t6.keep _ _ hF5 nmn
    have hR6 := t6.keep _ _ hR5 nmn
    have hbs6 := hbs5.sb t6 Gr.noList_pEnc
    have s06 := s05.trans (t6.nil (ps := [p, R]))
    have he6 : GA K (upd H5 e1 (.tup [])) (.ref e1) .nil := GA_nil (SqT.of upd_same)
    generalize upd H5 e1 (.tup []) = H6 at t6 hp6 hl6 hF6 hR6 hbs6 s06 he6
    refine nameI ?_
    refine seq_via (fun σ' H7 => ∃ (iv : V) (g : Gr) (a2 : Nat), σ' = [some (.ref p), some (.ref l), some (.ref R), some (.int (low : Int)), some (.int m), some (.ref F), some (.int (0 + (i : Int))), some (.str nm), some iv, o9, o10, none, none, none] /\ SB [p, R] H H7 /\ PuW H7 p /\ H7 F = some (.lst ys) /\ H7 R = some (.lst [.int (a2 : Int), .int (b : Int)]) /\ Bears K H7 Gr.pEnc ys bs /\ GA K H7 iv g /\ g.Ok (m + 1) /\ g.parts + a2 <= a' - 1 /\ g.deep < low /\ ∀ y ∈ g.within, y.1.1 ∈ ks) (fun nx hnx => ?_) (fun σ' H7 h7 => ?_)
    ·have skip : ∀ H7, SB [p] H6 H7 -> PuW H7 p -> nx [some (.ref p), some (.ref l), some (.ref R), some (.int (low : Int)), some (.int m), some (.ref F), some (.int (0 + (i : Int))), some (.str nm), some (.ref e1), o9, o10, none, none, none] H7 := fun H7 s7 hp7 =>
      hnx _ _ ⟨.ref e1, .nil, a' - 1, rfl, s06.trans (s7.mono (by simp)), hp7, s7.keep _ _ hF6 (nF Fp), s7.keep _ _ hR6 (by simpa using Rp), hbs6.sb s7 Gr.noList_pEnc, he6.sb s7, trivial, by show 0 + (a' - 1) <= _; omega, by show 0 < low; omega, fun y hy => by cases hy⟩
     refine ⟨_, rfl, _, _, rfl, rfl, _, rfl, ?_⟩
     by_cases h1 : 1 < low
     ·rw [show decide ((1 : Int) < (low : Int)) = true from decide_eq_true (by omega)]
      refine iteT ?_
      refine take_w (i := 0) rfl hp6 (by decide) (by decide) fun r7 H7 r70 r73 s7 hp7 => ?_
      refine ⟨_, _, rfl, rfl, _, rfl, ?_⟩
      refine ite2 (fun _ => ?_) (fun _ => skip H7 s7 hp7)
      have hl7 := s7.keep _ _ hl6 (by simpa using lp)
      have hR7 := s7.keep _ _ hR6 (by simpa using Rp)
      refine ⟨_, rfl, _, rfl, _, rfl, _, rfl, _, _, rfl, rfl, _, rfl, p, l, R, ks, a' - 1, b, low - 1, m, by rw [show ((low - 1 : Nat) : Int) = (low : Int) - 1 by omega]; rfl, hp7, hl7, hR7, lp, lR, Rp, ⟨by omega, b1, b9⟩, ⟨by omega, by omega, by omega⟩, ⟨m9, m30⟩, ⟨k8, kn⟩, fun v g a2 H8 s8 hp8 hR8 hg gok gp gd gw => ?_⟩
      have nFF : F ∉ [p, R] := by simp [Fp, FR]
      exact hnx _ _ ⟨v, g, a2, rfl, (s06.trans (s7.mono (by simp))).trans s8, hp8, s8.keep _ _ (s7.keep _ _ hF6 (nF Fp)) nFF, hR8, (hbs6.sb s7 Gr.noList_pEnc).sb s8 Gr.noList_pEnc, hg, gok, by omega, by omega, gw⟩
     ·rw [show decide ((1 : Int) < (low : Int)) = false from decide_eq_false (by omega)]
      exact iteF (skip H6 SB.refl hp6)
    obtain ⟨iv, g, a2, rfl, s07, hp7, hF7, hR7, hbs7, hg7, gok, gp, gd, gw⟩ := h7
    refine ⟨_, rfl, _, rfl, by show 2 <= sizeLine; decide, fun T hT => ?_⟩
    have t8 := SB.new (ps := []) hT (.tup [.str nm, iv])
    have dT : Dp K (upd H7 T (.tup [.str nm, iv])) (.ref T) (Gr.tEnc (nm, g)) := .tup (.inl (.inl upd_same)) (.cons (.str _) (.cons (hg7.sb t8) .nil))
    have hp8 := hp7.sb t8
    have hF8 := t8.keep _ _ hF7 nmn
    have hR8 := t8.keep _ _ hR7 nmn
    have hbs8 := hbs7.sb t8 Gr.noList_pEnc
    have s08 := s07.trans (t8.nil (ps := [p, R]))
    generalize upd H7 T (.tup [.str nm, iv]) = H8 at t8 dT hp8 hF8 hR8 hbs8 s08
    have shT : SeqAt.shaped (Gr.tEnc (nm, g)) = true := Gr.shaped_tEnc nmo gok (by show g.deep <= 20; omega)
    refine ⟨_, rfl, _, rfl, p, m, rfl, hp8, m9, m200, fun r9 H9 r91 r9m s9 hp9 => ?_⟩
    have hF9 := s9.keep _ _ hF8 (nF Fp)
    have hR9 := s9.keep _ _ hR8 (by simpa using Rp)
    have hbs9 := hbs8.sb s9 Gr.noList_pEnc
    have dT9 := Dp_sb s9 _ _ (Gr.noList_tEnc _) dT
    have s09 := s08.trans (s9.mono (qs := [p, R]) (by simp))
    refine ⟨_, rfl, F, rfl, ⟨_, SqL.of hF9⟩, fun D hD => ?_⟩
    refine lc_seq (walk_list (xs := ys)) hD (by omega) (fun _ us _ => ∃ ns : List Int, us = ns.map V.int /\ ∀ x ∈ ns, 0 <= x) ⟨[], rfl, by simp⟩ (fun H6 s6 => s6.sqL nmn (SqL.of hF9)) (fun _ _ _ _ _ h => h) (fun Pv j x Hz H10 us hj s10 y hR' hl6 fin fin2 => ?_) (fun us H10 s10 hD10 hR' _ => ?_)
    ·obtain ⟨rfl, ex⟩ := y
     obtain ⟨pr, ep, hpd⟩ := hbs9.get ex
     obtain ⟨p1, p2, p3, p4, p5, _⟩ := ok pr (List.mem_of_getElem? ep)
     obtain ⟨ad, td, ux, rfl, hs2, hs3, hga, hdt⟩ := PA_parts hpd
     obtain ⟨ns, rfl, nn⟩ := hR'
     refine ⟨ad, _, rfl, s10.sqT hs2, rfl, _, _, rfl, _, _, rfl, rfl, rfl, ?_⟩
     refine ⟨_, rfl, _, rfl, _, _, Dp_sb s10 _ _ (Gr.noList_tEnc _) hdt, Dp_sb s10 _ _ (Gr.noList_tEnc _) dT9, Gr.shaped_tEnc p1 p2 (by omega), shT, _, rfl, ?_⟩
     refine ite2 (fun _ => ?_) (fun _ => fin2 _ SB.refl ⟨ns, rfl, nn⟩)
     refine ⟨_, rfl, fin _ _ SB.refl ⟨ns ++ [pr.2], by rw [List.map_append]; rfl, fun x hx => ?_⟩⟩
     rcases List.mem_append.mp hx with hx | hx
     ·exact nn x hx
     ·rw [List.mem_singleton.mp hx]; omega
    obtain ⟨ns, rfl, nn⟩ := hR'
    have hsum : 0 <= ns.sum := sum_from0 nn
    refine ⟨D, ns, rfl, SqL.of hD10, _, _, rfl, rfl, ?_⟩
    generalize ns.sum = sm at hsum
    clear hD10 nn
    have hF10 := s10.keep _ _ hF9 nmn
    have hbs10 := hbs9.sb s10 Gr.noList_pEnc
    have dT10 := Dp_sb s10 _ _ (Gr.noList_tEnc _) dT9
    refine ⟨_, rfl, F, rfl, ⟨_, SqL.of hF10⟩, fun D2 hD2 => ?_⟩
    refine lc_seq (walk_list (xs := ys)) hD2 (by omega) (fun j us H7 => Bears K H7 Gr.pEnc us ((bs.take j).filter fun x => decide (x.1 ≠ (nm, g)))) .nil (fun H7 s7 => s7.sqL nmn (SqL.of hF10)) (fun _ _ _ _ e h => h.sb e Gr.noList_pEnc) (fun Pv j x Hz H11 us hj s11 y hR' hl7 fin fin2 => ?_) (fun us H11 s11 hD11 hR' hl7 => ?_)
    ·obtain ⟨rfl, ex⟩ := y
     obtain ⟨pr, ep, hpd⟩ := hbs10.get ex
     obtain ⟨p1, p2, p3, p4, p5, _⟩ := ok pr (List.mem_of_getElem? ep)
     obtain ⟨ad, td, ux, rfl, hs2, hs3, hga, hdt⟩ := PA_parts hpd
     refine ⟨rfl, _, rfl, ad, _, _, _, rfl, rfl, s11.sqT hs2, atI_nat (j := 0) rfl, _, rfl, _, _, Dp_sb s11 _ _ (Gr.noList_tEnc _) hdt, Dp_sb s11 _ _ (Gr.noList_tEnc _) dT10, Gr.shaped_tEnc p1 p2 (by omega), shT, _, rfl, ?_⟩
     rw [Orderly.eq (enc := Gr.tEnc) pr.1 (nm, g)]
     by_cases e : pr.1 = (nm, g)
     ·rw [decide_eq_true e]
      refine iteF (fin2 _ SB.refl ?_)
      rw [List.take_add_one, ep, Option.toList_some, List.filter_append, List.filter_cons_of_neg (by simpa using e), List.filter_nil, List.append_nil]
      exact hR'
     ·rw [decide_eq_false e]
      refine iteT ⟨_, rfl, fin _ _ SB.refl ?_⟩
      rw [List.take_add_one, ep, Option.toList_some, List.filter_append, List.filter_cons_of_pos (by simpa using e), List.filter_nil]
      exact Bears.append hR' (.cons (Dp_sb s11 _ _ (Gr.noList_pEnc _) hpd) .nil)
    rw [yl, List.take_length] at hR'
    refine ⟨_, rfl, _, rfl, _, rfl, _, _, rfl, ?_⟩
    obtain ⟨mn, hmn, mn1, mn2⟩ : ∃ mn : Int, (if r9 + sm < m then r9 + sm else m) = mn /\ 1 <= mn /\ mn < m + 1 := by
     split
     ·exact ⟨_, rfl, by omega, by omega⟩
     ·exact ⟨_, rfl, by omega, by omega⟩
    simp only [hmn]
    refine ⟨by show 2 <= sizeLine; decide, fun P1 hP1 => ?_⟩
    have t12 := SB.new (ps := []) hP1 (.tup [.ref T, .int mn])
    have dP : Dp K (upd H11 P1 (.tup [.ref T, .int mn])) (.ref P1) (Gr.pEnc ((nm, g), mn)) := .tup (.inl (.inl upd_same)) (.cons (Dp_sb (s11.trans t12) _ _ (Gr.noList_tEnc _) dT10) (.cons (.int _) .nil))
    generalize upd H11 P1 (.tup [.ref T, .int mn]) = H12 at t12 dP
    refine ⟨by show 1 <= sizeLine; decide, fun L1 hL1 => ?_⟩
    have t13 := SB.new (ps := []) hL1 (.lst [.ref P1])
    have ul := hR'.length
    have fl : (bs.filter fun x => decide (x.1 ≠ (nm, g))).length <= bs.length := List.length_filter_le ..
    refine ⟨D2, L1, us, _, rfl, rfl, t13.keep _ _ (t12.keep _ _ hD11 nmn) nmn, upd_same, by show us.length + 1 <= sizeLine; omega, fun F2 hF2' => ?_⟩
    have t14 := SB.new (ps := []) hF2' (.lst (us ++ [.ref P1]))
    have s1114 := (t12.trans t13).trans t14
    have s914 := (s10.trans s11).trans s1114
    have hp13 := hp9.sb ((s10.trans s11).trans (t12.trans t13))
    have hR13 := ((s10.trans s11).trans (t12.trans t13)).keep _ _ hR9 nmn
    refine ⟨s09.trans s914.nil, hp9.sb s914, F2, _, _, a2, _, _, _, _, _, rfl, fun z => hp13.ne hF2' z.symm, fun z => ne_of_none hR13 hF2' z.symm, upd_same, s914.keep _ _ hR9 nmn, Bears.append (hR'.sb s1114 Gr.noList_pEnc) (.cons (Dp_sb (t13.trans t14) _ _ (Gr.noList_pEnc _) dP) .nil), ?_, ?_, ?_, ?_⟩
    ·rw [List.map_append, List.nodup_append]
     refine ⟨(List.Sublist.map _ List.filter_sublist).nodup nd, by simp, fun x hx y hy e => ?_⟩
     obtain ⟨pr, hpr, rfl⟩ := List.mem_map.mp hx
     have h1 := (List.mem_filter.mp hpr).2
     have h2 : y = (nm, g) := by simpa using hy
     rw [h2] at e
     exact of_decide_eq_true h1 e
    ·intro x hx
     rcases List.mem_append.mp hx with hx | hx
     ·exact ok x (List.mem_filter.mp hx).1
     ·rw [List.mem_singleton.mp hx]
      exact ⟨nmo, gok, mn1, mn2, gd, nmk, gw⟩
    ·rw [Gr.tot_append]
     have := tot_filter (fun x => decide (x.1 ≠ (nm, g))) bs
     have e1 : Gr.tot [((nm, g), mn)] = 1 + g.parts := by simp [Gr.tot]
     omega
    ·rw [List.length_append, List.length_singleton]; omega
  ·rw [show decide ((0 : Int) < (a' : Int)) = false from decide_eq_false (by omega)]
   exact iteF ⟨s2, hp2, F, ys, bs, a', _, _, _, _, _, rfl, Fp, FR, hF2, hR2, hbs, nd, ok, ht, by omega⟩
 ·obtain ⟨s2, hp2, F, ys, bs, a', o6, o7, o8, o9, o10, rfl, Fp, FR, hF2, hR2, hbs, nd, ok, ht, hbl⟩ := h2
  have yl := hbs.length
  refine ⟨_, rfl, F, ys, bs, rfl, .inl (SqL.of hF2), hbs, Gr.pEnc_all _, Gr.pEnc_sortable _, by omega, fun x hx => ?_, fun D zs hD hz => ?_⟩
  ·have := Gr.pEnc_depth x
   have := (ok x hx).2.2.2.2.1
   omega
  have t3 := SB.new (ps := []) hD (.lst zs)
  refine ⟨D, zs, rfl, .inl ⟨SqL.of upd_same, fun T hT => ?_⟩⟩
  have t4 := SB.new (ps := []) hT (.tup zs)
  have hz4 : Bears K _ Gr.pEnc zs (srtE Gr.pEnc bs) := (hz.sb t3 Gr.noList_pEnc).sb t4 Gr.noList_pEnc
  have g4 := Bears_ga (.inl (.inl upd_same)) hz4
  have s24 := t3.trans t4
  refine q _ _ a' _ (s2.trans s24.nil) (hp2.sb s24) (s24.keep _ _ hR2 nmn) g4 (srt_ok nd fun x hx => ?_) ?_ ?_ ?_
  ·obtain ⟨a1, a2, a3, a4, _⟩ := ok x hx
   exact ⟨a1, a2, a3, a4⟩
  ·rw [Gr.parts_ofPs, Gr.tot_perm (srtE_perm bs)]
   exact ht
  ·refine Gr.deep_le fun x hx => ?_
   rw [Gr.ps_ofPs] at hx
   have := (ok x ((srtE_perm bs).mem_iff.mp hx)).2.2.2.2.1
   omega
  ·intro x hx
   rw [Gr.within_ps, Gr.ps_ofPs] at hx
   obtain ⟨x', hx', hx⟩ := List.mem_flatMap.mp hx
   obtain ⟨_, _, _, _, _, k1, k2⟩ := ok x' ((srtE_perm bs).mem_iff.mp hx')
   rcases List.mem_cons.mp hx with hx | hx
   ·rw [hx]; exact k1
   ·exact k2 x hx
abbrev N__law_kinds : List Str := ["_law_script", "_law_names_here", "_law_purse_here", "_law_ranked", "_law_kinds_here", "_law_k", "_law_name", "_law_own", "_law_pool", "_law_rules", "_law_wild", "_law_turn", "_law_share", "_law_once"]
theorem sc__law_kinds : FnScope N__law_kinds ["_law_script", "_law_names_here"] (defScope s__law_kinds) := ⟨rfl, rfl, rfl, by decide +kernel, rfl, by decide +kernel, by decide +kernel⟩
theorem ok__law_kinds (B : BI mg) (G__law_purse : Got P w K mg base "_law_purse" ["_law_script", "_law_k"] (1) (spPurseW K)) (G__law_take : Got P w K mg base "_law_take" ["_law_purse_here", "_law_many_here"] (1) (spTakeW)) (G__law_wood : Got P w K mg base "_law_wood" ["_law_purse_here", "_law_pool", "_law_room", "_law_low", "_law_most"] (15) (spWood K 13)) (F : Fun K "_law_kinds" "_law_kinds" s__law_kinds f fd) : FnOk P w K mg base CX0 (16) f fd ["_law_script", "_law_names_here"] (spKindsP K) := by
 refine F.ok sc__law_kinds (fun vs H Q E h => ?_) (fun cdv A outer s H vs Q E hr h => ?_)
 ·obtain ⟨a, l, ns, ks, rfl, _⟩ := h
  rfl
 obtain ⟨a, l, ns, ks, rfl, hs, nl, hl, k1, k8, knd, kn, q⟩ := h
 have hun2 := hunT hr
 refine ⟨_, pss_cons (ps_set (i := 2) sc__law_kinds.nd rfl (.inr rfl) (pe_got G__law_purse (hr.mono (by omega)) rfl (pa_cons (pv 0) (pa_cons pe_int pa_nil))))
  (pss_cons (ps_set (i := 3) sc__law_kinds.nd rfl (.inl rfl) (pe_cmpR op_gt (pe_got G__law_take (hr.mono (by omega)) rfl (pa_cons (pv 2) (pa_cons pe_int pa_nil))) pe_int (nomark _)))
  (pss_cons (ps_set (i := 4) sc__law_kinds.nd rfl (.inr rfl) (pe_lst pa_nil))
  (pss_cons (ps_for PassesOwn.never rfl (pi_enum rfl B.enumerate (pa_cons (pv 1) pa_nil)) (pg_tup rfl (pgs_cons (pg_name (i := 5) sc__law_kinds.nd rfl (.inl rfl)) (pgs_cons (pg_name (i := 6) sc__law_kinds.nd rfl (.inl rfl)) pgs_nil)))
   (pss_cons (ps_set (i := 7) sc__law_kinds.nd rfl (.inl rfl) (pe_got G__law_purse (hr.mono (by omega)) rfl (pa_cons (pv 0) (pa_cons (pe_op op_add pe_int (pv 5)) pa_nil))))
  (pss_cons (ps_set (i := 8) sc__law_kinds.nd rfl (.inl rfl) (pe_callTy call_list_of rfl B.list boot_list (pa_cons (pv 1) pa_nil)))
  (pss_cons (ps_if (pt_val (pv 3)) (pss_one (ps_set (i := 8) sc__law_kinds.nd rfl (.inl rfl) (pe_slice sl_list (pv 1) (po_some (pe_op op_add (pv 5) pe_int)) po_none))) pss_nil)
  (pss_cons (ps_set (i := 9) sc__law_kinds.nd rfl (.inl rfl) (pe_lst pa_nil))
  (pss_cons (ps_set (i := 10) sc__law_kinds.nd rfl (.inl rfl) (pe_cmpR op_eq (pe_got G__law_take (hr.mono (by omega)) rfl (pa_cons (pv 7) (pa_cons pe_int pa_nil))) pe_int (nomark _)))
  (pss_cons (ps_for PassesOwn.never rfl (pi_range1 rfl B.range (pa_cons (pe_got G__law_take (hr.mono (by omega)) rfl (pa_cons (pv 7) (pa_cons pe_int pa_nil))) pa_nil)) (pg_name (i := 11) sc__law_kinds.nd rfl (.inl rfl))
   (pss_cons (ps_set (i := 12) sc__law_kinds.nd rfl (.inl rfl) (pe_got G__law_take (hr.mono (by omega)) rfl (pa_cons (pv 7) (pa_cons pe_int pa_nil))))
  (pss_cons (ps_set (i := 13) sc__law_kinds.nd rfl (.inl rfl) (pe_got G__law_wood (hr.mono (by omega)) rfl (pa_cons (pv 7) (pa_cons (pv 8) (pa_cons (pe_lst (pa_cons (pv 12) (pa_cons pe_int pa_nil))) (pa_cons pe_int (pa_cons (pe_op op_pow pe_int pe_int) pa_nil)))))))
  (pss_one (ps_expr (pe_bm PySem.F.plainAttrs_list PySem.F.slot_list_append PySem.F.type_list_append mt_append (pv 9) (pa_cons (pe_tup (pa_cons (pv 13) (pa_cons (pe_got G__law_wood (hr.mono (by omega)) rfl (pa_cons (pv 7) (pa_cons (pv 8) (pa_cons (pe_lst (pa_cons (pe_op op_sub pe_int (pv 12)) (pa_cons pe_int pa_nil))) (pa_cons pe_int (pa_cons (pe_op op_pow pe_int pe_int) pa_nil)))))) pa_nil))) pa_nil)))))))
  (pss_one (ps_expr (pe_bm PySem.F.plainAttrs_list PySem.F.slot_list_append PySem.F.type_list_append mt_append (pv 4) (pa_cons (pe_tup (pa_cons (pv 6) (pa_cons (pv 10) (pa_cons (pv 9) pa_nil)))) pa_nil)))))))))))
  (pss_one (ps_ret (pe_lc (own := [("_law_k", 5)]) (g := (gName 5)) (tt := tYes) (te := (tBM K "list" rPopAt (tVar 4) (tCons (tCall (spTakeW) [] E0 (tCons (tVar 2) (tCons (tCB (fun xs H Q => ∃ p ys, xs = [.ref p] /\ (SqL K H p ys \/ SqT K H p ys) /\ Q (.int ys.length) H) (tCons (tVar 4) tNil)) tNil))) tNil))) rfl sc__law_kinds.nd (pi_range1 rfl B.range (pa_cons (pe_callB call_len_seq rfl B.len PySem.boot_len (pa_cons (pv 1) pa_nil)) pa_nil)) (blkOk_by (N := N__law_kinds) (sc := defScope s__law_kinds) (by decide +kernel)) (fun _ _ _ _ _ => (pg_name (i := 5) sc__law_kinds.nd rfl (.inl rfl))) (fun _ _ _ _ _ => pts_nil) (fun _ _ _ _ _ => (pe_bm PySem.F.plainAttrs_list PySem.F.slot_list_pop PySem.F.type_list_pop mt_popAt (pv 4) (pa_cons (pe_got G__law_take (hr.mono (by omega)) rfl (pa_cons (pv 2) (pa_cons (pe_callB call_len_seq rfl B.len PySem.boot_len (pa_cons (pv 4) pa_nil)) pa_nil))) pa_nil))))))))), ?_⟩
 have szl := sizeLine_eq
 refine ⟨_, rfl, a, ns, 1, rfl, hs, nl, by omega, fun p0 H1 s1 np1 hp1 => ?_⟩
 refine take_w (i := 2) rfl hp1 (by decide) (by decide) fun r2 H2 r20 r23 s2 hp2 => ?_
 refine ⟨_, _, rfl, rfl, ?_⟩
 have s02 : SB [] H H2 := ((s1.nil (ps := [p0])).trans s2).drop np1
 have hl2 := s02.keep _ _ hl nmn
 refine ⟨(by show 0 <= sizeLine; decide), fun KL hKL => ?_⟩
 have t3 := SB.new (ps := []) hKL (.lst [])
 have s03 := s02.trans t3
 have nKL : H KL = none := s02.dom _ hKL
 have lK : l ≠ KL := ne_of_none hl2 hKL
 have pK : p0 ≠ KL := hp2.ne hKL
 have hp3 := hp2.sb t3
 have hl3 := t3.keep _ _ hl2 nmn
 have hK3 : upd H2 KL (.lst []) KL = some (.lst []) := upd_same
 generalize upd H2 KL (.lst []) = H3 at t3 s03 hp3 hl3 hK3
 refine ⟨_, rfl, l, _, rfl, SqL.of hl3, ?_⟩
 refine for_it (walk_enum (K := K) (a := l) (xs := ks.map V.str)) (fun i σ H2 => SB [KL] H3 H2 /\ ∃ (xs : List V) (b : Bk) (o5 o6 o7 o8 o9 o10 o11 o12 o13 : Option V), σ = [some (.ref a), some (.ref l), some (.ref p0), some (.bl (decide ((0 : Int) < r2))), some (.ref KL), o5, o6, o7, o8, o9, o10, o11, o12, o13] /\ H2 KL = some (.lst xs) /\ KdAll K H2 [KL, p0] xs b /\ b.names = ks.take i /\ ∀ k ∈ b, KdOk ks k)
  ⟨SB.refl, [], [], _, _, _, _, _, _, _, _, _, rfl, hK3, .nil, rfl, by simp⟩ (fun i σ H2 hi h2 => SqL.of (h2.1.keep _ _ hl3 (by simpa using lK))) (fun i x σ H10 H' hi h2 y => ?_) (fun σ H10 h2 => ?_)
 ·obtain ⟨s10, xs, b, o5, o6, o7, o8, o9, o10, o11, o12, o13, rfl, hK10, hb10, bn, bo⟩ := h2
  obtain ⟨T0, x1, y1, rfl, hT0, rfl, ex, ey⟩ := y
  have ex : some (V.int (i : Nat)) = some x1 := ex
  cases ex
  have ey : (ks.map V.str)[i]? = some y1 := ey
  rw [List.length_map] at hi
  rw [List.getElem?_map, List.getElem?_eq_getElem hi] at ey
  cases ey
  have enm : ks[i]? = some ks[i] := List.getElem?_eq_getElem hi
  generalize ks[i] = nm at enm
  have nmk : nm ∈ ks := List.mem_of_getElem? enm
  have t11 := SB.new (ps := []) hT0 (.tup [.int (i : Nat), .str nm])
  have hT11 : upd H10 T0 (.tup [.int (i : Nat), .str nm]) T0 = some (.tup [.int (i : Nat), .str nm]) := upd_same
  have s911 := s10.trans (t11.nil (ps := [KL]))
  have hK11 := t11.keep _ _ hK10 nmn
  have hb11 := hb10.sb t11 NoLst.nil
  have s011 : SB [] H (upd H10 T0 (.tup [.int (i : Nat), .str nm])) := ((s03.nil (ps := [KL])).trans s911).drop nKL
  generalize upd H10 T0 (.tup [.int (i : Nat), .str nm]) = H11 at t11 hT11 s911 hK11 hb11 s011
  refine ⟨T0, _, rfl, SqT.of hT11, rfl, _, _, rfl, _, _, rfl, rfl, ?_⟩
  refine ⟨_, rfl, _, rfl, _, _, rfl, rfl, a, ns, 2 + i, (by show [V.ref a, V.int (2 + (i : Int))] = [V.ref a, V.int ((2 + i : Nat) : Int)]; rw [Int.natCast_add]; rfl), s011.sqL nmn hs, nl, by omega, fun pp H12 s12 npp hp12 => ?_⟩
  have s912 := s911.trans (s12.nil (ps := [KL]))
  have hl12 := s912.keep _ _ hl3 (by simpa using lK)
  refine ⟨_, rfl, l, _, rfl, .inl (SqL.of hl12), fun P0 hP0 => ?_⟩
  have t13 := SB.new (ps := []) hP0 (.lst (ks.map V.str))
  have hP13 : upd H12 P0 (.lst (ks.map V.str)) P0 = some (.lst (ks.map V.str)) := upd_same
  have hp13 := hp12.sb t13
  have s913 := s912.trans (t13.nil (ps := [KL]))
  have hK13 := t13.keep _ _ (s12.keep _ _ hK11 nmn) nmn
  have hl13 := t13.keep _ _ hl12 nmn
  have hpP : pp ≠ P0 := hp12.ne hP0
  have npK : pp ≠ KL := fun z => by rw [z] at npp; rw [npp] at hK11; cases hK11
  have KP : KL ≠ P0 := ne_of_none (s12.keep _ _ hK11 nmn) hP0
  have s1113 := s12.trans t13
  generalize upd H12 P0 (.lst (ks.map V.str)) = H13 at t13 hP13 hp13 s913 hK13 hl13 s1113
  refine nameI (seq_via (fun σ' H' => ∃ (Pl : Addr) (ps : List Str), σ' = [some (.ref a), some (.ref l), some (.ref p0), some (.bl (decide ((0 : Int) < r2))), some (.ref KL), some (.int (i : Nat)), some (.str nm), some (.ref pp), some (.ref Pl), o9, o10, o11, o12, o13] /\ SB [] H13 H' /\ H' Pl = some (.lst (ps.map V.str)) /\ Pl ≠ pp /\ Pl ≠ KL /\ ps.length <= 8 /\ ∀ z ∈ ps, z ∈ ks) (fun nx hnx => ?_) (fun σ' H14 h => ?_))
  ·refine ⟨_, rfl, _, rfl, ?_⟩
   refine ite2 (fun _ => ?_) (fun _ => ?_)
   ·refine ⟨_, rfl, _, rfl, _, _, rfl, rfl, _, rfl, l, _, rfl, SqL.of hl13, fun P1 hP1 => ?_⟩
    have e1 : cutV (ks.map V.str) (some ((i : Int) + 1)) none = (ks.drop (i + 1)).map V.str := by
     rw [<- cutDropS]; rfl
    rw [e1]
    have hp1 : pp ≠ P1 := hp13.ne hP1
    have hk1 : KL ≠ P1 := ne_of_none hK13 hP1
    exact hnx _ _ ⟨P1, ks.drop (i + 1), rfl, SB.new hP1 _, upd_same, fun z => hp1 z.symm, fun z => hk1 z.symm, by rw [List.length_drop]; omega, fun z hz => List.mem_of_mem_drop hz⟩
   ·exact hnx _ _ ⟨P0, ks, rfl, SB.refl, hP13, fun z => hpP z.symm, fun z => KP z.symm, k8, fun z hz => hz⟩
  obtain ⟨Pl, ps, rfl, s14, hPl, Plp, PlK, pl8, psk⟩ := h
  have hp14 := hp13.sb s14
  refine ⟨(by show 0 <= sizeLine; decide), fun RL hRL => ?_⟩
  have t15 := SB.new (ps := []) hRL (.lst [])
  have hR15 : upd H14 RL (.lst []) RL = some (.lst []) := upd_same
  have hp15 := hp14.sb t15
  have hPl15 := t15.keep _ _ hPl nmn
  have hK15 := t15.keep _ _ (s14.keep _ _ hK13 nmn) nmn
  have Rpp : RL ≠ pp := fun z => hp14.ne hRL z.symm
  have RK : RL ≠ KL := fun z => ne_of_none (s14.keep _ _ hK13 nmn) hRL z.symm
  have RP : Pl ≠ RL := ne_of_none hPl hRL
  have s1115 := (s1113.trans s14).trans t15
  have nRL : H11 RL = none := (s1113.trans s14).dom _ hRL
  generalize upd H14 RL (.lst []) = H15 at t15 hR15 hp15 hPl15 hK15 s1115
  refine take_w (i := 7) rfl hp15 (by decide) (by decide) fun r16 H16 r160 r162 s16 hp16 => ?_
  refine ⟨rfl, ?_⟩
  generalize decide (V.int r16 = V.int 1) = wd
  refine take_w (i := 7) rfl hp16 (by decide) (by decide) fun r17 H17 r170 r175 s17 hp17 => ?_
  obtain ⟨c, rfl⟩ : ∃ c : Nat, r17 = (c : Int) := ⟨r17.toNat, by omega⟩
  refine ⟨_, rfl, by omega, by omega, ?_⟩
  rw [Int.toNat_natCast]
  have s1517 := s16.trans s17
  have hR17 := s1517.keep _ _ hR15 (by simpa using Rpp)
  have hPl17 := s1517.keep _ _ hPl15 (by simpa using Plp)
  refine for_it walk_range (fun j σ H2 => SB [pp, RL] H17 H2 /\ PuW H2 pp /\ ∃ (us : List V) (rs : List Ru) (o11 o12 o13 : Option V), σ = [some (.ref a), some (.ref l), some (.ref p0), some (.bl (decide ((0 : Int) < r2))), some (.ref KL), some (.int (i : Nat)), some (.str nm), some (.ref pp), some (.ref Pl), some (.ref RL), some (.bl wd), o11, o12, o13] /\ H2 RL = some (.lst us) /\ Bears K H2 Ru.enc us rs /\ rs.length = j /\ ∀ r ∈ rs, RuOk r /\ ∀ q ∈ Ru.within r, q.1.1 ∈ ks)
   ⟨SB.refl, hp17, [], [], _, _, _, rfl, hR17, .nil, rfl, by simp⟩ (fun _ _ _ _ _ => trivial) (fun j x σ Hq H18 hj h2 y => ?_) (fun σ H18 h2 => ?_)
  ·obtain ⟨s18, hp18, us, rs, o11, o12, o13, rfl, hR18, hbr, rl, ro⟩ := h2
   obtain ⟨rfl, rfl⟩ := y
   have ul := hbr.length
   refine take_w (i := 7) rfl hp18 (by decide) (by decide) fun r19 H19 r190 r195 s19 hp19 => ?_
   obtain ⟨u, rfl⟩ : ∃ u : Nat, r19 = (u : Int) := ⟨r19.toNat, by omega⟩
   have hPl19 := s19.keep _ _ (s18.keep _ _ hPl17 (by simp [Plp, RP])) (by simpa using Plp)
   have hR19 := s19.keep _ _ hR18 (by simpa using Rpp)
   refine ⟨_, rfl, _, rfl, _, rfl, by show 2 <= sizeLine; decide, fun R1 hR1 => ?_⟩
   have t20 := SB.new (ps := []) hR1 (.lst [.int (u : Int), .int 4])
   have hp20 := hp19.sb t20
   have hPl20 := t20.keep _ _ hPl19 nmn
   have hR20 := t20.keep _ _ hR19 nmn
   have hR120 : upd H19 R1 (.lst [.int (u : Int), .int 4]) R1 = some (.lst [.int (u : Int), .int 4]) := upd_same
   have R1p : R1 ≠ pp := fun z => hp19.ne hR1 z.symm
   have R1P : Pl ≠ R1 := ne_of_none hPl19 hR1
   have R1R : RL ≠ R1 := ne_of_none hR19 hR1
   generalize upd H19 R1 (.lst [.int (u : Int), .int 4]) = H20 at t20 hp20 hPl20 hR20 hR120
   refine ⟨_, _, rfl, rfl, ⟨by decide, by decide, by decide⟩, pp, Pl, R1, ps, u, 4, 4, _, rfl, hp20, hPl20, hR120, Plp, R1P, R1p, by omega, by omega, ⟨by decide, by decide⟩, ⟨pl8, fun z hz => kn z (psk z hz)⟩, fun v1 g1 a1 H21 s21 hp21 _ hg1 ok1 pa1 d1 w1 => ?_⟩
   have s1921 : SB [pp] H19 H21 := (((t20.nil (ps := [pp, R1])).trans s21).mono (qs := [R1, pp]) (by simp)).drop hR1
   have hR21 := s1921.keep _ _ hR19 (by simpa using Rpp)
   have hPl21 := s1921.keep _ _ hPl19 (by simpa using Plp)
   refine ⟨_, rfl, .inl ⟨rfl, _, SqL.of hR21⟩, _, rfl, _, rfl, _, rfl, _, rfl, _, _, rfl, rfl, by show 2 <= sizeLine; decide, fun R2 hR2 => ?_⟩
   have e4 : (4 : Int) - (u : Int) = ((4 - u : Nat) : Int) := by omega
   have t22 := SB.new (ps := []) hR2 (.lst [.int ((4 : Int) - (u : Int)), .int 4])
   have hp22 := hp21.sb t22
   have hPl22 := t22.keep _ _ hPl21 nmn
   have hR222 : upd H21 R2 (.lst [.int ((4 : Int) - (u : Int)), .int 4]) R2 = some (.lst [.int ((4 : Int) - (u : Int)), .int 4]) := upd_same
   have R2p : R2 ≠ pp := fun z => hp21.ne hR2 z.symm
   have R2P : Pl ≠ R2 := ne_of_none hPl21 hR2
   generalize upd H21 R2 (.lst [.int ((4 : Int) - (u : Int)), .int 4]) = H22 at t22 hp22 hPl22 hR222
   refine ⟨_, _, rfl, rfl, ⟨by decide, by decide, by decide⟩, pp, Pl, R2, ps, 4 - u, 4, 4, _, rfl, hp22, hPl22, (by rw [<- e4]; exact hR222), Plp, R2P, R2p, by omega, by omega, ⟨by decide, by decide⟩, ⟨pl8, fun z hz => kn z (psk z hz)⟩, fun v2 g2 a2 H23 s23 hp23 _ hg2 ok2 pa2 d2 w2 => ?_⟩
   have s2123 : SB [pp] H21 H23 := (((t22.nil (ps := [pp, R2])).trans s23).mono (qs := [R2, pp]) (by simp)).drop hR2
   have hR23 := s2123.keep _ _ hR21 (by simpa using Rpp)
   refine ⟨by show 2 <= sizeLine; decide, fun T hT => ?_⟩
   have t24 := SB.new (ps := []) hT (.tup [v1, v2])
   have hR24 := t24.keep _ _ hR23 nmn
   have hT24 : SqT K (upd H23 T (.tup [v1, v2])) T [v1, v2] := SqT.of upd_same
   generalize upd H23 T (.tup [v1, v2]) = H24 at t24 hR24 hT24
   refine ⟨RL, _, _, rfl, rfl, hR24, by omega, ?_⟩
   have t25 := SB.set (ps := [RL]) hR24 (by simp) (.lst (us ++ [.ref T]))
   have s1824 : SB [pp] H18 H24 := (((s19.trans s1921).trans s2123).trans t24.nil)
   refine ⟨(s18.trans (s1824.mono (by simp))).trans (t25.mono (by simp)), (hp23.sb t24).keep t25 (by simpa using fun z : pp = RL => Rpp z.symm), us ++ [.ref T], rs ++ [(g1, g2)], _, _, _, rfl, upd_same, ?_, by simp [rl], fun r hr => ?_⟩
   ·exact ((hbr.sb s1824 Ru.noList_enc).sb t25 Ru.noList_enc).append (.cons (.tup (t25.sqT hT24) (.cons (GA.sb (GA.sb (GA.sb hg1 s2123) t24) t25) (.cons (GA.sb (GA.sb hg2 t24) t25) .nil))) .nil)
   ·rcases List.mem_append.mp hr with hr | hr
    ·exact ro r hr
    ·rw [List.mem_singleton.mp hr]
     refine ⟨⟨ok1, ok2, by show g1.parts + g2.parts <= 4; omega⟩, fun q hq => ?_⟩
     rcases List.mem_append.mp hq with hq | hq
     ·exact psk _ (w1 q hq)
     ·exact psk _ (w2 q hq)
  obtain ⟨s18, hp18, us, rs, o11, o12, o13, rfl, hR18, hbr, rl, ro⟩ := h2
  have Rp0 : RL ≠ p0 := fun z => (hp3.keep (s913.trans s14.nil) (by simpa using pK)).ne hRL z.symm
  have s1518 : SB [pp, RL] H15 H18 := (s1517.mono (by simp)).trans s18
  have s1118 : SB [] H11 H18 := (((s1115.nil (ps := [pp, RL])).trans s1518).drop npp).drop nRL
  have hK18 := s1118.keep _ _ hK11 nmn
  have xl := hb11.length
  have bl : b.length <= i := by
   have : (Bk.names b).length = (ks.take i).length := by rw [bn]
   rw [List.length_map, List.length_take] at this
   omega
  refine ⟨_, rfl, .inl ⟨rfl, _, SqL.of hK18⟩, _, rfl, _, rfl, _, rfl, by show 3 <= sizeLine; decide, fun T hT => ?_⟩
  have t19 := SB.new (ps := []) hT (.tup [.str nm, .bl wd, .ref RL])
  have hT19 : SqT K (upd H18 T (.tup [.str nm, .bl wd, .ref RL])) T [.str nm, .bl wd, .ref RL] := SqT.of upd_same
  have hK19 := t19.keep _ _ hK18 nmn
  have hR19 := t19.keep _ _ hR18 nmn
  have hbr19 := hbr.sb t19 Ru.noList_enc
  have s1119 := s1118.trans t19
  generalize upd H18 T (.tup [.str nm, .bl wd, .ref RL]) = H19 at t19 hT19 hK19 hR19 hbr19 s1119
  have nl20 : NoLst H19 [KL, p0] [KL] := fun p hp => .inl (by simp at hp; simp [hp])
  have t20 := SB.set (ps := [KL]) hK19 (by simp) (.lst (xs ++ [.ref T]))
  refine ⟨KL, _, _, rfl, rfl, hK19, by omega, ⟨(s911.trans (s1119.nil (ps := [KL]))).trans t20, xs ++ [.ref T], b ++ [⟨nm, wd, rs⟩], _, _, _, _, _, _, _, _, _, rfl, upd_same, ?_, ?_, ?_⟩⟩
  ·exact ((hb11.sb s1119 NoLst.nil).sb t20 nl20).append (.cons ⟨T, RL, us, rfl, t20.sqT hT19, t20.keep _ _ hR19 (by simpa using RK), hbr19.sb t20 Ru.noList_enc, by simp [RK, Rp0]⟩ .nil)
  ·rw [Bk.names, List.map_append, List.take_add_one, enm]
   show Bk.names b ++ [nm] = _
   rw [bn]; rfl
  ·intro k hk
   rcases List.mem_append.mp hk with hk | hk
   ·exact bo k hk
   ·rw [List.mem_singleton.mp hk]
    exact ⟨kn nm nmk, by show rs.length <= 4; omega, ro⟩
 obtain ⟨s10, xs, b, o5, o6, o7, o8, o9, o10, o11, o12, o13, rfl, hK10, hb10, bn, bo⟩ := h2
 rw [List.length_map, List.take_length] at bn
 have bl : b.length = ks.length := by rw [<- bn]; simp
 have hp10 := hp3.keep s10 (by simpa using pK)
 have hl10 := s10.keep _ _ hl3 (by simpa using lK)
 refine ⟨_, rfl, l, _, rfl, .inl (SqL.of hl10), _, rfl, by rw [List.length_map]; omega, by rw [List.length_map]; omega, fun D hD => ?_⟩
 rw [List.length_map, Int.toNat_natCast]
 have s010 := (s03.nil (ps := [KL])).trans s10
 have nD : H D = none := s010.dom _ hD
 have pD : p0 ≠ D := hp10.ne hD
 have KD : KL ≠ D := ne_of_none hK10 hD
 refine lc_seqP walk_range [p0, KL] hD (fun q hq z => ?_) (by omega) (fun j us H2 => PuW H2 p0 /\ ∃ (zs : List V) (b1 b2 : Bk), H2 KL = some (.lst zs) /\ KdAll K H2 [D, KL, p0] zs b2 /\ KdAll K H2 [D, KL, p0] us b1 /\ b1.length = j /\ (b1 ++ b2).Perm b)
  ⟨hp10, xs, [], b, hK10, hb10.bad1 hD, .nil, rfl, List.Perm.refl _⟩ (fun _ _ => trivial) (fun j us H2 H3 e ⟨h1, zs, b1, b2, h2, h3, h4, h5⟩ => ⟨h1.keep e (by simpa using pD), zs, b1, b2, e.keep _ _ h2 (by simpa using KD), h3.sb e (fun p hp => .inl (by simp at hp; simp [hp])), h4.sb e (fun p hp => .inl (by simp at hp; simp [hp])), h5⟩) (fun Pv j x H2 H11 us hj s11 y hR hu fin _ => ?_) (fun us H11 s11 hD11 hR hu => ?_)
 ·rcases List.mem_cons.mp hq with hq | hq
  ·rw [hq] at z; exact hp10.some p0 (by simp) z
  ·rw [List.mem_singleton.mp hq, hK10] at z; cases z
 ·obtain ⟨rfl, rfl⟩ := y
  obtain ⟨h1, zs, b1, b2, h2, h3, h4, h5, pm⟩ := hR
  have zl := h3.length
  have pl := pm.length_eq
  rw [List.length_append] at pl
  refine ⟨rfl, _, rfl, .inl ⟨rfl, _, SqL.of h2⟩, _, rfl, _, rfl, KL, _, rfl, .inl (SqL.of h2), p0, _, rfl, h1, by omega, by omega, fun r9 H12 r90 r9m s12 hp12 => ?_⟩
  obtain ⟨u, rfl⟩ : ∃ u : Nat, r9 = (u : Int) := ⟨r9.toNat, by omega⟩
  have hu' : u < zs.length := by omega
  have hK12 := s12.keep _ _ h2 (by simpa using fun z : KL = p0 => pK z.symm)
  have eu : zs[u]? = some zs[u] := List.getElem?_eq_getElem hu'
  have nls : NoLst H11 [D, KL, p0] [p0] := fun p hp => .inl (by simp at hp; simp [hp])
  obtain ⟨k, ek, hk⟩ := (h3.sb s12 nls).get eu
  refine ⟨KL, _, _, u, zs[u], rfl, rfl, hK12, by omega, by omega, by rw [PySem.seqIndex_of (by omega) (by omega), Int.toNat_natCast], eu, ?_⟩
  have t13 := SB.set (ps := [KL]) hK12 (by simp) (.lst (zs.eraseIdx u))
  have hp13 := hp12.keep t13 (by simpa using pK)
  have nl2 : NoLst H12 [D, KL, p0] [KL] := fun p hp => .inl (by simp at hp; simp [hp])
  refine fin _ _ ((s12.mono (by simp)).trans (t13.mono (by simp))) ⟨hp13, zs.eraseIdx u, b1 ++ [k], b2.eraseIdx u, upd_same, ((h3.sb s12 nls).erase u).sb t13 nl2, (((h4.sb s12 nls).sb t13 nl2)).append (.cons (hk.sb t13 nl2) .nil), by simp [h5], ?_⟩
  rw [List.append_assoc]
  exact (List.Perm.append_left b1 (idx_perm ek)).trans pm
 ·obtain ⟨h1, zs, b1, b2, h2, h3, h4, h5, pm⟩ := hR
  have pl := pm.length_eq
  rw [List.length_append] at pl
  have b20 : b2 = [] := List.eq_nil_of_length_eq_zero (by omega)
  subst b20
  rw [List.append_nil] at pm
  have pn : b1.names.Perm ks := bn ▸ pm.map _
  have ok : b1.Ok := Bk.Ok.of_perm k1 k8 knd pn fun k hk => bo k (pm.mem_iff.mp hk)
  have s011 : SB [p0, KL] H H11 := (s010.mono (by simp)).trans s11
  exact q D us b1 H11 ((s011.drop np1).drop nKL) nD hD11 (h4.less (by simp)) ok pn
abbrev N__law_kind : List Str := ["_law_kinds_here", "_law_name", "_law_kind_here"]
theorem sc__law_kind : FnScope N__law_kind ["_law_kinds_here", "_law_name"] (defScope s__law_kind) := ⟨rfl, rfl, rfl, by decide +kernel, rfl, by decide +kernel, by decide +kernel⟩
theorem ok__law_kind (B : BI mg) (F : Fun K "_law_kind" "_law_kind" s__law_kind f fd) : FnOk P w K mg base CX0 (1) f fd ["_law_kinds_here", "_law_name"] (spKindP K) := by
 refine F.ok sc__law_kind (fun vs H Q E h => ?_) (fun cdv A outer s H vs Q E hr h => ?_)
 ·obtain ⟨l, xs, b, k, rfl, _⟩ := h
  rfl
 obtain ⟨l, xs, b, k, rfl, hl, ha, hk, nd, b8, q⟩ := h
 have hun2 := hunT hr
 refine ⟨_, pss_one (ps_ret (pe_ix ix_list (pe_lc (own := [("_law_kind_here", 2)]) (g := (gName 2)) (tt := (tTest (tOp rEq (tOp (rIxT K) (tVar 2) (tC (.int 0))) (tVar 1)))) (te := (tVar 2)) rfl sc__law_kind.nd (pi_list (pv 0)) (blkOk_by (N := N__law_kind) (sc := defScope s__law_kind) (by decide +kernel)) (fun _ _ _ _ _ => (pg_name (i := 2) sc__law_kind.nd rfl (.inl rfl))) (fun _ _ _ _ _ => (pts_one (pt_cmpR op_eq (pe_ix ix_tup (pv 2) pe_int (fun _ _ => rfl)) (pv 1) (nomark _)))) (fun _ _ _ _ _ => (pv 2))) pe_int (fun _ _ => rfl))), ?_⟩
 have szl := sizeLine_eq
 have xl := ha.length
 obtain ⟨j0, e0⟩ := List.getElem?_of_mem hk
 have hj0 : j0 < xs.length := by have := (List.getElem?_eq_some_iff.mp e0).1; omega
 obtain ⟨k', ek', hk'⟩ := ha.get (List.getElem?_eq_getElem hj0)
 obtain rfl : k' = k := Option.some.inj (ek'.symm.trans e0)
 refine ⟨_, rfl, l, rfl, ⟨_, SqL.of hl⟩, fun D nD => ?_⟩
 refine lc_seq (walk_list (xs := xs)) nD (by omega) (fun i us _ => us = if j0 < i then [xs[j0]] else []) (by simp) (fun H2 s2 => s2.sqL nmn (SqL.of hl)) (fun _ _ _ _ _ h => h) (fun Pv i x Hq H2 us hi s2 y hR hu fin skip => ?_) (fun us H2 s2 hD2 hR hu => ?_)
 ·obtain ⟨rfl, ey⟩ := y
  obtain ⟨ki, eki, t, r, zs, ex, h1, h2, h3, _⟩ := ha.get ey
  refine ⟨rfl, _, rfl, t, _, _, _, ex, rfl, s2.sqT h1, atI_nat (j := 0) rfl, _, rfl, rfl, _, rfl, ?_⟩
  by_cases e : ki.n = k'.n
  ·rw [show decide (V.str ki.n = V.str k'.n) = true from decide_eq_true (by rw [e])]
   have ei : i = j0 := by
    refine (List.getElem?_inj (l := b.names) (i := i) (j := j0) (by rw [List.length_map]; omega) nd).mp ?_
    rw [List.getElem?_map, List.getElem?_map, eki, e0]
    show some ki.n = some k'.n
    rw [e]
   subst ei
   refine iteT ⟨_, rfl, fin _ _ SB.refl ?_⟩
   rw [hR, if_neg (by omega), if_pos (by omega)]
   rw [List.getElem?_eq_getElem hi] at ey
   rw [Option.some.inj ey]; rfl
  ·rw [show decide (V.str ki.n = V.str k'.n) = false from decide_eq_false (fun z => e (V.str.inj z))]
   have ei : i ≠ j0 := fun z => by
    rw [z, e0] at eki
    exact e (congrArg Kd.n (Option.some.inj eki)).symm
   refine iteF (skip _ SB.refl ?_)
   rw [hR]
   by_cases z : j0 < i
   ·rw [if_pos z, if_pos (by omega)]
   ·rw [if_neg z, if_neg (by omega)]
 ·rw [if_pos hj0] at hR
  subst hR
  exact ⟨D, _, _, _, rfl, rfl, SqL.of hD2, atI_nat (j := 0) rfl, q _ _ s2 (hk'.sb s2 NoLst.nil)⟩
abbrev N__law_book : List Str := ["_law_kinds_here", "_law_name", "_law_wild", "_law_rules"]
theorem sc__law_book : FnScope N__law_book ["_law_kinds_here"] (defScope s__law_book) := ⟨rfl, rfl, rfl, by decide +kernel, rfl, by decide +kernel, by decide +kernel⟩
theorem ok__law_book {C_Book C_NoBook : Addr} (B : BI mg) (G_Book___init__ : GotIN P w K mg base "Book" C_Book ["self", "kinds"] (88) (spBInit K C_Book C_NoBook)) (F : Fun K "_law_book" "_law_book" s__law_book f fd) : FnOk P w K mg base CX0 (90) f fd ["_law_kinds_here"] (spMkBook K C_Book) := by
 refine F.ok sc__law_book (fun vs H Q E h => ?_) (fun cdv A outer s H vs Q E hr h => ?_)
 ·obtain ⟨l, xs, b, rfl, _⟩ := h
  rfl
 obtain ⟨l, xs, b, rfl, hl, ha, ok, q⟩ := h
 have hun2 := hunT hr
 refine ⟨_, pss_one (ps_ret (pe_gotIN G_Book___init__ (hr.mono (by omega)) rfl (pa_cons (pe_lc (own := [("_law_name", 1), ("_law_wild", 2), ("_law_rules", 3)]) (g := (gTup K 3 (gCons (gName 1) (gCons (gName 2) (gCons (gName 3) gNil))))) (tt := tYes) (te := (tTup (tCons (tVar 1) (tCons (tVar 2) (tCons (tCB (fun xs H Q => ∃ p ys, xs = [.ref p] /\ (SqL K H p ys \/ SqT K H p ys) /\ ∀ l, H l = none -> Q (.ref l) (upd H l (.lst ys))) (tCons (tVar 3) tNil)) tNil))))) rfl sc__law_book.nd (pi_list (pv 0)) (blkOk_by (N := N__law_book) (sc := defScope s__law_book) (by decide +kernel)) (fun _ _ _ _ _ => (pg_tup rfl (pgs_cons (pg_name (i := 1) sc__law_book.nd rfl (.inl rfl)) (pgs_cons (pg_name (i := 2) sc__law_book.nd rfl (.inl rfl)) (pgs_cons (pg_name (i := 3) sc__law_book.nd rfl (.inl rfl)) pgs_nil))))) (fun _ _ _ _ _ => pts_nil) (fun _ _ _ _ _ => (pe_tup (pa_cons (pv 1) (pa_cons (pv 2) (pa_cons (pe_callTy call_list_of rfl B.list boot_list (pa_cons (pv 3) pa_nil)) pa_nil)))))) pa_nil))), ?_⟩
 exact copy_make (i := 0) rfl (fun _ _ _ => rfl) (fun _ _ _ => rfl) (fun _ _ _ => rfl) (fun _ _ _ => rfl) hl ha ok fun y H' s ny hy => q y H' s ny hy
abbrev N__law_bare : List Str := ["_law_grove", "_law_ahead", "_law_found", "_law_k", "_law_tree", "_law_many_here"]
theorem sc__law_bare : FnScope N__law_bare ["_law_grove", "_law_ahead"] (defScope s__law_bare) := ⟨rfl, rfl, rfl, by decide +kernel, rfl, by decide +kernel, by decide +kernel⟩
theorem none__law_bare {ps : List Str} {k : Nat} : FnOk P w K mg base CX0 k f fd ps (spBareF K 0) := none_sp fun vs H Q E ⟨v, u, g, pl, _, _, _, h, _⟩ => by omega
theorem ok__law_bare {n : Nat} (B : BI mg) (G__law_bare : Got P w K mg base "_law_bare" ["_law_grove", "_law_ahead"] (n) (spBareF K n)) (F : Fun K "_law_bare" "_law_bare" s__law_bare f fd) : FnOk P w K mg base CX0 (n + 1) f fd ["_law_grove", "_law_ahead"] (spBareF K (n + 1)) := by
 refine F.ok sc__law_bare (fun vs H Q E h => ?_) (fun cdv A outer s H vs Q E hr h => ?_)
 ·obtain ⟨v, u, g, pl, rfl, _⟩ := h
  rfl
 obtain ⟨v, u, g, pl, rfl, hv, hu, hd, hd100, hp, ⟨C0, hpl⟩, q⟩ := h
 have hun2 := hunT hr
 refine ⟨_, pss_cons (ps_set (i := 2) sc__law_bare.nd rfl (.inl rfl) (pe_lst pa_nil))
  (pss_cons (ps_for PassesOwn.never rfl (pi_enumT rfl B.enumerate (pv 0)) (pg_tup rfl (pgs_cons (pg_name (i := 3) sc__law_bare.nd rfl (.inl rfl)) (pgs_cons (pg_tup rfl (pgs_cons (pg_name (i := 4) sc__law_bare.nd rfl (.inl rfl)) (pgs_cons (pg_name (i := 5) sc__law_bare.nd rfl (.inl rfl)) pgs_nil))) pgs_nil)))
   (pss_cons (ps_if (pt_cmpR (op_eqW (by show A.units + 3 + 195 < cLine; omega)) (pe_ix ix_tup (pv 4) pe_int (fun _ _ => rfl)) (pe_tup pa_nil) (nomark _)) (pss_one (ps_expr (pe_bm PySem.F.plainAttrs_list PySem.F.slot_list_append PySem.F.type_list_append mt_append (pv 2) (pa_cons (pe_tup (pa_cons (pe_op op_catB (pv 1) (pe_tup (pa_cons (pv 3) pa_nil))) (pa_cons (pe_ix ix_tup (pv 4) pe_int (fun _ _ => rfl)) pa_nil))) pa_nil)))) pss_nil)
  (pss_one (ps_set (i := 2) sc__law_bare.nd rfl (.inl rfl) (pe_op op_cat (pv 2) (pe_got G__law_bare (hr.mono (by omega)) rfl (pa_cons (pe_ix ix_tup (pv 4) pe_int (fun _ _ => rfl)) (pa_cons (pe_op op_catB (pv 1) (pe_tup (pa_cons (pv 3) pa_nil))) pa_nil))))))))
  (pss_one (ps_ret (pv 2)))), ?_⟩
 have szl := sizeLine_eq
 obtain ⟨a, xs, rfl, hs, hb⟩ := GA_bears hv
 obtain ⟨ua, rfl, hua⟩ := PL_ints hu
 have bl := hb.length
 have lenb := g.bk_len 0
 have oki := Gr.ok_iff.mp hpl
 refine ⟨(by show 0 <= sizeLine; decide), fun D hD => ?_⟩
 have t1 := SB.new (ps := []) hD (.lst [])
 refine ⟨_, rfl, a, xs, rfl, t1.sqT hs, ?_⟩
 refine for_it (walk_enumT (xs := xs)) (fun i σ H2 => SB [] H H2 /\ ∃ (E : Addr) (us : List V) (o3 o4 o5 : Option V), σ = [some (.ref a), some (.ref ua), some (.ref E), o3, o4, o5] /\ H E = none /\ H2 E = some (.lst us) /\ Bears K H2 bkE us ((Gr.bks (g.ps.take i) 0).map fun x => (pl ++ x.1, x.2))) ⟨t1, D, [], none, none, none, rfl, hD, upd_same, .nil⟩ (fun i σ H2 hi h2 => h2.1.sqT hs) (fun i x σ H2 H' hi h2 y => ?_) (fun σ H2 h2 => ?_)
 ·obtain ⟨s2, E, us, o3, o4, o5, rfl, nE, hE2, hb2⟩ := h2
  obtain ⟨T, e1, e2, rfl, hT, rfl, ee1, ee2⟩ := y
  have he1 : e1 = .int (i : Nat) := (Option.some.inj ee1).symm
  subst he1
  obtain ⟨p, ep, hpd⟩ := hb.get ee2
  have pm := List.mem_of_getElem? ep
  have pd := g.mem_deep p pm
  have pp := g.mem_parts p pm
  obtain ⟨pn, po, p1, pB⟩ := oki.1 p pm
  obtain ⟨ad, td, ux, rfl, hs2, hs3, hga, _⟩ := PA_parts hpd
  have t3 := SB.new (ps := []) hT (.tup [.int (i : Nat), .ref ad])
  have hT3 : SqT K (upd H2 T (.tup [.int (i : Nat), .ref ad])) T [.int (i : Nat), .ref ad] := SqT.of upd_same
  have s3 := s2.trans t3
  have hE3 := t3.keep _ _ hE2 nmn
  have hb3 := hb2.sb t3 bkE_noList
  generalize upd H2 T (.tup [.int (i : Nat), .ref ad]) = H3 at t3 hT3 s3 hE3 hb3
  have ul := hb3.length
  rw [List.length_map] at ul
  have hsp : g.bk 0 = Gr.bks (g.ps.take i) 0 ++ Gr.bkP p i ++ Gr.bks (g.ps.drop (i + 1)) (i + 1) := by
   rw [Gr.bk_ps]
   conv => lhs; rw [<- List.take_append_drop (i + 1) g.ps]
   rw [Gr.bks_append, Gr.bks_take ep, List.length_take, Nat.min_eq_left (by omega), Nat.zero_add]
  have hlen := congrArg List.length hsp
  rw [List.length_append, List.length_append] at hlen
  have pbl := p.1.2.bk_len 0
  refine ⟨T, _, rfl, hT3, rfl, _, _, rfl, _, _, rfl, ⟨ad, _, rfl, s3.sqT hs2, rfl, _, _, rfl, _, _, rfl, rfl, rfl, ?_⟩⟩
  refine seq_via (fun σ' H' => ∃ (us' : List V), σ' = [some (.ref a), some (.ref ua), some (.ref E), some (.int (i : Nat)), some (.ref td), some (.int p.2)] /\ SB [] H H' /\ H' E = some (.lst us') /\ Bears K H' bkE us' ((Gr.bks (g.ps.take i) 0 ++ if p.1.2 = .nil then [([i], p.1.1)] else []).map fun x => (pl ++ x.1, x.2))) (fun nx hnx => ?_) (fun σ' H5 h => ?_)
  ·refine ⟨_, rfl, td, _, _, _, rfl, rfl, s3.sqT hs3, atI_nat (j := 1) rfl, by show 0 <= sizeLine; decide, fun e0 he0 => ?_⟩
   have t4 := SB.new (ps := []) he0 (.tup [])
   have hE4 := t4.keep _ _ hE3 nmn
   have s4 := s3.trans t4
   have h04 : SqT K (upd H3 e0 (.tup [])) e0 [] := SqT.of upd_same
   have hb4 := hb3.sb t4 bkE_noList
   generalize upd H3 e0 (.tup []) = H4 at t4 hE4 s4 h04 hb4
   refine ⟨p.1.2.enc, .tuple [], hga.sb s4, .tup h04 .nil, Gr.wd po (by omega), Gr.wd_nil, _, rfl, ?_⟩
   rw [Gr.enc_eq_nil]
   by_cases hn : p.1.2 = .nil
   ·rw [show decide (p.1.2 = .nil) = true from decide_eq_true hn]
    refine iteT ⟨_, rfl, .inl ⟨rfl, _, SqL.of hE4⟩, _, rfl, _, rfl, by show 1 <= sizeLine; decide, fun t ht => ?_⟩
    have t5 := SB.new (ps := []) ht (.tup [.int (i : Nat)])
    have s5 := s4.trans t5
    refine ⟨ua, t, _, _, rfl, rfl, s5.sqT hua, SqT.of upd_same, ?_, fun c H6 s6 hc => ?_⟩
    ·rw [List.length_map, List.length_singleton]
     have := small5 (n := pl.length + 1) (by omega)
     omega
    have s46 := t5.trans s6
    have s06 := s4.trans s46
    refine ⟨_, rfl, td, _, _, _, rfl, rfl, s06.sqT hs3, atI_nat (j := 0) rfl, by show 2 <= sizeLine; decide, fun T2 hT2 => ?_⟩
    have t7 := SB.new (ps := []) hT2 (.tup [.ref c, .str p.1.1])
    have hE7 := t7.keep _ _ (s46.keep _ _ hE4 nmn) nmn
    have hT7 : SqT K (upd H6 T2 (.tup [.ref c, .str p.1.1])) T2 [.ref c, .str p.1.1] := SqT.of upd_same
    have hc7 := t7.sqT hc
    have s07 := s06.trans t7
    have hb7 := (hb4.sb s46 bkE_noList).sb t7 bkE_noList
    generalize upd H6 T2 (.tup [.ref c, .str p.1.1]) = H7 at t7 hE7 hT7 hc7 s07 hb7
    refine ⟨E, us, _, rfl, rfl, hE7, by omega, ?_⟩
    have t8 := SB.set (ps := [E]) hE7 (by simp) (.lst (us ++ [.ref T2]))
    refine hnx _ _ ⟨us ++ [.ref T2], rfl, ((s07.nil (ps := [E])).trans t8).drop nE, upd_same, ?_⟩
    rw [if_pos hn, List.map_append]
    refine (hb7.sb t8 bkE_noList).append (.cons ?_ .nil)
    refine .tup (t8.sqT hT7) (.cons ?_ (.cons (.str _) .nil))
    refine PL_of (p := pl ++ [i]) (t8.sqT ?_)
    rw [List.map_append]; exact hc7
   ·rw [show decide (p.1.2 = .nil) = false from decide_eq_false hn]
    refine iteF (hnx _ _ ⟨us, rfl, s4, hE4, ?_⟩)
    rw [if_neg hn, List.append_nil]; exact hb4
  obtain ⟨us', rfl, s5, hE5, hb5⟩ := h
  have ul5 := hb5.length
  rw [List.length_map, List.length_append] at ul5
  have hif : (if p.1.2 = .nil then [(([i] : Pl), p.1.1)] else []).length <= 1 := by split <;> simp
  refine ⟨_, rfl, _, rfl, td, _, _, _, rfl, rfl, s5.sqT hs3, atI_nat (j := 1) rfl, _, rfl, _, rfl, by show 1 <= sizeLine; decide, fun t ht => ?_⟩
  have t6 := SB.new (ps := []) ht (.tup [.int (i : Nat)])
  have s6 := s5.trans t6
  refine ⟨ua, t, _, _, rfl, rfl, s6.sqT hua, SqT.of upd_same, ?_, fun c H7 s7 hc => ?_⟩
  ·rw [List.length_map, List.length_singleton]
   have := small5 (n := pl.length + 1) (by omega)
   omega
  have s57 := t6.trans s7
  have s07 := s5.trans s57
  have hc' : Dp K H7 (.ref c) (plEnc (pl ++ [i])) := PL_of (p := pl ++ [i]) (by rw [List.map_append]; exact hc)
  refine ⟨ux, .ref c, p.1.2, pl ++ [i], rfl, hga.sb s07, hc', by omega, by rw [List.length_append]; show _ + (_ + 1) <= _; omega, by omega, ⟨C0, po⟩, fun L vs H8 s8 nL hL hb8 => ?_⟩
  have hE8 := (s57.trans s8).keep _ _ hE5 nmn
  have vl := hb8.length
  rw [List.length_map] at vl
  refine ⟨E, L, _, _, rfl, rfl, hE8, hL, by omega, fun M hM => ?_⟩
  have t9 := SB.new (ps := []) hM (.lst (us' ++ vs))
  have s08 := s07.trans s8
  refine ⟨s08.trans t9, M, us' ++ vs, _, _, _, rfl, s08.dom _ hM, upd_same, ?_⟩
  have eP : (Gr.bks (g.ps.take (i + 1)) 0).map (fun x => (pl ++ x.1, x.2)) = (Gr.bks (g.ps.take i) 0 ++ if p.1.2 = .nil then [([i], p.1.1)] else []).map (fun x => (pl ++ x.1, x.2)) ++ (p.1.2.bk 0).map (fun x => ((pl ++ [i]) ++ x.1, x.2)) := by
   rw [Gr.bks_take ep]
   unfold Gr.bkP
   by_cases hn : p.1.2 = .nil
   ·rw [if_pos hn, if_pos hn, hn]; simp [Gr.bk]
   ·rw [if_neg hn, if_neg hn]; simp
  rw [eP]
  exact ((hb5.sb (s57.trans s8) bkE_noList).sb t9 bkE_noList).append (hb8.sb t9 bkE_noList)
 ·obtain ⟨s2, E, us, o3, o4, o5, rfl, nE, hE2, hb2⟩ := h2
  rw [bl, List.take_length, <- Gr.bk_ps] at hb2
  exact ⟨_, rfl, q E us H2 s2 nE hE2 hb2⟩
abbrev N__law_which : List Str := ["_law_e", "_law_found", "_law_some", "_law_k", "_law_here"]
theorem sc__law_which : FnScope N__law_which ["_law_e"] (defScope s__law_which) := ⟨rfl, rfl, rfl, by decide +kernel, rfl, by decide +kernel, by decide +kernel⟩
theorem ok__law_which {c : Str -> Addr} (B : BI mg) (T : ErrsM K mg c eC eN eK) (F : Fun K "_law_which" "_law_which" s__law_which f fd) : FnPN P w K mg base (1) f fd ["_law_e"] (spWhich K c eC) := by
 refine okPN F sc__law_which (fun a oe vs H Q E h => ?_) (fun cdv A outer s H vs Q E a oe hc hr h => ?_)
 ·obtain ⟨n, d, j, rfl, hz, hf, _⟩ := h
  rfl
 obtain ⟨n, d, j, rfl, hz, hf, hn, hd, hj, ej, qk, qw⟩ := h
 have hun2 : A.units + 3 + 200 < cLine := by have := hr.un; change A.units + 3 + 16 * 0 + 200 < cLine at this; omega
 refine ⟨_, pss_cons (ps_set (i := 1) sc__law_which.nd rfl (.inl rfl) (pe_lst pa_nil))
  (pss_cons (ps_set (i := 2) sc__law_which.nd rfl (.inl rfl) (pe_lst (pa_cons (pe_callB (call_isEg (.head _) hz hf) rfl B.isinstance boot_isinstance (pa_cons (pv 0) (pa_cons (pe_glob (v := .ref (c "NoKind")) rfl (T.glo "NoKind" (.tail _ (.tail _ (.tail _ (.head _))))) rfl) pa_nil))) (pa_cons (pe_callB (call_isEg (.head _) hz hf) rfl B.isinstance boot_isinstance (pa_cons (pv 0) (pa_cons (pe_glob (v := .ref (c "NoPlace")) rfl (T.glo "NoPlace" (.tail _ (.head _))) rfl) pa_nil))) (pa_cons (pe_callB (call_isEg (.head _) hz hf) rfl B.isinstance boot_isinstance (pa_cons (pv 0) (pa_cons (pe_glob (v := .ref (c "NoRule")) rfl (T.glo "NoRule" (.tail _ (.tail _ (.tail _ (.tail _ (.head _)))))) rfl) pa_nil))) pa_nil)))))
  (pss_cons (ps_set (i := 2) sc__law_which.nd rfl (.inl rfl) (pe_op op_cat (pv 2) (pe_lst (pa_cons (pe_callB (call_isEg (.head _) hz hf) rfl B.isinstance boot_isinstance (pa_cons (pv 0) (pa_cons (pe_glob (v := .ref (c "NoNumber")) rfl (T.glo "NoNumber" (.tail _ (.tail _ (.tail _ (.tail _ (.tail _ (.head _))))))) rfl) pa_nil))) (pa_cons (pe_callB (call_isEg (.head _) hz hf) rfl B.isinstance boot_isinstance (pa_cons (pv 0) (pa_cons (pe_glob (v := .ref (c "NoRise")) rfl (T.glo "NoRise" (.tail _ (.tail _ (.tail _ (.tail _ (.tail _ (.tail _ (.tail _ (.head _))))))))) rfl) pa_nil))) (pa_cons (pe_callB (call_isEg (.head _) hz hf) rfl B.isinstance boot_isinstance (pa_cons (pv 0) (pa_cons (pe_glob (v := .ref (c "TooGreat")) rfl (T.glo "TooGreat" (.tail _ (.tail _ (.tail _ (.tail _ (.tail _ (.tail _ (.head _)))))))) rfl) pa_nil))) pa_nil))))))
  (pss_cons (ps_set (i := 2) sc__law_which.nd rfl (.inl rfl) (pe_op op_cat (pv 2) (pe_lst (pa_cons (pe_callB (call_isEg (.head _) hz hf) rfl B.isinstance boot_isinstance (pa_cons (pv 0) (pa_cons (pe_glob (v := .ref (c "NoFall")) rfl (T.glo "NoFall" (.tail _ (.tail _ (.tail _ (.tail _ (.tail _ (.tail _ (.tail _ (.tail _ (.head _)))))))))) rfl) pa_nil))) (pa_cons (pe_callB (call_isEg (.head _) hz hf) rfl B.isinstance boot_isinstance (pa_cons (pv 0) (pa_cons (pe_glob (v := .ref (c "NoBook")) rfl (T.glo "NoBook" (.tail _ (.tail _ (.head _)))) rfl) pa_nil))) (pa_cons (pe_callB (call_isEg (.head _) hz hf) rfl B.isinstance boot_isinstance (pa_cons (pv 0) (pa_cons (pe_glob (v := .ref (c "Endless")) rfl (T.glo "Endless" (.tail _ (.tail _ (.tail _ (.tail _ (.tail _ (.tail _ (.tail _ (.tail _ (.tail _ (.head _))))))))))) rfl) pa_nil))) pa_nil))))))
  (pss_cons (ps_set (i := 2) sc__law_which.nd rfl (.inl rfl) (pe_op op_cat (pv 2) (pe_lst (pa_cons (pe_callB (call_isEg (.head _) hz hf) rfl B.isinstance boot_isinstance (pa_cons (pv 0) (pa_cons (pe_glob (v := .ref (c "NoGrove")) rfl (T.glo "NoGrove" (.head _)) rfl) pa_nil))) (pa_cons (pe_callB (call_isEg (.head _) hz hf) rfl B.isinstance boot_isinstance (pa_cons (pv 0) (pa_cons (pe_glob (v := .ref (c "NoName")) rfl (T.glo "NoName" (.tail _ (.tail _ (.tail _ (.tail _ (.tail _ (.tail _ (.tail _ (.tail _ (.tail _ (.tail _ (.tail _ (.head _))))))))))))) rfl) pa_nil))) (pa_cons (pe_callB (call_isEg (.head _) hz hf) rfl B.isinstance boot_isinstance (pa_cons (pv 0) (pa_cons (pe_glob (v := .ref (c "NoRow")) rfl (T.glo "NoRow" (.tail _ (.tail _ (.tail _ (.tail _ (.tail _ (.tail _ (.tail _ (.tail _ (.tail _ (.tail _ (.head _)))))))))))) rfl) pa_nil))) pa_nil))))))
  (pss_cons (L2H.ps_forH PassesOwn.never hc (pi_enumH rfl B.enumerate (pa_cons (pv 2) pa_nil)) (pg_tupH hc (pgs_cons (pg_name (i := 3) sc__law_which.nd rfl (.inl rfl)) (pgs_cons (pg_name (i := 4) sc__law_which.nd rfl (.inl rfl)) pgs_nil)))
   (pss_one (ps_if (pt_val (pv 4)) (pss_one (ps_expr (pe_bm PySem.F.plainAttrs_list PySem.F.slot_list_append PySem.F.type_list_append mt_append (pv 1) (pa_cons (pe_ix ix_list (pe_lst (pa_cons pe_str (pa_cons pe_str (pa_cons pe_str (pa_cons pe_str (pa_cons pe_str (pa_cons pe_str (pa_cons pe_str pa_nil)))))))) (pe_callB (call_min2H hc) rfl B.min boot_min (pa_cons (pv 3) (pa_cons pe_int pa_nil))) (fun _ _ => rfl)) pa_nil)))) pss_nil)))
  (pss_cons (ps_if (PW.pt (pw_or (pt_cmpR op_ne (pe_callB call_len_seq rfl B.len PySem.boot_len (pa_cons (pv 1) pa_nil)) pe_int (nomark _)) (pw_or (pt_cmpR (op_neW (by show A.units + 3 + 195 < cLine; omega)) (pe_slice sl_list (pv 2) (po_some pe_int) po_none) (pe_op op_rep (pe_lst (pa_cons pe_bl pa_nil)) pe_int) (nomark _)) (pw_or1 (pt_not (pt_val (pe_callB (call_isEg (.head _) hz hf) rfl B.isinstance boot_isinstance (pa_cons (pv 0) (pa_cons (pe_ty (T' := "ValueError") rfl T.ve rfl) pa_nil))))))))) (pss_one (ps_ret (pe_tup (pa_cons pe_str pa_nil)))) pss_nil)
  (pss_cons (ps_if (pt_cmpR (op_eqW (by show A.units + 3 + 195 < cLine; omega)) (pv 1) (pe_lst (pa_cons pe_str pa_nil)) (nomark _)) (pss_one (ps_ret (pe_tup (pa_cons pe_str (pa_cons (pe_xfg (.head _) hz hf (pv 0)) pa_nil))))) pss_nil)
  (pss_one (ps_ret (pe_tup (pa_cons (pe_ix ix_list (pv 1) pe_int (fun _ _ => rfl)) pa_nil))))))))))), ?_⟩
 have szl := sizeLine_eq
 refine ⟨by show 0 <= sizeLine; decide, fun F nF => ?_⟩
 have t1 := SB.new (ps := []) nF (.lst [])
 have hF : upd H F (.lst []) F = some (.lst []) := upd_same
 have hd1 := hd.sb t1
 generalize upd H F (.lst []) = H1 at t1 hF hd1
 have kt : ∀ (i : Nat) (m : Str), W12[i]? = some m -> m ∈ eN -> PySem.W.kitOne K (.ref (c n)) (.ref (c m)) = some (decide (i = j)) := fun i m h1 h2 => (T.kit n hn m h2).trans (by rw [w12_at h1 ej])
 refine ⟨_, rfl, _, _, _, _, rfl, T.exc _ hn, hd1, rfl, fun u r => r, kt 0 "NoKind" rfl (by decide +kernel), ?_⟩
 refine ⟨_, rfl, _, _, _, _, rfl, T.exc _ hn, hd1, rfl, fun u r => r, kt 1 "NoPlace" rfl (by decide +kernel), ?_⟩
 refine ⟨_, rfl, _, _, _, _, rfl, T.exc _ hn, hd1, rfl, fun u r => r, kt 2 "NoRule" rfl (by decide +kernel), ?_⟩
 refine ⟨by show 3 <= sizeLine; decide, fun L nL => ?_⟩
 have t2 := SB.new (ps := []) nL (.lst [.bl (decide (0 = j)), .bl (decide (1 = j)), .bl (decide (2 = j))])
 have hL : upd H1 L (.lst [.bl (decide (0 = j)), .bl (decide (1 = j)), .bl (decide (2 = j))]) L = some (.lst [.bl (decide (0 = j)), .bl (decide (1 = j)), .bl (decide (2 = j))]) := upd_same
 have hd2 := hd1.sb t2
 have hF2 := t2.keep _ _ hF nmn
 have s2 := t1.trans t2
 generalize upd H1 L (.lst [.bl (decide (0 = j)), .bl (decide (1 = j)), .bl (decide (2 = j))]) = H2 at t2 hL hd2 hF2 s2
 refine ⟨_, rfl, ?_⟩
 refine ⟨_, rfl, _, _, _, _, rfl, T.exc _ hn, hd2, rfl, fun u r => r, kt 3 "NoNumber" rfl (by decide +kernel), ?_⟩
 refine ⟨_, rfl, _, _, _, _, rfl, T.exc _ hn, hd2, rfl, fun u r => r, kt 4 "NoRise" rfl (by decide +kernel), ?_⟩
 refine ⟨_, rfl, _, _, _, _, rfl, T.exc _ hn, hd2, rfl, fun u r => r, kt 5 "TooGreat" rfl (by decide +kernel), ?_⟩
 refine ⟨by show 3 <= sizeLine; decide, fun M4 nM4 => ?_⟩
 have t4a := SB.new (ps := []) nM4 (.lst [.bl (decide (3 = j)), .bl (decide (4 = j)), .bl (decide (5 = j))])
 have hM4 : upd H2 M4 (.lst [.bl (decide (3 = j)), .bl (decide (4 = j)), .bl (decide (5 = j))]) M4 = some (.lst [.bl (decide (3 = j)), .bl (decide (4 = j)), .bl (decide (5 = j))]) := upd_same
 have hx4 := t4a.keep _ _ hL nmn
 generalize upd H2 M4 (.lst [.bl (decide (3 = j)), .bl (decide (4 = j)), .bl (decide (5 = j))]) = G4 at t4a hM4 hx4
 refine ⟨L, M4, _, _, rfl, rfl, hx4, hM4, by show 6 <= sizeLine; decide, fun La nLa => ?_⟩
 have e4 : ([.bl (decide (0 = j)), .bl (decide (1 = j)), .bl (decide (2 = j))] ++ [.bl (decide (3 = j)), .bl (decide (4 = j)), .bl (decide (5 = j))] : List V) = (List.range 6).map fun i => V.bl (decide (i = j)) := rfl
 rw [e4]
 have t4b := SB.new (ps := []) nLa (.lst ((List.range 6).map fun i => V.bl (decide (i = j))))
 have hLa : upd G4 La (.lst ((List.range 6).map fun i => V.bl (decide (i = j)))) La = some (.lst ((List.range 6).map fun i => V.bl (decide (i = j)))) := upd_same
 have t4c := t4a.trans t4b
 have s4 := s2.trans t4c
 have hd4 := hd2.sb t4c
 have hF4 := t4c.keep _ _ hF2 nmn
 have ne4 : F ≠ La := ne_of_none (t4a.keep _ _ hF2 nmn) nLa
 refine nameI ?_
 generalize upd G4 La (.lst ((List.range 6).map fun i => V.bl (decide (i = j)))) = H4 at t4b hLa t4c s4 hd4 hF4
 clear hM4 hx4 t4a t4b t4c nM4 nLa hF2 hd2 hL
 refine ⟨_, rfl, ?_⟩
 refine ⟨_, rfl, _, _, _, _, rfl, T.exc _ hn, hd4, rfl, fun u r => r, kt 6 "NoFall" rfl (by decide +kernel), ?_⟩
 refine ⟨_, rfl, _, _, _, _, rfl, T.exc _ hn, hd4, rfl, fun u r => r, kt 7 "NoBook" rfl (by decide +kernel), ?_⟩
 refine ⟨_, rfl, _, _, _, _, rfl, T.exc _ hn, hd4, rfl, fun u r => r, kt 8 "Endless" rfl (by decide +kernel), ?_⟩
 refine ⟨by show 3 <= sizeLine; decide, fun M6 nM6 => ?_⟩
 have t6a := SB.new (ps := []) nM6 (.lst [.bl (decide (6 = j)), .bl (decide (7 = j)), .bl (decide (8 = j))])
 have hM6 : upd H4 M6 (.lst [.bl (decide (6 = j)), .bl (decide (7 = j)), .bl (decide (8 = j))]) M6 = some (.lst [.bl (decide (6 = j)), .bl (decide (7 = j)), .bl (decide (8 = j))]) := upd_same
 have hx6 := t6a.keep _ _ hLa nmn
 generalize upd H4 M6 (.lst [.bl (decide (6 = j)), .bl (decide (7 = j)), .bl (decide (8 = j))]) = G6 at t6a hM6 hx6
 refine ⟨La, M6, _, _, rfl, rfl, hx6, hM6, by show 9 <= sizeLine; decide, fun Lb nLb => ?_⟩
 have e6 : (((List.range 6).map fun i => V.bl (decide (i = j))) ++ [.bl (decide (6 = j)), .bl (decide (7 = j)), .bl (decide (8 = j))] : List V) = (List.range 9).map fun i => V.bl (decide (i = j)) := rfl
 rw [e6]
 have t6b := SB.new (ps := []) nLb (.lst ((List.range 9).map fun i => V.bl (decide (i = j))))
 have hLb : upd G6 Lb (.lst ((List.range 9).map fun i => V.bl (decide (i = j)))) Lb = some (.lst ((List.range 9).map fun i => V.bl (decide (i = j)))) := upd_same
 have t6c := t6a.trans t6b
 have s6 := s4.trans t6c
 have hd6 := hd4.sb t6c
 have hF6 := t6c.keep _ _ hF4 nmn
 have ne6 : F ≠ Lb := ne_of_none (t6a.keep _ _ hF4 nmn) nLb
 refine nameI ?_
 generalize upd G6 Lb (.lst ((List.range 9).map fun i => V.bl (decide (i = j)))) = H6 at t6b hLb t6c s6 hd6 hF6
 clear hM6 hx6 t6a t6b t6c nM6 nLb hF4 hd4 hLa
 refine ⟨_, rfl, ?_⟩
 refine ⟨_, rfl, _, _, _, _, rfl, T.exc _ hn, hd6, rfl, fun u r => r, kt 9 "NoGrove" rfl (by decide +kernel), ?_⟩
 refine ⟨_, rfl, _, _, _, _, rfl, T.exc _ hn, hd6, rfl, fun u r => r, kt 10 "NoName" rfl (by decide +kernel), ?_⟩
 refine ⟨_, rfl, _, _, _, _, rfl, T.exc _ hn, hd6, rfl, fun u r => r, kt 11 "NoRow" rfl (by decide +kernel), ?_⟩
 refine ⟨by show 3 <= sizeLine; decide, fun M8 nM8 => ?_⟩
 have t8a := SB.new (ps := []) nM8 (.lst [.bl (decide (9 = j)), .bl (decide (10 = j)), .bl (decide (11 = j))])
 have hM8 : upd H6 M8 (.lst [.bl (decide (9 = j)), .bl (decide (10 = j)), .bl (decide (11 = j))]) M8 = some (.lst [.bl (decide (9 = j)), .bl (decide (10 = j)), .bl (decide (11 = j))]) := upd_same
 have hx8 := t8a.keep _ _ hLb nmn
 generalize upd H6 M8 (.lst [.bl (decide (9 = j)), .bl (decide (10 = j)), .bl (decide (11 = j))]) = G8 at t8a hM8 hx8
 refine ⟨Lb, M8, _, _, rfl, rfl, hx8, hM8, by show 12 <= sizeLine; decide, fun S nS => ?_⟩
 have e8 : (((List.range 9).map fun i => V.bl (decide (i = j))) ++ [.bl (decide (9 = j)), .bl (decide (10 = j)), .bl (decide (11 = j))] : List V) = (List.range 12).map fun i => V.bl (decide (i = j)) := rfl
 rw [e8]
 have t8b := SB.new (ps := []) nS (.lst ((List.range 12).map fun i => V.bl (decide (i = j))))
 have hS : upd G8 S (.lst ((List.range 12).map fun i => V.bl (decide (i = j)))) S = some (.lst ((List.range 12).map fun i => V.bl (decide (i = j)))) := upd_same
 have t8c := t8a.trans t8b
 have s8 := s6.trans t8c
 have hd8 := hd6.sb t8c
 have hF8 := t8c.keep _ _ hF6 nmn
 have ne8 : F ≠ S := ne_of_none (t8a.keep _ _ hF6 nmn) nS
 refine nameI ?_
 generalize upd G8 S (.lst ((List.range 12).map fun i => V.bl (decide (i = j)))) = H8 at t8b hS t8c s8 hd8 hF8
 clear hM8 hx8 t8a t8b t8c nM8 nS hF6 hd6 hLb
 have FS := ne8
 refine ⟨_, rfl, S, _, rfl, SqL.of hS, ?_⟩
 refine for_it (walk_enum (K := K) (a := S) (xs := (List.range 12).map fun i => V.bl (decide (i = j)))) (fun i σ G => SB [F] H8 G /\ ∃ o3 o4, σ = [some (.ref a), some (.ref F), some (.ref S), o3, o4] /\ G F = some (.lst (if j < i then [V.str (W7.getD j "")] else [])))
  ⟨SB.refl, none, none, rfl, hF8⟩ (fun i σ G hi h2 => h2.1.sqL (by simpa using fun z : S = F => FS z.symm) (SqL.of hS)) (fun i x σ G G' hi h2 y => ?_) (fun σ G h2 => ?_)
 ·obtain ⟨u2, o3, o4, rfl, hF2⟩ := h2
  obtain ⟨T0, e1, e2, rfl, nT0, rfl, ee1, ee2⟩ := y
  cases ee1
  have hi12 : i < 12 := by simpa using hi
  have e2' : e2 = .bl (decide (i = j)) := by
   have ee3 : ((List.range 12).map fun i => V.bl (decide (i = j)))[i]? = some e2 := ee2
   rw [List.getElem?_map, List.getElem?_range hi12] at ee3
   exact (Option.some.inj ee3).symm
  subst e2'
  have u3 := SB.new (ps := []) nT0 (.tup [.int (i : Nat), .bl (decide (i = j))])
  have hT0 : SqT K (upd G T0 (.tup [.int (i : Nat), .bl (decide (i = j))])) T0 [.int (i : Nat), .bl (decide (i = j))] := SqT.of upd_same
  have hF3 := u3.keep _ _ hF2 nmn
  have u23 := u2.trans (u3.nil (ps := [F]))
  generalize upd G T0 (.tup [.int (i : Nat), .bl (decide (i = j))]) = G3 at u3 hT0 hF3 u23
  refine ⟨T0, _, rfl, hT0, rfl, _, _, rfl, _, _, rfl, rfl, ?_⟩
  refine ⟨_, rfl, _, rfl, ?_⟩
  by_cases hij : i = j
  ·subst hij
   rw [decide_eq_true rfl]
   rw [if_neg (by omega)] at hF3
   refine iteT ⟨_, rfl, .inl ⟨rfl, _, SqL.of hF3⟩, ?_⟩
   refine ⟨by show 7 <= sizeLine; decide, fun W nW => ?_⟩
   have u4 := SB.new (ps := []) nW (.lst (W7.map V.str))
   have hW : upd G3 W (.lst (W7.map V.str)) W = some (.lst (W7.map V.str)) := upd_same
   have hF4 := u4.keep _ _ hF3 nmn
   have u24 := u23.trans (u4.nil (ps := [F]))
   have ew : upd G3 W (.lst [.str "kind", .str "place", .str "rule", .str "said", .str "rise", .str "great", .str "fall"]) = upd G3 W (.lst (W7.map V.str)) := rfl
   rw [ew]
   generalize upd G3 W (.lst (W7.map V.str)) = G4 at u4 hW hF4 u24
   obtain ⟨wd, ewd⟩ : ∃ wd, W7[i]? = some wd := ⟨_, List.getElem?_eq_getElem (by show i < 7; omega)⟩
   refine ⟨_, rfl, _, _, rfl, ?_⟩
   rw [show (if (6 : Int) < ((i : Nat) : Int) then (6 : Int) else ((i : Nat) : Int)) = ((i : Nat) : Int) from if_neg (by omega)]
   refine ⟨W, _, _, .str wd, rfl, rfl, SqL.of hW, atI_nat (by rw [List.getElem?_map, ewd]; rfl), F, _, _, rfl, rfl, hF4, by show 0 < sizeLine; decide, ?_⟩
   refine ⟨u24.trans (SB.set hF4 (by simp) _), _, _, rfl, ?_⟩
   rw [upd_same, if_pos (by omega), List.getD_eq_getElem?_getD, ewd]
   rfl
  ·rw [decide_eq_false hij]
   refine iteF ⟨u23, _, _, rfl, ?_⟩
   rw [hF3]
   by_cases h1 : j < i
   ·rw [if_pos h1, if_pos (by omega)]
   ·rw [if_neg h1, if_neg (by omega)]
 obtain ⟨u2, o3, o4, rfl, hF2⟩ := h2
 rw [if_pos (by simp; omega)] at hF2
 have hS2 := u2.keep _ _ hS (by simpa using fun z : S = F => FS z.symm)
 have s9 : SB [] H G := (s8.nil.trans u2).drop nF
 have hd9 := hd.sb s9
 refine ⟨_, rfl, F, _, rfl, .inl (SqL.of hF2), rfl, _, rfl, iteF ?_⟩
 refine ⟨_, rfl, _, rfl, S, _, rfl, SqL.of hS2, fun C1 nC1 => ?_⟩
 have ec : cutV ((List.range 12).map fun i => V.bl (decide (i = j))) (some 7) none = [.bl false, .bl false, .bl false, .bl false, .bl false] := by
  rcases (by omega : j = 0 \/ j = 1 \/ j = 2 \/ j = 3 \/ j = 4 \/ j = 5 \/ j = 6) with rfl | rfl | rfl | rfl | rfl | rfl | rfl <;> decide +kernel
 rw [ec]
 have v1 := SB.new (ps := []) nC1 (.lst [.bl false, .bl false, .bl false, .bl false, .bl false])
 have hC1 : upd G C1 (.lst [.bl false, .bl false, .bl false, .bl false, .bl false]) C1 = some (.lst [.bl false, .bl false, .bl false, .bl false, .bl false]) := upd_same
 have hF3 := v1.keep _ _ hF2 nmn
 have s10 := s9.trans v1
 generalize upd G C1 (.lst [.bl false, .bl false, .bl false, .bl false, .bl false]) = G1 at v1 hC1 hF3 s10
 refine ⟨by show 1 <= sizeLine; decide, fun C2 nC2 => ?_⟩
 have v2 := SB.new (ps := []) nC2 (.lst [.bl false])
 have hC2 : upd G1 C2 (.lst [.bl false]) C2 = some (.lst [.bl false]) := upd_same
 have hC12 := v2.keep _ _ hC1 nmn
 have hF4 := v2.keep _ _ hF3 nmn
 have s11 := s10.trans v2
 generalize upd G1 C2 (.lst [.bl false]) = G2 at v2 hC2 hC12 hF4 s11
 refine ⟨C2, 5, _, rfl, rfl, hC2, by decide, by decide, by decide, fun C3 nC3 => ?_⟩
 have v3 := SB.new (ps := []) nC3 (.lst [.bl false, .bl false, .bl false, .bl false, .bl false])
 have er : (List.replicate (5 : Int).toNat [V.bl false]).flatten = [.bl false, .bl false, .bl false, .bl false, .bl false] := rfl
 rw [er]
 have hC3 : upd G2 C3 (.lst [.bl false, .bl false, .bl false, .bl false, .bl false]) C3 = some (.lst [.bl false, .bl false, .bl false, .bl false, .bl false]) := upd_same
 have hC13 := v3.keep _ _ hC12 nmn
 have hF5 := v3.keep _ _ hF4 nmn
 have s12 := s11.trans v3
 generalize upd G2 C3 (.lst [.bl false, .bl false, .bl false, .bl false, .bl false]) = G3 at v3 hC3 hC13 hF5 s12
 have five : ∀ {z : Addr}, G3 z = some (.lst [.bl false, .bl false, .bl false, .bl false, .bl false]) -> Dp K G3 (.ref z) (.list [.bool false, .bool false, .bool false, .bool false, .bool false]) := fun h => .lst (SqL.of h) (.cons (.bl _) (.cons (.bl _) (.cons (.bl _) (.cons (.bl _) (.cons (.bl _) .nil)))))
 have w5 : Wd (.list [.bool false, .bool false, .bool false, .bool false, .bool false]) := ⟨by decide +kernel, by decide +kernel⟩
 refine ⟨_, _, five hC13, five hC3, w5, w5, _, rfl, ?_⟩
 rw [show PyData.eqv (.list [.bool false, .bool false, .bool false, .bool false, .bool false]) (.list [.bool false, .bool false, .bool false, .bool false, .bool false]) = true by decide +kernel]
 refine iteF ⟨_, rfl, _, _, _, true, rfl, T.exc _ hn, hd.sb s12, rfl, fun u r => r, T.kve _ hn, _, rfl, iteF (nextI ?_)⟩
 refine ⟨_, rfl, by show 1 <= sizeLine; decide, fun C4 nC4 => ?_⟩
 have v4 := SB.new (ps := []) nC4 (.lst [.str "kind"])
 have hC4 : upd G3 C4 (.lst [.str "kind"]) C4 = some (.lst [.str "kind"]) := upd_same
 have hF6 := v4.keep _ _ hF5 nmn
 have s13 := s12.trans v4
 generalize upd G3 C4 (.lst [.str "kind"]) = G4 at v4 hC4 hF6 s13
 clear nF nL s8 u2 hS hS2 s9 s10 s11 s12 hF2 hF3 hF4 hF5
 rcases (by omega : j = 0 \/ j = 1 \/ j = 2 \/ j = 3 \/ j = 4 \/ j = 5 \/ j = 6) with rfl | rfl | rfl | rfl | rfl | rfl | rfl
 ·refine ⟨.list [.str "kind"], .list [.str "kind"], .lst (SqL.of hF6) (.cons (.str _) .nil), .lst (SqL.of hC4) (.cons (.str _) .nil), ⟨by decide +kernel, by decide +kernel⟩, ⟨by decide +kernel, by decide +kernel⟩, _, rfl, ?_⟩
  rw [show PyData.eqv (.list [.str "kind"]) (.list [.str "kind"]) = true by decide +kernel]
  obtain ⟨dd, z, rfl, hdd, qz⟩ := qk rfl
  cases (show some ("NoKind" : Str) = some n from ej)
  refine iteT ⟨_, rfl, _, dd, _, .str z, rfl, rfl, T.exc _ hn, T.nok _ (by decide +kernel), rfl, s13.keep _ _ hdd nmn, rfl, by show 2 <= sizeLine; decide, fun R nR => ?_⟩
  exact qz R _ (s13.trans (SB.new nR _)) (SqT.of upd_same)
 all_goals
  refine ⟨.list [.str _], .list [.str "kind"], .lst (SqL.of hF6) (.cons (.str _) .nil), .lst (SqL.of hC4) (.cons (.str _) .nil), ⟨by decide +kernel, by decide +kernel⟩, ⟨by decide +kernel, by decide +kernel⟩, _, rfl, ?_⟩
  refine cast (congrArg (fun bb : Bool => ite (bb = true) _ _) (show false = PyData.eqv _ _ by decide +kernel)) ?_
  refine iteF (nextI ?_)
  refine ⟨_, rfl, F, _, _, .str _, rfl, rfl, SqL.of hF6, atI_nat (j := 0) rfl, by show 1 <= sizeLine; decide, fun R nR => ?_⟩
  exact qw (by decide) R _ _ (s13.trans (SB.new nR _)) rfl (SqT.of upd_same)
abbrev N__law_least : List Str := ["_law_grove", "_law_names_here", "_law_found", "_law_tree", "_law_many_here"]
theorem sc__law_least : FnScope N__law_least ["_law_grove", "_law_names_here"] (defScope s__law_least) := ⟨rfl, rfl, rfl, by decide +kernel, rfl, by decide +kernel, by decide +kernel⟩
theorem none__law_least {ps : List Str} {k : Nat} : FnOk P w K mg base CX0 k f fd ps (spLeast K 0) := none_sp fun vs H Q E ⟨v, l, g, ns, _, _, _, _, _, h, _⟩ => by omega
theorem ok__law_least {n : Nat} (B : BI mg) (G__law_least : Got P w K mg base "_law_least" ["_law_grove", "_law_names_here"] (n) (spLeast K n)) (F : Fun K "_law_least" "_law_least" s__law_least f fd) : FnOk P w K mg base CX0 (n + 1) f fd ["_law_grove", "_law_names_here"] (spLeast K (n + 1)) := by
 refine F.ok sc__law_least (fun vs H Q E h => ?_) (fun cdv A outer s H vs Q E hr h => ?_)
 ·obtain ⟨v, l, g, ns, rfl, _⟩ := h
  rfl
 obtain ⟨v, l, g, ns, rfl, hv, hl, nk, ⟨D0, go⟩, gd, gp, n60, q⟩ := h
 have hun2 := hunT hr
 refine ⟨_, pss_cons (ps_set (i := 2) sc__law_least.nd rfl (.inl rfl) (pe_lst pa_nil))
  (pss_cons (ps_for PassesOwn.never rfl (pi_tup (pv 0)) (pg_tup rfl (pgs_cons (pg_name (i := 3) sc__law_least.nd rfl (.inl rfl)) (pgs_cons (pg_name (i := 4) sc__law_least.nd rfl (.inl rfl)) pgs_nil)))
   (pss_cons (ps_if (pt_cmpR op_notIn_seq (pe_ix ix_tup (pv 3) pe_int (fun _ _ => rfl)) (pv 1) (by rfl)) (pss_one (ps_expr (pe_bm PySem.F.plainAttrs_list PySem.F.slot_list_append PySem.F.type_list_append mt_append (pv 2) (pa_cons (pe_ix ix_tup (pv 3) pe_int (fun _ _ => rfl)) pa_nil)))) pss_nil)
  (pss_one (ps_set (i := 2) sc__law_least.nd rfl (.inl rfl) (pe_op op_cat (pv 2) (pe_got G__law_least (hr.mono (by omega)) rfl (pa_cons (pe_ix ix_tup (pv 3) pe_int (fun _ _ => rfl)) (pa_cons (pv 1) pa_nil))))))))
  (pss_one (ps_ret (pe_slice sl_list (pe_callB (cr_sortedB PyData.str (by show A.units + 3 + 110 < cLine; omega)) rfl B.sorted (by decide +kernel) (pa_cons (pv 2) pa_nil)) po_none (po_some pe_int))))), ?_⟩
 have szl := sizeLine_eq
 obtain ⟨a, xs, rfl, hs, hb⟩ := GA_bears hv
 have bl := hb.length
 have glp := g.len_parts
 refine ⟨by show 0 <= sizeLine; decide, fun D nD => ?_⟩
 have t1 := SB.new (ps := []) nD (.lst [])
 refine ⟨_, rfl, a, rfl, ⟨xs, t1.sqT hs⟩, ?_⟩
 refine for_it (walk_tup (xs := xs)) (fun i σ H2 => SB [] H H2 /\ ∃ (E : Addr) (fs : List Str) (o3 o4 : Option V), σ = [some (.ref a), some (.ref l), some (.ref E), o3, o4] /\ H E = none /\ H2 E = some (.lst (fs.map V.str)) /\ fs.length <= 2 * i /\
   (∀ n ∈ fs, n ∉ ns /\ ∃ p ∈ g.ps.take i, n = p.1.1 \/ n ∈ p.1.2.within.map (·.1.1)) /\ (∀ p ∈ g.ps.take i, ∀ m, m = p.1.1 \/ m ∈ p.1.2.within.map (·.1.1) -> m ∉ ns -> ∃ n ∈ fs, ¬ m.cps.toList < n.cps.toList))
  ⟨t1, D, [], none, none, rfl, nD, upd_same, by simp, by simp, by simp⟩ (fun i σ H2 hi h2 => h2.1.sqT hs) (fun i x σ H2 H' hi h2 y => ?_) (fun σ H2 h2 => ?_)
 ·obtain ⟨s2, E, fs, o3, o4, rfl, nE, hE2, fl, f1, f2⟩ := h2
  obtain ⟨rfl, ey⟩ := y
  obtain ⟨p, ep, hpd⟩ := hb.get ey
  have pm := List.mem_of_getElem? ep
  have pd := g.mem_deep p pm
  have pp := g.mem_parts p pm
  obtain ⟨n1, o1, _, _⟩ := Gr.ok_mem go pm
  obtain ⟨ad, td, ux, rfl, hs2, hs3, hga, _⟩ := PA_parts hpd
  have etk : g.ps.take (i + 1) = g.ps.take i ++ [p] := by rw [List.take_add_one, ep]; rfl
  refine ⟨ad, _, rfl, s2.sqT hs2, rfl, _, _, rfl, _, _, rfl, rfl, ?_⟩
  refine seq_via (fun σ' G => ∃ gs : List Str, σ' = [some (.ref a), some (.ref l), some (.ref E), some (.ref td), some (.int p.2)] /\ SB [] H G /\ G E = some (.lst (gs.map V.str)) /\ gs.length <= fs.length + 1 /\ (∀ n ∈ fs, n ∈ gs) /\ (∀ n ∈ gs, n ∈ fs \/ n = p.1.1 /\ n ∉ ns) /\ (p.1.1 ∉ ns -> p.1.1 ∈ gs)) (fun nx hnx => ?_) (fun σ' G h => ?_)
  ·refine ⟨_, rfl, td, _, _, _, rfl, rfl, s2.sqT hs3, atI_nat (j := 0) rfl, _, rfl, l, _, rfl, .inl (SqL.of (s2.keep _ _ hl nmn)), rfl, flat_strs _, _, rfl, ?_⟩
   rw [if_pos rfl, inV_strs]
   by_cases hin : p.1.1 ∈ ns
   ·rw [decide_eq_true hin]
    exact iteF (hnx _ _ ⟨fs, rfl, s2, hE2, by omega, fun _ h => h, fun _ h => .inl h, fun h => absurd hin h⟩)
   ·rw [decide_eq_false hin]
    refine iteT ⟨_, rfl, .inl ⟨rfl, _, SqL.of hE2⟩, _, rfl, td, _, _, _, rfl, rfl, s2.sqT hs3, atI_nat (j := 0) rfl, E, _, _, rfl, rfl, hE2, by rw [List.length_map]; omega, ?_⟩
    have t3 := SB.set (ps := [E]) hE2 (by simp) (.lst (fs.map V.str ++ [.str p.1.1]))
    refine hnx _ _ ⟨fs ++ [p.1.1], rfl, ((s2.nil (ps := [E])).trans t3).drop nE, by rw [upd_same, List.map_append]; rfl, by simp, fun n h => List.mem_append_left _ h, fun n h => ?_, fun _ => by simp⟩
    rcases List.mem_append.mp h with h | h
    ·exact .inl h
    ·rw [List.mem_singleton.mp h]; exact .inr ⟨rfl, hin⟩
  obtain ⟨gs, rfl, s3, hE3, gl, g1, g2, g3⟩ := h
  refine ⟨_, rfl, _, rfl, td, _, _, _, rfl, rfl, s3.sqT hs3, atI_nat (j := 1) rfl, _, rfl, ux, l, p.1.2, ns, rfl, hga.sb s3, s3.keep _ _ hl nmn, nk, ⟨_, o1⟩, by omega, by omega, n60, fun L ys H4 s4 nL hL hle => ?_⟩
  have yl : ys.length <= 1 := by
   rcases hle with ⟨rfl, _⟩ | ⟨n, rfl, _⟩ <;> simp
  refine ⟨E, L, _, _, rfl, rfl, s4.keep _ _ hE3 nmn, hL, by rw [List.length_map, List.length_map]; omega, fun M nM => ?_⟩
  have t5 := SB.new (ps := []) nM (.lst (gs.map V.str ++ ys.map V.str))
  have s05 := s3.trans s4
  refine ⟨s05.trans t5, M, gs ++ ys, _, _, rfl, s05.dom _ nM, by rw [upd_same, List.map_append], by rw [List.length_append]; omega, fun n hn => ?_, fun q hq m hm hout => ?_⟩
  ·rw [etk]
   rcases List.mem_append.mp hn with h | h
   ·rcases g2 n h with h | ⟨rfl, h⟩
    ·obtain ⟨h1, q, hq, h2⟩ := f1 n h
     exact ⟨h1, q, List.mem_append_left _ hq, h2⟩
    ·exact ⟨h, p, by simp, .inl rfl⟩
   ·rcases hle with ⟨rfl, _⟩ | ⟨z, rfl, lo⟩
    ·cases h
    ·rw [List.mem_singleton.mp h]
     exact ⟨lo.out, p, by simp, .inr lo.mem⟩
  ·rw [etk] at hq
   rcases List.mem_append.mp hq with hq | hq
   ·obtain ⟨n, hn, h⟩ := f2 q hq m hm hout
    exact ⟨n, List.mem_append_left _ (g1 n hn), h⟩
   ·rw [List.mem_singleton.mp hq] at hm
    rcases hm with rfl | hm
    ·exact ⟨_, List.mem_append_left _ (g3 hout), List.lt_irrefl _⟩
    ·rcases hle with ⟨rfl, no⟩ | ⟨z, rfl, lo⟩
     ·obtain ⟨x, hx, rfl⟩ := List.mem_map.mp hm
      exact absurd hout (no x hx)
     ·exact ⟨z, by simp, lo.low m hm hout⟩
 ·obtain ⟨s2, E, fs, o3, o4, rfl, nE, hE2, fl, f1, f2⟩ := h2
  rw [bl, List.take_length] at f1 f2
  have hle : LeastL (fun m => m ∉ ns) g ((srtE PyData.str fs).take 1) := least_srt (fun n hn => by
   obtain ⟨h1, p, hp, h2⟩ := f1 n hn
   refine ⟨h1, ?_⟩
   rw [Gr.within_ps, List.map_flatMap]
   refine List.mem_flatMap.mpr ⟨p, hp, ?_⟩
   rcases h2 with h2 | h2
   ·rw [h2]; exact mcs ..
   ·exact mcm _ h2) fun m hm hout => by
   rw [Gr.within_ps, List.map_flatMap] at hm
   obtain ⟨p, hp, hm⟩ := List.mem_flatMap.mp hm
   exact f2 p hp m (List.mem_cons.mp hm) hout
  refine ⟨_, rfl, E, _, fs, rfl, .inl (SqL.of hE2), strs_bears K H2 fs, str_all _, str_sortable _, by omega, fun b _ => by show 0 <= 100; omega, fun Z zs hZ hz => ?_⟩
  have ezs := Bears_strs hz
  subst ezs
  have t3 := SB.new (ps := []) hZ (.lst ((fs.mergeSort (dataLe false PyData.str)).map V.str))
  refine ⟨1, rfl, Z, _, rfl, SqL.of upd_same, fun C nC => ?_⟩
  have ec : cutV ((fs.mergeSort (dataLe false PyData.str)).map V.str) none (some 1) = ((srtE PyData.str fs).take 1).map V.str := cutTakeS _ 1
  rw [ec]
  have t4 := SB.new (ps := []) nC (.lst (((srtE PyData.str fs).take 1).map V.str))
  have s24 := s2.trans t3
  exact q C _ _ (s24.trans t4) (s24.dom _ nC) upd_same hle
abbrev N__law_whole : List Str := ["_law_thing"]
theorem sc__law_whole : FnScope N__law_whole ["_law_thing"] (defScope s__law_whole) := ⟨rfl, rfl, rfl, by decide +kernel, rfl, by decide +kernel, by decide +kernel⟩
theorem ok__law_whole (B : BI mg) (F : Fun K "_law_whole" "_law_whole" s__law_whole f fd) : FnOk P w K mg base CX0 (1) f fd ["_law_thing"] (spWholeP K) := by
 refine F.ok sc__law_whole (fun vs H Q E h => ?_) (fun cdv A outer s H vs Q E hr h => ?_)
 ·obtain ⟨v, o, rfl, _⟩ := h
  rfl
 obtain ⟨v, o, rfl, hv, q⟩ := h
 have hun2 := hunT hr
 refine ⟨_, pss_one (ps_ret (pe_and (pe_isi B (pv 0) B.int boot_int) (pe_and (pe_not (pe_isi B (pv 0) B.bool boot_bool)) (pe_one (pe_cmpR op_ge (pv 0) pe_int (nomark _)))))), ?_⟩
 rcases hv with ⟨i, rfl, rfl⟩ | ⟨rfl, n, b1, b2, ty, k1, k2, k3⟩
 ·refine ⟨_, rfl, _, _, "int", true, rfl, .base (.int i), by decide +kernel, _, rfl, iteT ?_⟩
  refine ⟨_, rfl, _, _, "int", false, rfl, .base (.int i), by decide +kernel, _, rfl, _, rfl, iteT ?_⟩
  refine ⟨_, rfl, _, _, rfl, rfl, q _ ?_⟩
  rw [decide_eq_true_iff]
  exact ⟨fun h => ⟨i.toNat, by rw [Int.toNat_of_nonneg h]⟩, fun ⟨n, e⟩ => by have := Option.some.inj e; omega⟩
 ·refine ⟨_, rfl, _, _, n, b1, rfl, ty, k1, _, rfl, ?_⟩
  have no : (false = true) ↔ NatO none := ⟨(fun z => nomatch z), fun ⟨_, z⟩ => nomatch z⟩
  cases b1 with
  | false => exact iteF (q _ no)
  | true =>
   have e2 : b2 = true := by cases b2 <;> simp_all
   subst e2
   refine iteT ⟨_, rfl, _, _, n, true, rfl, ty, k2 rfl, _, rfl, _, rfl, iteF (q _ no)⟩
theorem sc_NoKind___init__ : FnScope ["self", "kind"] ["self", "kind"] (defScope s_NoKind___init__) := ⟨rfl, rfl, rfl, by decide +kernel, rfl, by decide +kernel, by decide +kernel⟩
theorem ok_NoKind___init__ {C : Addr} (F : Fun K "__init__" "NoKind.__init__" s_NoKind___init__ f fd) : FnOk P w K mg base CX0 1 f fd ["self", "kind"] (spKindI K C) := by
 refine F.ok sc_NoKind___init__ (fun vs H Q E h => ?_) (fun cdv A outer s H vs Q E hr h => ?_)
 ·obtain ⟨a, y, rfl, _⟩ := h
  rfl
 obtain ⟨a, y, rfl, T, no, ha, q⟩ := h
 refine ⟨_, pss_one (ps_ost (pv 0) (pv 1)), ?_⟩
 exact ⟨_, rfl, _, rfl, a, C, rfl, T, no, .inl ⟨ha, q⟩⟩
abbrev N_Book___init__ : List Str := ["self", "kinds", "name", "spreading", "rows"]
theorem sc_Book___init__ : FnScope N_Book___init__ ["self", "kinds"] (defScope s_Book___init__) := ⟨rfl, rfl, rfl, by decide +kernel, rfl, by decide +kernel, by decide +kernel⟩
theorem ok_Book___init__ {C_NoBook C_Book : Addr} (B : BI mg) (O_NoBook : Own K mg "NoBook" C_NoBook) (T_Book : ClsF K C_Book ["spread_by_name", "rows_by_name"]) (G_are_kinds : Got P w K mg base "are_kinds" ["things"] (87) (spAreKinds K)) (F : Fun K "__init__" "Book.__init__" s_Book___init__ f fd) : FnOk P w K mg base (L2N.CX P w) (88) f fd ["self", "kinds"] (spBInit K C_Book C_NoBook) := by
 refine F.okXN sc_Book___init__ (fun vs H Q E h => ?_) (fun cdv A outer s H vs Q E hr h => ?_)
 ·obtain ⟨x, dx, l, xs, ts, rfl, _⟩ := h
  rfl
 obtain ⟨x, dx, l, xs, ts, rfl, hx, hdx, hs, ha, hf, hl, q, qE⟩ := h
 have hun2 := hunT hr
 refine ⟨_, pss_cons (ps_if (pt_not (pt_val (pe_got G_are_kinds (hr.mono (by omega)) rfl (pa_cons (pv 1) pa_nil)))) (pss_one (L2N.ps_raise rfl (L2N.takes_of rfl rfl rfl rfl) (L2N.pmk_own PySem.F.excBase_ValueError O_NoBook.q O_NoBook.gC O_NoBook.k (raises_own O_NoBook.s O_NoBook.t) rfl))) pss_nil)
  (pss_cons (ps_fld (pv 0) (pe_dc (own := [("name", 2), ("spreading", 3), ("rows", 4)]) (g := (gTup K 3 (gCons (gName 2) (gCons (gName 3) (gCons (gName 4) gNil))))) (tt := tYes) (tk := (tVar 2)) (tv := (tVar 3)) rfl sc_Book___init__.nd (pi_list (pv 1)) (blkOk_by (N := N_Book___init__) (sc := defScope s_Book___init__) (by decide +kernel)) (fun _ _ _ _ _ => (pg_tup rfl (pgs_cons (pg_name (i := 2) sc_Book___init__.nd rfl (.inl rfl)) (pgs_cons (pg_name (i := 3) sc_Book___init__.nd rfl (.inl rfl)) (pgs_cons (pg_name (i := 4) sc_Book___init__.nd rfl (.inl rfl)) pgs_nil))))) (fun _ _ _ _ _ => pts_nil) (fun _ _ _ _ _ => (pv 2)) (fun _ _ _ _ _ => (pv 3))) rfl)
  (pss_one (ps_fld (pv 0) (pe_dc (own := [("name", 2), ("spreading", 3), ("rows", 4)]) (g := (gTup K 3 (gCons (gName 2) (gCons (gName 3) (gCons (gName 4) gNil))))) (tt := tYes) (tk := (tVar 2)) (tv := (tCB (fun xs H Q => ∃ p ys, xs = [.ref p] /\ ((SqL K H p ys /\ ∀ l, H l = none -> Q (.ref l) (upd H l (.tup ys))) \/ (SqT K H p ys /\ Q (.ref p) H))) (tCons (tVar 4) tNil))) rfl sc_Book___init__.nd (pi_list (pv 1)) (blkOk_by (N := N_Book___init__) (sc := defScope s_Book___init__) (by decide +kernel)) (fun _ _ _ _ _ => (pg_tup rfl (pgs_cons (pg_name (i := 2) sc_Book___init__.nd rfl (.inl rfl)) (pgs_cons (pg_name (i := 3) sc_Book___init__.nd rfl (.inl rfl)) (pgs_cons (pg_name (i := 4) sc_Book___init__.nd rfl (.inl rfl)) pgs_nil))))) (fun _ _ _ _ _ => pts_nil) (fun _ _ _ _ _ => (pv 2)) (fun _ _ _ _ _ => (pe_callTy call_tuple_of rfl B.tuple boot_tuple (pa_cons (pv 4) pa_nil)))) rfl))), ?_⟩
 refine ⟨_, rfl, l, xs, ts, rfl, SqL.of hs, ha, hf, hl, fun b H1 s1 hb => ?_⟩
 refine ⟨_, rfl, ?_⟩
 cases b with
 | false => exact iteT (qE (fun z => nomatch (hb.mpr z)) H1 s1)
 | true =>
 refine iteF ?_
 obtain ⟨bk, et, ok⟩ := hb.mp rfl
 subst et
 have q2 := q bk rfl ok
 have ha1 := (ha.sb s1).kd
 have hs1 := s1.keep _ _ hs nmn
 have hx1 := s1.keep _ _ hx nmn
 have xlen := ha1.length
 have szl := sizeLine_eq
 have b8 := ok.len
 have hlx : l ≠ x := ne_of hs hx (fun z => nomatch z)
 refine ⟨_, rfl, l, rfl, ⟨_, SqL.of hs1⟩, fun D hD => ?_⟩
 refine dc_seq (walk_list (xs := xs)) hD (by omega) (fun i kvs _ => kvs = Bk.spKV (bk.take i)) rfl (fun H2 s2 => s2.sqL nmn (SqL.of hs1)) (fun _ _ _ _ _ h => h) (fun Pv i y H2 H' kvs hi s2 yy hR hl2 fin _ => ?_) (fun kvs H2 s2 hD2 hR _ => ?_)
 ·obtain ⟨rfl, ey⟩ := yy
  obtain ⟨k, ek, t, r, zs, rfl, h1, h2, h3, _⟩ := ha1.get ey
  refine ⟨t, _, rfl, s2.sqT h1, rfl, _, _, rfl, _, _, rfl, _, _, rfl, rfl, rfl, ?_⟩
  refine ⟨_, rfl, _, rfl, fin (Sum.inr k.n) _ _ SB.refl ?_⟩
  rw [hR, putK_new, List.take_add_one, ek, Option.toList_some, Bk.spKV, Bk.spKV, List.map_append]
  ·rfl
  ·intro p hp e
   obtain ⟨j, hj, rfl⟩ := List.mem_map.mp hp
   injection e with e
   exact Bk.nodup_at ok.nd ek j hj e
 ·rw [xlen, List.take_length] at hR
  subst hR
  have hx2 := s2.keep _ _ hx1 nmn
  have hl2 := s2.keep _ _ hs1 nmn
  have ha2 := ha1.sb s2 NoLst.nil
  refine ⟨_, rfl, x, _, dx, _, rfl, hx2, T_Book.c, T_Book.no _ (by simp), by decide, ?_⟩
  have e1 : putF (Str.ofString "spread_by_name") (V.ref D) [] = [(Str.ofString "spread_by_name", V.ref D)] := rfl
  rw [e1]
  have t3 : SB [x] H2 (upd H2 x (.ins C_Book dx [(Str.ofString "spread_by_name", V.ref D)])) := SB.setG hx2 (by simp) (fun _ z => nomatch z) (fun _ _ z => nomatch z) _
  have nl3 : NoLst H2 [] [x] := fun p hp => .inr fun xs z => by rw [List.mem_singleton.mp hp, hx2] at z; cases z
  have ha3 := ha2.sb t3 nl3
  have hl3 := t3.keep _ _ hl2 (by simpa using hlx)
  have hx3 : upd H2 x (.ins C_Book dx [(Str.ofString "spread_by_name", V.ref D)]) x = some (.ins C_Book dx [(Str.ofString "spread_by_name", V.ref D)]) := upd_same
  have hD3 := t3.keep _ _ hD2 (by simpa using ne_of hD2 hx2 (fun z => nomatch z))
  have s03 := ((s1.trans s2).nil (ps := [x])).trans t3
  generalize upd H2 x (.ins C_Book dx [(Str.ofString "spread_by_name", V.ref D)]) = H3 at t3 ha3 hl3 hx3 hD3 s03
  refine ⟨_, rfl, l, rfl, ⟨_, SqL.of hl3⟩, fun D2 hn2 => ?_⟩
  refine dc_seq (walk_list (xs := xs)) hn2 (by omega) (fun i kvs H4 => ∃ us, kvs = Bk.rowKV (bk.take i) us /\ Bears K H4 Kd.rowE us (bk.take i)) ⟨[], rfl, .nil⟩ (fun H4 s4 => s4.sqL nmn (SqL.of hl3)) (fun i us H4 H5 s5 ⟨us', e, hb⟩ => ⟨us', e, hb.sb s5 Kd.noList_rowE⟩) (fun Pv i y H4 H' kvs hi s4 yy hR hl4 fin _ => ?_) (fun kvs H4 s4 hD4 hR _ => ?_)
  ·obtain ⟨rfl, ey⟩ := yy
   obtain ⟨us, rfl, hb⟩ := hR
   obtain ⟨k, ek, t, r, zs, rfl, h1, h2, h3, _⟩ := ha3.get ey
   refine ⟨t, _, rfl, s4.sqT h1, rfl, _, _, rfl, _, _, rfl, _, _, rfl, rfl, rfl, ?_⟩
   refine ⟨_, rfl, _, rfl, r, zs, rfl, .inl ⟨SqL.of (s4.keep _ _ h2 nmn), fun p hp => ?_⟩⟩
   have t5 := SB.new (ps := []) hp (.tup zs)
   refine fin (Sum.inr k.n) _ _ t5 ⟨us ++ [.ref p], ?_, ?_⟩
   ·rw [putK_new, List.take_add_one, ek, Option.toList_some, Bk.rowKV, Bk.rowKV, List.zipWith_append hb.length.symm]
    ·rfl
    ·intro p hp e
     obtain ⟨j, hj, e2⟩ := rowKV_mem hp
     rw [e2] at e
     injection e with e
     exact Bk.nodup_at ok.nd ek j hj e
   ·rw [List.take_add_one, ek, Option.toList_some]
    exact Bears.append (hb.sb t5 Kd.noList_rowE) (.cons (.tup (.inl (.inl upd_same)) (Bears.dp ((h3.sb s4 Ru.noList_enc).sb t5 Ru.noList_enc))) .nil)
  ·rw [xlen, List.take_length] at hR
   obtain ⟨us, rfl, hb⟩ := hR
   have hx4 := s4.keep _ _ hx3 nmn
   refine ⟨_, rfl, x, _, dx, _, rfl, hx4, T_Book.c, T_Book.no _ (by simp), by simp, ?_⟩
   have t5 : SB [x] H4 (upd H4 x (.ins C_Book dx (bkF D D2))) := SB.setG hx4 (by simp) (fun _ z => nomatch z) (fun _ _ z => nomatch z) _
   refine q2 _ ((s03.trans s4.nil).trans t5) ⟨x, dx, D, D2, us, rfl, upd_same, ?_, ?_, hb.sb t5 Kd.noList_rowE⟩
   ·exact t5.keep _ _ (s4.keep _ _ hD3 nmn) (by simpa using ne_of (s4.keep _ _ hD3 nmn) hx4 (fun z => nomatch z))
   ·exact t5.keep _ _ hD4 (by simpa using ne_of hD4 hx4 (fun z => nomatch z))
abbrev N_Book_names : List Str := ["self"]
theorem sc_Book_names : FnScope N_Book_names ["self"] (defScope s_Book_names) := ⟨rfl, rfl, rfl, by decide +kernel, rfl, by decide +kernel, by decide +kernel⟩
theorem ok_Book_names {C_Book : Addr} (B : BI mg) (T_Book : ClsF K C_Book ["spread_by_name", "rows_by_name"]) (F : Fun K "names" "Book.names" s_Book_names f fd) : FnOk P w K mg base CX0 (1) f fd ["self"] (spBNames K C_Book) := by
 refine F.ok sc_Book_names (fun vs H Q E h => ?_) (fun cdv A outer s H vs Q E hr h => ?_)
 ·obtain ⟨v, b, rfl, _⟩ := h
  rfl
 obtain ⟨v, b, rfl, hb, hl, q⟩ := h
 have hun2 := hunT hr
 refine ⟨_, pss_one (ps_ret (pe_callTy (call_listD rfl) rfl B.list boot_list (pa_cons (pe_fld (pv 0) rfl) pa_nil))), ?_⟩
 obtain ⟨a, dx, d1, d2, us, rfl, h1, h2, h3, h4⟩ := hb
 refine ⟨_, rfl, a, _, dx, _, _, rfl, h1, T_Book.c, T_Book.no _ (by simp), rfl, d1, _, rfl, .inl h2, fun p hp => ?_⟩
 exact q p _ (SB.new hp _) hp (by rw [upd_same, Bk.spKV, List.map_map, List.map_map]; rfl)
abbrev N_Book_spreads : List Str := ["self", "name"]
theorem sc_Book_spreads : FnScope N_Book_spreads ["self", "name"] (defScope s_Book_spreads) := ⟨rfl, rfl, rfl, by decide +kernel, rfl, by decide +kernel, by decide +kernel⟩
theorem ok_Book_spreads {C_Book C_NoKind : Addr} (B : BI mg) (T_Book : ClsF K C_Book ["spread_by_name", "rows_by_name"]) (G_check_kind : GotXN P w K mg base "check_kind" ["book", "name"] (3) (spCheckK K C_Book C_NoKind)) (F : Fun K "spreads" "Book.spreads" s_Book_spreads f fd) : FnOk P w K mg base (L2N.CX P w) (4) f fd ["self", "name"] (spBSpreads K C_Book C_NoKind) := by
 refine F.okXN sc_Book_spreads (fun vs H Q E h => ?_) (fun cdv A outer s H vs Q E hr h => ?_)
 ·obtain ⟨v, b, n, rfl, _⟩ := h
  rfl
 obtain ⟨v, b, n, rfl, hb, hl, qk, qE⟩ := h
 have hun2 := hunT hr
 refine ⟨_, pss_cons (ps_expr (pe_gotSN G_check_kind (hr.mono (by omega)) rfl (L2N.takes_of rfl rfl rfl rfl) (pa_cons (pv 0) (pa_cons (pv 1) pa_nil))))
  (pss_one (ps_ret (pe_dget (by show A.units + 3 + 1 < cLine; omega) (pe_fld (pv 0) rfl) (pv 1) (fun _ _ => rfl)))), ?_⟩
 refine ⟨_, rfl, _, rfl, _, b, n, rfl, hb, hl, fun k e H1 s1 => ?_, qE⟩
 obtain ⟨a, dx, d1, d2, us, rfl, h1, h2, h3, h4⟩ := hb.sb0 s1
 refine ⟨_, rfl, a, _, dx, _, _, rfl, h1, T_Book.c, T_Book.no _ (by simp), rfl, _, rfl, d1, V.bl k.w, rfl, getK h2 (by rw [Bk.spKV_val, e]; rfl), qk k e H1 s1⟩
abbrev N_Book_rules : List Str := ["self", "name"]
theorem sc_Book_rules : FnScope N_Book_rules ["self", "name"] (defScope s_Book_rules) := ⟨rfl, rfl, rfl, by decide +kernel, rfl, by decide +kernel, by decide +kernel⟩
theorem ok_Book_rules {C_Book C_NoKind : Addr} (B : BI mg) (T_Book : ClsF K C_Book ["spread_by_name", "rows_by_name"]) (G_check_kind : GotXN P w K mg base "check_kind" ["book", "name"] (3) (spCheckK K C_Book C_NoKind)) (F : Fun K "rules" "Book.rules" s_Book_rules f fd) : FnOk P w K mg base (L2N.CX P w) (4) f fd ["self", "name"] (spBRules K C_Book C_NoKind) := by
 refine F.okXN sc_Book_rules (fun vs H Q E h => ?_) (fun cdv A outer s H vs Q E hr h => ?_)
 ·obtain ⟨v, b, n, rfl, _⟩ := h
  rfl
 obtain ⟨v, b, n, rfl, hb, hl, hr4, qk, qE⟩ := h
 have hun2 := hunT hr
 refine ⟨_, pss_cons (ps_expr (pe_gotSN G_check_kind (hr.mono (by omega)) rfl (L2N.takes_of rfl rfl rfl rfl) (pa_cons (pv 0) (pa_cons (pv 1) pa_nil))))
  (pss_one (ps_ret (pe_callTy call_list_of rfl B.list boot_list (pa_cons (pe_dget (by show A.units + 3 + 1 < cLine; omega) (pe_fld (pv 0) rfl) (pv 1) (fun _ _ => rfl)) pa_nil)))), ?_⟩
 refine ⟨_, rfl, _, rfl, _, b, n, rfl, hb, hl, fun k e H1 s1 => ?_, qE⟩
 obtain ⟨a, dx, d1, d2, us, rfl, h1, h2, h3, h4⟩ := hb.sb0 s1
 obtain ⟨u, hv, hu⟩ := Bk.rowKV_val n h4 e
 refine ⟨_, rfl, a, _, dx, _, _, rfl, h1, T_Book.c, T_Book.no _ (by simp), rfl, _, rfl, d2, u, rfl, getK h3 hv, ?_⟩
 cases hu with
 | tup ht hd => exact ⟨_, _, rfl, .inr ht, fun l hl => qk k e l _ _ (s1.trans (SB.new hl _)) (s1.dom l hl) upd_same ((Bears.of hd).sb (SB.new (ps := []) hl _) Ru.noList_enc)⟩
abbrev N_Play___init__ : List Str := ["self", "book", "grove"]
theorem sc_Play___init__ : FnScope N_Play___init__ ["self", "book", "grove"] (defScope s_Play___init__) := ⟨rfl, rfl, rfl, by decide +kernel, rfl, by decide +kernel, by decide +kernel⟩
theorem ok_Play___init__ {C_Play C_Book C_NoKind : Addr} (B : BI mg) (T_Play : ClsF K C_Play ["book", "stood", "done", "undone"]) (G_check_kinds : GotXN P w K mg base "check_kinds" ["book", "grove"] (72) (spCheckKX K C_Book C_NoKind)) (F : Fun K "__init__" "Play.__init__" s_Play___init__ f fd) : FnOk P w K mg base (L2N.CX P w) (75) f fd ["self", "book", "grove"] (spPyInitX K C_Play C_Book C_NoKind) := by
 refine F.okXN sc_Play___init__ (fun vs H Q E h => ?_) (fun cdv A outer s H vs Q E hr h => ?_)
 ·obtain ⟨x, dx, bv, gv, b, g, ns, rfl, _⟩ := h
  rfl
 obtain ⟨x, dx, bv, gv, b, g, ns, rfl, hx, hbk, bl, hg, gd, gp, gnn, nsl, qK, qI⟩ := h
 have hun2 := hunT hr
 refine ⟨_, pss_cons (ps_expr (pe_gotSN G_check_kinds (hr.mono (by omega)) rfl (L2N.takes_of rfl rfl rfl rfl) (pa_cons (pv 1) (pa_cons (pv 2) pa_nil))))
  (pss_cons (ps_fld (pv 0) (pv 1) rfl)
  (pss_cons (ps_fld (pv 0) (pe_lst (pa_cons (pv 2) pa_nil)) rfl)
  (pss_cons (ps_fld (pv 0) (pe_lst pa_nil) rfl)
  (pss_one (ps_fld (pv 0) (pe_lst pa_nil) rfl))))), ?_⟩
 refine ⟨_, rfl, _, rfl, bv, gv, b, g, ns, rfl, hbk, hg, bl, gd, gp, gnn, nsl, fun gn H1 s1 => ?_, fun n hn d H1 s1 nd hd1 => qK n hn d H1 s1 nd hd1⟩
 have q := qI gn
 have hx1 := s1.keep _ _ hx nmn
 refine ⟨_, rfl, _, rfl, x, _, dx, _, rfl, hx1, T_Play.c, T_Play.no _ (by simp), by decide, ?_⟩
 have e1 : putF (Str.ofString "book") bv [] = [(Str.ofString "book", bv)] := rfl
 rw [e1]
 have t2 : SB [x] H1 (upd H1 x (.ins C_Play dx [(Str.ofString "book", bv)])) := SB.setG hx1 (by simp) (fun _ z => nomatch z) (fun _ _ z => nomatch z) _
 have hx2 : upd H1 x (.ins C_Play dx [(Str.ofString "book", bv)]) x = some (.ins C_Play dx [(Str.ofString "book", bv)]) := upd_same
 have hg2 := GA.sb (hg.sb s1) t2
 have s02 := (s1.nil (ps := [x])).trans t2
 generalize upd H1 x (.ins C_Play dx [(Str.ofString "book", bv)]) = H2 at t2 hx2 hg2 s02
 refine ⟨_, rfl, by show 1 <= sizeLine; decide, fun ls nls => ?_⟩
 have t3 := SB.new (ps := []) nls (.lst [gv])
 have hs3 : upd H2 ls (.lst [gv]) ls = some (.lst [gv]) := upd_same
 have hx3 := t3.keep _ _ hx2 nmn
 have hg3 := hg2.sb t3
 have s03 := s02.trans (t3.nil (ps := [x]))
 have nls0 := s02.dom _ nls
 generalize upd H2 ls (.lst [gv]) = H3 at t3 hs3 hx3 hg3 s03
 refine ⟨_, rfl, x, _, dx, _, rfl, hx3, T_Play.c, T_Play.no _ (by simp), by simp, ?_⟩
 have e4 : putF (Str.ofString "stood") (V.ref ls) [(Str.ofString "book", bv)] = [(Str.ofString "book", bv), (Str.ofString "stood", V.ref ls)] := rfl
 rw [e4]
 have t4 : SB [x] H3 (upd H3 x (.ins C_Play dx [(Str.ofString "book", bv), (Str.ofString "stood", V.ref ls)])) := SB.setG hx3 (by simp) (fun _ z => nomatch z) (fun _ _ z => nomatch z) _
 have hx4 : upd H3 x (.ins C_Play dx [(Str.ofString "book", bv), (Str.ofString "stood", V.ref ls)]) x = some (.ins C_Play dx [(Str.ofString "book", bv), (Str.ofString "stood", V.ref ls)]) := upd_same
 have lx : ls ≠ x := ne_of hs3 hx3 (fun z => nomatch z)
 have hs4 := t4.keep _ _ hs3 (by simpa using lx)
 have hg4 := GA.sb hg3 t4
 have s04 := s03.trans t4
 generalize upd H3 x (.ins C_Play dx [(Str.ofString "book", bv), (Str.ofString "stood", V.ref ls)]) = H4 at t4 hx4 hs4 hg4 s04
 refine ⟨by show 0 <= sizeLine; decide, fun ld nld => ?_⟩
 have t5 := SB.new (ps := []) nld (.lst [])
 have hd5 : upd H4 ld (.lst []) ld = some (.lst []) := upd_same
 have hx5 := t5.keep _ _ hx4 nmn
 have hs5 := t5.keep _ _ hs4 nmn
 have hg5 := hg4.sb t5
 have s05 := s04.trans (t5.nil (ps := [x]))
 have nld0 := s04.dom _ nld
 have n1 : ls ≠ ld := ne_of_none hs4 nld
 generalize upd H4 ld (.lst []) = H5 at t5 hd5 hx5 hs5 hg5 s05
 refine ⟨_, rfl, x, _, dx, _, rfl, hx5, T_Play.c, T_Play.no _ (by simp), by simp, ?_⟩
 have e6 : putF (Str.ofString "done") (V.ref ld) [(Str.ofString "book", bv), (Str.ofString "stood", V.ref ls)] = [(Str.ofString "book", bv), (Str.ofString "stood", V.ref ls), (Str.ofString "done", V.ref ld)] := rfl
 rw [e6]
 have t6 : SB [x] H5 (upd H5 x (.ins C_Play dx [(Str.ofString "book", bv), (Str.ofString "stood", V.ref ls), (Str.ofString "done", V.ref ld)])) := SB.setG hx5 (by simp) (fun _ z => nomatch z) (fun _ _ z => nomatch z) _
 have hx6 : upd H5 x (.ins C_Play dx [(Str.ofString "book", bv), (Str.ofString "stood", V.ref ls), (Str.ofString "done", V.ref ld)]) x = some (.ins C_Play dx [(Str.ofString "book", bv), (Str.ofString "stood", V.ref ls), (Str.ofString "done", V.ref ld)]) := upd_same
 have dx' : ld ≠ x := ne_of hd5 hx5 (fun z => nomatch z)
 have hs6 := t6.keep _ _ hs5 (by simpa using lx)
 have hd6 := t6.keep _ _ hd5 (by simpa using dx')
 have hg6 := GA.sb hg5 t6
 have s06 := s05.trans t6
 generalize upd H5 x (.ins C_Play dx [(Str.ofString "book", bv), (Str.ofString "stood", V.ref ls), (Str.ofString "done", V.ref ld)]) = H6 at t6 hx6 hs6 hd6 hg6 s06
 refine ⟨by show 0 <= sizeLine; decide, fun lu nlu => ?_⟩
 have t7 := SB.new (ps := []) nlu (.lst [])
 have hu7 : upd H6 lu (.lst []) lu = some (.lst []) := upd_same
 have hx7 := t7.keep _ _ hx6 nmn
 have hs7 := t7.keep _ _ hs6 nmn
 have hd7 := t7.keep _ _ hd6 nmn
 have hg7 := hg6.sb t7
 have s07 := s06.trans (t7.nil (ps := [x]))
 have nlu0 := s06.dom _ nlu
 have n2 : ls ≠ lu := ne_of_none hs6 nlu
 have n3 : ld ≠ lu := ne_of_none hd6 nlu
 generalize upd H6 lu (.lst []) = H7 at t7 hu7 hx7 hs7 hd7 hg7 s07
 refine ⟨_, rfl, x, _, dx, _, rfl, hx7, T_Play.c, T_Play.no _ (by simp), by simp, ?_⟩
 have e8 : putF (Str.ofString "undone") (V.ref lu) [(Str.ofString "book", bv), (Str.ofString "stood", V.ref ls), (Str.ofString "done", V.ref ld)] = plF bv ls ld lu := rfl
 rw [e8]
 have t8 : SB [x] H7 (upd H7 x (.ins C_Play dx (plF bv ls ld lu))) := SB.setG hx7 (by simp) (fun _ z => nomatch z) (fun _ _ z => nomatch z) _
 have ux : lu ≠ x := ne_of hu7 hx7 (fun z => nomatch z)
 exact q ls ld lu _ (s07.trans t8) nls0 nld0 nlu0 ⟨⟨dx, upd_same⟩, ⟨_, t8.keep _ _ hs7 (by simpa using lx), .cons (GA.sb hg7 t8) .nil⟩, ⟨_, t8.keep _ _ hd7 (by simpa using dx'), .nil⟩, ⟨_, t8.keep _ _ hu7 (by simpa using ux), .nil⟩, n1, n2, n3⟩
abbrev N_Play_grove : List Str := ["self"]
theorem sc_Play_grove : FnScope N_Play_grove ["self"] (defScope s_Play_grove) := ⟨rfl, rfl, rfl, by decide +kernel, rfl, by decide +kernel, by decide +kernel⟩
theorem ok_Play_grove {C_Play : Addr} (B : BI mg) (T_Play : ClsF K C_Play ["book", "stood", "done", "undone"]) (F : Fun K "grove" "Play.grove" s_Play_grove f fd) : FnOk P w K mg base CX0 (1) f fd ["self"] (spPyGrove K C_Play) := by
 refine F.ok sc_Play_grove (fun vs H Q E h => ?_) (fun cdv A outer s H vs Q E hr h => ?_)
 ·obtain ⟨a, ls, ld, lu, bv, gs, g, ds, us, rfl, _⟩ := h
  rfl
 obtain ⟨a, ls, ld, lu, bv, gs, g, ds, us, rfl, hp, q⟩ := h
 have hun2 := hunT hr
 refine ⟨_, pss_one (ps_ret (pe_ix ix_list (pe_fld (pv 0) rfl) (pe_un un_neg pe_int) (fun _ _ => rfl))), ?_⟩
 obtain ⟨dx, hi⟩ := hp.ins
 obtain ⟨vs, hs, hb⟩ := hp.st
 obtain ⟨us', u, rfl, _, hu⟩ := hb.last
 exact ⟨_, rfl, a, _, dx, _, _, rfl, hi, T_Play.c, T_Play.no _ (by simp), rfl, 1, rfl, ls, _, -1, u, rfl, rfl, SqL.of hs, atI_app, q u hu⟩
abbrev N_Play_falls : List Str := ["self"]
theorem sc_Play_falls : FnScope N_Play_falls ["self"] (defScope s_Play_falls) := ⟨rfl, rfl, rfl, by decide +kernel, rfl, by decide +kernel, by decide +kernel⟩
theorem ok_Play_falls {C_Play : Addr} (B : BI mg) (T_Play : ClsF K C_Play ["book", "stood", "done", "undone"]) (F : Fun K "falls" "Play.falls" s_Play_falls f fd) : FnOk P w K mg base CX0 (1) f fd ["self"] (spPyFalls K C_Play) := by
 refine F.ok sc_Play_falls (fun vs H Q E h => ?_) (fun cdv A outer s H vs Q E hr h => ?_)
 ·obtain ⟨a, ls, ld, lu, bv, gs, ds, us, rfl, _⟩ := h
  rfl
 obtain ⟨a, ls, ld, lu, bv, gs, ds, us, rfl, hp, q⟩ := h
 have hun2 := hunT hr
 refine ⟨_, pss_one (ps_ret (pe_callTy call_list_of rfl B.list boot_list (pa_cons (pe_fld (pv 0) rfl) pa_nil))), ?_⟩
 obtain ⟨dx, hi⟩ := hp.ins
 obtain ⟨vs, hs, hb⟩ := hp.dn
 refine ⟨_, rfl, a, _, dx, _, _, rfl, hi, T_Play.c, T_Play.no _ (by simp), rfl, ld, vs, rfl, .inl (SqL.of hs), fun l nl => ?_⟩
 exact q l vs _ (SB.new nl _) nl upd_same (hb.sb (SB.new (ps := []) nl _) faE_noList)
abbrev N_Play_fall : List Str := ["self", "place", "rule", "number", "behind", "changed"]
theorem sc_Play_fall : FnScope N_Play_fall ["self", "place", "rule", "number"] (defScope s_Play_fall) := ⟨rfl, rfl, rfl, by decide +kernel, rfl, by decide +kernel, by decide +kernel⟩
theorem ok_Play_fall {C_Play C_Book C_NoKind C_NoPlace C_NoRule C_NoNumber C_TooGreat : Addr} (B : BI mg) (T_Play : ClsF K C_Play ["book", "stood", "done", "undone"]) (G_fallen : GotXN P w K mg base "fallen" ["book", "grove", "place", "rule", "number"] (74) (spFallenX K C_Book C_NoKind C_NoPlace C_NoRule C_NoNumber C_TooGreat)) (G_Play_grove : GotM P w K mg base C_Play "grove" ["self"] (1) (spPyGrove K C_Play)) (F : Fun K "fall" "Play.fall" s_Play_fall f fd) : FnOk P w K mg base (L2N.CX P w) (76) f fd ["self", "place", "rule", "number"] (spPyFall K C_Play C_Book C_NoPlace C_NoRule C_NoNumber C_TooGreat) := by
 refine F.okXN sc_Play_fall (fun vs H Q E h => ?_) (fun cdv A outer s H vs Q E hr h => ?_)
 ·obtain ⟨a, ls, ld, lu, pa, bv, x, y, b, gs, g, ds, us, D, xs, os, ro, so, rfl, _⟩ := h
  rfl
 obtain ⟨a, ls, ld, lu, pa, bv, x, y, b, gs, g, ds, us, D, xs, os, ro, so, rfl, ⟨hp, gl, dl⟩, ⟨hbk, ok⟩, ⟨go, gd, gp, gn⟩, ⟨hpa, hos⟩, hx, hy, nb, qP, q⟩ := h
 have hun2 := hunT hr
 refine ⟨_, pss_cons (ps_asg (pe_gotSN G_fallen (hr.mono (by omega)) rfl (L2N.takes_of rfl rfl rfl rfl) (pa_cons (pe_fld (pv 0) rfl) (pa_cons (pe_gotM0 G_Play_grove (hr.mono (by omega)) (pv 0)) (pa_cons (pv 1) (pa_cons (pv 2) (pa_cons (pv 3) pa_nil)))))) (pg_tup rfl (pgs_cons (pg_name (i := 4) sc_Play_fall.nd rfl (.inl rfl)) (pgs_cons (pg_name (i := 5) sc_Play_fall.nd rfl (.inl rfl)) pgs_nil))))
  (pss_cons (ps_expr (pe_bm PySem.F.plainAttrs_list PySem.F.slot_list_append PySem.F.type_list_append mt_append (pe_fld (pv 0) rfl) (pa_cons (pv 4) pa_nil)))
  (pss_cons (ps_expr (pe_bm PySem.F.plainAttrs_list PySem.F.slot_list_append PySem.F.type_list_append mt_append (pe_fld (pv 0) rfl) (pa_cons (pe_tup (pa_cons (pv 1) (pa_cons (pv 2) (pa_cons (pv 3) pa_nil)))) pa_nil)))
  (pss_cons (ps_fld (pv 0) (pe_lst pa_nil) rfl)
  (pss_one (ps_ret (pv 5)))))), ?_⟩
 have szl := sizeLine_eq
 obtain ⟨dx, hi⟩ := hp.ins
 refine ⟨_, rfl, a, _, dx, _, _, rfl, hi, T_Play.c, T_Play.no _ (by simp), rfl, ?_⟩
 refine ⟨_, rfl, a, dx, _, rfl, hi, rfl, ?_⟩
 refine nilI ?_
 refine ⟨a, ls, ld, lu, bv, gs, g, ds, us, rfl, hp, fun gv hg => ?_⟩
 refine ⟨_, rfl, _, rfl, _, rfl, ?_⟩
 refine fallen_x_of ?_
 refine ⟨bv, gv, x, y, pa, b, g, D, xs, os, ro, so, rfl, ⟨hbk, ok⟩, ⟨hg, go, gd, gp, gn⟩, ⟨hpa, hos⟩, hx, hy, nb, qP, fun pl k kd e1 e2 e3 => ?_⟩
 obtain ⟨q1, q2⟩ := q pl k kd e1 e2 e3
 refine ⟨q1, fun i r e4 e5 => ?_⟩
 obtain ⟨q3, q4⟩ := q2 i r e4 e5
 refine ⟨q3, fun n e6 n0 => ?_⟩
 obtain ⟨q5, q6⟩ := q4 n e6 n0
 refine ⟨q5, fun hin t u p H1 s1 nt ht hu hpp => ?_⟩
 subst e1 e4 e6
 obtain rfl := hos.ints
 obtain rfl := hx.int
 obtain rfl := hy.int
 refine ⟨t, _, rfl, ht, rfl, _, _, rfl, _, _, rfl, rfl, ?_⟩
 have hp1 := hp.sb0 s1
 obtain ⟨⟨dx, hi⟩, ⟨v1, hs1, bs1⟩, ⟨v2, hd1, bd1⟩, _, m1, m2, m3⟩ := hp1
 have ns : a ≠ ls := ne_of hi hs1 (fun z => nomatch z)
 have nd : a ≠ ld := ne_of hi hd1 (fun z => nomatch z)
 have l1 := bs1.length
 have l2 := bd1.length
 rw [List.length_append, List.length_singleton] at l1
 refine ⟨_, rfl, a, _, dx, _, _, rfl, hi, T_Play.c, T_Play.no _ (by simp), rfl, .inl ⟨rfl, _, SqL.of hs1⟩, _, rfl, ls, _, _, rfl, rfl, hs1, by omega, ?_⟩
 have t2 := SB.set (ps := [ls]) hs1 (by simp) (.lst (v1 ++ [u]))
 have hs2 : upd H1 ls (.lst (v1 ++ [u])) ls = some (.lst (v1 ++ [u])) := upd_same
 have hi2 := t2.keep _ _ hi (by simpa using ns)
 have hd2 := t2.keep _ _ hd1 (by simpa using fun z : ld = ls => m1 z.symm)
 have hpa2 := t2.sqT (s1.sqT hpa)
 have hb2 : Bears K _ Gr.enc (v1 ++ [u]) (gs ++ [g] ++ [_]) := (bs1.sb t2 Gr.noList_enc).append (.cons (GA.sb hu t2) .nil)
 have hc2 := bd1.sb t2 faE_noList
 have hp2 := Dp_sb t2 _ _ (pl_noList _) hpp
 have s02 : SB [a, ls, ld] H _ := s1.nil.trans (t2.mono (by simp))
 generalize upd H1 ls (.lst (v1 ++ [u])) = H2 at t2 hs2 hi2 hd2 hpa2 hb2 hc2 hp2 s02
 refine ⟨_, rfl, a, _, dx, _, _, rfl, hi2, T_Play.c, T_Play.no _ (by simp), rfl, .inl ⟨rfl, _, SqL.of hd2⟩, _, rfl, _, rfl, _, rfl, by show 3 <= sizeLine; decide, fun T nT => ?_⟩
 have t3 := SB.new (ps := []) nT (.tup [.ref pa, .int (i : Nat), .int n])
 have hT : SqT K (upd H2 T (.tup [.ref pa, .int (i : Nat), .int n])) T [.ref pa, .int (i : Nat), .int n] := SqT.of upd_same
 have hs3 := t3.keep _ _ hs2 nmn
 have hi3 := t3.keep _ _ hi2 nmn
 have hd3 := t3.keep _ _ hd2 nmn
 have hf3 : Dp K _ (.ref T) (faE (pl, i, n)) := .tup hT (.cons (PL_of (t3.sqT hpa2)) (.cons (.int _) (.cons (.int _) .nil)))
 have hb3 := hb2.sb t3 Gr.noList_enc
 have hc3 := hc2.sb t3 faE_noList
 have hp3 := Dp_sb t3 _ _ (pl_noList _) hp2
 have s03 := s02.trans (t3.nil (ps := [a, ls, ld]))
 generalize upd H2 T (.tup [.ref pa, .int (i : Nat), .int n]) = H3 at t3 hT hs3 hi3 hd3 hf3 hb3 hc3 hp3 s03
 refine ⟨ld, _, _, rfl, rfl, hd3, by omega, ?_⟩
 have t4 := SB.set (ps := [ld]) hd3 (by simp) (.lst (v2 ++ [.ref T]))
 have hd4 : upd H3 ld (.lst (v2 ++ [.ref T])) ld = some (.lst (v2 ++ [.ref T])) := upd_same
 have hs4 := t4.keep _ _ hs3 (by simpa using m1)
 have hi4 := t4.keep _ _ hi3 (by simpa using nd)
 have hb4 := hb3.sb t4 Gr.noList_enc
 have hc4 : Bears K _ faE (v2 ++ [.ref T]) (ds ++ [(pl, i, n)]) := (hc3.sb t4 faE_noList).append (.cons (Dp_sb t4 _ _ (faE_noList _) hf3) .nil)
 have hp4 := Dp_sb t4 _ _ (pl_noList _) hp3
 have s04 := s03.trans (t4.mono (qs := [a, ls, ld]) (by simp))
 generalize upd H3 ld (.lst (v2 ++ [.ref T])) = H4 at t4 hd4 hs4 hi4 hb4 hc4 hp4 s04
 refine ⟨by show 0 <= sizeLine; decide, fun lu' nlu => ?_⟩
 have t5 := SB.new (ps := []) nlu (.lst [])
 have hu5 : upd H4 lu' (.lst []) lu' = some (.lst []) := upd_same
 have hd5 := t5.keep _ _ hd4 nmn
 have hs5 := t5.keep _ _ hs4 nmn
 have hi5 := t5.keep _ _ hi4 nmn
 have hb5 := hb4.sb t5 Gr.noList_enc
 have hc5 := hc4.sb t5 faE_noList
 have hp5 := Dp_sb t5 _ _ (pl_noList _) hp4
 have s05 := s04.trans (t5.nil (ps := [a, ls, ld]))
 have nlu0 := s04.dom _ nlu
 have w2 : ls ≠ lu' := ne_of_none hs4 nlu
 have w3 : ld ≠ lu' := ne_of_none hd4 nlu
 generalize upd H4 lu' (.lst []) = H5 at t5 hu5 hd5 hs5 hi5 hb5 hc5 hp5 s05
 refine ⟨_, rfl, a, _, dx, _, rfl, hi5, T_Play.c, T_Play.no _ (by simp), by simp, ?_⟩
 have e6 : putF (Str.ofString "undone") (V.ref lu') (plF bv ls ld lu) = plF bv ls ld lu' := rfl
 rw [e6]
 have t6 : SB [a] H5 (upd H5 a (.ins C_Play dx (plF bv ls ld lu'))) := SB.setG hi5 (by simp) (fun _ z => nomatch z) (fun _ _ z => nomatch z) _
 have au : lu' ≠ a := ne_of hu5 hi5 (fun z => nomatch z)
 refine ⟨_, rfl, q6 hin lu' p _ (s05.trans (t6.mono (by simp))) nlu0 ⟨⟨dx, upd_same⟩, ⟨_, t6.keep _ _ hs5 (by simpa using fun z : ls = a => ns z.symm), hb5.sb t6 Gr.noList_enc⟩, ⟨_, t6.keep _ _ hd5 (by simpa using fun z : ld = a => nd z.symm), hc5.sb t6 faE_noList⟩, ⟨_, t6.keep _ _ hu5 (by simpa using au), .nil⟩, m1, w2, w3⟩ (Dp_sb t6 _ _ (pl_noList _) hp5)⟩
abbrev N_Play_back : List Str := ["self"]
theorem sc_Play_back : FnScope N_Play_back ["self"] (defScope s_Play_back) := ⟨rfl, rfl, rfl, by decide +kernel, rfl, by decide +kernel, by decide +kernel⟩
theorem ok_Play_back {C_NoFall C_Play : Addr} (B : BI mg) (O_NoFall : Own K mg "NoFall" C_NoFall) (T_Play : ClsF K C_Play ["book", "stood", "done", "undone"]) (G_Play_grove : GotM P w K mg base C_Play "grove" ["self"] (1) (spPyGrove K C_Play)) (F : Fun K "back" "Play.back" s_Play_back f fd) : FnOk P w K mg base (L2N.CX P w) (3) f fd ["self"] (spPyBack K C_Play C_NoFall) := by
 refine F.okXN sc_Play_back (fun vs H Q E h => ?_) (fun cdv A outer s H vs Q E hr h => ?_)
 ·obtain ⟨a, ls, ld, lu, bv, gs, ds, us, rfl, _⟩ := h
  rfl
 obtain ⟨a, ls, ld, lu, bv, gs, ds, us, rfl, hp, ul, qE, q⟩ := h
 have hun2 := hunT hr
 refine ⟨_, pss_cons (ps_if (pt_not (pt_truth (pe_fld (pv 0) rfl) (by intro _; rfl))) (pss_one (L2N.ps_raise rfl (L2N.takes_of rfl rfl rfl rfl) (L2N.pmk_own PySem.F.excBase_ValueError O_NoFall.q O_NoFall.gC O_NoFall.k (raises_own O_NoFall.s O_NoFall.t) rfl))) pss_nil)
  (pss_cons (ps_expr (pe_bm PySem.F.plainAttrs_list PySem.F.slot_list_append PySem.F.type_list_append mt_append (pe_fld (pv 0) rfl) (pa_cons (pe_tup (pa_cons (pe_bm0 PySem.F.plainAttrs_list PySem.F.slot_list_pop PySem.F.type_list_pop mt_pop (pe_fld (pv 0) rfl)) (pa_cons (pe_bm0 PySem.F.plainAttrs_list PySem.F.slot_list_pop PySem.F.type_list_pop mt_pop (pe_fld (pv 0) rfl)) pa_nil))) pa_nil)))
  (pss_one (ps_ret (pe_gotM0 G_Play_grove (hr.mono (by omega)) (pv 0))))), ?_⟩
 have szl := sizeLine_eq
 have hp0 := hp
 obtain ⟨⟨dx, hi⟩, ⟨v1, hs, bs⟩, ⟨v2, hd, bd⟩, ⟨v3, hu, bu⟩, m1, m2, m3⟩ := hp
 refine ⟨_, rfl, a, _, dx, _, _, rfl, hi, T_Play.c, T_Play.no _ (by simp), rfl, _, .inl ⟨v2, SqL.of hd, rfl⟩, ?_⟩
 have l2 := bd.length
 by_cases hds : ds = []
 ·subst hds
  have e2 : v2 = [] := List.length_eq_zero_iff.mp l2
  subst e2
  exact iteT (qE rfl _ SB.refl)
 obtain ⟨g0, h, g, d0, f0, rfl, rfl, qq⟩ := q hds
 obtain ⟨w1, u1, rfl, bs1, hg⟩ := bs.last
 obtain ⟨w2, u2, rfl, bd1, hf0⟩ := bd.last
 rw [show (w2 ++ [u2]).isEmpty = false by simp]
 have ns : a ≠ ls := ne_of hi hs (fun z => nomatch z)
 have nd : a ≠ ld := ne_of hi hd (fun z => nomatch z)
 have nu : a ≠ lu := ne_of hi hu (fun z => nomatch z)
 refine iteF ⟨_, rfl, a, _, dx, _, _, rfl, hi, T_Play.c, T_Play.no _ (by simp), rfl, .inl ⟨rfl, _, SqL.of hu⟩, ?_⟩
 refine ⟨_, rfl, a, _, dx, _, _, rfl, hi, T_Play.c, T_Play.no _ (by simp), rfl, .inl ⟨rfl, _, SqL.of hd⟩, ld, _, u2, rfl, rfl, hd, by simp, ?_⟩
 rw [List.dropLast_concat]
 have t1 := SB.set (ps := [ld]) hd (by simp) (.lst w2)
 have hd1 : upd H ld (.lst w2) ld = some (.lst w2) := upd_same
 have hi1 := t1.keep _ _ hi (by simpa using nd)
 have hs1 := t1.keep _ _ hs (by simpa using m1)
 have hu1 := t1.keep _ _ hu (by simpa using fun z : lu = ld => m3 z.symm)
 have cs1 := bs1.sb t1 Gr.noList_enc
 have cd1 := bd1.sb t1 faE_noList
 have cu1 := bu.sb t1 fgE_noList
 have cg1 := Dp_sb t1 _ _ (Gr.noList_enc _) hg
 have cf1 := Dp_sb t1 _ _ (faE_noList _) hf0
 have s01 : SB [ls, ld, lu] H _ := t1.mono (by simp)
 generalize upd H ld (.lst w2) = H1 at t1 hd1 hi1 hs1 hu1 cs1 cd1 cu1 cg1 cf1 s01
 refine ⟨_, rfl, a, _, dx, _, _, rfl, hi1, T_Play.c, T_Play.no _ (by simp), rfl, .inl ⟨rfl, _, SqL.of hs1⟩, ls, _, u1, rfl, rfl, hs1, by simp, ?_⟩
 rw [List.dropLast_concat]
 have t2 := SB.set (ps := [ls]) hs1 (by simp) (.lst w1)
 have hs2 : upd H1 ls (.lst w1) ls = some (.lst w1) := upd_same
 have hi2 := t2.keep _ _ hi1 (by simpa using ns)
 have hd2 := t2.keep _ _ hd1 (by simpa using fun z : ld = ls => m1 z.symm)
 have hu2 := t2.keep _ _ hu1 (by simpa using fun z : lu = ls => m2 z.symm)
 have cs2 := cs1.sb t2 Gr.noList_enc
 have cd2 := cd1.sb t2 faE_noList
 have cu2 := cu1.sb t2 fgE_noList
 have cg2 := Dp_sb t2 _ _ (Gr.noList_enc _) cg1
 have cf2 := Dp_sb t2 _ _ (faE_noList _) cf1
 have s02 := s01.trans (t2.mono (qs := [ls, ld, lu]) (by simp))
 generalize upd H1 ls (.lst w1) = H2 at t2 hs2 hi2 hd2 hu2 cs2 cd2 cu2 cg2 cf2 s02
 refine ⟨by show 2 <= sizeLine; decide, fun T nT => ?_⟩
 have t3 := SB.new (ps := []) nT (.tup [u2, u1])
 have hT : SqT K (upd H2 T (.tup [u2, u1])) T [u2, u1] := SqT.of upd_same
 have hi3 := t3.keep _ _ hi2 nmn
 have hs3 := t3.keep _ _ hs2 nmn
 have hd3 := t3.keep _ _ hd2 nmn
 have hu3 := t3.keep _ _ hu2 nmn
 have cs3 := cs2.sb t3 Gr.noList_enc
 have cd3 := cd2.sb t3 faE_noList
 have cu3 := cu2.sb t3 fgE_noList
 have cT : Dp K _ (.ref T) (fgE (f0, g)) := .tup hT (.cons (Dp_sb t3 _ _ (faE_noList _) cf2) (.cons (Dp_sb t3 _ _ (Gr.noList_enc _) cg2) .nil))
 have s03 := s02.trans (t3.nil (ps := [ls, ld, lu]))
 generalize upd H2 T (.tup [u2, u1]) = H3 at t3 hT hi3 hs3 hd3 hu3 cs3 cd3 cu3 cT s03
 have l3 := cu3.length
 refine ⟨lu, _, _, rfl, rfl, hu3, by omega, ?_⟩
 have t4 := SB.set (ps := [lu]) hu3 (by simp) (.lst (v3 ++ [.ref T]))
 have s04 := s03.trans (t4.mono (qs := [ls, ld, lu]) (by simp))
 have hp4 : Ply K C_Play (upd H3 lu (.lst (v3 ++ [.ref T]))) bv a ls ld lu (g0 ++ [h]) d0 (us ++ [(f0, g)]) := ⟨⟨dx, t4.keep _ _ hi3 (by simpa using nu)⟩, ⟨w1, t4.keep _ _ hs3 (by simpa using m2), cs3.sb t4 Gr.noList_enc⟩, ⟨w2, t4.keep _ _ hd3 (by simpa using m3), cd3.sb t4 faE_noList⟩, ⟨_, upd_same, (cu3.sb t4 fgE_noList).append (.cons (Dp_sb t4 _ _ (fgE_noList _) cT) .nil)⟩, m1, m2, m3⟩
 generalize upd H3 lu (.lst (v3 ++ [.ref T])) = H4 at t4 s04 hp4
 obtain ⟨dx', hi4⟩ := hp4.ins
 refine ⟨_, rfl, a, dx', _, rfl, hi4, rfl, ?_⟩
 refine nilI ?_
 exact ⟨a, ls, ld, lu, bv, g0, h, d0, _, rfl, hp4, fun v hv => qq v _ s04 hp4 hv⟩
abbrev N_Play_again : List Str := ["self", "row", "behind"]
theorem sc_Play_again : FnScope N_Play_again ["self"] (defScope s_Play_again) := ⟨rfl, rfl, rfl, by decide +kernel, rfl, by decide +kernel, by decide +kernel⟩
theorem ok_Play_again {C_NoFall C_Play : Addr} (B : BI mg) (O_NoFall : Own K mg "NoFall" C_NoFall) (T_Play : ClsF K C_Play ["book", "stood", "done", "undone"]) (F : Fun K "again" "Play.again" s_Play_again f fd) : FnOk P w K mg base (L2N.CX P w) (3) f fd ["self"] (spPyAgain K C_Play C_NoFall) := by
 refine F.okXN sc_Play_again (fun vs H Q E h => ?_) (fun cdv A outer s H vs Q E hr h => ?_)
 ·obtain ⟨a, ls, ld, lu, bv, gs, ds, us, rfl, _⟩ := h
  rfl
 obtain ⟨a, ls, ld, lu, bv, gs, ds, us, rfl, hp, gl, dl, qE, q⟩ := h
 have hun2 := hunT hr
 refine ⟨_, pss_cons (ps_if (pt_not (pt_truth (pe_fld (pv 0) rfl) (by intro _; rfl))) (pss_one (L2N.ps_raise rfl (L2N.takes_of rfl rfl rfl rfl) (L2N.pmk_own PySem.F.excBase_ValueError O_NoFall.q O_NoFall.gC O_NoFall.k (raises_own O_NoFall.s O_NoFall.t) rfl))) pss_nil)
  (pss_cons (ps_asg (pe_bm0 PySem.F.plainAttrs_list PySem.F.slot_list_pop PySem.F.type_list_pop mt_pop (pe_fld (pv 0) rfl)) (pg_tup rfl (pgs_cons (pg_name (i := 1) sc_Play_again.nd rfl (.inl rfl)) (pgs_cons (pg_name (i := 2) sc_Play_again.nd rfl (.inl rfl)) pgs_nil))))
  (pss_cons (ps_expr (pe_bm PySem.F.plainAttrs_list PySem.F.slot_list_append PySem.F.type_list_append mt_append (pe_fld (pv 0) rfl) (pa_cons (pv 1) pa_nil)))
  (pss_cons (ps_expr (pe_bm PySem.F.plainAttrs_list PySem.F.slot_list_append PySem.F.type_list_append mt_append (pe_fld (pv 0) rfl) (pa_cons (pv 2) pa_nil)))
  (pss_one (ps_ret (pv 2)))))), ?_⟩
 have szl := sizeLine_eq
 obtain ⟨⟨dx, hi⟩, ⟨v1, hs, bs⟩, ⟨v2, hd, bd⟩, ⟨v3, hu, bu⟩, m1, m2, m3⟩ := hp
 refine ⟨_, rfl, a, _, dx, _, _, rfl, hi, T_Play.c, T_Play.no _ (by simp), rfl, _, .inl ⟨v3, SqL.of hu, rfl⟩, ?_⟩
 have l3 := bu.length
 by_cases hus : us = []
 ·subst hus
  have e3 : v3 = [] := List.length_eq_zero_iff.mp l3
  subst e3
  exact iteT (qE rfl _ SB.refl)
 obtain ⟨u0, f0, g, rfl, qq⟩ := q hus
 obtain ⟨w3, u3, rfl, bu1, hfg⟩ := bu.last
 rw [show (w3 ++ [u3]).isEmpty = false by simp]
 have ns : a ≠ ls := ne_of hi hs (fun z => nomatch z)
 have nd : a ≠ ld := ne_of hi hd (fun z => nomatch z)
 have nu : a ≠ lu := ne_of hi hu (fun z => nomatch z)
 refine iteF ⟨_, rfl, a, _, dx, _, _, rfl, hi, T_Play.c, T_Play.no _ (by simp), rfl, .inl ⟨rfl, _, SqL.of hu⟩, lu, _, u3, rfl, rfl, hu, by simp, ?_⟩
 rw [List.dropLast_concat]
 have t1 := SB.set (ps := [lu]) hu (by simp) (.lst w3)
 have hu1 : upd H lu (.lst w3) lu = some (.lst w3) := upd_same
 have hi1 := t1.keep _ _ hi (by simpa using nu)
 have hs1 := t1.keep _ _ hs (by simpa using m2)
 have hd1 := t1.keep _ _ hd (by simpa using m3)
 have cs1 := bs.sb t1 Gr.noList_enc
 have cd1 := bd.sb t1 faE_noList
 have cu1 := bu1.sb t1 fgE_noList
 have cf1 := Dp_sb t1 _ _ (fgE_noList _) hfg
 have s01 : SB [ls, ld, lu] H _ := t1.mono (by simp)
 generalize upd H lu (.lst w3) = H1 at t1 hu1 hi1 hs1 hd1 cs1 cd1 cu1 cf1 s01
 obtain ⟨T, x1, x2, rfl, hT, hf0, hg⟩ : ∃ T x1 x2, u3 = .ref T /\ SqT K H1 T [x1, x2] /\ Dp K H1 x1 (faE f0) /\ Dp K H1 x2 g.enc := by
  cases (cf1 : Dp K H1 u3 (.tuple [faE f0, g.enc])) with
  | tup hT hall =>
  cases hall with
  | cons hf0 hall =>
  cases hall with
  | cons hg hall =>
  cases hall
  exact ⟨_, _, _, rfl, hT, hf0, hg⟩
 refine ⟨_, _, rfl, hT, rfl, _, _, rfl, _, _, rfl, rfl, ?_⟩
 have l2 := cd1.length
 refine ⟨_, rfl, a, _, dx, _, _, rfl, hi1, T_Play.c, T_Play.no _ (by simp), rfl, .inl ⟨rfl, _, SqL.of hd1⟩, _, rfl, ld, _, _, rfl, rfl, hd1, by omega, ?_⟩
 have t2 := SB.set (ps := [ld]) hd1 (by simp) (.lst (v2 ++ [x1]))
 have hd2 : upd H1 ld (.lst (v2 ++ [x1])) ld = some (.lst (v2 ++ [x1])) := upd_same
 have hi2 := t2.keep _ _ hi1 (by simpa using nd)
 have hs2 := t2.keep _ _ hs1 (by simpa using m1)
 have hu2 := t2.keep _ _ hu1 (by simpa using fun z : lu = ld => m3 z.symm)
 have cs2 := cs1.sb t2 Gr.noList_enc
 have cd2 := (cd1.sb t2 faE_noList).append (.cons (Dp_sb t2 _ _ (faE_noList _) hf0) .nil)
 have cu2 := cu1.sb t2 fgE_noList
 have cg2 := Dp_sb t2 _ _ (Gr.noList_enc _) hg
 have s02 := s01.trans (t2.mono (qs := [ls, ld, lu]) (by simp))
 generalize upd H1 ld (.lst (v2 ++ [x1])) = H2 at t2 hd2 hi2 hs2 hu2 cs2 cd2 cu2 cg2 s02
 have l1 := cs2.length
 refine ⟨_, rfl, a, _, dx, _, _, rfl, hi2, T_Play.c, T_Play.no _ (by simp), rfl, .inl ⟨rfl, _, SqL.of hs2⟩, _, rfl, ls, _, _, rfl, rfl, hs2, by omega, ?_⟩
 have t3 := SB.set (ps := [ls]) hs2 (by simp) (.lst (v1 ++ [x2]))
 have s03 := s02.trans (t3.mono (qs := [ls, ld, lu]) (by simp))
 refine ⟨_, rfl, qq _ _ s03 ⟨⟨dx, t3.keep _ _ hi2 (by simpa using ns)⟩, ⟨_, upd_same, (cs2.sb t3 Gr.noList_enc).append (.cons (Dp_sb t3 _ _ (Gr.noList_enc _) cg2) .nil)⟩, ⟨_, t3.keep _ _ hd2 (by simpa using fun z : ld = ls => m1 z.symm), cd2.sb t3 faE_noList⟩, ⟨_, t3.keep _ _ hu2 (by simpa using fun z : lu = ls => m2 z.symm), cu2.sb t3 fgE_noList⟩, m1, m2, m3⟩ (Dp_sb t3 _ _ (Gr.noList_enc _) cg2)⟩
abbrev N__law_done : List Str := ["_law_book_here", "_law_grove", "_law_place", "_law_rule", "_law_said", "_law_found", "_law_e"]
theorem sc__law_done : FnScope N__law_done ["_law_book_here", "_law_grove", "_law_place", "_law_rule", "_law_said"] (defScope s__law_done) := ⟨rfl, rfl, rfl, by decide +kernel, rfl, by decide +kernel, by decide +kernel⟩
theorem ok__law_done {C_Book : Addr} {c : Str -> Addr} (B : BI mg) (T : ErrsM K mg c eC eN eK) (G_fallen : GotXN P w K mg base "fallen" ["book", "grove", "place", "rule", "number"] (74) (spFallenX K C_Book (c "NoKind") (c "NoPlace") (c "NoRule") (c "NoNumber") (c "TooGreat"))) (G__law_which : GotPN P w K mg base "_law_which" ["_law_e"] (1) (spWhich K c eC)) (F : Fun K "_law_done" "_law_done" s__law_done f fd) : FnOk P w K mg base CX0 (80) f fd ["_law_book_here", "_law_grove", "_law_place", "_law_rule", "_law_said"] (spDone34 K C_Book) := by
 refine F.ok sc__law_done (fun vs H Q E h => ?_) (fun cdv A outer s H vs Q E hr h => ?_)
 ·obtain ⟨v, w, x, y, a, b, g, ds, ro, so, o, rfl, _⟩ := h
  rfl
 obtain ⟨v, w, x, y, a, b, g, ds, ro, so, o, rfl, hv, hR, hd, q⟩ := h
 have hun2 := hunT hr
 refine ⟨_, pss_cons (ps_set (i := 5) sc__law_done.nd rfl (.inl rfl) pe_non)
  (pss_cons (L2N.ps_try_as (i := 6) (tb := fun W => (tAsg (tCallS (spFallenX K C_Book (c "NoKind") (c "NoPlace") (c "NoRule") (c "NoNumber") (c "TooGreat")) (WE W) (tCons (tVar 0) (tCons (tVar 1) (tCons (tVar 2) (tCons (tVar 3) (tCons (tVar 4) tNil)))))) (gName 5))) (ts := fun a cls d => (tRet (tCallP (spWhich K c eC) a cls d (tCons (tVar 6) tNil)))) (Wout := fun _ _ _ _ => False) rfl rfl sc__law_done.nd rfl rfl ⟨rfl, by decide, Or.inl T.FellError⟩ takes0N
   (fun W pn xe tk _ => by exact (pss_one (ps_set (i := 5) sc__law_done.nd rfl (.inl rfl) (pe_gotSN G_fallen (hr.mono (by omega)) rfl tk (pa_cons (pv 0) (pa_cons (pv 1) (pa_cons (pv 2) (pa_cons (pv 3) (pa_cons (pv 4) pa_nil)))))))))
   (fun a oe cls d pn hzN hf => by
    have hz := hzN.zc
    exact (pss_one (ps_ret (pe_gotPN G__law_which (hr.sui (by omega)) rfl (.head _) rfl hzN hf (pa_cons (pv 6) pa_nil))))))
  (pss_one (ps_ret (pe_tup (pa_cons pe_str (pa_cons (pv 5) pa_nil)))))), ?_⟩
 have szl := sizeLine_eq
 have ok := hR.ok
 have b8 := ok.len
 have hw := hR.gr
 have go := hR.gok
 have gd := hR.deep
 have gp := hR.parts
 obtain ⟨ns, gnn, nsl⟩ := hR.nm
 obtain ⟨xs, ha, hda⟩ := hR.pl
 refine nameI ?_
 refine ⟨_, rfl, _, rfl, _, rfl, _, rfl, _, rfl, v, w, .ref a, x, y, rfl, b, g, ns, hv, by omega, hw, by omega, by omega, gnn, nsl, fun n lo d H1 s1 nd hd1 => ?_, fun gn => ⟨v, w, x, y, a, b, g, _, xs, ds.map whD, ro, so, rfl, ⟨hv, ok⟩, ⟨hw, go, by omega, by omega, gn⟩, ⟨ha, Whs_of hda⟩, hR.ru, hR.sa, hR.sn, fun hno H1 s1 => ?_, fun pl k kd e1 e2 e3 => ⟨fun hno H1 s1 => ?_, fun i r er hr => ⟨fun hneg H1 s1 => ?_, fun n en n0 => ?_⟩⟩⟩⟩
 ·obtain rfl := hd.uniq (.kindG lo)
  refine ⟨true, T.exm _ (by decide +kernel), fun _ x hx => ?_, fun z => nomatch z⟩
  refine ⟨_, rfl, fun oe hz hf => ?_⟩
  exact ⟨"NoKind", some d, 0, rfl, hz, hf, by decide +kernel, .inr ⟨_, _, rfl, hd1⟩, by omega, rfl, fun _ => ⟨d, n, rfl, hd1, fun T H' s hT => q T _ (s1.trans s) hT⟩, fun z => absurd rfl z⟩
 ·obtain rfl := hd.uniq (.place gn hno)
  refine ⟨true, T.exm _ (by decide +kernel), fun _ x hx => ?_, fun z => nomatch z⟩
  refine ⟨_, rfl, fun oe hz hf => ?_⟩
  refine ⟨"NoPlace", none, 1, rfl, hz, hf, by decide +kernel, .inl rfl, by omega, rfl, (fun z => nomatch z), fun _ T w H' s e hT => ?_⟩
  cases (show some ("place" : Str) = some w from e)
  exact q T _ (s1.trans s) hT
 ·obtain rfl := hd.uniq (.rule gn e1 e2 e3 hno)
  refine ⟨true, T.exm _ (by decide +kernel), fun _ x hx => ?_, fun z => nomatch z⟩
  refine ⟨_, rfl, fun oe hz hf => ?_⟩
  refine ⟨"NoRule", none, 2, rfl, hz, hf, by decide +kernel, .inl rfl, by omega, rfl, (fun z => nomatch z), fun _ T w H' s e hT => ?_⟩
  cases (show some ("rule" : Str) = some w from e)
  exact q T _ (s1.trans s) hT
 ·obtain rfl := hd.uniq (.said gn e1 e2 e3 er hr fun ⟨n, en⟩ => by have := hneg _ en; omega)
  refine ⟨true, T.exm _ (by decide +kernel), fun _ x hx => ?_, fun z => nomatch z⟩
  refine ⟨_, rfl, fun oe hz hf => ?_⟩
  refine ⟨"NoNumber", none, 3, rfl, hz, hf, by decide +kernel, .inl rfl, by omega, rfl, (fun z => nomatch z), fun _ T w H' s e hT => ?_⟩
  cases (show some ("said" : Str) = some w from e)
  exact q T _ (s1.trans s) hT
 ·subst en
  obtain ⟨km, ekn⟩ := Bk.get_some e3
  obtain ⟨_, _, rr⟩ := ok.kd kd km
  have rok := rule_ok (fun r hr => (rr r hr).1) hr
  have enn : (some n : Option Int) = some ((n.toNat : Nat) : Int) := by rw [Int.toNat_of_nonneg n0]
  obtain rfl := hd.uniq (.done gn e1 e2 e3 er hr enn)
  have go2 := Gr.grw_ok rok n0
  have gd2 := Gr.grw_deep rok n
  have gp2 := Gr.grw_parts rok n
  have plen := Gr.bare_len e2
  have d1 := Gr.stk_deep (b := b) (n := n) (fr := Gr.grw r n) e2
  have p1 := Gr.stk_parts (b := b) (n := n) (fr := Gr.grw r n) e2
  have p2 : pl.length * (g.parts + 1) <= 12 * 101 := Nat.mul_le_mul (by omega) (by omega)
  have so1 := Gr.stk_ok (b := b) n0 (by omega) go2 go e2
  refine ⟨fun hout => absurd ⟨by omega, by omega⟩ hout, fun hin T u p H1 s1 nT hT hu hp => ?_⟩
  refine nameI ?_
  refine ⟨_, rfl, by show 2 <= sizeLine; decide, fun T2 nT2 => ?_⟩
  have t2 := SB.new (ps := []) nT2 (.tup [.str "done", .ref T])
  exact q T2 _ (s1.trans t2) ⟨T, _, SqT.of upd_same, Dp_s0 t2 _ _ (gp_mk hT hu hp), gp_wd so1 (show (Gr.stk b n (Gr.grw r n) pl g).1.deep <= 60 by omega)⟩
abbrev N__law_played : List Str := ["_law_play", "_law_place", "_law_rule", "_law_said", "_law_found", "_law_e"]
theorem sc__law_played : FnScope N__law_played ["_law_play", "_law_place", "_law_rule", "_law_said"] (defScope s__law_played) := ⟨rfl, rfl, rfl, by decide +kernel, rfl, by decide +kernel, by decide +kernel⟩
theorem ok__law_played {C_Play C_Book : Addr} {c : Str -> Addr} (B : BI mg) (T : ErrsM K mg c eC eN eK) (G_Play_fall : GotMXN P w K mg base C_Play "fall" ["self", "place", "rule", "number"] (76) (spPyFall K C_Play C_Book (c "NoPlace") (c "NoRule") (c "NoNumber") (c "TooGreat"))) (G__law_which : GotPN P w K mg base "_law_which" ["_law_e"] (1) (spWhich K c eC)) (F : Fun K "_law_played" "_law_played" s__law_played f fd) : FnOk P w K mg base CX0 (80) f fd ["_law_play", "_law_place", "_law_rule", "_law_said"] (spPlayed34 K C_Play C_Book) := by
 refine F.ok sc__law_played (fun vs H Q E h => ?_) (fun cdv A outer s H vs Q E hr h => ?_)
 ·obtain ⟨z, a, ls, ld, lu, v, w, x, y, b, g, ds, ro, so, o, rfl, _⟩ := h
  rfl
 obtain ⟨z, a, ls, ld, lu, v, w, x, y, b, g, ds, ro, so, o, rfl, hP, hv, hR, gn, hd, ndn, q⟩ := h
 have hun2 := hunT hr
 refine ⟨_, pss_cons (ps_set (i := 4) sc__law_played.nd rfl (.inl rfl) pe_non)
  (pss_cons (L2N.ps_try_as (i := 5) (tb := fun W => (tAsg (tMethZ C_Play "fall" (spPyFall K C_Play C_Book (c "NoPlace") (c "NoRule") (c "NoNumber") (c "TooGreat")) (WE W) (tVar 0) (tCons (tVar 1) (tCons (tVar 2) (tCons (tVar 3) tNil)))) (gName 4))) (ts := fun a cls d => (tRet (tCallP (spWhich K c eC) a cls d (tCons (tVar 5) tNil)))) (Wout := fun _ _ _ _ => False) rfl rfl sc__law_played.nd rfl rfl ⟨rfl, by decide, Or.inl T.FellError⟩ takes0N
   (fun W pn xe tk _ => by exact (pss_one (ps_set (i := 4) sc__law_played.nd rfl (.inl rfl) (pe_gotMSN G_Play_fall (hr.mono (by omega)) tk (pv 0) (pa_cons (pv 1) (pa_cons (pv 2) (pa_cons (pv 3) pa_nil)))))))
   (fun a oe cls d pn hzN hf => by
    have hz := hzN.zc
    exact (pss_one (ps_ret (pe_gotPN G__law_which (hr.sui (by omega)) rfl (.head _) rfl hzN hf (pa_cons (pv 5) pa_nil))))))
  (pss_one (ps_ret (pe_tup (pa_cons pe_str (pa_cons (pv 4) pa_nil)))))), ?_⟩
 have szl := sizeLine_eq
 have ok := hR.ok
 have b8 := ok.len
 have go := hR.gok
 have gd := hR.deep
 have gp := hR.parts
 obtain ⟨xs, ha, hda⟩ := hR.pl
 obtain ⟨dx, hi⟩ := hP.ins
 refine nameI ?_
 refine ⟨_, rfl, z, dx, _, rfl, hi, rfl, _, rfl, _, rfl, _, rfl, ?_⟩
 refine ⟨z, ls, ld, lu, a, v, x, y, b, [], g, [], [], _, xs, ds.map whD, ro, so, rfl, ⟨hP, by decide, by decide⟩, ⟨hv, ok⟩, ⟨go, by omega, by omega, gn⟩, ⟨ha, Whs_of hda⟩, hR.ru, hR.sa, hR.sn, fun hno H1 s1 => ?_, fun pl k kd e1 e2 e3 => ⟨fun hno H1 s1 => ?_, fun i r er hr => ⟨fun hneg H1 s1 => ?_, fun n en n0 => ?_⟩⟩⟩
 ·obtain rfl := hd.uniq (.place gn hno)
  refine ⟨true, T.exm _ (by decide +kernel), fun _ x hx => ?_, fun z => nomatch z⟩
  refine ⟨_, rfl, fun oe hz hf => ?_⟩
  refine ⟨"NoPlace", none, 1, rfl, hz, hf, by decide +kernel, .inl rfl, by omega, rfl, (fun z => nomatch z), fun _ T w H' s e hT => ?_⟩
  cases (show some ("place" : Str) = some w from e)
  exact q T _ (s1.trans s) hT
 ·obtain rfl := hd.uniq (.rule gn e1 e2 e3 hno)
  refine ⟨true, T.exm _ (by decide +kernel), fun _ x hx => ?_, fun z => nomatch z⟩
  refine ⟨_, rfl, fun oe hz hf => ?_⟩
  refine ⟨"NoRule", none, 2, rfl, hz, hf, by decide +kernel, .inl rfl, by omega, rfl, (fun z => nomatch z), fun _ T w H' s e hT => ?_⟩
  cases (show some ("rule" : Str) = some w from e)
  exact q T _ (s1.trans s) hT
 ·obtain rfl := hd.uniq (.said gn e1 e2 e3 er hr fun ⟨n, en⟩ => by have := hneg _ en; omega)
  refine ⟨true, T.exm _ (by decide +kernel), fun _ x hx => ?_, fun z => nomatch z⟩
  refine ⟨_, rfl, fun oe hz hf => ?_⟩
  refine ⟨"NoNumber", none, 3, rfl, hz, hf, by decide +kernel, .inl rfl, by omega, rfl, (fun z => nomatch z), fun _ T w H' s e hT => ?_⟩
  cases (show some ("said" : Str) = some w from e)
  exact q T _ (s1.trans s) hT
 ·subst en
  have enn : (some n : Option Int) = some ((n.toNat : Nat) : Int) := by rw [Int.toNat_of_nonneg n0]
  exact absurd (hd.uniq (.done gn e1 e2 e3 er hr enn)) ndn
abbrev N__law_looked : List Str := ["_law_book_here", "_law_grove", "_law_found", "_law_e"]
theorem sc__law_looked : FnScope N__law_looked ["_law_book_here", "_law_grove"] (defScope s__law_looked) := ⟨rfl, rfl, rfl, by decide +kernel, rfl, by decide +kernel, by decide +kernel⟩
theorem ok__law_looked {C_Book C_Play : Addr} {c : Str -> Addr} (B : BI mg) (T : ErrsM K mg c eC eN eK) (G_choices : GotXN P w K mg base "choices" ["book", "grove"] (76) (spChoicesK K C_Book (c "NoKind"))) (G__law_which : GotPN P w K mg base "_law_which" ["_law_e"] (1) (spWhich K c eC)) (G_Play___init__ : GotIN P w K mg base "Play" C_Play ["self", "book", "grove"] (75) (spPyInitX K C_Play C_Book (c "NoKind"))) (F : Fun K "_law_looked" "_law_looked" s__law_looked f fd) : FnOk P w K mg base CX0 (80) f fd ["_law_book_here", "_law_grove"] (spLooked34 K C_Book) := by
 refine F.ok sc__law_looked (fun vs H Q E h => ?_) (fun cdv A outer s H vs Q E hr h => ?_)
 ·obtain ⟨v, w, b, g, ns, rfl, _⟩ := h
  rfl
 obtain ⟨v, w, b, g, ns, rfl, hv, ok, hw, go, gd, gp, gnn, nsl, q⟩ := h
 have hun2 := hunT hr
 refine ⟨_, pss_cons (ps_set (i := 2) sc__law_looked.nd rfl (.inl rfl) (pe_lst pa_nil))
  (pss_cons (L2N.ps_try_as (i := 3) (tb := fun W => tDrop (tCallS (spChoicesK K C_Book (c "NoKind")) (WE W) (tCons (tVar 0) (tCons (tVar 1) tNil)))) (ts := fun a cls d => (tDrop (tBM K "list" rAppend (tVar 2) (tCons (tCallP (spWhich K c eC) a cls d (tCons (tVar 3) tNil)) tNil)))) (Wout := fun _ _ _ _ => False) rfl rfl sc__law_looked.nd rfl rfl ⟨rfl, by decide, Or.inl T.FellError⟩ takes0N
   (fun W pn xe tk _ => pss_one (ps_expr (by exact (pe_gotSN G_choices (hr.mono (by omega)) rfl tk (pa_cons (pv 0) (pa_cons (pv 1) pa_nil))))))
   (fun a oe cls d pn hzN hf => by
    have hz := hzN.zc
    exact (pss_one (ps_expr (pe_bm PySem.F.plainAttrs_list PySem.F.slot_list_append PySem.F.type_list_append mt_append (pv 2) (pa_cons (pe_gotPN G__law_which (hr.sui (by omega)) rfl (.head _) rfl hzN hf (pa_cons (pv 3) pa_nil)) pa_nil))))))
  (pss_cons (L2N.ps_try_as (i := 3) (tb := fun W => tDrop (tMakeZ C_Play (spPyInitX K C_Play C_Book (c "NoKind")) (WE W) (tCons (tVar 0) (tCons (tVar 1) tNil)))) (ts := fun a cls d => (tDrop (tBM K "list" rAppend (tVar 2) (tCons (tCallP (spWhich K c eC) a cls d (tCons (tVar 3) tNil)) tNil)))) (Wout := fun _ _ _ _ => False) rfl rfl sc__law_looked.nd rfl rfl ⟨rfl, by decide, Or.inl T.FellError⟩ takes0N
   (fun W pn xe tk _ => pss_one (ps_expr (by exact (pe_gotISN G_Play___init__ (hr.mono (by omega)) rfl tk (pa_cons (pv 0) (pa_cons (pv 1) pa_nil))))))
   (fun a oe cls d pn hzN hf => by
    have hz := hzN.zc
    exact (pss_one (ps_expr (pe_bm PySem.F.plainAttrs_list PySem.F.slot_list_append PySem.F.type_list_append mt_append (pv 2) (pa_cons (pe_gotPN G__law_which (hr.sui (by omega)) rfl (.head _) rfl hzN hf (pa_cons (pv 3) pa_nil)) pa_nil))))))
  (pss_one (ps_ret (pv 2))))), ?_⟩
 have szl := sizeLine_eq
 have b8 := ok.len
 have nk : ∀ x ∈ g.within, NameOk x.1.1 := fun x hx => (Ok_within go x hx).1
 refine ⟨by show 0 <= sizeLine; decide, fun L nL => ?_⟩
 have t1 := SB.new (ps := []) nL (.lst [])
 have hL1 : upd H L (.lst []) L = some (.lst []) := upd_same
 have hv1 := hv.sb0 t1
 have hw1 := hw.sb t1
 generalize upd H L (.lst []) = H1 at t1 hL1 hv1 hw1
 refine nameI ?_
 by_cases hn : Gr.Named b.names g
 ·refine ⟨_, rfl, _, rfl, v, w, rfl, b, g, ns, hv1, by omega, hw1, by omega, by omega, gnn, nsl, fun n lo => (lo.not hn).elim, fun _ => ⟨v, w, b, g, rfl, hv1, hw1, ok, by omega, gp, nk, hn, fun l us H2 s2 _ _ _ => ?_⟩⟩
  refine ⟨_, rfl, _, rfl, fun y dx ny ndx ne => ?_⟩
  have t3 := SB.new (ps := []) ndx (.own y)
  have ny1 : upd H2 dx (.own y) y = none := by rw [upd_ne ne.symm]; exact ny
  have t4 := SB.new (ps := []) ny1 (.ins C_Play dx [])
  have s12 := s2.trans (t3.trans t4)
  refine ⟨y, dx, v, w, b, g, ns, rfl, upd_same, hv1.sb0 s12, by omega, hw1.sb s12, by omega, by omega, gnn, nsl, fun n lo => (lo.not hn).elim, fun _ ls ld lu G1 u1 _ _ _ _ => ⟨rfl, ?_⟩⟩
  have s1G : SB [] H1 G1 := s2.trans (((t3.trans t4).nil (ps := [y])).trans u1 |>.drop ny)
  refine ⟨_, rfl, q L [] [] G1 (t1.trans s1G) (s1G.keep _ _ hL1 nmn) .nil (.inl ⟨rfl, fun x hx z => z (hn x hx)⟩)⟩
 ·obtain ⟨n, lo⟩ := least_or b g hn
  refine ⟨_, rfl, _, rfl, v, w, rfl, b, g, ns, hv1, by omega, hw1, by omega, by omega, gnn, nsl, fun n' lo' d H2 s2 nd hd2 => ?_, fun z => absurd z hn⟩
  obtain rfl := lo'.one lo
  refine ⟨true, T.exm _ (by decide +kernel), fun _ x hx => ?_, fun z => nomatch z⟩
  refine ⟨_, rfl, .inl ⟨rfl, _, SqL.of (s2.keep _ _ hL1 nmn)⟩, _, rfl, fun oe hz hf => ?_⟩
  refine ⟨"NoKind", some d, 0, rfl, hz, hf, by decide +kernel, .inr ⟨_, _, rfl, hd2⟩, by omega, rfl, fun _ => ⟨d, n', rfl, hd2, fun T1 H3 s3 hT1 => ?_⟩, fun z => absurd rfl z⟩
  have s13 := s2.trans s3
  have hL3 := s13.keep _ _ hL1 nmn
  refine ⟨L, _, _, rfl, rfl, hL3, by decide, ?_⟩
  have t4 := SB.set (ps := [L]) hL3 (by simp) (.lst ([] ++ [V.ref T1]))
  have hL4 : upd H3 L (.lst ([] ++ [V.ref T1])) L = some (.lst [.ref T1]) := upd_same
  have hT4 := t4.sqT hT1
  have s04 : SB [] H (upd H3 L (.lst ([] ++ [V.ref T1]))) := (((t1.trans s13).nil (ps := [L])).trans t4).drop nL
  have lL : Lsts H3 [L] := fun p hp => by rw [List.mem_singleton.mp hp]; exact .inr ⟨_, hL3⟩
  have hv4 := (hv1.sb0 s13).sb t4 lL
  have hw4 := GA.sb (hw1.sb s13) t4
  generalize upd H3 L (.lst ([] ++ [V.ref T1])) = H4 at t4 hL4 hT4 s04 hv4 hw4
  refine ⟨_, rfl, _, rfl, fun y dx ny ndx ne => ?_⟩
  have t5 := SB.new (ps := []) ndx (.own y)
  have ny1 : upd H4 dx (.own y) y = none := by rw [upd_ne ne.symm]; exact ny
  have t6 := SB.new (ps := []) ny1 (.ins C_Play dx [])
  have s46 := t5.trans t6
  refine ⟨y, dx, v, w, b, g, ns, rfl, upd_same, hv4.sb0 s46, by omega, hw4.sb s46, by omega, by omega, gnn, nsl, fun n2 lo2 d2 H5 s5 nd5 hd5 => ?_, fun z => absurd z hn⟩
  obtain rfl := lo2.one lo
  have s45 := s46.trans s5
  have hL5 := s45.keep _ _ hL4 nmn
  have hT5 := s45.sqT hT4
  refine ⟨true, T.exm _ (by decide +kernel), fun _ x hx => ?_, fun z => nomatch z⟩
  refine ⟨_, rfl, .inl ⟨rfl, _, SqL.of hL5⟩, _, rfl, fun oe hz hf => ?_⟩
  refine ⟨"NoKind", some d2, 0, rfl, hz, hf, by decide +kernel, .inr ⟨_, _, rfl, hd5⟩, by omega, rfl, fun _ => ⟨d2, n2, rfl, hd5, fun T2 H6 s6 hT2 => ?_⟩, fun z => absurd rfl z⟩
  have hL6 := s6.keep _ _ hL5 nmn
  refine ⟨L, _, _, rfl, rfl, hL6, by show 1 < sizeLine; decide, ?_⟩
  have t7 := SB.set (ps := [L]) hL6 (by simp) (.lst ([.ref T1] ++ [V.ref T2]))
  have s07 : SB [] H (upd H6 L (.lst ([.ref T1] ++ [V.ref T2]))) := (((s04.trans (s45.trans s6)).nil (ps := [L])).trans t7).drop nL
  have kd : ∀ {G : Hp} {T : Addr}, SqT K G T [.str "kind", .str n2] -> Dp K G (.ref T) (kdE n2) := fun h => .tup h (.cons (.str _) (.cons (.str _) .nil))
  refine ⟨_, rfl, q L _ [n2] _ s07 upd_same (.cons (kd (t7.sqT (s6.sqT hT5))) (.cons (kd (t7.sqT hT2)) .nil)) (.inr ⟨n2, rfl, lo⟩)⟩
abbrev N__law_strange : List Str := ["_law_grove", "_law_strange_here", "_law_way", "_law_name", "_law_inner", "_law_tree"]
theorem sc__law_strange : FnScope N__law_strange ["_law_grove", "_law_strange_here", "_law_way"] (defScope s__law_strange) := ⟨rfl, rfl, rfl, by decide +kernel, rfl, by decide +kernel, by decide +kernel⟩
theorem ok__law_strange (B : BI mg) (F : Fun K "_law_strange" "_law_strange" s__law_strange f fd) : FnOk P w K mg base CX0 (1) f fd ["_law_grove", "_law_strange_here", "_law_way"] (spStrange34 K) := by
 refine F.ok sc__law_strange (fun vs H Q E h => ?_) (fun cdv A outer s H vs Q E hr h => ?_)
 ·obtain ⟨v, u, g, sm, way, rfl, _⟩ := h
  rfl
 obtain ⟨v, u, g, sm, way, rfl, hv, hu, go, so, gd, gp, sd, sp, hdj, q⟩ := h
 have hun2 := hunT hr
 refine ⟨_, pss_cons (ps_if (PW.pt (pw_or (pt_cmpR (op_eqW (by show A.units + 3 + 195 < cLine; omega)) (pv 1) (pe_tup pa_nil) (nomark _)) (pw_or1 (pt_cmpR (op_eqW (by show A.units + 3 + 195 < cLine; omega)) (pv 0) (pe_tup pa_nil) (nomark _))))) (pss_one (ps_ret (pv 1))) pss_nil)
  (pss_cons (ps_if (pt_cmpR op_eq (pv 2) pe_int (nomark _)) (pss_one (ps_ret (pe_callTy call_tuple_of rfl B.tuple boot_tuple (pa_cons (pe_callB (cr_sortedB Gr.pEnc (by show A.units + 3 + 110 < cLine; omega)) rfl B.sorted (by decide +kernel) (pa_cons (pe_op op_catB (pv 1) (pv 0)) pa_nil)) pa_nil)))) pss_nil)
  (pss_cons (ps_if (pt_cmpR op_eq (pv 2) pe_int (nomark _)) (pss_one (ps_ret (pe_tup (pa_cons (pe_tup (pa_cons (pe_tup (pa_cons (pe_ix ix_tup (pe_ix ix_tup (pe_ix ix_tup (pv 1) pe_int (fun _ _ => rfl)) pe_int (fun _ _ => rfl)) pe_int (fun _ _ => rfl)) (pa_cons (pv 0) pa_nil))) (pa_cons pe_int pa_nil))) pa_nil)))) pss_nil)
  (pss_cons (ps_asg (pe_ix ix_tup (pe_ix ix_tup (pv 0) pe_int (fun _ _ => rfl)) pe_int (fun _ _ => rfl)) (pg_tup rfl (pgs_cons (pg_name (i := 3) sc__law_strange.nd rfl (.inl rfl)) (pgs_cons (pg_name (i := 4) sc__law_strange.nd rfl (.inl rfl)) pgs_nil))))
  (pss_cons (ps_set (i := 5) sc__law_strange.nd rfl (.inl rfl) (pe_tup (pa_cons (pv 3) (pa_cons (pe_callTy call_tuple_of rfl B.tuple boot_tuple (pa_cons (pe_callB (cr_sortedB Gr.pEnc (by show A.units + 3 + 110 < cLine; omega)) rfl B.sorted (by decide +kernel) (pa_cons (pe_op op_catB (pv 4) (pv 1)) pa_nil)) pa_nil)) pa_nil))))
  (pss_one (ps_ret (pe_callTy call_tuple_of rfl B.tuple boot_tuple (pa_cons (pe_callB (cr_sortedB Gr.pEnc (by show A.units + 3 + 110 < cLine; omega)) rfl B.sorted (by decide +kernel) (pa_cons (pe_op op_catB (pe_slice sl_tupB (pv 0) (po_some pe_int) po_none) (pe_tup (pa_cons (pe_tup (pa_cons (pv 5) (pa_cons pe_int pa_nil))) pa_nil))) pa_nil)) pa_nil)))))))), ?_⟩
 have szl := sizeLine_eq
 have hC : (2 : Int) < 10 ^ 30 + 1 := by decide +kernel
 obtain ⟨ga, gs, rfl, hga, hgb⟩ := GA_bears hv
 obtain ⟨ua, us, rfl, hua, hub⟩ := GA_bears hu
 have gl := hgb.length
 have ul := hub.length
 have glp := g.len_parts
 have slp := sm.len_parts
 refine ⟨_, rfl, by show 0 <= sizeLine; decide, fun E0 nE0 => ?_⟩
 have t1 := SB.new (ps := []) nE0 (.tup [])
 have hE0 : SqT K (upd H E0 (.tup [])) E0 [] := SqT.of upd_same
 have s1 := t1
 generalize upd H E0 (.tup []) = H1 at t1 hE0 s1
 refine ⟨sm.enc, .tuple [], hu.sb s1, .tup hE0 .nil, Gr.wd so (by omega), Gr.wd_nil, _, rfl, ?_⟩
 rw [Gr.enc_eq_nil]
 by_cases hs0 : sm = .nil
 ·rw [decide_eq_true hs0]
  refine iteT (iteT ?_)
  exact ⟨_, rfl, q (.ref ua) sm _ s1 (hu.sb s1) so (by omega) (by omega) fun x hx => .inl ⟨x, hx, rfl⟩⟩
 rw [decide_eq_false hs0]
 refine iteF ?_
 refine ⟨_, rfl, by show 0 <= sizeLine; decide, fun E1 nE1 => ?_⟩
 have t2 := SB.new (ps := []) nE1 (.tup [])
 have hE1 : SqT K (upd H1 E1 (.tup [])) E1 [] := SqT.of upd_same
 have s9 := s1.trans t2
 generalize upd H1 E1 (.tup []) = H9 at t2 hE1 s9
 refine ⟨g.enc, .tuple [], hv.sb s9, .tup hE1 .nil, Gr.wd go (by omega), Gr.wd_nil, _, rfl, ?_⟩
 rw [Gr.enc_eq_nil]
 by_cases hg0 : g = .nil
 ·rw [decide_eq_true hg0]
  refine iteT ?_
  exact ⟨_, rfl, q (.ref ua) sm _ s9 (hu.sb s9) so (by omega) (by omega) fun x hx => .inl ⟨x, hx, rfl⟩⟩
 rw [decide_eq_false hg0]
 refine iteF (nextI ?_)
 obtain ⟨p0, r, er⟩ : ∃ p0 r, g.ps = p0 :: r := by
  cases g with
  | nil => exact absurd rfl hg0
  | cons k h m t => exact ⟨_, _, rfl⟩
 obtain ⟨b0, br, ebr⟩ : ∃ b0 br, sm.ps = b0 :: br := by
  cases sm with
  | nil => exact absurd rfl hs0
  | cons k h m t => exact ⟨_, _, rfl⟩
 have b0m : b0 ∈ sm.ps := by rw [ebr]; exact mcs ..
 have sdm : ∀ p ∈ sm.ps, p.1.2.deep < 2 := fun p hp => by have := sm.mem_deep p hp; omega
 have gdm : ∀ p ∈ g.ps, p.1.2.deep < 11 := fun p hp => by have := g.mem_deep p hp; omega
 refine ⟨_, rfl, rfl, _, rfl, ?_⟩
 by_cases hw0 : way = 0
 ·rw [show decide (V.int way = V.int 0) = true from decide_eq_true (by rw [hw0])]
  refine iteT ?_
  obtain ⟨q1, q2, q3, q4⟩ := Gr.beside2_ok so go (fun x hx z hz e => hdj z hz x hx e.symm)
  refine ⟨_, rfl, _, rfl, ua, ga, _, _, rfl, rfl, s9.sqT hua, s9.sqT hga, by omega, fun M HB sB hM => ?_⟩
  have s9B := s9.trans sB
  have hMb : Bears K HB Gr.pEnc (us ++ gs) (sm.ps ++ g.ps) := (hub.sb s9B Gr.noList_pEnc).append (hgb.sb s9B Gr.noList_pEnc)
  refine ⟨M, _, _, rfl, .inr hM, hMb, Gr.pEnc_all _, Gr.pEnc_sortable _, by rw [List.length_append]; omega, fun x hx => ?_, fun Z2 ys nZ2 hy => ?_⟩
  ·have d1 := Gr.pEnc_depth x
   rcases List.mem_append.mp hx with hx | hx
   ·have := sdm x hx; omega
   ·have := gdm x hx; omega
  have tC := SB.new (ps := []) nZ2 (.lst ys)
  refine ⟨Z2, ys, rfl, .inl ⟨SqL.of upd_same, fun U nU => ?_⟩⟩
  have tD := SB.new (ps := []) nU (.tup ys)
  exact q (.ref U) (Gr.ofPs (srtE Gr.pEnc (sm.ps ++ g.ps))) _ ((s9B.trans tC).trans tD) (Bears_ga (SqT.of upd_same) ((hy.sb tC Gr.noList_pEnc).sb tD Gr.noList_pEnc)) q1 (by omega) (by omega) fun x hx => (q4 x hx).symm
 rw [show decide (V.int way = V.int 0) = false from decide_eq_false fun z => hw0 (V.int.inj z)]
 refine iteF (nextI ?_)
 refine ⟨_, rfl, rfl, _, rfl, ?_⟩
 by_cases hw1 : way = 1
 ·rw [show decide (V.int way = V.int 1) = true from decide_eq_true (by rw [hw1])]
  refine iteT ?_
  obtain ⟨vb, evb, hbd⟩ := hub.at (i := 0) (by rw [ebr]; rfl)
  obtain ⟨ad, bd, ux, rfl, k1, k2, k3, k4⟩ := PA_parts hbd
  refine ⟨_, rfl, ua, _, _, _, rfl, rfl, s9.sqT hua, atI_nat (j := 0) evb, ad, _, _, _, rfl, rfl, s9.sqT k1, atI_nat (j := 0) rfl, bd, _, _, _, rfl, rfl, s9.sqT k2, atI_nat (j := 0) rfl, _, rfl, by show 2 <= sizeLine; decide, fun T1 nT1 => ?_⟩
  have tE := SB.new (ps := []) nT1 (.tup [.str b0.1.1, .ref ga])
  have hT1 : Dp K (upd H9 T1 (.tup [.str b0.1.1, .ref ga])) (.ref T1) (Gr.tEnc (b0.1.1, g)) := .tup (SqT.of upd_same) (.cons (.str _) (.cons ((hv.sb s9).sb tE) .nil))
  generalize upd H9 T1 (.tup [.str b0.1.1, .ref ga]) = HE at tE hT1
  refine ⟨by show 2 <= sizeLine; decide, fun T2 nT2 => ?_⟩
  have tF := SB.new (ps := []) nT2 (.tup [.ref T1, .int 1])
  have hT2 : Dp K (upd HE T2 (.tup [.ref T1, .int 1])) (.ref T2) (Gr.pEnc ((b0.1.1, g), 1)) := pair_mk (SqT.of upd_same) (Dp_sb tF _ _ (Gr.noList_tEnc _) hT1)
  generalize upd HE T2 (.tup [.ref T1, .int 1]) = HF at tF hT2
  refine ⟨by show 1 <= sizeLine; decide, fun T3 nT3 => ?_⟩
  have tG := SB.new (ps := []) nT3 (.tup [.ref T2])
  have hone : GA K (upd HF T3 (.tup [.ref T2])) (.ref T3) (Gr.one (b0.1.1, g) 1) := Bears_ga (bs := [((b0.1.1, g), 1)]) (SqT.of upd_same) (.cons (Dp_sb tG _ _ (Gr.noList_pEnc _) hT2) .nil)
  have n1 := (Gr.ok_mem so b0m).1
  have o1 : (Gr.one (b0.1.1, g) 1).Ok (10 ^ 30 + 1) := Gr.one_ok n1 go (by omega) (by omega)
  have e5 : (Gr.one (b0.1.1, g) 1).deep = max (1 + g.deep) 0 := rfl
  have e6 : (Gr.one (b0.1.1, g) 1).parts = 1 + g.parts + 0 := rfl
  refine q (.ref T3) (Gr.one (b0.1.1, g) 1) _ (((s9.trans tE).trans tF).trans tG) hone o1 (by omega) (by omega) fun x hx => ?_
  have hx' : x ∈ ((b0.1.1, g), (1 : Int)) :: (g.within ++ []) := hx
  rcases List.mem_cons.mp hx' with e | hx'
  ·rw [e]
   exact .inl ⟨b0, by rw [Gr.within_ps]; exact List.mem_flatMap.mpr ⟨b0, b0m, mcs ..⟩, rfl⟩
  ·rw [List.append_nil] at hx'
   exact .inr ⟨x, hx', rfl⟩
 rw [show decide (V.int way = V.int 1) = false from decide_eq_false fun z => hw1 (V.int.inj z)]
 refine iteF (nextI ?_)
 obtain ⟨h, eh, w1, w2, w3, w4, w5, w6, w7⟩ := Gr.within2_ok go so er hs0 hC hdj
 have p0m : p0 ∈ g.ps := by rw [er]; exact mcs ..
 have p0d := g.mem_deep p0 p0m
 have p0p := g.mem_parts p0 p0m
 have ilp := p0.1.2.len_parts
 obtain ⟨vp, evp, hpd⟩ := hgb.at (i := 0) (by rw [er]; rfl)
 obtain ⟨ad, bd, ux, rfl, k1, k2, k3, k4⟩ := PA_parts hpd
 obtain ⟨ia, is, rfl, hia, hib⟩ := GA_bears k3
 have il := hib.length
 refine ⟨_, rfl, ga, _, _, _, rfl, rfl, s9.sqT hga, atI_nat (j := 0) evp, ad, _, _, _, rfl, rfl, s9.sqT k1, atI_nat (j := 0) rfl, ?_⟩
 refine ⟨bd, _, rfl, s9.sqT k2, rfl, _, _, rfl, _, _, rfl, rfl, ?_⟩
 refine ⟨_, rfl, _, rfl, _, rfl, ia, ua, _, _, rfl, rfl, s9.sqT hia, s9.sqT hua, by omega, fun M HB sB hM => ?_⟩
 have s9B := s9.trans sB
 have hMb : Bears K HB Gr.pEnc (is ++ us) (p0.1.2.ps ++ sm.ps) := (hib.sb s9B Gr.noList_pEnc).append (hub.sb s9B Gr.noList_pEnc)
 refine ⟨M, _, _, rfl, .inr hM, hMb, Gr.pEnc_all _, Gr.pEnc_sortable _, by rw [List.length_append]; omega, fun x hx => ?_, fun Z2 ys nZ2 hy => ?_⟩
 ·have d1 := Gr.pEnc_depth x
  rcases List.mem_append.mp hx with hx | hx
  ·have := p0.1.2.mem_deep x hx; omega
  ·have := sdm x hx; omega
 have tC := SB.new (ps := []) nZ2 (.lst ys)
 refine ⟨Z2, ys, rfl, .inl ⟨SqL.of upd_same, fun I nI => ?_⟩⟩
 have tD := SB.new (ps := []) nI (.tup ys)
 have hh : GA K (upd (upd HB Z2 (.lst ys)) I (.tup ys)) (.ref I) h := by
  rw [eh]
  exact Bears_ga (SqT.of upd_same) ((hy.sb tC Gr.noList_pEnc).sb tD Gr.noList_pEnc)
 have sBD := tC.trans tD
 generalize upd (upd HB Z2 (.lst ys)) I (.tup ys) = HD at tD hh sBD
 clear hy tC tD hMb
 have s9D := s9B.trans sBD
 refine ⟨by show 2 <= sizeLine; decide, fun T1 nT1 => ?_⟩
 have tE := SB.new (ps := []) nT1 (.tup [.str p0.1.1, .ref I])
 have hT1 : Dp K (upd HD T1 (.tup [.str p0.1.1, .ref I])) (.ref T1) (Gr.tEnc (p0.1.1, h)) := .tup (SqT.of upd_same) (.cons (.str _) (.cons (hh.sb tE) .nil))
 have s9E := s9D.trans tE
 generalize upd HD T1 (.tup [.str p0.1.1, .ref I]) = HE at tE hT1 s9E
 refine nameI ?_
 refine ⟨_, rfl, _, rfl, ga, gs, rfl, s9E.sqT hga, fun c HA sA hc => ?_⟩
 rw [cut1] at hc
 have s9A := s9E.trans sA
 have hT1 := Dp_sb sA _ _ (Gr.noList_tEnc _) hT1
 refine ⟨_, rfl, by show 2 <= sizeLine; decide, fun T2 nT2 => ?_⟩
 have tF := SB.new (ps := []) nT2 (.tup [.ref T1, .int 1])
 have hT2 : Dp K (upd HA T2 (.tup [.ref T1, .int 1])) (.ref T2) (Gr.pEnc ((p0.1.1, h), 1)) := pair_mk (SqT.of upd_same) (Dp_sb tF _ _ (Gr.noList_tEnc _) hT1)
 generalize upd HA T2 (.tup [.ref T1, .int 1]) = HF at tF hT2
 refine ⟨by show 1 <= sizeLine; decide, fun T3 nT3 => ?_⟩
 have tG := SB.new (ps := []) nT3 (.tup [.ref T2])
 have hT3 : SqT K (upd HF T3 (.tup [.ref T2])) T3 [.ref T2] := SqT.of upd_same
 have hT2 := Dp_sb tG _ _ (Gr.noList_pEnc _) hT2
 have sDG := tF.trans tG
 generalize upd HF T3 (.tup [.ref T2]) = HG at tG hT3 hT2 sDG
 have s9G := s9A.trans sDG
 refine ⟨c, T3, _, _, rfl, rfl, sDG.sqT hc, hT3, by rw [List.length_drop, List.length_singleton]; omega, fun M2 HI sI hM2 => ?_⟩
 have s9I := s9G.trans sI
 have hrb : Bears K HI Gr.pEnc (gs.drop 1 ++ [.ref T2]) (r ++ [((p0.1.1, h), 1)]) := by
  refine Bears.append ?_ (.cons (Dp_sb sI _ _ (Gr.noList_pEnc _) hT2) .nil)
  have h0 := hgb.sb s9I Gr.noList_pEnc
  rw [er] at h0
  cases h0 with
  | cons _ t => exact t
 have rl : r.length + 1 = g.ps.length := by rw [er]; rfl
 refine ⟨M2, _, _, rfl, .inr hM2, hrb, Gr.pEnc_all _, Gr.pEnc_sortable _, by rw [List.length_append, List.length_singleton]; omega, fun x hx => ?_, fun Z3 ys2 nZ3 hy2 => ?_⟩
 ·have d1 := Gr.pEnc_depth x
  rcases List.mem_append.mp hx with hx | hx
  ·have := gdm x (by rw [er]; exact mcm _ hx); omega
  ·rw [List.mem_singleton.mp hx] at d1 ⊢
   have d2 : (((p0.1.1, h), (1 : Int)) : Tr × Int).1.2.deep = h.deep := rfl
   omega
 have tJ := SB.new (ps := []) nZ3 (.lst ys2)
 refine ⟨Z3, ys2, rfl, .inl ⟨SqL.of upd_same, fun U nU => ?_⟩⟩
 have tK := SB.new (ps := []) nU (.tup ys2)
 exact q (.ref U) (Gr.ofPs (srtE Gr.pEnc (r ++ [((p0.1.1, h), 1)]))) _ ((s9I.trans tJ).trans tK) (Bears_ga (SqT.of upd_same) ((hy2.sb tJ Gr.noList_pEnc).sb tK Gr.noList_pEnc)) w4 (by omega) (by omega) w7
abbrev N__law_same : List Str := ["_law_here", "_law_place", "_law_one"]
theorem sc__law_same : FnScope N__law_same ["_law_here", "_law_place"] (defScope s__law_same) := ⟨rfl, rfl, rfl, by decide +kernel, rfl, by decide +kernel, by decide +kernel⟩
theorem ok__law_same (B : BI mg) (F : Fun K "_law_same" "_law_same" s__law_same f fd) : FnOk P w K mg base CX0 (1) f fd ["_law_here", "_law_place"] (spSame34 K) := by
 refine F.ok sc__law_same (fun vs H Q E h => ?_) (fun cdv A outer s H vs Q E hr h => ?_)
 ·obtain ⟨u, v, pl, ds, rfl, _⟩ := h
  rfl
 obtain ⟨u, v, pl, ds, rfl, hu, hv, hs, dl, q⟩ := h
 have hun2 := hunT hr
 refine ⟨_, pss_one (ps_ret (pe_and (pe_cmpR (op_eqW (by show A.units + 3 + 195 < cLine; omega)) (pv 0) (pv 1) (nomark _)) (pe_one (pe_cmpR (op_eqW (by show A.units + 3 + 195 < cLine; omega)) (pe_lc (own := [("_law_one", 2)]) (g := (gName 2)) (tt := (tB (tCB (rIsiN K) (tCons (tVar 2) (tCons (tC (.ty "bool")) tNil))))) (te := (tVar 2)) rfl sc__law_same.nd (pi_tup (pv 1)) (blkOk_by (N := N__law_same) (sc := defScope s__law_same) (by decide +kernel)) (fun _ _ _ _ _ => (pg_name (i := 2) sc__law_same.nd rfl (.inl rfl))) (fun _ _ _ _ _ => (pts_one (pt_val (pe_isi B (pv 2) B.bool boot_bool)))) (fun _ _ _ _ _ => (pv 2))) (pe_lst pa_nil) (nomark _))))), ?_⟩
 have szl := sizeLine_eq
 have wpl : Wd (plEnc pl) := wd_pl (by simp [plEnc, plS, pl_plain]) (by rw [pl_depth]; omega)
 refine ⟨_, rfl, _, rfl, _, _, hu, hv, wpl, Wd.of hs, ?_⟩
 cases he : PyData.eqv (plEnc pl) (.tuple ds) with
 | false => exact ⟨_, rfl, iteF (q false _ SB.refl ⟨(fun z => nomatch z), fun z => by have := (same_iff.mpr z).1; rw [he] at this; cases this⟩)⟩
 | true =>
 refine ⟨_, rfl, iteT ?_⟩
 cases hv with
 | @tup a xs _ ha hda =>
 have xl := DpAll.length hda
 refine ⟨_, rfl, a, rfl, ⟨xs, ha⟩, fun D nD => ?_⟩
 refine lc_seqQ (walk_tup (xs := xs)) [] nD (by simp) (by omega) (fun i us G => DpAll K (del D G) us ((ds.take i).filter isBl)) .nil (fun G s => s.sqT ha) (fun i us G G' s h => DpAll_s0 s.del _ _ h) (fun Pv i x Hq G us hi s7 y hR' hu' hD7 fin skip => ?_) (fun us G s7 hD7 hR' hul => ?_)
 ·obtain ⟨rfl, ey⟩ := y
  obtain ⟨d, ed, hdx⟩ := DpAll.get hda ey
  have hst : (ds.take (i + 1)).filter isBl = (ds.take i).filter isBl ++ (if isBl d then [d] else []) := by
   rw [List.take_add_one, ed, List.filter_append]
   congr 1
   cases hh : isBl d <;> simp [hh]
  obtain ⟨tn, ty, kb⟩ := bool_of (Dp_s0 s7 _ _ hdx)
  refine ⟨rfl, _, rfl, _, _, tn, isBl d, rfl, ty, kb, _, rfl, ?_⟩
  cases hh : isBl d with
  | false =>
   rw [hh] at hst
   exact iteF (skip _ SB.refl (by rw [hst]; simpa using hR'))
  | true =>
   rw [hh] at hst
   refine iteT ⟨_, rfl, fin _ _ SB.refl ?_⟩
   rw [hst]
   exact DpAll.append hR' (.cons (Dp_s0 (sub_del s7 nD) _ _ hdx) .nil)
 rw [xl, List.take_length] at hR'
 refine ⟨by show 0 <= sizeLine; decide, fun E2 nE2 => ?_⟩
 have t8 := SB.new (ps := []) nE2 (.lst [])
 have wf : Wd (.list (ds.filter isBl)) := by
  have h1 := SeqAt.canLay_of_shaped hs
  have h2 := SeqAt.depth_of_shaped hs
  have hm : ∀ d ∈ ds.filter isBl, d ∈ ds := fun d hd => (List.mem_filter.mp hd).1
  rw [PyData.canLay0] at h1
  refine ⟨by rw [PyData.canLay0]; exact canLay_sub hm h1, ?_⟩
  have := depth_sub hm
  simp only [PyData.depth] at h2 ⊢
  omega
 refine ⟨.list (ds.filter isBl), .list [], .lst (t8.sqL nmn (SqL.of hD7)) (DpAll_s0 t8 _ _ (DpAll_s0 del_sub _ _ hR')), .lst (SqL.of upd_same) .nil, wf, ⟨by decide +kernel, by decide +kernel⟩, ?_⟩
 have e8 : PyData.eqv (.list (ds.filter isBl)) (.list []) = decide (ds.filter isBl = []) := by
  cases ds.filter isBl with
  | nil => simp [PyData.eqv, PyData.eqvAll]
  | cons d r => simp [PyData.eqv, PyData.eqvAll]
 rw [e8]
 refine q _ _ (s7.trans t8) ?_
 rw [decide_eq_true_iff, <- same_iff, he]
 exact ⟨fun z => ⟨rfl, z⟩, fun z => z.2⟩
abbrev N__law_places : List Str := ["_law_purse_here", "_law_grove", "_law_found", "_law_some", "_law_place", "_law_ahead", "_law_name"]
theorem sc__law_places : FnScope N__law_places ["_law_purse_here", "_law_grove"] (defScope s__law_places) := ⟨rfl, rfl, rfl, by decide +kernel, rfl, by decide +kernel, by decide +kernel⟩
theorem ok__law_places (B : BI mg) (G__law_bare : Got P w K mg base "_law_bare" ["_law_grove", "_law_ahead"] (70) (spBareF K 70)) (G__law_take : Got P w K mg base "_law_take" ["_law_purse_here", "_law_many_here"] (1) (spTakeW)) (F : Fun K "_law_places" "_law_places" s__law_places f fd) : FnOk P w K mg base CX0 (72) f fd ["_law_purse_here", "_law_grove"] (spPlaces34 K) := by
 refine F.ok sc__law_places (fun vs H Q E h => ?_) (fun cdv A outer s H vs Q E hr h => ?_)
 ·obtain ⟨p, v, g, rfl, _⟩ := h
  rfl
 obtain ⟨p, v, g, rfl, hp, hg, ⟨C0, go⟩, gd, gp, q⟩ := h
 have hun2 := hunT hr
 refine ⟨_, pss_cons (ps_set (i := 2) sc__law_places.nd rfl (.inl rfl) (pe_slice sl_list (pe_lc (own := [("_law_place", 4), ("_law_name", 6)]) (g := (gTup K 2 (gCons (gName 4) (gCons (gName 6) gNil)))) (tt := tYes) (te := (tVar 4)) rfl sc__law_places.nd (pi_list (pe_got G__law_bare (hr.mono (by omega)) rfl (pa_cons (pv 1) (pa_cons (pe_tup pa_nil) pa_nil)))) (blkOk_by (N := N__law_places) (sc := defScope s__law_places) (by decide +kernel)) (fun _ _ _ _ _ => (pg_tup rfl (pgs_cons (pg_name (i := 4) sc__law_places.nd rfl (.inl rfl)) (pgs_cons (pg_name (i := 6) sc__law_places.nd rfl (.inl rfl)) pgs_nil)))) (fun _ _ _ _ _ => pts_nil) (fun _ _ _ _ _ => (pv 4))) (po_some (pe_un un_neg pe_int)) po_none))
  (pss_cons (ps_set (i := 3) sc__law_places.nd rfl (.inl rfl) (pe_op op_cat (pv 2) (pe_lst (pa_cons (pe_tup (pa_cons pe_int pa_nil)) pa_nil))))
  (pss_cons (ps_set (i := 4) sc__law_places.nd rfl (.inl rfl) (pe_ix ix_list (pv 3) (pe_got G__law_take (hr.mono (by omega)) rfl (pa_cons (pv 0) (pa_cons (pe_callB call_len_seq rfl B.len PySem.boot_len (pa_cons (pv 3) pa_nil)) pa_nil))) (fun _ _ => rfl)))
  (pss_cons (ps_set (i := 5) sc__law_places.nd rfl (.inl rfl) (pe_slice sl_tupB (pv 4) po_none (po_some (pe_un un_neg pe_int))))
  (pss_cons (ps_set (i := 2) sc__law_places.nd rfl (.inl rfl) (pe_op op_cat (pv 2) (pe_lst (pa_cons (pv 5) (pa_cons (pe_op op_catB (pv 4) (pe_tup (pa_cons pe_int pa_nil))) (pa_cons (pe_op op_catB (pv 4) (pe_tup (pa_cons pe_int pa_nil))) (pa_cons (pe_op op_catB (pv 5) (pe_tup (pa_cons (pe_op op_pow pe_int pe_int) pa_nil))) (pa_cons (pe_op op_catB (pe_tup (pa_cons (pe_un un_neg pe_int) pa_nil)) (pe_slice sl_tupB (pv 4) (po_some pe_int) po_none)) (pa_cons (pe_tup pa_nil) pa_nil)))))))))
  (pss_cons (ps_set (i := 2) sc__law_places.nd rfl (.inl rfl) (pe_op op_cat (pv 2) (pe_lst (pa_cons (pe_op op_catB (pv 5) (pe_tup (pa_cons (pe_un un_neg pe_int) pa_nil))) (pa_cons (pe_op op_catB (pv 5) (pe_tup (pa_cons (pe_callB call_len_seq rfl B.len PySem.boot_len (pa_cons (pv 1) pa_nil)) pa_nil))) (pa_cons (pe_op op_catB (pe_tup (pa_cons pe_bl pa_nil)) (pv 4)) (pa_cons (pe_op op_catB (pv 5) (pe_tup (pa_cons pe_bl pa_nil))) (pa_cons (pe_tup (pa_cons pe_str pa_nil)) pa_nil))))))))
  (pss_cons (ps_set (i := 2) sc__law_places.nd rfl (.inl rfl) (pe_op op_cat (pv 2) (pe_lst (pa_cons (pe_tup (pa_cons pe_non pa_nil)) (pa_cons (pe_tup (pa_cons (pe_tup (pa_cons pe_int pa_nil)) pa_nil)) (pa_cons (pe_op op_catB (pv 5) (pe_tup (pa_cons pe_str pa_nil))) (pa_cons (pe_tup (pa_cons (pe_op op_sub (pe_un un_neg pe_int) (pe_callB call_len_seq rfl B.len PySem.boot_len (pa_cons (pv 1) pa_nil))) pa_nil)) (pa_cons (pe_op op_catB (pv 5) (pe_tup (pa_cons (pe_lst pa_nil) pa_nil))) pa_nil))))))))
  (pss_one (ps_ret (pv 2))))))))), ?_⟩
 have szl := sizeLine_eq
 obtain ⟨ga, gs, rfl, hga, hgb⟩ := GA_bears hg
 have gsl := hgb.length
 have glp := g.len_parts
 refine ⟨_, rfl, by show 0 <= sizeLine; decide, fun E0 nE0 => ?_⟩
 have t1 := SB.new (ps := []) nE0 (.tup [])
 have hE0 : SqT K (upd H E0 (.tup [])) E0 [] := SqT.of upd_same
 generalize upd H E0 (.tup []) = H1 at t1 hE0
 refine ⟨.ref ga, .ref E0, g, [], rfl, hg.sb t1, PL_of (p := []) hE0, by omega, by show g.deep + 0 <= 63; omega, by omega, ⟨_, go⟩, fun L us H2 s2 nL hL hb2 => ⟨L, rfl, ⟨_, SqL.of hL⟩, fun D nD => ?_⟩⟩
 have bkl := g.bk_len 0
 have bkd := g.bk_long 0
 have usl := hb2.length
 rw [List.length_map] at usl
 refine lc_seqQ (walk_list (xs := us)) [] nD (by simp) (by omega) (fun i ws G => Bears K G plEnc ws (((g.bk 0).take i).map fun x : Pl × Str => x.1)) .nil (fun G s => s.sqL nmn (SqL.of hL)) (fun i ws G G' s h => h.sb s pl_noList) (fun Pv i x Hq G ws hi s3 y hR' hu' hD3 fin skip => ?_) (fun ws H3 s3 hD3 hR' hul => ?_)
 ·obtain ⟨rfl, ey⟩ := y
  obtain ⟨z, ez, hz⟩ := hb2.get ey
  rw [List.getElem?_map] at ez
  obtain ⟨y0, ey0, rfl⟩ := Option.map_eq_some_iff.mp ez
  cases (Dp_sb s3 _ _ (bkE_noList _) hz : Dp K G x (.tuple [plEnc ([] ++ y0.1), .str y0.2])) with
  | @tup td us' _ hs' hda =>
  cases hda with
  | cons g1 hda =>
  cases hda with
  | cons g2 hda =>
  cases hda
  cases g2
  rw [List.nil_append] at g1
  refine ⟨td, _, rfl, hs', rfl, _, _, rfl, _, _, rfl, rfl, rfl, ?_⟩
  refine ⟨_, rfl, fin _ _ SB.refl ?_⟩
  rw [List.take_add_one, ey0, List.map_append]
  exact hR'.append (.cons g1 .nil)
 rw [usl, List.take_length] at hR'
 have wl := hR'.length
 rw [List.length_map] at wl
 refine ⟨8, rfl, _, rfl, D, ws, rfl, SqL.of hD3, fun F nF => ?_⟩
 obtain ⟨ys, ps, eys, hys, psd, psl⟩ : ∃ (ys : List V) (ps : List Pl), cutV ws (some (-8)) none = ys /\ Bears K H3 plEnc ys ps /\ (∀ q ∈ ps, q.length <= 12) /\ ps.length <= 100 := by
  refine ⟨_, ((((g.bk 0).map fun x : Pl × Str => x.1).drop (HT.sIx ws.length 0 (some (-8)))).take (HT.sIx ws.length ws.length none - HT.sIx ws.length 0 (some (-8)))), rfl, (hR'.drop _).take _, fun q hq => ?_, ?_⟩
  ·obtain ⟨x, hx, rfl⟩ := List.mem_map.mp (List.mem_of_mem_drop (List.mem_of_mem_take hq))
   have := bkd x hx
   omega
  ·rw [List.length_take, List.length_drop, List.length_map]; omega
 rw [eys]
 have t4 := SB.new (ps := []) nF (.lst ys)
 have hF4 : upd H3 F (.lst ys) F = some (.lst ys) := upd_same
 have s04 := ((t1.trans s2).trans s3).trans t4
 have hys4 := hys.sb t4 pl_noList
 have hp4 := hp.sb s04
 have ysl := hys.length
 generalize upd H3 F (.lst ys) = H4 at t4 hF4 s04 hys4 hp4
 clear hR' hD3 hb2 hL hys t4 hE0
 refine nameI ?_
 refine ⟨_, rfl, by show 1 <= sizeLine; decide, fun T0 nT0 => ?_⟩
 have t5 := SB.new (ps := []) nT0 (.tup [.int 0])
 have hT0 : SqT K (upd H4 T0 (.tup [.int 0])) T0 [.int 0] := SqT.of upd_same
 generalize upd H4 T0 (.tup [.int 0]) = H5 at t5 hT0
 refine ⟨by show 1 <= sizeLine; decide, fun L0 nL0 => ?_⟩
 have t6 := SB.new (ps := []) nL0 (.lst [.ref T0])
 have hL6 : upd H5 L0 (.lst [.ref T0]) L0 = some (.lst [.ref T0]) := upd_same
 have hT6 := t6.sqT hT0
 have t56 := t5.trans t6
 generalize upd H5 L0 (.lst [.ref T0]) = H6 at t6 hL6 hT6 t56
 refine ⟨F, L0, _, _, rfl, rfl, t56.keep _ _ hF4 nmn, hL6, by rw [List.length_singleton]; omega, fun S nS => ?_⟩
 have t7 := SB.new (ps := []) nS (.lst (ys ++ [.ref T0]))
 have hS7 : upd H6 S (.lst (ys ++ [.ref T0])) S = some (.lst (ys ++ [.ref T0])) := upd_same
 have t47 := t56.trans t7
 have hys7 : Bears K (upd H6 S (.lst (ys ++ [.ref T0]))) plEnc (ys ++ [.ref T0]) (ps ++ [[0]]) := (hys4.sb t47 pl_noList).append (.cons (PL_of (p := [0]) (t7.sqT hT6)) .nil)
 have hp7 := hp4.sb t47
 have Sp : S ≠ p := fun z => (hp4.sb t56).ne nS z.symm
 generalize upd H6 S (.lst (ys ++ [.ref T0])) = H7 at t7 hS7 t47 hys7 hp7
 refine nameI ?_
 have sl : (ys ++ [V.ref T0]).length = ps.length + 1 := by rw [List.length_append, List.length_singleton]; omega
 refine ⟨_, rfl, _, rfl, _, rfl, S, _, rfl, .inl (SqL.of hS7), p, _, rfl, hp7, by omega, by omega, fun r8 G0 r80 r8m s8 hp8 => ?_⟩
 obtain ⟨c, rfl⟩ : ∃ c : Nat, r8 = (c : Int) := ⟨r8.toNat, by omega⟩
 have hc : c < (ys ++ [V.ref T0]).length := by omega
 obtain ⟨pl, epl, hvp⟩ := hys7.get (List.getElem?_eq_getElem hc)
 obtain ⟨pa, evp, hpa7⟩ := PL_ints hvp
 have plen : pl.length <= 12 := by
  rcases List.mem_append.mp (List.mem_of_getElem? epl) with h | h
  ·exact psd pl h
  ·rw [List.mem_singleton.mp h]; decide
 refine ⟨S, _, _, .ref pa, rfl, rfl, SqL.of (s8.keep _ _ hS7 (by simpa using Sp)), atI_nat (by rw [List.getElem?_eq_getElem hc, evp]), ?_⟩
 refine nameI ?_
 have hpa := s8.sqT hpa7
 rw [pl_ints] at hpa
 obtain ⟨is, his⟩ : ∃ is : List Int, is = pl.map fun n : Nat => (n : Int) := ⟨_, rfl⟩
 rw [<- his] at hpa
 have isl : is.length <= 12 := by rw [his, List.length_map]; exact plen
 have hF0 : G0 F = some (.lst ys) := s8.keep _ _ (t47.keep _ _ hF4 nmn) (by simpa using fun z : F = p => (hp.sb ((t1.trans s2).trans s3)).ne nF z.symm)
 have hysG := (hys4.sb t47 pl_noList).sb s8 pl_noList
 have f0 : SB [p] H G0 := (s04.trans t47).nil.trans s8
 have nF0 : H F = none := ((t1.trans s2).trans s3).dom _ nF
 clear hys7 hS7 hp7 Sp hys4 hF4 t47 t56 s04 s8 hpa7 hvp epl evp
 refine ⟨_, rfl, 1, rfl, _, rfl, pa, _, rfl, hpa, fun ah Ga za hah => ?_⟩
 obtain ⟨as, eas, asl⟩ := cutInts is none (some (-1))
 rw [eas] at hah
 refine nameI ?_
 have lGa := za
 refine ⟨_, rfl, _, rfl, _, rfl, by show 1 <= sizeLine; decide, fun T1 nT1 => ?_⟩
 have z1 := SB.new (ps := []) nT1 (.tup [.int 0])
 have hT1 : SqT K (upd Ga T1 (.tup [.int 0])) T1 [.int 0] := SqT.of upd_same
 generalize upd Ga T1 (.tup [.int 0]) = G1 at z1 hT1
 have lG1 := lGa.trans z1
 refine ⟨pa, T1, _, _, rfl, rfl, (lG1.sqT hpa), hT1, by simp only [List.length_map, List.length_singleton]; omega, fun O1 G2 z2 hO1 => ?_⟩
 have lG2 := lG1.trans z2
 refine ⟨_, rfl, by show 1 <= sizeLine; decide, fun T2 nT2 => ?_⟩
 have z3 := SB.new (ps := []) nT2 (.tup [.int 1])
 have hT2 : SqT K (upd G2 T2 (.tup [.int 1])) T2 [.int 1] := SqT.of upd_same
 generalize upd G2 T2 (.tup [.int 1]) = G3 at z3 hT2
 have lG3 := lG2.trans z3
 refine ⟨pa, T2, _, _, rfl, rfl, (lG3.sqT hpa), hT2, by simp only [List.length_map, List.length_singleton]; omega, fun O2 G4 z4 hO2 => ?_⟩
 have lG4 := lG3.trans z4
 refine ⟨_, rfl, _, _, rfl, rfl, ⟨by decide, by decide, by decide⟩, by show 1 <= sizeLine; decide, fun T3 nT3 => ?_⟩
 have z5 := SB.new (ps := []) nT3 (.tup [.int ((10 : Int) ^ (Int.toNat 20))])
 have hT3 : SqT K (upd G4 T3 (.tup [.int ((10 : Int) ^ (Int.toNat 20))])) T3 [.int ((10 : Int) ^ (Int.toNat 20))] := SqT.of upd_same
 generalize upd G4 T3 (.tup [.int ((10 : Int) ^ (Int.toNat 20))]) = G5 at z5 hT3
 have lG5 := lG4.trans z5
 refine ⟨ah, T3, _, _, rfl, rfl, (((((z1.trans z2).trans z3).trans z4).trans z5).sqT hah), hT3, by simp only [List.length_map, List.length_singleton]; omega, fun O3 G6 z6 hO3 => ?_⟩
 have lG6 := lG5.trans z6
 refine ⟨1, rfl, by show 1 <= sizeLine; decide, fun T4 nT4 => ?_⟩
 have z7 := SB.new (ps := []) nT4 (.tup [.int (-1)])
 have hT4 : SqT K (upd G6 T4 (.tup [.int (-1)])) T4 [.int (-1)] := SqT.of upd_same
 generalize upd G6 T4 (.tup [.int (-1)]) = G7 at z7 hT4
 have lG7 := lG6.trans z7
 refine ⟨_, rfl, 1, rfl, pa, _, rfl, lG7.sqT hpa, fun tl G8 z8 htl => ?_⟩
 have lG8 := lG7.trans z8
 obtain ⟨bs, ebs, bsl⟩ := cutInts is (some 1) none
 rw [ebs] at htl
 refine ⟨T4, tl, _, _, rfl, rfl, (z8.sqT hT4), htl, by simp only [List.length_map, List.length_singleton]; omega, fun O4 G9 z9 hO4 => ?_⟩
 have lG9 := lG8.trans z9
 refine ⟨by show 0 <= sizeLine; decide, fun E1 nE1 => ?_⟩
 have z10 := SB.new (ps := []) nE1 (.tup [])
 have hE1 : SqT K (upd G9 E1 (.tup [])) E1 [] := SqT.of upd_same
 generalize upd G9 E1 (.tup []) = G10 at z10 hE1
 have lG10 := lG9.trans z10
 refine ⟨by show 6 <= sizeLine; decide, fun A1 nA1 => ?_⟩
 have z11 := SB.new (ps := []) nA1 (.lst [.ref ah, .ref O1, .ref O2, .ref O3, .ref O4, .ref E1])
 have hA1 : upd G10 A1 (.lst [.ref ah, .ref O1, .ref O2, .ref O3, .ref O4, .ref E1]) A1 = some (.lst [.ref ah, .ref O1, .ref O2, .ref O3, .ref O4, .ref E1]) := upd_same
 generalize upd G10 A1 (.lst [.ref ah, .ref O1, .ref O2, .ref O3, .ref O4, .ref E1]) = G11 at z11 hA1
 have lG11 := lG10.trans z11
 refine ⟨F, A1, _, _, rfl, rfl, lG11.keep _ _ hF0 nmn, hA1, by show ys.length + 6 <= sizeLine; omega, fun M1 nM1 => ?_⟩
 have z12 := SB.new (ps := []) nM1 (.lst (ys ++ [.ref ah, .ref O1, .ref O2, .ref O3, .ref O4, .ref E1]))
 have hM1 : upd G11 M1 (.lst (ys ++ [.ref ah, .ref O1, .ref O2, .ref O3, .ref O4, .ref E1])) M1 = some (.lst (ys ++ [.ref ah, .ref O1, .ref O2, .ref O3, .ref O4, .ref E1])) := upd_same
 generalize upd G11 M1 (.lst (ys ++ [.ref ah, .ref O1, .ref O2, .ref O3, .ref O4, .ref E1])) = G12 at z12 hM1
 have lG12 := lG11.trans z12
 refine nameI ?_
 refine ⟨_, rfl, _, rfl, 1, rfl, by show 1 <= sizeLine; decide, fun T5 nT5 => ?_⟩
 have z13 := SB.new (ps := []) nT5 (.tup [.int (-1)])
 have hT5 : SqT K (upd G12 T5 (.tup [.int (-1)])) T5 [.int (-1)] := SqT.of upd_same
 generalize upd G12 T5 (.tup [.int (-1)]) = G13 at z13 hT5
 have lG13 := lG12.trans z13
 refine ⟨ah, T5, _, _, rfl, rfl, (((((((((((((z1.trans z2).trans z3).trans z4).trans z5).trans z6).trans z7).trans z8).trans z9).trans z10).trans z11).trans z12).trans z13).sqT hah), hT5, by simp only [List.length_map, List.length_singleton]; omega, fun O5 G14 z14 hO5 => ?_⟩
 have lG14 := lG13.trans z14
 refine ⟨_, rfl, _, rfl, ga, gs, rfl, .inr ((lG14.sqT (f0.sqT hga))), by show 1 <= sizeLine; decide, fun T6 nT6 => ?_⟩
 have z15 := SB.new (ps := []) nT6 (.tup [.int (gs.length : Nat)])
 have hT6 : SqT K (upd G14 T6 (.tup [.int (gs.length : Nat)])) T6 [.int (gs.length : Nat)] := SqT.of upd_same
 generalize upd G14 T6 (.tup [.int (gs.length : Nat)]) = G15 at z15 hT6
 have lG15 := lG14.trans z15
 refine ⟨ah, T6, _, _, rfl, rfl, (((((((((((((((z1.trans z2).trans z3).trans z4).trans z5).trans z6).trans z7).trans z8).trans z9).trans z10).trans z11).trans z12).trans z13).trans z14).trans z15).sqT hah), hT6, by simp only [List.length_map, List.length_singleton]; omega, fun O6 G16 z16 hO6 => ?_⟩
 have lG16 := lG15.trans z16
 refine ⟨by show 1 <= sizeLine; decide, fun T7 nT7 => ?_⟩
 have z17 := SB.new (ps := []) nT7 (.tup [.bl true])
 have hT7 : SqT K (upd G16 T7 (.tup [.bl true])) T7 [.bl true] := SqT.of upd_same
 generalize upd G16 T7 (.tup [.bl true]) = G17 at z17 hT7
 have lG17 := lG16.trans z17
 refine ⟨_, rfl, T7, pa, _, _, rfl, rfl, hT7, (lG17.sqT hpa), by simp only [List.length_map, List.length_singleton]; omega, fun O7 G18 z18 hO7 => ?_⟩
 have lG18 := lG17.trans z18
 refine ⟨_, rfl, by show 1 <= sizeLine; decide, fun T8 nT8 => ?_⟩
 have z19 := SB.new (ps := []) nT8 (.tup [.bl false])
 have hT8 : SqT K (upd G18 T8 (.tup [.bl false])) T8 [.bl false] := SqT.of upd_same
 generalize upd G18 T8 (.tup [.bl false]) = G19 at z19 hT8
 have lG19 := lG18.trans z19
 refine ⟨ah, T8, _, _, rfl, rfl, (((((((((((((((((((z1.trans z2).trans z3).trans z4).trans z5).trans z6).trans z7).trans z8).trans z9).trans z10).trans z11).trans z12).trans z13).trans z14).trans z15).trans z16).trans z17).trans z18).trans z19).sqT hah), hT8, by simp only [List.length_map, List.length_singleton]; omega, fun O8 G20 z20 hO8 => ?_⟩
 have lG20 := lG19.trans z20
 refine ⟨by show 1 <= sizeLine; decide, fun T9 nT9 => ?_⟩
 have z21 := SB.new (ps := []) nT9 (.tup [.str "a"])
 have hT9 : SqT K (upd G20 T9 (.tup [.str "a"])) T9 [.str "a"] := SqT.of upd_same
 generalize upd G20 T9 (.tup [.str "a"]) = G21 at z21 hT9
 have lG21 := lG20.trans z21
 refine ⟨by show 5 <= sizeLine; decide, fun A2 nA2 => ?_⟩
 have z22 := SB.new (ps := []) nA2 (.lst [.ref O5, .ref O6, .ref O7, .ref O8, .ref T9])
 have hA2 : upd G21 A2 (.lst [.ref O5, .ref O6, .ref O7, .ref O8, .ref T9]) A2 = some (.lst [.ref O5, .ref O6, .ref O7, .ref O8, .ref T9]) := upd_same
 generalize upd G21 A2 (.lst [.ref O5, .ref O6, .ref O7, .ref O8, .ref T9]) = G22 at z22 hA2
 have lG22 := lG21.trans z22
 refine ⟨M1, A2, _, _, rfl, rfl, (((((((((z13.trans z14).trans z15).trans z16).trans z17).trans z18).trans z19).trans z20).trans z21).trans z22).keep _ _ hM1 nmn, hA2, by rw [List.length_append]; show ys.length + 6 + 5 <= sizeLine; omega, fun M2 nM2 => ?_⟩
 have z23 := SB.new (ps := []) nM2 (.lst (ys ++ [.ref ah, .ref O1, .ref O2, .ref O3, .ref O4, .ref E1] ++ [.ref O5, .ref O6, .ref O7, .ref O8, .ref T9]))
 have hM2 : upd G22 M2 (.lst (ys ++ [.ref ah, .ref O1, .ref O2, .ref O3, .ref O4, .ref E1] ++ [.ref O5, .ref O6, .ref O7, .ref O8, .ref T9])) M2 = some (.lst (ys ++ [.ref ah, .ref O1, .ref O2, .ref O3, .ref O4, .ref E1] ++ [.ref O5, .ref O6, .ref O7, .ref O8, .ref T9])) := upd_same
 generalize upd G22 M2 (.lst (ys ++ [.ref ah, .ref O1, .ref O2, .ref O3, .ref O4, .ref E1] ++ [.ref O5, .ref O6, .ref O7, .ref O8, .ref T9])) = G23 at z23 hM2
 have lG23 := lG22.trans z23
 refine nameI ?_
 refine ⟨_, rfl, by show 1 <= sizeLine; decide, fun T10 nT10 => ?_⟩
 have z24 := SB.new (ps := []) nT10 (.tup [.non])
 have hT10 : SqT K (upd G23 T10 (.tup [.non])) T10 [.non] := SqT.of upd_same
 generalize upd G23 T10 (.tup [.non]) = G24 at z24 hT10
 have lG24 := lG23.trans z24
 refine ⟨by show 1 <= sizeLine; decide, fun T11 nT11 => ?_⟩
 have z25 := SB.new (ps := []) nT11 (.tup [.int 0])
 have hT11 : SqT K (upd G24 T11 (.tup [.int 0])) T11 [.int 0] := SqT.of upd_same
 generalize upd G24 T11 (.tup [.int 0]) = G25 at z25 hT11
 have lG25 := lG24.trans z25
 refine ⟨by show 1 <= sizeLine; decide, fun T12 nT12 => ?_⟩
 have z26 := SB.new (ps := []) nT12 (.tup [.ref T11])
 have hT12 : SqT K (upd G25 T12 (.tup [.ref T11])) T12 [.ref T11] := SqT.of upd_same
 generalize upd G25 T12 (.tup [.ref T11]) = G26 at z26 hT12
 have lG26 := lG25.trans z26
 refine ⟨_, rfl, by show 1 <= sizeLine; decide, fun T13 nT13 => ?_⟩
 have z27 := SB.new (ps := []) nT13 (.tup [.str "0"])
 have hT13 : SqT K (upd G26 T13 (.tup [.str "0"])) T13 [.str "0"] := SqT.of upd_same
 generalize upd G26 T13 (.tup [.str "0"]) = G27 at z27 hT13
 have lG27 := lG26.trans z27
 refine ⟨ah, T13, _, _, rfl, rfl, (((((((((((((((((((((((((((z1.trans z2).trans z3).trans z4).trans z5).trans z6).trans z7).trans z8).trans z9).trans z10).trans z11).trans z12).trans z13).trans z14).trans z15).trans z16).trans z17).trans z18).trans z19).trans z20).trans z21).trans z22).trans z23).trans z24).trans z25).trans z26).trans z27).sqT hah), hT13, by simp only [List.length_map, List.length_singleton]; omega, fun O9 G28 z28 hO9 => ?_⟩
 have lG28 := lG27.trans z28
 refine ⟨1, rfl, _, rfl, ga, gs, rfl, .inr ((lG28.sqT (f0.sqT hga))), _, _, rfl, rfl, by show 1 <= sizeLine; decide, fun T14 nT14 => ?_⟩
 have z29 := SB.new (ps := []) nT14 (.tup [.int (-1 - ((gs.length : Nat) : Int))])
 have hT14 : SqT K (upd G28 T14 (.tup [.int (-1 - ((gs.length : Nat) : Int))])) T14 [.int (-1 - ((gs.length : Nat) : Int))] := SqT.of upd_same
 generalize upd G28 T14 (.tup [.int (-1 - ((gs.length : Nat) : Int))]) = G29 at z29 hT14
 have lG29 := lG28.trans z29
 refine ⟨_, rfl, by show 0 <= sizeLine; decide, fun B0 nB0 => ?_⟩
 have z30 := SB.new (ps := []) nB0 (.lst [])
 have hB0 : upd G29 B0 (.lst []) B0 = some (.lst []) := upd_same
 generalize upd G29 B0 (.lst []) = G30 at z30 hB0
 have lG30 := lG29.trans z30
 refine ⟨by show 1 <= sizeLine; decide, fun T15 nT15 => ?_⟩
 have z31 := SB.new (ps := []) nT15 (.tup [.ref B0])
 have hT15 : SqT K (upd G30 T15 (.tup [.ref B0])) T15 [.ref B0] := SqT.of upd_same
 generalize upd G30 T15 (.tup [.ref B0]) = G31 at z31 hT15
 have lG31 := lG30.trans z31
 refine ⟨ah, T15, _, _, rfl, rfl, (((((((((((((((((((((((((((((((z1.trans z2).trans z3).trans z4).trans z5).trans z6).trans z7).trans z8).trans z9).trans z10).trans z11).trans z12).trans z13).trans z14).trans z15).trans z16).trans z17).trans z18).trans z19).trans z20).trans z21).trans z22).trans z23).trans z24).trans z25).trans z26).trans z27).trans z28).trans z29).trans z30).trans z31).sqT hah), hT15, by simp only [List.length_map, List.length_singleton]; omega, fun O10 G32 z32 hO10 => ?_⟩
 have lG32 := lG31.trans z32
 refine ⟨by show 5 <= sizeLine; decide, fun A3 nA3 => ?_⟩
 have z33 := SB.new (ps := []) nA3 (.lst [.ref T10, .ref T12, .ref O9, .ref T14, .ref O10])
 have hA3 : upd G32 A3 (.lst [.ref T10, .ref T12, .ref O9, .ref T14, .ref O10]) A3 = some (.lst [.ref T10, .ref T12, .ref O9, .ref T14, .ref O10]) := upd_same
 generalize upd G32 A3 (.lst [.ref T10, .ref T12, .ref O9, .ref T14, .ref O10]) = G33 at z33 hA3
 have lG33 := lG32.trans z33
 refine ⟨M2, A3, _, _, rfl, rfl, (((((((((z24.trans z25).trans z26).trans z27).trans z28).trans z29).trans z30).trans z31).trans z32).trans z33).keep _ _ hM2 nmn, hA3, by rw [List.length_append, List.length_append]; show ys.length + 6 + 5 + 5 <= sizeLine; omega, fun M3 nM3 => ?_⟩
 have z34 := SB.new (ps := []) nM3 (.lst (ys ++ [.ref ah, .ref O1, .ref O2, .ref O3, .ref O4, .ref E1] ++ [.ref O5, .ref O6, .ref O7, .ref O8, .ref T9] ++ [.ref T10, .ref T12, .ref O9, .ref T14, .ref O10]))
 have hM3 : upd G33 M3 (.lst (ys ++ [.ref ah, .ref O1, .ref O2, .ref O3, .ref O4, .ref E1] ++ [.ref O5, .ref O6, .ref O7, .ref O8, .ref T9] ++ [.ref T10, .ref T12, .ref O9, .ref T14, .ref O10])) M3 = some (.lst (ys ++ [.ref ah, .ref O1, .ref O2, .ref O3, .ref O4, .ref E1] ++ [.ref O5, .ref O6, .ref O7, .ref O8, .ref T9] ++ [.ref T10, .ref T12, .ref O9, .ref T14, .ref O10])) := upd_same
 generalize upd G33 M3 (.lst (ys ++ [.ref ah, .ref O1, .ref O2, .ref O3, .ref O4, .ref E1] ++ [.ref O5, .ref O6, .ref O7, .ref O8, .ref T9] ++ [.ref T10, .ref T12, .ref O9, .ref T14, .ref O10])) = G34 at z34 hM3
 have lG34 := lG33.trans z34
 refine nameI ?_
 have rG34 : SB [] G34 G34 := SB.refl
 have rG33 := z34.trans rG34
 have rG32 := z33.trans rG33
 have rG31 := z32.trans rG32
 have rG30 := z31.trans rG31
 have rG29 := z30.trans rG30
 have rG28 := z29.trans rG29
 have rG27 := z28.trans rG28
 have rG26 := z27.trans rG27
 have rG25 := z26.trans rG26
 have rG24 := z25.trans rG25
 have rG23 := z24.trans rG24
 have rG22 := z23.trans rG23
 have rG21 := z22.trans rG22
 have rG20 := z21.trans rG21
 have rG19 := z20.trans rG20
 have rG18 := z19.trans rG19
 have rG17 := z18.trans rG18
 have rG16 := z17.trans rG17
 have rG15 := z16.trans rG16
 have rG14 := z15.trans rG15
 have rG13 := z14.trans rG14
 have rG12 := z13.trans rG13
 have rG11 := z12.trans rG12
 have rG10 := z11.trans rG11
 have rG9 := z10.trans rG10
 have rG8 := z9.trans rG9
 have rG7 := z8.trans rG8
 have rG6 := z7.trans rG7
 have rG5 := z6.trans rG6
 have rG4 := z5.trans rG5
 have rG3 := z4.trans rG4
 have rG2 := z3.trans rG3
 have rG1 := z2.trans rG2
 have rGa := z1.trans rG1
 have rG0 := za.trans rGa
 have hpE := hp8.sb rG0
 obtain ⟨px, py, hpe, _⟩ := hpE
 have hpE := hp8.sb rG0
 have mv : ∀ {G : Hp} {x : Addr} {xs : List V}, SB [] G G34 -> SqT K G x xs -> SqT K (del p G34) x xs := fun s h => sqT_del (s.sqT h) hpe
 have B0p : B0 ≠ p := fun z => (hp8.sb lG29).ne nB0 z.symm
 have hB0E : del p G34 B0 = some (.lst []) := del_of (rG30.keep _ _ hB0 nmn) B0p
 have dfin : SB [p] H G34 := f0.trans rG0.nil
 refine ⟨_, rfl, q M3 _ G34 dfin hpE ?_ hM3 (by rw [List.length_append, List.length_append, List.length_append]; show ys.length + 6 + 5 + 5 <= 200; omega) fun u hu => ?_⟩
 ·exact f0.dom _ (lG33.dom _ nM3)
 ·rcases List.mem_append.mp hu with hu | hu
  ·rcases List.mem_append.mp hu with hu | hu
   ·rcases List.mem_append.mp hu with hu | hu
    ·obtain ⟨j, hj⟩ := List.getElem?_of_mem hu
     obtain ⟨q0, eq0, hq0⟩ := (hysG.sb rG0 pl_noList).get hj
     obtain ⟨aq, rfl, haq⟩ := PL_ints hq0
     have := psd q0 (List.mem_of_getElem? eq0)
     exact pla_pl (sqT_del haq hpe) (by omega)
    ·simp only [List.mem_cons, nmn, or_false] at hu
     rcases hu with rfl | rfl | rfl | rfl | rfl | rfl
     ·exact FT.isl (is := as) (mv rGa hah) (by omega)
     ·exact pla_ints (is := is) (mv rG2 hO1) (.int _) rfl (by decide) (by omega)
     ·exact pla_ints (is := is) (mv rG4 hO2) (.int _) rfl (by decide) (by omega)
     ·exact pla_ints (is := as) (mv rG6 hO3) (.int _) rfl (by decide) (by omega)
     ·exact pla_head (is := bs) (mv rG9 hO4) (.int _) rfl (by decide) (by omega)
     ·exact FT.isl (is := []) (mv rG10 hE1) (by decide)
   ·simp only [List.mem_cons, nmn, or_false] at hu
    rcases hu with rfl | rfl | rfl | rfl | rfl
    ·exact pla_ints (is := as) (mv rG14 hO5) (.int _) rfl (by decide) (by omega)
    ·exact pla_ints (is := as) (mv rG16 hO6) (.int _) rfl (by simp [PyData.depth]) (by omega)
    ·exact pla_head (is := is) (mv rG18 hO7) (.bl _) rfl (by decide) (by omega)
    ·exact pla_ints (is := as) (mv rG20 hO8) (.bl _) rfl (by decide) (by omega)
    ·exact pla_ints (is := []) (mv rG21 hT9) (.str _) (by decide +kernel) (by decide) (by decide)
  ·simp only [List.mem_cons, nmn, or_false] at hu
   rcases hu with rfl | rfl | rfl | rfl | rfl
   ·exact pla_ints (is := []) (mv rG24 hT10) .non rfl (by decide) (by decide)
   ·exact pla_ints (is := []) (mv rG26 hT12) (.tup (mv rG25 hT11) (.cons (.int 0) .nil)) (by decide +kernel) (by decide +kernel) (by decide)
   ·exact pla_ints (is := as) (mv rG28 hO9) (.str _) (by decide +kernel) (by decide) (by omega)
   ·exact pla_ints (is := []) (mv rG29 hT14) (.int _) rfl (by simp [PyData.depth]) (by decide)
   ·exact pla_ints (is := as) (mv rG32 hO10) (.lst (SqL.of hB0E) .nil) (by decide +kernel) (by decide +kernel) (by omega)
abbrev N__law_due : List Str := ["_law_kinds_here", "_law_grove", "_law_place", "_law_rule", "_law_said", "_law_least_here", "_law_some", "_law_kind_here", "_law_here", "_law_name"]
theorem sc__law_due : FnScope N__law_due ["_law_kinds_here", "_law_grove", "_law_place", "_law_rule", "_law_said"] (defScope s__law_due) := ⟨rfl, rfl, rfl, by decide +kernel, rfl, by decide +kernel, by decide +kernel⟩
theorem ok__law_due (B : BI mg) (G__law_least : Got P w K mg base "_law_least" ["_law_grove", "_law_names_here"] (70) (spLeast K 70)) (G__law_bare : Got P w K mg base "_law_bare" ["_law_grove", "_law_ahead"] (70) (spBareF K 70)) (G__law_same : Got P w K mg base "_law_same" ["_law_here", "_law_place"] (1) (spSame34 K)) (G__law_whole : Got P w K mg base "_law_whole" ["_law_thing"] (1) (spWholeP K)) (G__law_kind : Got P w K mg base "_law_kind" ["_law_kinds_here", "_law_name"] (1) (spKindP K)) (F : Fun K "_law_due" "_law_due" s__law_due f fd) : FnOk P w K mg base CX0 (90) f fd ["_law_kinds_here", "_law_grove", "_law_place", "_law_rule", "_law_said"] (spDue34 K) := by
 refine F.ok sc__law_due (fun vs H Q E h => ?_) (fun cdv A outer s H vs Q E hr h => ?_)
 ·obtain ⟨l, xs, w, x, y, a, b, g, ds, ro, so, o, rfl, _⟩ := h
  rfl
 obtain ⟨l, xs, w, x, y, a, b, g, ds, ro, so, o, rfl, ⟨hl, hka⟩, hR, hd, q⟩ := h
 have hun2 := hunT hr
 refine ⟨_, pss_cons (ps_set (i := 5) sc__law_due.nd rfl (.inl rfl) (pe_got G__law_least (hr.mono (by omega)) rfl (pa_cons (pv 1) (pa_cons (pe_lc (own := [("_law_kind_here", 7)]) (g := (gName 7)) (tt := tYes) (te := (tOp (rIxT K) (tVar 7) (tC (.int 0)))) rfl sc__law_due.nd (pi_list (pv 0)) (blkOk_by (N := N__law_due) (sc := defScope s__law_due) (by decide +kernel)) (fun _ _ _ _ _ => (pg_name (i := 7) sc__law_due.nd rfl (.inl rfl))) (fun _ _ _ _ _ => pts_nil) (fun _ _ _ _ _ => (pe_ix ix_tup (pv 7) pe_int (fun _ _ => rfl)))) pa_nil))))
  (pss_cons (ps_if (pt_cmpR (op_neW (by show A.units + 3 + 195 < cLine; omega)) (pv 5) (pe_lst pa_nil) (nomark _)) (pss_one (ps_ret (pe_tup (pa_cons pe_str (pa_cons (pe_ix ix_list (pv 5) pe_int (fun _ _ => rfl)) pa_nil))))) pss_nil)
  (pss_cons (ps_setLc (i := 6) (own := [("_law_here", 8), ("_law_name", 9)]) (g := (gTup K 2 (gCons (gName 8) (gCons (gName 9) gNil)))) (tt := (tB (tCall (spSame34 K) [] E0 (tCons (tVar 8) (tCons (tVar 2) tNil))))) (te := (tVar 9)) rfl sc__law_due.nd rfl rfl (sw_true rfl rfl rfl (by decide +kernel)) (pi_list (pe_got G__law_bare (hr.mono (by omega)) rfl (pa_cons (pv 1) (pa_cons (pe_tup pa_nil) pa_nil)))) (blkOk_by (N := N__law_due) (sc := defScope s__law_due) (by decide +kernel)) (fun _ _ _ _ _ => (pg_tup rfl (pgs_cons (pg_name (i := 8) sc__law_due.nd rfl (.inl rfl)) (pgs_cons (pg_name (i := 9) sc__law_due.nd rfl (.inl rfl)) pgs_nil)))) (fun _ _ _ _ _ => (pts_one (pt_val (pe_got G__law_same (hr.mono (by omega)) rfl (pa_cons (pv 8) (pa_cons (pv 2) pa_nil)))))) (fun _ _ _ _ _ => (pv 9)))
  (pss_cons (ps_if (pt_cmpR (op_eqW (by show A.units + 3 + 195 < cLine; omega)) (pv 6) (pe_lst pa_nil) (nomark _)) (pss_one (ps_ret (pe_tup (pa_cons pe_str pa_nil)))) pss_nil)
  (pss_cons (ps_if (PW.pt (pw_or (pt_not (pt_val (pe_got G__law_whole (hr.mono (by omega)) rfl (pa_cons (pv 3) pa_nil)))) (pw_or1 (pt_cmpR op_gt (pv 3) (pe_callB call_len_seq rfl B.len PySem.boot_len (pa_cons (pe_ix ix_tup (pe_got G__law_kind (hr.mono (by omega)) rfl (pa_cons (pv 0) (pa_cons (pe_ix ix_list (pv 6) pe_int (fun _ _ => rfl)) pa_nil))) pe_int (fun _ _ => rfl)) pa_nil)) (nomark _))))) (pss_one (ps_ret (pe_tup (pa_cons pe_str pa_nil)))) pss_nil)
  (pss_cons (ps_if (pt_not (pt_val (pe_got G__law_whole (hr.mono (by omega)) rfl (pa_cons (pv 4) pa_nil)))) (pss_one (ps_ret (pe_tup (pa_cons pe_str pa_nil)))) pss_nil)
  (pss_one (ps_ret pe_non))))))), ?_⟩
 have szl := sizeLine_eq
 have ok := hR.ok
 have b8 := ok.len
 have b1 := ok.pos
 have hw := hR.gr
 have go := hR.gok
 have gd := hR.deep
 have gp := hR.parts
 obtain ⟨ps, ha, hda⟩ := hR.pl
 have xl := hka.length
 have nml : b.names.length = b.length := List.length_map ..
 have nok : ∀ m ∈ b.names, NameOk m := fun m hm => by
  obtain ⟨kd, hk, rfl⟩ := List.mem_map.mp hm
  exact (ok.kd kd hk).1
 refine ⟨_, rfl, _, rfl, l, rfl, ⟨_, SqL.of hl⟩, fun C nC => ?_⟩
 refine lc_seqQ (walk_list (xs := xs)) [] nC (by simp) (by omega) (fun i us _ => us = (b.names.take i).map V.str) rfl (fun H3 s3 => s3.sqL nmn (SqL.of hl)) (fun _ _ _ _ _ h => h) (fun Pv i x Hq H3 us hi s3 y hR' hu' hE3 fin skip => ?_) (fun us H2 s2 hC2 hR' hul => ?_)
 ·obtain ⟨rfl, ex⟩ := y
  obtain ⟨kd, ekd, kt, kl, kzs, rfl, hkt, _⟩ := hka.get ex
  refine ⟨rfl, _, rfl, kt, _, _, _, rfl, rfl, s3.sqT hkt, atI_nat (j := 0) rfl, fin _ _ SB.refl ?_⟩
  rw [hR', List.take_add_one, List.map_append, show b.names[i]? = some kd.n by rw [List.getElem?_map, ekd]; rfl]
  rfl
 subst hR'
 rw [xl, <- nml, List.take_length] at hC2
 refine ⟨w, C, g, b.names, rfl, hw.sb s2, hC2, nok, ⟨_, go⟩, by omega, by omega, by omega, fun L1 ls H3 s3 nL1 hL1 hle => ?_⟩
 have s03 := s2.trans s3
 refine nameI ?_
 refine ⟨_, rfl, by show 0 <= sizeLine; decide, fun E0 nE0 => ?_⟩
 have t4 := SB.new (ps := []) nE0 (.lst [])
 have hE0 : upd H3 E0 (.lst []) E0 = some (.lst []) := upd_same
 have hL4 := t4.keep _ _ hL1 nmn
 have s04 := s03.trans t4
 generalize upd H3 E0 (.lst []) = H4 at t4 hE0 hL4 s04
 have lsok : ∀ m ∈ ls, NameOk m := fun m hm => by
  rcases hle with ⟨rfl, _⟩ | ⟨n, rfl, lo⟩
  ·cases hm
  ·rw [List.mem_singleton.mp hm]
   obtain ⟨z, hz, e⟩ := List.mem_map.mp lo.mem
   rw [<- e]; exact (Ok_within go z hz).1
 have wnil : Wd (.list []) := ⟨by decide +kernel, by decide +kernel⟩
 refine ⟨_, _, .lst (SqL.of hL4) (Dp_strs ls), .lst (SqL.of hE0) .nil, Wd.of (names_shaped lsok), wnil, _, rfl, ?_⟩
 rw [eqv_nil]
 rcases hle with ⟨rfl, hno⟩ | ⟨n, rfl, lo⟩
 case inr =>
  rw [show (!decide (([n] : List Str) = [])) = true by simp]
  obtain rfl := hd.uniq (.kindG lo)
  refine iteT ⟨_, rfl, L1, _, _, _, rfl, rfl, SqL.of hL4, atI_nat (j := 0) rfl, by show 2 <= sizeLine; decide, fun T nT => ?_⟩
  exact q _ _ (s04.trans (SB.new nT _)) (.inr ⟨(fun z => nomatch z), T, rfl, SqT.of upd_same⟩)
 have gn : Gr.Named b.names g := fun z hz => Classical.byContradiction fun e => hno z hz e
 rw [show (!decide (([] : List Str) = [])) = false by simp]
 refine iteF (nextI ?_)
 -- the bare trees at the place
 refine ⟨_, rfl, by show 0 <= sizeLine; decide, fun E1 nE1 => ?_⟩
 have t5 := SB.new (ps := []) nE1 (.tup [])
 have hE1 : SqT K (upd H4 E1 (.tup [])) E1 [] := SqT.of upd_same
 have s05 := s04.trans t5
 generalize upd H4 E1 (.tup []) = H5 at t5 hE1 s05
 refine ⟨w, .ref E1, g, [], rfl, hw.sb s05, PL_of (p := []) hE1, by omega, by show g.deep + 0 <= 63; omega, by omega, ⟨_, go⟩, fun L us H6 s6 nL hL hb6 => ⟨L, rfl, ⟨_, SqL.of hL⟩, fun D nD => ?_⟩⟩
 have s06 := s05.trans s6
 have bkl := g.bk_len 0
 have usl := hb6.length
 rw [List.length_map] at usl
 refine lc_seqQ (walk_list (xs := us)) [] nD (by simp) (by omega) (fun i ws G => ∃ ns : List Str, ws = ns.map V.str /\ ns.length <= i /\ (∀ k ∈ ns, NameOk k) /\ (∀ k ∈ ns, ∃ pl, ds = plInts pl /\ (pl, k) ∈ g.bk 0) /\ (∀ z ∈ (g.bk 0).take i, ds = plInts z.1 -> ns ≠ [])) ⟨[], rfl, by simp, by simp, by simp, by simp⟩ (fun G s => s.sqL nmn (SqL.of hL)) (fun i ws G G' s h => h) (fun Pv i x Hq G ws hi s7 y hR' hu' hD7 fin skip => ?_) (fun ws H7 s7 hD7 hR' hul => ?_)
 ·obtain ⟨rfl, ey⟩ := y
  obtain ⟨z, ez, hz⟩ := hb6.get ey
  rw [List.getElem?_map] at ez
  obtain ⟨y0, ey0, rfl⟩ := Option.map_eq_some_iff.mp ez
  have y0m := List.mem_of_getElem? ey0
  obtain ⟨ns, rfl, nsl, nso, n1, n2⟩ := hR'
  have s07 := s06.trans s7
  cases (Dp_sb s7 _ _ (bkE_noList _) hz : Dp K G x (.tuple [plEnc ([] ++ y0.1), .str y0.2])) with
  | @tup td us' _ hs' hda' =>
  cases hda' with
  | cons g1 hda' =>
  cases hda' with
  | cons g2 hda' =>
  cases hda'
  cases g2
  rw [List.nil_append] at g1
  have kok : NameOk y0.2 := by
   have h1 : y0.2 ∈ (g.ak 0).map (·.2) := List.mem_map.mpr ⟨y0, Gr.bk_ak g 0 y0 y0m, rfl⟩
   rw [Gr.ak_kinds] at h1
   obtain ⟨p, hp, e⟩ := List.mem_map.mp h1
   rw [<- e]; exact (Ok_within go p hp).1
  have etk : (g.bk 0).take (i + 1) = (g.bk 0).take i ++ [y0] := by rw [List.take_add_one, ey0]; rfl
  refine ⟨td, _, rfl, hs', rfl, _, _, rfl, _, _, rfl, rfl, rfl, ?_⟩
  refine ⟨_, rfl, _, rfl, _, .ref a, y0.1, ds, rfl, g1, .tup (s07.sqT ha) (DpAll_s0 s07 _ _ hda), hR.sh, hR.pll, fun bb H8 s8 hbb => ⟨bb, rfl, ?_⟩⟩
  cases bb with
  | true =>
   refine iteT ⟨_, rfl, fin _ _ s8 ⟨ns ++ [y0.2], by rw [List.map_append]; rfl, by rw [List.length_append, List.length_singleton]; omega, fun k hk => ?_, fun k hk => ?_, fun z _ _ => by simp⟩⟩
   ·rcases List.mem_append.mp hk with h | h
    ·exact nso k h
    ·rw [List.mem_singleton.mp h]; exact kok
   ·rcases List.mem_append.mp hk with h | h
    ·exact n1 k h
    ·rw [List.mem_singleton.mp h]; exact ⟨y0.1, hbb.mp rfl, y0m⟩
  | false =>
   refine iteF (skip _ s8 ⟨ns, rfl, by omega, nso, n1, fun z hz e => ?_⟩)
   rw [etk] at hz
   rcases List.mem_append.mp hz with h | h
   ·exact n2 z h e
   ·rw [List.mem_singleton.mp h] at e
    have := hbb.mpr e
    cases this
 obtain ⟨ns, rfl, nsl, nso, n1, n2⟩ := hR'
 rw [usl, List.take_length] at n2
 have s07 := s06.trans s7
 refine nameI ?_
 refine ⟨_, rfl, by show 0 <= sizeLine; decide, fun E2 nE2 => ?_⟩
 have t8 := SB.new (ps := []) nE2 (.lst [])
 have hE2 : upd H7 E2 (.lst []) E2 = some (.lst []) := upd_same
 have hD8 := t8.keep _ _ hD7 nmn
 have s08 := s07.trans t8
 generalize upd H7 E2 (.lst []) = H8 at t8 hE2 hD8 s08
 refine ⟨_, _, .lst (SqL.of hD8) (Dp_strs ns), .lst (SqL.of hE2) .nil, Wd.of (names_shaped nso), wnil, _, rfl, ?_⟩
 rw [eqv_nil]
 cases ns with
 | nil =>
  rw [decide_eq_true rfl]
  obtain rfl := hd.uniq (.place gn fun pl k e hb => n2 (pl, k) (Gr.bare_bk hb) (whD_pl e) rfl)
  refine iteT ?_
  refine ⟨by show 1 <= sizeLine; decide, fun T nT => ?_⟩
  exact q _ _ (s08.trans (SB.new nT _)) (.inr ⟨(fun z => nomatch z), T, rfl, SqT.of upd_same⟩)
 | cons k nr =>
 rw [decide_eq_false (by simp)]
 refine iteF (nextI ?_)
 obtain ⟨pl, epl, hbk⟩ := n1 k (mcs ..)
 have hbare := Gr.bk_bare (pl.length) (Nat.le_refl _) hbk
 have eo : ds.map whD = plO pl := by rw [epl]; exact plO_whD pl
 obtain ⟨kd, eg⟩ := Bk.get_of (Gr.bare_named gn hbare)
 obtain ⟨km, ekn⟩ := Bk.get_some eg
 -- the rule
 refine ⟨_, rfl, x, ro, rfl, hR.ru.sb s08, fun bb hbb => ?_⟩
 cases bb with
 | false =>
  obtain rfl := hd.uniq (.rule gn eo hbare eg fun i e => by have := hbb.mpr ⟨i, e⟩; cases this)
  refine ⟨_, rfl, iteT (iteT ?_)⟩
  refine ⟨by show 1 <= sizeLine; decide, fun T nT => ?_⟩
  exact q _ _ (s08.trans (SB.new nT _)) (.inr ⟨(fun z => nomatch z), T, rfl, SqT.of upd_same⟩)
 | true =>
 obtain ⟨i, er⟩ := hbb.mp rfl
 subst er
 have ex := hR.ru.int
 subst ex
 refine ⟨_, rfl, iteF ?_⟩
 refine ⟨_, rfl, _, rfl, _, rfl, D, _, _, .str k, rfl, rfl, SqL.of hD8, atI_nat (j := 0) rfl, l, xs, b, kd, by rw [ekn]; rfl, s08.keep _ _ hl nmn, hka.sb s08 NoLst.nil, km, ok.nd, ok.len, fun kv H9 s9 hkd => ?_⟩
 obtain ⟨kt, kl, kzs, rfl, hkt, hkl, hkb, _⟩ := hkd
 have s09 := s08.trans s9
 have kzl := hkb.length
 refine ⟨kt, _, _, _, rfl, rfl, hkt, atI_nat (j := 2) rfl, kl, _, rfl, .inl (SqL.of hkl), _, _, rfl, rfl, _, rfl, ?_⟩
 rw [kzl]
 by_cases hri : kd.rs.length < i
 ·rw [show decide (((kd.rs.length : Nat) : Int) < (i : Int)) = true from decide_eq_true (by omega)]
  obtain rfl := hd.uniq (.rule gn eo hbare eg fun j e => by
   have : (i : Int) = (j : Int) := Option.some.inj e
   exact List.getElem?_eq_none (by rw [List.length_cons]; omega))
  refine iteT ?_
  refine ⟨by show 1 <= sizeLine; decide, fun T nT => ?_⟩
  exact q _ _ (s09.trans (SB.new nT _)) (.inr ⟨(fun z => nomatch z), T, rfl, SqT.of upd_same⟩)
 rw [show decide (((kd.rs.length : Nat) : Int) < (i : Int)) = false from decide_eq_false (by omega)]
 refine iteF (nextI ?_)
 obtain ⟨r, hr⟩ : ∃ r, (noR :: kd.rs)[i]? = some r := ⟨_, List.getElem?_eq_getElem (by rw [List.length_cons]; omega)⟩
 -- what is said
 refine ⟨_, rfl, y, so, rfl, hR.sa.sb s09, fun bb hbb => ?_⟩
 cases bb with
 | false =>
  obtain rfl := hd.uniq (.said gn eo hbare eg rfl hr fun e => by have := hbb.mpr e; cases this)
  refine ⟨_, rfl, iteT ?_⟩
  refine ⟨by show 1 <= sizeLine; decide, fun T nT => ?_⟩
  exact q _ _ (s09.trans (SB.new nT _)) (.inr ⟨(fun z => nomatch z), T, rfl, SqT.of upd_same⟩)
 | true =>
 obtain ⟨n, es⟩ := hbb.mp rfl
 obtain rfl := hd.uniq (.done gn eo hbare eg rfl hr es)
 refine ⟨_, rfl, iteF (nextI ?_)⟩
 exact q _ _ s09 (.inl ⟨rfl, rfl⟩)
abbrev N__law_holds : List Str := ["_law_kinds_here", "_law_book_here", "_law_grove", "_law_place", "_law_rule", "_law_said", "_law_due_here", "_law_told", "_law_play"]
theorem sc__law_holds : FnScope N__law_holds ["_law_kinds_here", "_law_book_here", "_law_grove", "_law_place", "_law_rule", "_law_said"] (defScope s__law_holds) := ⟨rfl, rfl, rfl, by decide +kernel, rfl, by decide +kernel, by decide +kernel⟩
theorem ok__law_holds {C_Book C_Play C_NoKind : Addr} (B : BI mg) (G__law_due : Got P w K mg base "_law_due" ["_law_kinds_here", "_law_grove", "_law_place", "_law_rule", "_law_said"] (90) (spDue34 K)) (G__law_done : Got P w K mg base "_law_done" ["_law_book_here", "_law_grove", "_law_place", "_law_rule", "_law_said"] (80) (spDone34 K C_Book)) (G_Play___init__ : GotIN P w K mg base "Play" C_Play ["self", "book", "grove"] (75) (spPyInitX K C_Play C_Book C_NoKind)) (G__law_played : Got P w K mg base "_law_played" ["_law_play", "_law_place", "_law_rule", "_law_said"] (80) (spPlayed34 K C_Play C_Book)) (G_Play_grove : GotM P w K mg base C_Play "grove" ["self"] (1) (spPyGrove K C_Play)) (G_Play_falls : GotM P w K mg base C_Play "falls" ["self"] (1) (spPyFalls K C_Play)) (F : Fun K "_law_holds" "_law_holds" s__law_holds f fd) : FnOk P w K mg base CX0 (100) f fd ["_law_kinds_here", "_law_book_here", "_law_grove", "_law_place", "_law_rule", "_law_said"] (spHolds34 K C_Play C_Book) := by
 refine F.ok sc__law_holds (fun vs H Q E h => ?_) (fun cdv A outer s H vs Q E hr h => ?_)
 ·obtain ⟨l, xs, v, w, x, y, a, b, g, ds, ro, so, rfl, _⟩ := h
  rfl
 obtain ⟨l, xs, v, w, x, y, a, b, g, ds, ro, so, rfl, ⟨hl, hka⟩, hv, hR, q⟩ := h
 have hun2 := hunT hr
 refine ⟨_, pss_cons (ps_set (i := 6) sc__law_holds.nd rfl (.inl rfl) (pe_got G__law_due (hr.mono (by omega)) rfl (pa_cons (pv 0) (pa_cons (pv 2) (pa_cons (pv 3) (pa_cons (pv 4) (pa_cons (pv 5) pa_nil)))))))
  (pss_cons (ps_set (i := 7) sc__law_holds.nd rfl (.inl rfl) (pe_got G__law_done (hr.mono (by omega)) rfl (pa_cons (pv 1) (pa_cons (pv 2) (pa_cons (pv 3) (pa_cons (pv 4) (pa_cons (pv 5) pa_nil)))))))
  (pss_cons (ps_if (pt_cmpR op_isN (pv 6) pe_non (nomark _)) (pss_one (ps_ret (pe_cmpR op_eq (pe_ix ix_tup (pv 7) pe_int (fun _ _ => rfl)) pe_str (nomark _)))) pss_nil)
  (pss_cons (ps_if (pt_cmpR (op_neW (by show A.units + 3 + 195 < cLine; omega)) (pv 7) (pv 6) (nomark _)) (pss_one (ps_ret pe_bl)) pss_nil)
  (pss_cons (ps_if (pt_cmpR op_eq (pe_ix ix_tup (pv 6) pe_int (fun _ _ => rfl)) pe_str (nomark _)) (pss_one (ps_ret pe_bl)) pss_nil)
  (pss_cons (ps_set (i := 8) sc__law_holds.nd rfl (.inl rfl) (pe_gotIN G_Play___init__ (hr.mono (by omega)) rfl (pa_cons (pv 1) (pa_cons (pv 2) pa_nil))))
  (pss_cons (ps_if (pt_cmpR (op_neW (by show A.units + 3 + 195 < cLine; omega)) (pe_got G__law_played (hr.mono (by omega)) rfl (pa_cons (pv 8) (pa_cons (pv 3) (pa_cons (pv 4) (pa_cons (pv 5) pa_nil))))) (pv 6) (nomark _)) (pss_one (ps_ret pe_bl)) pss_nil)
  (pss_one (ps_ret (pe_and (pe_cmpR (op_eqW (by show A.units + 3 + 195 < cLine; omega)) (pe_gotM0 G_Play_grove (hr.mono (by omega)) (pv 8)) (pv 2) (nomark _)) (pe_one (pe_cmpR (op_eqW (by show A.units + 3 + 195 < cLine; omega)) (pe_gotM0 G_Play_falls (hr.mono (by omega)) (pv 8)) (pe_lst pa_nil) (nomark _)))))))))))), ?_⟩
 have szl := sizeLine_eq
 have ok := hR.ok
 have b8 := ok.len
 have go := hR.gok
 have gd := hR.deep
 have gp := hR.parts
 obtain ⟨ns, gnn, nsl⟩ := hR.nm
 obtain ⟨o, hd⟩ := due34 b g (ds.map whD) ro so (least_or b g)
 refine ⟨_, rfl, _, rfl, _, rfl, _, rfl, _, rfl, l, xs, w, x, y, a, b, g, ds, ro, so, o, rfl, ⟨hl, hka⟩, hR, hd, fun u H1 s1 hu => ?_⟩
 refine nameI ?_
 refine ⟨_, rfl, _, rfl, _, rfl, _, rfl, _, rfl, v, w, x, y, a, b, g, ds, ro, so, o, rfl, hv.sb0 s1, hR.sb s1, hd, fun T H2 s2 hT => ?_⟩
 refine nameI ?_
 have s02 := s1.trans s2
 have w2 : Wd (.tuple o.ds) := hd.wd go
 rcases hu with ⟨rfl, rfl⟩ | ⟨hne, U, rfl, hU⟩
 ·refine ⟨_, rfl, rfl, _, rfl, iteT ?_⟩
  obtain ⟨t0, xx, hT0, _, _⟩ := hT
  refine ⟨_, rfl, T, _, _, _, rfl, rfl, hT0, atI_nat (j := 0) rfl, rfl, ?_⟩
  exact q _ s02
 refine ⟨_, rfl, rfl, _, rfl, iteF (nextI ?_)⟩
 have hT1 := hT.vs hne
 have hU2 := s2.sqT hU
 refine ⟨_, rfl, _, rfl, _, _, Ro.vs_dp hT1, Ro.vs_dp hU2, w2, w2, _, rfl, ?_⟩
 rw [Ro.eqv]
 refine iteF (nextI ?_)
 have hnm : (∃ n, o = .kind n) \/ (Gr.Named b.names g /\ ∃ s : Str, o.vs[0]? = some (.str s) /\ V.str s ≠ V.str "kind") := by
  cases hd with
  | kindG _ => exact .inl ⟨_, rfl⟩
  | place n _ => exact .inr ⟨n, _, rfl, by decide +kernel⟩
  | rule n _ _ _ _ => exact .inr ⟨n, _, rfl, by decide +kernel⟩
  | said n _ _ _ _ _ _ => exact .inr ⟨n, _, rfl, by decide +kernel⟩
  | done n _ _ _ _ _ _ => exact absurd rfl hne
 rcases hnm with ⟨n, rfl⟩ | ⟨hn, s, e0, es⟩
 ·refine ⟨_, rfl, U, _, _, _, rfl, rfl, hU2, atI_nat (j := 0) rfl, rfl, _, rfl, iteT ?_⟩
  exact q _ s02
 refine ⟨_, rfl, U, _, _, .str s, rfl, rfl, hU2, atI_nat (j := 0) e0, rfl, _, rfl, ?_⟩
 rw [decide_eq_false es]
 refine iteF (nextI ?_)
 -- a play
 have hw2 := hR.gr.sb s02
 have hv2 := hv.sb0 s02
 refine ⟨_, rfl, _, rfl, fun z dx nz ndx ne => ?_⟩
 have t3 := SB.new (ps := []) ndx (.own z)
 have nz1 : upd H2 dx (.own z) z = none := by rw [upd_ne ne.symm]; exact nz
 have t4 := SB.new (ps := []) nz1 (.ins C_Play dx [])
 have s24 := t3.trans t4
 refine ⟨z, dx, v, w, b, g, ns, rfl, upd_same, hv2.sb0 s24, by omega, hw2.sb s24, by omega, by omega, gnn, nsl, fun n lo => (lo.not hn).elim, fun _ ls ld lu G1 u1 _ _ _ ply => ⟨rfl, ?_⟩⟩
 have s2G : SB [] H2 G1 := ((s24.nil (ps := [z])).trans u1).drop nz
 have s0G := s02.trans s2G
 refine nameI ?_
 refine ⟨_, rfl, _, rfl, _, rfl, _, rfl, z, a, ls, ld, lu, v, w, x, y, b, g, ds, ro, so, o, rfl, ply, hv.sb0 s0G, hR.sb s0G, hn, hd, hne, fun T2 G2 u2 hT2 => ?_⟩
 have s0G2 := s0G.trans u2
 refine ⟨_, rfl, _, _, Ro.vs_dp hT2, Ro.vs_dp (u2.sqT (s2G.sqT hU2)), w2, w2, _, rfl, ?_⟩
 rw [Ro.eqv]
 refine iteF (nextI ?_)
 have ply2 := ply.sb0 u2
 obtain ⟨dz, hi2⟩ := ply2.ins
 have wg : Wd g.enc := Gr.wd go (by omega)
 refine ⟨_, rfl, z, dz, _, rfl, hi2, rfl, ?_⟩
 refine nilI ?_
 refine ⟨z, ls, ld, lu, v, [], g, [], [], rfl, ply2, fun u3 hu3 => ?_⟩
 refine ⟨_, rfl, _, _, hu3, hR.gr.sb s0G2, wg, wg, ?_⟩
 rw [Gr.eqv_enc, decide_eq_true rfl]
 refine ⟨_, rfl, iteT ?_⟩
 refine ⟨_, rfl, z, dz, _, rfl, hi2, rfl, ?_⟩
 refine nilI ?_
 refine ⟨z, ls, ld, lu, v, [g], [], [], rfl, ply2, fun l3 ws G3 u3 nl3 hl3 hb3 => ?_⟩
 cases hb3
 refine ⟨by show 0 <= sizeLine; decide, fun E4 nE4 => ?_⟩
 have t5 := SB.new (ps := []) nE4 (.lst [])
 have wnil : Wd (.list []) := ⟨by decide +kernel, by decide +kernel⟩
 refine ⟨.list [], .list [], .lst (t5.sqL nmn (SqL.of hl3)) .nil, .lst (SqL.of upd_same) .nil, wnil, wnil, ?_⟩
 rw [show PyData.eqv (.list []) (.list []) = true by simp [PyData.eqv, PyData.eqvAll]]
 exact q _ ((s0G2.trans u3).trans t5)
abbrev N_law : List Str := ["_law_script", "_law_words", "_law_many_here", "_law_kinds_here", "_law_purse_here", "_law_room", "_law_grove", "_law_strange_here", "_law_odd", "_law_book_here", "_law_rules", "_law_some", "_law_here", "_law_least_here", "_law_place", "_law_rule", "_law_said", "_law_name"]
theorem sc_law : FnScope N_law ["_law_script"] (defScope s_law) := ⟨rfl, rfl, rfl, by decide +kernel, rfl, by decide +kernel, by decide +kernel⟩
theorem ok_law {C_Book C_Play : Addr} (B : BI mg) (G__law_names : Got P w K mg base "_law_names" ["_law_purse_here", "_law_many_here"] (2) (spWords K)) (G__law_purse : Got P w K mg base "_law_purse" ["_law_script", "_law_k"] (1) (spPurseW K)) (G__law_take : Got P w K mg base "_law_take" ["_law_purse_here", "_law_many_here"] (1) (spTakeW)) (G__law_kinds : Got P w K mg base "_law_kinds" ["_law_script", "_law_names_here"] (16) (spKindsP K)) (G__law_wood : Got P w K mg base "_law_wood" ["_law_purse_here", "_law_pool", "_law_room", "_law_low", "_law_most"] (15) (spWood K 13)) (G__law_strange : Got P w K mg base "_law_strange" ["_law_grove", "_law_strange_here", "_law_way"] (1) (spStrange34 K)) (G__law_book : Got P w K mg base "_law_book" ["_law_kinds_here"] (90) (spMkBook K C_Book)) (G__law_least : Got P w K mg base "_law_least" ["_law_grove", "_law_names_here"] (70) (spLeast K 70)) (G__law_looked : Got P w K mg base "_law_looked" ["_law_book_here", "_law_grove"] (80) (spLooked34 K C_Book)) (G__law_places : Got P w K mg base "_law_places" ["_law_purse_here", "_law_grove"] (72) (spPlaces34 K)) (G__law_holds : Got P w K mg base "_law_holds" ["_law_kinds_here", "_law_book_here", "_law_grove", "_law_place", "_law_rule", "_law_said"] (100) (spHolds34 K C_Play C_Book)) (F : Fun K "law" "law" s_law f fd) : FnOk P w K mg base CX0 (215) f fd ["_law_script"] (spLaw K) := by
 refine F.ok sc_law (fun vs H Q E h => ?_) (fun cdv A outer s H vs Q E hr h => ?_)
 ·obtain ⟨a, ns, rfl, _⟩ := h
  rfl
 obtain ⟨a, ns, rfl, hs, nl, q⟩ := h
 have hun2 := hunT hr
 refine ⟨_, pss_cons (ps_set (i := 1) sc_law.nd rfl (.inl rfl) (pe_got G__law_names (hr.mono (by omega)) rfl (pa_cons (pe_got G__law_purse (hr.mono (by omega)) rfl (pa_cons (pv 0) (pa_cons pe_int pa_nil))) (pa_cons pe_int pa_nil))))
  (pss_cons (ps_set (i := 2) sc_law.nd rfl (.inl rfl) (pe_op op_add pe_int (pe_got G__law_take (hr.mono (by omega)) rfl (pa_cons (pe_got G__law_purse (hr.mono (by omega)) rfl (pa_cons (pv 0) (pa_cons pe_int pa_nil))) (pa_cons pe_int pa_nil)))))
  (pss_cons (ps_set (i := 3) sc_law.nd rfl (.inl rfl) (pe_got G__law_kinds (hr.mono (by omega)) rfl (pa_cons (pv 0) (pa_cons (pe_slice sl_list (pv 1) po_none (po_some (pv 2))) pa_nil))))
  (pss_cons (ps_set (i := 4) sc_law.nd rfl (.inl rfl) (pe_got G__law_purse (hr.mono (by omega)) rfl (pa_cons (pv 0) (pa_cons pe_int pa_nil))))
  (pss_cons (ps_set (i := 5) sc_law.nd rfl (.inl rfl) (pe_lst (pa_cons (pe_op op_add pe_int (pe_got G__law_take (hr.mono (by omega)) rfl (pa_cons (pv 4) (pa_cons pe_int pa_nil)))) (pa_cons (pe_op op_add pe_int (pe_got G__law_take (hr.mono (by omega)) rfl (pa_cons (pv 4) (pa_cons pe_int pa_nil)))) pa_nil))))
  (pss_cons (ps_set (i := 6) sc_law.nd rfl (.inl rfl) (pe_got G__law_wood (hr.mono (by omega)) rfl (pa_cons (pv 4) (pa_cons (pe_slice sl_list (pv 1) po_none (po_some (pv 2))) (pa_cons (pv 5) (pa_cons (pe_op op_add pe_int (pe_got G__law_take (hr.mono (by omega)) rfl (pa_cons (pv 4) (pa_cons pe_int pa_nil)))) (pa_cons (pe_op op_pow pe_int pe_int) pa_nil)))))))
  (pss_cons (ps_set (i := 4) sc_law.nd rfl (.inl rfl) (pe_got G__law_purse (hr.mono (by omega)) rfl (pa_cons (pv 0) (pa_cons pe_int pa_nil))))
  (pss_cons (ps_set (i := 7) sc_law.nd rfl (.inl rfl) (pe_got G__law_wood (hr.mono (by omega)) rfl (pa_cons (pv 4) (pa_cons (pe_slice sl_list (pv 1) (po_some pe_int) po_none) (pa_cons (pe_lst (pa_cons pe_int (pa_cons pe_int pa_nil))) (pa_cons pe_int (pa_cons pe_int pa_nil)))))))
  (pss_cons (ps_set (i := 8) sc_law.nd rfl (.inl rfl) (pe_got G__law_strange (hr.mono (by omega)) rfl (pa_cons (pv 6) (pa_cons (pv 7) (pa_cons (pe_got G__law_take (hr.mono (by omega)) rfl (pa_cons (pv 4) (pa_cons pe_int pa_nil))) pa_nil)))))
  (pss_cons (ps_set (i := 9) sc_law.nd rfl (.inl rfl) (pe_got G__law_book (hr.mono (by omega)) rfl (pa_cons (pv 3) pa_nil)))
  (pss_cons (ps_set (i := 10) sc_law.nd rfl (.inl rfl) (pe_lst (pa_cons pe_int (pa_cons (pe_op op_add pe_int (pe_got G__law_take (hr.mono (by omega)) rfl (pa_cons (pv 4) (pa_cons pe_int pa_nil)))) (pa_cons pe_int (pa_cons (pe_un un_neg pe_int) (pa_cons (pe_op op_pow pe_int pe_int) (pa_cons pe_bl (pa_cons pe_bl (pa_cons pe_non (pa_cons pe_str (pa_cons (pe_lst (pa_cons pe_int pa_nil)) (pa_cons (pe_tup (pa_cons pe_int pa_nil)) pa_nil)))))))))))))
  (pss_cons (ps_set (i := 11) sc_law.nd rfl (.inl rfl) (pe_lst (pa_cons (pe_got G__law_take (hr.mono (by omega)) rfl (pa_cons (pv 4) (pa_cons (pe_op op_pow pe_int pe_int) pa_nil))) (pa_cons (pe_un un_neg pe_int) (pa_cons pe_int (pa_cons pe_bl (pa_cons pe_non (pa_cons pe_str (pa_cons pe_bl (pa_cons (pe_lst pa_nil) (pa_cons (pe_un un_neg (pe_op op_pow pe_int pe_int)) pa_nil)))))))))))
  (pss_cons (ps_for PassesOwn.never rfl (pi_list (pe_lst (pa_cons (pv 6) (pa_cons (pv 8) pa_nil)))) (pg_name (i := 12) sc_law.nd rfl (.inl rfl))
   (pss_cons (ps_setLc (i := 13) (own := [("_law_name", 17)]) (g := (gName 17)) (tt := tYes) (te := (tTup (tCons (tC (.str "kind")) (tCons (tVar 17) tNil)))) rfl sc_law.nd rfl rfl (sw_true rfl rfl rfl (by decide +kernel)) (pi_list (pe_got G__law_least (hr.mono (by omega)) rfl (pa_cons (pv 12) (pa_cons (pe_slice sl_list (pv 1) po_none (po_some (pv 2))) pa_nil)))) (blkOk_by (N := N_law) (sc := defScope s_law) (by decide +kernel)) (fun _ _ _ _ _ => (pg_name (i := 17) sc_law.nd rfl (.inl rfl))) (fun _ _ _ _ _ => pts_nil) (fun _ _ _ _ _ => (pe_tup (pa_cons pe_str (pa_cons (pv 17) pa_nil)))))
  (pss_cons (ps_if (pt_cmpR (op_neW (by show A.units + 3 + 195 < cLine; omega)) (pe_got G__law_looked (hr.mono (by omega)) rfl (pa_cons (pv 9) (pa_cons (pv 12) pa_nil))) (pe_op op_cat (pv 13) (pv 13)) (nomark _)) (pss_one (ps_ret pe_bl)) pss_nil)
  (pss_one (ps_for PassesOwn.never rfl (pi_list (pe_got G__law_places (hr.mono (by omega)) rfl (pa_cons (pv 4) (pa_cons (pv 12) pa_nil)))) (pg_name (i := 14) sc_law.nd rfl (.inl rfl))
   (pss_cons (ps_set (i := 15) sc_law.nd rfl (.inl rfl) (pe_ix ix_list (pv 10) (pe_got G__law_take (hr.mono (by omega)) rfl (pa_cons (pv 4) (pa_cons pe_int pa_nil))) (fun _ _ => rfl)))
  (pss_cons (ps_set (i := 16) sc_law.nd rfl (.inl rfl) (pe_ix ix_list (pv 11) (pe_got G__law_take (hr.mono (by omega)) rfl (pa_cons (pv 4) (pa_cons pe_int pa_nil))) (fun _ _ => rfl)))
  (pss_one (ps_if (pt_not (pt_val (pe_got G__law_holds (hr.mono (by omega)) rfl (pa_cons (pv 3) (pa_cons (pv 9) (pa_cons (pv 12) (pa_cons (pv 14) (pa_cons (pv 15) (pa_cons (pv 16) pa_nil))))))))) (pss_one (ps_ret pe_bl)) pss_nil)))))))))
  (pss_one (ps_ret pe_bl)))))))))))))), ?_⟩
 have szl := sizeLine_eq
 refine ⟨_, rfl, a, ns, 0, rfl, hs, nl, by omega, fun p1 H1 s1 np1 hp1 => ?_⟩
 refine ⟨p1, 8, rfl, hp1, by decide, by decide, fun cl ks H2 s2 _ ncl hcl kl kn knd => ?_⟩
 have s02 : SB [] H H2 := ((s1.nil (ps := [p1])).trans s2).drop np1
 refine ⟨_, rfl, a, ns, 8, rfl, s02.sqL nmn hs, nl, by omega, fun p2 H3 s3 np2 hp2 => ?_⟩
 refine ⟨p2, 5, rfl, hp2, by decide, by decide, fun r3 H4 r30 r36 s4 hp4 => ?_⟩
 obtain ⟨m, hm, m1, m5⟩ : ∃ m : Nat, 1 + r3 = (m : Int) /\ 1 <= m /\ m <= 5 := ⟨(1 + r3).toNat, by omega, by omega, by omega⟩
 refine ⟨_, _, rfl, rfl, ?_⟩
 simp only [hm]
 have s24 : SB [] H2 H4 := ((s3.nil (ps := [p2])).trans s4).drop np2
 have s04 := s02.trans s24
 have hcl4 := s24.keep _ _ hcl nmn
 refine ⟨_, rfl, _, rfl, _, rfl, _, rfl, cl, _, rfl, SqL.of hcl4, fun C nC => ?_⟩
 rw [cutTakeS]
 have t5 := SB.new (ps := []) nC (.lst ((ks.take m).map V.str))
 have hC5 : upd H4 C (.lst ((ks.take m).map V.str)) C = some (.lst ((ks.take m).map V.str)) := upd_same
 have s05 := s04.trans t5
 have hcl5 := t5.keep _ _ hcl4 nmn
 generalize upd H4 C (.lst ((ks.take m).map V.str)) = H5 at t5 hC5 s05 hcl5
 have kln : (ks.take m).length = m := by rw [List.length_take]; omega
 have knt : ∀ k ∈ ks.take m, NameOk k := fun k hk => kn k (List.mem_of_mem_take hk)
 refine ⟨a, C, ns, ks.take m, rfl, s05.sqL nmn hs, nl, hC5, by omega, by omega, knd.sublist (List.take_sublist _ _), knt, fun kh xs b H6 s6 nkh hkh hb0 ok pn => ?_⟩
 have s06 := s05.trans s6
 have hcl6 := s6.keep _ _ hcl5 nmn
 refine ⟨_, rfl, a, ns, 9, rfl, s06.sqL nmn hs, nl, by omega, fun p G1 w1 np hp1' => ?_⟩
 refine nameI ?_
 have lp : cl ≠ p := fun z => by rw [z, np] at hcl6; cases hcl6
 have hcl7 := w1.keep _ _ hcl6 nmn
 refine take_w (i := 4) rfl hp1' (by decide) (by decide) fun r5 G2 r50 r51 w2 hp2' => ?_
 refine ⟨_, _, rfl, rfl, ?_⟩
 refine take_w (i := 4) rfl hp2' (by decide) (by decide) fun r6 G3 r60 r61 w3 hp3' => ?_
 obtain ⟨c1, rfl⟩ : ∃ c : Nat, r5 = (c : Int) := ⟨r5.toNat, by omega⟩
 obtain ⟨c2, rfl⟩ : ∃ c : Nat, r6 = (c : Int) := ⟨r6.toNat, by omega⟩
 refine ⟨_, _, rfl, rfl, by show 2 <= sizeLine; decide, fun R nR => ?_⟩
 have e3 : upd G3 R (.lst [.int (1 + (c1 : Int)), .int (2 + (c2 : Int))]) = upd G3 R (.lst [.int ((1 + c1 : Nat) : Int), .int ((2 + c2 : Nat) : Int)]) := by rw [Int.natCast_add, Int.natCast_add]; rfl
 refine cast (congrArg _ e3.symm) ?_
 have t4 := SB.new (ps := []) nR (.lst [.int ((1 + c1 : Nat) : Int), .int ((2 + c2 : Nat) : Int)])
 have hR4 : upd G3 R (.lst [.int ((1 + c1 : Nat) : Int), .int ((2 + c2 : Nat) : Int)]) R = some (.lst [.int ((1 + c1 : Nat) : Int), .int ((2 + c2 : Nat) : Int)]) := upd_same
 have hp4' := hp3'.sb t4
 have w23 := w2.trans w3
 have w13 : SB [] H6 G3 := ((w1.nil (ps := [p])).trans w23).drop np
 have Rp : R ≠ p := fun z => hp3'.ne nR z.symm
 have lR : cl ≠ R := ne_of_none (w13.keep _ _ hcl6 nmn) nR
 have nR6 : H6 R = none := w13.dom _ nR
 have w14 := w13.trans t4
 generalize upd G3 R (.lst [.int ((1 + c1 : Nat) : Int), .int ((2 + c2 : Nat) : Int)]) = G4 at t4 hR4 hp4' w14
 refine nameI ?_
 have hC6 := s6.keep _ _ hC5 nmn
 refine ⟨_, rfl, _, rfl, _, rfl, _, rfl, cl, _, rfl, SqL.of (w14.keep _ _ hcl6 nmn), fun C2 nC2 => ?_⟩
 rw [cutTakeS]
 have t5' := SB.new (ps := []) nC2 (.lst ((ks.take m).map V.str))
 have hC2 : upd G4 C2 (.lst ((ks.take m).map V.str)) C2 = some (.lst ((ks.take m).map V.str)) := upd_same
 have hR5 := t5'.keep _ _ hR4 nmn
 have C2p : C2 ≠ p := fun z => hp4'.ne nC2 z.symm
 have C2R : C2 ≠ R := fun z => by rw [z, hR4] at nC2; cases nC2
 have hp5' := hp4'.sb t5'
 have w15 := w14.trans t5'
 generalize upd G4 C2 (.lst ((ks.take m).map V.str)) = G5 at t5' hC2 hR5 hp5' w15
 refine ⟨_, rfl, ?_⟩
 refine take_w (i := 4) rfl hp5' (by decide) (by decide) fun r7 G6 r70 r712 w6 hp6' => ?_
 obtain ⟨u, rfl⟩ : ∃ u : Nat, r7 = (u : Int) := ⟨r7.toNat, by omega⟩
 refine ⟨_, _, rfl, rfl, _, _, rfl, rfl, ⟨by decide, by decide, by decide⟩, p, C2, R, ks.take m, 1 + c1, 2 + c2, 1 + u, 10 ^ 30, (by show [V.ref p, V.ref C2, V.ref R, V.int (1 + (u : Int)), V.int _] = [V.ref p, V.ref C2, V.ref R, V.int ((1 + u : Nat) : Int), V.int (10 ^ 30)]; rw [Int.natCast_add]; rfl), hp6', w6.keep _ _ hC2 (by simpa using C2p), w6.keep _ _ hR5 (by simpa using Rp), C2p, C2R, Rp, ⟨by omega, by omega, by omega⟩, ⟨by omega, by omega, by omega⟩, ⟨by decide, by decide⟩, ⟨by omega, knt⟩, fun gv0 g0 a' G7 w7 hp7' _ hg0 gok0 pt0 dp0 gw0 => ?_⟩
 refine nameI ?_
 have w17 : SB [p] H6 G7 := (((w15.nil (ps := [R, p])).trans (w6.mono (by simp))).trans (w7.mono (qs := [R, p]) (by simp))).drop nR6
 have gp0 : g0.parts <= 50 := by omega
 have gd0 : g0.deep <= 10 := by omega
 have w8' : SB [] H6 G7 := w17.drop np
 have s07 := s06.trans w8'
 have hcl9 := w8'.keep _ _ hcl6 nmn
 have hkh9 := w8'.keep _ _ hkh nmn
 have hb9 : KdAll K G7 [] xs b := (hb0.less (bad' := []) (by simp)).sb w8' NoLst.nil
 clear t5' t4 w15 w14 w13 w23 w7 w6 w3 w2 hC2 hR5 hR4 hp6' hp5' hp4' hp3' hp2' w17 hp7' hcl7 hcl6 hcl5 hcl4 hcl hp1' hC5 hC6 t5 s6 hkh hb0 s02 s04 s05 s06 s3 s4 s24 w1 w8' nR6 lR Rp nR nC2 C2p C2R lp
 -- the strangers
 refine ⟨_, rfl, a, ns, 10, rfl, s07.sqL nmn hs, nl, by omega, fun p H7 u7 np7 hp7 => ?_⟩
 refine nameI ?_
 have hcl10 := u7.keep _ _ hcl9 nmn
 have clp : cl ≠ p := fun z => by rw [z, np7] at hcl9; cases hcl9
 refine ⟨_, rfl, _, rfl, 5, rfl, cl, _, rfl, SqL.of hcl10, fun C5 nC5 => ?_⟩
 have ec5 : cutV (ks.map V.str) (some 5) none = (ks.drop 5).map V.str := cutDropS _ 5
 rw [ec5]
 have y1 := SB.new (ps := []) nC5 (.lst ((ks.drop 5).map V.str))
 have hC5 : upd H7 C5 (.lst ((ks.drop 5).map V.str)) C5 = some (.lst ((ks.drop 5).map V.str)) := upd_same
 have hp8 := hp7.sb y1
 have C5p : C5 ≠ p := fun z => hp7.ne nC5 z.symm
 generalize upd H7 C5 (.lst ((ks.drop 5).map V.str)) = H8 at y1 hC5 hp8
 refine ⟨by show 2 <= sizeLine; decide, fun R2 nR2 => ?_⟩
 have y2 := SB.new (ps := []) nR2 (.lst [.int ((4 : Nat) : Int), .int ((4 : Nat) : Int)])
 have hR2 : upd H8 R2 (.lst [.int ((4 : Nat) : Int), .int ((4 : Nat) : Int)]) R2 = some (.lst [.int ((4 : Nat) : Int), .int ((4 : Nat) : Int)]) := upd_same
 have hC5' := y2.keep _ _ hC5 nmn
 have hp9 := hp8.sb y2
 have R2p : R2 ≠ p := fun z => hp8.ne nR2 z.symm
 have CR2 : C5 ≠ R2 := ne_of_none hC5 nR2
 have y12 := y1.trans y2
 have nR27 : H7 R2 = none := y1.dom _ nR2
 have e4 : upd H8 R2 (.lst [.int 4, .int 4]) = upd H8 R2 (.lst [.int ((4 : Nat) : Int), .int ((4 : Nat) : Int)]) := rfl
 refine cast (congrArg _ e4.symm) ?_
 generalize upd H8 R2 (.lst [.int ((4 : Nat) : Int), .int ((4 : Nat) : Int)]) = H9 at y2 hR2 hC5' hp9 y12
 have kdl : (ks.drop 5).length = 3 := by rw [List.length_drop]; omega
 refine ⟨p, C5, R2, ks.drop 5, 4, 4, 2, 9, rfl, hp9, hC5', hR2, C5p, CR2, R2p, ⟨by omega, by omega, by omega⟩, ⟨by omega, by omega, by omega⟩, ⟨by decide, by decide⟩, ⟨by omega, fun k hk => kn k (List.mem_of_mem_drop hk)⟩, fun uv sm a2 H10 w10 hp10 _ hsm smok smp smd smw => ?_⟩
 refine nameI ?_
 have u10 : SB [p] H7 H10 := ((y12.nil (ps := [R2, p])).trans (w10.mono (by simp))).drop nR27
 -- the odd grove
 refine ⟨_, rfl, _, rfl, ?_⟩
 refine take_w (i := 4) rfl hp10 (by decide) (by decide) fun r9 H11 r90 r91 w11 hp11 => ?_
 have u11 := u10.trans w11
 have hg11 : GA K H11 gv0 g0 := GA.sb (hg0.sb u7) u11
 have nin : ∀ {z : Str}, z ∈ ks.drop 5 -> z ∉ ks.take m := fun {z} hz hz2 => by
  obtain ⟨i, hi⟩ := List.getElem?_of_mem hz
  obtain ⟨j, hj⟩ := List.getElem?_of_mem hz2
  rw [List.getElem?_drop] at hi
  have hj2 : j < m := by
   have := (List.getElem?_eq_some_iff.mp hj).1
   rw [kln] at this; exact this
  rw [List.getElem?_take, if_pos hj2] at hj
  have := (List.getElem?_inj (l := ks) (i := 5 + i) (j := j) (List.getElem?_eq_some_iff.mp hi).1 knd).mp (by rw [hi, hj])
  omega
 refine ⟨gv0, uv, g0, sm, r9, rfl, hg11, GA.sb hsm w11, gok0, smok.mono (by decide +kernel), by omega, gp0, by omega, by omega, fun x hx z hz e => nin (smw x hx) (by rw [<- e]; exact gw0 z hz), fun ov og H12 w12 hog ogok ogd ogp ogn => ?_⟩
 refine nameI ?_
 have u12 := u11.trans w12.nil
 have hp12 := hp11.sb w12
 have hg12 := hg11.sb w12
 have s07p : SB [p] H7 H12 := u12
 have s12 : SB [] G7 H12 := ((u7.nil (ps := [p])).trans u12).drop np7
 have hkh12 := s12.keep _ _ hkh9 nmn
 have hb12 := hb9.sb s12 NoLst.nil
 have hcl12 := s12.keep _ _ hcl9 nmn
 have n7 : ∀ {x : Addr} {z : HO}, G7 x = some z -> x ≠ p := fun h e => by rw [e, np7] at h; cases h
 have khp : kh ≠ p := n7 hkh9
 have hb12p : KdAll K H12 [p] xs b := KdAll.sb u12 (fun q hq => .inl (by rw [List.mem_singleton.mp hq]; simp)) (KdAll.sb u7 NoLst.nil (KdAll.bad1 np7 hb9))
 have s012 := s07.trans s12
 clear u7 u10 u11 u12 w10 w11 w12 y1 y2 y12 hp7 hp8 hp9 hp10 hp11 hsm hC5 hC5' hR2 nC5 nR2 CR2 R2p C5p e4 hg11 hcl10 hg0 s07p hb9 hkh9 hcl9 s07 s12
 refine ⟨_, rfl, kh, xs, b, rfl, hkh12, hb12, ok, fun bk H13 s13 nbk hbk => ?_⟩
 refine nameI ?_
 have s013 := s012.trans s13
 have hp13 := hp12.sb s13
 have hcl13 := s13.keep _ _ hcl12 nmn
 have hkh13 := s13.keep _ _ hkh12 nmn
 have hb13p := hb12p.sb s13 (ps := []) (fun q hq => by cases hq)
 have hg13 := hg12.sb s13
 have hog13 := hog.sb s13
 clear s13 hp12 hcl12 hkh12 hb12 hb12p hg12 hog s012
 -- rules' numbers
 refine take_w (i := 4) rfl hp13 (by decide) (by decide) fun r1 J1 r10 r11 v1 hpj1 => ?_
 refine ⟨_, _, rfl, rfl, 1, rfl, _, _, rfl, rfl, ⟨by decide, by decide, by decide⟩, by show 1 <= sizeLine; decide, fun B1 nB1 => ?_⟩
 have v2 := SB.new (ps := []) nB1 (.lst [.int 1])
 have hB1 : upd J1 B1 (.lst [.int 1]) B1 = some (.lst [.int 1]) := upd_same
 have B1p : B1 ≠ p := fun z => hpj1.ne nB1 z.symm
 have hpj2 := hpj1.sb v2
 generalize upd J1 B1 (.lst [.int 1]) = J2 at v2 hB1 hpj2
 refine ⟨by show 1 <= sizeLine; decide, fun T1 nT1 => ?_⟩
 have v3 := SB.new (ps := []) nT1 (.tup [.int 0])
 have hT1 : SqT K (upd J2 T1 (.tup [.int 0])) T1 [.int 0] := SqT.of upd_same
 have hpj3 := hpj2.sb v3
 have hB1 := v3.keep _ _ hB1 nmn
 generalize upd J2 T1 (.tup [.int 0]) = J3 at v3 hT1 hpj3 hB1
 refine ⟨by show 11 <= sizeLine; decide, fun R0 nR0 => ?_⟩
 have v4 := SB.new (ps := []) nR0 (.lst [.int 0, .int (1 + r1), .int 5, .int (-1), .int ((10 : Int) ^ (Int.toNat 30)), .bl true, .bl false, .non, .str "1", .ref B1, .ref T1])
 have hR0 : upd J3 R0 (.lst [.int 0, .int (1 + r1), .int 5, .int (-1), .int ((10 : Int) ^ (Int.toNat 30)), .bl true, .bl false, .non, .str "1", .ref B1, .ref T1]) R0 = some (.lst [.int 0, .int (1 + r1), .int 5, .int (-1), .int ((10 : Int) ^ (Int.toNat 30)), .bl true, .bl false, .non, .str "1", .ref B1, .ref T1]) := upd_same
 have R0p : R0 ≠ p := fun z => hpj3.ne nR0 z.symm
 have hpj4 := hpj3.sb v4
 have hB1 := v4.keep _ _ hB1 nmn
 have hT1 := v4.sqT hT1
 have v24 := (v2.trans v3).trans v4
 generalize upd J3 R0 (.lst [.int 0, .int (1 + r1), .int 5, .int (-1), .int ((10 : Int) ^ (Int.toNat 30)), .bl true, .bl false, .non, .str "1", .ref B1, .ref T1]) = J4 at v4 hR0 hpj4 hB1 hT1 v24
 obtain ⟨rl, erl⟩ : ∃ rl : List V, rl = [.int 0, .int (1 + r1), .int 5, .int (-1), .int ((10 : Int) ^ (Int.toNat 30)), .bl true, .bl false, .non, .str "1", .ref B1, .ref T1] := ⟨_, rfl⟩
 rw [<- erl] at hR0
 have rll : rl.length = 11 := by rw [erl]; rfl
 have hrl : ∀ u ∈ rl, ∃ d, Dp K (del p J4) u d := by
  obtain ⟨px, py, hpe, _⟩ := hpj4
  rw [erl]
  intro u hu
  simp only [List.mem_cons, nmn, or_false] at hu
  rcases hu with rfl | rfl | rfl | rfl | rfl | rfl | rfl | rfl | rfl | rfl | rfl
  ·exact ⟨_, .int _⟩
  ·exact ⟨_, .int _⟩
  ·exact ⟨_, .int _⟩
  ·exact ⟨_, .int _⟩
  ·exact ⟨_, .int _⟩
  ·exact ⟨_, .bl _⟩
  ·exact ⟨_, .bl _⟩
  ·exact ⟨_, .non⟩
  ·exact ⟨_, .str _⟩
  ·exact ⟨_, .lst (SqL.of (del_of hB1 B1p)) (.cons (.int 1) .nil)⟩
  ·exact ⟨_, .tup (sqT_del hT1 hpe) (.cons (.int 0) .nil)⟩
 have w4 := v1.trans v24.nil
 clear v4 v3 v2 v1 v24 hB1 hT1 B1p erl nT1 nB1 nR0 hpj1 hpj2 hpj3
 refine nameI ?_
 -- what is said
 refine ⟨_, rfl, _, _, rfl, rfl, ⟨by decide, by decide, by decide⟩, p, 10 ^ 59, rfl, hpj4, by decide, by decide, fun r2 J5 r20 r21 v5 hpj5 => ?_⟩
 refine ⟨1, rfl, by show 0 <= sizeLine; decide, fun B2 nB2 => ?_⟩
 have v6 := SB.new (ps := []) nB2 (.lst [])
 have hB2 : upd J5 B2 (.lst []) B2 = some (.lst []) := upd_same
 have B2p : B2 ≠ p := fun z => hpj5.ne nB2 z.symm
 have hpj6 := hpj5.sb v6
 generalize upd J5 B2 (.lst []) = J6 at v6 hB2 hpj6
 refine ⟨_, _, rfl, rfl, ⟨by decide, by decide, by decide⟩, _, rfl, by show 9 <= sizeLine; decide, fun S0 nS0 => ?_⟩
 have v7 := SB.new (ps := []) nS0 (.lst [.int r2, .int (-1), .int 0, .bl true, .non, .str "0", .bl false, .ref B2, .int (-((10 : Int) ^ (Int.toNat 40)))])
 have hS0 : upd J6 S0 (.lst [.int r2, .int (-1), .int 0, .bl true, .non, .str "0", .bl false, .ref B2, .int (-((10 : Int) ^ (Int.toNat 40)))]) S0 = some (.lst [.int r2, .int (-1), .int 0, .bl true, .non, .str "0", .bl false, .ref B2, .int (-((10 : Int) ^ (Int.toNat 40)))]) := upd_same
 have S0p : S0 ≠ p := fun z => hpj6.ne nS0 z.symm
 have hpj7 := hpj6.sb v7
 have hB2 := v7.keep _ _ hB2 nmn
 have v67 := v6.trans v7
 have v57 : SB [p] J4 _ := v5.trans v67.nil
 generalize upd J6 S0 (.lst [.int r2, .int (-1), .int 0, .bl true, .non, .str "0", .bl false, .ref B2, .int (-((10 : Int) ^ (Int.toNat 40)))]) = J7 at v7 hS0 hpj7 hB2 v67 v57
 obtain ⟨sl, esl⟩ : ∃ sl : List V, sl = [.int r2, .int (-1), .int 0, .bl true, .non, .str "0", .bl false, .ref B2, .int (-((10 : Int) ^ (Int.toNat 40)))] := ⟨_, rfl⟩
 rw [<- esl] at hS0
 have sll : sl.length = 9 := by rw [esl]; rfl
 have hsl : ∀ u ∈ sl, ∃ d, Dp K (del p J7) u d /\ ∀ n, whD d = some n -> n < 2 ^ 900 := by
  have e59 : (10 : Int) ^ 59 < 2 ^ 900 := by decide +kernel
  rw [esl]
  intro u hu
  simp only [List.mem_cons, nmn, or_false] at hu
  rcases hu with rfl | rfl | rfl | rfl | rfl | rfl | rfl | rfl | rfl
  ·exact ⟨_, .int _, fun n e => by have e := Option.some.inj e; omega⟩
  ·exact ⟨_, .int _, fun n e => by rw [<- Option.some.inj e]; decide +kernel⟩
  ·exact ⟨_, .int _, fun n e => by rw [<- Option.some.inj e]; decide +kernel⟩
  ·exact ⟨_, .bl _, fun n e => nomatch e⟩
  ·exact ⟨_, .non, fun n e => nomatch e⟩
  ·exact ⟨_, .str _, fun n e => nomatch e⟩
  ·exact ⟨_, .bl _, fun n e => nomatch e⟩
  ·exact ⟨_, .lst (SqL.of (del_of hB2 B2p)) .nil, fun n e => nomatch e⟩
  ·exact ⟨_, .int _, fun n e => by rw [<- Option.some.inj e]; decide +kernel⟩
 have hrl : ∀ u ∈ rl, ∃ d, Dp K (del p J7) u d := fun u hu => by
  obtain ⟨d, h⟩ := hrl u hu
  exact ⟨d, Dp_s0 v57.del _ _ h⟩
 have hR0 := v57.keep _ _ hR0 (by simpa using R0p)
 have w7 := w4.trans v57
 clear v7 v6 v5 v67 v57 w4 hB2 B2p esl nB2 nS0 hpj4 hpj5 hpj6
 refine nameI ?_
 have nls : ∀ {G : Hp}, NoLst G [p] [p] := fun q hq => .inl (by rw [List.mem_singleton.mp hq]; simp)
 have lsP : ∀ {G : Hp} {p : Addr}, PuW G p -> Lsts G [p] := fun h => by obtain ⟨_, _, e, _⟩ := h; exact Lsts.one e
 have hcl7 := w7.keep _ _ hcl13 (by simpa using clp)
 have hkh7 := w7.keep _ _ hkh13 (by simpa using khp)
 have hb7 := hb13p.sb w7 nls
 have hbk7 := hbk.sb w7 (lsP hp13)
 have hg7 := GA.sb hg13 w7
 have hog7 := GA.sb hog13 w7
 have s7' : SB [p] H13 J7 := w7
 have hs7 : SqL K J7 a (ns.map V.int) \/ True := .inr trivial
 clear hcl13 hkh13 hb13p hbk hg13 hog13 w7 hs7 s7' hp13
 have eP : (fun x => x ∉ ks.take m) = (fun x => x ∉ b.names) := funext fun x => propext (not_congr (pn.mem_iff (a := x)).symm)
 have b8 := ok.len
 have nmg : Gr.Named ks g0 := fun x hx => List.mem_of_mem_take (gw0 x hx)
 have nmo : Gr.Named ks og := fun x hx => by
  rcases ogn x hx with ⟨z, hz, e⟩ | ⟨z, hz, e⟩
  ·rw [e]; exact List.mem_of_mem_drop (smw z hz)
  ·rw [e]; exact nmg z hz
 refine ⟨_, rfl, _, rfl, by show 2 <= sizeLine; decide, fun FL nFL => ⟨FL, rfl, ⟨_, SqL.of upd_same⟩, ?_⟩⟩
 have v8 := SB.new (ps := []) nFL (.lst [gv0, ov])
 have hFL : upd J7 FL (.lst [gv0, ov]) FL = some (.lst [gv0, ov]) := upd_same
 have FLp : FL ≠ p := fun z => hpj7.ne nFL z.symm
 have hp8 := hpj7.sb v8
 generalize upd J7 FL (.lst [gv0, ov]) = J8 at v8 hFL hp8
 refine for_it (walk_list (xs := [gv0, ov])) (fun i σ G => SB [p] J8 G /\ PuW G p /\ ∃ o12 o13 o14 o15 o16 : Option V, σ = [some (.ref a), some (.ref cl), some (.int (m : Int)), some (.ref kh), some (.ref p), some (.ref R), some gv0, some uv, some ov, some (.ref bk), some (.ref R0), some (.ref S0), o12, o13, o14, o15, o16, none])
  ⟨SB.refl, hp8, _, _, _, _, _, rfl⟩ (fun i σ G hi h => h.1.sqL (by simpa using FLp) (SqL.of hFL)) (fun i x σ G' G hi h y => ?_) (fun σ G h => ?_)
 ·obtain ⟨u1, hpu, o12, o13, o14, o15, o16, rfl⟩ := h
  obtain ⟨rfl, ey⟩ := y
  obtain ⟨gx, hgx, gxok, gxd, gxp, gxn⟩ : ∃ gx : Gr, GA K J7 x gx /\ gx.Ok (10 ^ 30 + 1) /\ gx.deep <= 12 /\ gx.parts <= 60 /\ Gr.Named ks gx := by
   have hi2 : i = 0 \/ i = 1 := by have : i < 2 := hi; omega
   rcases hi2 with rfl | rfl
   ·cases (show some gv0 = some x from ey)
    exact ⟨g0, hg7, gok0, by omega, by omega, nmg⟩
   ·cases (show some ov = some x from ey)
    exact ⟨og, hog7, ogok, ogd, ogp, nmo⟩
  have f1 : SB [p] J7 G := v8.nil.trans u1
  have hgx1 := GA.sb hgx f1
  have hcl1 := f1.keep _ _ hcl7 (by simpa using clp)
  -- the least, told
  refine ⟨_, rfl, _, rfl, _, rfl, _, rfl, cl, _, rfl, SqL.of hcl1, fun C nC => ?_⟩
  rw [cutTakeS]
  have t2 := SB.new (ps := []) nC (.lst ((ks.take m).map V.str))
  have hC2 : upd G C (.lst ((ks.take m).map V.str)) C = some (.lst ((ks.take m).map V.str)) := upd_same
  generalize upd G C (.lst ((ks.take m).map V.str)) = G2 at t2 hC2
  refine ⟨x, C, gx, ks.take m, rfl, hgx1.sb t2, hC2, knt, ⟨_, gxok⟩, by omega, by omega, by omega, fun L zs G3 u3 nL hL hle => ⟨L, rfl, ⟨_, SqL.of hL⟩, fun D nD => ?_⟩⟩
  rw [eP] at hle
  obtain ⟨zl, zm⟩ := hle.mem
  refine lc_seqQ (walk_list (xs := zs.map V.str)) [] nD (by simp) (by rw [List.length_map]; omega) (fun j ws G4 => Bears K G4 kdE ws (zs.take j)) .nil (fun G4 s => s.sqL nmn (SqL.of hL)) (fun j ws G4 G5 s h => h.sb s kdE_noList) (fun Pv j x Hq G4 ws hj s4 y hR' hu' hD4 fin skip => ?_) (fun ws G4 s4 hD4 hR' hul => ?_)
  ·obtain ⟨rfl, ey⟩ := y
   rw [List.getElem?_map] at ey
   obtain ⟨z, ez, rfl⟩ := Option.map_eq_some_iff.mp ey
   refine ⟨rfl, _, rfl, by show 2 <= sizeLine; decide, fun T nT => ?_⟩
   have t5 := SB.new (ps := []) nT (.tup [.str "kind", .str z])
   refine fin _ _ t5 ?_
   rw [List.take_add_one, ez]
   exact (hR'.sb t5 kdE_noList).append (.cons (.tup (SqT.of upd_same) (.cons (.str _) (.cons (.str _) .nil))) .nil)
  rw [List.length_map, List.take_length] at hR'
  have wl := hR'.length
  refine nameI ?_
  have u24 := (t2.trans u3).trans s4
  have f4 := f1.trans u24.nil
  have hgx4 := GA.sb hgx f4
  refine ⟨_, rfl, _, rfl, .ref bk, x, b, gx, ks, rfl, hbk7.sb f4 (lsP hpj7), ok, hgx4, gxok, gxd, gxp, gxn, by omega, fun L2 us2 zs2 G5 u5 hL2 hb2 hle2 => ?_⟩
  obtain rfl := hle2.uniq hle
  have hD5 := u5.keep _ _ hD4 nmn
  have hR5 := hR'.sb u5 kdE_noList
  refine ⟨_, rfl, _, rfl, D, D, _, _, rfl, rfl, hD5, hD5, by omega, fun M nM => ?_⟩
  have t6 := SB.new (ps := []) nM (.lst (ws ++ ws))
  have hbM : Bears K (upd G5 M (.lst (ws ++ ws))) kdE (ws ++ ws) (zs2 ++ zs2) := (hR5.sb t6 kdE_noList).append (hR5.sb t6 kdE_noList)
  have wk : Wd (.list ((zs2 ++ zs2).map kdE)) := kdE_wd fun n hn => by
   have hn : n ∈ zs2 := by rcases List.mem_append.mp hn with h | h <;> exact h
   obtain ⟨z, hz, e⟩ := List.mem_map.mp (zm n hn)
   rw [<- e]; exact (Ok_within gxok z hz).1
  refine ⟨.list ((zs2 ++ zs2).map kdE), .list ((zs2 ++ zs2).map kdE), .lst (t6.sqL nmn (SqL.of hL2)) (hb2.sb t6 kdE_noList).dp, .lst (SqL.of upd_same) hbM.dp, wk, wk, _, rfl, ?_⟩
  rw [show PyData.eqv (.list ((zs2 ++ zs2).map kdE)) (.list ((zs2 ++ zs2).map kdE)) = true by rw [PyData.eqv]; exact kdE_eqv _]
  refine iteF (nextI ?_)
  have u26 := (u24.trans u5).trans t6
  have f6 := f1.trans u26.nil
  have hp6 := hpu.sb u26
  generalize upd G5 M (.lst (ws ++ ws)) = G6 at t6 hbM u26 f6 hp6
  clear hbM hD5 hR5 hD4 hR' hC2 hL hL2 hb2 t6 u5 s4 u3 t2 u24 f4 hgx4 hgx1 hcl1 wk
  -- the places
  refine ⟨_, rfl, _, rfl, p, x, gx, rfl, hp6, GA.sb hgx f6, ⟨_, gxok⟩, gxd, by omega, fun LP us3 G7 u7 hp7 nLP hLP ul3 hall => ⟨LP, rfl, ⟨_, SqL.of hLP⟩, ?_⟩⟩
  have f7 := f6.trans u7
  have LPp : LP ≠ p := fun z => hp6.ne nLP z.symm
  refine for_it (walk_list (xs := us3)) (fun j σ G8 => SB [p] G7 G8 /\ PuW G8 p /\ ∃ o14 o15 o16 : Option V, σ = [some (.ref a), some (.ref cl), some (.int (m : Int)), some (.ref kh), some (.ref p), some (.ref R), some gv0, some uv, some ov, some (.ref bk), some (.ref R0), some (.ref S0), some x, some (.ref D), o14, o15, o16, none])
   ⟨SB.refl, hp7, _, _, _, rfl⟩ (fun j σ G8 hj h => h.1.sqL (by simpa using LPp) (SqL.of hLP)) (fun j z σ G8' G8 hj h y => ?_) (fun σ G8 h => ?_)
  ·obtain ⟨u8, hp8', o14, o15, o16, rfl⟩ := h
   obtain ⟨rfl, ez⟩ := y
   have hz7 := hall z (List.mem_of_getElem? ez)
   -- a rule's number
   refine ⟨_, rfl, ?_⟩
   refine take_w (i := 4) rfl hp8' (by decide) (by decide) fun r5 G9 r50 r51 u9 hp9 => ?_
   obtain ⟨c1, rfl⟩ : ∃ c : Nat, r5 = (c : Int) := ⟨r5.toNat, by omega⟩
   have hc1 : c1 < rl.length := by omega
   have f9 := (f7.trans u8).trans u9
   refine ⟨R0, _, _, _, rfl, rfl, SqL.of (f9.keep _ _ hR0 (by simpa using R0p)), atI_nat (List.getElem?_eq_getElem hc1), ?_⟩
   refine nameI ?_
   obtain ⟨d1, hd1⟩ := hrl _ (List.getElem_mem hc1)
   generalize rl[c1] = x3 at hd1
   -- what is said
   refine ⟨_, rfl, ?_⟩
   refine take_w (i := 4) rfl hp9 (by decide) (by decide) fun r6 G10 r60 r61 u10 hp10 => ?_
   obtain ⟨c2, rfl⟩ : ∃ c : Nat, r6 = (c : Int) := ⟨r6.toNat, by omega⟩
   have hc2 : c2 < sl.length := by omega
   have f10 := f9.trans u10
   refine ⟨S0, _, _, _, rfl, rfl, SqL.of (f10.keep _ _ hS0 (by simpa using S0p)), atI_nat (List.getElem?_eq_getElem hc2), ?_⟩
   refine nameI ?_
   obtain ⟨d2, hd2, hd2b⟩ := hsl _ (List.getElem_mem hc2)
   generalize sl[c2] = x4 at hd2
   have u810 := (u8.trans u9).trans u10
   obtain ⟨pb, xb, ds, rfl, hb1, hb2', hsh, hdl⟩ := hz7.sb u810.del
   have hrin : Rin K G10 x pb x3 x4 b gx ds (whD d1) (whD d2) := ⟨ok, GA.sb hgx f10, gxok, gxd, by omega, ⟨ks, gxn, by omega⟩, ⟨xb, del_sub.sqT hb1, DpAll_s0 del_sub _ _ hb2'⟩, hdl, hsh, Wh_of (Dp_s0 del_sub _ _ (Dp_s0 f10.del _ _ hd1)), Wh_of (Dp_s0 del_sub _ _ (Dp_s0 f10.del _ _ hd2)), hd2b⟩
   refine ⟨_, rfl, _, rfl, _, rfl, _, rfl, _, rfl, _, rfl, kh, xs, .ref bk, x, x3, x4, pb, b, gx, ds, whD d1, whD d2, rfl, ⟨f10.keep _ _ hkh7 (by simpa using khp), (hb7.sb f10 nls).less (by simp)⟩, hbk7.sb f10 (lsP hpj7), hrin, fun G11 u11 => ⟨true, rfl, iteF ?_⟩⟩
   exact ⟨u810.trans u11.nil, hp10.sb u11, _, _, _, rfl⟩
  ·obtain ⟨u8, hp8', o14, o15, o16, rfl⟩ := h
   exact ⟨((u1.trans u26.nil).trans u7).trans u8, hp8', _, _, _, _, _, rfl⟩
 ·obtain ⟨u1, hpu, o12, o13, o14, o15, o16, rfl⟩ := h
  exact q _
end
theorem facts {P : Program} {w : World} {K : PySem.W.Frag} {h : Heap} {mg : Str -> Option Value} {f : Addr} (X : K.In h) (G : h.Ns mainGlobals mg) (hfa : mg ("law" : Str) = some (.ref f)) (c : He.SaysD fa fn K) (cx : exOk K = true) :
  ∃ fd : FuncData, (∀ (s : Shared) (v : Value), BindsTo s fd ⟨[v], []⟩ [("_law_script", v)]) /\ ∀ base : Heap, K.In base -> base.Ns mainGlobals mg -> FnOk P w K mg base CX0 215 f fd ["_law_script"] (spLaw K) := by
 obtain ⟨fd_is_whole, D_is_whole⟩ := c.def_ 0 (d := d_is_whole) rfl
 have F_is_whole : Fun K "is_whole" "is_whole" s_is_whole _ fd_is_whole := He5.fun_of D_is_whole
 have m_is_whole := He.glo_ok X G (c.fact 0 (f := .glo "is_whole") rfl)
 have b_is_whole := F_is_whole.binds (ps := ["thing"]) fun _ _ _ _ _ _ us hl => match us, hl with | [_], _ => rfl
 obtain ⟨fd_is_many, D_is_many⟩ := c.def_ 1 (d := d_is_many) rfl
 have F_is_many : Fun K "is_many" "is_many" s_is_many _ fd_is_many := He5.fun_of D_is_many
 have m_is_many := He.glo_ok X G (c.fact 1 (f := .glo "is_many") rfl)
 have b_is_many := F_is_many.binds (ps := ["thing"]) fun _ _ _ _ _ _ us hl => match us, hl with | [_], _ => rfl
 obtain ⟨fd_is_name, D_is_name⟩ := c.def_ 2 (d := d_is_name) rfl
 have F_is_name : Fun K "is_name" "is_name" s_is_name _ fd_is_name := He5.fun_of D_is_name
 have m_is_name := He.glo_ok X G (c.fact 2 (f := .glo "is_name") rfl)
 have b_is_name := F_is_name.binds (ps := ["thing"]) fun _ _ _ _ _ _ us hl => match us, hl with | [_], _ => rfl
 obtain ⟨fd_is_rising, D_is_rising⟩ := c.def_ 3 (d := d_is_rising) rfl
 have F_is_rising : Fun K "is_rising" "is_rising" s_is_rising _ fd_is_rising := He5.fun_of D_is_rising
 have m_is_rising := He.glo_ok X G (c.fact 3 (f := .glo "is_rising") rfl)
 have b_is_rising := F_is_rising.binds (ps := ["things"]) fun _ _ _ _ _ _ us hl => match us, hl with | [_], _ => rfl
 obtain ⟨fd_joined, D_joined⟩ := c.def_ 4 (d := d_joined) rfl
 have F_joined : Fun K "joined" "joined" s_joined _ fd_joined := He5.fun_of D_joined
 have m_joined := He.glo_ok X G (c.fact 4 (f := .glo "joined") rfl)
 have b_joined := F_joined.binds (ps := ["pairs"]) fun _ _ _ _ _ _ us hl => match us, hl with | [_], _ => rfl
 obtain ⟨fd_run_of, D_run_of⟩ := c.def_ 5 (d := d_run_of) rfl
 have F_run_of : Fun K "run_of" "run_of" s_run_of _ fd_run_of := He5.fun_of D_run_of
 have m_run_of := He.glo_ok X G (c.fact 5 (f := .glo "run_of") rfl)
 have b_run_of := F_run_of.binds (ps := ["text", "at", "signs"]) fun _ _ _ _ _ _ us hl => match us, hl with | [_, _, _], _ => rfl
 obtain ⟨fd_is_tree, D_is_tree⟩ := c.def_ 6 (d := d_is_tree) rfl
 have F_is_tree : Fun K "is_tree" "is_tree" s_is_tree _ fd_is_tree := He5.fun_of D_is_tree
 have m_is_tree := He.glo_ok X G (c.fact 6 (f := .glo "is_tree") rfl)
 have b_is_tree := F_is_tree.binds (ps := ["thing"]) fun _ _ _ _ _ _ us hl => match us, hl with | [_], _ => rfl
 obtain ⟨fd_is_grove, D_is_grove⟩ := c.def_ 7 (d := d_is_grove) rfl
 have F_is_grove : Fun K "is_grove" "is_grove" s_is_grove _ fd_is_grove := He5.fun_of D_is_grove
 have m_is_grove := He.glo_ok X G (c.fact 7 (f := .glo "is_grove") rfl)
 have b_is_grove := F_is_grove.binds (ps := ["thing"]) fun _ _ _ _ _ _ us hl => match us, hl with | [_], _ => rfl
 obtain ⟨fd_are_grove_pairs, D_are_grove_pairs⟩ := c.def_ 8 (d := d_are_grove_pairs) rfl
 have F_are_grove_pairs : Fun K "are_grove_pairs" "are_grove_pairs" s_are_grove_pairs _ fd_are_grove_pairs := He5.fun_of D_are_grove_pairs
 have m_are_grove_pairs := He.glo_ok X G (c.fact 8 (f := .glo "are_grove_pairs") rfl)
 have b_are_grove_pairs := F_are_grove_pairs.binds (ps := ["things"]) fun _ _ _ _ _ _ us hl => match us, hl with | [_], _ => rfl
 obtain ⟨fd_together, D_together⟩ := c.def_ 9 (d := d_together) rfl
 have F_together : Fun K "together" "together" s_together _ fd_together := He5.fun_of D_together
 have m_together := He.glo_ok X G (c.fact 9 (f := .glo "together") rfl)
 have b_together := F_together.binds (ps := ["one", "other"]) fun _ _ _ _ _ _ us hl => match us, hl with | [_, _], _ => rfl
 obtain ⟨fd_without, D_without⟩ := c.def_ 10 (d := d_without) rfl
 have F_without : Fun K "without" "without" s_without _ fd_without := He5.fun_of D_without
 have m_without := He.glo_ok X G (c.fact 10 (f := .glo "without") rfl)
 have b_without := F_without.binds (ps := ["grove", "tree", "many"]) fun _ _ _ _ _ _ us hl => match us, hl with | [_, _, _], _ => rfl
 obtain ⟨fd_times, D_times⟩ := c.def_ 11 (d := d_times) rfl
 have F_times : Fun K "times" "times" s_times _ fd_times := He5.fun_of D_times
 have m_times := He.glo_ok X G (c.fact 11 (f := .glo "times") rfl)
 have b_times := F_times.binds (ps := ["grove", "many"]) fun _ _ _ _ _ _ us hl => match us, hl with | [_, _], _ => rfl
 obtain ⟨fd_pairs_within, D_pairs_within⟩ := c.def_ 12 (d := d_pairs_within) rfl
 have F_pairs_within : Fun K "pairs_within" "pairs_within" s_pairs_within _ fd_pairs_within := He5.fun_of D_pairs_within
 have m_pairs_within := He.glo_ok X G (c.fact 12 (f := .glo "pairs_within") rfl)
 have b_pairs_within := F_pairs_within.binds (ps := ["grove"]) fun _ _ _ _ _ _ us hl => match us, hl with | [_], _ => rfl
 obtain ⟨fd_kinds_within, D_kinds_within⟩ := c.def_ 13 (d := d_kinds_within) rfl
 have F_kinds_within : Fun K "kinds_within" "kinds_within" s_kinds_within _ fd_kinds_within := He5.fun_of D_kinds_within
 have m_kinds_within := He.glo_ok X G (c.fact 13 (f := .glo "kinds_within") rfl)
 have b_kinds_within := F_kinds_within.binds (ps := ["grove"]) fun _ _ _ _ _ _ us hl => match us, hl with | [_], _ => rfl
 obtain ⟨fd_parts_of, D_parts_of⟩ := c.def_ 14 (d := d_parts_of) rfl
 have F_parts_of : Fun K "parts_of" "parts_of" s_parts_of _ fd_parts_of := He5.fun_of D_parts_of
 have m_parts_of := He.glo_ok X G (c.fact 14 (f := .glo "parts_of") rfl)
 have b_parts_of := F_parts_of.binds (ps := ["grove"]) fun _ _ _ _ _ _ us hl => match us, hl with | [_], _ => rfl
 obtain ⟨fd_deep_of, D_deep_of⟩ := c.def_ 15 (d := d_deep_of) rfl
 have F_deep_of : Fun K "deep_of" "deep_of" s_deep_of _ fd_deep_of := He5.fun_of D_deep_of
 have m_deep_of := He.glo_ok X G (c.fact 15 (f := .glo "deep_of") rfl)
 have b_deep_of := F_deep_of.binds (ps := ["grove"]) fun _ _ _ _ _ _ us hl => match us, hl with | [_], _ => rfl
 obtain ⟨fd_rules_from_nought, D_rules_from_nought⟩ := c.def_ 16 (d := d_rules_from_nought) rfl
 have F_rules_from_nought : Fun K "rules_from_nought" "rules_from_nought" s_rules_from_nought _ fd_rules_from_nought := He5.fun_of D_rules_from_nought
 have m_rules_from_nought := He.glo_ok X G (c.fact 16 (f := .glo "rules_from_nought") rfl)
 have b_rules_from_nought := F_rules_from_nought.binds (ps := ["book", "name"]) fun _ _ _ _ _ _ us hl => match us, hl with | [_, _], _ => rfl
 obtain ⟨fd_check_kind, D_check_kind⟩ := c.def_ 17 (d := d_check_kind) rfl
 have F_check_kind : Fun K "check_kind" "check_kind" s_check_kind _ fd_check_kind := He5.fun_of D_check_kind
 have m_check_kind := He.glo_ok X G (c.fact 17 (f := .glo "check_kind") rfl)
 have b_check_kind := F_check_kind.binds (ps := ["book", "name"]) fun _ _ _ _ _ _ us hl => match us, hl with | [_, _], _ => rfl
 obtain ⟨fd_check_kinds, D_check_kinds⟩ := c.def_ 18 (d := d_check_kinds) rfl
 have F_check_kinds : Fun K "check_kinds" "check_kinds" s_check_kinds _ fd_check_kinds := He5.fun_of D_check_kinds
 have m_check_kinds := He.glo_ok X G (c.fact 18 (f := .glo "check_kinds") rfl)
 have b_check_kinds := F_check_kinds.binds (ps := ["book", "grove"]) fun _ _ _ _ _ _ us hl => match us, hl with | [_, _], _ => rfl
 obtain ⟨fd_are_kinds, D_are_kinds⟩ := c.def_ 19 (d := d_are_kinds) rfl
 have F_are_kinds : Fun K "are_kinds" "are_kinds" s_are_kinds _ fd_are_kinds := He5.fun_of D_are_kinds
 have m_are_kinds := He.glo_ok X G (c.fact 19 (f := .glo "are_kinds") rfl)
 have b_are_kinds := F_are_kinds.binds (ps := ["things"]) fun _ _ _ _ _ _ us hl => match us, hl with | [_], _ => rfl
 obtain ⟨fd_is_kind, D_is_kind⟩ := c.def_ 20 (d := d_is_kind) rfl
 have F_is_kind : Fun K "is_kind" "is_kind" s_is_kind _ fd_is_kind := He5.fun_of D_is_kind
 have m_is_kind := He.glo_ok X G (c.fact 20 (f := .glo "is_kind") rfl)
 have b_is_kind := F_is_kind.binds (ps := ["thing"]) fun _ _ _ _ _ _ us hl => match us, hl with | [_], _ => rfl
 obtain ⟨fd_is_rule, D_is_rule⟩ := c.def_ 21 (d := d_is_rule) rfl
 have F_is_rule : Fun K "is_rule" "is_rule" s_is_rule _ fd_is_rule := He5.fun_of D_is_rule
 have m_is_rule := He.glo_ok X G (c.fact 21 (f := .glo "is_rule") rfl)
 have b_is_rule := F_is_rule.binds (ps := ["thing"]) fun _ _ _ _ _ _ us hl => match us, hl with | [_], _ => rfl
 obtain ⟨fd_is_rule_of, D_is_rule_of⟩ := c.def_ 22 (d := d_is_rule_of) rfl
 have F_is_rule_of : Fun K "is_rule_of" "is_rule_of" s_is_rule_of _ fd_is_rule_of := He5.fun_of D_is_rule_of
 have m_is_rule_of := He.glo_ok X G (c.fact 22 (f := .glo "is_rule_of") rfl)
 have b_is_rule_of := F_is_rule_of.binds (ps := ["rule", "names"]) fun _ _ _ _ _ _ us hl => match us, hl with | [_, _], _ => rfl
 obtain ⟨fd_tree_at, D_tree_at⟩ := c.def_ 23 (d := d_tree_at) rfl
 have F_tree_at : Fun K "tree_at" "tree_at" s_tree_at _ fd_tree_at := He5.fun_of D_tree_at
 have m_tree_at := He.glo_ok X G (c.fact 23 (f := .glo "tree_at") rfl)
 have b_tree_at := F_tree_at.binds (ps := ["grove", "place"]) fun _ _ _ _ _ _ us hl => match us, hl with | [_, _], _ => rfl
 obtain ⟨fd_number_of, D_number_of⟩ := c.def_ 24 (d := d_number_of) rfl
 have F_number_of : Fun K "number_of" "number_of" s_number_of _ fd_number_of := He5.fun_of D_number_of
 have m_number_of := He.glo_ok X G (c.fact 24 (f := .glo "number_of") rfl)
 have b_number_of := F_number_of.binds (ps := ["grove", "tree"]) fun _ _ _ _ _ _ us hl => match us, hl with | [_, _], _ => rfl
 obtain ⟨fd_bare_places, D_bare_places⟩ := c.def_ 25 (d := d_bare_places) rfl
 have F_bare_places : Fun K "bare_places" "bare_places" s_bare_places _ fd_bare_places := He5.fun_of D_bare_places
 have m_bare_places := He.glo_ok X G (c.fact 25 (f := .glo "bare_places") rfl)
 have b_bare_places := F_bare_places.binds (ps := ["grove"]) fun _ _ _ _ _ _ us hl => match us, hl with | [_], _ => rfl
 obtain ⟨fd_fallen, D_fallen⟩ := c.def_ 26 (d := d_fallen) rfl
 have F_fallen : Fun K "fallen" "fallen" s_fallen _ fd_fallen := He5.fun_of D_fallen
 have m_fallen := He.glo_ok X G (c.fact 26 (f := .glo "fallen") rfl)
 have b_fallen := F_fallen.binds (ps := ["book", "grove", "place", "rule", "number"]) fun _ _ _ _ _ _ us hl => match us, hl with | [_, _, _, _, _], _ => rfl
 obtain ⟨fd_rule_at, D_rule_at⟩ := c.def_ 27 (d := d_rule_at) rfl
 have F_rule_at : Fun K "rule_at" "rule_at" s_rule_at _ fd_rule_at := He5.fun_of D_rule_at
 have m_rule_at := He.glo_ok X G (c.fact 27 (f := .glo "rule_at") rfl)
 have b_rule_at := F_rule_at.binds (ps := ["book", "kind", "rule"]) fun _ _ _ _ _ _ us hl => match us, hl with | [_, _, _], _ => rfl
 obtain ⟨fd_check_number, D_check_number⟩ := c.def_ 28 (d := d_check_number) rfl
 have F_check_number : Fun K "check_number" "check_number" s_check_number _ fd_check_number := He5.fun_of D_check_number
 have m_check_number := He.glo_ok X G (c.fact 28 (f := .glo "check_number") rfl)
 have b_check_number := F_check_number.binds (ps := ["thing"]) fun _ _ _ _ _ _ us hl => match us, hl with | [_], _ => rfl
 obtain ⟨fd_check_bound, D_check_bound⟩ := c.def_ 29 (d := d_check_bound) rfl
 have F_check_bound : Fun K "check_bound" "check_bound" s_check_bound _ fd_check_bound := He5.fun_of D_check_bound
 have m_check_bound := He.glo_ok X G (c.fact 29 (f := .glo "check_bound") rfl)
 have b_check_bound := F_check_bound.binds (ps := ["grove"]) fun _ _ _ _ _ _ us hl => match us, hl with | [_], _ => rfl
 obtain ⟨fd_grown, D_grown⟩ := c.def_ 30 (d := d_grown) rfl
 have F_grown : Fun K "grown" "grown" s_grown _ fd_grown := He5.fun_of D_grown
 have m_grown := He.glo_ok X G (c.fact 30 (f := .glo "grown") rfl)
 have b_grown := F_grown.binds (ps := ["rule", "number"]) fun _ _ _ _ _ _ us hl => match us, hl with | [_, _], _ => rfl
 obtain ⟨fd_further_ones, D_further_ones⟩ := c.def_ 31 (d := d_further_ones) rfl
 have F_further_ones : Fun K "further_ones" "further_ones" s_further_ones _ fd_further_ones := He5.fun_of D_further_ones
 have m_further_ones := He.glo_ok X G (c.fact 31 (f := .glo "further_ones") rfl)
 have b_further_ones := F_further_ones.binds (ps := ["book", "kind", "number"]) fun _ _ _ _ _ _ us hl => match us, hl with | [_, _, _], _ => rfl
 obtain ⟨fd_struck, D_struck⟩ := c.def_ 32 (d := d_struck) rfl
 have F_struck : Fun K "struck" "struck" s_struck _ fd_struck := He5.fun_of D_struck
 have m_struck := He.glo_ok X G (c.fact 32 (f := .glo "struck") rfl)
 have b_struck := F_struck.binds (ps := ["book", "grove", "place", "fresh", "number"]) fun _ _ _ _ _ _ us hl => match us, hl with | [_, _, _, _, _], _ => rfl
 obtain ⟨fd_choices, D_choices⟩ := c.def_ 33 (d := d_choices) rfl
 have F_choices : Fun K "choices" "choices" s_choices _ fd_choices := He5.fun_of D_choices
 have m_choices := He.glo_ok X G (c.fact 33 (f := .glo "choices") rfl)
 have b_choices := F_choices.binds (ps := ["book", "grove"]) fun _ _ _ _ _ _ us hl => match us, hl with | [_, _], _ => rfl
 obtain ⟨fd__law_purse, D__law_purse⟩ := c.def_ 34 (d := d__law_purse) rfl
 have F__law_purse : Fun K "_law_purse" "_law_purse" s__law_purse _ fd__law_purse := He5.fun_of D__law_purse
 have m__law_purse := He.glo_ok X G (c.fact 34 (f := .glo "_law_purse") rfl)
 have b__law_purse := F__law_purse.binds (ps := ["_law_script", "_law_k"]) fun _ _ _ _ _ _ us hl => match us, hl with | [_, _], _ => rfl
 obtain ⟨fd__law_take, D__law_take⟩ := c.def_ 35 (d := d__law_take) rfl
 have F__law_take : Fun K "_law_take" "_law_take" s__law_take _ fd__law_take := He5.fun_of D__law_take
 have m__law_take := He.glo_ok X G (c.fact 35 (f := .glo "_law_take") rfl)
 have b__law_take := F__law_take.binds (ps := ["_law_purse_here", "_law_many_here"]) fun _ _ _ _ _ _ us hl => match us, hl with | [_, _], _ => rfl
 obtain ⟨fd__law_names, D__law_names⟩ := c.def_ 36 (d := d__law_names) rfl
 have F__law_names : Fun K "_law_names" "_law_names" s__law_names _ fd__law_names := He5.fun_of D__law_names
 have m__law_names := He.glo_ok X G (c.fact 36 (f := .glo "_law_names") rfl)
 have b__law_names := F__law_names.binds (ps := ["_law_purse_here", "_law_many_here"]) fun _ _ _ _ _ _ us hl => match us, hl with | [_, _], _ => rfl
 obtain ⟨fd__law_many, D__law_many⟩ := c.def_ 37 (d := d__law_many) rfl
 have F__law_many : Fun K "_law_many" "_law_many" s__law_many _ fd__law_many := He5.fun_of D__law_many
 have m__law_many := He.glo_ok X G (c.fact 37 (f := .glo "_law_many") rfl)
 have b__law_many := F__law_many.binds (ps := ["_law_purse_here", "_law_most"]) fun _ _ _ _ _ _ us hl => match us, hl with | [_, _], _ => rfl
 obtain ⟨fd__law_wood, D__law_wood⟩ := c.def_ 38 (d := d__law_wood) rfl
 have F__law_wood : Fun K "_law_wood" "_law_wood" s__law_wood _ fd__law_wood := He5.fun_of D__law_wood
 have m__law_wood := He.glo_ok X G (c.fact 38 (f := .glo "_law_wood") rfl)
 have b__law_wood := F__law_wood.binds (ps := ["_law_purse_here", "_law_pool", "_law_room", "_law_low", "_law_most"]) fun _ _ _ _ _ _ us hl => match us, hl with | [_, _, _, _, _], _ => rfl
 obtain ⟨fd__law_kinds, D__law_kinds⟩ := c.def_ 39 (d := d__law_kinds) rfl
 have F__law_kinds : Fun K "_law_kinds" "_law_kinds" s__law_kinds _ fd__law_kinds := He5.fun_of D__law_kinds
 have m__law_kinds := He.glo_ok X G (c.fact 39 (f := .glo "_law_kinds") rfl)
 have b__law_kinds := F__law_kinds.binds (ps := ["_law_script", "_law_names_here"]) fun _ _ _ _ _ _ us hl => match us, hl with | [_, _], _ => rfl
 obtain ⟨fd__law_kind, D__law_kind⟩ := c.def_ 40 (d := d__law_kind) rfl
 have F__law_kind : Fun K "_law_kind" "_law_kind" s__law_kind _ fd__law_kind := He5.fun_of D__law_kind
 have m__law_kind := He.glo_ok X G (c.fact 40 (f := .glo "_law_kind") rfl)
 have b__law_kind := F__law_kind.binds (ps := ["_law_kinds_here", "_law_name"]) fun _ _ _ _ _ _ us hl => match us, hl with | [_, _], _ => rfl
 obtain ⟨fd__law_book, D__law_book⟩ := c.def_ 41 (d := d__law_book) rfl
 have F__law_book : Fun K "_law_book" "_law_book" s__law_book _ fd__law_book := He5.fun_of D__law_book
 have m__law_book := He.glo_ok X G (c.fact 41 (f := .glo "_law_book") rfl)
 have b__law_book := F__law_book.binds (ps := ["_law_kinds_here"]) fun _ _ _ _ _ _ us hl => match us, hl with | [_], _ => rfl
 obtain ⟨fd__law_bare, D__law_bare⟩ := c.def_ 42 (d := d__law_bare) rfl
 have F__law_bare : Fun K "_law_bare" "_law_bare" s__law_bare _ fd__law_bare := He5.fun_of D__law_bare
 have m__law_bare := He.glo_ok X G (c.fact 42 (f := .glo "_law_bare") rfl)
 have b__law_bare := F__law_bare.binds (ps := ["_law_grove", "_law_ahead"]) fun _ _ _ _ _ _ us hl => match us, hl with | [_, _], _ => rfl
 obtain ⟨fd__law_which, D__law_which⟩ := c.def_ 43 (d := d__law_which) rfl
 have F__law_which : Fun K "_law_which" "_law_which" s__law_which _ fd__law_which := He5.fun_of D__law_which
 have m__law_which := He.glo_ok X G (c.fact 43 (f := .glo "_law_which") rfl)
 have b__law_which := F__law_which.binds (ps := ["_law_e"]) fun _ _ _ _ _ _ us hl => match us, hl with | [_], _ => rfl
 obtain ⟨fd__law_done, D__law_done⟩ := c.def_ 44 (d := d__law_done) rfl
 have F__law_done : Fun K "_law_done" "_law_done" s__law_done _ fd__law_done := He5.fun_of D__law_done
 have m__law_done := He.glo_ok X G (c.fact 44 (f := .glo "_law_done") rfl)
 have b__law_done := F__law_done.binds (ps := ["_law_book_here", "_law_grove", "_law_place", "_law_rule", "_law_said"]) fun _ _ _ _ _ _ us hl => match us, hl with | [_, _, _, _, _], _ => rfl
 obtain ⟨fd__law_played, D__law_played⟩ := c.def_ 45 (d := d__law_played) rfl
 have F__law_played : Fun K "_law_played" "_law_played" s__law_played _ fd__law_played := He5.fun_of D__law_played
 have m__law_played := He.glo_ok X G (c.fact 45 (f := .glo "_law_played") rfl)
 have b__law_played := F__law_played.binds (ps := ["_law_play", "_law_place", "_law_rule", "_law_said"]) fun _ _ _ _ _ _ us hl => match us, hl with | [_, _, _, _], _ => rfl
 obtain ⟨fd__law_looked, D__law_looked⟩ := c.def_ 46 (d := d__law_looked) rfl
 have F__law_looked : Fun K "_law_looked" "_law_looked" s__law_looked _ fd__law_looked := He5.fun_of D__law_looked
 have m__law_looked := He.glo_ok X G (c.fact 46 (f := .glo "_law_looked") rfl)
 have b__law_looked := F__law_looked.binds (ps := ["_law_book_here", "_law_grove"]) fun _ _ _ _ _ _ us hl => match us, hl with | [_, _], _ => rfl
 obtain ⟨fd__law_strange, D__law_strange⟩ := c.def_ 47 (d := d__law_strange) rfl
 have F__law_strange : Fun K "_law_strange" "_law_strange" s__law_strange _ fd__law_strange := He5.fun_of D__law_strange
 have m__law_strange := He.glo_ok X G (c.fact 47 (f := .glo "_law_strange") rfl)
 have b__law_strange := F__law_strange.binds (ps := ["_law_grove", "_law_strange_here", "_law_way"]) fun _ _ _ _ _ _ us hl => match us, hl with | [_, _, _], _ => rfl
 obtain ⟨fd__law_least, D__law_least⟩ := c.def_ 48 (d := d__law_least) rfl
 have F__law_least : Fun K "_law_least" "_law_least" s__law_least _ fd__law_least := He5.fun_of D__law_least
 have m__law_least := He.glo_ok X G (c.fact 48 (f := .glo "_law_least") rfl)
 have b__law_least := F__law_least.binds (ps := ["_law_grove", "_law_names_here"]) fun _ _ _ _ _ _ us hl => match us, hl with | [_, _], _ => rfl
 obtain ⟨fd__law_places, D__law_places⟩ := c.def_ 49 (d := d__law_places) rfl
 have F__law_places : Fun K "_law_places" "_law_places" s__law_places _ fd__law_places := He5.fun_of D__law_places
 have m__law_places := He.glo_ok X G (c.fact 49 (f := .glo "_law_places") rfl)
 have b__law_places := F__law_places.binds (ps := ["_law_purse_here", "_law_grove"]) fun _ _ _ _ _ _ us hl => match us, hl with | [_, _], _ => rfl
 obtain ⟨fd__law_whole, D__law_whole⟩ := c.def_ 50 (d := d__law_whole) rfl
 have F__law_whole : Fun K "_law_whole" "_law_whole" s__law_whole _ fd__law_whole := He5.fun_of D__law_whole
 have m__law_whole := He.glo_ok X G (c.fact 50 (f := .glo "_law_whole") rfl)
 have b__law_whole := F__law_whole.binds (ps := ["_law_thing"]) fun _ _ _ _ _ _ us hl => match us, hl with | [_], _ => rfl
 obtain ⟨fd__law_same, D__law_same⟩ := c.def_ 51 (d := d__law_same) rfl
 have F__law_same : Fun K "_law_same" "_law_same" s__law_same _ fd__law_same := He5.fun_of D__law_same
 have m__law_same := He.glo_ok X G (c.fact 51 (f := .glo "_law_same") rfl)
 have b__law_same := F__law_same.binds (ps := ["_law_here", "_law_place"]) fun _ _ _ _ _ _ us hl => match us, hl with | [_, _], _ => rfl
 obtain ⟨fd__law_due, D__law_due⟩ := c.def_ 52 (d := d__law_due) rfl
 have F__law_due : Fun K "_law_due" "_law_due" s__law_due _ fd__law_due := He5.fun_of D__law_due
 have m__law_due := He.glo_ok X G (c.fact 52 (f := .glo "_law_due") rfl)
 have b__law_due := F__law_due.binds (ps := ["_law_kinds_here", "_law_grove", "_law_place", "_law_rule", "_law_said"]) fun _ _ _ _ _ _ us hl => match us, hl with | [_, _, _, _, _], _ => rfl
 obtain ⟨fd__law_holds, D__law_holds⟩ := c.def_ 53 (d := d__law_holds) rfl
 have F__law_holds : Fun K "_law_holds" "_law_holds" s__law_holds _ fd__law_holds := He5.fun_of D__law_holds
 have m__law_holds := He.glo_ok X G (c.fact 53 (f := .glo "_law_holds") rfl)
 have b__law_holds := F__law_holds.binds (ps := ["_law_kinds_here", "_law_book_here", "_law_grove", "_law_place", "_law_rule", "_law_said"]) fun _ _ _ _ _ _ us hl => match us, hl with | [_, _, _, _, _, _], _ => rfl
 obtain ⟨fd_law, D_law⟩ := c.def_ 54 (d := d_law) rfl
 have F_law : Fun K "law" "law" s_law _ fd_law := He5.fun_of D_law
 have m_law := He.glo_ok X G (c.fact 54 (f := .glo "law") rfl)
 obtain ⟨fd_NoKind___init__, D_NoKind___init__⟩ := c.def_ 55 (d := d_NoKind___init__) rfl
 have F_NoKind___init__ : Fun K "__init__" "NoKind.__init__" s_NoKind___init__ _ fd_NoKind___init__ := He5.fun_of D_NoKind___init__
 have b_NoKind___init__ := F_NoKind___init__.binds (ps := ["self", "kind"]) fun _ _ _ _ _ _ us hl => match us, hl with | [_, _], _ => rfl
 obtain ⟨fd_Endless___init__, D_Endless___init__⟩ := c.def_ 56 (d := d_Endless___init__) rfl
 have F_Endless___init__ : Fun K "__init__" "Endless.__init__" s_Endless___init__ _ fd_Endless___init__ := He5.fun_of D_Endless___init__
 have b_Endless___init__ := F_Endless___init__.binds (ps := ["self", "kind"]) fun _ _ _ _ _ _ us hl => match us, hl with | [_, _], _ => rfl
 obtain ⟨fd_Book___init__, D_Book___init__⟩ := c.def_ 57 (d := d_Book___init__) rfl
 have F_Book___init__ : Fun K "__init__" "Book.__init__" s_Book___init__ _ fd_Book___init__ := He5.fun_of D_Book___init__
 have b_Book___init__ := F_Book___init__.binds (ps := ["self", "kinds"]) fun _ _ _ _ _ _ us hl => match us, hl with | [_, _], _ => rfl
 obtain ⟨fd_Book_names, D_Book_names⟩ := c.def_ 58 (d := d_Book_names) rfl
 have F_Book_names : Fun K "names" "Book.names" s_Book_names _ fd_Book_names := He5.fun_of D_Book_names
 have b_Book_names := F_Book_names.binds (ps := ["self"]) fun _ _ _ _ _ _ us hl => match us, hl with | [_], _ => rfl
 obtain ⟨fd_Book_spreads, D_Book_spreads⟩ := c.def_ 59 (d := d_Book_spreads) rfl
 have F_Book_spreads : Fun K "spreads" "Book.spreads" s_Book_spreads _ fd_Book_spreads := He5.fun_of D_Book_spreads
 have b_Book_spreads := F_Book_spreads.binds (ps := ["self", "name"]) fun _ _ _ _ _ _ us hl => match us, hl with | [_, _], _ => rfl
 obtain ⟨fd_Book_rules, D_Book_rules⟩ := c.def_ 60 (d := d_Book_rules) rfl
 have F_Book_rules : Fun K "rules" "Book.rules" s_Book_rules _ fd_Book_rules := He5.fun_of D_Book_rules
 have b_Book_rules := F_Book_rules.binds (ps := ["self", "name"]) fun _ _ _ _ _ _ us hl => match us, hl with | [_, _], _ => rfl
 obtain ⟨fd_Play___init__, D_Play___init__⟩ := c.def_ 61 (d := d_Play___init__) rfl
 have F_Play___init__ : Fun K "__init__" "Play.__init__" s_Play___init__ _ fd_Play___init__ := He5.fun_of D_Play___init__
 have b_Play___init__ := F_Play___init__.binds (ps := ["self", "book", "grove"]) fun _ _ _ _ _ _ us hl => match us, hl with | [_, _, _], _ => rfl
 obtain ⟨fd_Play_grove, D_Play_grove⟩ := c.def_ 62 (d := d_Play_grove) rfl
 have F_Play_grove : Fun K "grove" "Play.grove" s_Play_grove _ fd_Play_grove := He5.fun_of D_Play_grove
 have b_Play_grove := F_Play_grove.binds (ps := ["self"]) fun _ _ _ _ _ _ us hl => match us, hl with | [_], _ => rfl
 obtain ⟨fd_Play_falls, D_Play_falls⟩ := c.def_ 63 (d := d_Play_falls) rfl
 have F_Play_falls : Fun K "falls" "Play.falls" s_Play_falls _ fd_Play_falls := He5.fun_of D_Play_falls
 have b_Play_falls := F_Play_falls.binds (ps := ["self"]) fun _ _ _ _ _ _ us hl => match us, hl with | [_], _ => rfl
 obtain ⟨fd_Play_fall, D_Play_fall⟩ := c.def_ 64 (d := d_Play_fall) rfl
 have F_Play_fall : Fun K "fall" "Play.fall" s_Play_fall _ fd_Play_fall := He5.fun_of D_Play_fall
 have b_Play_fall := F_Play_fall.binds (ps := ["self", "place", "rule", "number"]) fun _ _ _ _ _ _ us hl => match us, hl with | [_, _, _, _], _ => rfl
 obtain ⟨fd_Play_back, D_Play_back⟩ := c.def_ 65 (d := d_Play_back) rfl
 have F_Play_back : Fun K "back" "Play.back" s_Play_back _ fd_Play_back := He5.fun_of D_Play_back
 have b_Play_back := F_Play_back.binds (ps := ["self"]) fun _ _ _ _ _ _ us hl => match us, hl with | [_], _ => rfl
 obtain ⟨fd_Play_again, D_Play_again⟩ := c.def_ 66 (d := d_Play_again) rfl
 have F_Play_again : Fun K "again" "Play.again" s_Play_again _ fd_Play_again := He5.fun_of D_Play_again
 have b_Play_again := F_Play_again.binds (ps := ["self"]) fun _ _ _ _ _ _ us hl => match us, hl with | [_], _ => rfl
 have B : BI mg := ⟨He.free_ok X G (c.fact 55 (f := .free "len") rfl), He.free_ok X G (c.fact 56 (f := .free "isinstance") rfl), He.free_ok X G (c.fact 57 (f := .free "int") rfl), He.free_ok X G (c.fact 58 (f := .free "bool") rfl), He.free_ok X G (c.fact 59 (f := .free "str") rfl), He.free_ok X G (c.fact 60 (f := .free "tuple") rfl), He.free_ok X G (c.fact 61 (f := .free "list") rfl), He.free_ok X G (c.fact 62 (f := .free "all") rfl), He.free_ok X G (c.fact 63 (f := .free "zip") rfl), He.free_ok X G (c.fact 64 (f := .free "sum") rfl), He.free_ok X G (c.fact 65 (f := .free "max") rfl), He.free_ok X G (c.fact 66 (f := .free "range") rfl), He.free_ok X G (c.fact 67 (f := .free "enumerate") rfl), He.free_ok X G (c.fact 68 (f := .free "abs") rfl), He.free_ok X G (c.fact 69 (f := .free "sorted") rfl), He.free_ok X G (c.fact 70 (f := .free "min") rfl), He.free_ok X G (c.fact 71 (f := .free "reversed") rfl), He.free_ok X G (c.fact 72 (f := .free "any") rfl), He.free_ok X G (c.fact 73 (f := .free "set") rfl), He.free_ok X G (c.fact 74 (f := .free "dict") rfl), He.free_ok X G (c.fact 75 (f := .free "repr") rfl)⟩
 obtain ⟨xk_NoKind, cx⟩ := He.ba cx
 obtain ⟨xk_Endless, cx⟩ := He.ba cx
 obtain ⟨xt_NO_GROVES, cx⟩ := He.ba cx
 have W_NO_GROVES := no2B_ok xt_NO_GROVES
 have T : ErrsM K mg (He.ga K) eC eN eK := ermB_ok cx (fun n hn => by
   rcases List.mem_cons.mp hn with e | hn
   ·rw [e]; exact He.glo_ok X G (c.fact 78 (f := .glo "NoGrove") rfl)
   rcases List.mem_cons.mp hn with e | hn
   ·rw [e]; exact He.glo_ok X G (c.fact 79 (f := .glo "NoPlace") rfl)
   rcases List.mem_cons.mp hn with e | hn
   ·rw [e]; exact He.glo_ok X G (c.fact 80 (f := .glo "NoBook") rfl)
   rcases List.mem_cons.mp hn with e | hn
   ·rw [e]; exact He.glo_ok X G (c.fact 81 (f := .glo "NoKind") rfl)
   rcases List.mem_cons.mp hn with e | hn
   ·rw [e]; exact He.glo_ok X G (c.fact 82 (f := .glo "NoRule") rfl)
   rcases List.mem_cons.mp hn with e | hn
   ·rw [e]; exact He.glo_ok X G (c.fact 83 (f := .glo "NoNumber") rfl)
   rcases List.mem_cons.mp hn with e | hn
   ·rw [e]; exact He.glo_ok X G (c.fact 84 (f := .glo "TooGreat") rfl)
   rcases List.mem_cons.mp hn with e | hn
   ·rw [e]; exact He.glo_ok X G (c.fact 85 (f := .glo "NoRise") rfl)
   rcases List.mem_cons.mp hn with e | hn
   ·rw [e]; exact He.glo_ok X G (c.fact 86 (f := .glo "NoFall") rfl)
   rcases List.mem_cons.mp hn with e | hn
   ·rw [e]; exact He.glo_ok X G (c.fact 87 (f := .glo "Endless") rfl)
   rcases List.mem_cons.mp hn with e | hn
   ·rw [e]; exact He.glo_ok X G (c.fact 88 (f := .glo "NoRow") rfl)
   rcases List.mem_cons.mp hn with e | hn
   ·rw [e]; exact He.glo_ok X G (c.fact 89 (f := .glo "NoName") rfl)
   exact nomatch hn) (He.glo_ok X G (c.fact 76 (f := .glo "FellError") rfl)) (He.free_ok X G (c.fact 77 (f := .free "ValueError") rfl)) (fun n hn => by
   rcases List.mem_cons.mp hn with e | hn
   ·rw [e]; exact He.noat_ok (c.fact 90 (f := .noat "NoKind" "kind") rfl)
   exact nomatch hn)
 have L_LETTERS := He.str_ok X G (c.fact 91 (f := .str "LETTERS" "abcdefghijklmnopqrstuvwxyz") rfl)
 have L_LONGEST_NAME := He.int_ok X G (c.fact 92 (f := .int "LONGEST_NAME" (8)) rfl)
 have L_MOST_KINDS := He.int_ok X G (c.fact 93 (f := .int "MOST_KINDS" (8)) rfl)
 have L_MOST_RULES := He.int_ok X G (c.fact 94 (f := .int "MOST_RULES" (4)) rfl)
 have L_MOST_RULE_PARTS := He.int_ok X G (c.fact 95 (f := .int "MOST_RULE_PARTS" (4)) rfl)
 have L_MOST_MANY := He.int_ok X G (c.fact 96 (f := .int "MOST_MANY" (1000000000)) rfl)
 have L_MOST_PARTS_STANDING := He.int_ok X G (c.fact 97 (f := .int "MOST_PARTS_STANDING" (2000)) rfl)
 have L_MOST_DEEP_STANDING := He.int_ok X G (c.fact 98 (f := .int "MOST_DEEP_STANDING" (60)) rfl)
 have V_NO_GROVES := He.glo_ok X G (c.fact 99 (f := .glo "NO_GROVES") rfl)
 have O_NoBook : Own K mg "NoBook" (He.ga K "NoBook") := by
  obtain ⟨y1, y2, y3, y4⟩ := He.exc_ok (c.fact 100 (f := .exc "NoBook") rfl)
  exact ⟨He.glo_ok X G (c.fact 80 (f := .glo "NoBook") rfl), y1, y2, y3, y4⟩
 have O_NoFall : Own K mg "NoFall" (He.ga K "NoFall") := by
  obtain ⟨y1, y2, y3, y4⟩ := He.exc_ok (c.fact 101 (f := .exc "NoFall") rfl)
  exact ⟨He.glo_ok X G (c.fact 86 (f := .glo "NoFall") rfl), y1, y2, y3, y4⟩
 have O_NoNumber : Own K mg "NoNumber" (He.ga K "NoNumber") := by
  obtain ⟨y1, y2, y3, y4⟩ := He.exc_ok (c.fact 102 (f := .exc "NoNumber") rfl)
  exact ⟨He.glo_ok X G (c.fact 83 (f := .glo "NoNumber") rfl), y1, y2, y3, y4⟩
 have O_NoPlace : Own K mg "NoPlace" (He.ga K "NoPlace") := by
  obtain ⟨y1, y2, y3, y4⟩ := He.exc_ok (c.fact 103 (f := .exc "NoPlace") rfl)
  exact ⟨He.glo_ok X G (c.fact 79 (f := .glo "NoPlace") rfl), y1, y2, y3, y4⟩
 have O_NoRule : Own K mg "NoRule" (He.ga K "NoRule") := by
  obtain ⟨y1, y2, y3, y4⟩ := He.exc_ok (c.fact 104 (f := .exc "NoRule") rfl)
  exact ⟨He.glo_ok X G (c.fact 82 (f := .glo "NoRule") rfl), y1, y2, y3, y4⟩
 have O_TooGreat : Own K mg "TooGreat" (He.ga K "TooGreat") := by
  obtain ⟨y1, y2, y3, y4⟩ := He.exc_ok (c.fact 105 (f := .exc "TooGreat") rfl)
  exact ⟨He.glo_ok X G (c.fact 84 (f := .glo "TooGreat") rfl), y1, y2, y3, y4⟩
 have m_NoKind := He.glo_ok X G (c.fact 81 (f := .glo "NoKind") rfl)
 have h_NoKind := He.meth_ok (c.fact 106 (f := .meth "NoKind" "__init__") rfl)
 have n_NoKind := He.noat_ok (c.fact 90 (f := .noat "NoKind" "kind") rfl)
 have m_Endless := He.glo_ok X G (c.fact 87 (f := .glo "Endless") rfl)
 have h_Endless := He.meth_ok (c.fact 107 (f := .meth "Endless" "__init__") rfl)
 have n_Endless := He.noat_ok (c.fact 108 (f := .noat "Endless" "kind") rfl)
 have m_Book := He.glo_ok X G (c.fact 109 (f := .glo "Book") rfl)
 have c_Book := He.cls_ok (c.fact 110 (f := .cls "Book") rfl)
 have T_Book : ClsF K (He.ga K "Book") ["spread_by_name", "rows_by_name"] := ⟨c_Book, fun f hf => by
   rcases List.mem_cons.mp hf with e | hf
   ·rw [e]; exact He.noat_ok (c.fact 111 (f := .noat "Book" "spread_by_name") rfl)
   rcases List.mem_cons.mp hf with e | hf
   ·rw [e]; exact He.noat_ok (c.fact 112 (f := .noat "Book" "rows_by_name") rfl)
   exact nomatch hf⟩
 have h_Book___init__ := He.mkr_ok (c.fact 113 (f := .mkr "Book") rfl)
 have h_Book_names := He.meth_ok (c.fact 114 (f := .meth "Book" "names") rfl)
 have h_Book_spreads := He.meth_ok (c.fact 115 (f := .meth "Book" "spreads") rfl)
 have h_Book_rules := He.meth_ok (c.fact 116 (f := .meth "Book" "rules") rfl)
 have m_Play := He.glo_ok X G (c.fact 117 (f := .glo "Play") rfl)
 have c_Play := He.cls_ok (c.fact 118 (f := .cls "Play") rfl)
 have T_Play : ClsF K (He.ga K "Play") ["book", "stood", "done", "undone"] := ⟨c_Play, fun f hf => by
   rcases List.mem_cons.mp hf with e | hf
   ·rw [e]; exact He.noat_ok (c.fact 119 (f := .noat "Play" "book") rfl)
   rcases List.mem_cons.mp hf with e | hf
   ·rw [e]; exact He.noat_ok (c.fact 120 (f := .noat "Play" "stood") rfl)
   rcases List.mem_cons.mp hf with e | hf
   ·rw [e]; exact He.noat_ok (c.fact 121 (f := .noat "Play" "done") rfl)
   rcases List.mem_cons.mp hf with e | hf
   ·rw [e]; exact He.noat_ok (c.fact 122 (f := .noat "Play" "undone") rfl)
   exact nomatch hf⟩
 have h_Play___init__ := He.mkr_ok (c.fact 123 (f := .mkr "Play") rfl)
 have h_Play_grove := He.meth_ok (c.fact 124 (f := .meth "Play" "grove") rfl)
 have h_Play_falls := He.meth_ok (c.fact 125 (f := .meth "Play" "falls") rfl)
 have h_Play_fall := He.meth_ok (c.fact 126 (f := .meth "Play" "fall") rfl)
 have h_Play_back := He.meth_ok (c.fact 127 (f := .meth "Play" "back") rfl)
 have h_Play_again := He.meth_ok (c.fact 128 (f := .meth "Play" "again") rfl)
 have e := hfa.symm.trans m_law
 cases e
 have b := FunD.bindsA (ps := ["_law_script"]) D_law fun _ _ _ _ _ _ us hl => match us, hl with | [_], _ => rfl
 refine ⟨fd_law, fun s v => b s [v] rfl, fun base _ _ => ?_⟩
 have g_is_whole : Got P w K mg base "is_whole" ["thing"] 1 (spWhole K) := ⟨_, _, ok_is_whole B F_is_whole, F_is_whole.kp, b_is_whole, m_is_whole⟩
 have g_is_many : Got P w K mg base "is_many" ["thing"] 2 (spMany K []) := ⟨_, _, ok_is_many B g_is_whole F_is_many, F_is_many.kp, b_is_many, m_is_many⟩
 have g_is_rising : Got P w K mg base "is_rising" ["things"] 1 (spRising K) := ⟨_, _, ok_is_rising B F_is_rising, F_is_rising.kp, b_is_rising, m_is_rising⟩
 have g_run_of : Got P w K mg base "run_of" ["text", "at", "signs"] 1 (spRunOf K) := ⟨_, _, ok_run_of B F_run_of, F_run_of.kp, b_run_of, m_run_of⟩
 have g_is_name : Got P w K mg base "is_name" ["thing"] 2 (spName K) := ⟨_, _, ok_is_name B L_LETTERS L_LONGEST_NAME g_run_of F_is_name, F_is_name.kp, b_is_name, m_is_name⟩
 have r_grove : ∀ n, Got P w K mg base "is_tree" ["thing"] (n + 3) (spIsTree K n) /\ Got P w K mg base "is_grove" ["thing"] (n + 3) (spIsGrove K n) /\ Got P w K mg base "are_grove_pairs" ["things"] (n + 3) (spPairsQ K true n) := by
  intro n
  induction n with
  | zero => exact ⟨⟨_, _, none_is_tree, F_is_tree.kp, b_is_tree, m_is_tree⟩, ⟨_, _, none_is_grove, F_is_grove.kp, b_is_grove, m_is_grove⟩, ⟨_, _, none_are_grove_pairs, F_are_grove_pairs.kp, b_are_grove_pairs, m_are_grove_pairs⟩⟩
  | succ n ih => exact ⟨⟨_, _, ok_is_tree B g_is_name ih.2.1 F_is_tree, F_is_tree.kp, b_is_tree, m_is_tree⟩, ⟨_, _, ok_is_grove B g_is_rising ih.2.2 F_is_grove, F_is_grove.kp, b_is_grove, m_is_grove⟩, ⟨_, _, ok_are_grove_pairs B g_is_many ih.1 F_are_grove_pairs, F_are_grove_pairs.kp, b_are_grove_pairs, m_are_grove_pairs⟩⟩
 have g_is_tree : Got P w K mg base "is_tree" ["thing"] 84 (spIsTree K 81) := (r_grove 81).1
 have g_is_grove : Got P w K mg base "is_grove" ["thing"] 84 (spIsGrove K 81) := (r_grove 81).2.1
 have gL_are_grove_pairs : Got P w K mg base "are_grove_pairs" ["things"] 63 (spPairsQ K false 60) := ⟨_, _, ok_are_grove_pairsL B g_is_many (r_grove 59).1 F_are_grove_pairs, F_are_grove_pairs.kp, b_are_grove_pairs, m_are_grove_pairs⟩
 have r_pairs_within : ∀ n, Got P w K mg base "pairs_within" ["grove"] (n) (spPairsW K n) := by
  intro n
  induction n with
  | zero => exact ⟨_, _, none_pairs_within, F_pairs_within.kp, b_pairs_within, m_pairs_within⟩
  | succ n ih => exact ⟨_, _, ok_pairs_within ih F_pairs_within, F_pairs_within.kp, b_pairs_within, m_pairs_within⟩
 have g_pairs_within := r_pairs_within 70
 have g_parts_of : Got P w K mg base "parts_of" ["grove"] 71 (spPartsOf K 70) := ⟨_, _, ok_parts_of B g_pairs_within F_parts_of, F_parts_of.kp, b_parts_of, m_parts_of⟩
 have r_deep_of : ∀ n, Got P w K mg base "deep_of" ["grove"] (n) (spDeepOf K n) := by
  intro n
  induction n with
  | zero => exact ⟨_, _, none_deep_of, F_deep_of.kp, b_deep_of, m_deep_of⟩
  | succ n ih => exact ⟨_, _, ok_deep_of B ih F_deep_of, F_deep_of.kp, b_deep_of, m_deep_of⟩
 have g_deep_of := r_deep_of 70
 have r_bare_places : ∀ n, Got P w K mg base "bare_places" ["grove"] (n) (spBareP K n) := by
  intro n
  induction n with
  | zero => exact ⟨_, _, none_bare_places, F_bare_places.kp, b_bare_places, m_bare_places⟩
  | succ n ih => exact ⟨_, _, ok_bare_places B ih F_bare_places, F_bare_places.kp, b_bare_places, m_bare_places⟩
 have g_bare_places := r_bare_places 20
 have g_tree_at : GotXN P w K mg base "tree_at" ["grove", "place"] 2 (spTreeAt K (He.ga K "NoPlace")) := ⟨_, _, ok_tree_at B O_NoPlace g_is_whole F_tree_at, F_tree_at.kp, b_tree_at, m_tree_at⟩
 have g_joined : Got P w K mg base "joined" ["pairs"] (1) (spJoinedW K Gr.tEnc) := ⟨_, _, ok_joined B F_joined, F_joined.kp, b_joined, m_joined⟩
 have g_together : Got P w K mg base "together" ["one", "other"] (2) (spTogetherF K) := ⟨_, _, ok_together B g_joined F_together, F_together.kp, b_together, m_together⟩
 have g_without : Got P w K mg base "without" ["grove", "tree", "many"] (1) (spWithout K) := ⟨_, _, ok_without B F_without, F_without.kp, b_without, m_without⟩
 have g_times : Got P w K mg base "times" ["grove", "many"] (1) (spTimes K) := ⟨_, _, ok_times B F_times, F_times.kp, b_times, m_times⟩
 have g_kinds_within : Got P w K mg base "kinds_within" ["grove"] (71) (spKindsF K) := ⟨_, _, ok_kinds_within B g_pairs_within F_kinds_within, F_kinds_within.kp, b_kinds_within, m_kinds_within⟩
 have O_NoKind : OwnI P w K mg base "NoKind" (He.ga K "NoKind") 1 := ⟨m_NoKind, oexCB_ok xk_NoKind, n_NoKind, ⟨_, _, h_NoKind.at_, beq_iff_eq.mp h_NoKind.fn, ok_NoKind___init__ F_NoKind___init__, b_NoKind___init__⟩⟩
 have g_Book_names : GotM P w K mg base (He.ga K "Book") "names" ["self"] (1) (spBNames K (He.ga K "Book")) := ⟨_, _, ok_Book_names B T_Book F_Book_names, h_Book_names, b_Book_names, c_Book⟩
 have g_check_kind : GotXN P w K mg base "check_kind" ["book", "name"] (3) (spCheckK K (He.ga K "Book") (He.ga K "NoKind")) := ⟨_, _, ok_check_kind B O_NoKind g_Book_names F_check_kind, F_check_kind.kp, b_check_kind, m_check_kind⟩
 have g_Book_rules : GotMXN P w K mg base (He.ga K "Book") "rules" ["self", "name"] (4) (spBRules K (He.ga K "Book") (He.ga K "NoKind")) := ⟨_, _, ok_Book_rules B T_Book g_check_kind F_Book_rules, h_Book_rules, b_Book_rules, c_Book⟩
 have g_rules_from_nought : GotXN P w K mg base "rules_from_nought" ["book", "name"] (5) (spRulesN K (He.ga K "Book") (He.ga K "NoKind")) := ⟨_, _, ok_rules_from_nought B V_NO_GROVES W_NO_GROVES g_Book_rules F_rules_from_nought, F_rules_from_nought.kp, b_rules_from_nought, m_rules_from_nought⟩
 have g_check_kinds : GotXN P w K mg base "check_kinds" ["book", "grove"] (72) (spCheckKX K (He.ga K "Book") (He.ga K "NoKind")) := ⟨_, _, ok_check_kinds B g_kinds_within g_check_kind F_check_kinds, F_check_kinds.kp, b_check_kinds, m_check_kinds⟩
 have g_is_rule : Got P w K mg base "is_rule" ["thing"] (85) (spIsRule K) := ⟨_, _, ok_is_rule B L_MOST_RULE_PARTS L_MOST_MANY g_is_grove g_pairs_within F_is_rule, F_is_rule.kp, b_is_rule, m_is_rule⟩
 have g_is_kind : Got P w K mg base "is_kind" ["thing"] (86) (spIsKind K) := ⟨_, _, ok_is_kind B L_MOST_RULES g_is_name g_is_rule F_is_kind, F_is_kind.kp, b_is_kind, m_is_kind⟩
 have g_is_rule_of : Got P w K mg base "is_rule_of" ["rule", "names"] (71) (spIsRuleOf K) := ⟨_, _, ok_is_rule_of B g_pairs_within F_is_rule_of, F_is_rule_of.kp, b_is_rule_of, m_is_rule_of⟩
 have g_are_kinds : Got P w K mg base "are_kinds" ["things"] (87) (spAreKinds K) := ⟨_, _, ok_are_kinds B L_MOST_KINDS g_is_kind g_is_rule_of F_are_kinds, F_are_kinds.kp, b_are_kinds, m_are_kinds⟩
 have g_number_of : Got P w K mg base "number_of" ["grove", "tree"] (1) (spNumOf K) := ⟨_, _, ok_number_of B F_number_of, F_number_of.kp, b_number_of, m_number_of⟩
 have g_rule_at : GotXN P w K mg base "rule_at" ["book", "kind", "rule"] (6) (spRuleAt K (He.ga K "Book") (He.ga K "NoRule")) := ⟨_, _, ok_rule_at B O_NoRule g_rules_from_nought g_is_whole F_rule_at, F_rule_at.kp, b_rule_at, m_rule_at⟩
 have g_check_number : GotXN P w K mg base "check_number" ["thing"] (2) (spChkNum K (He.ga K "NoNumber")) := ⟨_, _, ok_check_number B O_NoNumber g_is_whole F_check_number, F_check_number.kp, b_check_number, m_check_number⟩
 have g_Book_spreads : GotMXN P w K mg base (He.ga K "Book") "spreads" ["self", "name"] (4) (spBSpreads K (He.ga K "Book") (He.ga K "NoKind")) := ⟨_, _, ok_Book_spreads B T_Book g_check_kind F_Book_spreads, h_Book_spreads, b_Book_spreads, c_Book⟩
 have g_further_ones : Got P w K mg base "further_ones" ["book", "kind", "number"] (5) (spFar K (He.ga K "Book")) := ⟨_, _, ok_further_ones B g_Book_spreads F_further_ones, F_further_ones.kp, b_further_ones, m_further_ones⟩
 have r_struck : ∀ n, Got P w K mg base "struck" ["book", "grove", "place", "fresh", "number"] (n + 6) (spStruck K (He.ga K "Book") n) := by
  intro n
  induction n with
  | zero => exact ⟨_, _, none_struck, F_struck.kp, b_struck, m_struck⟩
  | succ n ih => exact ⟨_, _, ok_struck B g_without g_together ih g_further_ones g_number_of F_struck, F_struck.kp, b_struck, m_struck⟩
 have g_struck : Got P w K mg base "struck" ["book", "grove", "place", "fresh", "number"] (64 + 6) (spStruck K (He.ga K "Book") 64) := r_struck 64
 have g_grown : Got P w K mg base "grown" ["rule", "number"] (3) (spGrown K) := ⟨_, _, ok_grown B g_together g_times F_grown, F_grown.kp, b_grown, m_grown⟩
 have g_check_bound : GotXN P w K mg base "check_bound" ["grove"] (72) (spChkBound K (He.ga K "TooGreat")) := ⟨_, _, ok_check_bound B O_TooGreat L_MOST_PARTS_STANDING L_MOST_DEEP_STANDING g_parts_of g_deep_of F_check_bound, F_check_bound.kp, b_check_bound, m_check_bound⟩
 have g_fallen : GotXN P w K mg base "fallen" ["book", "grove", "place", "rule", "number"] (74) (spFallenX K (He.ga K "Book") (He.ga K "NoKind") (He.ga K "NoPlace") (He.ga K "NoRule") (He.ga K "NoNumber") (He.ga K "TooGreat")) := ⟨_, _, ok_fallen B O_NoPlace g_check_kinds g_tree_at g_rule_at g_check_number g_struck g_grown g_check_bound F_fallen, F_fallen.kp, b_fallen, m_fallen⟩
 have g_choices : GotXN P w K mg base "choices" ["book", "grove"] (76) (spChoicesK K (He.ga K "Book") (He.ga K "NoKind")) := ⟨_, _, ok_choices B g_check_kinds g_bare_places g_rules_from_nought g_tree_at F_choices, F_choices.kp, b_choices, m_choices⟩
 have g__law_purse : Got P w K mg base "_law_purse" ["_law_script", "_law_k"] (1) (spPurseW K) := ⟨_, _, ok__law_purse B F__law_purse, F__law_purse.kp, b__law_purse, m__law_purse⟩
 have g__law_take : Got P w K mg base "_law_take" ["_law_purse_here", "_law_many_here"] (1) (spTakeW) := ⟨_, _, ok__law_take B F__law_take, F__law_take.kp, b__law_take, m__law_take⟩
 have g__law_names : Got P w K mg base "_law_names" ["_law_purse_here", "_law_many_here"] (2) (spWords K) := ⟨_, _, ok__law_names B g__law_take F__law_names, F__law_names.kp, b__law_names, m__law_names⟩
 have g__law_many : Got P w K mg base "_law_many" ["_law_purse_here", "_law_most"] (2) (spManyP) := ⟨_, _, ok__law_many B g__law_take F__law_many, F__law_many.kp, b__law_many, m__law_many⟩
 have r__law_wood : ∀ n, Got P w K mg base "_law_wood" ["_law_purse_here", "_law_pool", "_law_room", "_law_low", "_law_most"] (n + 2) (spWood K n) := by
  intro n
  induction n with
  | zero => exact ⟨_, _, none__law_wood, F__law_wood.kp, b__law_wood, m__law_wood⟩
  | succ n ih => exact ⟨_, _, ok__law_wood B g__law_take ih g__law_many F__law_wood, F__law_wood.kp, b__law_wood, m__law_wood⟩
 have g__law_wood : Got P w K mg base "_law_wood" ["_law_purse_here", "_law_pool", "_law_room", "_law_low", "_law_most"] (13 + 2) (spWood K 13) := r__law_wood 13
 have g__law_kinds : Got P w K mg base "_law_kinds" ["_law_script", "_law_names_here"] (16) (spKindsP K) := ⟨_, _, ok__law_kinds B g__law_purse g__law_take g__law_wood F__law_kinds, F__law_kinds.kp, b__law_kinds, m__law_kinds⟩
 have g__law_kind : Got P w K mg base "_law_kind" ["_law_kinds_here", "_law_name"] (1) (spKindP K) := ⟨_, _, ok__law_kind B F__law_kind, F__law_kind.kp, b__law_kind, m__law_kind⟩
 have g_Book___init__ : GotIN P w K mg base "Book" (He.ga K "Book") ["self", "kinds"] (88) (spBInit K (He.ga K "Book") (He.ga K "NoBook")) := ⟨_, _, ok_Book___init__ B O_NoBook T_Book g_are_kinds F_Book___init__, h_Book___init__, b_Book___init__, m_Book⟩
 have g__law_book : Got P w K mg base "_law_book" ["_law_kinds_here"] (90) (spMkBook K (He.ga K "Book")) := ⟨_, _, ok__law_book B g_Book___init__ F__law_book, F__law_book.kp, b__law_book, m__law_book⟩
 have r__law_bare : ∀ n, Got P w K mg base "_law_bare" ["_law_grove", "_law_ahead"] (n) (spBareF K n) := by
  intro n
  induction n with
  | zero => exact ⟨_, _, none__law_bare, F__law_bare.kp, b__law_bare, m__law_bare⟩
  | succ n ih => exact ⟨_, _, ok__law_bare B ih F__law_bare, F__law_bare.kp, b__law_bare, m__law_bare⟩
 have g__law_bare : Got P w K mg base "_law_bare" ["_law_grove", "_law_ahead"] (70) (spBareF K 70) := r__law_bare 70
 have g__law_which : GotPN P w K mg base "_law_which" ["_law_e"] (1) (spWhich K (He.ga K) eC) := ⟨_, _, ok__law_which B T F__law_which, F__law_which.kp, b__law_which, m__law_which⟩
 have g__law_done : Got P w K mg base "_law_done" ["_law_book_here", "_law_grove", "_law_place", "_law_rule", "_law_said"] (80) (spDone34 K (He.ga K "Book")) := ⟨_, _, ok__law_done B T g_fallen g__law_which F__law_done, F__law_done.kp, b__law_done, m__law_done⟩
 have g_Play_grove : GotM P w K mg base (He.ga K "Play") "grove" ["self"] (1) (spPyGrove K (He.ga K "Play")) := ⟨_, _, ok_Play_grove B T_Play F_Play_grove, h_Play_grove, b_Play_grove, c_Play⟩
 have g_Play_fall : GotMXN P w K mg base (He.ga K "Play") "fall" ["self", "place", "rule", "number"] (76) (spPyFall K (He.ga K "Play") (He.ga K "Book") (He.ga K "NoPlace") (He.ga K "NoRule") (He.ga K "NoNumber") (He.ga K "TooGreat")) := ⟨_, _, ok_Play_fall B T_Play g_fallen g_Play_grove F_Play_fall, h_Play_fall, b_Play_fall, c_Play⟩
 have g__law_played : Got P w K mg base "_law_played" ["_law_play", "_law_place", "_law_rule", "_law_said"] (80) (spPlayed34 K (He.ga K "Play") (He.ga K "Book")) := ⟨_, _, ok__law_played B T g_Play_fall g__law_which F__law_played, F__law_played.kp, b__law_played, m__law_played⟩
 have g_Play___init__ : GotIN P w K mg base "Play" (He.ga K "Play") ["self", "book", "grove"] (75) (spPyInitX K (He.ga K "Play") (He.ga K "Book") (He.ga K "NoKind")) := ⟨_, _, ok_Play___init__ B T_Play g_check_kinds F_Play___init__, h_Play___init__, b_Play___init__, m_Play⟩
 have g__law_looked : Got P w K mg base "_law_looked" ["_law_book_here", "_law_grove"] (80) (spLooked34 K (He.ga K "Book")) := ⟨_, _, ok__law_looked B T g_choices g__law_which g_Play___init__ F__law_looked, F__law_looked.kp, b__law_looked, m__law_looked⟩
 have g__law_strange : Got P w K mg base "_law_strange" ["_law_grove", "_law_strange_here", "_law_way"] (1) (spStrange34 K) := ⟨_, _, ok__law_strange B F__law_strange, F__law_strange.kp, b__law_strange, m__law_strange⟩
 have r__law_least : ∀ n, Got P w K mg base "_law_least" ["_law_grove", "_law_names_here"] (n) (spLeast K n) := by
  intro n
  induction n with
  | zero => exact ⟨_, _, none__law_least, F__law_least.kp, b__law_least, m__law_least⟩
  | succ n ih => exact ⟨_, _, ok__law_least B ih F__law_least, F__law_least.kp, b__law_least, m__law_least⟩
 have g__law_least : Got P w K mg base "_law_least" ["_law_grove", "_law_names_here"] (70) (spLeast K 70) := r__law_least 70
 have g__law_places : Got P w K mg base "_law_places" ["_law_purse_here", "_law_grove"] (72) (spPlaces34 K) := ⟨_, _, ok__law_places B g__law_bare g__law_take F__law_places, F__law_places.kp, b__law_places, m__law_places⟩
 have g__law_whole : Got P w K mg base "_law_whole" ["_law_thing"] (1) (spWholeP K) := ⟨_, _, ok__law_whole B F__law_whole, F__law_whole.kp, b__law_whole, m__law_whole⟩
 have g__law_same : Got P w K mg base "_law_same" ["_law_here", "_law_place"] (1) (spSame34 K) := ⟨_, _, ok__law_same B F__law_same, F__law_same.kp, b__law_same, m__law_same⟩
 have g__law_due : Got P w K mg base "_law_due" ["_law_kinds_here", "_law_grove", "_law_place", "_law_rule", "_law_said"] (90) (spDue34 K) := ⟨_, _, ok__law_due B g__law_least g__law_bare g__law_same g__law_whole g__law_kind F__law_due, F__law_due.kp, b__law_due, m__law_due⟩
 have g_Play_falls : GotM P w K mg base (He.ga K "Play") "falls" ["self"] (1) (spPyFalls K (He.ga K "Play")) := ⟨_, _, ok_Play_falls B T_Play F_Play_falls, h_Play_falls, b_Play_falls, c_Play⟩
 have g__law_holds : Got P w K mg base "_law_holds" ["_law_kinds_here", "_law_book_here", "_law_grove", "_law_place", "_law_rule", "_law_said"] (100) (spHolds34 K (He.ga K "Play") (He.ga K "Book")) := ⟨_, _, ok__law_holds B g__law_due g__law_done g_Play___init__ g__law_played g_Play_grove g_Play_falls F__law_holds, F__law_holds.kp, b__law_holds, m__law_holds⟩
 have g_Play_back : GotMXN P w K mg base (He.ga K "Play") "back" ["self"] (3) (spPyBack K (He.ga K "Play") (He.ga K "NoFall")) := ⟨_, _, ok_Play_back B O_NoFall T_Play g_Play_grove F_Play_back, h_Play_back, b_Play_back, c_Play⟩
 have g_Play_again : GotMXN P w K mg base (He.ga K "Play") "again" ["self"] (3) (spPyAgain K (He.ga K "Play") (He.ga K "NoFall")) := ⟨_, _, ok_Play_again B O_NoFall T_Play F_Play_again, h_Play_again, b_Play_again, c_Play⟩
 exact ok_law B g__law_names g__law_purse g__law_take g__law_kinds g__law_wood g__law_strange g__law_book g__law_least g__law_looked g__law_places g__law_holds F_law
end FT
open PySem PySem.W PySem.Calls PyProof.Rows
set_option maxRecDepth 100000 in
set_option maxHeartbeats 0 in
theorem PySem.Challenge.cw_felltimber_k34_falls_refused_holds : PySem.Challenge.rw_felltimber_k34_falls_refused.Holds := by
 w_on; o_law
 refine HandSHeadRun.head_any (r := OpenLaw.row PySem.Challenge.rw_felltimber_k34_falls_refused) (q := view (OpenLaw.row PySem.Challenge.rw_felltimber_k34_falls_refused).prog [86]) (H := FT.hk) (ob := FT.ob) (M := 6000) (loose := FT.loose) (d := HandSHeadRun.topDef (OpenLaw.row PySem.Challenge.rw_felltimber_k34_falls_refused).prog 86) (kwd := []) FT.ob_eq
  (by kernel_rfl) (fun s => by kernel_rfl) FT.run (by kernel_rfl) (by kernel_rfl) (by kernel_rfl) (by rfl) (by first | assumption | decide +kernel) (by decide +kernel) ⟨rfl, rfl, rfl, rfl, rfl, by decide +kernel⟩ ?hw ?hc
 case hw => w_witness2
 case hc =>
  refine L2.walk_ofE (l := PySem.Challenge.rw_felltimber_k34_falls_refused) (n := 63) (k := 215) (x := "_law_script") (CX := L2.CX0) rfl (by decide) (by kernel_rfl) ⟨rfl, by decide, by decide⟩ ?F (fun _ _ _ _ z => z)
  intro w mg fa h Y G hmg0
  obtain ⟨K, KX, c, cx⟩ := Y
  have hmg : mg ("law" : PySem.Str) = some (.ref fa) := by
   have e : (HandSHeadRun.topDef (OpenLaw.row PySem.Challenge.rw_felltimber_k34_falls_refused).prog 86).name = ("law" : PySem.Str) := by kernel_rfl
   rw [<- e]
   exact hmg0
  obtain ⟨fd, hb, hF⟩ := FT.facts (P := (PySem.Challenge.rw_felltimber_k34_falls_refused).prog) (w := w) KX G hmg c cx
  exact ⟨K, fd, FT.spLaw K, KX, hb, fun H a ns hl _ hS => ⟨a, ns, rfl, hS, hl, fun _ => rfl⟩, hF⟩
