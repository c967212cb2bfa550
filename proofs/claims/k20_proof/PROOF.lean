import PyProof.Rows.All
import Wide.All
import OpenK.AllK
import Wide.FinOn
import KE.KStateDown
import KE.SortData
import HandS.ForMost
import HandS.More
import HandS.Walk
import HandS.Zip
import HandS.Style
import HandS.TupAny
import HandS.IsInst
import HandS.Wide
import HandS.Flow
import HandS.WordsExc
import HandS.Defaults
import HandS.Head0
import HandS.Head1
import HandS.Head2
import HandS.HeadEnd
import HandS.HeadHook1
import HandS.HeadHook2
import HandS.HeadNt
import KE.DataCmp
import HandS.SortKw
import PyProof.TupleOfSeq
import HandS.NoneIn
import HandS.ExcIs
import HandS.RevRange
import KE.GoesEnum
import KE.DataAny
import HandS.Conv
import HandS.SortInts
import HandS.FStr
import HandS.Strs
import HandS.TupSets
import HandS.DictComp
import HandS.ExcInit
import HandS.SetKeys
import HandS.SetTxt0
import HandS.SetBool
import HandS.SetFor
import KE.GoesEnumKw
import PyProof.Rows.CallKwBuiltin
import KE.DatumOrd
import HandS.ExcField
import HandS.HotCalls
import HandS.Replace
import HandS.TupLe
import PySem.Challenge.RW_felltimber_k20_whole_groves_grown
set_option Elab.async false
set_option linter.all false
set_option maxRecDepth 100000
set_option maxHeartbeats 4000000
namespace FT
open PySem PySem.W PySem.Spec PyProof.Rows L2
structure SB (ps : List Addr) (H H' : Hp) : Prop where
  keep : ∀ b o, H b = some o → b ∉ ps → H' b = some o
  tups : ∀ b xs, H b = some (.tup xs) → H' b = some (.tup xs)
  frzs : ∀ b o u, H b = some (.frz o u) → H' b = some (.frz o u)
  dom : ∀ b, H' b = none → H b = none
section
variable {K : PySem.W.Frag} {ps qs : List Addr} {H H' H1 H2 : Hp} {a p : Addr} {xs : List V}
theorem SB.refl : SB ps H H := ⟨fun _ _ h _ => h, fun _ _ h => h, fun _ _ _ h => h, fun _ h => h⟩
theorem SB.trans (a : SB ps H H1) (b : SB ps H1 H2) : SB ps H H2 :=
  ⟨fun c o h n => b.keep c o (a.keep c o h n) n, fun c x h => b.tups c x (a.tups c x h), fun c o u h => b.frzs c o u (a.frzs c o u h), fun c h => a.dom c (b.dom c h)⟩
theorem SB.mono (h : SB ps H H') (hs : ∀ b ∈ ps, b ∈ qs) : SB qs H H' := ⟨fun c o e n => h.keep c o e fun z => n (hs c z), h.tups, h.frzs, h.dom⟩
theorem SB.nil (h : SB [] H H') : SB ps H H' := h.mono fun _ z => absurd z (List.not_mem_nil)
theorem SB.new (h : H p = none) (o : HO) : SB ps H (upd H p o) := by
  refine ⟨fun b u e _ => ?_, fun b u e => ?_, fun b v u e => ?_, fun b e => ?_⟩
  · rw [upd_ne (ne_of_none e h)]; exact e
  · rw [upd_ne (ne_of_none e h)]; exact e
  · rw [upd_ne (ne_of_none e h)]; exact e
  · by_cases q : b = p
    · subst q; exact h
    · rw [upd_ne q] at e; exact e
theorem SB.set (h : H p = some (.lst xs)) (hp : p ∈ ps) (o : HO) : SB ps H (upd H p o) := by
  refine ⟨fun b u e n => ?_, fun b u e => ?_, fun b v u e => ?_, fun b e => ?_⟩
  · rw [upd_ne (fun (z : b = p) => n (by rw [z]; exact hp))]; exact e
  · rw [upd_ne (fun (z : b = p) => by subst z; rw [h] at e; cases e)]; exact e
  · rw [upd_ne (fun (z : b = p) => by subst z; rw [h] at e; cases e)]; exact e
  · by_cases q : b = p
    · subst q; rw [upd_same] at e; cases e
    · rw [upd_ne q] at e; exact e
theorem SB.drop (h : SB (p :: ps) H H') (n : H p = none) : SB ps H H' := by
  refine ⟨fun b o e m => h.keep b o e fun z => ?_, h.tups, h.frzs, h.dom⟩
  rcases List.mem_cons.mp z with z | z
  · subst z; rw [n] at e; cases e
  · exact m z
theorem SB.sqT (e : SB ps H H') (h : SqT K H a xs) : SqT K H' a xs := by
  rcases h with (h | ⟨o, h⟩) | h
  · exact .inl (.inl (e.tups _ _ h))
  · exact .inl (.inr ⟨o, e.frzs _ _ _ h⟩)
  · exact .inr h
theorem SB.sqL (e : SB ps H H') (n : a ∉ ps) (h : SqL K H a xs) : SqL K H' a xs := by
  rcases h with (h | ⟨o, h⟩) | h
  · exact .inl (.inl (e.keep _ _ h n))
  · exact .inl (.inr ⟨o, e.frzs _ _ _ h⟩)
  · exact .inr h
theorem SB.ne (e : SB ps H H') {b : Addr} {o : HO} (h : H b = some o) {q : Addr} (n : H' q = none) : b ≠ q := fun z => by
  subst z; rw [e.dom b n] at h; cases h
end
inductive Lad where
  | nil
  | cons (e : Lad) (m : Int) (r : Lad)
  deriving DecidableEq
namespace Lad
def encs : Lad → List PyData
  | .nil => []
  | .cons e m r => .tuple [.tuple e.encs, .int m] :: r.encs
def enc (l : Lad) : PyData := .tuple l.encs
def parts : Lad → Nat
  | .nil => 0
  | .cons e _ r => 1 + e.parts + r.parts
def deep : Lad → Nat
  | .nil => 0
  | .cons e _ r => max (1 + e.deep) r.deep
def len : Lad → Nat
  | .nil => 0
  | .cons _ _ r => 1 + r.len
theorem len_parts : ∀ l : Lad, l.len ≤ l.parts
  | .nil => Nat.le_refl _
  | .cons e m r => by have := len_parts r; show 1 + r.len ≤ 1 + e.parts + r.parts; omega
theorem alikes : ∀ l k : Lad, alikeAll l.encs k.encs = true
  | .nil, _ => by simp [encs, alikeAll]
  | .cons e m r, .nil => by simp [encs, alikeAll]
  | .cons e m r, .cons e' m' r' => by
    have h1 := alikes e e'
    have h2 := alikes r r'
    simp [encs, alikeAll, alike, h1, h2]
theorem alike_enc (l k : Lad) : alike l.enc k.enc = true := by
  show alike (.tuple l.encs) (.tuple k.encs) = true
  rw [alike]; exact alikes l k
theorem encs_depth : ∀ l : Lad, PyData.depthAll l.encs ≤ 2 * l.deep
  | .nil => by simp [encs, PyData.depthAll, deep]
  | .cons e m r => by
    have h1 := encs_depth e
    have h2 := encs_depth r
    simp only [encs, PyData.depthAll, PyData.depth, deep]
    omega
theorem enc_depth (l : Lad) : l.enc.depth ≤ 2 * l.deep + 1 := by
  have := encs_depth l
  simp only [enc, PyData.depth]
  omega
end Lad
def rLtD (K : PySem.W.Frag) : R2 := fun x y H Q => ∃ d e, Dp K H x d ∧ Dp K H y e ∧ alike d e = true ∧ d ≠ .none ∧ d.depth ≤ 100 ∧ Q (.bl (dataLt d e)) H
section
variable {X : Cx}
theorem op_ltD (hu : X.A.units + 100 < cLine) : OpR X (compareOp .Lt) (rLtD X.K) := by
  intro pins s σ H x y v u Q I rx ry h
  obtain ⟨d, e, hd, he, al, hn, hdp, q⟩ := h
  obtain ⟨as, r1⟩ := Dp.reads I d x v hd rx
  obtain ⟨bs, r2⟩ := Dp.reads I e y u he ry
  exact rcLt_alike d e X.A s v u as bs r1 r2 al hn (by have := Nat.min_le_left d.depth e.depth; omega) X.prog X.w X.xe _ ⟨.bl _, H, I, rfl, q⟩
end
mutual
def noList : PyData → Bool
  | .list _ => false
  | .dict _ => false
  | .tuple ds => noLists ds
  | _ => true
def noLists : List PyData → Bool
  | [] => true
  | d :: ds => noList d && noLists ds
end
section
variable {K : PySem.W.Frag} {ps : List Addr} {H H' : Hp}
mutual
theorem Dp_sb (e : SB ps H H') : ∀ (d : PyData) (v : V), noList d = true → Dp K H v d → Dp K H' v d
  | .none, _, _, h => by cases h; exact .non
  | .bool b, _, _, h => by cases h; exact .bl b
  | .int i, _, _, h => by cases h; exact .int i
  | .str x, _, _, h => by cases h; exact .str x
  | .list ds, _, n, _ => by simp [noList] at n
  | .dict ds, _, n, _ => by simp [noList] at n
  | .tuple ds, _, n, h => by
    cases h with
    | tup hs ha => exact .tup (e.sqT hs) (DpAll_sb e ds _ (by simpa [noList] using n) ha)
theorem DpAll_sb (e : SB ps H H') : ∀ (ds : List PyData) (vs : List V), noLists ds = true → DpAll K H vs ds → DpAll K H' vs ds
  | [], _, _, h => by cases h; exact .nil
  | d :: ds, _, n, h => by
    cases h with
    | cons h1 h2 =>
      simp [noLists] at n
      exact .cons (Dp_sb e d _ n.1 h1) (DpAll_sb e ds _ n.2 h2)
end
end
theorem Lad.noLists_encs : ∀ l : Lad, noLists l.encs = true
  | .nil => by simp [Lad.encs, noLists]
  | .cons e m r => by simp [Lad.encs, noLists, noList, Lad.noLists_encs e, Lad.noLists_encs r]
theorem Lad.noList_enc (l : Lad) : noList l.enc = true := by simp [Lad.enc, noList, Lad.noLists_encs l]
/-- at v stands the ladder l -/
def LA (K : PySem.W.Frag) (H : Hp) (v : V) (l : Lad) : Prop := Dp K H v l.enc
section
variable {K : PySem.W.Frag} {ps : List Addr} {H H' : Hp} {v : V} {l : Lad}
theorem LA.sb (h : LA K H v l) (e : SB ps H H') : LA K H' v l := Dp_sb e _ _ l.noList_enc h
theorem LA.tup (h : LA K H v l) : ∃ a xs, v = .ref a ∧ SqT K H a xs ∧ DpAll K H xs l.encs := by
  have h' : Dp K H v (.tuple l.encs) := h
  cases h' with
  | tup hs ha => exact ⟨_, _, rfl, hs, ha⟩
theorem DpAll.length : ∀ {vs : List V} {ds : List PyData}, DpAll K H vs ds → vs.length = ds.length
  | _, _, .nil => rfl
  | _, _, .cons _ t => by rw [List.length_cons, List.length_cons, DpAll.length t]
theorem DpAll.get : ∀ {vs : List V} {ds : List PyData} {i : Nat} {v : V}, DpAll K H vs ds → vs[i]? = some v → ∃ d, ds[i]? = some d ∧ Dp K H v d
  | _, _, _, _, .nil, e => by simp at e
  | _, _, 0, _, .cons h t, e => by simp at e; subst e; exact ⟨_, rfl, h⟩
  | _, _, i + 1, v, .cons h t, e => by
    obtain ⟨d, h1, h2⟩ := DpAll.get (i := i) (v := v) t (by simpa using e)
    exact ⟨d, by simpa using h1, h2⟩
end
end FT
namespace FT
open PySem PySem.W PySem.Spec PyProof.Rows L2
structure BI (mg : Str → Option Value) : Prop where
  len : mg "len" = none
  isinstance : mg "isinstance" = none
  int : mg "int" = none
  bool : mg "bool" = none
  str : mg "str" = none
  tuple : mg "tuple" = none
  list : mg "list" = none
  all : mg "all" = none
  zip : mg "zip" = none
  sum : mg "sum" = none
  max : mg "max" = none
  range : mg "range" = none
  enumerate : mg "enumerate" = none
  abs : mg "abs" = none
  sorted : mg "sorted" = none
  min : mg "min" = none
  reversed : mg "reversed" = none
  any : mg "any" = none
  set : mg "set" = none
  dict : mg "dict" = none
  repr : mg "repr" = none
structure Got (P : Program) (w : World) (K : PySem.W.Frag) (mg : Str → Option Value) (base : Heap) (x : Str) (ps : List Str) (k : Nat) (sp : Sp) : Prop where
  ex : ∃ (f : Addr) (fd : FuncData), FnOk P w K mg base CX0 k f fd ps sp ∧ PySem.W.keepIn K (.ref f) = true ∧ Binds K fd ps [] ∧ mg x = some (.ref f)
section
variable {X : Cx} {x : Str} {ps : List Str} {k : Nat} {sp : Sp} {e : Expr} {es : List Expr} {t : TA} {p pos : Pos}
theorem pe_got (G : Got X.prog X.w X.K X.mg X.base x ps k sp) (hr : Room k X.A) (hg : Gl X x) (ha : PA X (e :: es) t) (hdb : (x == ("__debug__" : Str)) = false := by decide) (he : starEach (e :: es) X.env = (false, eval e X.env) :: starEach es X.env := by rfl) (hpl : (backTo pos (starEach es X.env)).any (·.1) = false := by rfl) :
    PE X (.Call (.Name x p) (e :: es) [] pos) (tCall sp [] E0 t) := by
  obtain ⟨f, fd, h1, h2, h3, h4⟩ := G.ex
  exact pe_call h1 hr hg h4 h2 h3 .nil pass0 ha hdb he hpl
end
def rIsiN (K : PySem.W.Frag) : List V → Hp → VK → Prop := fun xs H Q => ∃ (x : V) (T n : String) (b : Bool), xs = [x, .ty T] ∧ TyX K H x (.type n) ∧ kitB n T = some b ∧ Q (.bl b) H
section
variable {X : Cx}
theorem call_isiN : CallR X (.builtin "isinstance") (rIsiN X.K) := by
  intro pins s σ H xs us Q I r h
  obtain ⟨x, T, n, b, rfl, ty, e, q⟩ := h
  exact call_isi pins s σ H _ us Q I r ⟨x, .ty T, .type n, .type T, b, rfl, .ty T, ty, kit_ty e, q⟩
theorem pe_ty {T : Str} {T' : String} {pos : Pos} (hg : Gl X T) (hm : X.mg T = none) (hv : bootBuiltins T = some (.type T')) (hn : T ≠ "__name__" := by decide) (hd : (T == ("__debug__" : Str)) = false := by decide) : PE X (.Name T pos) (tC (.ty T')) := pe_bltn hg hm hv rfl hn hd
theorem pe_isi {e : Expr} {te : TE} {T : Str} {T' : String} {p p2 pos : Pos} (B : BI X.mg) (he : PE X e te) (hm : X.mg T = none) (hv : bootBuiltins T = some (.type T')) (hg : Gl X "isinstance" := by rfl) (hg2 : Gl X T := by rfl) (hn : T ≠ "__name__" := by decide) (hd : (T == ("__debug__" : Str)) = false := by decide)
   (hs : starEach [e, .Name T p2] X.env = (false, eval e X.env) :: starEach [.Name T p2] X.env := by rfl) (hpl : (backTo pos (starEach [.Name T p2] X.env)).any (·.1) = false := by rfl) :
    PE X (.Call (.Name "isinstance" p) [e, .Name T p2] [] pos) (tCB (rIsiN X.K) (tCons te (tCons (tC (.ty T')) tNil))) :=
  pe_callB call_isiN hg B.isinstance boot_isinstance (pa_cons he (pa_cons (pe_ty hg2 hm hv hn hd) pa_nil) hs) (by decide) (by decide) hs hpl
end
mutual
inductive Th (K : PySem.W.Frag) (ps : List Addr) (H : Hp) : V → PyData → Prop
  | int (i : Int) : Th K ps H (.int i) (.int i)
  | tup {a : Addr} {xs : List V} {ds : List PyData} : SqT K H a xs → ThAll K ps H xs ds → Th K ps H (.ref a) (.tuple ds)
  | oth {v : V} {n : String} : TyX K H v (.type n) → kitB n "tuple" = some false → (kitB n "int" = some false ∨ n = "bool") → (∀ a, v = .ref a → a ∉ ps) → Th K ps H v .none
inductive ThAll (K : PySem.W.Frag) (ps : List Addr) (H : Hp) : List V → List PyData → Prop
  | nil : ThAll K ps H [] []
  | cons {v : V} {vs : List V} {d : PyData} {ds : List PyData} : Th K ps H v d → ThAll K ps H vs ds → ThAll K ps H (v :: vs) (d :: ds)
end
def manyD : PyData → Bool
  | .int i => decide (1 ≤ i)
  | _ => false
section
variable {K : PySem.W.Frag} {ps : List Addr} {H H' : Hp}
theorem SqT_ty {a : Addr} {xs : List V} (h : SqT K H a xs) : TyX K H (.ref a) (.type "tuple") := by
  rcases h with (h | ⟨o, h⟩) | ⟨o, its, n, h, c, _⟩
  · exact .base (.tup h)
  · exact .fTuple h
  · exact .kTuple h c
theorem Th.ty {v : V} {d : PyData} (h : Th K ps H v d) : ∃ n b, TyX K H v (.type n) ∧ kitB n "tuple" = some b ∧ (b = true → ∃ a xs ds, v = .ref a ∧ d = .tuple ds ∧ SqT K H a xs ∧ ThAll K ps H xs ds) ∧ (b = false → (∃ i, d = .int i) ∨ d = .none) := by
  cases h with
  | int i => exact ⟨"int", false, .base (.int i), by decide +kernel, fun z => (nomatch z), fun _ => .inl ⟨i, rfl⟩⟩
  | tup hs ha => exact ⟨"tuple", true, (SqT_ty hs), by decide +kernel, fun _ => ⟨_, _, _, rfl, rfl, hs, ha⟩, fun z => (nomatch z)⟩
  | oth ty k1 k2 _ => exact ⟨_, false, ty, k1, fun z => (nomatch z), fun _ => .inr rfl⟩
theorem Th.whole {v : V} {d : PyData} (h : Th K ps H v d) : ∃ n b1 b2, TyX K H v (.type n) ∧ kitB n "int" = some b1 ∧ (b1 = true → kitB n "bool" = some b2) ∧ ((b1 && !b2) = true → ∃ i, v = .int i ∧ d = .int i) ∧ ((b1 && !b2) = false → manyD d = false) := by
  cases h with
  | int i => exact ⟨"int", true, false, .base (.int i), by decide +kernel, fun _ => by decide +kernel, fun _ => ⟨i, rfl, rfl⟩, fun z => (nomatch z)⟩
  | tup hs ha => exact ⟨"tuple", false, false, (SqT_ty hs), by decide +kernel, fun z => (nomatch z), fun z => (nomatch z), fun _ => rfl⟩
  | @oth v n ty k1 k2 _ =>
    rcases k2 with k2 | k2
    · exact ⟨n, false, false, ty, k2, fun z => (nomatch z), fun z => (nomatch z), fun _ => rfl⟩
    · subst k2
      exact ⟨"bool", true, true, ty, by decide +kernel, fun _ => by decide +kernel, fun z => (nomatch z), fun _ => rfl⟩
theorem ThAll.length : ∀ {vs : List V} {ds : List PyData}, ThAll K ps H vs ds → vs.length = ds.length
  | _, _, .nil => rfl
  | _, _, .cons _ t => by rw [List.length_cons, List.length_cons, ThAll.length t]
theorem ThAll.get : ∀ {vs : List V} {ds : List PyData} {i : Nat} {v : V}, ThAll K ps H vs ds → vs[i]? = some v → ∃ d, ds[i]? = some d ∧ Th K ps H v d
  | _, _, _, _, .nil, e => by simp at e
  | _, _, 0, _, .cons h t, e => by simp at e; subst e; exact ⟨_, rfl, h⟩
  | _, _, i + 1, v, .cons h t, e => by
    obtain ⟨d, h1, h2⟩ := ThAll.get (i := i) (v := v) t (by simpa using e)
    exact ⟨d, by simpa using h1, h2⟩
theorem TyX_sb {v : V} {n : String} (e : SB ps H H') (hn : ∀ a, v = .ref a → a ∉ ps) (h : TyX K H v (.type n)) : TyX K H' v (.type n) := by
  cases h with
  | base h =>
    cases h with
    | non => exact .base .non
    | bl x => exact .base (.bl x)
    | int i => exact .base (.int i)
    | str x => exact .base (.str x)
    | flt x => exact .base (.flt x)
    | lst h => exact .base (.lst (e.keep _ _ h (hn _ rfl)))
    | frz h => exact .base (.frz (e.frzs _ _ _ h))
    | tup h => exact .base (.tup (e.tups _ _ h))
    | dK h => exact .base (.dK (e.keep _ _ h (hn _ rfl)))
    | dT h => exact .base (.dT (e.keep _ _ h (hn _ rfl)))
  | byt b => exact .byt b
  | set h => exact .set (e.keep _ _ h (hn _ rfl))
  | kList h c => exact .kList h c
  | kTuple h c => exact .kTuple h c
  | kDict h c => exact .kDict h c
  | fTuple h => exact .fTuple (e.frzs _ _ _ h)
  | fDict h => exact .fDict (e.frzs _ _ _ h)
end
end FT
namespace FT
open PySem PySem.W PySem.Spec PyProof.Rows L2
/-- the values vs bear the data bs -/
inductive Bears (K : PySem.W.Frag) (H : Hp) {β : Type} (enc : β → PyData) : List V → List β → Prop
  | nil : Bears K H enc [] []
  | cons {v : V} {vs : List V} {b : β} {bs : List β} : Dp K H v (enc b) → Bears K H enc vs bs → Bears K H enc (v :: vs) (b :: bs)
section
variable {K : PySem.W.Frag} {H H' : Hp} {β : Type} {enc : β → PyData} {ps : List Addr}
theorem Bears.length : ∀ {vs : List V} {bs : List β}, Bears K H enc vs bs → vs.length = bs.length
  | _, _, .nil => rfl
  | _, _, .cons _ t => by rw [List.length_cons, List.length_cons, Bears.length t]
theorem Bears.dp : ∀ {vs : List V} {bs : List β}, Bears K H enc vs bs → DpAll K H vs (bs.map enc)
  | _, _, .nil => .nil
  | _, _, .cons h t => .cons h (Bears.dp t)
theorem Bears.of : ∀ {vs : List V} {bs : List β}, DpAll K H vs (bs.map enc) → Bears K H enc vs bs
  | [], [], _ => .nil
  | _ :: _, [], h => by cases h
  | [], _ :: _, h => by cases h
  | v :: vs, b :: bs, h => by
    cases h with
    | cons h1 h2 => exact .cons h1 (Bears.of h2)
theorem Bears.get : ∀ {vs : List V} {bs : List β} {i : Nat} {v : V}, Bears K H enc vs bs → vs[i]? = some v → ∃ b, bs[i]? = some b ∧ Dp K H v (enc b)
  | _, _, _, _, .nil, e => by simp at e
  | _, _, 0, _, .cons h t, e => by simp at e; subst e; exact ⟨_, rfl, h⟩
  | _, _, i + 1, v, .cons h t, e => by
    obtain ⟨d, h1, h2⟩ := Bears.get (i := i) (v := v) t (by simpa using e)
    exact ⟨d, by simpa using h1, h2⟩
theorem Bears.append : ∀ {xs ys : List V} {bs cs : List β}, Bears K H enc xs bs → Bears K H enc ys cs → Bears K H enc (xs ++ ys) (bs ++ cs)
  | _, _, _, _, .nil, h => h
  | _, _, _, _, .cons a b, h => .cons a (Bears.append b h)
theorem Bears.reverse : ∀ {xs : List V} {bs : List β}, Bears K H enc xs bs → Bears K H enc xs.reverse bs.reverse
  | _, _, .nil => .nil
  | _, _, .cons a b => by
    rw [List.reverse_cons, List.reverse_cons]
    exact Bears.append (Bears.reverse b) (.cons a .nil)
theorem Bears.sb (e : SB ps H H') (hn : ∀ b, noList (enc b) = true) : ∀ {xs : List V} {bs : List β}, Bears K H enc xs bs → Bears K H' enc xs bs
  | _, _, .nil => .nil
  | _, _, .cons a b => .cons (Dp_sb e _ _ (hn _) a) (Bears.sb e hn b)
theorem Bears.take (n : Nat) : ∀ {xs : List V} {bs : List β}, Bears K H enc xs bs → Bears K H enc (xs.take n) (bs.take n) := by
  induction n with
  | zero => intro xs bs h; rw [List.take_zero, List.take_zero]; exact .nil
  | succ n ih =>
    intro xs bs h
    cases h with
    | nil => exact .nil
    | cons a b => exact .cons a (ih b)
theorem Bears.drop (n : Nat) : ∀ {xs : List V} {bs : List β}, Bears K H enc xs bs → Bears K H enc (xs.drop n) (bs.drop n) := by
  induction n with
  | zero => intro xs bs h; exact h
  | succ n ih =>
    intro xs bs h
    cases h with
    | nil => exact .nil
    | cons a b => exact ih b
end
section
variable {X : Cx} {pins : List (Addr × Obj)} {σ : L2.St} {H : Hp} {s : Shared} {β : Type} {enc : β → PyData}
theorem each_of (I : Inv X pins σ H s) : ∀ {vs : List V} {us : List Value} {bs : List β}, Bears X.K H enc vs bs → Vals vs us →
    EachIs (fun u b => ∃ v, RelV v u ∧ Dp X.K H v (enc b)) us bs ∧ EachIs (fun u b => ∃ as, Reads s.heap u (enc b) as) us bs
  | _, _, _, .nil, .nil => ⟨.nil, .nil⟩
  | _, _, _, .cons h t, .cons r u => by
    obtain ⟨h1, h2⟩ := each_of I t u
    exact ⟨.cons ⟨_, r, h⟩ h1, .cons (Dp.reads I _ _ _ h r) h2⟩
theorem of_each {K : PySem.W.Frag} : ∀ {us : List Value} {bs : List β}, EachIs (fun u b => ∃ v, RelV v u ∧ Dp K H v (enc b)) us bs → ∃ vs, Vals vs us ∧ Bears K H enc vs bs
  | _, _, .nil => ⟨[], .nil, .nil⟩
  | _, _, .cons ⟨v, r, h⟩ t => by
    obtain ⟨vs, h1, h2⟩ := of_each t
    exact ⟨v :: vs, .cons r h1, .cons h h2⟩
end
end FT
namespace FT
open PySem PySem.W PySem.Spec PyProof.Rows L2
section
variable {P : Program} {w : World} {K : PySem.W.Frag} {mg : Str → Option Value} {base : Heap} {f : Addr} {fd : FuncData}
def spWhole (K : PySem.W.Frag) : Sp := fun vs H Q _ => ∃ (v : V) (n : String) (b1 b2 : Bool), vs = [v] ∧ TyX K H v (.type n) ∧ kitB n "int" = some b1 ∧ (b1 = true → kitB n "bool" = some b2) ∧ Q (.bl (b1 && !b2)) H
def spMany (K : PySem.W.Frag) (ps : List Addr) : Sp := fun vs H Q _ => ∃ (v : V) (d : PyData), vs = [v] ∧ Th K ps H v d ∧ Q (.bl (manyD d)) H
end
def ltsD : List PyData → List Bool
  | [] => []
  | [_] => []
  | a :: b :: r => dataLt a b :: ltsD (b :: r)
def risingD (ds : List PyData) : Bool := (ltsD ds).all id
theorem ltsD_length : ∀ ds : List PyData, (ltsD ds).length = ds.length - 1
  | [] => rfl
  | [_] => rfl
  | a :: b :: r => by
    have h := ltsD_length (b :: r)
    show (ltsD (b :: r)).length + 1 = _
    rw [h]; simp
theorem ltsD_get : ∀ (ds : List PyData) (i : Nat) (d e : PyData), ds[i]? = some d → ds[i + 1]? = some e → (ltsD ds)[i]? = some (dataLt d e)
  | [], _, _, _, h, _ => by simp at h
  | [_], _, _, _, _, h => by simp at h
  | a :: b :: r, 0, d, e, h1, h2 => by simp at h1 h2; subst h1 h2; rfl
  | a :: b :: r, i + 1, d, e, h1, h2 => by
    have := ltsD_get (b :: r) i d e (by simpa using h1) (by simpa using h2)
    simpa [ltsD] using this
theorem cut1 (xs : List V) : cutV xs (some 1) none = xs.drop 1 := by
  unfold cutV
  have h1 : HT.sIx xs.length 0 (some 1) = min 1 xs.length := HT.sIx_nat xs.length 0 1
  have h2 : HT.sIx xs.length xs.length none = xs.length := rfl
  rw [h1, h2]
  cases xs with
  | nil => rfl
  | cons x r =>
    have : min 1 (x :: r).length = 1 := by simp
    rw [this]
    simp
section
variable {P : Program} {w : World} {K : PySem.W.Frag} {mg : Str → Option Value} {base : Heap} {f : Addr} {fd : FuncData}
def OkD (d : PyData) : Prop := noList d = true ∧ d ≠ .none ∧ d.depth ≤ 100
def spRising (K : PySem.W.Frag) : Sp := fun vs H Q _ => ∃ (a : Addr) (xs : List V) (ds : List PyData), vs = [.ref a] ∧ SqL K H a xs ∧ DpAll K H xs ds ∧ (∀ d ∈ ds, OkD d) ∧ AllAlike ds ∧ xs.length ≤ 1000 ∧
  ∀ H', SB [] H H' → Q (.bl (risingD ds)) H'
abbrev N_rising : List Str := ["things", "low", "high"]
end
def Lad.lt (l k : Lad) : Bool := dataLt l.enc k.enc
namespace Lad
def ps : Lad → List (Lad × Int)
  | .nil => []
  | .cons e m r => (e, m) :: r.ps
theorem mem_parts : ∀ (l : Lad) (p : Lad × Int), p ∈ l.ps → p.1.parts < l.parts
  | .nil, _, h => by simp [ps] at h
  | .cons e m r, p, h => by
    rcases List.mem_cons.mp h with h | h
    · subst h; show e.parts < 1 + e.parts + r.parts; omega
    · have := mem_parts r p h; show p.1.parts < 1 + e.parts + r.parts; omega
theorem mem_deep : ∀ (l : Lad) (p : Lad × Int), p ∈ l.ps → p.1.deep < l.deep
  | .nil, _, h => by simp [ps] at h
  | .cons e m r, p, h => by
    rcases List.mem_cons.mp h with h | h
    · subst h; show e.deep < max (1 + e.deep) r.deep; omega
    · have := mem_deep r p h; show p.1.deep < max (1 + e.deep) r.deep; omega
end Lad
section
variable {P : Program} {w : World} {K : PySem.W.Frag} {mg : Str → Option Value} {base : Heap} {f : Addr} {fd : FuncData}
abbrev gPair (K : PySem.W.Frag) : TG := gTup K 2 (gCons (gName 1) (gCons (gName 2) gNil))
end
def exp0 : PyData → PyData
  | .tuple (e :: _) => e
  | _ => .none
mutual
def ladD : PyData → Bool
  | .tuple ds => ladPs ds && risingD (ds.map exp0).reverse
  | _ => false
def ladPs : List PyData → Bool
  | [] => true
  | d :: ds => ladP d && ladPs ds
def ladP : PyData → Bool
  | .tuple ds => ladP2 ds
  | _ => false
def ladP2 : List PyData → Bool
  | [] => false
  | e :: r => ladD e && ladP3 r
def ladP3 : List PyData → Bool
  | [] => false
  | m :: r => manyD m && r.isEmpty
end
theorem depthAll_get {ds : List PyData} {i : Nat} {d : PyData} (h : ds[i]? = some d) : d.depth ≤ PyData.depthAll ds := PyData.depth_le_depthAll ds d (List.mem_of_getElem? h)
section
variable {P : Program} {w : World} {K : PySem.W.Frag} {mg : Str → Option Value} {base : Heap} {f : Addr} {fd : FuncData} {ps : List Addr}
mutual
def wide : PyData → Nat
  | .tuple ds => max ds.length (wides ds)
  | _ => 0
def wides : List PyData → Nat
  | [] => 0
  | d :: ds => max (wide d) (wides ds)
end
theorem wide_mem : ∀ (ds : List PyData) (d : PyData), d ∈ ds → wide d ≤ wides ds
  | [], _, h => by simp at h
  | e :: ds, d, h => by
    rw [wides]
    rcases List.mem_cons.mp h with h | h
    · subst h; omega
    · have := wide_mem ds d h; omega
theorem wide_tuple (ds : List PyData) : wide (.tuple ds) = max ds.length (wides ds) := by rw [wide]
end
section
variable {K : PySem.W.Frag} {H : Hp}
theorem DpAll.append : ∀ {xs ys : List V} {ds es : List PyData}, DpAll K H xs ds → DpAll K H ys es → DpAll K H (xs ++ ys) (ds ++ es)
  | _, _, _, _, .nil, h => h
  | _, _, _, _, .cons a b, h => .cons a (DpAll.append b h)
theorem DpAll.reverse : ∀ {xs : List V} {ds : List PyData}, DpAll K H xs ds → DpAll K H xs.reverse ds.reverse
  | _, _, .nil => .nil
  | _, _, .cons a b => by
    rw [List.reverse_cons, List.reverse_cons]
    exact DpAll.append (DpAll.reverse b) (.cons a .nil)
end
/-- a purse -/
def Pu (H : Hp) (p : Addr) : Prop := ∃ x y : Int, H p = some (.lst [.int x, .int y]) ∧ 0 ≤ x ∧ 0 ≤ y ∧ y < 2147483629
section
variable {P : Program} {w : World} {K : PySem.W.Frag} {mg : Str → Option Value} {base : Heap} {f : Addr} {fd : FuncData}
theorem ix0 {x y : V} : atI [x, y] 0 = some x := rfl
theorem ix1 {x y : V} : atI [x, y] 1 = some y := rfl
end
theorem ib (m m' : Int) : (m == m') = decide (m = m') := by by_cases h : m = m' <;> simp [h]
theorem Lad.eqvs : ∀ l k : Lad, PyData.eqvAll l.encs k.encs = decide (l = k)
  | .nil, .nil => by simp [encs, PyData.eqvAll]
  | .nil, .cons _ _ _ => by simp [encs, PyData.eqvAll]
  | .cons _ _ _, .nil => by simp [encs, PyData.eqvAll]
  | .cons e m r, .cons e' m' r' => by
    have h1 := Lad.eqvs e e'
    have h2 := Lad.eqvs r r'
    simp [encs, PyData.eqvAll, PyData.eqv, h1, h2, Bool.and_assoc, ib]
theorem Lad.eqv_enc (l k : Lad) : PyData.eqv l.enc k.enc = decide (l = k) := by
  rw [Lad.enc, Lad.enc, PyData.eqv]; exact Lad.eqvs l k
theorem Lad.lt_nil_nil : Lad.lt .nil .nil = false := by decide +kernel
theorem Lad.lt_nil_cons (e : Lad) (m : Int) (r : Lad) : Lad.lt .nil (.cons e m r) = true := by
  unfold Lad.lt Lad.enc
  rw [dataLt_tuple, Lad.encs, Lad.encs, toks_all_cons, show keyToksAll [] = [.inl 0] by simp [keyToksAll], lex_atom (by simp), lex_one]
  decide +kernel
theorem Lad.lt_cons_nil (e : Lad) (m : Int) (r : Lad) : Lad.lt (.cons e m r) .nil = false := by
  unfold Lad.lt Lad.enc
  rw [dataLt_tuple, Lad.encs, Lad.encs, toks_all_cons, show keyToksAll [] = [.inl 0] by simp [keyToksAll], lex_atom (by simp), lex_one]
  decide +kernel
theorem Lad.lt_cons (e e' : Lad) (m m' : Int) (r r' : Lad) : Lad.lt (.cons e m r) (.cons e' m' r') = if e = e' then (if m = m' then r.lt r' else decide (m < m')) else e.lt e' := by
  have al : alike (.tuple [e.enc, .int m]) (.tuple [e'.enc, .int m']) = true := by simp [alike, alikeAll, e.alike_enc e']
  have h1 : Lad.lt (.cons e m r) (.cons e' m' r') = if PyData.eqv (.tuple [e.enc, .int m]) (.tuple [e'.enc, .int m']) = true then r.lt r' else dataLt (.tuple [e.enc, .int m]) (.tuple [e'.enc, .int m']) := by
    unfold Lad.lt
    rw [show (Lad.cons e m r).enc = .tuple (.tuple [e.enc, .int m] :: r.encs) from rfl, show (Lad.cons e' m' r').enc = .tuple (.tuple [e'.enc, .int m'] :: r'.encs) from rfl, dataLt_tuple, dataLt_cons al]
    rw [show dataLt r.enc r'.enc = PyProof.Rows.lexLt itemOrd (keyToksAll r.encs) (keyToksAll r'.encs) from dataLt_tuple _ _]
  have h2 : PyData.eqv (.tuple [e.enc, .int m]) (.tuple [e'.enc, .int m']) = (decide (e = e') && decide (m = m')) := by
    simp [PyData.eqv, PyData.eqvAll, Lad.eqv_enc, ib]
  rw [h1, h2, dataLt_pair (e.alike_enc e') (by simp [alike]), Lad.eqv_enc]
  by_cases he : e = e'
  · by_cases hm : m = m'
    · simp [he, hm]
    · simp [he, hm, PyData.eqv, dataLt_int]
  · simp [he, Lad.lt]
namespace Lad
theorem lt_irrefl : ∀ l : Lad, l.lt l = false
  | .nil => lt_nil_nil
  | .cons e m r => by rw [lt_cons, if_pos rfl, if_pos rfl]; exact lt_irrefl r
theorem lt_nil_r : ∀ l : Lad, l.lt .nil = false
  | .nil => lt_nil_nil
  | .cons e m r => lt_cons_nil e m r
theorem lt_ne {l k : Lad} (h : l.lt k = true) : l ≠ k := fun z => by subst z; rw [lt_irrefl] at h; cases h
theorem lt_tri : ∀ l k : Lad, l ≠ k → l.lt k = false → k.lt l = true
  | .nil, .nil, h, _ => absurd rfl h
  | .nil, .cons e m r, _, h => by rw [lt_nil_cons] at h; cases h
  | .cons e m r, .nil, _, _ => lt_nil_cons e m r
  | .cons e m r, .cons e' m' r', hne, h => by
    rw [lt_cons] at h ⊢
    by_cases he : e = e'
    · subst he
      rw [if_pos rfl] at h ⊢
      by_cases hm : m = m'
      · subst hm
        rw [if_pos rfl] at h ⊢
        exact lt_tri r r' (fun z => hne (by rw [z])) h
      · rw [if_neg hm] at h
        rw [if_neg (fun z => hm z.symm)]
        have := of_decide_eq_false h
        exact decide_eq_true (by omega)
    · rw [if_neg he] at h
      rw [if_neg (fun z => he z.symm)]
      exact lt_tri e e' he h
theorem lt_trans : ∀ l k j : Lad, l.lt k = true → k.lt j = true → l.lt j = true
  | _, _, .nil, _, h => by rw [lt_nil_r] at h; cases h
  | _, .nil, .cons _ _ _, h, _ => by rw [lt_nil_r] at h; cases h
  | .nil, .cons _ _ _, .cons e m r, _, _ => lt_nil_cons e m r
  | .cons e m r, .cons e' m' r', .cons e'' m'' r'', h1, h2 => by
    rw [lt_cons] at h1 h2 ⊢
    by_cases he : e = e'
    · subst he
      rw [if_pos rfl] at h1
      by_cases he2 : e = e''
      · subst he2
        rw [if_pos rfl] at h2 ⊢
        by_cases hm : m = m'
        · subst hm
          rw [if_pos rfl] at h1
          by_cases hm2 : m = m''
          · subst hm2
            rw [if_pos rfl] at h2 ⊢
            exact lt_trans r r' r'' h1 h2
          · rw [if_neg hm2] at h2 ⊢
            exact h2
        · rw [if_neg hm] at h1
          have a1 := of_decide_eq_true h1
          by_cases hm2 : m' = m''
          · subst hm2
            rw [if_neg hm]
            exact h1
          · rw [if_neg hm2] at h2
            have a2 := of_decide_eq_true h2
            rw [if_neg (by omega)]
            exact decide_eq_true (by omega)
      · rw [if_neg he2] at h2 ⊢
        exact h2
    · rw [if_neg he] at h1
      by_cases he2 : e' = e''
      · subst he2
        rw [if_neg he]
        exact h1
      · rw [if_neg he2] at h2
        have h3 := lt_trans e e' e'' h1 h2
        rw [if_neg (lt_ne h3)]
        exact h3
theorem lt_asymm {l k : Lad} (h : l.lt k = true) : k.lt l = false := by
  cases e : k.lt l with
  | false => rfl
  | true =>
    have := lt_trans l k l h e
    rw [lt_irrefl] at this
    cases this
/-- a right ladder: numbers from 1 to below B, exponents falling, at each depth -/
def Ok (B : Int) : Lad → Prop
  | .nil => True
  | .cons e m r => e.Ok B ∧ 1 ≤ m ∧ m < B ∧ r.Ok B ∧ ∀ p ∈ r.ps, p.1.lt e = true
theorem Ok.mono {B C : Int} (h : B ≤ C) : ∀ {l : Lad}, l.Ok B → l.Ok C
  | .nil, _ => trivial
  | .cons e m r, ⟨h1, h2, h3, h4, h5⟩ => ⟨Ok.mono h h1, h2, by omega, Ok.mono h h4, h5⟩
end Lad
theorem Pu.sb {H H' : Hp} {p : Addr} (h : Pu H p) (e : SB [] H H') : Pu H' p := by
  obtain ⟨x, y, h1, h2⟩ := h
  exact ⟨x, y, e.keep _ _ h1 List.not_mem_nil, h2⟩
section
variable {P : Program} {w : World} {K : PySem.W.Frag} {mg : Str → Option Value} {base : Heap} {f : Addr} {fd : FuncData}
def spLaw (K : PySem.W.Frag) : Sp := fun vs H Q _ => ∃ (a : Addr) (ns : List Int), vs = [.ref a] ∧ SqL K H a (ns.map V.int) ∧ ns.length ≤ 63 ∧ ∀ H', Q (.bl true) H'
end
section
variable {P : Program} {w : World} {K : PySem.W.Frag} {mg : Str → Option Value} {base : Heap} {f : Addr} {fd : FuncData}
theorem none_sp {ps : List Str} {k : Nat} {sp : Sp} (no : ∀ vs H Q E, ¬ sp vs H Q E) : FnOk P w K mg base CX0 k f fd ps sp :=
  ⟨fun vs H Q E h => absurd h (no vs H Q E), fun A outer s H args us vs Q E _ _ _ _ h => absurd h (no vs H Q E)⟩
end
end FT
namespace FT
open PySem PySem.W PySem.Spec PyProof.Rows L2
def rCatB (K : PySem.W.Frag) : R2 := fun x y H Q => ∃ a b xs ys, x = .ref a ∧ y = .ref b ∧ SqT K H a xs ∧ SqT K H b ys ∧ xs.length + ys.length ≤ 10000 ∧ ∀ c H', SB [] H H' → SqT K H' c (xs ++ ys) → Q (.ref c) H'
section
variable {X : Cx}
theorem op_catB : OpR X (binaryOp .Add) (rCatB X.K) := by
  intro pins s σ H x y v u Q I rx ry h
  obtain ⟨a, b, xs, ys, rfl, rfl, ha, hb, hz, q⟩ := h
  refine op_catA pins s σ H _ _ v u Q I rx ry ⟨a, b, xs, ys, rfl, rfl, ha, hb, by rw [sizeLine_eq]; omega, fun e => ?_, fun e1 e2 => ?_, fun e1 e2 p hp => ?_⟩
  · subst e; exact q b H SB.refl hb
  · subst e2; exact q a H SB.refl (by rw [List.append_nil]; exact ha)
  · exact q p _ (SB.new hp _) (SqT.of upd_same)
end
theorem cutTake (xs : List V) (k : Nat) : cutV xs none (some (k : Int)) = xs.take k := by
  unfold cutV
  have h1 : HT.sIx xs.length 0 none = 0 := rfl
  have h2 : HT.sIx xs.length xs.length (some (k : Int)) = min k xs.length := HT.sIx_nat xs.length xs.length k
  rw [h1, h2]
  simp
theorem cutDrop (xs : List V) (k : Nat) : cutV xs (some (k : Int)) none = xs.drop k := by
  unfold cutV
  have h1 : HT.sIx xs.length 0 (some (k : Int)) = min k xs.length := HT.sIx_nat xs.length 0 k
  have h2 : HT.sIx xs.length xs.length none = xs.length := rfl
  rw [h1, h2]
  by_cases h : k ≤ xs.length
  · rw [Nat.min_eq_left h, List.take_of_length_le (by rw [List.length_drop]; omega)]
  · rw [Nat.min_eq_right (by omega), List.drop_eq_nil_of_le (Nat.le_refl _), List.drop_eq_nil_of_le (by omega)]
    simp
namespace Lad
def sumAt (ps : List (Lad × Int)) (e : Lad) : Int := ((ps.filter fun p => decide (p.1 = e)).map (·.2)).sum
end Lad
end FT
namespace FT
open PySem PySem.W PySem.Spec PyProof.Rows L2
theorem Pu.new {H : Hp} {p q : Addr} (h : Pu H p) (n : H q = none) {o : HO} : Pu (upd H q o) p := by
  obtain ⟨x, y, h1, h2⟩ := h
  exact ⟨x, y, by rw [upd_ne (ne_of_none h1 n)]; exact h1, h2⟩
theorem Pu.ne {H : Hp} {p q : Addr} (h : Pu H p) (n : H q = none) : p ≠ q := by
  obtain ⟨x, y, h1, h2⟩ := h
  exact ne_of_none h1 n
theorem SB.drop2 {p q : Addr} {H H' : Hp} (h : SB [p, q] H H') (n : H q = none) : SB [p] H H' := by
  refine ⟨fun b o e m => h.keep b o e fun z => ?_, h.tups, h.frzs, h.dom⟩
  have z' : b = p ∨ b = q := by simpa using z
  rcases z' with z | z
  · exact m (by simp [z])
  · subst z; rw [n] at e; cases e
end FT
namespace FT
open PySem PySem.W PySem.Spec PyProof.Rows L2
theorem Bears.at {K : PySem.W.Frag} {H : Hp} {β : Type} {enc : β → PyData} : ∀ {vs : List V} {bs : List β} {i : Nat} {b : β}, Bears K H enc vs bs → bs[i]? = some b → ∃ v, vs[i]? = some v ∧ Dp K H v (enc b)
  | _, _, _, _, .nil, e => by simp at e
  | _, _, 0, _, .cons h t, e => by simp at e; subst e; exact ⟨_, rfl, h⟩
  | _, _, i + 1, b, .cons h t, e => by
    obtain ⟨d, h1, h2⟩ := Bears.at (i := i) (b := b) t (by simpa using e)
    exact ⟨d, by simpa using h1, h2⟩
theorem Bears.set {K : PySem.W.Frag} {H : Hp} {β : Type} {enc : β → PyData} {v : V} {b : β} (hv : Dp K H v (enc b)) : ∀ {vs : List V} {bs : List β} (i : Nat), Bears K H enc vs bs → Bears K H enc (vs.set i v) (bs.set i b)
  | _, _, _, .nil => .nil
  | _, _, 0, .cons h t => .cons hv t
  | _, _, i + 1, .cons h t => .cons h (Bears.set hv i t)
namespace Lad
theorem le_trans {a b c : Lad} (h1 : b.lt a = false) (h2 : c.lt b = false) : c.lt a = false := by
  cases e : c.lt a with
  | false => rfl
  | true =>
    by_cases hab : a = b
    · subst hab; rw [e] at h2; cases h2
    · have h3 : a.lt b = true := lt_tri b a (fun z => hab z.symm) h1
      have h4 := lt_trans c a b e h3
      rw [h4] at h2; cases h2
theorem le_of_lt {a b : Lad} (h : a.lt b = true) : b.lt a = false := lt_asymm h
end Lad
end FT
namespace FT
open PySem PySem.W PySem.Spec PyProof.Rows L2
section
variable {prog : Program} {w : World} {A : Around} {E : Value → Shared → Prop} {s : Shared} {β : Type} {vs : List Value} {bs : List β} {enc : β → PyData} {R : Value → β → Prop}
/-- sorted(t, ..), t a tuple of data that are alike -/
theorem sorted_tupK {t : Addr} {kw : List (Str × Value)} {b : Bool} {Q : Value → Shared → Prop} (hkw : ∀ a, Builtin.«list.sort» ⟨[.ref a], kw⟩ = Builtin.«list.sort» ⟨[.ref a], [(Str.ofString "reverse", .bool b)]⟩) (ha1 : argsOk "sorted" ⟨[.ref t], kw⟩) (ha2 : ∀ x, argsOk "list.sort" ⟨[.ref x], kw⟩)
    (ht : IsTup s.heap t vs.toArray) (e : EachIs R vs bs) (er : EachIs (fun v b => ∃ as, Reads s.heap v (enc b) as) vs bs) (hal : AllAlike (bs.map enc)) (hk : Sortable (bs.map enc)) (hL : bs.length ≤ sizeLine)
    (hu : ∀ b, b ∈ bs → A.units + 2 + (enc b).depth < cLine)
    (h : ∀ (out : List Value) (h' h2 : Heap) (n : Nat), (∀ b o, s.heap.get? b = some o → h'.get? b = some o) → (∀ b o, h'.get? b = some o → h2.get? b = some o) → h2.get? h'.objs.size = some (seqObj "list" out.toArray n) → out.length = bs.length → EachIs R out (bs.mergeSort (dataLe b enc)) → Q (.ref h'.objs.size) { s with heap := h2 }) :
    wpAny (model prog w) A (call (.builtin "sorted") [.ref t] kw) Q E s := by
  have hlen : vs.length ≤ sizeLine := by rw [e.length]; exact hL
  obtain ⟨o, ho, hc, n0, hd⟩ := id ht
  refine call_function_entry_kw kind_sorted plain_sorted entry_sorted ha1 ?_
  unfold Builtin.«sorted»
  refine wpAny_bind (m := checkCount "sorted" 1 1 _) (wpAny_pure ?_)
  refine wpAny_bind (wpAny_collect_seq t (.inr rfl) ho hc hd (fun h' hk' => ?_) (by rw [List.size_toArray]; exact hlen))
  refine wpAny_bind (wpAny_newList ?_ hlen)
  show wpAny _ _ _ _ _ { s with heap := h'.push (seqObj "list" vs.toArray 0) }
  have hat : (h'.push (seqObj "list" vs.toArray 0)).get? h'.objs.size = some (seqObj "list" vs.toArray 0) := Heap.get?_push_size _ rfl
  refine wpAny_bind (wpAny_holding (wpAny_call_entry_kw slot_list_sort ⟨_, hat, rfl⟩ entry_list_sort ?body (ha2 _)))
  case body =>
    rw [hkw]
    have old : ∀ b o, h'.get? b = some o → (sortingHeap (h'.push (seqObj "list" vs.toArray 0)) h'.objs.size vs).get? b = some o := fun b o q => sortingHeap_old (Nat.ne_of_lt (Heap.lt_size q)) (Heap.get?_push_of_some _ q)
    have er' : EachIs (fun v b => ∃ as, Reads (sortingHeap (h'.push (seqObj "list" vs.toArray 0)) h'.objs.size vs) v (enc b) as) vs bs := er.mono fun _ _ ⟨as, r⟩ => ⟨as, PyProof.Rows.Reads.keeps (fun b o q => old b o (hk' b o q)) r⟩
    refine list_sort_rev_vals (s := { s with heap := h'.push (seqObj "list" vs.toArray 0) }) (κ := dataKind (sortingHeap (h'.push (seqObj "list" vs.toArray 0)) h'.objs.size vs) (bs.map enc)) hat (SortsAt.data (s := { s with heap := sortingHeap (h'.push (seqObj "list" vs.toArray 0)) h'.objs.size vs }) (each_map (R := fun v d => ∃ as, Reads (sortingHeap (h'.push (seqObj "list" vs.toArray 0)) h'.objs.size vs) v d as) enc er') hal hk (bound_map hu)) hlen ?_
    refine ⟨_, rfl, wpAny_pure ⟨_, rfl, ?_⟩⟩
    obtain ⟨n2, hn2⟩ := sortedHeap_at (out := (sortVals (dataKind (sortingHeap (h'.push (seqObj "list" vs.toArray 0)) h'.objs.size vs) (bs.map enc)) b vs vs).toArray) hat
    refine h _ h' _ n2 hk' (fun b o q => ?_) hn2 (by rw [sortVals_length b rfl]; exact e.length) (sortVals_data b e er' hal)
    rw [sortedHeap_old (Nat.ne_of_lt (Heap.lt_size q)) (by rw [size_push']; exact Nat.lt_succ_of_lt (Heap.lt_size q))]
    exact Heap.get?_push_of_some _ q
end
/-- sorted(t), sorted(t, reverse=b) -/
def rSortedT (K : PySem.W.Frag) {β : Type} (enc : β → PyData) (b : Bool) (vs : List V) (H : Hp) (Q : VK) : Prop := ∃ (a : Addr) (xs : List V) (bs : List β), vs = [V.ref a] ∧ SqT K H a xs ∧ Bears K H enc xs bs ∧ AllAlike (bs.map enc) ∧ Sortable (bs.map enc) ∧ bs.length ≤ 10000 ∧ (∀ b ∈ bs, (enc b).depth ≤ 100) ∧
  ∀ (p : Addr) (ys : List V), H p = none → Bears K H enc ys (bs.mergeSort (dataLe b enc)) → Q (.ref p) (upd H p (.lst ys))
section
variable {X : Cx}
theorem sortedT_run {β : Type} {enc : β → PyData} {b : Bool} {kw : List (Str × Value)} (hu : X.A.units + 110 < cLine) (hkw : ∀ a, Builtin.«list.sort» ⟨[.ref a], kw⟩ = Builtin.«list.sort» ⟨[.ref a], [(Str.ofString "reverse", .bool b)]⟩) (ha1 : ∀ t, argsOk "sorted" ⟨[.ref t], kw⟩) (ha2 : ∀ x, argsOk "list.sort" ⟨[.ref x], kw⟩)
    {pins : List (Addr × Obj)} {s : Shared} {σ : L2.St} {H : Hp} {vs : List V} {us : List Value} {Q : VK} (I : Inv X pins σ H s) (r : Vals vs us) (h : rSortedT X.K enc b vs H Q) : wpAny (model X.prog X.w) X.A (call (.builtin "sorted") us kw) (EP X pins σ Q) X.xe s := by
  obtain ⟨a, xs, bs, rfl, hs, hb, hal, hsr, hl, hd, q⟩ := h
  obtain ⟨its, rv, hli, _⟩ := I.tuple hs
  rw [Vals.ref1 r]
  obtain ⟨e1, e2⟩ := each_of I hb rv
  refine sorted_tupK (vs := its) (bs := bs) (enc := enc) (R := fun u b => ∃ v, RelV v u ∧ Dp X.K H v (enc b)) hkw (ha1 _) ha2 hli e1 e2 hal hsr (by rw [sizeLine_eq]; omega) (fun b m => by have := hd b m; omega) fun out h' h2 n k1 k2 hat ho h1 => ?_
  obtain ⟨ys, g2, g3⟩ := of_each h1
  have I' : Inv X pins σ H { s with heap := h' } := I.kept (t' := s.toks) k1
  have hlen : ys.length ≤ sizeLine := by rw [g2.length, ho, sizeLine_eq]; omega
  exact ⟨.ref _, upd H h'.objs.size (.lst ys), I'.laid (t' := s.toks) (fun b o e => k2 b o e) (Nat.le_refl _) ⟨hlen, out, n, g2, hat⟩, rfl, q _ ys (I'.hok.fresh (Nat.le_refl _)) g3⟩
theorem cr_sortedT {β : Type} (enc : β → PyData) (hu : X.A.units + 110 < cLine) : CallR X (.builtin "sorted") (rSortedT X.K enc false) := by
  intro pins s σ H vs us Q I r h
  exact sortedT_run (kw := []) hu plain_is_rev (fun _ => args_sorted1 _) (fun _ => args_list_sort _) I r h
end
end FT
namespace FT
open PySem PySem.W PySem.Spec PyProof.Rows L2
section
variable {γ : Type} [DecidableEq γ]
def pairE (enc : γ → PyData) (p : γ × Int) : PyData := .tuple [enc p.1, .int p.2]
def jstep (acc : List (γ × Int)) (p : γ × Int) : List (γ × Int) := match acc.getLast? with
  | some q => if q.1 = p.1 then acc.dropLast ++ [(p.1, q.2 + p.2)] else acc ++ [p]
  | none => [p]
def jn (bs : List (γ × Int)) : List (γ × Int) := bs.foldl jstep []
theorem jstep_nil (p : γ × Int) : jstep [] p = [p] := rfl
theorem jstep_snoc (acc : List (γ × Int)) (q p : γ × Int) : jstep (acc ++ [q]) p = if q.1 = p.1 then acc ++ [(p.1, q.2 + p.2)] else acc ++ [q] ++ [p] := by
  unfold jstep
  rw [List.getLast?_append]
  simp
theorem jstep_length (acc : List (γ × Int)) (p : γ × Int) : (jstep acc p).length ≤ acc.length + 1 := by
  rcases List.eq_nil_or_concat acc with h | ⟨a, q, h⟩
  · subst h; simp [jstep]
  · subst h
    rw [List.concat_eq_append, jstep_snoc]
    split <;> simp
theorem jn_take (bs : List (γ × Int)) (i : Nat) (p : γ × Int) (h : bs[i]? = some p) : jn (bs.take (i + 1)) = jstep (jn (bs.take i)) p := by
  unfold jn
  rw [List.take_add_one, h, List.foldl_append]
  rfl
theorem jn_length (bs : List (γ × Int)) : (jn bs).length ≤ bs.length := by
  have key : ∀ (bs acc : List (γ × Int)), (bs.foldl jstep acc).length ≤ acc.length + bs.length := by
    intro bs
    induction bs with
    | nil => intro acc; simp
    | cons p r ih =>
      intro acc
      have h1 := ih (jstep acc p)
      have h2 := jstep_length acc p
      show (r.foldl jstep (jstep acc p)).length ≤ _
      rw [List.length_cons]
      omega
  have := key bs []
  simpa [jn] using this
theorem jn_keys (bs : List (γ × Int)) : ∀ p ∈ jn bs, ∃ q ∈ bs, q.1 = p.1 := by
  have key : ∀ (bs acc : List (γ × Int)), ∀ p ∈ bs.foldl jstep acc, (∃ q ∈ acc, q.1 = p.1) ∨ ∃ q ∈ bs, q.1 = p.1 := by
    intro bs
    induction bs with
    | nil => intro acc p hp; exact .inl ⟨p, hp, rfl⟩
    | cons x r ih =>
      intro acc p hp
      rcases ih (jstep acc x) p hp with ⟨q, hq, e⟩ | ⟨q, hq, e⟩
      · rcases List.eq_nil_or_concat acc with h | ⟨a, z, h⟩
        · subst h
          rw [jstep_nil] at hq
          have : q = x := by simpa using hq
          subst this
          exact .inr ⟨q, List.mem_cons_self .., e⟩
        · subst h
          rw [List.concat_eq_append] at hq ⊢
          rw [jstep_snoc] at hq
          by_cases hz : z.1 = x.1
          · rw [if_pos hz] at hq
            rcases List.mem_append.mp hq with hq | hq
            · exact .inl ⟨q, List.mem_append_left _ hq, e⟩
            · have : q = (x.1, z.2 + x.2) := by simpa using hq
              subst this
              exact .inr ⟨x, List.mem_cons_self .., e⟩
          · rw [if_neg hz] at hq
            rcases List.mem_append.mp hq with hq | hq
            · exact .inl ⟨q, hq, e⟩
            · have : q = x := by simpa using hq
              subst this
              exact .inr ⟨q, List.mem_cons_self .., e⟩
      · exact .inr ⟨q, List.mem_cons_of_mem _ hq, e⟩
  intro p hp
  rcases key bs [] p hp with ⟨q, hq, _⟩ | h
  · cases hq
  · exact h
end
/-- pairs (thing, many), joined; things of γ by enc -/
def spJoined (K : PySem.W.Frag) {γ : Type} [DecidableEq γ] (enc : γ → PyData) : Sp := fun vs H Q _ => ∃ (a : Addr) (xs : List V) (bs : List (γ × Int)), vs = [.ref a] ∧ SqL K H a xs ∧ Bears K H (pairE enc) xs bs ∧ bs.length ≤ 1000 ∧ (∀ b ∈ bs, SeqAt.shaped (enc b.1) = true) ∧
  ∀ (c : Addr) (ys : List V) (H' : Hp), SB [] H H' → SqT K H' c ys → Bears K H' (pairE enc) ys (jn bs) → Q (.ref c) H'
theorem pair_at {K : PySem.W.Frag} {H : Hp} {γ : Type} {enc : γ → PyData} {v : V} {p : γ × Int} (h : Dp K H v (pairE enc p)) : ∃ a u, v = .ref a ∧ SqT K H a [u, .int p.2] ∧ Dp K H u (enc p.1) := by
  have h' : Dp K H v (.tuple [enc p.1, .int p.2]) := h
  cases h' with
  | tup hs ha =>
    cases ha with
    | cons a1 a2 =>
      cases a2 with
      | cons b1 b2 =>
        cases b2
        cases b1
        exact ⟨_, _, rfl, hs, a1⟩
theorem pairE_noList {γ : Type} {enc : γ → PyData} (hn : ∀ g, noList (enc g) = true) (p : γ × Int) : noList (pairE enc p) = true := by simp [pairE, noList, noLists, hn]
theorem pair_mk {K : PySem.W.Frag} {H : Hp} {γ : Type} {enc : γ → PyData} {a : Addr} {u : V} {g : γ} {m : Int} (h : SqT K H a [u, .int m]) (h2 : Dp K H u (enc g)) : Dp K H (.ref a) (pairE enc (g, m)) := Dp.tup h (.cons h2 (.cons (.int m) .nil))
theorem Bears.snoc {K : PySem.W.Frag} {H : Hp} {β : Type} {enc : β → PyData} {vs : List V} {bs : List β} {b : β} (h : Bears K H enc vs (bs ++ [b])) : ∃ us u, vs = us ++ [u] ∧ Bears K H enc us bs ∧ Dp K H u (enc b) := by
  induction bs generalizing vs with
  | nil =>
    cases h with
    | cons h1 h2 => cases h2; exact ⟨[], _, rfl, .nil, h1⟩
  | cons c r ih =>
    cases h with
    | cons h1 h2 =>
      obtain ⟨us, u, e, h3, h4⟩ := ih h2
      exact ⟨_ :: us, u, by rw [e]; rfl, .cons h1 h3, h4⟩
theorem at_last {xs : List V} {x : V} : atI (xs ++ [x]) (-1) = some x := by
  unfold atI ixN
  rw [if_neg (by decide), if_pos (by rw [List.length_append, List.length_singleton]; omega)]
  simp only [List.length_append, List.length_singleton, Option.bind_some]
  have : ((-1 : Int) + ((xs.length + 1 : Nat) : Int)).toNat = xs.length := by omega
  rw [this]
  simp
theorem ixN_last {xs : List V} {x : V} : ixN (xs ++ [x]).length (-1) = some xs.length := by
  unfold ixN
  rw [if_neg (by decide), if_pos (by rw [List.length_append, List.length_singleton]; omega), List.length_append, List.length_singleton]
  congr 1; omega
theorem set_last {xs : List V} {x y : V} : (xs ++ [x]).set xs.length y = xs ++ [y] := by simp
end FT
namespace FT
open PySem PySem.W PySem.Spec PyProof.Rows L2
theorem ThAll.append {K : PySem.W.Frag} {ps : List Addr} {H : Hp} : ∀ {xs ys : List V} {ds es : List PyData}, ThAll K ps H xs ds → ThAll K ps H ys es → ThAll K ps H (xs ++ ys) (ds ++ es)
  | _, _, _, _, .nil, h => h
  | _, _, _, _, .cons a b, h => .cons a (ThAll.append b h)
theorem ThAll.reverse {K : PySem.W.Frag} {ps : List Addr} {H : Hp} : ∀ {xs : List V} {ds : List PyData}, ThAll K ps H xs ds → ThAll K ps H xs.reverse ds.reverse
  | _, _, .nil => .nil
  | _, _, .cons a b => by
    rw [List.reverse_cons, List.reverse_cons]
    exact ThAll.append (ThAll.reverse b) (.cons a .nil)
theorem ThAll.take {K : PySem.W.Frag} {ps : List Addr} {H : Hp} (n : Nat) : ∀ {xs : List V} {ds : List PyData}, ThAll K ps H xs ds → ThAll K ps H (xs.take n) (ds.take n) := by
  induction n with
  | zero => intro xs ds h; rw [List.take_zero, List.take_zero]; exact .nil
  | succ n ih =>
    intro xs ds h
    cases h with
    | nil => exact .nil
    | cons a b => exact .cons a (ih b)
theorem ThAll.drop {K : PySem.W.Frag} {ps : List Addr} {H : Hp} (n : Nat) : ∀ {xs : List V} {ds : List PyData}, ThAll K ps H xs ds → ThAll K ps H (xs.drop n) (ds.drop n) := by
  induction n with
  | zero => intro xs ds h; exact h
  | succ n ih =>
    intro xs ds h
    cases h with
    | nil => exact .nil
    | cons a b => exact ih b
/-- how far a thing goes: depth and width -/
def Fits (n m : Nat) (d : PyData) : Prop := d.depth ≤ n ∧ wide d ≤ m
theorem Fits.mono {n m n' m' : Nat} {d : PyData} (h : Fits n m d) (h1 : n ≤ n') (h2 : m ≤ m') : Fits n' m' d := ⟨Nat.le_trans h.1 h1, Nat.le_trans h.2 h2⟩
end FT
namespace FT
open PySem PySem.W PySem.Spec PyProof.Rows L2
namespace Lad
theorem sumAt_nil (x : Lad) : sumAt [] x = 0 := rfl
theorem sumAt_cons (e : Lad) (m : Int) (r : List (Lad × Int)) (x : Lad) : sumAt ((e, m) :: r) x = (if e = x then m else 0) + sumAt r x := by
  unfold sumAt
  rw [List.filter_cons]
  by_cases h : e = x
  · simp [h]
  · simp [h]
theorem sumAt_zero {bs : List (Lad × Int)} {x : Lad} (h : ∀ p ∈ bs, p.1 ≠ x) : sumAt bs x = 0 := by
  unfold sumAt
  have : bs.filter (fun p => decide (p.1 = x)) = [] := by
    rw [List.filter_eq_nil_iff]
    intro p hp
    simpa using h p hp
  rw [this]; rfl
/-- the many at an exponent -/
abbrev S (l : Lad) (x : Lad) : Int := sumAt l.ps x
section
variable {B C : Int}
theorem S_top {e : Lad} {m : Int} {r : Lad} (h : (Lad.cons e m r).Ok B) : S (.cons e m r) e = m := by
  show sumAt ((e, m) :: r.ps) e = m
  rw [sumAt_cons, if_pos rfl, sumAt_zero fun p hp => lt_ne (h.2.2.2.2 p hp)]
  omega
theorem S_above {e : Lad} {m : Int} {r x : Lad} (h : (Lad.cons e m r).Ok B) (hx : e.lt x = true) : S (.cons e m r) x = 0 := by
  show sumAt ((e, m) :: r.ps) x = 0
  rw [sumAt_cons, if_neg (lt_ne hx), sumAt_zero fun p hp => lt_ne (lt_trans _ _ _ (h.2.2.2.2 p hp) hx)]
  rfl
/-- less by the first exponent, from above, at which they differ -/
def LT' (l k : Lad) : Prop := ∃ x, S l x < S k x ∧ ∀ y, x.lt y = true → S l y = S k y
theorem lt_of {l k : Lad} : ∀ (_ : l.Ok B) (_ : k.Ok C), l.lt k = true → LT' l k := by
  induction l generalizing k with
  | nil =>
    intro hl hk h
    cases k with
    | nil => rw [lt_nil_nil] at h; cases h
    | cons e m r =>
      refine ⟨e, ?_, fun y hy => ?_⟩
      · rw [S_top hk]; show sumAt [] e < m; rw [sumAt_nil]; have := hk.2.1; omega
      · rw [S_above hk hy]; rfl
  | cons e m r _ ih =>
    intro hl hk h
    cases k with
    | nil => rw [lt_cons_nil] at h; cases h
    | cons e' m' r' =>
      rw [lt_cons] at h
      by_cases he : e = e'
      · subst he
        rw [if_pos rfl] at h
        by_cases hm : m = m'
        · subst hm
          rw [if_pos rfl] at h
          obtain ⟨x, h1, h2⟩ := ih hl.2.2.2.1 hk.2.2.2.1 h
          refine ⟨x, ?_, fun y hy => ?_⟩
          · show sumAt ((e, m) :: r.ps) x < sumAt ((e, m) :: r'.ps) x
            rw [sumAt_cons, sumAt_cons]
            have : sumAt r.ps x < sumAt r'.ps x := h1
            omega
          · show sumAt ((e, m) :: r.ps) y = sumAt ((e, m) :: r'.ps) y
            rw [sumAt_cons, sumAt_cons]
            have : sumAt r.ps y = sumAt r'.ps y := h2 y hy
            omega
        · rw [if_neg hm] at h
          exact ⟨e, by rw [S_top hl, S_top hk]; exact of_decide_eq_true h, fun y hy => by rw [S_above hl hy, S_above hk hy]⟩
      · rw [if_neg he] at h
        refine ⟨e', ?_, fun y hy => ?_⟩
        · rw [S_above hl h, S_top hk]; have := hk.2.1; omega
        · rw [S_above hl (lt_trans _ _ _ h hy), S_above hk hy]
/-- two right ladders with the same numbers are one -/
theorem ext {l k : Lad} (hl : l.Ok B) (hk : k.Ok C) (h : ∀ x, S l x = S k x) : l = k := by
  by_cases e : l = k
  · exact e
  · cases hlk : l.lt k with
    | true => obtain ⟨x, h1, _⟩ := lt_of hl hk hlk; have := h x; omega
    | false => obtain ⟨x, h1, _⟩ := lt_of hk hl (lt_tri l k e hlk); have := h x; omega
end
end Lad
end FT
namespace FT
open PySem PySem.W PySem.Spec PyProof.Rows L2
/-- a class of errors of the program's own -/
structure Own (K : PySem.W.Frag) (mg : Str → Option Value) (x : Str) (C : Addr) : Prop where
  gC : mg x = some (.ref C)
  q : PySem.W.excIn K C He.veBase "ValueError.__new__" = true
  k : PySem.W.keepIn K (.ref C) = true
  s : PySem.W.subIn K (.ref C) (.type "BaseException") = some true
  t : PySem.W.typeIn K (.ref C) = some (.type "type")
end FT
namespace FT
open PySem PySem.W PySem.Spec PyProof.Rows L2
/-- as Got, for a def that may raise -/
structure GotX (P : Program) (w : World) (K : PySem.W.Frag) (mg : Str → Option Value) (base : Heap) (x : Str) (ps : List Str) (k : Nat) (sp : Sp) : Prop where
  ex : ∃ (f : Addr) (fd : FuncData), FnOk P w K mg base (L2.CX P w) k f fd ps sp ∧ PySem.W.keepIn K (.ref f) = true ∧ Binds K fd ps [] ∧ mg x = some (.ref f)
section
variable {X : Cx} {x : Str} {ps : List Str} {k : Nat} {sp : Sp} {e : Expr} {es : List Expr} {t : TA} {p pos : Pos}
theorem pe_gotX (G : GotX X.prog X.w X.K X.mg X.base x ps k sp) (hr : Room k X.A) (hg : Gl X x) (ha : PA X (e :: es) t) (hdb : (x == ("__debug__" : Str)) = false := by decide) (he : starEach (e :: es) X.env = (false, eval e X.env) :: starEach es X.env := by rfl) (hpl : (backTo pos (starEach es X.env)).any (·.1) = false := by rfl) :
    PE X (.Call (.Name x p) (e :: es) [] pos) (tCall sp [] E0 t) := by
  obtain ⟨f, fd, h1, h2, h3, h4⟩ := G.ex
  exact pe_call h1 hr hg h4 h2 h3 .nil passL ha hdb he hpl
theorem pe_gotS {W : WX} (G : GotX X.prog X.w X.K X.mg X.base x ps k sp) (hr : Room k X.A) (hg : Gl X x) (tk : Takes X W) (ha : PA X (e :: es) t) (hdb : (x == ("__debug__" : Str)) = false := by decide) (he : starEach (e :: es) X.env = (false, eval e X.env) :: starEach es X.env := by rfl) (hpl : (backTo pos (starEach es X.env)).any (·.1) = false := by rfl) :
    PE X (.Call (.Name x p) (e :: es) [] pos) (tCallS sp (WE W) t) := by
  obtain ⟨f, fd, h1, h2, h3, h4⟩ := G.ex
  exact pe_callS h1 hr hg h4 h2 h3 (fun σ => passAt tk σ) ha hdb he hpl
end
abbrev AlE : Type := He.AlD × Bool
def obsE (n : Nat) (fa : List He.Fa) (fn : List He.DefD) (ex : PySem.W.Frag → Bool) (g : Addr → Option Obj) : AlE := (He.obsD fa fn (He.frG g (He.asD g n)), ex (He.frG g (He.asD g n)))
def hookE (n : Nat) (fa : List He.Fa) (fn : List He.DefD) (ex : PySem.W.Frag → Bool) : PySem.W.Hook where
  α := AlE
  obs := fun s => obsE n fa fn ex s.heap.get?
  val := fun _ => (He.valD fn, true)
  says := fun _ h => ∃ K : PySem.W.Frag, K.In h ∧ He.SaysD fa fn K ∧ ex K = true
  of := fun _ _ e => ⟨_, He.frG_in, congrArg (fun z : AlE => z.1) e, congrArg (fun z : AlE => z.2) e⟩
  keeps := fun _ _ _ ⟨K, hK, c⟩ k => ⟨K, PySem.W.Frag.In.keeps hK k, c⟩
theorem obsE_eq {n : Nat} {fa : List He.Fa} {fn : List He.DefD} {ex : PySem.W.Frag → Bool} {g : Addr → Option Obj} {s : Shared} (h : ∀ a, g a = s.heap.get? a) : obsE n fa fn ex g = (hookE n fa fn ex).obs s := by
  have e : g = s.heap.get? := funext h
  rw [e] <;> rfl
end FT
namespace FT
open PySem PySem.W PySem.Spec PyProof.Rows L2
section
variable {prog : Program} {w : World} {A : Around} {E : Value → Shared → Prop} {s : Shared} {β : Type} {vs : List Value} {bs : List β} {enc : β → PyData} {R : Value → β → Prop}
/-- sorted(t, ..), t a tuple of data that are alike -/
theorem sorted_lstK {t : Addr} {kw : List (Str × Value)} {b : Bool} {Q : Value → Shared → Prop} (hkw : ∀ a, Builtin.«list.sort» ⟨[.ref a], kw⟩ = Builtin.«list.sort» ⟨[.ref a], [(Str.ofString "reverse", .bool b)]⟩) (ha1 : argsOk "sorted" ⟨[.ref t], kw⟩) (ha2 : ∀ x, argsOk "list.sort" ⟨[.ref x], kw⟩)
    (ht : PlainL s.heap t vs.toArray) (e : EachIs R vs bs) (er : EachIs (fun v b => ∃ as, Reads s.heap v (enc b) as) vs bs) (hal : AllAlike (bs.map enc)) (hk : Sortable (bs.map enc)) (hL : bs.length ≤ sizeLine)
    (hu : ∀ b, b ∈ bs → A.units + 2 + (enc b).depth < cLine)
    (h : ∀ (out : List Value) (h' h2 : Heap) (n : Nat), (∀ b o, s.heap.get? b = some o → h'.get? b = some o) → (∀ b o, h'.get? b = some o → h2.get? b = some o) → h2.get? h'.objs.size = some (seqObj "list" out.toArray n) → out.length = bs.length → EachIs R out (bs.mergeSort (dataLe b enc)) → Q (.ref h'.objs.size) { s with heap := h2 }) :
    wpAny (model prog w) A (call (.builtin "sorted") [.ref t] kw) Q E s := by
  have hlen : vs.length ≤ sizeLine := by rw [e.length]; exact hL
  obtain ⟨o, n0, ho, hc, _, hd⟩ := id ht
  refine call_function_entry_kw kind_sorted plain_sorted entry_sorted ha1 ?_
  unfold Builtin.«sorted»
  refine wpAny_bind (m := checkCount "sorted" 1 1 _) (wpAny_pure ?_)
  refine wpAny_bind (wpAny_collect_seq t (.inl rfl) ho hc hd (fun h' hk' => ?_) (by rw [List.size_toArray]; exact hlen))
  refine wpAny_bind (wpAny_newList ?_ hlen)
  show wpAny _ _ _ _ _ { s with heap := h'.push (seqObj "list" vs.toArray 0) }
  have hat : (h'.push (seqObj "list" vs.toArray 0)).get? h'.objs.size = some (seqObj "list" vs.toArray 0) := Heap.get?_push_size _ rfl
  refine wpAny_bind (wpAny_holding (wpAny_call_entry_kw slot_list_sort ⟨_, hat, rfl⟩ entry_list_sort ?body (ha2 _)))
  case body =>
    rw [hkw]
    have old : ∀ b o, h'.get? b = some o → (sortingHeap (h'.push (seqObj "list" vs.toArray 0)) h'.objs.size vs).get? b = some o := fun b o q => sortingHeap_old (Nat.ne_of_lt (Heap.lt_size q)) (Heap.get?_push_of_some _ q)
    have er' : EachIs (fun v b => ∃ as, Reads (sortingHeap (h'.push (seqObj "list" vs.toArray 0)) h'.objs.size vs) v (enc b) as) vs bs := er.mono fun _ _ ⟨as, r⟩ => ⟨as, PyProof.Rows.Reads.keeps (fun b o q => old b o (hk' b o q)) r⟩
    refine list_sort_rev_vals (s := { s with heap := h'.push (seqObj "list" vs.toArray 0) }) (κ := dataKind (sortingHeap (h'.push (seqObj "list" vs.toArray 0)) h'.objs.size vs) (bs.map enc)) hat (SortsAt.data (s := { s with heap := sortingHeap (h'.push (seqObj "list" vs.toArray 0)) h'.objs.size vs }) (each_map (R := fun v d => ∃ as, Reads (sortingHeap (h'.push (seqObj "list" vs.toArray 0)) h'.objs.size vs) v d as) enc er') hal hk (bound_map hu)) hlen ?_
    refine ⟨_, rfl, wpAny_pure ⟨_, rfl, ?_⟩⟩
    obtain ⟨n2, hn2⟩ := sortedHeap_at (out := (sortVals (dataKind (sortingHeap (h'.push (seqObj "list" vs.toArray 0)) h'.objs.size vs) (bs.map enc)) b vs vs).toArray) hat
    refine h _ h' _ n2 hk' (fun b o q => ?_) hn2 (by rw [sortVals_length b rfl]; exact e.length) (sortVals_data b e er' hal)
    rw [sortedHeap_old (Nat.ne_of_lt (Heap.lt_size q)) (by rw [size_push']; exact Nat.lt_succ_of_lt (Heap.lt_size q))]
    exact Heap.get?_push_of_some _ q
end
/-- sorted(t), sorted(t, reverse=b) -/
def rSortedL (K : PySem.W.Frag) {β : Type} (enc : β → PyData) (b : Bool) (vs : List V) (H : Hp) (Q : VK) : Prop := ∃ (a : Addr) (xs : List V) (bs : List β), vs = [V.ref a] ∧ SqL K H a xs ∧ Bears K H enc xs bs ∧ AllAlike (bs.map enc) ∧ Sortable (bs.map enc) ∧ bs.length ≤ 10000 ∧ (∀ b ∈ bs, (enc b).depth ≤ 100) ∧
  ∀ (p : Addr) (ys : List V), H p = none → Bears K H enc ys (bs.mergeSort (dataLe b enc)) → Q (.ref p) (upd H p (.lst ys))
section
variable {X : Cx}
theorem sortedL_run {β : Type} {enc : β → PyData} {b : Bool} {kw : List (Str × Value)} (hu : X.A.units + 110 < cLine) (hkw : ∀ a, Builtin.«list.sort» ⟨[.ref a], kw⟩ = Builtin.«list.sort» ⟨[.ref a], [(Str.ofString "reverse", .bool b)]⟩) (ha1 : ∀ t, argsOk "sorted" ⟨[.ref t], kw⟩) (ha2 : ∀ x, argsOk "list.sort" ⟨[.ref x], kw⟩)
    {pins : List (Addr × Obj)} {s : Shared} {σ : L2.St} {H : Hp} {vs : List V} {us : List Value} {Q : VK} (I : Inv X pins σ H s) (r : Vals vs us) (h : rSortedL X.K enc b vs H Q) : wpAny (model X.prog X.w) X.A (call (.builtin "sorted") us kw) (EP X pins σ Q) X.xe s := by
  obtain ⟨a, xs, bs, rfl, hs, hb, hal, hsr, hl, hd, q⟩ := h
  obtain ⟨its, rv, hli, _⟩ := I.list hs
  rw [Vals.ref1 r]
  obtain ⟨e1, e2⟩ := each_of I hb rv
  refine sorted_lstK (vs := its) (bs := bs) (enc := enc) (R := fun u b => ∃ v, RelV v u ∧ Dp X.K H v (enc b)) hkw (ha1 _) ha2 hli e1 e2 hal hsr (by rw [sizeLine_eq]; omega) (fun b m => by have := hd b m; omega) fun out h' h2 n k1 k2 hat ho h1 => ?_
  obtain ⟨ys, g2, g3⟩ := of_each h1
  have I' : Inv X pins σ H { s with heap := h' } := I.kept (t' := s.toks) k1
  have hlen : ys.length ≤ sizeLine := by rw [g2.length, ho, sizeLine_eq]; omega
  exact ⟨.ref _, upd H h'.objs.size (.lst ys), I'.laid (t' := s.toks) (fun b o e => k2 b o e) (Nat.le_refl _) ⟨hlen, out, n, g2, hat⟩, rfl, q _ ys (I'.hok.fresh (Nat.le_refl _)) g3⟩
theorem cr_sortedL {β : Type} (enc : β → PyData) (hu : X.A.units + 110 < cLine) : CallR X (.builtin "sorted") (rSortedL X.K enc false) := by
  intro pins s σ H vs us Q I r h
  exact sortedL_run (kw := []) hu plain_is_rev (fun _ => args_sorted1 _) (fun _ => args_list_sort _) I r h
end
theorem Got.imp {P : Program} {w : World} {K : PySem.W.Frag} {mg : Str → Option Value} {base : Heap} {x : Str} {ps : List Str} {k : Nat} {sp sp' : Sp} (G : Got P w K mg base x ps k sp) (h : ∀ vs H Q E, sp' vs H Q E → sp vs H Q E) : Got P w K mg base x ps k sp' := by
  obtain ⟨f, fd, h1, h2⟩ := G.ex
  exact ⟨f, fd, h1.imp h, h2⟩
end FT
namespace FT
open PySem PySem.W PySem.Spec PyProof.Rows L2
theorem dl_irrefl (x : PyData) : dataLt x x = false := lex_irrefl (O := itemOrd) _
theorem dl_trans {x y z : PyData} (h : dataLt x y = true) (h2 : dataLt y z = true) : dataLt x z = true := lex_trans (O := itemOrd) _ _ _ h h2
theorem dl_total {x y : PyData} (al : alike x y = true) (h : dataLt x y = false) (h2 : dataLt y x = false) : PyData.eqv x y = true := by
  have e : keyToks x = keyToks y := lex_total (O := itemOrd) _ _ h h2
  cases hq : PyData.eqv x y with
  | true => rfl
  | false =>
    have t := (toks_eqv x y al).2 hq [.inl 0] [.inl 1]
    rw [e] at t
    have t2 : PyProof.Rows.lexLt itemOrd (keyToks y ++ [.inl 0]) (keyToks y ++ [.inl 1]) = PyProof.Rows.lexLt itemOrd [.inl 0] [.inl 1] := lex_pre _ _ _
    have t3 : PyProof.Rows.lexLt itemOrd (keyToks y) (keyToks y) = false := lex_irrefl (O := itemOrd) _
    rw [t2, t3, lex_one] at t
    revert t
    decide
theorem dl_asymm {x y : PyData} (h : dataLt x y = true) : dataLt y x = false := by
  cases e : dataLt y x with
  | false => rfl
  | true => have := dl_trans h e; rw [dl_irrefl] at this; cases this
/-- things whose data are alike and like only where they are the same -/
class Orderly {γ : Type} [DecidableEq γ] (enc : γ → PyData) : Prop where
  al : ∀ a b, alike (enc a) (enc b) = true
  eq : ∀ a b, PyData.eqv (enc a) (enc b) = decide (a = b)
section
variable {γ : Type} [DecidableEq γ] {enc : γ → PyData} [O : Orderly enc]
theorem ol_tri {a b : γ} (hne : a ≠ b) (h : dataLt (enc a) (enc b) = false) : dataLt (enc b) (enc a) = true := by
  cases e : dataLt (enc b) (enc a) with
  | true => rfl
  | false =>
    have := dl_total (O.al a b) h e
    rw [O.eq] at this
    exact absurd (of_decide_eq_true this) hne
theorem ol_ne {a b : γ} (h : dataLt (enc a) (enc b) = true) : a ≠ b := fun z => by subst z; rw [dl_irrefl] at h; cases h
instance : Orderly (pairE enc) where
  al a b := by simp [pairE, alike, alikeAll, O.al a.1 b.1]
  eq a b := by
    simp only [pairE, PyData.eqv, PyData.eqvAll, O.eq, Bool.and_true, ib]
    by_cases h : a = b
    · subst h; simp
    · rw [decide_eq_false h]
      rw [Bool.and_eq_false_iff]
      by_cases h1 : a.1 = b.1
      · exact .inr (decide_eq_false fun h2 => h (Prod.ext h1 h2))
      · exact .inl (decide_eq_false h1)
theorem pairE_lt (p q : γ × Int) : dataLt (pairE enc p) (pairE enc q) = if p.1 = q.1 then decide (p.2 < q.2) else dataLt (enc p.1) (enc q.1) := by
  unfold pairE
  rw [dataLt_pair (O.al p.1 q.1) (by simp [alike]), O.eq]
  by_cases h : p.1 = q.1
  · rw [if_pos (by simp [h]), if_pos h, dataLt_int]
    by_cases h2 : p.2 = q.2
    · simp [PyData.eqv, h2]
    · simp [PyData.eqv, h2]
  · rw [if_neg (by simp [h]), if_neg h]
/-- in order -/
def srtE (enc : γ → PyData) (bs : List γ) : List γ := bs.mergeSort (dataLe false enc)
theorem srtE_perm (bs : List γ) : (srtE enc bs).Perm bs := List.mergeSort_perm _ _
theorem srtE_le (bs : List γ) : (srtE enc bs).Pairwise (fun a b => dataLt (enc b) (enc a) = false) := by
  have h := List.pairwise_mergeSort (le := dataLe false enc) (fun a b c h1 h2 => ?_) (fun a b => ?_) bs
  · refine h.imp fun {a b} hab => ?_
    rw [dataLe_eq] at hab
    simpa using hab
  · rw [dataLe_eq] at h1 h2 ⊢
    simp only [cond_false, Bool.not_eq_true'] at h1 h2 ⊢
    by_cases hab : a = b
    · subst hab; exact h2
    · by_cases hbc : b = c
      · subst hbc; exact h1
      · exact dl_asymm (dl_trans (ol_tri (fun z => hab z.symm) h1) (ol_tri (fun z => hbc z.symm) h2))
  · rw [dataLe_eq]
    simp only [cond_false]
    cases e : dataLt (enc b) (enc a) with
    | false => rfl
    | true => rw [dl_asymm e]; rfl
/-- two rows of the same things in order are the same -/
theorem rises_one : ∀ {as bs : List γ}, as.Perm bs → as.Pairwise (fun a b => dataLt (enc b) (enc a) = false) → bs.Pairwise (fun a b => dataLt (enc b) (enc a) = false) → as = bs
  | [], bs, h, _, _ => (List.Perm.nil_eq h)
  | a :: as, [], h, _, _ => absurd h.symm (List.not_perm_nil_cons _ _)
  | a :: as, b :: bs, h, h1, h2 => by
    have hab : a = b := by
      have ha : a ∈ b :: bs := h.mem_iff.mp (List.mem_cons_self ..)
      have hb : b ∈ a :: as := h.mem_iff.mpr (List.mem_cons_self ..)
      rcases List.mem_cons.mp ha with ha | ha
      · exact ha
      · rcases List.mem_cons.mp hb with hb | hb
        · exact hb.symm
        · have e1 := (List.pairwise_cons.mp h1).1 b hb
          have e2 := (List.pairwise_cons.mp h2).1 a ha
          by_cases hq : a = b
          · exact hq
          · exact absurd (ol_tri hq e2) (by rw [e1]; exact Bool.false_ne_true)
    subst hab
    rw [rises_one (List.Perm.cons_inv h) (List.pairwise_cons.mp h1).2 (List.pairwise_cons.mp h2).2]
theorem srtE_of {cs bs : List γ} (hp : cs.Perm bs) (hs : cs.Pairwise (fun a b => dataLt (enc b) (enc a) = false)) : cs = srtE enc bs := rises_one (hp.trans (srtE_perm bs).symm) hs (srtE_le bs)
/-- how many of a thing -/
def sumE (ps : List (γ × Int)) (x : γ) : Int := match ps with
  | [] => 0
  | p :: r => (if p.1 = x then p.2 else 0) + sumE r x
theorem sumE_append (x : γ) : ∀ (as bs : List (γ × Int)), sumE (as ++ bs) x = sumE as x + sumE bs x
  | [], bs => by simp [sumE]
  | p :: r, bs => by show _ + sumE (r ++ bs) x = _; rw [sumE_append x r bs, sumE]; omega
theorem sumE_perm {as bs : List (γ × Int)} (h : as.Perm bs) (x : γ) : sumE as x = sumE bs x := by
  induction h with
  | nil => rfl
  | cons y _ ih => simp only [sumE]; omega
  | swap y z l => simp only [sumE]; omega
  | trans _ _ h1 h2 => omega
theorem sumE_jstep (acc : List (γ × Int)) (p : γ × Int) (x : γ) : sumE (jstep acc p) x = sumE acc x + (if p.1 = x then p.2 else 0) := by
  rcases List.eq_nil_or_concat acc with h | ⟨a, z, h⟩
  · subst h; rw [jstep_nil]; simp [sumE]
  · subst h
    rw [List.concat_eq_append, jstep_snoc]
    by_cases hz : z.1 = p.1
    · rw [if_pos hz, sumE_append, sumE_append]
      simp only [sumE, hz]
      by_cases hx : p.1 = x
      · simp only [if_pos hx]; omega
      · simp only [if_neg hx]; omega
    · rw [if_neg hz, sumE_append]; simp only [sumE]; omega
theorem sumE_jn (bs : List (γ × Int)) (x : γ) : sumE (jn bs) x = sumE bs x := by
  have key : ∀ (bs acc : List (γ × Int)), sumE (bs.foldl jstep acc) x = sumE acc x + sumE bs x := by
    intro bs
    induction bs with
    | nil => intro acc; simp [sumE]
    | cons p r ih =>
      intro acc
      show sumE (r.foldl jstep (jstep acc p)) x = _
      rw [ih, sumE_jstep, sumE]; omega
  have := key bs []
  simpa [jn, sumE] using this
/-- keys that do not fall rise strictly when like ones are put together -/
theorem jn_rise {bs : List (γ × Int)} (h : bs.Pairwise (fun a b => dataLt (enc b.1) (enc a.1) = false)) : (jn bs).Pairwise (fun p q => dataLt (enc p.1) (enc q.1) = true) := by
  have key : ∀ (bs acc : List (γ × Int)), acc.Pairwise (fun p q => dataLt (enc p.1) (enc q.1) = true) → (∀ a ∈ acc, ∀ b ∈ bs, dataLt (enc b.1) (enc a.1) = false) → bs.Pairwise (fun a b => dataLt (enc b.1) (enc a.1) = false) → (bs.foldl jstep acc).Pairwise (fun p q => dataLt (enc p.1) (enc q.1) = true) := by
    intro bs
    induction bs with
    | nil => intro acc h _ _; exact h
    | cons p r ih =>
      intro acc h1 h2 h3
      obtain ⟨h31, h32⟩ := List.pairwise_cons.mp h3
      refine ih (jstep acc p) ?_ ?_ h32
      · rcases List.eq_nil_or_concat acc with h | ⟨a, z, h⟩
        · subst h; rw [jstep_nil]; exact List.pairwise_singleton _ _
        · subst h
          rw [List.concat_eq_append] at h1 h2 ⊢
          rw [jstep_snoc]
          obtain ⟨a1, _, a3⟩ := List.pairwise_append.mp h1
          by_cases hz : z.1 = p.1
          · rw [if_pos hz, List.pairwise_append]
            refine ⟨a1, List.pairwise_singleton _ _, fun x hx y hy => ?_⟩
            have hy' : y = (p.1, z.2 + p.2) := by simpa using hy
            subst hy'
            show dataLt (enc x.1) (enc p.1) = true
            rw [← hz]; exact a3 x hx z (by simp)
          · rw [if_neg hz, List.pairwise_append]
            refine ⟨h1, List.pairwise_singleton _ _, fun x hx y hy => ?_⟩
            have hy' : y = p := by simpa using hy
            subst hy'
            have hzp : dataLt (enc z.1) (enc y.1) = true := ol_tri (fun q => hz q.symm) (h2 z (by simp) y (List.mem_cons_self ..))
            rcases List.mem_append.mp hx with hx | hx
            · exact dl_trans (a3 x hx z (by simp)) hzp
            · have hx' : x = z := by simpa using hx
              subst hx'; exact hzp
      · intro a ha b hb
        have hpb := h31 b hb
        rcases List.eq_nil_or_concat acc with h | ⟨c, z, h⟩
        · subst h
          rw [jstep_nil] at ha
          have : a = p := by simpa using ha
          subst this; exact hpb
        · subst h
          rw [List.concat_eq_append] at ha h2
          rw [jstep_snoc] at ha
          by_cases hz : z.1 = p.1
          · rw [if_pos hz] at ha
            rcases List.mem_append.mp ha with ha | ha
            · exact h2 a (List.mem_append_left _ ha) b (List.mem_cons_of_mem _ hb)
            · have : a = (p.1, z.2 + p.2) := by simpa using ha
              subst this; exact hpb
          · rw [if_neg hz] at ha
            rcases List.mem_append.mp ha with ha | ha
            · exact h2 a ha b (List.mem_cons_of_mem _ hb)
            · have : a = p := by simpa using ha
              subst this; exact hpb
  exact key bs [] List.Pairwise.nil (by simp) h
theorem srt_keys (bs : List (γ × Int)) : (srtE (pairE enc) bs).Pairwise (fun a b => dataLt (enc b.1) (enc a.1) = false) := by
  refine (srtE_le (enc := pairE enc) bs).imp fun {a b} hab => ?_
  rw [pairE_lt] at hab
  by_cases h : b.1 = a.1
  · rw [h]; exact dl_irrefl _
  · rw [if_neg h] at hab; exact hab
/-- put in order, like ones together -/
def tdy (enc : γ → PyData) (bs : List (γ × Int)) : List (γ × Int) := jn (srtE (pairE enc) bs)
theorem tdy_rise (bs : List (γ × Int)) : (tdy enc bs).Pairwise (fun p q => dataLt (enc p.1) (enc q.1) = true) := jn_rise (srt_keys bs)
theorem tdy_sum (bs : List (γ × Int)) (x : γ) : sumE (tdy enc bs) x = sumE bs x := by
  unfold tdy
  rw [sumE_jn, sumE_perm (srtE_perm bs)]
theorem tdy_keys (bs : List (γ × Int)) : ∀ p ∈ tdy enc bs, ∃ q ∈ bs, q.1 = p.1 := fun p hp => by
  obtain ⟨q, hq, e⟩ := jn_keys _ p hp
  exact ⟨q, (srtE_perm bs).mem_iff.mp hq, e⟩
/-- how many in all -/
def allE : List (γ × Int) → Int
  | [] => 0
  | p :: r => p.2 + allE r
theorem allE_append : ∀ as bs : List (γ × Int), allE (as ++ bs) = allE as + allE bs
  | [], bs => by simp [allE]
  | p :: r, bs => by show _ + allE (r ++ bs) = _; rw [allE_append r bs, allE]; omega
theorem allE_perm {as bs : List (γ × Int)} (h : as.Perm bs) : allE as = allE bs := by
  induction h with
  | nil => rfl
  | cons y _ ih => simp only [allE]; omega
  | swap y z l => simp only [allE]; omega
  | trans _ _ h1 h2 => omega
theorem jn_all (bs : List (γ × Int)) : allE (jn bs) = allE bs := by
  have key : ∀ (bs acc : List (γ × Int)), allE (bs.foldl jstep acc) = allE acc + allE bs := by
    intro bs
    induction bs with
    | nil => intro acc; simp [allE]
    | cons p r ih =>
      intro acc
      show allE (r.foldl jstep (jstep acc p)) = _
      rw [ih]
      have e : allE (jstep acc p) = allE acc + p.2 := by
        rcases List.eq_nil_or_concat acc with h | ⟨a, z, h⟩
        · subst h; rw [jstep_nil]; simp [allE]
        · subst h
          rw [List.concat_eq_append, jstep_snoc]
          split
          · rw [allE_append, allE_append]; simp only [allE]; omega
          · rw [allE_append]; simp only [allE]; omega
      rw [e, allE]; omega
  have := key bs []
  simpa [jn, allE] using this
theorem jn_pos {bs : List (γ × Int)} (h : ∀ p ∈ bs, 1 ≤ p.2) : ∀ p ∈ jn bs, 1 ≤ p.2 := by
  have key : ∀ (bs acc : List (γ × Int)), (∀ p ∈ acc, 1 ≤ p.2) → (∀ p ∈ bs, 1 ≤ p.2) → ∀ p ∈ bs.foldl jstep acc, 1 ≤ p.2 := by
    intro bs
    induction bs with
    | nil => intro acc h _; exact h
    | cons p r ih =>
      intro acc h1 h2
      refine ih (jstep acc p) (fun q hq => ?_) fun q hq => h2 q (List.mem_cons_of_mem _ hq)
      have hp := h2 p (List.mem_cons_self ..)
      rcases List.eq_nil_or_concat acc with h | ⟨a, z, h⟩
      · subst h
        rw [jstep_nil] at hq
        have : q = p := by simpa using hq
        subst this; exact hp
      · subst h
        rw [List.concat_eq_append] at h1 hq
        rw [jstep_snoc] at hq
        have hz := h1 z (by simp)
        by_cases e : z.1 = p.1
        · rw [if_pos e] at hq
          rcases List.mem_append.mp hq with hq | hq
          · exact h1 q (List.mem_append_left _ hq)
          · have : q = (p.1, z.2 + p.2) := by simpa using hq
            subst this; show 1 ≤ z.2 + p.2; omega
        · rw [if_neg e] at hq
          rcases List.mem_append.mp hq with hq | hq
          · exact h1 q hq
          · have : q = p := by simpa using hq
            subst this; exact hp
  exact key bs [] (by simp) h
theorem le_all {bs : List (γ × Int)} (h : ∀ p ∈ bs, 1 ≤ p.2) : ∀ p ∈ bs, p.2 ≤ allE bs := by
  induction bs with
  | nil => intro p hp; cases hp
  | cons a r ih =>
    intro p hp
    have hr : 0 ≤ allE r := by
      clear ih hp
      have : ∀ p ∈ r, 1 ≤ p.2 := fun p hp => h p (List.mem_cons_of_mem _ hp)
      clear h
      induction r with
      | nil => exact Int.le_refl _
      | cons b r ih2 =>
        have h1 := this b (List.mem_cons_self ..)
        have h2 := ih2 fun p hp => this p (List.mem_cons_of_mem _ hp)
        show 0 ≤ b.2 + allE r; omega
    have ha := h a (List.mem_cons_self ..)
    rcases List.mem_cons.mp hp with hp | hp
    · subst hp; show p.2 ≤ p.2 + allE r; omega
    · have := ih (fun p hp => h p (List.mem_cons_of_mem _ hp)) p hp
      show p.2 ≤ a.2 + allE r; omega
theorem tdy_pos {bs : List (γ × Int)} (h : ∀ p ∈ bs, 1 ≤ p.2) : ∀ p ∈ tdy enc bs, 1 ≤ p.2 ∧ p.2 ≤ allE bs := fun p hp => by
  have h0 : ∀ p ∈ srtE (pairE enc) bs, 1 ≤ p.2 := fun p hp => h p ((srtE_perm bs).mem_iff.mp hp)
  have h1 := jn_pos h0
  refine ⟨h1 p hp, ?_⟩
  have h2 := le_all h1 p hp
  rw [jn_all, allE_perm (srtE_perm bs)] at h2
  exact h2
end
end FT
namespace FT
open PySem PySem.W PySem.Spec PyProof.Rows L2
inductive Gr where
  | nil
  | cons (k : Str) (g : Gr) (m : Int) (r : Gr)
  deriving DecidableEq
abbrev Tr := Str × Gr
/-- a name: one to eight small letters -/
def NameOk (k : Str) : Prop := 1 ≤ k.cps.toList.length ∧ k.cps.toList.length ≤ 8 ∧ ∀ c ∈ k.cps.toList, 97 ≤ c ∧ c ≤ 122
namespace Gr
def encs : Gr → List PyData
  | .nil => []
  | .cons k g m r => .tuple [.tuple [.str k, .tuple g.encs], .int m] :: r.encs
def enc (g : Gr) : PyData := .tuple g.encs
def tEnc (t : Tr) : PyData := .tuple [.str t.1, t.2.enc]
abbrev pEnc : Tr × Int → PyData := pairE tEnc
def ps : Gr → List (Tr × Int)
  | .nil => []
  | .cons k g m r => ((k, g), m) :: r.ps
def ofPs : List (Tr × Int) → Gr
  | [] => .nil
  | p :: r => .cons p.1.1 p.1.2 p.2 (ofPs r)
theorem ofPs_ps : ∀ g : Gr, ofPs g.ps = g
  | .nil => rfl
  | .cons k g m r => by show Gr.cons k g m (ofPs r.ps) = _; rw [ofPs_ps r]
theorem ps_ofPs : ∀ bs : List (Tr × Int), (ofPs bs).ps = bs
  | [] => rfl
  | p :: r => by show ((p.1.1, p.1.2), p.2) :: (ofPs r).ps = _; rw [ps_ofPs r]
theorem encs_ps : ∀ g : Gr, g.encs = g.ps.map pEnc
  | .nil => rfl
  | .cons k g m r => by show _ :: r.encs = _ :: r.ps.map pEnc; rw [encs_ps r]; rfl
def parts : Gr → Nat
  | .nil => 0
  | .cons _ g _ r => 1 + g.parts + r.parts
def deep : Gr → Nat
  | .nil => 0
  | .cons _ g _ r => max (1 + g.deep) r.deep
def size : Gr → Int
  | .nil => 0
  | .cons _ g m r => m * (1 + g.size) + r.size
def tot : List (Tr × Int) → Nat
  | [] => 0
  | p :: r => 1 + p.1.2.parts + tot r
theorem parts_ofPs : ∀ bs : List (Tr × Int), (ofPs bs).parts = tot bs
  | [] => rfl
  | p :: r => by show 1 + p.1.2.parts + (ofPs r).parts = 1 + p.1.2.parts + tot r; rw [parts_ofPs r]
theorem tot_ps (g : Gr) : tot g.ps = g.parts := by rw [← parts_ofPs, ofPs_ps]
theorem tot_append : ∀ bs cs : List (Tr × Int), tot (bs ++ cs) = tot bs + tot cs
  | [], cs => by simp [tot]
  | p :: r, cs => by show 1 + p.1.2.parts + tot (r ++ cs) = _; rw [tot_append r cs, tot]; omega
theorem tot_perm {bs cs : List (Tr × Int)} (h : bs.Perm cs) : tot bs = tot cs := by
  induction h with
  | nil => rfl
  | cons x _ ih => simp only [tot]; omega
  | swap x y l => simp only [tot]; omega
  | trans _ _ h1 h2 => omega
theorem len_tot : ∀ bs : List (Tr × Int), bs.length ≤ tot bs
  | [] => Nat.le_refl _
  | p :: r => by have := len_tot r; show r.length + 1 ≤ 1 + p.1.2.parts + tot r; omega
theorem tot_jn (bs : List (Tr × Int)) : tot (jn bs) ≤ tot bs := by
  have key : ∀ (bs acc : List (Tr × Int)), tot (bs.foldl jstep acc) ≤ tot acc + tot bs := by
    intro bs
    induction bs with
    | nil => intro acc; simp [tot]
    | cons x r ih =>
      intro acc
      have h1 := ih (jstep acc x)
      have h2 : tot (jstep acc x) ≤ tot acc + (1 + x.1.2.parts) := by
        rcases List.eq_nil_or_concat acc with h | ⟨a, z, h⟩
        · subst h; simp [jstep_nil, tot]
        · subst h
          rw [List.concat_eq_append, jstep_snoc]
          by_cases hz : z.1 = x.1
          · rw [if_pos hz, tot_append, tot_append]; simp only [tot]; rw [hz]; omega
          · rw [if_neg hz, tot_append, tot_append]; simp only [tot]; omega
      show tot (r.foldl jstep (jstep acc x)) ≤ tot acc + (1 + x.1.2.parts + tot r)
      omega
  have := key bs []
  simpa [jn, tot] using this
theorem mem_deep : ∀ (g : Gr) (p : Tr × Int), p ∈ g.ps → p.1.2.deep < g.deep
  | .nil, p, h => by cases h
  | .cons k g m r, p, h => by
    rcases List.mem_cons.mp h with h | h
    · subst h; show g.deep < max (1 + g.deep) r.deep; omega
    · have := mem_deep r p h; show _ < max (1 + g.deep) r.deep; omega
theorem mem_parts : ∀ (g : Gr) (p : Tr × Int), p ∈ g.ps → p.1.2.parts < g.parts
  | .nil, p, h => by cases h
  | .cons k g m r, p, h => by
    rcases List.mem_cons.mp h with h | h
    · subst h; show g.parts < 1 + g.parts + r.parts; omega
    · have := mem_parts r p h; show _ < 1 + g.parts + r.parts; omega
theorem deep_le {n : Nat} : ∀ {g : Gr}, (∀ p ∈ g.ps, p.1.2.deep < n) → g.deep ≤ n
  | .nil, _ => Nat.zero_le _
  | .cons k g m r, h => by
    have h1 := h ((k, g), m) (List.mem_cons_self ..)
    have h2 := deep_le (g := r) fun p hp => h p (List.mem_cons_of_mem _ hp)
    show max (1 + g.deep) r.deep ≤ n
    have : g.deep < n := h1
    omega
theorem len_parts (g : Gr) : g.ps.length ≤ g.parts := by have := len_tot g.ps; rw [tot_ps] at this; exact this
theorem alikes : ∀ g h : Gr, alikeAll g.encs h.encs = true
  | .nil, _ => by simp [encs, alikeAll]
  | .cons _ _ _ _, .nil => by simp [encs, alikeAll]
  | .cons k g m r, .cons k' g' m' r' => by
    have h1 := alikes g g'
    have h2 := alikes r r'
    simp [encs, alikeAll, alike, h1, h2]
theorem alike_enc (g h : Gr) : alike g.enc h.enc = true := by
  show alike (.tuple g.encs) (.tuple h.encs) = true
  rw [alike]; exact alikes g h
theorem sb (a b : Str) : (a == b) = decide (a = b) := by by_cases h : a = b <;> simp [h]
theorem eqvs : ∀ g h : Gr, PyData.eqvAll g.encs h.encs = decide (g = h)
  | .nil, .nil => by simp [encs, PyData.eqvAll]
  | .nil, .cons _ _ _ _ => by simp [encs, PyData.eqvAll]
  | .cons _ _ _ _, .nil => by simp [encs, PyData.eqvAll]
  | .cons k g m r, .cons k' g' m' r' => by
    have h1 := eqvs g g'
    have h2 := eqvs r r'
    simp [encs, PyData.eqvAll, PyData.eqv, h1, h2, Bool.and_assoc, ib, sb]
theorem eqv_enc (g h : Gr) : PyData.eqv g.enc h.enc = decide (g = h) := by
  rw [enc, enc, PyData.eqv]; exact eqvs g h
instance : Orderly tEnc where
  al a b := by simp [tEnc, alike, alikeAll, alike_enc]
  eq a b := by
    simp only [tEnc, PyData.eqv, PyData.eqvAll, eqv_enc, Bool.and_true, sb]
    by_cases h : a = b
    · subst h; simp
    · rw [decide_eq_false h, Bool.and_eq_false_iff]
      by_cases h1 : a.1 = b.1
      · exact .inr (decide_eq_false fun h2 => h (Prod.ext h1 h2))
      · exact .inl (decide_eq_false h1)
theorem noLists_encs : ∀ g : Gr, noLists g.encs = true
  | .nil => by simp [encs, noLists]
  | .cons k g m r => by simp [encs, noLists, noList, noLists_encs g, noLists_encs r]
theorem noList_enc (g : Gr) : noList g.enc = true := by simp [enc, noList, noLists_encs g]
theorem noList_tEnc (t : Tr) : noList (tEnc t) = true := by simp [tEnc, noList, noLists, noList_enc]
theorem noList_pEnc (p : Tr × Int) : noList (pEnc p) = true := by simp [pEnc, pairE, noList, noLists, noList_tEnc]
theorem encs_depth : ∀ g : Gr, PyData.depthAll g.encs ≤ 3 * g.deep
  | .nil => by simp [encs, PyData.depthAll, deep]
  | .cons k g m r => by
    have h1 := encs_depth g
    have h2 := encs_depth r
    simp only [encs, PyData.depthAll, PyData.depth, deep]
    omega
theorem enc_depth (g : Gr) : g.enc.depth ≤ 3 * g.deep + 1 := by
  have := encs_depth g
  simp only [enc, PyData.depth]
  omega
theorem tEnc_depth (t : Tr) : (tEnc t).depth ≤ 3 * t.2.deep + 2 := by
  have := enc_depth t.2
  simp only [tEnc, PyData.depth, PyData.depthAll]; omega
theorem pEnc_depth (p : Tr × Int) : (pEnc p).depth ≤ 3 * p.1.2.deep + 3 := by
  have := tEnc_depth p.1
  simp only [pEnc, pairE, PyData.depth, PyData.depthAll]; omega
/-- all names are names, numbers from 1 to below C, trees in order -/
def Ok (C : Int) : Gr → Prop
  | .nil => True
  | .cons k g m r => NameOk k ∧ g.Ok C ∧ 1 ≤ m ∧ m < C ∧ r.Ok C ∧ ∀ p ∈ r.ps, dataLt (tEnc (k, g)) (tEnc p.1) = true
theorem Ok.mono {B C : Int} (h : B ≤ C) : ∀ {g : Gr}, g.Ok B → g.Ok C
  | .nil, _ => trivial
  | .cons k g m r, ⟨h0, h1, h2, h3, h4, h5⟩ => ⟨h0, Ok.mono h h1, h2, by omega, Ok.mono h h4, h5⟩
theorem ok_ps {C : Int} : ∀ {bs : List (Tr × Int)}, (ofPs bs).Ok C ↔ (∀ p ∈ bs, NameOk p.1.1 ∧ p.1.2.Ok C ∧ 1 ≤ p.2 ∧ p.2 < C) ∧ bs.Pairwise (fun p q => dataLt (tEnc p.1) (tEnc q.1) = true)
  | [] => by simp [ofPs, Ok]
  | x :: r => by
    have ih := ok_ps (C := C) (bs := r)
    show (NameOk x.1.1 ∧ x.1.2.Ok C ∧ 1 ≤ x.2 ∧ x.2 < C ∧ (ofPs r).Ok C ∧ ∀ p ∈ (ofPs r).ps, dataLt (tEnc x.1) (tEnc p.1) = true) ↔ _
    rw [ps_ofPs, List.pairwise_cons, ih]
    constructor
    · rintro ⟨h0, h1, h2, h3, ⟨h4, h5⟩, h6⟩
      refine ⟨fun p hp => ?_, h6, h5⟩
      rcases List.mem_cons.mp hp with hp | hp
      · subst hp; exact ⟨h0, h1, h2, h3⟩
      · exact h4 p hp
    · rintro ⟨h1, h2, h3⟩
      have h4 := h1 x (List.mem_cons_self ..)
      exact ⟨h4.1, h4.2.1, h4.2.2.1, h4.2.2.2, ⟨fun p hp => h1 p (List.mem_cons_of_mem _ hp), h3⟩, h2⟩
theorem ok_iff {C : Int} {g : Gr} : g.Ok C ↔ (∀ p ∈ g.ps, NameOk p.1.1 ∧ p.1.2.Ok C ∧ 1 ≤ p.2 ∧ p.2 < C) ∧ g.ps.Pairwise (fun p q => dataLt (tEnc p.1) (tEnc q.1) = true) := by
  have := ok_ps (C := C) (bs := g.ps)
  rw [ofPs_ps] at this
  exact this
theorem strOk_name {k : Str} (h : NameOk k) : PySem.PyData.strOk k = true := by
  show k.cps.all (· < 0x110000) = true
  rw [Array.all_eq_true']
  intro c hc
  have := h.2.2 c (by simpa using hc)
  simp; omega
theorem lays {C : Int} : ∀ {g : Gr}, g.Ok C → PyData.canLayAll0 g.encs = true
  | .nil, _ => by simp [encs, PyData.canLayAll0]
  | .cons k g m r, ⟨h0, h1, _, _, h4, _⟩ => by
    have e1 := lays h1
    have e2 := lays h4
    simp [encs, PyData.canLayAll0, PyData.canLay0, e1, e2, strOk_name h0]
theorem shaped_enc {C : Int} {g : Gr} (h : g.Ok C) (hd : g.deep ≤ 20) : SeqAt.shaped g.enc = true := by
  have := g.enc_depth
  unfold SeqAt.shaped
  rw [show g.enc.canLay0 = true by rw [enc, PyData.canLay0]; exact lays h]
  simp; omega
theorem shaped_tEnc {C : Int} {t : Tr} (h0 : NameOk t.1) (h : t.2.Ok C) (hd : t.2.deep ≤ 20) : SeqAt.shaped (tEnc t) = true := by
  have := tEnc_depth t
  unfold SeqAt.shaped
  rw [show (tEnc t).canLay0 = true by simp [tEnc, PyData.canLay0, PyData.canLayAll0, strOk_name h0, enc, lays h]]
  simp; omega
theorem pEnc_all (bs : List (Tr × Int)) : AllAlike (bs.map pEnc) := AllAlike.of fun a b => Orderly.al (enc := pEnc) a b
theorem pEnc_sortable (bs : List (Tr × Int)) : Sortable (bs.map pEnc) := Sortable.tuples fun b => ⟨_, _, rfl⟩
/-- the grove of some pairs -/
def tidy (bs : List (Tr × Int)) : Gr := ofPs (tdy tEnc bs)
theorem tidy_parts (bs : List (Tr × Int)) : (tidy bs).parts ≤ tot bs := by
  unfold tidy
  rw [parts_ofPs]
  have h1 := tot_jn (srtE (pairE tEnc) bs)
  rw [tot_perm (srtE_perm bs)] at h1
  exact h1
theorem tidy_deep {n : Nat} {bs : List (Tr × Int)} (h : ∀ p ∈ bs, p.1.2.deep < n) : (tidy bs).deep ≤ n := by
  refine deep_le fun p hp => ?_
  unfold tidy at hp
  rw [ps_ofPs] at hp
  obtain ⟨q, hq, e⟩ := tdy_keys bs p hp
  rw [← e]; exact h q hq
end Gr
/-- at v stands the grove g -/
def GA (K : PySem.W.Frag) (H : Hp) (v : V) (g : Gr) : Prop := Dp K H v g.enc
section
variable {K : PySem.W.Frag} {ps : List Addr} {H H' : Hp} {v : V} {g : Gr}
theorem GA.sb (h : GA K H v g) (e : SB ps H H') : GA K H' v g := Dp_sb e _ _ g.noList_enc h
theorem GA_bears (h : GA K H v g) : ∃ a xs, v = .ref a ∧ SqT K H a xs ∧ Bears K H Gr.pEnc xs g.ps := by
  have h' : Dp K H v (.tuple g.encs) := h
  cases h' with
  | tup hs ha =>
    rw [Gr.encs_ps] at ha
    exact ⟨_, _, rfl, hs, Bears.of ha⟩
theorem Bears_ga {a : Addr} {xs : List V} {bs : List (Tr × Int)} (h : SqT K H a xs) (hb : Bears K H Gr.pEnc xs bs) : GA K H (.ref a) (Gr.ofPs bs) := by
  refine Dp.tup h ?_
  rw [Gr.encs_ps, Gr.ps_ofPs]
  exact hb.dp
theorem GA_nil {p : Addr} (h : SqT K H p []) : GA K H (.ref p) .nil := Dp.tup h .nil
theorem TA_parts {t : Tr} (h : Dp K H v (Gr.tEnc t)) : ∃ a u, v = .ref a ∧ SqT K H a [.str t.1, u] ∧ GA K H u t.2 := by
  cases h with
  | tup hs ha =>
    cases ha with
    | cons h1 h2 =>
      cases h2 with
      | cons h3 h4 =>
        cases h4
        cases h1
        exact ⟨_, _, rfl, hs, h3⟩
theorem PA_parts {p : Tr × Int} (h : Dp K H v (Gr.pEnc p)) : ∃ a b u, v = .ref a ∧ SqT K H a [.ref b, .int p.2] ∧ SqT K H b [.str p.1.1, u] ∧ GA K H u p.1.2 ∧ Dp K H (.ref b) (Gr.tEnc p.1) := by
  cases h with
  | tup hs ha =>
    cases ha with
    | cons h1 h2 =>
      cases h2 with
      | cons h3 h4 =>
        cases h4
        cases h3
        obtain ⟨b, u, rfl, hb, hg⟩ := TA_parts h1
        exact ⟨_, b, u, rfl, hs, hb, hg, h1⟩
end
def PuG (H : Hp) (p : Addr) : Prop := ∃ x y : Int, H p = some (.lst [.int x, .int y]) ∧ 0 ≤ x ∧ 1 ≤ y ∧ y ≤ 18446744073709551557
theorem PuG.sb {H H' : Hp} {p : Addr} (h : PuG H p) (e : SB [] H H') : PuG H' p := by
  obtain ⟨x, y, h1, h2⟩ := h
  exact ⟨x, y, e.keep _ _ h1 List.not_mem_nil, h2⟩
theorem PuG.keep {H H' : Hp} {p : Addr} {ps : List Addr} (h : PuG H p) (e : SB ps H H') (n : p ∉ ps) : PuG H' p := by
  obtain ⟨x, y, h1, h2⟩ := h
  exact ⟨x, y, e.keep _ _ h1 n, h2⟩
theorem PuG.new {H : Hp} {p q : Addr} (h : PuG H p) (n : H q = none) {o : HO} : PuG (upd H q o) p := by
  obtain ⟨x, y, h1, h2⟩ := h
  exact ⟨x, y, by rw [upd_ne (ne_of_none h1 n)]; exact h1, h2⟩
theorem PuG.ne {H : Hp} {p q : Addr} (h : PuG H p) (n : H q = none) : p ≠ q := by
  obtain ⟨x, y, h1, h2⟩ := h
  exact ne_of_none h1 n
def spPurseG (K : PySem.W.Frag) : Sp := fun vs H Q _ => ∃ (a : Addr) (ns : List Int) (k : Nat), vs = [.ref a, .int (k : Int)] ∧ SqL K H a (ns.map V.int) ∧ ns.length ≤ 63 ∧ k ≤ 1000 ∧ ∀ p H', SB [] H H' → H p = none → PuG H' p → Q (.ref p) H'
def spTakeG : Sp := fun vs H Q _ => ∃ (p : Addr) (m : Int), vs = [.ref p, .int m] ∧ PuG H p ∧ 1 ≤ m ∧ m < 2 ^ 250 ∧ ∀ r H', 0 ≤ r → r < m → SB [p] H H' → PuG H' p → Q (.int r) H'
def spNamesG (K : PySem.W.Frag) : Sp := fun vs H Q _ => ∃ (p : Addr), vs = [.ref p] ∧ PuG H p ∧ ∀ (n : Addr) (ks : List Str) (H' : Hp), SB [p] H H' → PuG H' p → H n = none → H' n = some (.lst (ks.map V.str)) → 1 ≤ ks.length → ks.length ≤ 8 → (∀ k ∈ ks, NameOk k) → Q (.ref n) H'
end FT
namespace FT
open PySem PySem.W PySem.Spec PyProof.Rows L2
def Ltr (z : Str) (n : Nat) : Prop := z.cps.toList.length = n ∧ ∀ c ∈ z.cps.toList, 97 ≤ c ∧ c ≤ 122
theorem Ltr.name {z : Str} {n : Nat} (h : Ltr z n) (h1 : 1 ≤ n) (h8 : n ≤ 8) : NameOk z := ⟨by have := h.1; omega, by have := h.1; omega, h.2⟩
theorem Ltr.len {z : Str} {n : Nat} (h : Ltr z n) : z.length = n := by have := h.1; simpa [Str.length] using this
theorem Ltr.one {c : Nat} (h : 97 ≤ c ∧ c ≤ 122) : Ltr ⟨#[c]⟩ 1 := ⟨rfl, fun x hx => by simp at hx; subst hx; exact h⟩
theorem Ltr.append {a b : Str} {n m : Nat} (ha : Ltr a n) (hb : Ltr b m) : Ltr (a ++ b) (n + m) := by
  have e : (a ++ b).cps.toList = a.cps.toList ++ b.cps.toList := by show (a.cps ++ b.cps).toList = _; simp
  unfold Ltr
  rw [e, List.length_append, ha.1, hb.1]
  refine ⟨rfl, fun c hc => ?_⟩
  rcases List.mem_append.mp hc with hc | hc
  · exact ha.2 c hc
  · exact hb.2 c hc
theorem Ltr.take {z : Str} {n : Nat} (h : Ltr z n) (k : Nat) : Ltr (cutS z none (some (k : Int))) (min k n) := by
  have hl := h.len
  have e : (cutS z none (some (k : Int))).cps.toList = z.cps.toList.take (min k n) := by
    unfold cutS
    rw [HT.sIx_none, HT.sIx_nat, hl]
    simp
  unfold Ltr
  rw [e, List.length_take, h.1]
  exact ⟨by omega, fun c hc => h.2 c (List.mem_of_mem_take hc)⟩
theorem Ltr.cut {z : Str} {n : Nat} (h : Ltr z n) (a b : Nat) : Ltr (cutS z (some (a : Int)) (some (b : Int))) (min b n - min a n) := by
  have hl := h.len
  have e : (cutS z (some (a : Int)) (some (b : Int))).cps.toList = (z.cps.toList.drop (min a n)).take (min b n - min a n) := by
    unfold cutS
    rw [HT.sIx_nat, HT.sIx_nat, hl]
  unfold Ltr
  rw [e, List.length_take, List.length_drop, h.1]
  exact ⟨by omega, fun c hc => h.2 c (List.mem_of_mem_drop (List.mem_of_mem_take hc))⟩
theorem glue_ones : ∀ (cs : List Nat) (acc : Array Nat), ((cs.map fun c => (⟨#[c]⟩ : Str)).foldl (fun acc p => acc ++ (Str.ofString "").cps ++ p.cps) acc).toList = acc.toList ++ cs
  | [], acc => by simp
  | c :: cs, acc => by
    have e0 : (Str.ofString "").cps = #[] := by decide +kernel
    rw [List.map_cons, List.foldl_cons, glue_ones cs]
    simp [e0]
theorem join_ltrs (cs : List Nat) (h : ∀ c ∈ cs, 97 ≤ c ∧ c ≤ 122) : Ltr (Txt.join (Str.ofString "") (cs.map fun c => ⟨#[c]⟩)) cs.length := by
  have e : (Txt.join (Str.ofString "") (cs.map fun c => (⟨#[c]⟩ : Str))).cps.toList = cs := by
    show (Builtin.Str.glued (Str.ofString "") (cs.map fun c => (⟨#[c]⟩ : Str))).cps.toList = cs
    unfold Builtin.Str.glued
    cases cs with
    | nil => rfl
    | cons c r =>
      show ((r.map fun c => (⟨#[c]⟩ : Str)).foldl (fun acc p => acc ++ (Str.ofString "").cps ++ p.cps) #[c]).toList = c :: r
      rw [glue_ones]
      rfl
  unfold Ltr
  rw [e]
  exact ⟨rfl, h⟩
abbrev abc : Str := Str.ofString "abcdefghijklmnopqrstuvwxyz"
theorem abc_at : ∀ r : Nat, r < 26 → ∃ c, abc.cps.toList[r]? = some c ∧ 97 ≤ c ∧ c ≤ 122 := by
  have : ∀ r : Fin 26, ∃ c : Fin 200, abc.cps.toList[r.val]? = some c.val ∧ 97 ≤ c.val ∧ c.val ≤ 122 := by decide +kernel
  intro r hr
  obtain ⟨c, h⟩ := this ⟨r, hr⟩
  exact ⟨c.val, h⟩
theorem abc_len : abc.length ≤ sizeLine := by decide +kernel
theorem atI_natN {xs : List Nat} {j : Nat} {c : Nat} (h : xs[j]? = some c) : atI xs (j : Int) = some c := by
  have hj : j < xs.length := (List.getElem?_eq_some_iff.mp h).1
  unfold atI ixN
  rw [if_pos (by omega), if_pos (by omega)]
  simpa using h
theorem cutTakeS (ks : List Str) (k : Nat) : cutV (ks.map V.str) none (some (k : Int)) = (ks.take k).map V.str := by rw [cutTake, List.map_take]
theorem cutDropS (ks : List Str) (k : Nat) : cutV (ks.map V.str) (some (k : Int)) none = (ks.drop k).map V.str := by rw [cutDrop, List.map_drop]
/-- sorted(xs), xs a list or a tuple of data that are alike -/
def rSortedB (K : PySem.W.Frag) {β : Type} (enc : β → PyData) (vs : List V) (H : Hp) (Q : VK) : Prop := ∃ (a : Addr) (xs : List V) (bs : List β), vs = [V.ref a] ∧ (SqL K H a xs ∨ SqT K H a xs) ∧ Bears K H enc xs bs ∧ AllAlike (bs.map enc) ∧ Sortable (bs.map enc) ∧ bs.length ≤ 10000 ∧ (∀ b ∈ bs, (enc b).depth ≤ 100) ∧
  ∀ (p : Addr) (ys : List V), H p = none → Bears K H enc ys (bs.mergeSort (dataLe false enc)) → Q (.ref p) (upd H p (.lst ys))
theorem cr_sortedB {X : Cx} {β : Type} (enc : β → PyData) (hu : X.A.units + 110 < cLine) : CallR X (.builtin "sorted") (rSortedB X.K enc) := by
  intro pins s σ H vs us Q I r h
  obtain ⟨a, xs, bs, h1, h2, h3⟩ := h
  rcases h2 with h2 | h2
  · exact cr_sortedL enc hu pins s σ H vs us Q I r ⟨a, xs, bs, h1, h2, h3⟩
  · exact cr_sortedT enc hu pins s σ H vs us Q I r ⟨a, xs, bs, h1, h2, h3⟩
theorem Gr.shaped_rows {bs : List (Tr × Int)} (h : ∃ C, ∀ b ∈ bs, NameOk b.1.1 ∧ b.1.2.Ok C ∧ b.1.2.deep ≤ 18) : SeqAt.shaped (.list (bs.map Gr.pEnc)) = true := by
  obtain ⟨C, h⟩ := h
  have h1 : PyData.canLayAll0 (bs.map Gr.pEnc) = true := by
    induction bs with
    | nil => simp [PyData.canLayAll0]
    | cons b r ih =>
      have e := ih fun c hc => h c (List.mem_cons_of_mem _ hc)
      obtain ⟨n, o, _⟩ := h b (List.mem_cons_self ..)
      rw [List.map_cons, PyData.canLayAll0, e]
      simp [Gr.pEnc, pairE, Gr.tEnc, PyData.canLay0, PyData.canLayAll0, Gr.enc, Gr.lays o, Gr.strOk_name n]
  have h2 : PyData.depthAll (bs.map Gr.pEnc) ≤ 57 := by
    clear h1
    induction bs with
    | nil => simp [PyData.depthAll]
    | cons b r ih =>
      have e1 := ih (fun c hc => h c (List.mem_cons_of_mem _ hc))
      have e2 := (h b (List.mem_cons_self ..)).2.2
      have e3 := Gr.pEnc_depth b
      rw [List.map_cons, PyData.depthAll]
      omega
  have h3 : (PyData.list (bs.map Gr.pEnc)).depth = PyData.depthAll (bs.map Gr.pEnc) + 1 := by simp [PyData.depth]
  unfold SeqAt.shaped
  rw [PyData.canLay0, h1, Bool.true_and]
  exact decide_eq_true (by omega)
section
variable {K : PySem.W.Frag} {H : Hp} {p : Addr} {Q : VK} {σ : L2.St} {i : Nat} {m : Int}
/-- _law_take(purse, m) -/
theorem take_at (hσ : σ[i]? = some (some (.ref p))) (hp : PuG H p) (h1 : 1 ≤ m) (h2 : m < 2 ^ 250) (k : ∀ r H', 0 ≤ r → r < m → SB [p] H H' → PuG H' p → Q (.int r) H') :
    tCall spTakeG [] E0 (tCons (tVar i) (tCons (tC (.int m)) tNil)) σ H Q := ⟨_, hσ, p, m, rfl, hp, h1, h2, k⟩
end
end FT
namespace FT
open PySem PySem.W PySem.Spec PyProof.Rows L2
namespace Gr
/-- all pairs that stand anywhere -/
def within : Gr → List (Tr × Int)
  | .nil => []
  | .cons k g m r => ((k, g), m) :: (g.within ++ r.within)
theorem within_ps : ∀ g : Gr, g.within = g.ps.flatMap fun p => p :: p.1.2.within
  | .nil => rfl
  | .cons k g m r => by show ((k, g), m) :: (g.within ++ r.within) = _; rw [within_ps r]; rfl
theorem within_length : ∀ g : Gr, g.within.length = g.parts
  | .nil => rfl
  | .cons k g m r => by show (g.within ++ r.within).length + 1 = 1 + g.parts + r.parts; rw [List.length_append, within_length g, within_length r]; omega
theorem size_ps : ∀ g : Gr, g.size = (g.ps.map fun p => p.2 * (1 + p.1.2.size)).sum
  | .nil => rfl
  | .cons k g m r => by show m * (1 + g.size) + r.size = m * (1 + g.size) + (r.ps.map fun p => p.2 * (1 + p.1.2.size)).sum; rw [size_ps r]
theorem deep_at : ∀ h : Gr, 0 < h.deep → ∃ p ∈ h.ps, p.1.2.deep + 1 = h.deep
  | .nil, h => by simp [deep] at h
  | .cons k g m r, _ => by
    by_cases hr : r.deep ≤ 1 + g.deep
    · exact ⟨((k, g), m), List.mem_cons_self .., by show g.deep + 1 = max (1 + g.deep) r.deep; omega⟩
    · obtain ⟨p, hp, e2⟩ := deep_at r (by omega)
      exact ⟨p, List.mem_cons_of_mem _ hp, by show p.1.2.deep + 1 = max (1 + g.deep) r.deep; omega⟩
theorem deep_max (g : Gr) (m : Int) (hm : m ∈ (g.ps.map fun p => (p.1.2.deep : Int))) (hy : ∀ a, a ∈ (g.ps.map fun p => (p.1.2.deep : Int)) → a ≤ m) : (1 : Int) + m = (g.deep : Int) := by
  obtain ⟨p, hp, rfl⟩ := List.mem_map.mp hm
  have h1 := g.mem_deep p hp
  obtain ⟨q, hq, e⟩ := g.deep_at (by omega)
  have := hy _ (List.mem_map.mpr ⟨q, hq, rfl⟩)
  omega
theorem pow_sum (x y : Nat) : (2 : Int) ^ x + 2 ^ y ≤ 2 ^ (x + y + 1) := by
  have hx : (1 : Int) ≤ 2 ^ x := Int.pow_pos (by decide)
  have hy : (1 : Int) ≤ 2 ^ y := Int.pow_pos (by decide)
  have e : (2 : Int) ^ (x + y + 1) = 2 ^ x * 2 ^ y * 2 := by rw [Int.pow_succ, Int.pow_add]
  rw [e]
  have h1 : (2 : Int) ^ x * 1 ≤ 2 ^ x * 2 ^ y := Int.mul_le_mul_of_nonneg_left hy (by omega)
  have h2 : 1 * (2 : Int) ^ y ≤ 2 ^ x * 2 ^ y := Int.mul_le_mul_of_nonneg_right hx (by omega)
  omega
theorem size_bound {C : Int} (hC : C ≤ 2 ^ 199) : ∀ {g : Gr}, g.Ok C → 0 ≤ g.size ∧ 1 + g.size ≤ 2 ^ (200 * g.parts)
  | .nil, _ => by show (0 : Int) ≤ 0 ∧ (1 : Int) + 0 ≤ 2 ^ 0; decide
  | .cons k g m r, ⟨_, h1, h2, h3, h4, _⟩ => by
    obtain ⟨a1, a2⟩ := size_bound hC h1
    obtain ⟨b1, b2⟩ := size_bound hC h4
    have e0 : 0 ≤ m * (1 + g.size) := Int.mul_nonneg (by omega) (by omega)
    refine ⟨by show 0 ≤ m * (1 + g.size) + r.size; omega, ?_⟩
    show 1 + (m * (1 + g.size) + r.size) ≤ 2 ^ (200 * (1 + g.parts + r.parts))
    have e1 : m * (1 + g.size) ≤ 2 ^ 199 * 2 ^ (200 * g.parts) := Int.mul_le_mul (by omega) a2 (by omega) (Int.le_of_lt (Int.pow_pos (by decide)))
    have e2 : (2 : Int) ^ 199 * 2 ^ (200 * g.parts) = 2 ^ (199 + 200 * g.parts) := by rw [Int.pow_add]
    have e3 := pow_sum (199 + 200 * g.parts) (200 * r.parts)
    have e4 : (2 : Int) ^ (199 + 200 * g.parts + 200 * r.parts + 1) = 2 ^ (200 * (1 + g.parts + r.parts)) := by
      have : 199 + 200 * g.parts + 200 * r.parts + 1 = 200 * (1 + g.parts + r.parts) := by omega
      rw [this]
    omega
theorem natAbs_lt {x : Int} {n : Nat} (h0 : 0 ≤ x) (h : x < 2 ^ n) : x.natAbs < 2 ^ n := by
  have h2 : ((x.natAbs : Nat) : Int) = x := Int.natAbs_of_nonneg h0
  have h3 : ((2 ^ n : Nat) : Int) = (2 : Int) ^ n := by rw [Int.natCast_pow]; rfl
  exact Int.ofNat_lt.mp (by rw [h2, h3]; exact h)
end Gr
def spPairsW (K : PySem.W.Frag) (n : Nat) : Sp := fun vs H Q _ => ∃ (v : V) (g : Gr), vs = [v] ∧ GA K H v g ∧ g.deep < n ∧ g.parts ≤ 200000 ∧ ∀ (D : Addr) (us : List V) (H' : Hp), SB [] H H' → H D = none → H' D = some (.lst us) → Bears K H' Gr.pEnc us g.within → Q (.ref D) H'
def spPartsOf (K : PySem.W.Frag) (n : Nat) : Sp := fun vs H Q _ => ∃ (v : V) (g : Gr), vs = [v] ∧ GA K H v g ∧ g.deep < n ∧ g.parts ≤ 200000 ∧ ∀ H', SB [] H H' → Q (.int (g.parts : Nat)) H'
def spDeepOf (K : PySem.W.Frag) (n : Nat) : Sp := fun vs H Q _ => ∃ (v : V) (g : Gr), vs = [v] ∧ GA K H v g ∧ g.deep < n ∧ g.parts ≤ 200000 ∧ ∀ H', SB [] H H' → Q (.int (g.deep : Nat)) H'
def spSizeG (K : PySem.W.Frag) (n : Nat) : Sp := fun vs H Q _ => ∃ (v : V) (g : Gr), vs = [v] ∧ GA K H v g ∧ g.deep < n ∧ g.parts ≤ 1000 ∧ g.Ok (2 ^ 199) ∧ ∀ H', SB [] H H' → Q (.int g.size) H'
section
variable {P : Program} {w : World} {K : PySem.W.Frag} {mg : Str → Option Value} {base : Heap} {f : Addr} {fd : FuncData}
theorem none_pairs_within {ps : List Str} {k : Nat} : FnOk P w K mg base CX0 k f fd ps (spPairsW K 0) := none_sp fun vs H Q E ⟨v, l, _, _, h, _⟩ => by omega
theorem none_deep_of {ps : List Str} {k : Nat} : FnOk P w K mg base CX0 k f fd ps (spDeepOf K 0) := none_sp fun vs H Q E ⟨v, l, _, _, h, _⟩ => by omega
theorem none_size {ps : List Str} {k : Nat} : FnOk P w K mg base CX0 k f fd ps (spSizeG K 0) := none_sp fun vs H Q E ⟨v, l, _, _, h, _⟩ => by omega
end
end FT
namespace FT
open PySem PySem.W PySem.Spec PyProof.Rows L2
mutual
def plS : PyData → Bool
  | .int _ => true
  | .str x => PyData.strOk x
  | .tuple ds => plSs ds
  | _ => false
def plSs : List PyData → Bool
  | [] => true
  | d :: ds => plS d && plSs ds
end
mutual
def nodes : PyData → Nat
  | .tuple ds => 1 + nodesS ds
  | _ => 1
def nodesS : List PyData → Nat
  | [] => 0
  | d :: ds => nodes d + nodesS ds
end
theorem nodes_pos : ∀ d : PyData, 1 ≤ nodes d
  | .tuple ds => by rw [nodes]; omega
  | .none => by simp [nodes]
  | .bool _ => by simp [nodes]
  | .int _ => by simp [nodes]
  | .str _ => by simp [nodes]
  | .list _ => by simp [nodes]
  | .dict _ => by simp [nodes]
theorem nodesS_append : ∀ as bs : List PyData, nodesS (as ++ bs) = nodesS as + nodesS bs
  | [], bs => by simp [nodesS]
  | d :: r, bs => by rw [List.cons_append, nodesS, nodesS, nodesS_append r bs]; omega
theorem len_nodes : ∀ ds : List PyData, ds.length ≤ nodesS ds
  | [] => Nat.zero_le _
  | d :: r => by have := len_nodes r; have := nodes_pos d; rw [nodesS, List.length_cons]; omega
mutual
theorem plS_noList : ∀ d : PyData, plS d = true → noList d = true
  | .int _, _ => by simp [noList]
  | .str _, _ => by simp [noList]
  | .tuple ds, h => by rw [plS] at h; rw [noList]; exact plSs_noList ds h
  | .none, h => by simp [plS] at h
  | .bool _, h => by simp [plS] at h
  | .list _, h => by simp [plS] at h
  | .dict _, h => by simp [plS] at h
theorem plSs_noList : ∀ ds : List PyData, plSs ds = true → noLists ds = true
  | [], _ => by simp [noLists]
  | d :: ds, h => by
    rw [plSs, Bool.and_eq_true] at h
    rw [noLists, plS_noList d h.1, plSs_noList ds h.2]; rfl
end
mutual
theorem plS_lay : ∀ d : PyData, plS d = true → d.canLay0 = true
  | .int _, _ => by simp [PyData.canLay0]
  | .str _, h => by rw [plS] at h; rw [PyData.canLay0]; exact h
  | .tuple ds, h => by rw [plS] at h; rw [PyData.canLay0]; exact plSs_lay ds h
  | .none, h => by simp [plS] at h
  | .bool _, h => by simp [plS] at h
  | .list _, h => by simp [plS] at h
  | .dict _, h => by simp [plS] at h
theorem plSs_lay : ∀ ds : List PyData, plSs ds = true → PyData.canLayAll0 ds = true
  | [], _ => by simp [PyData.canLayAll0]
  | d :: ds, h => by
    rw [plSs, Bool.and_eq_true] at h
    rw [PyData.canLayAll0, plS_lay d h.1, plSs_lay ds h.2]; rfl
end
abbrev PL := {d : PyData // plS d = true}
def PL.e (d : PL) : PyData := d.1
theorem PL.noList (d : PL) : noList d.e = true := plS_noList d.1 d.2
theorem pl_shaped {ds : List PL} (h : ∀ d ∈ ds, d.e.depth ≤ 60) : SeqAt.shaped (.list (ds.map PL.e)) = true := by
  have h1 : PyData.canLayAll0 (ds.map PL.e) = true := by
    induction ds with
    | nil => simp [PyData.canLayAll0]
    | cons b r ih =>
      have e := ih fun c hc => h c (List.mem_cons_of_mem _ hc)
      rw [List.map_cons, PyData.canLayAll0, e, show b.e.canLay0 = true from plS_lay b.1 b.2]; rfl
  have h2 : PyData.depthAll (ds.map PL.e) ≤ 60 := by
    clear h1
    induction ds with
    | nil => simp [PyData.depthAll]
    | cons b r ih =>
      have e1 := ih (fun c hc => h c (List.mem_cons_of_mem _ hc))
      have e2 := h b (List.mem_cons_self ..)
      rw [List.map_cons, PyData.depthAll]
      omega
  have h3 : (PyData.list (ds.map PL.e)).depth = PyData.depthAll (ds.map PL.e) + 1 := by simp [PyData.depth]
  unfold SeqAt.shaped
  rw [PyData.canLay0, h1, Bool.true_and]
  exact decide_eq_true (by omega)
/-- the parts of a plain tuple -/
theorem pl_parts : ∀ {ds : List PyData}, plSs ds = true → ∃ xs : List PL, xs.map PL.e = ds
  | [], _ => ⟨[], rfl⟩
  | d :: r, h => by
    rw [plSs, Bool.and_eq_true] at h
    obtain ⟨xs, hx⟩ := pl_parts h.2
    exact ⟨⟨d, h.1⟩ :: xs, by rw [List.map_cons, hx]; rfl⟩
namespace Gr
theorem plSs_encs {C : Int} : ∀ {g : Gr}, g.Ok C → plSs g.encs = true
  | .nil, _ => by simp [encs, plSs]
  | .cons k g m r, ⟨h0, h1, _, _, h4, _⟩ => by
    have e1 := plSs_encs h1
    have e2 := plSs_encs h4
    simp [encs, plSs, plS, e1, e2, strOk_name h0]
theorem nodes_encs : ∀ g : Gr, nodesS g.encs = 5 * g.parts
  | .nil => by simp [encs, nodesS, parts]
  | .cons k g m r => by
    have e1 := nodes_encs g
    have e2 := nodes_encs r
    simp only [encs, nodesS, nodes, parts, e1, e2]
    omega
end Gr
/-- a plain tuple is plain -/
def spPlainG (K : PySem.W.Frag) : Sp := fun vs H Q _ => ∃ (v : V) (ds : List PyData), vs = [v] ∧ Dp K H v (.tuple ds) ∧ plSs ds = true ∧ PyData.depthAll ds ≤ 59 ∧ nodesS ds ≤ 100000 ∧ ∀ H', SB [] H H' → Q (.bl true) H'
/-- two groves together -/
def spTogether (K : PySem.W.Frag) : Sp := fun vs H Q _ => ∃ (v u : V) (g k : Gr), vs = [v, u] ∧ GA K H v g ∧ GA K H u k ∧ (∃ C, g.Ok C ∧ k.Ok C) ∧ g.deep ≤ 18 ∧ k.deep ≤ 18 ∧ g.parts ≤ 400 ∧ k.parts ≤ 400 ∧ ∀ (x : V) (H' : Hp), SB [] H H' → GA K H' x (Gr.tidy (g.ps ++ k.ps)) → Q x H'
namespace Gr
def tgt (g k : Gr) : Gr := tidy (g.ps ++ k.ps)
theorem tgt_ps (g k : Gr) : (tgt g k).ps = tdy tEnc (g.ps ++ k.ps) := ps_ofPs _
theorem tgt_parts (g k : Gr) : (tgt g k).parts ≤ g.parts + k.parts := by
  have := tidy_parts (g.ps ++ k.ps)
  rw [tot_append, tot_ps, tot_ps] at this
  exact this
theorem tgt_deep {n : Nat} {g k : Gr} (hg : g.deep ≤ n) (hk : k.deep ≤ n) : (tgt g k).deep ≤ n := tidy_deep fun p hp => by
  rcases List.mem_append.mp hp with h | h
  · have := g.mem_deep p h; omega
  · have := k.mem_deep p h; omega
/-- how many of a tree -/
abbrev S (g : Gr) (t : Tr) : Int := sumE g.ps t
theorem S_tgt (g k : Gr) (t : Tr) : S (tgt g k) t = S g t + S k t := by
  show sumE (tgt g k).ps t = _
  rw [tgt_ps, tdy_sum, sumE_append]
theorem S_zero {bs : List (Tr × Int)} {t : Tr} (h : ∀ p ∈ bs, p.1 ≠ t) : sumE bs t = 0 := by
  induction bs with
  | nil => rfl
  | cons p r ih =>
    show (if p.1 = t then p.2 else 0) + sumE r t = 0
    rw [if_neg (h p (List.mem_cons_self ..)), ih fun q hq => h q (List.mem_cons_of_mem _ hq)]; rfl
/-- two right groves with as many of each tree are the same -/
theorem ext_ps : ∀ {as bs : List (Tr × Int)}, as.Pairwise (fun p q => dataLt (tEnc p.1) (tEnc q.1) = true) → bs.Pairwise (fun p q => dataLt (tEnc p.1) (tEnc q.1) = true) → (∀ p ∈ as, 1 ≤ p.2) → (∀ p ∈ bs, 1 ≤ p.2) → (∀ t, sumE as t = sumE bs t) → as = bs
  | [], [], _, _, _, _, _ => rfl
  | [], b :: bs, _, h2, _, p2, h => by
    have := h b.1
    have hz : sumE bs b.1 = 0 := S_zero fun q hq z => by have := (List.pairwise_cons.mp h2).1 q hq; rw [z, dl_irrefl] at this; cases this
    have e : sumE (b :: bs) b.1 = b.2 + sumE bs b.1 := by show (if b.1 = b.1 then b.2 else 0) + _ = _; rw [if_pos rfl]
    rw [e, hz] at this
    have := p2 b (List.mem_cons_self ..)
    have z : sumE ([] : List (Tr × Int)) b.1 = 0 := rfl
    omega
  | a :: as, [], h1, _, p1, _, h => by
    have := h a.1
    have hz : sumE as a.1 = 0 := S_zero fun q hq z => by have := (List.pairwise_cons.mp h1).1 q hq; rw [z, dl_irrefl] at this; cases this
    have e : sumE (a :: as) a.1 = a.2 + sumE as a.1 := by show (if a.1 = a.1 then a.2 else 0) + _ = _; rw [if_pos rfl]
    rw [e, hz] at this
    have := p1 a (List.mem_cons_self ..)
    have z : sumE ([] : List (Tr × Int)) a.1 = 0 := rfl
    omega
  | a :: as, b :: bs, h1, h2, p1, p2, h => by
    obtain ⟨a1, a2⟩ := List.pairwise_cons.mp h1
    obtain ⟨b1, b2⟩ := List.pairwise_cons.mp h2
    have pa := p1 a (List.mem_cons_self ..)
    have pb := p2 b (List.mem_cons_self ..)
    have za : ∀ t, (t = a.1 ∨ dataLt (tEnc t) (tEnc a.1) = true) → sumE as t = 0 := fun t ht => S_zero fun q hq z => by
      have q1 := a1 q hq
      rw [z] at q1
      rcases ht with ht | ht
      · rw [ht, dl_irrefl] at q1; cases q1
      · rw [dl_asymm ht] at q1; cases q1
    have zb : ∀ t, (t = b.1 ∨ dataLt (tEnc t) (tEnc b.1) = true) → sumE bs t = 0 := fun t ht => S_zero fun q hq z => by
      have q1 := b1 q hq
      rw [z] at q1
      rcases ht with ht | ht
      · rw [ht, dl_irrefl] at q1; cases q1
      · rw [dl_asymm ht] at q1; cases q1
    have ea : ∀ t, sumE (a :: as) t = (if a.1 = t then a.2 else 0) + sumE as t := fun t => rfl
    have eb : ∀ t, sumE (b :: bs) t = (if b.1 = t then b.2 else 0) + sumE bs t := fun t => rfl
    have hab : a.1 = b.1 := by
      by_cases e : a.1 = b.1
      · exact e
      · exfalso
        cases hlt : dataLt (tEnc a.1) (tEnc b.1) with
        | true =>
          have := h a.1
          rw [ea, eb, if_pos rfl, if_neg (fun z => e z.symm), za _ (.inl rfl), zb _ (.inr hlt)] at this
          omega
        | false =>
          have hlt2 := ol_tri (enc := tEnc) e hlt
          have := h b.1
          rw [ea, eb, if_pos rfl, if_neg e, zb _ (.inl rfl), za _ (.inr hlt2)] at this
          omega
    have hm : a.2 = b.2 := by
      have := h a.1
      rw [ea, eb, if_pos rfl, if_pos hab.symm, za _ (.inl rfl), zb _ (.inl hab)] at this
      omega
    have he : a = b := Prod.ext hab hm
    subst he
    rw [ext_ps a2 b2 (fun p hp => p1 p (List.mem_cons_of_mem _ hp)) (fun p hp => p2 p (List.mem_cons_of_mem _ hp)) fun t => by have := h t; rw [ea, eb] at this; omega]
theorem ext {C D : Int} {g k : Gr} (hg : g.Ok C) (hk : k.Ok D) (h : ∀ t, S g t = S k t) : g = k := by
  have h1 := ok_iff.mp hg
  have h2 := ok_iff.mp hk
  have := ext_ps h1.2 h2.2 (fun p hp => (h1.1 p hp).2.2.1) (fun p hp => (h2.1 p hp).2.2.1) h
  rw [← ofPs_ps g, ← ofPs_ps k, this]
end Gr
theorem small5 {n : Nat} (h : n ≤ 1000000) : n < sizeLine := by
  have : sizeLine = 16777216 := sizeLine_eq
  omega
end FT
namespace FT
open PySem PySem.W PySem.Spec PyProof.Rows L2
theorem Gr.eqvT {g k : Gr} (h : g = k) : PyData.eqv g.enc k.enc = true := by rw [Gr.eqv_enc]; exact decide_eq_true h
/-- the head of a law over groves: a head's purse, names, and what is kept -/
structure Hd (K : PySem.W.Frag) (H H3 : Hp) (p0 nm : Addr) (ks : List Str) : Prop where
  hp : PuG H3 p0
  hnm : H3 nm = some (.lst (ks.map V.str))
  k1 : 1 ≤ ks.length
  k8 : ks.length ≤ 8
  kn : ∀ k ∈ ks, NameOk k
  ne : nm ≠ p0
  sb : SB [p0] H H3
  np : H p0 = none
theorem Hd.step {K : PySem.W.Frag} {H H3 H4 : Hp} {p0 nm : Addr} {ks : List Str} (h : Hd K H H3 p0 nm ks) (s : SB [p0] H3 H4) (hp : PuG H4 p0) : Hd K H H4 p0 nm ks :=
  ⟨hp, s.keep _ _ h.hnm (by simpa using h.ne), h.k1, h.k8, h.kn, h.ne, h.sb.trans s, h.np⟩
end FT
namespace FT
open PySem PySem.W PySem.Spec PyProof.Rows L2
open PySem.Sem in
theorem enumT_new {v : Value} {o : Obj} {Hh : Heap → Prop} (Bg : Begins v o Hh) :
    Meets (Builtin.«enumerate.__new__» ⟨[.type "enumerate", v], []⟩) (fun _ R s => Hh s.heap ∧ R (.ok (.ret (.ref (s.heap.push o).objs.size))) { s with heap := (s.heap.push o).push { cls := .type "enumerate", data := .fields #[.none, .bool false, .ref s.heap.objs.size, rawInt 0, .none, .none] } }) :=
  .of_wp fun prog w A R s h => by
    obtain ⟨hp, g, d, tk, os⟩ := s
    obtain ⟨h1, h⟩ := h
    have hsub := sub_enumerate
    have go : ∀ {A2 : Around} {E2 : Value → Shared → Prop} {Q2 : Value → Shared → Prop}, Q2 (.ref hp.objs.size) ⟨hp.push o, g, d, tk, os⟩ → wpAny (model prog w) A2 (pyIter v) Q2 E2 ⟨hp, g, d, tk, os⟩ := fun z => Bg.iter prog w _ _ ⟨hp, g, d, tk, os⟩ _ h1 z
    wp_walk using go
    refine wpAny_stack_any fun stk => wpAny_pure ?_
    split
    · rename_i cl _ _ _ _ _
      cases (cl == Value.type "enumerate") <;> (wp_walk using go; exact ⟨_, rfl, h⟩)
    · wp_walk using go; exact ⟨_, rfl, h⟩
section
variable {prog : Program} {w : World} {A : Around} {E : Value → Shared → Prop} {s : Shared}
theorem call_enumT {t : Addr} {items : Array Value} {Q : Value → Shared → Prop} (hT : s.heap.IsTuple t items)
    (h : ∀ h2, IsEnum h2 (s.heap.objs.size + 1) s.heap.objs.size 0 .none → h2.IsTupleIter s.heap.objs.size t 0 → (∀ b ob, s.heap.get? b = some ob → h2.get? b = some ob) → Q (.ref (s.heap.objs.size + 1)) { s with heap := h2 }) : wpAny (model prog w) A (call (.type "enumerate") [.ref t]) Q E s := by
  have Bg := begins_tuple t items
  refine callType_new F.called_enumerate (by decide) (F.typeCall_enumerate_1 _) (F.newCall_enumerate_1 _) (fun ob => F.args_object_init_2 ob _) F.entry_enumerate_new (enumT_new Bg) ⟨hT, ?_⟩
  have hz : (s.heap.push { cls := .type "tuple_iterator", data := .fields #[.ref t, .int 0 0] }).objs.size = s.heap.objs.size + 1 := Heap.size_push ..
  show _ ∧ _
  rw [hz]
  have he : IsEnum ((s.heap.push { cls := .type "tuple_iterator", data := .fields #[.ref t, .int 0 0] }).push { cls := .type "enumerate", data := .fields #[.none, .bool false, .ref s.heap.objs.size, rawInt 0, .none, .none] }) (s.heap.objs.size + 1) s.heap.objs.size 0 .none := by
    have z := Heap.get?_push_size (s.heap.push { cls := .type "tuple_iterator", data := .fields #[.ref t, .int 0 0] }) (o := { cls := .type "enumerate", data := .fields #[.none, .bool false, .ref s.heap.objs.size, rawInt 0, .none, .none] }) rfl
    rw [hz] at z
    exact z
  exact ⟨⟨_, he, rfl⟩, h _ he ⟨_, Heap.get?_push_of_some _ (Heap.get?_push_size _ rfl), rfl, rfl⟩ fun b ob x => Heap.get?_push_of_some _ (Heap.get?_push_of_some _ x)⟩
end
/-- the tuple at a, each item in a new pair with its number -/
def IteT (K : PySem.W.Frag) (a : Addr) : It :=
  ⟨fun i H => ∃ (xs : List V) (x : V), SqT K H a xs ∧ xs[i]? = some x,
    fun i H v H2 => ∃ T x, v = .ref T ∧ H T = none ∧ H2 = upd H T (.tup [.int (i : Nat), x]) ∧ ∀ xs, SqT K H a xs → xs[i]? = some x,
    fun i H => ∃ xs : List V, SqT K H a xs ∧ xs.length = i⟩
theorem turn_enumT {P : Program} {w : World} {K : PySem.W.Frag} {elts : List Expr} {kk : Nat} {tpos : Pos} (a e it : Addr) (hei : e ≠ it) (hai : a ≠ it) (hea : e ≠ a) :
    Turn P w K (.Tuple elts kk tpos) (IteT K a) [e, it] e (fun i h => (∃ old, IsEnum h e it ((i : Nat) : Int) old) ∧ h.IsTupleIter it a i) where
  mem := by simp
  obj := fun i h st b hb => by
    obtain ⟨⟨old, he⟩, o, ho, hc, hd⟩ := st
    rcases (show b = e ∨ b = it by simpa using hb) with z | z
    · rw [z]; exact ⟨_, he, fun v q => nomatch q⟩
    · rw [z]; exact ⟨o, ho, fun v q => by rw [hd] at q; cases q⟩
  keep := fun i h h2 st k => let ⟨⟨old, he⟩, o, ho, r⟩ := st; ⟨⟨old, k e (by simp) _ he⟩, o, k it (by simp) o ho, r⟩
  item := by
    intro X hP hw hK hc i pins s σ H E I hf st hg
    subst hP hw hK
    obtain ⟨⟨old, he⟩, hit⟩ := st
    obtain ⟨xs, x, hq, hx⟩ := hg
    obtain ⟨its, rv, p, hz⟩ := I.tuple hq
    obtain ⟨u, hu, ru⟩ := rv.get hx
    have hel : e < s.heap.objs.size := Heap.lt_size he
    have hil : it < s.heap.objs.size := by obtain ⟨_, z, _⟩ := hit; exact Heap.lt_size z
    have Dr := Draws.tuple (prog := X.prog) (w := X.w) (A := X.A.in1) (I.ok.hd hc) it a hai its.toArray
    have hlt : i < its.toArray.size := by
      have := (List.getElem?_eq_some_iff.mp hu).1
      simpa using this
    refine wpAny_pyNext_enum_itemD Dr he ⟨hit, p⟩ hlt hei (by simp [hei, hea]) fun y h2 tk hy ho hst hT hsz hk => ?_
    have hyu : y = u := by
      have h3 : its[i]? = some y := by simpa using hy
      rw [hu] at h3; exact (Option.some.inj h3).symm
    subst hyu
    refine ⟨_, rfl, wpAny_letOwnedTupleGo_enum (s := { s with heap := h2, toks := tk + 1 }) ho fun h3 he3 sb => ?_⟩
    have hT2 : h3.get? s.heap.objs.size = some { cls := .type "tuple", data := .seq #[.int i tk, y] } := (sb.2 _ (Nat.ne_of_gt hel)).trans hT
    have nw : ObjOk X.prog X.w (upd H s.heap.objs.size (.tup [.int (i : Nat), x])) h3 s.heap.objs.size (.tup [.int (i : Nat), x]) := ⟨by show 2 ≤ sizeLine; decide, [.int i tk, y], .cons ⟨_, rfl⟩ (.cons ru .nil), ⟨_, hT2, rfl, _, rfl⟩⟩
    have I1 : Inv X pins σ (upd H s.heap.objs.size (.tup [.int (i : Nat), x])) { s with heap := h3, toks := tk + 1 } := I.turnedNew (ch := [e, it]) (fun b ob hb z => (sb.2 b (fun y => hb (by simp [y]))).trans (hk b ob (fun y => hb (by simp [y])) (fun y => hb (by simp [y])) z)) hf (Nat.le_refl _) nw
    refine ⟨.ref s.heap.objs.size, _, I1, rfl, ⟨_, x, rfl, I.hok.fresh (Nat.le_refl _), rfl, fun ys hy => by rw [I.tuple_inj hy hq]; exact hx⟩, ⟨⟨y, ?_⟩, ?_⟩, fun b hb => ?_⟩
    · rw [show ((i + 1 : Nat) : Int) = (i : Int) + 1 by omega]; exact he3
    · obtain ⟨o, ho2, r⟩ := hst.1
      exact ⟨o, (sb.2 it (Ne.symm hei)).trans ho2, r⟩
    · have hb2 : b < s.heap.objs.size := by
        rcases (show b = e ∨ b = it by simpa using hb) with z | z
        · rw [z]; exact hel
        · rw [z]; exact hil
      rw [upd_ne (Nat.ne_of_lt hb2)]; exact (hf b hb).1
  done := by
    intro X hP hw hK hc i pins s σ H E I hf st hg
    subst hP hw hK
    obtain ⟨⟨old, he⟩, hit⟩ := st
    obtain ⟨xs, hq, hx⟩ := hg
    obtain ⟨its, rv, p, hz⟩ := I.tuple hq
    obtain ⟨f0, f1, f2, f3, f4, f5⟩ := hf it (by simp)
    have hl := rv.length
    have ht : s.heap.IsTuple a its.toArray := p
    have Dr := Draws.tuple (prog := X.prog) (w := X.w) (A := X.A.in1) (I.ok.hd hc) it a hai its.toArray
    have hn : its.toArray.size = i := by simp; omega
    refine wpAny_pyNext_enum_endD Dr he ⟨by rw [hn]; exact hit, ht⟩ fun h2 eb => ⟨rfl, I.turned (t' := s.toks) (fun b o hb z => eb b o hb z) f0 f1 f3 f4 f5⟩
  self := fun A i s Q E st h => let ⟨⟨_, he⟩, _⟩ := st; wpAny_pyIter_enum he h
def iEnumT (K : PySem.W.Frag) (te : TE) : TI := fun σ H R => te σ H fun v H1 => ∃ a xs, v = .ref a ∧ SqT K H1 a xs ∧ R (IteT K a) H1
theorem pi_enumT {X : Cx} {ex : Expr} {te : TE} {p pos tpos : Pos} {elts : List Expr} {kk : Nat} (hg : Gl X "enumerate") (hm : X.mg "enumerate" = none) (he : PE X ex te) (hs : starEach [ex] X.env = (false, eval ex X.env) :: starEach [] X.env := by rfl) :
    PI X (.Tuple elts kk tpos) (.Call (.Name "enumerate" p) [ex] [] pos) (iEnumT X.K te) := by
  refine ⟨fun pins s σ H R I h => ?_⟩
  refine Call_ (ld_blt I hg hm boot_enumerate (PyProof.Rows.callWith_type1 (args_cons (thn (he.run pins s σ H _ I h) fun u s1 ⟨v, H1, I1, r1, q1⟩ => args_nil ?_) hs) hs rfl))
  obtain ⟨a, xs, ev, hq, q⟩ := q1
  subst ev
  cases r1
  obtain ⟨its, rv, pt, hz⟩ := I1.tuple hq
  have ht : s1.heap.IsTuple a its.toArray := pt
  have hal : a < s1.heap.objs.size := by obtain ⟨_, z, _⟩ := ht; exact Heap.lt_size z
  refine call_enumT ht fun h2 he2 hit hk => wpAny_pyIter_enum he2 ?_
  have I2 : Inv X pins σ H1 { s1 with heap := h2 } := I1.kept (t' := s1.toks) hk
  refine ⟨s1.heap.objs.size + 1, [s1.heap.objs.size + 1, s1.heap.objs.size], _, _, H1, rfl, I2, turn_enumT a (s1.heap.objs.size + 1) s1.heap.objs.size (Nat.succ_ne_self _) (Nat.ne_of_lt hal) (Nat.ne_of_gt (Nat.lt_succ_of_lt hal)), ⟨⟨.none, he2⟩, hit⟩, fun b hb => ?_, q⟩
  have hle : s1.heap.objs.size ≤ b := by
    rcases (show b = s1.heap.objs.size + 1 ∨ b = s1.heap.objs.size by simpa using hb) with z | z
    · rw [z]; exact Nat.le_add_right _ _
    · rw [z]; exact Nat.le_refl _
  exact I1.fpOk hle (I1.hok.fresh hle)
theorem walk_enumT {K : PySem.W.Frag} {a : Addr} {xs : List V} : Walk (IteT K a) xs.length (fun H => SqT K H a xs) (YPair (fun i => some (.int (i : Nat))) (fun i => xs[i]?)) := by
  refine ⟨fun i _ hi q => ⟨xs, xs[i], q, by simp [hi]⟩, fun _ q => ⟨xs, q, rfl⟩, fun i H v H2 _ q y => ?_⟩
  obtain ⟨T, x, h1, h2, h3, h4⟩ := y
  exact ⟨T, .int (i : Nat), x, h1, h2, h3, rfl, h4 xs q⟩
end FT
namespace FT
open PySem PySem.W PySem.Spec PyProof.Rows L2
abbrev Pl := List Nat
def plInts (p : Pl) : List PyData := p.map fun n : Nat => .int (n : Int)
def plEnc (p : Pl) : PyData := .tuple (plInts p)
theorem pl_alikes : ∀ p q : Pl, alikeAll (plInts p) (plInts q) = true
  | [], _ => by simp [plInts, alikeAll]
  | _ :: _, [] => by simp [plInts, alikeAll]
  | a :: p, b :: q => by
    have := pl_alikes p q
    show alikeAll (.int a :: plInts p) (.int b :: plInts q) = true
    simp [alikeAll, alike, this]
theorem pl_eqvs : ∀ p q : Pl, PyData.eqvAll (plInts p) (plInts q) = decide (p = q)
  | [], [] => by simp [plInts, PyData.eqvAll]
  | [], _ :: _ => by simp [plInts, PyData.eqvAll]
  | _ :: _, [] => by simp [plInts, PyData.eqvAll]
  | a :: p, b :: q => by
    have ih := pl_eqvs p q
    show PyData.eqvAll (.int a :: plInts p) (.int b :: plInts q) = _
    simp only [PyData.eqvAll, PyData.eqv, ih, ib]
    by_cases h : a = b
    · subst h; simp
    · have : ¬ ((a : Int) = (b : Int)) := by omega
      simp [h, this]
instance : Orderly plEnc where
  al a b := by show alike (.tuple _) (.tuple _) = true; rw [alike]; exact pl_alikes a b
  eq a b := by show PyData.eqv (.tuple _) (.tuple _) = _; rw [PyData.eqv]; exact pl_eqvs a b
theorem pl_lt_cons (a b : Nat) (p q : Pl) : dataLt (plEnc (a :: p)) (plEnc (b :: q)) = if a = b then dataLt (plEnc p) (plEnc q) else decide (a < b) := by
  show dataLt (.tuple (.int a :: plInts p)) (.tuple (.int b :: plInts q)) = _
  rw [dataLt_tuple, dataLt_cons (by simp [alike])]
  have e1 : PyData.eqv (.int (a : Int)) (.int (b : Int)) = decide (a = b) := by
    simp only [PyData.eqv, ib]
    by_cases h : a = b
    · subst h; simp
    · have : ¬ ((a : Int) = (b : Int)) := by omega
      simp [h, this]
  rw [e1]
  by_cases h : a = b
  · rw [if_pos (by simp [h]), if_pos h]
    show _ = dataLt (.tuple (plInts p)) (.tuple (plInts q))
    rw [dataLt_tuple]
  · rw [if_neg (by simp [h]), if_neg h, dataLt_int]
    by_cases h2 : a < b
    · rw [decide_eq_true h2]; exact decide_eq_true (by omega)
    · rw [decide_eq_false h2]; exact decide_eq_false (by omega)
theorem pl_noList (p : Pl) : noList (plEnc p) = true := by
  have : ∀ p : Pl, noLists (plInts p) = true := by
    intro p
    induction p with
    | nil => simp [plInts, noLists]
    | cons a r ih => show noLists (.int a :: plInts r) = true; simp [noLists, noList, ih]
  show noList (.tuple _) = true
  rw [noList]; exact this p
theorem pl_depths (p : Pl) : PyData.depthAll (plInts p) = 0 := by
  induction p with
  | nil => simp [plInts, PyData.depthAll]
  | cons a r ih => show PyData.depthAll (.int a :: plInts r) = 0; simp [PyData.depthAll, PyData.depth, ih]
theorem pl_depth (p : Pl) : (plEnc p).depth = 1 := by show (PyData.tuple _).depth = 1; simp [PyData.depth, pl_depths]
theorem pl_plain (p : Pl) : plSs (plInts p) = true := by
  induction p with
  | nil => simp [plInts, plSs]
  | cons a r ih => show plSs (.int a :: plInts r) = true; simp [plSs, plS, ih]
theorem pl_lay (p : Pl) : (plEnc p).canLay0 = true := plS_lay _ (by show plS (.tuple _) = true; rw [plS]; exact pl_plain p)
theorem pls_shaped (ps : List Pl) : SeqAt.shaped (.list (ps.map plEnc)) = true := by
  have h1 : PyData.canLayAll0 (ps.map plEnc) = true := by
    induction ps with
    | nil => simp [PyData.canLayAll0]
    | cons b r ih => rw [List.map_cons, PyData.canLayAll0, ih, pl_lay]; rfl
  have h2 : PyData.depthAll (ps.map plEnc) ≤ 1 := by
    clear h1
    induction ps with
    | nil => simp [PyData.depthAll]
    | cons b r ih => rw [List.map_cons, PyData.depthAll, pl_depth]; omega
  unfold SeqAt.shaped
  rw [PyData.canLay0, h1, Bool.true_and]
  have h3 : (PyData.list (ps.map plEnc)).depth = PyData.depthAll (ps.map plEnc) + 1 := by simp [PyData.depth]
  exact decide_eq_true (by omega)
theorem pls_eqv (ps : List Pl) : PyData.eqv (.list (ps.map plEnc)) (.list (ps.map plEnc)) = true := by
  rw [PyData.eqv]
  induction ps with
  | nil => simp [PyData.eqvAll]
  | cons b r ih =>
    rw [List.map_cons, PyData.eqvAll, ih, Orderly.eq (enc := plEnc)]; simp
theorem PL_ints {K : PySem.W.Frag} {H : Hp} {v : V} {p : Pl} (h : Dp K H v (plEnc p)) : ∃ a, v = .ref a ∧ SqT K H a (p.map fun n : Nat => V.int (n : Int)) := by
  have key : ∀ {p : Pl} {xs : List V}, DpAll K H xs (plInts p) → xs = p.map fun n : Nat => V.int (n : Int) := by
    intro p
    induction p with
    | nil => intro xs h; cases h; rfl
    | cons a r ih =>
      intro xs h
      cases h with
      | cons h1 h2 => cases h1; rw [ih h2]; rfl
  cases h with
  | tup hs ha => rw [key ha] at hs; exact ⟨_, rfl, hs⟩
theorem PL_of {K : PySem.W.Frag} {H : Hp} {a : Addr} {p : Pl} (h : SqT K H a (p.map fun n : Nat => V.int (n : Int))) : Dp K H (.ref a) (plEnc p) := by
  refine Dp.tup h ?_
  have key : ∀ p : Pl, DpAll K H (p.map fun n : Nat => V.int (n : Int)) (plInts p) := by
    intro p
    induction p with
    | nil => exact .nil
    | cons a r ih => exact .cons (.int _) ih
  exact key p
namespace Gr
/-- the places of bare trees, from the number i on -/
def bp : Gr → Nat → List Pl
  | .nil, _ => []
  | .cons _ g _ r, i => (if g = .nil then [[i]] else (g.bp 0).map (i :: ·)) ++ r.bp (i + 1)
def bpP (p : Tr × Int) (i : Nat) : List Pl := if p.1.2 = .nil then [[i]] else (p.1.2.bp 0).map (i :: ·)
def bps : List (Tr × Int) → Nat → List Pl
  | [], _ => []
  | p :: r, i => bpP p i ++ bps r (i + 1)
theorem bp_ps : ∀ (g : Gr) (i : Nat), g.bp i = bps g.ps i
  | .nil, _ => rfl
  | .cons k g m r, i => by show _ ++ r.bp (i + 1) = _ ++ bps r.ps (i + 1); rw [bp_ps r]; rfl
theorem bps_append : ∀ (as bs : List (Tr × Int)) (i : Nat), bps (as ++ bs) i = bps as i ++ bps bs (i + as.length)
  | [], bs, i => by simp [bps]
  | p :: r, bs, i => by
    show bpP p i ++ bps (r ++ bs) (i + 1) = _
    rw [bps_append r bs (i + 1)]
    show _ = (bpP p i ++ bps r (i + 1)) ++ bps bs (i + (r.length + 1))
    rw [List.append_assoc, show i + 1 + r.length = i + (r.length + 1) by omega]
theorem bps_take {bs : List (Tr × Int)} {i : Nat} {p : Tr × Int} (h : bs[i]? = some p) : bps (bs.take (i + 1)) 0 = bps (bs.take i) 0 ++ bpP p i := by
  have hl : i < bs.length := (List.getElem?_eq_some_iff.mp h).1
  rw [List.take_add_one, h, bps_append, List.length_take, Nat.min_eq_left (by omega), Nat.zero_add]
  show _ ++ (bpP p i ++ []) = _
  rw [List.append_nil]
theorem bp_len : ∀ (g : Gr) (i : Nat), (g.bp i).length ≤ g.parts
  | .nil, _ => Nat.zero_le _
  | .cons k g m r, i => by
    have h1 := bp_len g 0
    have h2 := bp_len r (i + 1)
    show (_ ++ r.bp (i + 1)).length ≤ 1 + g.parts + r.parts
    rw [List.length_append]
    split
    · show 1 + _ ≤ _; omega
    · rw [List.length_map]; omega
theorem bp_long : ∀ (g : Gr) (i : Nat), ∀ p ∈ g.bp i, p.length ≤ g.deep
  | .nil, _, p, h => by cases h
  | .cons k g m r, i, p, h => by
    have h1 := bp_long g 0
    have h2 := bp_long r (i + 1)
    show p.length ≤ max (1 + g.deep) r.deep
    rcases List.mem_append.mp h with h | h
    · by_cases hg : g = .nil
      · rw [if_pos hg] at h
        have : p = [i] := by simpa using h
        subst this; show 1 ≤ _; omega
      · rw [if_neg hg] at h
        obtain ⟨q, hq, rfl⟩ := List.mem_map.mp h
        have := h1 q hq
        show q.length + 1 ≤ _; omega
    · have := h2 p h; omega
end Gr
def spBareP (K : PySem.W.Frag) (n : Nat) : Sp := fun vs H Q _ => ∃ (v : V) (g : Gr), vs = [v] ∧ GA K H v g ∧ g.deep < n ∧ g.deep ≤ 100 ∧ g.parts ≤ 1000 ∧ ∀ (D : Addr) (us : List V) (H' : Hp), SB [] H H' → H D = none → H' D = some (.lst us) → Bears K H' plEnc us (g.bp 0) → Q (.ref D) H'
section
variable {P : Program} {w : World} {K : PySem.W.Frag} {mg : Str → Option Value} {base : Heap} {f : Addr} {fd : FuncData}
theorem none_bare_places {ps : List Str} {k : Nat} : FnOk P w K mg base CX0 k f fd ps (spBareP K 0) := none_sp fun vs H Q E ⟨v, l, _, _, h, _⟩ => by omega
end
end FT
namespace FT
open PySem PySem.W PySem.Spec PyProof.Rows L2
/-- a thing in a place: which whole number it is, if it is one -/
def Wh (K : PySem.W.Frag) (H : Hp) (v : V) (o : Option Int) : Prop := (∃ i, v = .int i ∧ o = some i) ∨ (o = none ∧ ∃ (n : String) (b1 b2 : Bool), TyX K H v (.type n) ∧ kitB n "int" = some b1 ∧ (b1 = true → kitB n "bool" = some b2) ∧ (b1 && !b2) = false)
inductive Whs (K : PySem.W.Frag) (H : Hp) : List V → List (Option Int) → Prop where
  | nil : Whs K H [] []
  | cons {v : V} {o : Option Int} {vs : List V} {os : List (Option Int)} : Wh K H v o → Whs K H vs os → Whs K H (v :: vs) (o :: os)
section
variable {K : PySem.W.Frag} {H H' : Hp}
theorem Whs.length : ∀ {vs : List V} {os : List (Option Int)}, Whs K H vs os → vs.length = os.length
  | _, _, .nil => rfl
  | _, _, .cons _ h => congrArg (· + 1) h.length
theorem Whs.get : ∀ {vs : List V} {os : List (Option Int)}, Whs K H vs os → ∀ {i : Nat} {v : V}, vs[i]? = some v → ∃ o, os[i]? = some o ∧ Wh K H v o
  | _, _, .nil, i, v, e => by simp at e
  | _, _, .cons (o := o) h hs, 0, v, e => by
    have : _ = v := Option.some.inj e
    subst this; exact ⟨o, rfl, h⟩
  | _, _, .cons h hs, i + 1, v, e => hs.get (i := i) e
theorem Whs.append : ∀ {vs us : List V} {os ps : List (Option Int)}, Whs K H vs os → Whs K H us ps → Whs K H (vs ++ us) (os ++ ps)
  | _, _, _, _, .nil, h => h
  | _, _, _, _, .cons a b, h => .cons a (b.append h)
theorem Wh.sb {v : V} {o : Option Int} (h : Wh K H v o) (e : SB [] H H') : Wh K H' v o := by
  rcases h with h | ⟨h, n, b1, b2, ty, k⟩
  · exact .inl h
  · exact .inr ⟨h, n, b1, b2, TyX_sb e (fun _ _ => List.not_mem_nil) ty, k⟩
theorem Whs.sb (e : SB [] H H') : ∀ {vs : List V} {os : List (Option Int)}, Whs K H vs os → Whs K H' vs os
  | _, _, .nil => .nil
  | _, _, .cons h hs => .cons (h.sb e) (Whs.sb e hs)
def plO (p : Pl) : List (Option Int) := p.map fun n : Nat => some (n : Int)
theorem Whs.pl (K : PySem.W.Frag) (H : Hp) : ∀ p : Pl, Whs K H (p.map fun n : Nat => V.int (n : Int)) (plO p)
  | [] => .nil
  | n :: r => .cons (.inl ⟨_, rfl, rfl⟩) (Whs.pl K H r)
end
def stp (g : Gr) : Option Int → Option Tr
  | none => none
  | some n => if 0 ≤ n then (g.ps[n.toNat]?).map (·.1) else none
def lk : Tr → List (Option Int) → Option Tr
  | t, [] => some t
  | t, o :: r => (stp t.2 o).bind fun u => lk u r
theorem lk_append : ∀ (t : Tr) (as bs : List (Option Int)), lk t (as ++ bs) = (lk t as).bind fun u => lk u bs
  | t, [], bs => rfl
  | t, o :: r, bs => by
    show (stp t.2 o).bind (fun u => lk u (r ++ bs)) = ((stp t.2 o).bind fun u => lk u r).bind fun u => lk u bs
    cases stp t.2 o with
    | none => rfl
    | some u => exact lk_append u r bs
theorem lk_none {t : Tr} {os : List (Option Int)} {i : Nat} {o : Option Int} {u : Tr} (h1 : lk t (os.take i) = some u) (h2 : os[i]? = some o) (h3 : stp u.2 o = none) : lk t os = none := by
  have hl : i < os.length := (List.getElem?_eq_some_iff.mp h2).1
  have e : os = os.take i ++ o :: os.drop (i + 1) := by
    have := List.drop_eq_getElem_cons hl
    rw [(List.getElem?_eq_some_iff.mp h2).2] at this
    rw [← this, List.take_append_drop]
  rw [e, lk_append, h1]
  show (stp u.2 o).bind _ = none
  rw [h3]; rfl
theorem lk_next {t : Tr} {os : List (Option Int)} {i : Nat} {o : Option Int} {u x : Tr} (h1 : lk t (os.take i) = some u) (h2 : os[i]? = some o) (h3 : stp u.2 o = some x) : lk t (os.take (i + 1)) = some x := by
  rw [List.take_add_one, h2, lk_append, h1]
  show (stp u.2 o).bind _ = some x
  rw [h3]; rfl
/-- the tree at a place, or an error of the class at C -/
def spTreeAt (K : PySem.W.Frag) (C : Addr) : Sp := fun vs H Q E => ∃ (v : V) (g : Gr) (a : Addr) (xs : List V) (os : List (Option Int)), vs = [v, .ref a] ∧ GA K H v g ∧ SqT K H a xs ∧ Whs K H xs os ∧
  (∀ t, os ≠ [] → lk ("", g) os = some t → ∀ (x : V) (H' : Hp), SB [] H H' → Dp K H' x (Gr.tEnc t) → Q x H') ∧ ((os = [] ∨ lk ("", g) os = none) → ∀ H', SB [] H H' → E (.ref C) none H')
end FT
namespace FT
open PySem PySem.W PySem.Spec PyProof.Rows L2
mutual
inductive Tg (K : PySem.W.Frag) (H : Hp) : V → PyData → Prop
  | int (i : Int) : Tg K H (.int i) (.int i)
  | str (z : Str) : z.length ≤ 1000 → Tg K H (.str z) (.str z)
  | tup {a : Addr} {xs : List V} {ds : List PyData} : SqT K H a xs → TgAll K H xs ds → Tg K H (.ref a) (.tuple ds)
  | oth {v : V} {n : String} : TyX K H v (.type n) → kitB n "tuple" = some false → kitB n "str" = some false → (kitB n "int" = some false ∨ n = "bool") → Tg K H v .none
inductive TgAll (K : PySem.W.Frag) (H : Hp) : List V → List PyData → Prop
  | nil : TgAll K H [] []
  | cons {v : V} {vs : List V} {d : PyData} {ds : List PyData} : Tg K H v d → TgAll K H vs ds → TgAll K H (v :: vs) (d :: ds)
end
mutual
/-- the same without its texts -/
def strip : PyData → PyData
  | .int i => .int i
  | .tuple ds => .tuple (strips ds)
  | _ => .none
def strips : List PyData → List PyData
  | [] => []
  | d :: r => strip d :: strips r
end
theorem many_strip (d : PyData) : manyD (strip d) = manyD d := by cases d <;> simp [strip, manyD]
section
variable {K : PySem.W.Frag} {H H' : Hp}
mutual
theorem Tg.th : ∀ {v : V} {d : PyData}, Tg K H v d → Th K [] H v (strip d)
  | _, _, .int i => by rw [strip]; exact .int i
  | _, _, .str z _ => by rw [strip] <;> first | exact .oth (.base (.str z)) (by decide +kernel) (.inl (by decide +kernel)) (fun _ _ => List.not_mem_nil) | simp
  | _, _, .tup hs ha => by rw [strip]; exact .tup hs (TgAll.th ha)
  | _, _, .oth ty k1 _ k2 => by rw [strip] <;> first | exact .oth ty k1 k2 (fun _ _ => List.not_mem_nil) | simp
theorem TgAll.th : ∀ {vs : List V} {ds : List PyData}, TgAll K H vs ds → ThAll K [] H vs (strips ds)
  | _, _, .nil => by rw [strips]; exact .nil
  | _, _, .cons h t => by rw [strips]; exact .cons (Tg.th h) (TgAll.th t)
end
mutual
theorem Tg_sb (e : SB [] H H') : ∀ {v : V} {d : PyData}, Tg K H v d → Tg K H' v d
  | _, _, .int i => .int i
  | _, _, .str z hz => .str z hz
  | _, _, .tup hs ha => .tup (e.sqT hs) (TgAll_sb e ha)
  | _, _, .oth ty k0 k1 k2 => .oth (TyX_sb e (fun _ _ => List.not_mem_nil) ty) k0 k1 k2
theorem TgAll_sb (e : SB [] H H') : ∀ {vs : List V} {ds : List PyData}, TgAll K H vs ds → TgAll K H' vs ds
  | _, _, .nil => .nil
  | _, _, .cons h t => .cons (Tg_sb e h) (TgAll_sb e t)
end
theorem TgAll.length : ∀ {vs : List V} {ds : List PyData}, TgAll K H vs ds → vs.length = ds.length
  | _, _, .nil => rfl
  | _, _, .cons _ t => by rw [List.length_cons, List.length_cons, TgAll.length t]
theorem TgAll.get : ∀ {vs : List V} {ds : List PyData} {i : Nat} {v : V}, TgAll K H vs ds → vs[i]? = some v → ∃ d, ds[i]? = some d ∧ Tg K H v d
  | _, _, _, _, .nil, e => by simp at e
  | _, _, 0, _, .cons h t, e => by simp at e; subst e; exact ⟨_, rfl, h⟩
  | _, _, i + 1, v, .cons h t, e => by
    obtain ⟨d, h1, h2⟩ := TgAll.get (i := i) (v := v) t (by simpa using e)
    exact ⟨d, by simpa using h1, h2⟩
theorem Tg.ty {v : V} {d : PyData} (h : Tg K H v d) : ∃ n b, TyX K H v (.type n) ∧ kitB n "tuple" = some b ∧ (b = true → ∃ a xs ds, v = .ref a ∧ d = .tuple ds ∧ SqT K H a xs ∧ TgAll K H xs ds) ∧ (b = false → ∀ ds, d ≠ .tuple ds) := by
  cases h with
  | int i => exact ⟨"int", false, .base (.int i), by decide +kernel, fun z => (nomatch z), fun _ ds z => nomatch z⟩
  | str z hz => exact ⟨"str", false, .base (.str z), by decide +kernel, fun z => (nomatch z), fun _ ds z => nomatch z⟩
  | tup hs ha => exact ⟨"tuple", true, (SqT_ty hs), by decide +kernel, fun _ => ⟨_, _, _, rfl, rfl, hs, ha⟩, fun z => (nomatch z)⟩
  | oth ty k1 _ k2 => exact ⟨_, false, ty, k1, fun z => (nomatch z), fun _ ds z => nomatch z⟩
theorem Tg.txt {v : V} {d : PyData} (h : Tg K H v d) : ∃ n b, TyX K H v (.type n) ∧ kitB n "str" = some b ∧ (b = true → ∃ z, v = .str z ∧ d = .str z ∧ z.length ≤ 1000) ∧ (b = false → ∀ z, d ≠ .str z) := by
  cases h with
  | int i => exact ⟨"int", false, .base (.int i), by decide +kernel, fun z => (nomatch z), fun _ ds z => nomatch z⟩
  | str z hz => exact ⟨"str", true, .base (.str z), by decide +kernel, fun _ => ⟨z, rfl, rfl, hz⟩, fun z => (nomatch z)⟩
  | tup hs ha => exact ⟨"tuple", false, (SqT_ty hs), by decide +kernel, fun z => (nomatch z), fun _ ds z => nomatch z⟩
  | oth ty _ k1 k2 => exact ⟨_, false, ty, k1, fun z => (nomatch z), fun _ ds z => nomatch z⟩
end
instance (z : Str) : Decidable (NameOk z) := inferInstanceAs (Decidable (_ ∧ _ ∧ _))
def nameD : PyData → Bool
  | .str z => decide (NameOk z)
  | _ => false
mutual
def groveD : PyData → Bool
  | .tuple ds => grPs ds && risingD (ds.map exp0)
  | _ => false
def grPs : List PyData → Bool
  | [] => true
  | d :: ds => grP d && grPs ds
def grP : PyData → Bool
  | .tuple ds => grP2 ds
  | _ => false
def grP2 : List PyData → Bool
  | [] => false
  | t :: r => treeD t && ladP3 r
def treeD : PyData → Bool
  | .tuple ds => trD2 ds
  | _ => false
def trD2 : List PyData → Bool
  | [] => false
  | k :: r => nameD k && trD3 r
def trD3 : List PyData → Bool
  | [] => false
  | g :: r => groveD g && r.isEmpty
end
theorem ladP3_iff {r : List PyData} (h : ladP3 r = true) : ∃ i, r = [.int i] ∧ (1 : Int) ≤ i := by
  match r, h with
  | [], h => simp [ladP3] at h
  | .int i :: [], h => simp [ladP3, manyD] at h; exact ⟨i, rfl, h⟩
  | .int i :: _ :: _, h => simp [ladP3] at h
  | .none :: _, h => simp [ladP3, manyD] at h
  | .bool _ :: _, h => simp [ladP3, manyD] at h
  | .str _ :: _, h => simp [ladP3, manyD] at h
  | .list _ :: _, h => simp [ladP3, manyD] at h
  | .dict _ :: _, h => simp [ladP3, manyD] at h
  | .tuple _ :: _, h => simp [ladP3, manyD] at h
theorem nameD_iff {d : PyData} (h : nameD d = true) : ∃ z, d = .str z ∧ NameOk z := by
  cases d with
  | str z => exact ⟨z, rfl, of_decide_eq_true h⟩
  | _ => simp [nameD] at h
mutual
theorem groveD_gr : ∀ d : PyData, groveD d = true → ∃ g : Gr, d = g.enc
  | .tuple ds, h => by
    rw [groveD, Bool.and_eq_true] at h
    obtain ⟨g, e⟩ := grPs_enc ds h.1
    exact ⟨g, by rw [e]; rfl⟩
  | .none, h => by simp [groveD] at h
  | .bool _, h => by simp [groveD] at h
  | .int _, h => by simp [groveD] at h
  | .str _, h => by simp [groveD] at h
  | .list _, h => by simp [groveD] at h
  | .dict _, h => by simp [groveD] at h
theorem grPs_enc : ∀ ds : List PyData, grPs ds = true → ∃ g : Gr, ds = g.encs
  | [], _ => ⟨.nil, rfl⟩
  | d :: ds, h => by
    rw [grPs, Bool.and_eq_true] at h
    obtain ⟨r, er⟩ := grPs_enc ds h.2
    obtain ⟨t, i, ed, he⟩ := grP_enc d h.1
    exact ⟨.cons t.1 t.2 i r, by rw [er, ed]; rfl⟩
theorem grP_enc : ∀ d : PyData, grP d = true → ∃ (t : Tr) (i : Int), d = .tuple [Gr.tEnc t, .int i] ∧ (1 : Int) ≤ i
  | .tuple ds, h => by
    rw [grP] at h
    obtain ⟨e, i, ed, he⟩ := grP2_enc ds h
    exact ⟨e, i, by rw [ed], he⟩
  | .none, h => by simp [grP] at h
  | .bool _, h => by simp [grP] at h
  | .int _, h => by simp [grP] at h
  | .str _, h => by simp [grP] at h
  | .list _, h => by simp [grP] at h
  | .dict _, h => by simp [grP] at h
theorem grP2_enc : ∀ ds : List PyData, grP2 ds = true → ∃ (t : Tr) (i : Int), ds = [Gr.tEnc t, .int i] ∧ (1 : Int) ≤ i
  | [], h => by simp [grP2] at h
  | d :: r, h => by
    rw [grP2, Bool.and_eq_true] at h
    obtain ⟨t, et⟩ := treeD_tr d h.1
    obtain ⟨i, er, hi⟩ := ladP3_iff h.2
    exact ⟨t, i, by rw [et, er], hi⟩
theorem treeD_tr : ∀ d : PyData, treeD d = true → ∃ t : Tr, d = Gr.tEnc t
  | .tuple ds, h => by
    rw [treeD] at h
    obtain ⟨t, et⟩ := trD2_enc ds h
    exact ⟨t, by rw [et]; rfl⟩
  | .none, h => by simp [treeD] at h
  | .bool _, h => by simp [treeD] at h
  | .int _, h => by simp [treeD] at h
  | .str _, h => by simp [treeD] at h
  | .list _, h => by simp [treeD] at h
  | .dict _, h => by simp [treeD] at h
theorem trD2_enc : ∀ ds : List PyData, trD2 ds = true → ∃ t : Tr, ds = [.str t.1, t.2.enc]
  | [], h => by simp [trD2] at h
  | d :: r, h => by
    rw [trD2, Bool.and_eq_true] at h
    obtain ⟨z, ez, _⟩ := nameD_iff h.1
    obtain ⟨g, eg⟩ := trD3_enc r h.2
    exact ⟨(z, g), by rw [ez, eg]⟩
theorem trD3_enc : ∀ ds : List PyData, trD3 ds = true → ∃ g : Gr, ds = [g.enc]
  | [], h => by simp [trD3] at h
  | d :: r, h => by
    rw [trD3, Bool.and_eq_true] at h
    obtain ⟨g, eg⟩ := groveD_gr d h.1
    have : r = [] := by cases r with | nil => rfl | cons _ _ => simp at h
    exact ⟨g, by rw [eg, this]⟩
end
section
variable {K : PySem.W.Frag} {H : Hp}
theorem GA_tg {C : Int} : ∀ (g : Gr) {vs : List V}, g.Ok C → DpAll K H vs g.encs → TgAll K H vs g.encs
  | .nil, vs, _, h => by cases h; exact .nil
  | .cons k g m r, vs, ho, h => by
    cases h with
    | cons h1 h2 =>
      refine .cons ?_ (GA_tg r ho.2.2.2.2.1 h2)
      cases h1 with
      | tup hs ha =>
        cases ha with
        | cons h3 h4 =>
          cases h4 with
          | cons h5 h6 =>
            cases h6; cases h5
            refine .tup hs (.cons ?_ (.cons (.int _) .nil))
            cases h3 with
            | tup hs2 hb =>
              cases hb with
              | cons h7 h8 =>
                cases h8 with
                | cons h9 h10 =>
                  cases h10; cases h7
                  cases h9 with
                  | tup hs3 hc => exact .tup hs2 (.cons (.str _ (by have := ho.1.2.1; simp [Str.length]; simp at this; omega)) (.cons (.tup hs3 (GA_tg g ho.2.1 hc)) .nil))
theorem Tg_ga : ∀ (g : Gr) {vs : List V}, TgAll K H vs g.encs → DpAll K H vs g.encs
  | .nil, vs, h => by cases h; exact .nil
  | .cons k g m r, vs, h => by
    cases h with
    | cons h1 h2 =>
      refine .cons ?_ (Tg_ga r h2)
      cases h1 with
      | tup hs ha =>
        cases ha with
        | cons h3 h4 =>
          cases h4 with
          | cons h5 h6 =>
            cases h6; cases h5
            refine .tup hs (.cons ?_ (.cons (.int _) .nil))
            cases h3 with
            | tup hs2 hb =>
              cases hb with
              | cons h7 h8 =>
                cases h8 with
                | cons h9 h10 =>
                  cases h10; cases h7
                  cases h9 with
                  | tup hs3 hc => exact .tup hs2 (.cons (.str _) (.cons (.tup hs3 (Tg_ga g hc)) .nil))
end
def spName (K : PySem.W.Frag) : Sp := fun vs H Q _ => ∃ (v : V) (d : PyData), vs = [v] ∧ Tg K H v d ∧ ∀ H', SB [] H H' → Q (.bl (nameD d)) H'
def spIsTree (K : PySem.W.Frag) (n : Nat) : Sp := fun vs H Q _ => ∃ (v : V) (d : PyData), vs = [v] ∧ Tg K H v d ∧ d.depth < n ∧ d.depth ≤ 80 ∧ wide d ≤ 1000 ∧ ∀ H', SB [] H H' → Q (.bl (treeD d)) H'
def spIsGrove (K : PySem.W.Frag) (n : Nat) : Sp := fun vs H Q _ => ∃ (v : V) (d : PyData), vs = [v] ∧ Tg K H v d ∧ d.depth < n ∧ d.depth ≤ 80 ∧ wide d ≤ 1000 ∧ ∀ H', SB [] H H' → Q (.bl (groveD d)) H'
def spPairsQ (K : PySem.W.Frag) (tp : Bool) (n : Nat) : Sp := fun vs H Q _ => ∃ (a : Addr) (xs : List V) (ds : List PyData), vs = [.ref a] ∧ (if tp = true then SqT K H a xs else SqL K H a xs) ∧ TgAll K H xs ds ∧ PyData.depthAll ds < n ∧ PyData.depthAll ds ≤ 79 ∧ wide (.tuple ds) ≤ 1000 ∧ ∀ H', SB [] H H' → Q (.bl (grPs ds)) H'
/-- the run of signs from a place on -/
def spRunOf (K : PySem.W.Frag) : Sp := fun vs H Q _ => ∃ (z y : Str) (k : Nat), vs = [.str z, .int (k : Int), .str y] ∧ z.length ≤ 100000 ∧ k ≤ z.length ∧ ∀ e : Nat, k ≤ e → e ≤ z.length → (∀ j c, k ≤ j → j < e → z.cps.toList[j]? = some c → c ∈ y.cps.toList) → (∀ c, z.cps.toList[e]? = some c → c ∉ y.cps.toList) → Q (.str (cutS z (some (k : Int)) (some (e : Int)))) H
theorem mem_abc (c : Nat) : c ∈ abc.cps.toList ↔ 97 ≤ c ∧ c ≤ 122 := by
  have e : abc.cps.toList = (List.range 26).map (· + 97) := by decide +kernel
  rw [e, List.mem_map]
  constructor
  · rintro ⟨x, hx, rfl⟩
    have := List.mem_range.mp hx
    omega
  · intro h
    exact ⟨c - 97, List.mem_range.mpr (by omega), by omega⟩
theorem len_cps (z : Str) : z.cps.toList.length = z.length := by simp [Str.length]
theorem cut0 (z : Str) {e : Nat} (he : e ≤ z.length) : (cutS z (some ((0 : Nat) : Int)) (some (e : Int))).cps.toList = z.cps.toList.take e := by
  unfold cutS
  rw [HT.sIx_nat, HT.sIx_nat]
  simp [Nat.min_eq_left he]
theorem run_name {z : Str} {e : Nat} (h1 : 1 ≤ z.length) (h8 : z.length ≤ 8) (he : e ≤ z.length) (hin : ∀ j c, 0 ≤ j → j < e → z.cps.toList[j]? = some c → c ∈ abc.cps.toList) (hout : ∀ c, z.cps.toList[e]? = some c → c ∉ abc.cps.toList) :
    decide (V.str (cutS z (some ((0 : Nat) : Int)) (some (e : Int))) = V.str z) = nameD (.str z) := by
  have hl := len_cps z
  rw [Bool.eq_iff_iff, decide_eq_true_iff, nameD, decide_eq_true_iff]
  constructor
  · intro h
    injection h with h
    have h2 := cut0 z he
    rw [h] at h2
    have h3 : z.cps.toList.length = min e z.cps.toList.length := by
      have := congrArg List.length h2
      rwa [List.length_take] at this
    refine ⟨by omega, by omega, fun c hc => ?_⟩
    obtain ⟨j, hj⟩ := List.mem_iff_getElem?.mp hc
    have hj2 := (List.getElem?_eq_some_iff.mp hj).1
    exact (mem_abc c).mp (hin j c (Nat.zero_le _) (by omega) hj)
  · rintro ⟨_, _, hall⟩
    have e1 : e = z.length := by
      rcases Nat.lt_or_ge e z.length with h | h
      · obtain ⟨c, hc⟩ : ∃ c, z.cps.toList[e]? = some c := ⟨_, List.getElem?_eq_getElem (by omega)⟩
        exact absurd ((mem_abc c).mpr (hall c (List.mem_of_getElem? hc))) (hout c hc)
      · omega
    have h2 := cut0 z he
    rw [e1, ← hl, List.take_length] at h2
    congr 1
    have h3 : ∀ a b : Str, a.cps.toList = b.cps.toList → a = b := by
      intro a b hab
      cases a; cases b
      congr 1
      exact Array.toList_inj.mp hab
    rw [e1, ← hl]
    exact h3 _ _ h2
theorem name_out {z : Str} (h : ¬ (1 ≤ z.length ∧ z.length ≤ 8)) : nameD (.str z) = false := by
  have hl := len_cps z
  rw [nameD]
  exact decide_eq_false fun ⟨h1, h2, _⟩ => h ⟨by omega, by omega⟩
end FT
namespace FT
open PySem PySem.W PySem.Spec PyProof.Rows L2
theorem nameD_ok {z : Str} (h : NameOk z) : nameD (.str z) = true := decide_eq_true h
theorem treeD_of {t : Tr} (h0 : NameOk t.1) (h : groveD t.2.enc = true) : treeD (Gr.tEnc t) = true := by
  rw [Gr.tEnc, treeD, trD2, trD3, nameD_ok h0, h]; rfl
theorem grP_of {t : Tr} {m : Int} (h0 : NameOk t.1) (h : groveD t.2.enc = true) (hm : 1 ≤ m) : grP (Gr.pEnc (t, m)) = true := by
  show grP (.tuple [Gr.tEnc t, .int m]) = true
  rw [grP, grP2, ladP3, treeD_of h0 h]
  simp [manyD, hm]
theorem groveD_ok {C : Int} : ∀ {g : Gr}, g.Ok C → groveD g.enc = true
  | .nil, _ => by decide +kernel
  | .cons k g m r, ⟨h0, h1, h2, h3, h4, h5⟩ => by
    have a1 := groveD_ok h1
    have a2 := groveD_ok h4
    rw [Gr.enc, groveD, Bool.and_eq_true] at a2
    have hp : grP (Gr.pEnc ((k, g), m)) = true := grP_of h0 a1 h2
    have e : (Gr.cons k g m r).encs = Gr.pEnc ((k, g), m) :: r.encs := rfl
    rw [Gr.enc, groveD, e, grPs, hp, a2.1, Bool.true_and, Bool.true_and, List.map_cons]
    cases r with
    | nil => rfl
    | cons k2 g2 m2 r2 =>
      have hlt : dataLt (Gr.tEnc (k, g)) (Gr.tEnc (k2, g2)) = true := h5 ((k2, g2), m2) (List.mem_cons_self ..)
      have e2 : (Gr.cons k2 g2 m2 r2).encs = Gr.pEnc ((k2, g2), m2) :: r2.encs := rfl
      have a3 := a2.2
      rw [e2, List.map_cons] at a3 ⊢
      show (dataLt (Gr.tEnc (k, g)) (Gr.tEnc (k2, g2)) :: ltsD _).all id = true
      rw [List.all_cons, show id (dataLt (Gr.tEnc (k, g)) (Gr.tEnc (k2, g2))) = true from hlt, Bool.true_and]
      exact a3
theorem wides_gr : ∀ g : Gr, wides g.encs ≤ 2 + g.parts ∧ g.encs.length ≤ g.parts
  | .nil => ⟨by show wides [] ≤ _; rw [wides]; omega, Nat.le_refl _⟩
  | .cons k g m r => by
    obtain ⟨h1, h2⟩ := wides_gr g
    obtain ⟨h3, h4⟩ := wides_gr r
    have e : (Gr.cons k g m r).encs = Gr.pEnc ((k, g), m) :: r.encs := rfl
    have e2 : wide (Gr.pEnc ((k, g), m)) ≤ 2 + g.parts := by
      show wide (.tuple [.tuple [.str k, .tuple g.encs], .int m]) ≤ _
      simp only [wide, wides, List.length_cons, List.length_nil]
      omega
    rw [e, wides, List.length_cons]
    show _ ≤ 2 + (1 + g.parts + r.parts) ∧ _ ≤ 1 + g.parts + r.parts
    omega
theorem wide_pair (p : Tr × Int) : wide (Gr.pEnc p) ≤ 2 + p.1.2.parts := by
  obtain ⟨h1, h2⟩ := wides_gr p.1.2
  show wide (.tuple [.tuple [.str p.1.1, .tuple p.1.2.encs], .int p.2]) ≤ _
  simp only [wide, wides, List.length_cons, List.length_nil]
  omega
section
variable {K : PySem.W.Frag} {H : Hp} {C : Int}
theorem GA_thing {g : Gr} {v : V} (ho : g.Ok C) (h : GA K H v g) : Tg K H v g.enc := by
  cases (h : Dp K H v (.tuple g.encs)) with
  | tup hs ha => exact .tup hs (GA_tg g ho ha)
theorem name_short {z : Str} (h : NameOk z) : z.length ≤ 1000 := by
  have := h.2.1
  rw [len_cps] at this
  omega
theorem TA_thing {t : Tr} {v : V} (h0 : NameOk t.1) (ho : t.2.Ok C) (h : Dp K H v (Gr.tEnc t)) : Tg K H v (Gr.tEnc t) := by
  obtain ⟨a, u, rfl, hs, hu⟩ := TA_parts h
  exact .tup hs (.cons (.str _ (name_short h0)) (.cons (GA_thing ho hu) .nil))
theorem PA_thing {p : Tr × Int} {v : V} (h0 : NameOk p.1.1) (ho : p.1.2.Ok C) (h : Dp K H v (Gr.pEnc p)) : Tg K H v (Gr.pEnc p) := by
  obtain ⟨a, b, u, rfl, hs, hst, hu, hdt⟩ := PA_parts h
  exact .tup hs (.cons (TA_thing h0 ho hdt) (.cons (.int _) .nil))
theorem Bears_things : ∀ {xs : List V} {bs : List (Tr × Int)}, Bears K H Gr.pEnc xs bs → (∀ p ∈ bs, NameOk p.1.1 ∧ p.1.2.Ok C) → TgAll K H xs (bs.map Gr.pEnc) := by
  intro xs bs h
  induction h with
  | nil => intro _; exact .nil
  | cons h1 h2 ih =>
    intro ho
    have h3 := ho _ (List.mem_cons_self ..)
    exact .cons (PA_thing h3.1 h3.2 h1) (ih fun p hp => ho p (List.mem_cons_of_mem _ hp))
end
theorem grPs_ok {C : Int} : ∀ {bs : List (Tr × Int)}, (∀ p ∈ bs, NameOk p.1.1 ∧ p.1.2.Ok C ∧ 1 ≤ p.2) → grPs (bs.map Gr.pEnc) = true
  | [], _ => by rw [List.map_nil, grPs]
  | p :: r, h => by
    obtain ⟨h1, h2, h3⟩ := h p (List.mem_cons_self ..)
    rw [List.map_cons, grPs, show grP (Gr.pEnc p) = true from grP_of (t := p.1) (m := p.2) h1 (groveD_ok h2) h3, grPs_ok fun q hq => h q (List.mem_cons_of_mem _ hq)]
    rfl
theorem depth_pairs : ∀ {bs : List (Tr × Int)}, (∀ p ∈ bs, p.1.2.deep ≤ 18) → PyData.depthAll (bs.map Gr.pEnc) ≤ 57
  | [], _ => by simp [PyData.depthAll]
  | p :: r, h => by
    have h1 := depth_pairs (bs := r) fun q hq => h q (List.mem_cons_of_mem _ hq)
    have h2 := h p (List.mem_cons_self ..)
    have h3 := Gr.pEnc_depth p
    rw [List.map_cons, PyData.depthAll]
    omega
theorem wide_pairs {n : Nat} : ∀ {bs : List (Tr × Int)}, (∀ p ∈ bs, p.1.2.parts ≤ n) → wides (bs.map Gr.pEnc) ≤ 2 + n
  | [], _ => by rw [List.map_nil, wides]; omega
  | p :: r, h => by
    have h1 := wide_pairs (bs := r) fun q hq => h q (List.mem_cons_of_mem _ hq)
    have h2 := h p (List.mem_cons_self ..)
    have h3 := wide_pair p
    rw [List.map_cons, wides]
    omega
/-- the grove of a list of pairs, or an error of the class at C -/
def spGroveOf (K : PySem.W.Frag) (C : Addr) : Sp := fun vs H Q E => ∃ (a : Addr) (xs : List V), vs = [.ref a] ∧ SqL K H a xs ∧
  ((∃ (bs : List (Tr × Int)) (D : Int), Bears K H Gr.pEnc xs bs ∧ bs.length ≤ 900 ∧ (∀ p ∈ bs, NameOk p.1.1 ∧ p.1.2.Ok D ∧ 1 ≤ p.2 ∧ p.1.2.deep ≤ 18 ∧ p.1.2.parts ≤ 900) ∧ ∀ (x : V) (H' : Hp), SB [] H H' → GA K H' x (Gr.tidy bs) → Q x H') ∨
   (∃ ds : List PyData, TgAll K H xs ds ∧ PyData.depthAll ds ≤ 57 ∧ wide (.tuple ds) ≤ 1000 ∧ grPs ds = false ∧ ∀ H', SB [] H H' → E (.ref C) none H'))
end FT
namespace FT
open PySem PySem.W PySem.Spec PyProof.Rows L2
section
variable {K : PySem.W.Frag} {H : Hp} {p : Addr} {Q : VK} {σ : L2.St} {i : Nat}
/-- _law_take(purse, [..][_law_take(purse, n)]) -/
theorem take_ofL {tl : TA} {n : Int} (zs : List Int) (hσ : σ[i]? = some (some (.ref p))) (hp : PuG H p) (hl : ∀ Q', Q' (zs.map V.int) H → tl σ H Q') (hn : n = zs.length) (h1 : 1 ≤ n) (hn2 : n ≤ 1000) (hz : ∀ z ∈ zs, 1 ≤ z ∧ z < 2 ^ 250)
    (k : ∀ r H', 0 ≤ r → (∃ z ∈ zs, r < z) → SB [p] H H' → PuG H' p → Q (.int r) H') :
    tCall spTakeG [] E0 (tCons (tVar i) (tCons (tOp (rIxL K) (tLst tl) (tCall spTakeG [] E0 (tCons (tVar i) (tCons (tC (.int n)) tNil)))) tNil)) σ H Q := by
  refine ⟨_, hσ, hl _ ⟨?_, fun la hla => ?_⟩⟩
  · rw [List.length_map]; have := sizeLine_eq; omega
  have t := SB.new (ps := []) hla (.lst (zs.map V.int))
  refine ⟨_, hσ, p, n, rfl, hp.new hla, h1, ?_, fun r H1 r0 r2 s1 hp1 => ?_⟩
  · exact Int.lt_of_le_of_lt hn2 (by decide)
  have hla1 := s1.keep _ _ (show (upd H la (.lst (zs.map V.int))) la = some _ from upd_same) (by simpa using fun z : la = p => hp.ne hla z.symm)
  obtain ⟨m, rfl⟩ : ∃ m : Nat, r = (m : Int) := ⟨r.toNat, by omega⟩
  have hm : m < zs.length := by omega
  have hget : (zs.map V.int)[m]? = some (.int zs[m]) := by rw [List.getElem?_map, List.getElem?_eq_getElem hm]; rfl
  have hzz := hz zs[m] (List.getElem_mem hm)
  refine ⟨la, _, _, _, rfl, rfl, SqL.of hla1, atI_nat hget, p, zs[m], rfl, hp1, hzz.1, hzz.2, fun r3 H3 r30 r3z s3 hp3 => ?_⟩
  exact k r3 H3 r30 ⟨zs[m], List.getElem_mem hm, r3z⟩ ((t.nil.trans s1).trans s3) hp3
end
section
variable {K : PySem.W.Frag} {H H3 H4 : Hp} {p0 nm S : Addr} {ks : List Str}
theorem Hd.other (h : Hd K H H3 p0 nm ks) (s : SB [S] H3 H4) (n : H S = none) (n1 : p0 ≠ S) (n2 : nm ≠ S) : Hd K H H4 p0 nm ks := by
  refine ⟨h.hp.keep s (by simpa using n1), s.keep _ _ h.hnm (by simpa using n2), h.k1, h.k8, h.kn, h.ne, ?_, h.np⟩
  have h1 : SB [S, p0] H H3 := h.sb.mono fun b hb => List.mem_cons_of_mem _ hb
  have h2 : SB [S, p0] H3 H4 := s.mono fun b hb => by have : b = S := by simpa using hb
                                                      subst this; simp
  exact (h1.trans h2).drop n
end
/-- a list that stands is kept where another is changed -/
theorem SB.lst {H H' : Hp} {ps : List Addr} {D : Addr} {us : List V} (s : SB ps H H') (h : H D = some (.lst us)) (n : D ∉ ps) : H' D = some (.lst us) := s.keep _ _ h n
theorem TgAll.append {K : PySem.W.Frag} {H : Hp} : ∀ {xs ys : List V} {ds es : List PyData}, TgAll K H xs ds → TgAll K H ys es → TgAll K H (xs ++ ys) (ds ++ es)
  | _, _, _, _, .nil, h => h
  | _, _, _, _, .cons a b, h => .cons a (TgAll.append b h)
end FT
namespace FT
open PySem PySem.W PySem.Spec PyProof.Rows L2
section
variable {K : PySem.W.Frag} {β : Type} {enc : β → PyData}
theorem while_left {j : Nat} {D : Addr} {tb rest : TS} {De : Ends} {σ : L2.St} {H : Hp} (meas : List β → Nat) (Pv : List β → L2.St → Hp → Prop) {ws0 : List β} (h0 : Pv ws0 σ H)
    (hl : ∀ ws σ H, Pv ws σ H → σ[j]? = some (some (.ref D)) ∧ ∃ us, H D = some (.lst us) ∧ Bears K H enc us ws) (hn : ∀ b, noList (enc b) = true) (hsh : ∀ ws σ H, Pv ws σ H → SeqAt.shaped (.list (ws.map enc)) = true)
    (hk : ∀ ws σ H z, Pv ws σ H → H z = none → Pv ws σ (upd H z (.lst [])))
    (step : ∀ js x σ H, Pv (js ++ [x]) σ H → tb { De with nx := fun σ' H' => ∃ ws', meas ws' < meas (js ++ [x]) ∧ Pv ws' σ' H', ct := fun σ' H' => ∃ ws', meas ws' < meas (js ++ [x]) ∧ Pv ws' σ' H', bk := rest De } σ H)
    (done : ∀ σ H, Pv [] σ H → rest De σ H) : tSeq (tWhile (tTest (tOp (rNeD K) (tVar j) (tLst tNil))) tb) rest De σ H := by
  refine ⟨fun m σ H => ∃ ws, m = meas ws ∧ Pv ws σ H, ⟨_, ws0, rfl, h0⟩, fun m σ1 H1 h1 => ?_⟩
  obtain ⟨ws, rfl, p1⟩ := h1
  obtain ⟨e1, us, hD1, hb1⟩ := hl ws σ1 H1 p1
  refine ⟨_, e1, (by show 0 ≤ sizeLine; decide), fun z0 hz0 => ?_⟩
  have p2 := hk ws σ1 H1 z0 p1 hz0
  have t2 := SB.new (ps := []) hz0 (.lst [])
  have hD2 := t2.keep _ _ hD1 List.not_mem_nil
  have hb2 := hb1.sb t2 hn
  refine ⟨.list (ws.map enc), .list [], Dp.lst (SqL.of hD2) hb2.dp, Dp.lst (SqL.of upd_same) .nil, hsh ws σ1 H1 p1, by decide +kernel, _, rfl, ?_⟩
  rcases List.eq_nil_or_concat ws with he | ⟨js, x, he⟩
  · subst he
    exact iteF (done _ _ p2)
  · rw [List.concat_eq_append] at he
    subst he
    have ez : (!PyData.eqv (.list ((js ++ [x]).map enc)) (.list [])) = true := by
      cases js <;> simp [PyData.eqv, PyData.eqvAll]
    rw [ez]
    exact iteT ⟨_, fun σ' H' ⟨ws', h1, h2⟩ => ⟨_, h1, ws', rfl, h2⟩, step js x σ1 _ p2⟩
/-- left.pop() -/
theorem pop_left {j : Nat} {D : Addr} {σ : L2.St} {H : Hp} {us : List V} {js : List β} {x : β} {Q : VK} (hσ : σ[j]? = some (some (.ref D))) (hD : H D = some (.lst us)) (hb : Bears K H enc us (js ++ [x])) (hn : ∀ b, noList (enc b) = true)
    (k : ∀ (us' : List V) (u : V) (H' : Hp), SB [D] H H' → H' D = some (.lst us') → Bears K H' enc us' js → Dp K H' u (enc x) → (∀ b, b ≠ D → H' b = H b) → Q u H') : tBM0 K "list" rPop (tVar j) σ H Q := by
  obtain ⟨us', u, rfl, hus, hu⟩ := hb.snoc
  refine ⟨_, hσ, .inl ⟨rfl, _, SqL.of hD⟩, D, _, _, rfl, rfl, hD, (by simp : (us' ++ [u])[(us' ++ [u]).length - 1]? = some u), ?_⟩
  have edl : (us' ++ [u]).dropLast = us' := by simp
  rw [edl]
  have t5 := SB.set (ps := [D]) hD (by simp) (.lst us')
  exact k us' u _ t5 upd_same (hus.sb t5 hn) (Dp_sb t5 _ _ (hn _) hu) fun b hb => upd_ne hb
end
end FT
namespace FT
open PySem PySem.W PySem.Spec PyProof.Rows L2
open TL (tl)
def numT (m : Int) : List Nat := if m = 1 then [] else TL.numL m.toNat ++ [32]
namespace Gr
def body : Gr → List Nat
  | .nil => []
  | .cons k g m r => numT m ++ (tl k ++ ((if g = .nil then [] else 123 :: (g.body ++ [125])) ++ (if r = .nil then [] else 44 :: 32 :: r.body)))
def held (g : Gr) : List Nat := if g = .nil then [] else 123 :: (g.body ++ [125])
def more (r : Gr) : List Nat := if r = .nil then [] else 44 :: 32 :: r.body
def text (g : Gr) : List Nat := if g = .nil then [45] else g.body
theorem body_cons (k : Str) (g : Gr) (m : Int) (r : Gr) : (Gr.cons k g m r).body = numT m ++ (tl k ++ (g.held ++ r.more)) := rfl
theorem text_cons (k : Str) (g : Gr) (m : Int) (r : Gr) : (Gr.cons k g m r).text = (Gr.cons k g m r).body := if_neg (fun z => nomatch z)
/-- the text of one pair -/
def pText (p : Tr × Int) : List Nat := numT p.2 ++ (tl p.1.1 ++ p.1.2.held)
theorem body_join : ∀ g : Gr, g ≠ .nil → g.body = TL.joinL [44, 32] (g.ps.map pText)
  | .nil, h => absurd rfl h
  | .cons k g m r, _ => by
    rw [body_cons]
    cases r with
    | nil =>
      show numT m ++ (tl k ++ (g.held ++ [])) = numT m ++ (tl k ++ g.held)
      rw [List.append_nil]
    | cons k2 g2 m2 r2 =>
      have ih := body_join (.cons k2 g2 m2 r2) (fun z => nomatch z)
      show numT m ++ (tl k ++ (g.held ++ (44 :: 32 :: (Gr.cons k2 g2 m2 r2).body))) = (numT m ++ (tl k ++ g.held)) ++ ([44, 32] ++ TL.joinL [44, 32] ((Gr.cons k2 g2 m2 r2).ps.map pText))
      rw [ih]
      simp
end Gr
theorem numT_len {m : Int} {C : Nat} (hC : 0 < C) (h0 : 0 ≤ m) (h : m < 10 ^ C) : (numT m).length ≤ C + 1 := by
  unfold numT
  split
  · simp
  · obtain ⟨n, rfl⟩ : ∃ n : Nat, m = (n : Int) := ⟨m.toNat, by omega⟩
    have h' : n < 10 ^ C := by exact_mod_cast h
    have := TL.numL_len hC h'
    rw [List.length_append, Int.toNat_natCast]; simp; omega
namespace Gr
theorem body_len {C : Nat} (hC : 0 < C) : ∀ {g : Gr}, g.Ok (10 ^ C) → g.body.length ≤ (C + 13) * g.parts
  | .nil, _ => Nat.zero_le _
  | .cons k g m r, ⟨h0, h1, h2, h3, h4, _⟩ => by
    have a := body_len hC h1
    have b := body_len hC h4
    have c := numT_len hC (by omega) h3
    have d := h0.2.1
    have e1 : g.held.length ≤ (C + 13) * g.parts + 2 := by unfold held; split <;> simp <;> omega
    have e2 : r.more.length ≤ (C + 13) * r.parts + 2 := by unfold more; split <;> simp <;> omega
    rw [body_cons]
    simp only [List.length_append, parts]
    have e3 : (C + 13) * (1 + g.parts + r.parts) = (C + 13) + (C + 13) * g.parts + (C + 13) * r.parts := by rw [Nat.mul_add, Nat.mul_add, Nat.mul_one]
    have d' : (tl k).length ≤ 8 := d
    omega
theorem text_len {C : Nat} (hC : 0 < C) {g : Gr} (h : g.Ok (10 ^ C)) : g.text.length ≤ (C + 13) * g.parts + 1 := by
  have := body_len hC h
  unfold text
  split
  · simp
  · omega
end Gr
def isFig (c : Nat) : Bool := decide (48 ≤ c ∧ c ≤ 57)
def isLtr (c : Nat) : Bool := decide (97 ≤ c ∧ c ≤ 122)
abbrev Rd (α : Type) := List Nat → Option (α × List Nat)
def rdPairOf (rdT : Rd Tr) : Rd (Tr × Int) := fun l =>
  if l.takeWhile isFig = [] then (rdT l).map fun x => ((x.1, 1), x.2)
  else if (l.takeWhile isFig).length > 60 ∨ (l.dropWhile isFig).head? ≠ some 32 then none
  else (rdT (l.dropWhile isFig).tail).map fun x => ((x.1, (NumText.digitsVal (l.takeWhile isFig) : Int)), x.2)
def rdTail (rdP : Rd (Tr × Int)) : Nat → Rd (List (Tr × Int))
  | 0, l => some ([], l)
  | f + 1, l => if l.take 2 = [44, 32] then (rdP (l.drop 2)).bind fun x => (rdTail rdP f x.2).map fun y => (x.1 :: y.1, y.2) else some ([], l)
def rdPairs (rdP : Rd (Tr × Int)) : Rd (List (Tr × Int)) := fun l => (rdP l).bind fun x => (rdTail rdP 100000 x.2).map fun y => (x.1 :: y.1, y.2)
def rdTree : Nat → Rd Tr
  | 0, l => if (l.dropWhile isLtr).head? ≠ some 123 then some ((⟨(l.takeWhile isLtr).toArray⟩, .nil), l.dropWhile isLtr) else none
  | n + 1, l => if (l.dropWhile isLtr).head? ≠ some 123 then some ((⟨(l.takeWhile isLtr).toArray⟩, .nil), l.dropWhile isLtr) else
      (rdPairs (rdPairOf (rdTree n)) (l.dropWhile isLtr).tail).bind fun x => if x.2.head? = some 125 then some ((⟨(l.takeWhile isLtr).toArray⟩, Gr.ofPs x.1), x.2.tail) else none
abbrev rdPair (n : Nat) : Rd (Tr × Int) := rdPairOf (rdTree n)
theorem takeWhile_app {p : Nat → Bool} : ∀ {as bs : List Nat}, (∀ a ∈ as, p a = true) → (∀ b, bs.head? = some b → p b = false) → (as ++ bs).takeWhile p = as ∧ (as ++ bs).dropWhile p = bs
  | [], bs, _, hb => by
    cases bs with
    | nil => exact ⟨rfl, rfl⟩
    | cons b r =>
      have := hb b rfl
      exact ⟨by simp [List.takeWhile, this], by simp [List.dropWhile, this]⟩
  | a :: as, bs, ha, hb => by
    obtain ⟨h1, h2⟩ := takeWhile_app (fun x hx => ha x (List.mem_cons_of_mem _ hx)) hb
    have := ha a (List.mem_cons_self ..)
    exact ⟨by rw [List.cons_append, List.takeWhile_cons, if_pos this, h1], by rw [List.cons_append, List.dropWhile_cons, if_pos this, h2]⟩
theorem name_ltrs {k : Str} (h : NameOk k) : ∀ c ∈ tl k, isLtr c = true := fun c hc => decide_eq_true (h.2.2 c hc)
theorem name_head {k : Str} (h : NameOk k) (r : List Nat) : ∃ c s, tl k ++ r = c :: s ∧ 97 ≤ c ∧ c ≤ 122 := by
  cases e : tl k with
  | nil => have := h.1; rw [show k.cps.toList = tl k from rfl, e] at this; simp at this
  | cons c s => exact ⟨c, s ++ r, rfl, h.2.2 c (by rw [show k.cps.toList = tl k from rfl, e]; simp)⟩
/-- what may stand behind a pair -/
def Stop (l : List Nat) : Prop := ∀ c, l.head? = some c → c = 44 ∨ c = 125
theorem rdPairOf_show {rdT : Rd Tr} {t : Tr} {m : Int} {l rest : List Nat} (hn : NameOk t.1) (h1 : 1 ≤ m) (hB : m < 10 ^ 60) (h : rdT (tl t.1 ++ l) = some (t, rest)) : rdPairOf rdT (numT m ++ (tl t.1 ++ l)) = some ((t, m), rest) := by
  obtain ⟨c, s, ec, hc1, hc2⟩ := name_head hn l
  unfold rdPairOf numT
  by_cases hm : m = 1
  · subst hm
    rw [if_pos rfl, List.nil_append]
    have e1 : (tl t.1 ++ l).takeWhile isFig = [] := by
      rw [ec, List.takeWhile_cons, if_neg]
      simp [isFig]; omega
    rw [if_pos e1, h]; rfl
  · rw [if_neg hm]
    obtain ⟨n, rfl⟩ : ∃ n : Nat, m = (n : Int) := ⟨m.toNat, by omega⟩
    rw [Int.toNat_natCast, List.append_assoc]
    have hd : ∀ a ∈ TL.numL n, isFig a = true := fun a ha => by
      have := TL.numL_digits n a ha
      exact decide_eq_true (by omega)
    obtain ⟨e1, e2⟩ := takeWhile_app (p := isFig) (as := TL.numL n) (bs := [32] ++ (tl t.1 ++ l)) hd (fun b hb => by
      have : (32 : Nat) = b := by simpa using hb
      subst this; rfl)
    rw [e1, e2, if_neg (TL.numL_ne n)]
    have hl : (TL.numL n).length ≤ 60 := TL.numL_len (by decide) (by exact_mod_cast hB)
    rw [if_neg (by simp; omega)]
    show (rdT (tl t.1 ++ l)).map _ = _
    rw [h, TL.numL_val]; rfl
theorem rdTree_show0 {n : Nat} {k : Str} {rest : List Nat} (hn : NameOk k) (hs : Stop rest) : rdTree n (tl k ++ rest) = some ((k, .nil), rest) := by
  obtain ⟨e1, e2⟩ := takeWhile_app (p := isLtr) (as := tl k) (bs := rest) (name_ltrs hn) (fun b hb => by
    rcases hs b hb with h | h <;> subst h <;> rfl)
  have hh : rest.head? ≠ some 123 := fun h => by rcases hs 123 h with e | e <;> cases e
  cases n with
  | zero => unfold rdTree; rw [e1, e2, if_pos hh, TL.mk_tl]
  | succ n => unfold rdTree; rw [e1, e2, if_pos hh, TL.mk_tl]
theorem rdTree_show1 {n : Nat} {k : Str} {g : Gr} {rest : List Nat} (hn : NameOk k) (hg : g ≠ .nil) (h : rdPairs (rdPair n) (g.body ++ ([125] ++ rest)) = some (g.ps, [125] ++ rest)) : rdTree (n + 1) (tl k ++ (g.held ++ rest)) = some ((k, g), rest) := by
  have e0 : g.held ++ rest = 123 :: (g.body ++ ([125] ++ rest)) := by
    unfold Gr.held; rw [if_neg hg]; simp
  rw [e0]
  obtain ⟨e1, e2⟩ := takeWhile_app (p := isLtr) (as := tl k) (bs := 123 :: (g.body ++ ([125] ++ rest))) (name_ltrs hn) (fun b hb => by
    have : (123 : Nat) = b := by simpa using hb
    subst this; rfl)
  unfold rdTree
  rw [e1, e2, if_neg (by simp)]
  show (rdPairs (rdPair n) (g.body ++ ([125] ++ rest))).bind _ = _
  rw [h]
  show (if ([125] ++ rest).head? = some 125 then some (((⟨(tl k).toArray⟩ : Str), Gr.ofPs g.ps), rest) else none) = _
  rw [TL.mk_tl, Gr.ofPs_ps]
  rfl
theorem Stop.nil : Stop [] := fun c h => by cases h
theorem Stop.comma (r : List Nat) : Stop (44 :: r) := fun c h => by have : (44 : Nat) = c := by simpa using h
                                                                    exact .inl this.symm
/-- what may stand behind pairs -/
def End (l : List Nat) : Prop := ∀ c, l.head? = some c → c = 125
theorem End.stop {l : List Nat} (h : End l) : Stop l := fun c hc => .inr (h c hc)
theorem more_stop (r : Gr) {rest : List Nat} (he : End rest) : Stop (r.more ++ rest) := by
  unfold Gr.more
  split
  · exact he.stop
  · exact Stop.comma _
theorem tail_end {rdP : Rd (Tr × Int)} {rest : List Nat} (he : End rest) (f : Nat) : rdTail rdP f rest = some ([], rest) := by
  cases f with
  | zero => rfl
  | succ f =>
    show (if rest.take 2 = [44, 32] then _ else _) = _
    rw [if_neg]
    intro z
    cases rest with
    | nil => simp at z
    | cons c s =>
      have hc := he c rfl
      subst hc
      simp at z
mutual
theorem rdTail_show : ∀ (r : Gr), r.Ok (10 ^ 60) → r.parts ≤ 100000 → ∀ (n f : Nat), r.ps.length ≤ f → r.deep ≤ n + 1 → ∀ rest, End rest → rdTail (rdPair n) f (r.more ++ rest) = some (r.ps, rest)
  | .nil, _, _, n, f, _, _, rest, he => by
    show rdTail (rdPair n) f rest = some ([], rest)
    exact tail_end he f
  | .cons k g m r, ho, hp, n, f, hf, hd, rest, he => by
    have hp2 : r.parts ≤ 100000 := by have : 1 + g.parts + r.parts ≤ 100000 := hp; omega
    cases f with
    | zero => simp [Gr.ps] at hf
    | succ f =>
      have hd2 : r.deep ≤ n + 1 := by have : max (1 + g.deep) r.deep ≤ n + 1 := hd; omega
      have hf' : r.ps.length ≤ f := by have : r.ps.length + 1 ≤ f + 1 := hf; omega
      have e : (Gr.cons k g m r).more ++ rest = 44 :: 32 :: (numT m ++ (tl k ++ (g.held ++ (r.more ++ rest)))) := by
        unfold Gr.more; rw [if_neg (fun z => nomatch z), Gr.body_cons]
        simp [Gr.more]
      rw [e]
      show (if (44 :: 32 :: (numT m ++ (tl k ++ (g.held ++ (r.more ++ rest))))).take 2 = [44, 32] then (rdPair n (numT m ++ (tl k ++ (g.held ++ (r.more ++ rest))))).bind (fun x => (rdTail (rdPair n) f x.2).map fun y => (x.1 :: y.1, y.2)) else _) = _
      rw [if_pos (show (44 :: 32 :: (numT m ++ (tl k ++ (g.held ++ (r.more ++ rest))))).take 2 = [44, 32] from rfl), rdPair_show k g m r ho hp n hd (r.more ++ rest) (more_stop r he)]
      show (rdTail (rdPair n) f (r.more ++ rest)).map _ = _
      rw [rdTail_show r ho.2.2.2.2.1 hp2 n f hf' hd2 rest he]; rfl
theorem rdPair_show : ∀ (k : Str) (g : Gr) (m : Int) (r : Gr), (Gr.cons k g m r).Ok (10 ^ 60) → (Gr.cons k g m r).parts ≤ 100000 → ∀ (n : Nat), (Gr.cons k g m r).deep ≤ n + 1 → ∀ rest, Stop rest → rdPair n (numT m ++ (tl k ++ (g.held ++ rest))) = some (((k, g), m), rest)
  | k, g, m, r, ⟨h0, h1, h2, h3, h4, _⟩, hp, n, hd, rest, hs => by
    have hp1 : g.parts ≤ 100000 := by have : 1 + g.parts + r.parts ≤ 100000 := hp; omega
    have hd1 : g.deep ≤ n := by have : max (1 + g.deep) r.deep ≤ n + 1 := hd; omega
    refine rdPairOf_show (t := (k, g)) h0 h2 h3 ?_
    match g, h1, hd1, hp1 with
    | .nil, _, _, _ =>
      show rdTree n (tl k ++ ([] ++ rest)) = _
      exact rdTree_show0 h0 hs
    | .cons k2 g2 m2 r2, h1, hd1, hp1 =>
      match n, hd1 with
      | 0, hd1 => have : max (1 + g2.deep) r2.deep ≤ 0 := hd1; omega
      | n + 1, hd1 =>
        refine rdTree_show1 h0 (fun z => nomatch z) ?_
        have e : (Gr.cons k2 g2 m2 r2).body ++ ([125] ++ rest) = numT m2 ++ (tl k2 ++ (g2.held ++ (r2.more ++ ([125] ++ rest)))) := by
          rw [Gr.body_cons]; simp
        have he : End ([125] ++ rest) := fun c hc => by
          have : (125 : Nat) = c := by simpa using hc
          exact this.symm
        rw [e]
        unfold rdPairs
        rw [rdPair_show k2 g2 m2 r2 h1 hp1 n hd1 _ (more_stop r2 he)]
        show (rdTail (rdPair n) 100000 (r2.more ++ ([125] ++ rest))).map _ = _
        have hd2 : r2.deep ≤ n + 1 := by have : max (1 + g2.deep) r2.deep ≤ n + 1 := hd1; omega
        have hp2 : r2.parts ≤ 100000 := by have : 1 + g2.parts + r2.parts ≤ 100000 := hp1; omega
        rw [rdTail_show r2 h1.2.2.2.2.1 hp2 n 100000 (Nat.le_trans r2.len_parts hp2) hd2 _ he]; rfl
end
theorem rdPairs_show {g : Gr} (ho : g.Ok (10 ^ 60)) (hp : g.parts ≤ 100000) (hne : g ≠ .nil) {n : Nat} (hd : g.deep ≤ n + 1) {rest : List Nat} (he : End rest) : rdPairs (rdPair n) (g.body ++ rest) = some (g.ps, rest) := by
  cases g with
  | nil => exact absurd rfl hne
  | cons k g m r =>
    have e : (Gr.cons k g m r).body ++ rest = numT m ++ (tl k ++ (g.held ++ (r.more ++ rest))) := by rw [Gr.body_cons]; simp
    rw [e]
    unfold rdPairs
    rw [rdPair_show k g m r ho hp n hd _ (more_stop r he)]
    show (rdTail (rdPair n) 100000 (r.more ++ rest)).map _ = _
    have hd2 : r.deep ≤ n + 1 := by have : max (1 + g.deep) r.deep ≤ n + 1 := hd; omega
    have hp2 : r.parts ≤ 100000 := by have : 1 + g.parts + r.parts ≤ 100000 := hp; omega
    rw [rdTail_show r ho.2.2.2.2.1 hp2 n 100000 (Nat.le_trans r.len_parts hp2) hd2 _ he]; rfl
end FT
namespace FT
open PySem PySem.W PySem.Spec PyProof.Rows L2
open TL (tl)
theorem cut_tl (z : Str) (a b : Nat) : tl (cutS z (some (a : Int)) (some (b : Int))) = ((tl z).drop a).take (b - a) := by
  have hl : (tl z).length = z.length := (TL.len_tl z).symm
  show (cutS z (some (a : Int)) (some (b : Int))).cps.toList = _
  unfold cutS
  rw [HT.sIx_nat, HT.sIx_nat]
  show ((tl z).drop (min a z.length)).take (min b z.length - min a z.length) = _
  rcases Nat.le_total a z.length with ha | ha
  · rw [Nat.min_eq_left ha]
    rcases Nat.le_total b z.length with hb | hb
    · rw [Nat.min_eq_left hb]
    · rw [Nat.min_eq_right hb, List.take_of_length_le (by rw [List.length_drop]; omega), List.take_of_length_le (by rw [List.length_drop]; omega)]
  · rw [Nat.min_eq_right ha, List.drop_eq_nil_of_le (by omega), List.drop_eq_nil_of_le (by omega)]; simp
def spSignAt (K : PySem.W.Frag) : Sp := fun vs H Q _ => ∃ (z : Str) (k : Nat), vs = [.str z, .int (k : Int)] ∧ z.length ≤ 100000 ∧ ∀ y : Str, tl y = ((tl z).drop k).take 1 → Q (.str y) H
theorem take1_eq {l : List Nat} {y : Str} {c : Nat} (h : tl y = l.take 1) : (y = ⟨#[c]⟩) ↔ l.head? = some c := by
  constructor
  · intro e
    rw [e] at h
    have h' : [c] = l.take 1 := h
    cases l with
    | nil => simp at h'
    | cons a r => simp at h'; simp [h']
  · intro e
    refine TL.ext_tl ?_
    rw [h]
    cases l with
    | nil => simp at e
    | cons a r => simp at e; simp [e]
/-- the run of signs: what run_of tells, as a row -/
theorem run_tw {z y : Str} {k e : Nat} {p : Nat → Bool} (hp : ∀ c, p c = true ↔ c ∈ tl y) (ke : k ≤ e) (el : e ≤ z.length) (hin : ∀ j c, k ≤ j → j < e → z.cps.toList[j]? = some c → c ∈ y.cps.toList) (hout : ∀ c, z.cps.toList[e]? = some c → c ∉ y.cps.toList) :
    tl (cutS z (some (k : Int)) (some (e : Int))) = ((tl z).drop k).takeWhile p ∧ (tl z).drop e = ((tl z).drop k).dropWhile p ∧ (((tl z).drop k).takeWhile p).length = e - k := by
  have hl : (tl z).length = z.length := (TL.len_tl z).symm
  rw [cut_tl]
  have e1 : (tl z).drop k = ((tl z).drop k).take (e - k) ++ (tl z).drop e := by
    have h := (List.take_append_drop (e - k) ((tl z).drop k)).symm
    rw [List.drop_drop, show k + (e - k) = e by omega] at h
    exact h
  have h2 := takeWhile_app (p := p) (as := ((tl z).drop k).take (e - k)) (bs := (tl z).drop e) (fun a ha => ?_) (fun b hb => ?_)
  · rw [← e1] at h2
    refine ⟨h2.1.symm, h2.2.symm, ?_⟩
    rw [h2.1, List.length_take, List.length_drop]; omega
  · obtain ⟨j, hj⟩ := List.mem_iff_getElem?.mp ha
    rw [List.getElem?_take] at hj
    split at hj
    · rename_i hlt
      rw [List.getElem?_drop] at hj
      exact (hp a).mpr (hin (k + j) a (by omega) (by omega) hj)
    · cases hj
  · have hb' : (tl z)[e]? = some b := by rw [List.head?_drop] at hb; exact hb
    have := hout b hb'
    cases hpb : p b with
    | false => rfl
    | true => exact absurd ((hp b).mp hpb) this
theorem fig_mem (c : Nat) : isFig c = true ↔ c ∈ tl (Str.ofString "0123456789") := by
  have e : tl (Str.ofString "0123456789") = (List.range 10).map (· + 48) := by decide +kernel
  rw [e, List.mem_map]
  unfold isFig
  constructor
  · intro h
    have := of_decide_eq_true h
    exact ⟨c - 48, List.mem_range.mpr (by omega), by omega⟩
  · rintro ⟨x, hx, rfl⟩
    have := List.mem_range.mp hx
    exact decide_eq_true (by omega)
theorem ltr_mem (c : Nat) : isLtr c = true ↔ c ∈ tl abc := by
  rw [show tl abc = abc.cps.toList from rfl, mem_abc]
  unfold isLtr
  simp
def spShowG (K : PySem.W.Frag) (n : Nat) : Sp := fun vs H Q _ => ∃ (v : V) (g : Gr), vs = [v] ∧ GA K H v g ∧ g.deep < n ∧ g.Ok (10 ^ 500) ∧ g.parts ≤ 1000 ∧ ∀ (z : Str) (H' : Hp), SB [] H H' → tl z = g.text → Q (.str z) H'
def spShowT (K : PySem.W.Frag) (n : Nat) : Sp := fun vs H Q _ => ∃ (v : V) (t : Tr), vs = [v] ∧ Dp K H v (Gr.tEnc t) ∧ NameOk t.1 ∧ t.2.deep < n ∧ t.2.Ok (10 ^ 500) ∧ t.2.parts ≤ 1000 ∧ ∀ (z : Str) (H' : Hp), SB [] H H' → tl z = tl t.1 ++ t.2.held → Q (.str z) H'
def spShowP (K : PySem.W.Frag) (n : Nat) : Sp := fun vs H Q _ => ∃ (v : V) (t : Tr) (m : Int), vs = [v, .int m] ∧ Dp K H v (Gr.tEnc t) ∧ NameOk t.1 ∧ t.2.deep < n ∧ t.2.Ok (10 ^ 500) ∧ t.2.parts ≤ 1000 ∧ 1 ≤ m ∧ m < 10 ^ 500 ∧ ∀ (z : Str) (H' : Hp), SB [] H H' → tl z = Gr.pText (t, m) → Q (.str z) H'
theorem held_len {g : Gr} (h : g.Ok (10 ^ 500)) (hp : g.parts ≤ 1000) : g.held.length ≤ 513002 := by
  have := Gr.body_len (C := 500) (by decide) h
  unfold Gr.held
  split
  · simp
  · simp; omega
theorem log_small {m : Int} (h0 : 0 ≤ m) (h : m < 10 ^ 500) : m.natAbs.log2 < 1920 := by
  obtain ⟨n, rfl⟩ : ∃ n : Nat, m = (n : Int) := ⟨m.toNat, by omega⟩
  show n.log2 < 1920
  by_cases hn : n = 0
  · subst hn; decide
  · refine (Nat.log2_lt hn).mpr (Nat.lt_trans (show n < 10 ^ 500 by exact_mod_cast h) (by decide +kernel))
theorem num_tl {m : Int} (h0 : 0 ≤ m) : tl (Str.ofString (toString m)) = TL.numL m.toNat := by
  obtain ⟨n, rfl⟩ : ∃ n : Nat, m = (n : Int) := ⟨m.toNat, by omega⟩
  rw [TL.tl_num, Int.toNat_natCast]
theorem str_len {m : Int} (h0 : 0 ≤ m) (h : m < 10 ^ 500) : (Str.ofString (toString m)).length ≤ 500 := by
  rw [TL.len_tl, num_tl h0]
  obtain ⟨n, rfl⟩ : ∃ n : Nat, m = (n : Int) := ⟨m.toNat, by omega⟩
  exact TL.numL_len (by decide) (by rw [Int.toNat_natCast]; exact_mod_cast h)
theorem none_showG {P : Program} {w : World} {K : PySem.W.Frag} {mg : Str → Option Value} {base : Heap} {f : Addr} {fd : FuncData} {ps : List Str} {k : Nat} : FnOk P w K mg base CX0 k f fd ps (spShowG K 0) := none_sp fun vs H Q E ⟨v, g, _, _, h, _⟩ => by omega
theorem pText_len {t : Tr} {m : Int} (hn : NameOk t.1) (ho : t.2.Ok (10 ^ 500)) (hp : t.2.parts ≤ 1000) (h1 : 1 ≤ m) (hm : m < 10 ^ 500) : (Gr.pText (t, m)).length ≤ 13 + 500 + (513 * t.2.parts + 2) := by
  have h2 := numT_len (C := 500) (by decide) (by omega) hm
  have h3 := Gr.body_len (C := 500) (by decide) ho
  have h4 : (tl t.1).length ≤ 8 := hn.2.1
  have h5 : t.2.held.length ≤ 513 * t.2.parts + 2 := by
    unfold Gr.held
    split
    · simp
    · simp; omega
  show (numT m ++ (tl t.1 ++ t.2.held)).length ≤ _
  rw [List.length_append, List.length_append]
  omega
end FT
namespace FT
open PySem PySem.W PySem.Spec PyProof.Rows L2
open TL (tl)
theorem none_spX {P : Program} {w : World} {K : PySem.W.Frag} {mg : Str → Option Value} {base : Heap} {f : Addr} {fd : FuncData} {ps : List Str} {k : Nat} {sp : Sp} (no : ∀ vs H Q E, ¬ sp vs H Q E) : FnOk P w K mg base (L2.CX P w) k f fd ps sp :=
  ⟨fun vs H Q E h => absurd h (no vs H Q E), fun A outer s H args us vs Q E _ _ _ _ h => absurd h (no vs H Q E)⟩
def spReadTree (K : PySem.W.Frag) (C : Addr) (n : Nat) : Sp := fun vs H Q E => ∃ (z : Str) (k left : Nat), vs = [.str z, .int (k : Int), .int (left : Int)] ∧ z.length ≤ 10000 ∧ k ≤ z.length ∧ left < n ∧
  (∀ (t : Tr) (l2 : List Nat), rdTree left ((tl z).drop k) = some (t, l2) → ∀ (T : Addr) (v : V) (k' : Nat) (H' : Hp), SB [] H H' → SqT K H' T [v, .int (k' : Int)] → Dp K H' v (Gr.tEnc t) → k ≤ k' → k' ≤ z.length → (tl z).drop k' = l2 → Q (.ref T) H') ∧
  (rdTree left ((tl z).drop k) = none → ∀ H', SB [] H H' → E (.ref C) none H')
def spReadPair (K : PySem.W.Frag) (C : Addr) (n : Nat) : Sp := fun vs H Q E => ∃ (z : Str) (k left : Nat), vs = [.str z, .int (k : Int), .int (left : Int)] ∧ z.length ≤ 10000 ∧ k ≤ z.length ∧ left < n ∧
  (∀ (p : Tr × Int) (l2 : List Nat), rdPair left ((tl z).drop k) = some (p, l2) → ∀ (T : Addr) (v : V) (k' : Nat) (H' : Hp), SB [] H H' → SqT K H' T [v, .int (k' : Int)] → Dp K H' v (Gr.pEnc p) → k ≤ k' → k' ≤ z.length → (tl z).drop k' = l2 → Q (.ref T) H') ∧
  (rdPair left ((tl z).drop k) = none → ∀ H', SB [] H H' → E (.ref C) none H')
def spReadPairs (K : PySem.W.Frag) (C : Addr) (n : Nat) : Sp := fun vs H Q E => ∃ (z : Str) (k left : Nat), vs = [.str z, .int (k : Int), .int (left : Int)] ∧ z.length ≤ 10000 ∧ k ≤ z.length ∧ left < n ∧
  (∀ (ps : List (Tr × Int)) (l2 : List Nat), rdPairs (rdPair left) ((tl z).drop k) = some (ps, l2) → ∀ (T : Addr) (v : V) (k' : Nat) (H' : Hp), SB [] H H' → SqT K H' T [v, .int (k' : Int)] → GA K H' v (Gr.ofPs ps) → k ≤ k' → k' ≤ z.length → (tl z).drop k' = l2 → Q (.ref T) H') ∧
  (rdPairs (rdPair left) ((tl z).drop k) = none → ∀ H', SB [] H H' → E (.ref C) none H')
theorem tail_drop {α : Type} (l : List α) (k : Nat) : (l.drop k).tail = l.drop (k + 1) := by rw [List.tail_drop]
theorem head_lt {l : List Nat} {k c : Nat} (h : (l.drop k).head? = some c) : k < l.length := by
  rw [List.head?_drop] at h
  exact (List.getElem?_eq_some_iff.mp h).1
theorem dw_len (p : Nat → Bool) (l : List Nat) : (l.dropWhile p).length + (l.takeWhile p).length = l.length := by
  have := congrArg List.length (List.takeWhile_append_dropWhile (p := p) (l := l))
  rw [List.length_append] at this; omega
/-- rd reads at least as many signs as there are parts -/
def Eats {α : Type} (rd : Rd α) (w : α → Nat) : Prop := ∀ l x l2, rd l = some (x, l2) → w x + l2.length ≤ l.length
theorem eats_pairOf {rdT : Rd Tr} (h : Eats rdT fun t => t.2.parts) : Eats (rdPairOf rdT) fun p => p.1.2.parts := by
  intro l x l2 e
  unfold rdPairOf at e
  split at e
  · cases hx : rdT l with
    | none => rw [hx] at e; cases e
    | some y =>
      rw [hx] at e; cases e
      exact h l y.1 y.2 hx
  · split at e
    · cases e
    · cases hx : rdT (l.dropWhile isFig).tail with
      | none => rw [hx] at e; cases e
      | some y =>
        rw [hx] at e; cases e
        have h1 : y.1.2.parts + y.2.length ≤ _ := h _ y.1 y.2 hx
        have h2 := dw_len isFig l
        rw [List.length_tail] at h1
        show y.1.2.parts + _ ≤ _
        omega
theorem eats_tail {rdP : Rd (Tr × Int)} (h : Eats rdP fun p => p.1.2.parts) : ∀ f, Eats (rdTail rdP f) fun ps => Gr.tot ps
  | 0, l, x, l2, e => by cases e; exact Nat.le_of_eq (Nat.zero_add _)
  | f + 1, l, x, l2, e => by
    have e' : (if l.take 2 = [44, 32] then (rdP (l.drop 2)).bind fun x => (rdTail rdP f x.2).map fun y => (x.1 :: y.1, y.2) else some ([], l)) = some (x, l2) := e
    split at e'
    · cases hx : rdP (l.drop 2) with
      | none => rw [hx] at e'; cases e'
      | some y =>
        rw [hx] at e'
        have e2 : (rdTail rdP f y.2).map (fun z => (y.1 :: z.1, z.2)) = some (x, l2) := e'
        cases hy : rdTail rdP f y.2 with
        | none => rw [hy] at e2; cases e2
        | some z =>
          rw [hy] at e2; cases e2
          have h1 := h _ y.1 y.2 hx
          have h2 := eats_tail h f _ z.1 z.2 hy
          rw [List.length_drop] at h1
          rename_i ht
          have h3 : 2 ≤ l.length := by
            have := congrArg List.length ht
            rw [List.length_take] at this
            have e3 : ([44, 32] : List Nat).length = 2 := rfl
            omega
          show 1 + y.1.1.2.parts + Gr.tot z.1 + _ ≤ _
          have h1' : y.1.1.2.parts + y.2.length ≤ l.length - 2 := h1
          have h2' : Gr.tot z.1 + z.2.length ≤ y.2.length := h2
          omega
    · cases e'; exact Nat.le_of_eq (Nat.zero_add _)
theorem eats_pairs {rdP : Rd (Tr × Int)} (h : Eats rdP fun p => p.1.2.parts) : ∀ l x l2, rdPairs rdP l = some (x, l2) → Gr.tot x + l2.length ≤ l.length + 1 := by
  intro l x l2 e
  unfold rdPairs at e
  cases hx : rdP l with
  | none => rw [hx] at e; cases e
  | some y =>
    rw [hx] at e
    have e2 : (rdTail rdP 100000 y.2).map (fun z => (y.1 :: z.1, z.2)) = some (x, l2) := e
    cases hy : rdTail rdP 100000 y.2 with
    | none => rw [hy] at e2; cases e2
    | some z =>
      rw [hy] at e2; cases e2
      have h1 : y.1.1.2.parts + y.2.length ≤ l.length := h _ y.1 y.2 hx
      have h2 : Gr.tot z.1 + z.2.length ≤ y.2.length := eats_tail h _ _ z.1 z.2 hy
      show 1 + y.1.1.2.parts + Gr.tot z.1 + _ ≤ _
      omega
theorem eats_tree : ∀ n, Eats (rdTree n) fun t => t.2.parts
  | 0, l, x, l2, e => by
    unfold rdTree at e
    split at e
    · cases e
      have := dw_len isLtr l
      show 0 + _ ≤ _; omega
    · cases e
  | n + 1, l, x, l2, e => by
    unfold rdTree at e
    have hd := dw_len isLtr l
    split at e
    · cases e
      show 0 + _ ≤ _; omega
    · rename_i hh
      cases hx : rdPairs (rdPairOf (rdTree n)) (l.dropWhile isLtr).tail with
      | none => rw [hx] at e; cases e
      | some y =>
        rw [hx] at e
        have e2 : (if y.2.head? = some 125 then some (((⟨(l.takeWhile isLtr).toArray⟩ : Str), Gr.ofPs y.1), y.2.tail) else none) = some (x, l2) := e
        split at e2
        · rename_i hb
          cases e2
          have h1 := eats_pairs (eats_pairOf (eats_tree n)) _ y.1 y.2 hx
          rw [List.length_tail] at h1
          have h3 : 1 ≤ y.2.length := by cases hy : y.2 with
                                         | nil => rw [hy] at hb; cases hb
                                         | cons _ _ => simp
          have h4 : 1 ≤ (l.dropWhile isLtr).length := by
            cases hy : l.dropWhile isLtr with
            | nil => rw [hy] at hh; simp at hh
            | cons _ _ => simp
          show (Gr.ofPs y.1).parts + y.2.tail.length ≤ _
          rw [Gr.parts_ofPs, List.length_tail]
          omega
        · cases e2
/-- names are runs of small letters, numbers below ten to sixty -/
def Raw (L : Nat) : Gr → Prop
  | .nil => True
  | .cons k g m r => ((tl k).length ≤ L ∧ ∀ c ∈ tl k, 97 ≤ c ∧ c ≤ 122) ∧ Raw L g ∧ 0 ≤ m ∧ m < 10 ^ 60 ∧ Raw L r
theorem raw_ofPs {L : Nat} : ∀ {ps : List (Tr × Int)}, (∀ p ∈ ps, ((tl p.1.1).length ≤ L ∧ ∀ c ∈ tl p.1.1, 97 ≤ c ∧ c ≤ 122) ∧ Raw L p.1.2 ∧ 0 ≤ p.2 ∧ p.2 < 10 ^ 60) → Raw L (Gr.ofPs ps)
  | [], _ => trivial
  | p :: r, h => by
    have h1 := h p (List.mem_cons_self ..)
    exact ⟨h1.1, h1.2.1, h1.2.2.1, h1.2.2.2, raw_ofPs fun q hq => h q (List.mem_cons_of_mem _ hq)⟩
theorem tw_all (p : Nat → Bool) (l : List Nat) : ∀ c ∈ l.takeWhile p, p c = true := by
  induction l with
  | nil => intro c h; cases h
  | cons a r ih =>
    intro c h
    rw [List.takeWhile_cons] at h
    split at h
    · rcases List.mem_cons.mp h with h | h
      · subst h; assumption
      · exact ih c h
    · cases h
theorem digits_lt : ∀ {cs : List Nat}, (∀ c ∈ cs, isFig c = true) → ∀ k, cs.length ≤ k → NumText.digitsVal cs < 10 ^ k := by
  have key : ∀ (cs : List Nat) (a k : Nat), (∀ c ∈ cs, isFig c = true) → a < 10 ^ k → cs.foldl (fun acc c => acc * 10 + (c - 48)) a < 10 ^ (k + cs.length) := by
    intro cs
    induction cs with
    | nil => intro a k _ h; exact h
    | cons c r ih =>
      intro a k h ha
      have hc := of_decide_eq_true (h c (List.mem_cons_self ..))
      have := ih (a * 10 + (c - 48)) (k + 1) (fun x hx => h x (List.mem_cons_of_mem _ hx)) (by rw [Nat.pow_succ]; omega)
      rw [List.foldl_cons, List.length_cons, show k + (r.length + 1) = k + 1 + r.length by omega]
      exact this
  intro cs h k hk
  have h1 := key cs 0 0 h (by decide)
  rw [Nat.zero_add] at h1
  exact Nat.lt_of_lt_of_le h1 (Nat.pow_le_pow_right (by decide) hk)
def RawP (L n : Nat) (p : Tr × Int) : Prop := ((tl p.1.1).length ≤ L ∧ ∀ c ∈ tl p.1.1, 97 ≤ c ∧ c ≤ 122) ∧ Raw L p.1.2 ∧ 0 ≤ p.2 ∧ p.2 < 10 ^ 60 ∧ p.1.2.deep ≤ n
def RawT (L n : Nat) (t : Tr) : Prop := ((tl t.1).length ≤ L ∧ ∀ c ∈ tl t.1, 97 ≤ c ∧ c ≤ 122) ∧ Raw L t.2 ∧ t.2.deep ≤ n
theorem raw_pairOf {L n : Nat} {rdT : Rd Tr} (h : ∀ l x l2, l.length ≤ L → rdT l = some (x, l2) → RawT L n x ∧ l2.length ≤ l.length) : ∀ l x l2, l.length ≤ L → rdPairOf rdT l = some (x, l2) → RawP L n x ∧ l2.length ≤ l.length := by
  intro l x l2 hl e
  unfold rdPairOf at e
  have hd := dw_len isFig l
  split at e
  · cases hx : rdT l with
    | none => rw [hx] at e; cases e
    | some y =>
      rw [hx] at e; cases e
      obtain ⟨⟨a, b, c⟩, d⟩ := h l y.1 y.2 hl hx
      exact ⟨⟨a, b, by show (0 : Int) ≤ 1; decide, by show (1 : Int) < 10 ^ 60; decide, c⟩, d⟩
  · split at e
    · cases e
    · rename_i hn
      cases hx : rdT (l.dropWhile isFig).tail with
      | none => rw [hx] at e; cases e
      | some y =>
        rw [hx] at e; cases e
        obtain ⟨⟨a, b, c⟩, d⟩ := h _ y.1 y.2 (by rw [List.length_tail]; omega) hx
        rw [List.length_tail] at d
        refine ⟨⟨a, b, by show (0 : Int) ≤ (NumText.digitsVal _ : Int); omega, ?_, c⟩, by show y.2.length ≤ _; omega⟩
        have h60 : (l.takeWhile isFig).length ≤ 60 := by
          rw [not_or] at hn; omega
        have := digits_lt (tw_all isFig l) 60 h60
        show ((NumText.digitsVal (l.takeWhile isFig) : Nat) : Int) < 10 ^ 60
        exact_mod_cast this
theorem raw_tail {L n : Nat} {rdP : Rd (Tr × Int)} (h : ∀ l x l2, l.length ≤ L → rdP l = some (x, l2) → RawP L n x ∧ l2.length ≤ l.length) : ∀ f l x l2, l.length ≤ L → rdTail rdP f l = some (x, l2) → (∀ p ∈ x, RawP L n p) ∧ l2.length ≤ l.length
  | 0, l, x, l2, _, e => by cases e; exact ⟨by simp, Nat.le_refl _⟩
  | f + 1, l, x, l2, hl, e => by
    have e' : (if l.take 2 = [44, 32] then (rdP (l.drop 2)).bind fun x => (rdTail rdP f x.2).map fun y => (x.1 :: y.1, y.2) else some ([], l)) = some (x, l2) := e
    split at e'
    · cases hx : rdP (l.drop 2) with
      | none => rw [hx] at e'; cases e'
      | some y =>
        rw [hx] at e'
        have e2 : (rdTail rdP f y.2).map (fun z => (y.1 :: z.1, z.2)) = some (x, l2) := e'
        cases hy : rdTail rdP f y.2 with
        | none => rw [hy] at e2; cases e2
        | some z =>
          rw [hy] at e2; cases e2
          obtain ⟨a, b⟩ := h _ y.1 y.2 (by rw [List.length_drop]; omega) hx
          rw [List.length_drop] at b
          obtain ⟨c, d⟩ := raw_tail h f _ z.1 z.2 (by omega) hy
          refine ⟨fun p hp => ?_, by show z.2.length ≤ _; omega⟩
          rcases List.mem_cons.mp hp with hp | hp
          · subst hp; exact a
          · exact c p hp
    · cases e'; exact ⟨by simp, Nat.le_refl _⟩
theorem raw_pairs {L n : Nat} {rdP : Rd (Tr × Int)} (h : ∀ l x l2, l.length ≤ L → rdP l = some (x, l2) → RawP L n x ∧ l2.length ≤ l.length) : ∀ l x l2, l.length ≤ L → rdPairs rdP l = some (x, l2) → (∀ p ∈ x, RawP L n p) ∧ l2.length ≤ l.length := by
  intro l x l2 hl e
  unfold rdPairs at e
  cases hx : rdP l with
  | none => rw [hx] at e; cases e
  | some y =>
    rw [hx] at e
    have e2 : (rdTail rdP 100000 y.2).map (fun z => (y.1 :: z.1, z.2)) = some (x, l2) := e
    cases hy : rdTail rdP 100000 y.2 with
    | none => rw [hy] at e2; cases e2
    | some z =>
      rw [hy] at e2; cases e2
      obtain ⟨a, b⟩ := h _ y.1 y.2 hl hx
      obtain ⟨c, d⟩ := raw_tail h _ _ z.1 z.2 (by omega) hy
      refine ⟨fun p hp => ?_, by show z.2.length ≤ _; omega⟩
      rcases List.mem_cons.mp hp with hp | hp
      · subst hp; exact a
      · exact c p hp
theorem deep_ofPs {n : Nat} {ps : List (Tr × Int)} (h : ∀ p ∈ ps, p.1.2.deep ≤ n) : (Gr.ofPs ps).deep ≤ n + 1 := by
  refine Gr.deep_le fun p hp => ?_
  rw [Gr.ps_ofPs] at hp
  have := h p hp; omega
theorem raw_tree {L : Nat} : ∀ n l x l2, l.length ≤ L → rdTree n l = some (x, l2) → RawT L n x ∧ l2.length ≤ l.length
  | 0, l, x, l2, hl, e => by
    unfold rdTree at e
    have hd := dw_len isLtr l
    split at e
    · cases e
      exact ⟨⟨⟨by show (l.takeWhile isLtr).length ≤ L; omega, fun c hc => of_decide_eq_true (tw_all isLtr l c hc)⟩, trivial, Nat.le_refl _⟩, by omega⟩
    · cases e
  | n + 1, l, x, l2, hl, e => by
    unfold rdTree at e
    have hd := dw_len isLtr l
    split at e
    · cases e
      exact ⟨⟨⟨by show (l.takeWhile isLtr).length ≤ L; omega, fun c hc => of_decide_eq_true (tw_all isLtr l c hc)⟩, trivial, Nat.zero_le _⟩, by omega⟩
    · cases hx : rdPairs (rdPairOf (rdTree n)) (l.dropWhile isLtr).tail with
      | none => rw [hx] at e; cases e
      | some y =>
        rw [hx] at e
        have e2 : (if y.2.head? = some 125 then some (((⟨(l.takeWhile isLtr).toArray⟩ : Str), Gr.ofPs y.1), y.2.tail) else none) = some (x, l2) := e
        split at e2
        · cases e2
          obtain ⟨a, b⟩ := raw_pairs (L := L) (raw_pairOf (raw_tree (L := L) n)) _ y.1 y.2 (by rw [List.length_tail]; omega) hx
          rw [List.length_tail] at b
          refine ⟨⟨⟨by show (l.takeWhile isLtr).length ≤ L; omega, fun c hc => of_decide_eq_true (tw_all isLtr l c hc)⟩, raw_ofPs fun p hp => ⟨(a p hp).1, (a p hp).2.1, (a p hp).2.2.1, (a p hp).2.2.2.1⟩, deep_ofPs fun p hp => (a p hp).2.2.2.2⟩, by rw [List.length_tail]; omega⟩
        · cases e2
/-- a raw grove that is let by is right -/
theorem raw_ok {L : Nat} : ∀ {g : Gr}, Raw L g → groveD g.enc = true → g.Ok (10 ^ 60) := by
  have key : ∀ (g : Gr), Raw L g → grPs g.encs = true → (risingD (g.encs.map exp0) = true → g.Ok (10 ^ 60)) := by
    intro g
    induction g with
    | nil => intro _ _ _; trivial
    | cons k g m r ihg ihr =>
      intro ⟨hk, hg, hm0, hmB, hr⟩ hps hri
      have e : (Gr.cons k g m r).encs = Gr.pEnc ((k, g), m) :: r.encs := rfl
      rw [e, grPs, Bool.and_eq_true] at hps
      rw [e, List.map_cons] at hri
      have hp : grP (.tuple [.tuple [.str k, .tuple g.encs], .int m]) = true := hps.1
      rw [grP, grP2, Bool.and_eq_true, treeD, trD2, Bool.and_eq_true, trD3, Bool.and_eq_true, groveD, Bool.and_eq_true, ladP3, Bool.and_eq_true] at hp
      obtain ⟨⟨hn, ⟨hgp, hgr⟩, _⟩, hmm, _⟩ := hp
      have hname : NameOk k := by
        obtain ⟨z, ez, hz⟩ := nameD_iff hn
        cases ez; exact hz
      have hm1 : 1 ≤ m := of_decide_eq_true hmm
      have hri2 : risingD (r.encs.map exp0) = true := by
        cases hre : r.encs with
        | nil => rfl
        | cons d ds =>
          rw [hre, List.map_cons] at hri
          have : (dataLt (exp0 (Gr.pEnc ((k, g), m))) (exp0 d) :: ltsD (exp0 d :: ds.map exp0)).all id = true := hri
          rw [List.all_cons, Bool.and_eq_true] at this
          rw [List.map_cons]; exact this.2
      have hro := ihr hr hps.2 hri2
      refine ⟨hname, ihg hg hgp hgr, hm1, hmB, hro, fun p hpm => ?_⟩
      -- the first is less than all behind
      cases r with
      | nil => cases hpm
      | cons k2 g2 m2 r2 =>
        have h12 : dataLt (Gr.tEnc (k, g)) (Gr.tEnc (k2, g2)) = true := by
          have : (dataLt (Gr.tEnc (k, g)) (Gr.tEnc (k2, g2)) :: ltsD (Gr.tEnc (k2, g2) :: r2.encs.map exp0)).all id = true := hri
          rw [List.all_cons, Bool.and_eq_true] at this
          exact this.1
        rcases List.mem_cons.mp hpm with h | h
        · subst h; exact h12
        · exact dl_trans h12 (hro.2.2.2.2.2 p h)
  intro g hr hg
  rw [Gr.enc, groveD, Bool.and_eq_true] at hg
  exact key g hr hg.1 hg.2
theorem raw_thing {K : PySem.W.Frag} {H : Hp} {L : Nat} (hL : L ≤ 1000) : ∀ (g : Gr) {vs : List V}, Raw L g → DpAll K H vs g.encs → TgAll K H vs g.encs
  | .nil, vs, _, h => by cases h; exact .nil
  | .cons k g m r, vs, ho, h => by
    cases h with
    | cons h1 h2 =>
      refine .cons ?_ (raw_thing hL r ho.2.2.2.2 h2)
      cases h1 with
      | tup hs ha =>
        cases ha with
        | cons h3 h4 =>
          cases h4 with
          | cons h5 h6 =>
            cases h6; cases h5
            refine .tup hs (.cons ?_ (.cons (.int _) .nil))
            cases h3 with
            | tup hs2 hb =>
              cases hb with
              | cons h7 h8 =>
                cases h8 with
                | cons h9 h10 =>
                  cases h10; cases h7
                  cases h9 with
                  | tup hs3 hc => exact .tup hs2 (.cons (.str _ (by have := ho.1.1; rw [← TL.len_tl] at this; omega)) (.cons (.tup hs3 (raw_thing hL g ho.2.1 hc)) .nil))
theorem ok_raw : ∀ {g : Gr}, g.Ok (10 ^ 60) → Raw 8 g
  | .nil, _ => trivial
  | .cons k g m r, ⟨h0, h1, h2, h3, h4, _⟩ => ⟨⟨h0.2.1, h0.2.2⟩, ok_raw h1, by omega, h3, ok_raw h4⟩
/-- a text that shows a grove within the bounds -/
structure Shows (z : Str) (g : Gr) : Prop where
  tx : tl z = g.text
  ok : g.Ok (10 ^ 60)
  parts : g.parts ≤ 60
  deep : g.deep ≤ 12
def spReadG (K : PySem.W.Frag) (C : Addr) : Sp := fun vs H Q E => ∃ z : Str, vs = [.str z] ∧ (z.length ≤ 900 ∨ ∃ g, Shows z g) ∧
  (∀ g, Shows z g → ∀ (v : V) (H' : Hp), SB [] H H' → GA K H' v g → Q v H') ∧ ((∀ g, ¬ Shows z g) → ∀ H', SB [] H H' → E (.ref C) none H')
theorem text_dash {g : Gr} (h : g.Ok (10 ^ 60)) (e : g.text = [45]) : g = .nil := by
  cases g with
  | nil => rfl
  | cons k g m r =>
    rw [Gr.text_cons, Gr.body_cons] at e
    exfalso
    obtain ⟨c, s, ec, hc1, hc2⟩ := name_head h.1 (g.held ++ r.more)
    rw [ec] at e
    unfold numT at e
    split at e
    · rw [List.nil_append] at e
      injection e with e1 e2
      omega
    · have hd := TL.numL_digits m.toNat
      have hne := TL.numL_ne m.toNat
      cases hx : TL.numL m.toNat with
      | nil => exact hne hx
      | cons a b =>
        rw [hx] at e hd
        injection e with e1 e2
        have := hd a (List.mem_cons_self ..)
        omega
theorem Shows.len {z : Str} {g : Gr} (h : Shows z g) : z.length ≤ 4381 := by
  have := Gr.text_len (C := 60) (by decide) h.ok
  rw [← h.tx, ← TL.len_tl] at this
  have := h.parts
  omega
theorem Shows.read {z : Str} {g : Gr} (h : Shows z g) (hne : g ≠ .nil) : rdPairs (rdPair 12) (tl z) = some (g.ps, []) := by
  have := rdPairs_show h.ok (by have := h.parts; omega) hne (n := 12) (by have := h.deep; omega) (rest := []) (fun c hc => by cases hc)
  rw [List.append_nil] at this
  rw [h.tx]
  unfold Gr.text
  rw [if_neg hne]; exact this
end FT
namespace FT
open PySem PySem.W PySem.Spec PyProof.Rows L2
abbrev SetOfS (P : Program) (w : World) (h : Heap) (a : Addr) (L : List Str) : Prop := h.SetOf (PySem.strKind P w) a (fun k => L.any (· == k)) L.length
theorem SetOfS.keep {P : Program} {w : World} {h h' : Heap} {a : Addr} {L : List Str} (S : SetOfS P w h a L) (k : ∀ o, h.get? a = some o → h'.get? a = some o) : SetOfS P w h' a L := by
  obtain ⟨o, es, ep, t, ho, r⟩ := S; exact ⟨o, es, ep, t, k o ho, r⟩
section
variable {P : Program} {w : World} {A : Around}
abbrev eo (led : Bool) : Obj := { cls := .type "set", dict := none, data := .set #[] 0 (.fresh 0 0 led) }
end
end FT
namespace FT
open PySem PySem.W PySem.Spec PyProof.Rows L2
abbrev Ru := Gr × Gr
def Ru.enc (r : Ru) : PyData := .tuple [r.1.enc, r.2.enc]
def Ru.within (r : Ru) : List (Tr × Int) := r.1.within ++ r.2.within
structure Kd where
  n : Str
  w : Bool
  rs : List Ru
abbrev Bk := List Kd
abbrev Bk.names (b : Bk) : List Str := b.map (·.n)
def Kd.rowE (k : Kd) : PyData := .tuple (k.rs.map Ru.enc)
def Bk.get (b : Bk) (n : Str) : Option Kd := b.find? fun k => decide (k.n = n)
def RuOk (r : Ru) : Prop := r.1.Ok 1000000001 ∧ r.2.Ok 1000000001 ∧ r.1.parts + r.2.parts ≤ 4
def KdOk (ns : List Str) (k : Kd) : Prop := NameOk k.n ∧ k.rs.length ≤ 4 ∧ ∀ r ∈ k.rs, RuOk r ∧ ∀ p ∈ Ru.within r, p.1.1 ∈ ns
structure Bk.Ok (b : Bk) : Prop where
  pos : 1 ≤ b.length
  len : b.length ≤ 8
  nd : b.names.Nodup
  kd : ∀ k ∈ b, KdOk b.names k
theorem Ru.noList_enc (r : Ru) : noList (Ru.enc r) = true := by simp [Ru.enc, noList, noLists, Gr.noList_enc]
theorem Kd.noList_rowE (k : Kd) : noList k.rowE = true := by
  unfold Kd.rowE noList
  induction k.rs with
  | nil => rfl
  | cons r l ih => rw [List.map_cons, noLists, Ru.noList_enc, ih]; rfl
/-- the rows of a book, by their names -/
def Bk.rowKV (b : Bk) (us : List V) : List (Key × V) := List.zipWith (fun (k : Kd) (u : V) => (Sum.inr k.n, u)) b us
def Bk.spKV (b : Bk) : List (Key × V) := b.map fun k => (Sum.inr k.n, V.bl k.w)
abbrev bkF (d1 d2 : Addr) : List (Str × V) := [("spread_by_name", .ref d1), ("rows_by_name", .ref d2)]
/-- v is an instance of the class at C that holds the book b -/
def BkA (K : PySem.W.Frag) (C : Addr) (H : Hp) (v : V) (b : Bk) : Prop := ∃ (a dx d1 d2 : Addr) (us : List V), v = .ref a ∧ H a = some (.ins C dx (bkF d1 d2)) ∧ H d1 = some (.dK b.spKV) ∧ H d2 = some (.dK (b.rowKV us)) ∧ Bears K H Kd.rowE us b
def Lsts (H : Hp) (ps : List Addr) : Prop := ∀ p ∈ ps, H p = none ∨ ∃ xs, H p = some (.lst xs)
theorem Lsts.nil {H : Hp} : Lsts H [] := fun _ h => nomatch h
theorem Lsts.one {H : Hp} {p : Addr} {xs : List V} (h : H p = some (.lst xs)) : Lsts H [p] := fun q z => by rw [List.mem_singleton.mp z]; exact .inr ⟨xs, h⟩
theorem Lsts.cons {H : Hp} {p : Addr} {xs : List V} {ps : List Addr} (h : H p = some (.lst xs)) (hs : Lsts H ps) : Lsts H (p :: ps) := fun q z => by
  rcases List.mem_cons.mp z with z | z
  · rw [z]; exact .inr ⟨xs, h⟩
  · exact hs q z
theorem Lsts.notin {H : Hp} {ps : List Addr} (h : Lsts H ps) {a : Addr} {o : HO} (e : H a = some o) (n : ∀ xs, o ≠ .lst xs) : a ∉ ps := fun z => by
  rcases h a z with q | ⟨xs, q⟩
  · rw [e] at q; cases q
  · rw [e] at q; exact n xs (Option.some.inj q)
section
variable {K : PySem.W.Frag} {C : Addr} {H H' : Hp} {v : V} {b : Bk} {ps : List Addr}
theorem BkA.sb (h : BkA K C H v b) (e : SB ps H H') (hp : Lsts H ps) : BkA K C H' v b := by
  obtain ⟨a, dx, d1, d2, us, rfl, h1, h2, h3, h4⟩ := h
  exact ⟨a, dx, d1, d2, us, rfl, e.keep _ _ h1 (hp.notin h1 fun _ z => nomatch z), e.keep _ _ h2 (hp.notin h2 fun _ z => nomatch z), e.keep _ _ h3 (hp.notin h3 fun _ z => nomatch z), h4.sb e Kd.noList_rowE⟩
end
inductive KT where
  | other
  | three (d : PyData) (w : Option Bool) (rs : Option (List PyData))
def Kd.kt (k : Kd) : KT := .three (.str k.n) (some k.w) (some (k.rs.map Ru.enc))
/-- a thing that is no tuple of three, or a tuple of three: of any thing, a truth or not, a list of things or not -/
def KTA (K : PySem.W.Frag) (H : Hp) (v : V) : KT → Prop
  | .other => ∃ d, Tg K H v d ∧ ∀ ds, d = .tuple ds → ds.length ≠ 3
  | .three d w rs => ∃ (t : Addr) (x y z : V), v = .ref t ∧ SqT K H t [x, y, z] ∧ Tg K H x d ∧ (match w with
      | some b => y = .bl b
      | none => ∃ n, TyX K H y (.type n) ∧ kitB n "bool" = some false) ∧ (match rs with
      | some ds => ∃ (l : Addr) (zs : List V), z = .ref l ∧ H l = some (.lst zs) ∧ TgAll K H zs ds
      | none => ∃ n, TyX K H z (.type n) ∧ kitB n "list" = some false)
inductive KTAll (K : PySem.W.Frag) (H : Hp) : List V → List KT → Prop
  | nil : KTAll K H [] []
  | cons {v : V} {t : KT} {vs : List V} {ts : List KT} : KTA K H v t → KTAll K H vs ts → KTAll K H (v :: vs) (t :: ts)
theorem inV_strs (n : Str) (zs : List Str) : inV (.str n) (zs.map V.str) = decide (n ∈ zs) := by
  induction zs with
  | nil => rfl
  | cons z r ih =>
    show ((z == n) || inV (.str n) (r.map V.str)) = _
    rw [ih]
    by_cases e : z = n
    · subst e; simp
    · have e' : ¬ n = z := fun y => e y.symm
      rw [show (z == n) = false from beq_eq_false_iff_ne.mpr e, Bool.false_or]
      by_cases h : n ∈ r <;> simp [h, e']
theorem flat_strs (zs : List Str) : (zs.map V.str).all flatV = true := by simp [flatV]
end FT
namespace FT
open PySem PySem.W PySem.Spec PyProof.Rows L2
section
variable {K : PySem.W.Frag} {H H' : Hp}
theorem KTA_sb (e : SB [] H H') : ∀ {t : KT} {v : V}, KTA K H v t → KTA K H' v t
  | .other, v, ⟨d, h1, h2⟩ => ⟨d, Tg_sb e h1, h2⟩
  | .three d w rs, v, ⟨t, x, y, z, e0, h1, h2, h3, h4⟩ => by
    refine ⟨t, x, y, z, e0, e.sqT h1, Tg_sb e h2, ?_, ?_⟩
    · cases w with
      | some b => exact h3
      | none =>
        obtain ⟨n, a, b⟩ := h3
        exact ⟨n, TyX_sb e (fun _ _ => List.not_mem_nil) a, b⟩
    · cases rs with
      | some ds =>
        obtain ⟨l, zs, e1, h5, h6⟩ := h4
        exact ⟨l, zs, e1, e.keep _ _ h5 List.not_mem_nil, TgAll_sb e h6⟩
      | none =>
        obtain ⟨n, a, b⟩ := h4
        exact ⟨n, TyX_sb e (fun _ _ => List.not_mem_nil) a, b⟩
theorem KTAll.sb (e : SB [] H H') : ∀ {vs : List V} {ts : List KT}, KTAll K H vs ts → KTAll K H' vs ts
  | _, _, .nil => .nil
  | _, _, .cons h t => .cons (KTA_sb e h) (KTAll.sb e t)
theorem KTAll.length : ∀ {vs : List V} {ts : List KT}, KTAll K H vs ts → vs.length = ts.length
  | _, _, .nil => rfl
  | _, _, .cons h t => by rw [List.length_cons, List.length_cons, KTAll.length t]
theorem KTAll.get : ∀ {vs : List V} {ts : List KT} {i : Nat} {v : V}, KTAll K H vs ts → vs[i]? = some v → ∃ t, ts[i]? = some t ∧ KTA K H v t
  | _, _, i, v, .nil, h => by simp at h
  | _, _, 0, v, .cons h t, e => by simp at e; subst e; exact ⟨_, rfl, h⟩
  | _, _, i + 1, v, .cons h t, e => by
    simp at e
    obtain ⟨t', e', h'⟩ := KTAll.get (i := i) t e
    exact ⟨t', by simpa using e', h'⟩
theorem TgAll_rules : ∀ {rs : List Ru} {zs : List V}, TgAll K H zs (rs.map Ru.enc) → Bears K H Ru.enc zs rs
  | [], _, .nil => .nil
  | r :: rs, _, .cons h t => by
    refine .cons ?_ (TgAll_rules t)
    cases (h : Tg K H _ (.tuple [r.1.enc, r.2.enc])) with
    | tup hs ha =>
      cases ha with
      | cons h1 ha =>
      cases ha with
      | cons h2 ha =>
      cases ha
      cases h1 with
      | tup a1 b1 =>
      cases h2 with
      | tup a2 b2 => exact .tup hs (.cons (.tup a1 (Tg_ga r.1 b1)) (.cons (.tup a2 (Tg_ga r.2 b2)) .nil))
/-- v is a tuple of a name, a truth and a list of rules, which is none of bad: those of k -/
def KdA (K : PySem.W.Frag) (H : Hp) (bad : List Addr) (v : V) (k : Kd) : Prop := ∃ (t l : Addr) (zs : List V), v = .ref t ∧ SqT K H t [.str k.n, .bl k.w, .ref l] ∧ H l = some (.lst zs) ∧ Bears K H Ru.enc zs k.rs ∧ l ∉ bad
theorem KTA_kd {k : Kd} {v : V} (h : KTA K H v k.kt) : KdA K H [] v k := by
  obtain ⟨t, x, y, z, e0, h1, h2, h3, l, zs, rfl, h5, h6⟩ := h
  have h3 : y = .bl k.w := h3
  subst h3
  cases h2
  exact ⟨t, l, zs, e0, h1, h5, TgAll_rules h6, List.not_mem_nil⟩
def NoLst (H : Hp) (bad ps : List Addr) : Prop := ∀ p ∈ ps, p ∈ bad ∨ ∀ xs, H p ≠ some (.lst xs)
theorem NoLst.nil {bad : List Addr} : NoLst H bad [] := fun _ z => nomatch z
theorem NoLst.new {bad : List Addr} {p : Addr} (h : H p = none) : NoLst H bad [p] := fun q z => .inr fun xs => by rw [List.mem_singleton.mp z, h]; exact fun y => nomatch y
theorem KdA.sb {k : Kd} {v : V} {ps bad : List Addr} (h : KdA K H bad v k) (e : SB ps H H') (n : NoLst H bad ps) : KdA K H' bad v k := by
  obtain ⟨t, l, zs, e0, h1, h2, h3, h4⟩ := h
  exact ⟨t, l, zs, e0, e.sqT h1, e.keep _ _ h2 fun z => (n _ z).elim h4 fun y => y _ h2, h3.sb e Ru.noList_enc, h4⟩
inductive KdAll (K : PySem.W.Frag) (H : Hp) (bad : List Addr) : List V → Bk → Prop
  | nil : KdAll K H bad [] []
  | cons {v : V} {k : Kd} {vs : List V} {b : Bk} : KdA K H bad v k → KdAll K H bad vs b → KdAll K H bad (v :: vs) (k :: b)
theorem KdAll.sb {ps bad : List Addr} (e : SB ps H H') (n : NoLst H bad ps) : ∀ {vs : List V} {b : Bk}, KdAll K H bad vs b → KdAll K H' bad vs b
  | _, _, .nil => .nil
  | _, _, .cons h t => .cons (h.sb e n) (KdAll.sb e n t)
theorem KdAll.append {bad : List Addr} : ∀ {xs ys : List V} {bs cs : Bk}, KdAll K H bad xs bs → KdAll K H bad ys cs → KdAll K H bad (xs ++ ys) (bs ++ cs)
  | _, _, _, _, .nil, h => h
  | _, _, _, _, .cons a b, h => .cons a (KdAll.append b h)
theorem KdAll.length {bad : List Addr} : ∀ {vs : List V} {ts : Bk}, KdAll K H bad vs ts → vs.length = ts.length
  | _, _, .nil => rfl
  | _, _, .cons h t => by rw [List.length_cons, List.length_cons, KdAll.length t]
theorem KdAll.get {bad : List Addr} : ∀ {vs : List V} {ts : Bk} {i : Nat} {v : V}, KdAll K H bad vs ts → vs[i]? = some v → ∃ t, ts[i]? = some t ∧ KdA K H bad v t
  | _, _, i, v, .nil, h => by simp at h
  | _, _, 0, v, .cons h t, e => by simp at e; subst e; exact ⟨_, rfl, h⟩
  | _, _, i + 1, v, .cons h t, e => by
    simp at e
    obtain ⟨t', e', h'⟩ := KdAll.get (i := i) t e
    exact ⟨t', by simpa using e', h'⟩
theorem KTAll.kd : ∀ {b : Bk} {vs : List V}, KTAll K H vs (b.map Kd.kt) → KdAll K H [] vs b
  | [], _, .nil => .nil
  | k :: b, _, .cons h t => .cons (KTA_kd h) (KTAll.kd t)
theorem rules_TgAll {zs : List V} : ∀ {rs : List Ru} {zs : List V}, (∀ r ∈ rs, RuOk r) → Bears K H Ru.enc zs rs → TgAll K H zs (rs.map Ru.enc)
  | [], _, _, .nil => .nil
  | r :: rs, _, ok, .cons h t => by
    refine .cons ?_ (rules_TgAll (zs := zs) (fun x hx => ok x (List.mem_cons_of_mem _ hx)) t)
    obtain ⟨o1, o2, _⟩ := ok r (List.mem_cons_self ..)
    cases (h : Dp K H _ (.tuple [r.1.enc, r.2.enc])) with
    | tup hs ha =>
      cases ha with
      | cons h1 ha =>
      cases ha with
      | cons h2 ha =>
      cases ha
      exact .tup hs (.cons (GA_thing o1 h1) (.cons (GA_thing o2 h2) .nil))
theorem KdAll.kt {bad : List Addr} : ∀ {b : Bk} {vs : List V}, (∀ k ∈ b, NameOk k.n ∧ ∀ r ∈ k.rs, RuOk r) → KdAll K H bad vs b → KTAll K H vs (b.map Kd.kt)
  | [], _, _, .nil => .nil
  | k :: b, _, ok, .cons h t => by
    refine .cons ?_ (KdAll.kt (fun x hx => ok x (List.mem_cons_of_mem _ hx)) t)
    obtain ⟨t, l, zs, e0, h1, h2, h3, _⟩ := h
    obtain ⟨o1, o2⟩ := ok k (List.mem_cons_self ..)
    exact ⟨t, _, _, _, e0, h1, .str _ (name_short o1), rfl, l, zs, rfl, h2, rules_TgAll (zs := zs) o2 h3⟩
end
end FT
namespace FT
open PySem PySem.W PySem.Spec PyProof.Rows L2
def PuW (H : Hp) (p : Addr) : Prop := ∃ x y : Int, H p = some (.lst [.int x, .int y]) ∧ 0 ≤ x ∧ 0 ≤ y ∧ y < 2 ^ 62
theorem PuW.sb {H H' : Hp} {p : Addr} (h : PuW H p) (e : SB [] H H') : PuW H' p := by
  obtain ⟨x, y, h1, h2⟩ := h
  exact ⟨x, y, e.keep _ _ h1 List.not_mem_nil, h2⟩
theorem PuW.keep {H H' : Hp} {p : Addr} {ps : List Addr} (h : PuW H p) (e : SB ps H H') (n : p ∉ ps) : PuW H' p := by
  obtain ⟨x, y, h1, h2⟩ := h
  exact ⟨x, y, e.keep _ _ h1 n, h2⟩
theorem PuW.new {H : Hp} {p q : Addr} (h : PuW H p) (n : H q = none) {o : HO} : PuW (upd H q o) p := by
  obtain ⟨x, y, h1, h2⟩ := h
  exact ⟨x, y, by rw [upd_ne (ne_of_none h1 n)]; exact h1, h2⟩
theorem PuW.ne {H : Hp} {p q : Addr} (h : PuW H p) (n : H q = none) : p ≠ q := by
  obtain ⟨x, y, h1, h2⟩ := h
  exact ne_of_none h1 n
theorem PuW.some {H : Hp} {p : Addr} (h : PuW H p) : ∀ q ∈ [p], H q ≠ none := fun q hq z => by
  obtain ⟨x, y, h1, _⟩ := h
  rw [List.mem_singleton.mp hq, h1] at z
  cases z
section
variable {D : Ends} {σ : L2.St} {H : Hp} {t u : TS} {te : TE} {g : TG} {c : TT}
theorem nextI {f : L2.St → Hp → Prop} {r : VK} {b c' : L2.St → Hp → Prop} (h : f σ H) : tNext ⟨f, r, b, c'⟩ σ H := h
end
end FT
namespace FT
open PySem PySem.W PySem.Spec PyProof.Rows L2
section
variable {J : It} {n : Nat} {G : Hp → Prop} {Y : Nat → Hp → V → Hp → Prop}
theorem lc_seqQ (w : Walk J n G Y) (ps : List Addr) {g : TG} {tt : TT} {te : TE} {vs : List Nat} {σ : L2.St} {H : Hp} {D : Addr} {Qd : Hp → Prop} (hD : H D = none) (hps : ∀ q ∈ ps, H q ≠ none) (hn : n < sizeLine) (R : Nat → List V → Hp → Prop) (h0 : R 0 [] H) (hG : ∀ H2, SB ps H H2 → G H2)
    (st : ∀ i us H2 H3, SB [D] H2 H3 → R i us H2 → R i us H3)
    (turn : ∀ (Pv : Hp → Prop) i x H2 H' us, i < n → SB ps H H2 → Y i H2 x H' → R i us H2 → us.length ≤ i → H2 D = some (.lst us) → (∀ y H5, SB ps H2 H5 → R (i + 1) (us ++ [y]) H5 → ∃ acc, H5 D = some (.lst acc) ∧ acc.length < sizeLine ∧ Pv (upd H5 D (.lst (acc ++ [y])))) →
      (∀ H4, SB ps H2 H4 → R (i + 1) us H4 → Pv H4) → g x (wipe σ vs) H' fun σ2 H3 => wipe σ2 vs = wipe σ vs ∧ tt σ2 H3 fun b H4 =>
        if b = true then te σ2 H4 fun y H5 => ∃ acc, H5 D = some (.lst acc) ∧ acc.length < sizeLine ∧ Pv (upd H5 D (.lst (acc ++ [y]))) else Pv H4)
    (done : ∀ us H2, SB ps H H2 → H2 D = some (.lst us) → R n us H2 → us.length ≤ n → Qd H2) :
    ∃ W : Nat → Nat → Hp → Prop, (∃ m, W 0 m (upd H D (.lst []))) ∧ ∀ i m H, W i m H →
      (J.stop i H ∧ Qd H) ∨ (J.go i H ∧ ∃ Nx : Hp → Prop, (∀ H', Nx H' → ∃ m', m' < m ∧ W (i + 1) m' H') ∧ ∀ x H', J.yld i H x H' → g x (wipe σ vs) H' fun σ2 H2 => wipe σ2 vs = wipe σ vs ∧ tt σ2 H2 fun b H3 =>
        if b = true then te σ2 H3 fun y H4 => ∃ acc, H4 D = some (.lst acc) ∧ acc.length < sizeLine ∧ Nx (upd H4 D (.lst (acc ++ [y]))) else Nx H3) := by
  have nD : D ∉ ps := fun z => hps D z hD
  have up : ∀ {H1 H2 : Hp}, SB ps H1 H2 → SB (D :: ps) H1 H2 := fun e => e.mono fun b hb => List.mem_cons_of_mem _ hb
  have up1 : ∀ {H1 H2 : Hp}, SB [D] H1 H2 → SB (D :: ps) H1 H2 := fun e => e.mono fun b hb => by rw [List.mem_singleton.mp hb]; exact List.mem_cons_self ..
  refine lc_it w (fun i H2 => SB (D :: ps) H H2 ∧ ∃ us, H2 D = some (.lst us) ∧ R i us H2 ∧ us.length ≤ i) ⟨SB.new hD _, [], upd_same, st _ _ _ _ (SB.new hD _) h0, Nat.le_refl _⟩ (fun i H2 _ h => hG H2 (h.1.drop hD)) (fun i x H2 H' hi h y => ?_) (fun H2 h => ?_)
  · obtain ⟨s2, us, hD2, hR, hl⟩ := h
    refine turn _ i x H2 H' us hi (s2.drop hD) y hR hl hD2 (fun y H5 s5 r5 => ?_) (fun H4 s4 r4 => ⟨s2.trans (up s4), us, s4.keep _ _ hD2 nD, r4, by omega⟩)
    have hD5 := s5.keep _ _ hD2 nD
    refine ⟨us, hD5, by omega, (s2.trans (up s5)).trans (SB.set hD5 (by simp) _), _, upd_same, st _ _ _ _ (SB.set hD5 (by simp) _) r5, ?_⟩
    rw [List.length_append, List.length_singleton]; omega
  · obtain ⟨s2, us, hD2, hR, hl⟩ := h
    exact done us H2 (s2.drop hD) hD2 hR hl
end
def Kd.dat (k : Kd) : PyData := .tuple [.str k.n, .bool k.w, .list (k.rs.map Ru.enc)]
section
variable {K : PySem.W.Frag} {H H' : Hp}
theorem Bears_dp {α : Type} {enc : α → PyData} : ∀ {vs : List V} {xs : List α}, Bears K H enc vs xs → DpAll K H vs (xs.map enc)
  | _, _, .nil => .nil
  | _, _, .cons h t => .cons h (Bears_dp t)
theorem KdAll.dp {bad : List Addr} : ∀ {vs : List V} {b : Bk}, KdAll K H bad vs b → DpAll K H vs (b.map Kd.dat)
  | _, _, .nil => .nil
  | _, _, .cons ⟨t, l, zs, e, h1, h2, h3, _⟩ r => by
    subst e
    exact .cons (.tup h1 (.cons (.str _) (.cons (.bl _) (.cons (.lst (SqL.of h2) (Bears_dp h3)) .nil)))) (KdAll.dp r)
theorem KdAll.bad {bad : List Addr} (hb : ∀ p ∈ bad, H p = none) : ∀ {vs : List V} {b : Bk}, KdAll K H [] vs b → KdAll K H bad vs b
  | _, _, .nil => .nil
  | _, _, .cons ⟨t, l, zs, e, h1, h2, h3, _⟩ r => .cons ⟨t, l, zs, e, h1, h2, h3, fun z => by rw [hb l z] at h2; cases h2⟩ (KdAll.bad hb r)
end
theorem depths_le {n : Nat} : ∀ {ds : List PyData}, (∀ d ∈ ds, d.depth ≤ n) → PyData.depthAll ds ≤ n
  | [], _ => by simp [PyData.depthAll]
  | d :: ds, h => by
    have h1 := h d (List.mem_cons_self ..)
    have h2 := depths_le fun x hx => h x (List.mem_cons_of_mem _ hx)
    rw [PyData.depthAll]; omega
mutual
theorem alike_pl : ∀ d : PyData, plS d = true → alike d d = true
  | .int _, _ => by simp [alike]
  | .str _, _ => by simp [alike]
  | .tuple ds, h => by rw [alike]; exact alikes_pl ds (by rw [plS] at h; exact h)
  | .none, h => by simp [plS] at h
  | .bool _, h => by simp [plS] at h
  | .list _, h => by simp [plS] at h
  | .dict _, h => by simp [plS] at h
theorem alikes_pl : ∀ ds : List PyData, plSs ds = true → alikeAll ds ds = true
  | [], _ => by simp [alikeAll]
  | d :: ds, h => by
    rw [plSs, Bool.and_eq_true] at h
    rw [alikeAll, alike_pl d h.1, alikes_pl ds h.2]; rfl
end
end FT
namespace FT
open PySem PySem.W PySem.Spec PyProof.Rows L2
open TL (tl)
def Ru.text (r : Ru) : List Nat := [32, 62, 32] ++ (r.1.text ++ ([32, 47, 32] ++ r.2.text))
def Kd.mark (k : Kd) : List Nat := if k.w = true then [32, 42] else []
def Kd.text (k : Kd) : List Nat := tl k.n ++ (k.mark ++ (k.rs.map Ru.text).flatten)
def Bk.text (b : Bk) : List Nat := TL.joinL [59, 32] (b.map Kd.text)
theorem nameI {i : Nat} {v : V} {σ : L2.St} {H : Hp} {f : L2.St → Hp → Prop} {r : VK} {b c : L2.St → Hp → Prop} (h : f (σ.set i (some v)) H) : gName i v σ H (Ends.mk f r b c).nx := h
theorem Bk.Ok.two {b : Bk} (ok : b.Ok) : ∀ k ∈ b, k.rs.length ≤ 4 ∧ ∀ r ∈ k.rs, RuOk r := fun k hk => ⟨(ok.kd k hk).2.1, fun r hr => ((ok.kd k hk).2.2 r hr).1⟩
theorem Bk.Ok.three {b : Bk} (ok : b.Ok) : ∀ k ∈ b, NameOk k.n ∧ ∀ r ∈ k.rs, RuOk r := fun k hk => ⟨(ok.kd k hk).1, (ok.two k hk).2⟩
end FT
namespace FT
open PySem PySem.W PySem.Spec PyProof.Rows L2
theorem log_lt {x : Int} {a b : Nat} (h : x.natAbs < 2 ^ a) (hb : a ≤ b) (h0 : 0 < a) : x.natAbs.log2 < b := by
  by_cases e : x.natAbs = 0
  · rw [e]; simp [Nat.log2_zero]; omega
  · exact Nat.lt_of_lt_of_le ((Nat.log2_lt e).mpr h) hb
end FT
namespace FT
open PySem PySem.W PySem.Spec PyProof.Rows L2
open TL (tl)
def Ru.tail (r : Ru) : List Nat := r.1.text ++ ([32, 47, 32] ++ r.2.text)
theorem Shows.inj {z : Str} {g k : Gr} (h : Shows z g) (h' : Shows z k) : k = g := by
  by_cases e : g = .nil
  · subst e
    exact text_dash h'.ok (by rw [← h'.tx, h.tx]; rfl)
  · by_cases e' : k = .nil
    · subst e'
      exact absurd (text_dash h.ok (by rw [← h.tx, h'.tx]; rfl)) e
    · have a := h.read e
      have b := h'.read e'
      rw [a] at b
      injection b with b
      injection b with b _
      rw [← Gr.ofPs_ps k, ← Gr.ofPs_ps g, b]
structure InsC (K : PySem.W.Frag) (mg : Str → Option Value) (n : Str) (C : Addr) : Prop where
  c : Cls K C
  ha : PySem.W.findIn K (.ref C) "__class__" = some (some (.builtin "object.__class__"))
  hn : PySem.W.specialIn K (.builtin "object.__class__") "__get__" = some (some (.builtin "getset_descriptor.__get__"))
  htk : PySem.W.takesIn K (.builtin "object.__class__") = some true
  hm : PySem.W.mroIn K C (.type "object") = some true
  g : mg n = some (.ref C)
theorem InsC.ty {K : PySem.W.Frag} {mg : Str → Option Value} {n : Str} {C a dx : Addr} {H : Hp} {fs : List (Str × V)} (i : InsC K mg n C) (h : H a = some (.ins C dx fs)) : TyX K H (.ref a) (.ref C) := .base (.ins h i.c i.ha i.hn i.htk i.hm)
end FT
namespace FT
open PySem PySem.W PySem.Spec PyProof.Rows L2
open PySem.Froz (SD sObj TxOk addTx tailTx)
/-- the payload D holds the texts l, each once, and its table rises -/
structure TxS (P : Program) (w : World) (D : SD) (l : List Str) : Prop where
  ok : TxOk P w D l
  nd : l.Nodup
  ris : Ris D.2.2.place.toList
  led : w.params.followText "set-order" = true ∨ D.2.2.led = true
end FT
namespace FT
open PySem PySem.W PySem.Spec PyProof.Rows L2
open PySem.Froz (SD sObj TxOk addTx tailTx)
def TxAt (P : Program) (w : World) (h : Heap) (a : Addr) (l : List Str) : Prop := ∃ D : SD, h.get? a = some (sObj "set" D) ∧ TxS P w D l
theorem TxAt.keep {P : Program} {w : World} {h h' : Heap} {a : Addr} {l : List Str} (S : TxAt P w h a l) (k : ∀ o, h.get? a = some o → h'.get? a = some o) : TxAt P w h' a l := by
  obtain ⟨D, e, F⟩ := S
  exact ⟨D, k _ e, F⟩
end FT
namespace FT
open PySem PySem.W PySem.Spec PyProof.Rows L2
namespace Gr
def ak : Gr → Nat → List (Pl × Str)
  | .nil, _ => []
  | .cons k g _ r, i => (([i], k) :: (g.ak 0).map fun x => (i :: x.1, x.2)) ++ r.ak (i + 1)
theorem lk_root {a b : Str} {g : Gr} {os : List (Option Int)} (h : os ≠ []) : lk (a, g) os = lk (b, g) os := by
  cases os with
  | nil => exact absurd rfl h
  | cons o r => rfl
theorem deep_parts : ∀ g : Gr, g.deep ≤ g.parts
  | .nil => Nat.le_refl _
  | .cons k g m r => by
    have h1 := deep_parts g
    have h2 := deep_parts r
    show max (1 + g.deep) r.deep ≤ 1 + g.parts + r.parts
    omega
end Gr
structure Sx where
  n : Str
  i : Nat
  wd : Str
  p : Pl
  k : Str
def Sx.st (s : Sx) : PyData := .tuple [.str s.n, .int (s.i : Int), .str s.wd, plEnc s.p]
def Sx.enc (s : Sx) : PyData := .tuple [s.st, .str s.k]
theorem Sx.noList_st (s : Sx) : noList s.st = true := by simp [Sx.st, noList, noLists, pl_noList]
theorem Sx.noList_enc (s : Sx) : noList s.enc = true := by simp [Sx.enc, noList, noLists, Sx.noList_st]
def stG (n : Str) (i : Nat) (wd : Str) (g : Gr) : List Sx := (g.ak 0).map fun x => ⟨n, i, wd, x.1, x.2⟩
def stR (n : Str) (x : Ru × Nat) : List Sx := stG n x.2 "once" x.1.1 ++ stG n x.2 "each" x.1.2
def Kd.steps (k : Kd) : List Sx := (k.rs.zipIdx 1).flatMap (stR k.n)
/-- the kinds that stand in the rules -/
def ledR (rs : List Ru) : List Str := rs.flatMap fun r => r.within.map (·.1.1)
/-- the texts of ks, each once, sorted -/
structure SrtOf (ss ks : List Str) : Prop where
  srt : sortedS ss = true
  nd : ss.Nodup
  mem : ∀ x, x ∈ ss ↔ x ∈ ks
end FT
namespace FT
open PySem PySem.W PySem.Spec PyProof.Rows L2
theorem plain_shaped {ds : List PyData} (h : plSs ds = true) (hd : PyData.depthAll ds ≤ 60) : SeqAt.shaped (.list ds) = true := by
  unfold SeqAt.shaped
  rw [PyData.canLay0, plSs_lay _ h, Bool.true_and]
  have : (PyData.list ds).depth = PyData.depthAll ds + 1 := by simp [PyData.depth]
  exact decide_eq_true (by omega)
theorem plain_eqv {ds : List PyData} (h : plSs ds = true) : PyData.eqv (.list ds) (.list ds) = true := eqv_refl_alike _ (by rw [alike]; exact alikes_pl _ h)
theorem Bk.Ok.led {b : Bk} (ok : b.Ok) {k : Kd} (hk : k ∈ b) : ∀ x ∈ ledR k.rs, x ∈ b.names := fun x hx => by
  obtain ⟨r, hr, hx⟩ := List.mem_flatMap.mp hx
  obtain ⟨p, hp, rfl⟩ := List.mem_map.mp hx
  exact ((ok.kd k hk).2.2 r hr).2 p hp
theorem Bk.Ok.names {b : Bk} (ok : b.Ok) : ∀ x ∈ b.names, NameOk x := fun x hx => by
  obtain ⟨k, hk, rfl⟩ := List.mem_map.mp hx
  exact (ok.kd k hk).1
end FT
namespace FT
open PySem PySem.W PySem.Spec PyProof.Rows L2
namespace Gr
theorem enc_eq_nil (g : Gr) : PyData.eqv g.enc (.tuple []) = decide (g = .nil) := by
  cases g with
  | nil => simp [enc, encs, PyData.eqv, PyData.eqvAll]
  | cons k g m r => simp [enc, encs, PyData.eqv, PyData.eqvAll]
end Gr
end FT
namespace FT
open PySem PySem.W PySem.Spec PyProof.Rows L2
theorem SB.drops : ∀ {ps : List Addr} {H H' : Hp}, SB ps H H' → (∀ p ∈ ps, H p = none) → SB [] H H'
  | [], _, _, e, _ => e
  | p :: ps, _, _, e, h => SB.drops (e.drop (h p List.mem_cons_self)) fun q hq => h q (List.mem_cons_of_mem _ hq)
end FT
namespace FT
open PySem PySem.W PySem.Spec PyProof.Rows L2
def adj (b : Bk) (n : Str) : List Str := match b.get n with
  | some k => ledR k.rs
  | none => []
inductive Rch (b : Bk) : Str → Str → Prop
  | one {n k : Str} : k ∈ adj b n → Rch b n k
  | step {n m k : Str} : Rch b n m → k ∈ adj b m → Rch b n k
section
variable {b : Bk}
theorem Rch.trans {n m k : Str} (h : Rch b n m) (g : Rch b m k) : Rch b n k := by
  induction g with
  | one e => exact .step h e
  | step _ e ih => exact .step ih e
theorem Rch.cons {n m k : Str} (h : m ∈ adj b n) (g : Rch b m k) : Rch b n k := (Rch.one h).trans g
end
inductive LedAll (K : PySem.W.Frag) (H : Hp) : List (Key × V) → Bk → Prop
  | nil : LedAll K H [] []
  | cons {l : Addr} {ss : List Str} {k : Kd} {kvs : List (Key × V)} {b : Bk} : H l = some (.lst (ss.map V.str)) → SrtOf ss (ledR k.rs) → LedAll K H kvs b → LedAll K H ((Sum.inr k.n, .ref l) :: kvs) (k :: b)
section
variable {K : PySem.W.Frag} {H H' : Hp}
theorem LedAll.length : ∀ {kvs : List (Key × V)} {b : Bk}, LedAll K H kvs b → kvs.length = b.length
  | _, _, .nil => rfl
  | _, _, .cons _ _ t => congrArg (· + 1) t.length
theorem LedAll.keep (h : ∀ l xs, H l = some (.lst xs) → H' l = some (.lst xs)) : ∀ {kvs : List (Key × V)} {b : Bk}, LedAll K H kvs b → LedAll K H' kvs b
  | _, _, .nil => .nil
  | _, _, .cons a s t => .cons (h _ _ a) s (LedAll.keep h t)
theorem LedAll.append : ∀ {kvs kws : List (Key × V)} {b c : Bk}, LedAll K H kvs b → LedAll K H kws c → LedAll K H (kvs ++ kws) (b ++ c)
  | _, _, _, _, .nil, h => h
  | _, _, _, _, .cons a s t, h => .cons a s (t.append h)
theorem LedAll.val {n : Str} {k : Kd} : ∀ {kvs : List (Key × V)} {b : Bk}, LedAll K H kvs b → b.get n = some k → ∃ l ss, valV kvs (Sum.inr n) = some (.ref l) ∧ H l = some (.lst (ss.map V.str)) ∧ SrtOf ss (ledR k.rs)
  | _, _, .nil, e => by simp [Bk.get] at e
  | _, _, .cons (l := l) (ss := ss) (k := kk) (b := bb) a s t, e => by
    by_cases h : kk.n = n
    · have e' : kk = k := by
        have : Bk.get (kk :: bb) n = some kk := by simp [Bk.get, h]
        rw [this] at e; exact Option.some.inj e
      subst e'
      exact ⟨l, ss, valV_pos (by rw [h]), a, s⟩
    · have e' : Bk.get bb n = some k := by
        unfold Bk.get at e
        rw [List.find?_cons_of_neg (by simpa using h)] at e
        exact e
      obtain ⟨l', ss', h1, h2, h3⟩ := t.val e'
      exact ⟨l', ss', by rw [valV_neg (fun z => h (Sum.inr.inj z))]; exact h1, h2, h3⟩
theorem LedAll.get : ∀ {kvs : List (Key × V)} {b : Bk} {i : Nat} {p : Key × V}, LedAll K H kvs b → kvs[i]? = some p → ∃ k, b[i]? = some k ∧ p.1 = Sum.inr k.n
  | _, _, _, _, .nil, e => by simp at e
  | _, _, 0, _, .cons a s t, e => by
    obtain rfl := Option.some.inj e
    exact ⟨_, rfl, rfl⟩
  | _, _, i + 1, _, .cons a s t, e => t.get (i := i) e
end
theorem LedAll.sb {K : PySem.W.Frag} {H H' : Hp} {ps : List Addr} (e : SB ps H H') : ∀ {kvs : List (Key × V)} {b : Bk}, LedAll K H kvs b → (∀ p ∈ kvs, ∀ q ∈ ps, p.2 ≠ .ref q) → LedAll K H' kvs b
  | _, _, .nil, _ => .nil
  | _, _, .cons a s t, h => .cons (e.keep _ _ a fun z => h _ List.mem_cons_self _ z rfl) s (LedAll.sb e t fun p hp => h p (List.mem_cons_of_mem _ hp))
theorem LedAll.ne {K : PySem.W.Frag} {H : Hp} {q : Addr} (hq : H q = none) : ∀ {kvs : List (Key × V)} {b : Bk}, LedAll K H kvs b → ∀ p ∈ kvs, p.2 ≠ .ref q
  | _, _, .nil, p, hp => by cases hp
  | _, _, .cons a s t, p, hp => by
    rcases List.mem_cons.mp hp with e | e
    · rw [e]
      intro z
      rw [V.ref.inj z] at a
      rw [a] at hq; cases hq
    · exact LedAll.ne hq t p e
end FT
namespace FT
open PySem PySem.W PySem.Spec PyProof.Rows L2
inductive Wlk (b : Bk) (n : Str) : List Sx → Str → Prop
  | nil : Wlk b n [] n
  | step {p : List Sx} {m : Str} {kd : Kd} {s : Sx} : Wlk b n p m → b.get m = some kd → s ∈ kd.steps → Wlk b n (p ++ [s]) s.k
section
variable {b : Bk} {K : PySem.W.Frag} {H H' : Hp} {F F' : Addr → Prop} {n k h : Str} {l : Addr} {A B A' B' : Nat} {ps : List Addr}
/-- l holds a walk from n to k, of at least A and at most B steps -/
def Wy (K : PySem.W.Frag) (H : Hp) (F : Addr → Prop) (b : Bk) (n : Str) (A B : Nat) (k : Str) (l : Addr) : Prop := ∃ us q, H l = some (.lst us) ∧ Bears K H Sx.st us q ∧ Wlk b n q k ∧ A ≤ q.length ∧ q.length ≤ B ∧ F l
theorem Wy.sb (e : SB ps H H') (hn : ∀ p ∈ ps, ¬ F p ∨ ∀ us, H p ≠ some (.lst us)) : Wy K H F b n A B k l → Wy K H' F b n A B k l := by
  rintro ⟨us, q, h1, h2, h3, h4, h5, h6⟩
  exact ⟨us, q, e.keep _ _ h1 (fun z => (hn _ z).elim (fun y => y h6) fun y => y _ h1), h2.sb e Sx.noList_st, h3, h4, h5, h6⟩
theorem Wy.imp (hA : A' ≤ A) (hB : B ≤ B') (hF : ∀ l us, H l = some (.lst us) → F l → F' l) : Wy K H F b n A B k l → Wy K H F' b n A' B' k l := by
  rintro ⟨us, q, h1, h2, h3, h4, h5, h6⟩
  exact ⟨us, q, h1, h2, h3, by omega, by omega, hF _ _ h1 h6⟩
inductive WyD (K : PySem.W.Frag) (H : Hp) (F : Addr → Prop) (b : Bk) (n : Str) (A B : Nat) : List (Key × V) → List Str → Prop
  | nil : WyD K H F b n A B [] []
  | cons {k : Str} {l : Addr} {kvs : List (Key × V)} {ks : List Str} : Wy K H F b n A B k l → WyD K H F b n A B kvs ks → WyD K H F b n A B ((Sum.inr k, .ref l) :: kvs) (k :: ks)
theorem WyD.map (f : ∀ k l, Wy K H F b n A B k l → Wy K H' F' b n A' B' k l) : ∀ {kvs : List (Key × V)} {ks : List Str}, WyD K H F b n A B kvs ks → WyD K H' F' b n A' B' kvs ks
  | _, _, .nil => .nil
  | _, _, .cons h t => .cons (f _ _ h) (WyD.map f t)
theorem WyD.sb {kvs : List (Key × V)} {ks : List Str} (h : WyD K H F b n A B kvs ks) (e : SB ps H H') (hn : ∀ p ∈ ps, ¬ F p ∨ ∀ us, H p ≠ some (.lst us)) : WyD K H' F b n A B kvs ks := h.map fun _ _ => Wy.sb e hn
theorem WyD.imp {kvs : List (Key × V)} {ks : List Str} (h : WyD K H F b n A B kvs ks) (hA : A' ≤ A) (hB : B ≤ B') (hF : ∀ l us, H l = some (.lst us) → F l → F' l) : WyD K H F' b n A' B' kvs ks := h.map fun _ _ => Wy.imp hA hB hF
theorem WyD.append : ∀ {kvs kws : List (Key × V)} {ks js : List Str}, WyD K H F b n A B kvs ks → WyD K H F b n A B kws js → WyD K H F b n A B (kvs ++ kws) (ks ++ js)
  | _, _, _, _, .nil, h => h
  | _, _, _, _, .cons a t, h => .cons a (t.append h)
theorem WyD.length : ∀ {kvs : List (Key × V)} {ks : List Str}, WyD K H F b n A B kvs ks → kvs.length = ks.length
  | _, _, .nil => rfl
  | _, _, .cons _ t => congrArg (· + 1) t.length
theorem WyD.val : ∀ {kvs : List (Key × V)} {ks : List Str}, WyD K H F b n A B kvs ks → k ∈ ks → ∃ l, valV kvs (Sum.inr k) = some (.ref l) ∧ Wy K H F b n A B k l
  | _, _, .nil, h => by cases h
  | _, _, .cons (k := j) (l := l) a t, h => by
    by_cases e : j = k
    · subst e
      exact ⟨l, valV_pos rfl, a⟩
    · obtain ⟨l', h1, h2⟩ := t.val ((List.mem_cons.mp h).resolve_left fun z => e z.symm)
      exact ⟨l', by rw [valV_neg (fun z => e (Sum.inr.inj z))]; exact h1, h2⟩
theorem WyD.none : ∀ {kvs : List (Key × V)} {ks : List Str}, WyD K H F b n A B kvs ks → k ∉ ks → valV kvs (Sum.inr k) = none
  | _, _, .nil, h => rfl
  | _, _, .cons (k := j) a t, h => by
    rw [valV_neg (fun z => h (by rw [← Sum.inr.inj z]; exact List.mem_cons_self))]
    exact t.none fun z => h (List.mem_cons_of_mem _ z)
/-- heads with their walks -/
inductive HdAll (K : PySem.W.Frag) (H : Hp) (F : Addr → Prop) (b : Bk) (n : Str) (A B : Nat) : List V → List Str → Prop
  | nil : HdAll K H F b n A B [] []
  | cons {k : Str} {t l : Addr} {vs : List V} {ks : List Str} : SqT K H t [.str k, .ref l] → Wy K H F b n A B k l → HdAll K H F b n A B vs ks → HdAll K H F b n A B (.ref t :: vs) (k :: ks)
theorem HdAll.sb (e : SB ps H H') (hn : ∀ p ∈ ps, ¬ F p ∨ ∀ us, H p ≠ some (.lst us)) : ∀ {vs : List V} {ks : List Str}, HdAll K H F b n A B vs ks → HdAll K H' F b n A B vs ks
  | _, _, .nil => .nil
  | _, _, .cons a w t => .cons (e.sqT a) (w.sb e hn) (HdAll.sb e hn t)
theorem HdAll.imp (hA : A' ≤ A) (hB : B ≤ B') (hF : ∀ l us, H l = some (.lst us) → F l → F' l) : ∀ {vs : List V} {ks : List Str}, HdAll K H F b n A B vs ks → HdAll K H F' b n A' B' vs ks
  | _, _, .nil => .nil
  | _, _, .cons a w t => .cons a (w.imp hA hB hF) (HdAll.imp hA hB hF t)
theorem HdAll.append : ∀ {vs ws : List V} {ks js : List Str}, HdAll K H F b n A B vs ks → HdAll K H F b n A B ws js → HdAll K H F b n A B (vs ++ ws) (ks ++ js)
  | _, _, _, _, .nil, h => h
  | _, _, _, _, .cons a w t, h => .cons a w (t.append h)
theorem HdAll.length : ∀ {vs : List V} {ks : List Str}, HdAll K H F b n A B vs ks → vs.length = ks.length
  | _, _, .nil => rfl
  | _, _, .cons _ _ t => congrArg (· + 1) t.length
theorem HdAll.get : ∀ {vs : List V} {ks : List Str} {i : Nat} {v : V}, HdAll K H F b n A B vs ks → vs[i]? = some v → ∃ k t l, ks[i]? = some k ∧ v = .ref t ∧ SqT K H t [.str k, .ref l] ∧ Wy K H F b n A B k l
  | _, _, _, _, .nil, e => by simp at e
  | _, _, 0, _, .cons a w t, e => by
    obtain rfl := Option.some.inj e
    exact ⟨_, _, _, rfl, rfl, a, w⟩
  | _, _, i + 1, _, .cons a w t, e => t.get (i := i) e
/-- within a round of ways_from: gs are the kinds newly found, with their heads in G -/
structure WSt (K : PySem.W.Frag) (H H2 : Hp) (b : Bk) (n : Str) (Wd Fa G : Addr) (vs : List V) (hs ks gs : List Str) : Prop where
  sb : SB [] H H2
  wd : ∃ kvs, H2 Wd = some (.dK kvs) ∧ WyD K H2 (fun l => H l = none ∧ l ≠ G) b n 1 (ks.length + 1) kvs (ks ++ gs)
  g : ∃ ws, H2 G = some (.lst ws) ∧ HdAll K H2 (fun l => H l = none ∧ l ≠ G) b n 1 (ks.length + 1) ws gs
  fa : H2 Fa = some (.lst vs)
  hd : HdAll K H2 (fun l => H l = none ∧ l ≠ G) b n 0 ks.length vs hs
  nd : (ks ++ gs).Nodup
  rc : ∀ x ∈ ks ++ gs, Rch b n x
theorem WSt.keep {H2 H3 : Hp} {Wd Fa G : Addr} {vs : List V} {hs ks gs : List Str} (h : WSt K H H2 b n Wd Fa G vs hs ks gs) (s : SB [] H2 H3) : WSt K H H3 b n Wd Fa G vs hs ks gs := by
  obtain ⟨h1, ⟨kvs, h2, h3⟩, ⟨ws, h4, h5⟩, h6, h7, h8, h9⟩ := h
  have z : ∀ p ∈ ([] : List Addr), ¬ (fun l => H l = none ∧ l ≠ G) p ∨ ∀ us, H2 p ≠ some (.lst us) := fun _ y => nomatch y
  exact ⟨h1.trans s, ⟨kvs, s.keep _ _ h2 List.not_mem_nil, h3.sb s z⟩, ⟨ws, s.keep _ _ h4 List.not_mem_nil, h5.sb s z⟩, s.keep _ _ h6 List.not_mem_nil, h7.sb s z, h8, h9⟩
end
end FT
namespace FT
open PySem PySem.W PySem.Spec PyProof.Rows L2
theorem Rd.sb {H H' : Hp} {d : Addr} {kvs : List (Key × V)} (h : L2.Rd H d (.dK kvs)) (s : SB [] H H') : L2.Rd H' d (.dK kvs) := by
  rcases h with h | ⟨o, h⟩
  · exact .inl (s.keep _ _ h List.not_mem_nil)
  · exact .inr ⟨o, s.frzs _ _ _ h⟩
end FT
namespace FT
open PySem PySem.W PySem.Spec PyProof.Rows L2
theorem sumE_cons {γ : Type} [DecidableEq γ] (p : γ × Int) (r : List (γ × Int)) (x : γ) : sumE (p :: r) x = (if p.1 = x then p.2 else 0) + sumE r x := rfl
namespace Gr
def woL (t : Tr) (m : Int) : List (Tr × Int) → List (Tr × Int)
  | [] => []
  | p :: r => if p.1 ≠ t then p :: woL t m r else if m < p.2 then (p.1, p.2 - m) :: woL t m r else woL t m r
theorem woL_mem {t : Tr} {m : Int} (hm : 0 ≤ m) : ∀ {bs : List (Tr × Int)} {p : Tr × Int}, p ∈ woL t m bs → ∃ q ∈ bs, q.1 = p.1 ∧ p.2 ≤ q.2 ∧ (1 ≤ q.2 → 1 ≤ p.2)
  | [], _, h => nomatch h
  | q :: r, p, h => by
    rw [woL] at h
    split at h
    · rcases List.mem_cons.mp h with e | h
      · exact ⟨q, by simp, by rw [e], by rw [e]; exact Int.le_refl _, by rw [e]; exact id⟩
      · obtain ⟨q', h1, h2⟩ := woL_mem hm h; exact ⟨q', by simp [h1], h2⟩
    · split at h
      · rcases List.mem_cons.mp h with e | h
        · exact ⟨q, by simp, by rw [e], by rw [e]; show q.2 - m ≤ q.2; omega, by rw [e]; show _ → 1 ≤ q.2 - m; omega⟩
        · obtain ⟨q', h1, h2⟩ := woL_mem hm h; exact ⟨q', by simp [h1], h2⟩
      · obtain ⟨q', h1, h2⟩ := woL_mem hm h; exact ⟨q', by simp [h1], h2⟩
theorem woL_key {t : Tr} {m : Int} : ∀ {bs : List (Tr × Int)} {p : Tr × Int}, p ∈ woL t m bs → ∃ q ∈ bs, q.1 = p.1
  | [], _, h => nomatch h
  | q :: r, p, h => by
    rw [woL] at h
    split at h
    · rcases List.mem_cons.mp h with e | h
      · exact ⟨q, by simp, by rw [e]⟩
      · obtain ⟨q', h1, h2⟩ := woL_key h; exact ⟨q', by simp [h1], h2⟩
    · split at h
      · rcases List.mem_cons.mp h with e | h
        · exact ⟨q, by simp, by rw [e]⟩
        · obtain ⟨q', h1, h2⟩ := woL_key h; exact ⟨q', by simp [h1], h2⟩
      · obtain ⟨q', h1, h2⟩ := woL_key h; exact ⟨q', by simp [h1], h2⟩
theorem woL_pair {R : Tr → Tr → Prop} {t : Tr} {m : Int} : ∀ {bs : List (Tr × Int)}, bs.Pairwise (fun p q => R p.1 q.1) → (woL t m bs).Pairwise (fun p q => R p.1 q.1)
  | [], _ => .nil
  | p :: r, h => by
    obtain ⟨h1, h2⟩ := List.pairwise_cons.mp h
    have ih := woL_pair (t := t) (m := m) h2
    have hk : ∀ q ∈ woL t m r, R p.1 q.1 := fun q hq => by
      obtain ⟨q', hq', e⟩ := woL_key hq
      rw [← e]; exact h1 q' hq'
    rw [woL]
    split
    · exact List.pairwise_cons.mpr ⟨hk, ih⟩
    · split
      · exact List.pairwise_cons.mpr ⟨hk, ih⟩
      · exact ih
theorem woL_tot (t : Tr) (m : Int) : ∀ bs : List (Tr × Int), tot (woL t m bs) ≤ tot bs
  | [] => Nat.le_refl _
  | p :: r => by
    have ih := woL_tot t m r
    rw [woL]
    split
    · simp only [tot]; omega
    · split
      · simp only [tot]; omega
      · simp only [tot]; omega
theorem woL_len (t : Tr) (m : Int) : ∀ bs : List (Tr × Int), (woL t m bs).length ≤ bs.length
  | [] => Nat.le_refl _
  | p :: r => by
    have ih := woL_len t m r
    rw [woL]
    split
    · simp only [List.length_cons]; omega
    · split
      · simp only [List.length_cons]; omega
      · simp only [List.length_cons]; omega
/-- without so many of a tree -/
def wo (g : Gr) (t : Tr) (m : Int) : Gr := ofPs (woL t m g.ps)
theorem wo_ps (g : Gr) (t : Tr) (m : Int) : (wo g t m).ps = woL t m g.ps := ps_ofPs _
variable {C D E : Int} {g k : Gr}
theorem ok_ne (h : g.Ok C) : g.ps.Pairwise (fun p q => p.1 ≠ q.1) := (ok_iff.mp h).2.imp fun z => ol_ne z
theorem wo_ok (h : g.Ok C) {t : Tr} {m : Int} (hm : 0 ≤ m) : (wo g t m).Ok C := by
  obtain ⟨h1, h2⟩ := ok_iff.mp h
  refine ok_ps.mpr ⟨fun p hp => ?_, woL_pair (R := fun a b => dataLt (tEnc a) (tEnc b) = true) h2⟩
  obtain ⟨q, hq, e, l, o⟩ := woL_mem hm hp
  obtain ⟨a, b, c, d⟩ := h1 q hq
  rw [← e]
  exact ⟨a, b, o c, by omega⟩
theorem wo_parts (g : Gr) (t : Tr) (m : Int) : (wo g t m).parts ≤ g.parts := by
  rw [wo, parts_ofPs, ← tot_ps g]; exact woL_tot _ _ _
theorem wo_len (g : Gr) (t : Tr) (m : Int) : (wo g t m).ps.length ≤ g.ps.length := by rw [wo_ps]; exact woL_len _ _ _
theorem wo_deep (g : Gr) (t : Tr) (m : Int) : (wo g t m).deep ≤ g.deep := by
  refine deep_le fun p hp => ?_
  rw [wo_ps] at hp
  obtain ⟨q, hq, e⟩ := woL_key hp
  rw [← e]; exact mem_deep g q hq
theorem sumE_mem : ∀ {bs : List (Tr × Int)}, bs.Pairwise (fun p q => p.1 ≠ q.1) → ∀ p ∈ bs, sumE bs p.1 = p.2
  | [], _, _, h => nomatch h
  | q :: r, h, p, hp => by
    obtain ⟨h1, h2⟩ := List.pairwise_cons.mp h
    rw [sumE_cons]
    rcases List.mem_cons.mp hp with e | hp
    · rw [e, if_pos rfl, S_zero fun q' hq' z => h1 q' hq' z.symm, Int.add_zero]
    · rw [if_neg (h1 p hp), Int.zero_add]; exact sumE_mem h2 p hp
theorem S_mem (h : g.Ok C) {p : Tr × Int} (hp : p ∈ g.ps) : S g p.1 = p.2 := sumE_mem (ok_ne h) p hp
theorem S_cases (h : g.Ok C) (x : Tr) : (S g x = 0 ∧ ∀ p ∈ g.ps, p.1 ≠ x) ∨ ∃ m, (x, m) ∈ g.ps ∧ S g x = m ∧ 1 ≤ m ∧ m < C := by
  by_cases e : ∃ p ∈ g.ps, p.1 = x
  · obtain ⟨p, hp, rfl⟩ := e
    obtain ⟨_, _, c, d⟩ := (ok_iff.mp h).1 p hp
    exact .inr ⟨p.2, hp, S_mem h hp, c, d⟩
  · have h' : ∀ p ∈ g.ps, p.1 ≠ x := fun p hp z => e ⟨p, hp, z⟩
    exact .inl ⟨S_zero h', h'⟩
theorem S_lt (h : g.Ok C) (hC : 1 ≤ C) (x : Tr) : S g x < C := by
  rcases S_cases h x with ⟨e, _⟩ | ⟨m, _, e, _, h1⟩
  · omega
  · omega
/-- two groves together, by what the numbers come to -/
theorem tgt_okM (hg : ∀ p ∈ g.ps, NameOk p.1.1 ∧ p.1.2.Ok E ∧ 1 ≤ p.2) (hk : ∀ p ∈ k.ps, NameOk p.1.1 ∧ p.1.2.Ok E ∧ 1 ≤ p.2) (h : ∀ t, S g t + S k t < E) : (tgt g k).Ok E := by
  have hr := tdy_rise (enc := tEnc) (g.ps ++ k.ps)
  have hall : ∀ p ∈ g.ps ++ k.ps, NameOk p.1.1 ∧ p.1.2.Ok E ∧ 1 ≤ p.2 := fun p hp => (List.mem_append.mp hp).elim (hg p) (hk p)
  refine ok_ps.mpr ⟨fun p hp => ?_, hr⟩
  obtain ⟨q, hq, e⟩ := tdy_keys (enc := tEnc) _ p hp
  obtain ⟨a, b, _⟩ := hall q hq
  have h1 := (tdy_pos (enc := tEnc) (fun p hp => (hall p hp).2.2) p hp).1
  have e2 : sumE (tdy tEnc (g.ps ++ k.ps)) p.1 = p.2 := sumE_mem (hr.imp fun z => ol_ne z) p hp
  rw [tdy_sum, sumE_append] at e2
  have := h p.1
  refine ⟨e ▸ a, e ▸ b, h1, ?_⟩
  show p.2 < E
  rw [← e2]; exact this
theorem ok_three (h : g.Ok C) (hC : C ≤ E) : ∀ p ∈ g.ps, NameOk p.1.1 ∧ p.1.2.Ok E ∧ 1 ≤ p.2 := fun p hp => by
  obtain ⟨a, b, c, _⟩ := (ok_iff.mp h).1 p hp
  exact ⟨a, b.mono hC, c⟩
theorem tgt_ok2 (hg : g.Ok C) (hk : k.Ok D) (hC : 1 ≤ C) (hD : 1 ≤ D) : (tgt g k).Ok (C + D) := by
  refine tgt_okM (ok_three hg (by omega)) (ok_three hk (by omega)) fun t => ?_
  have := S_lt hg hC t
  have := S_lt hk hD t
  omega
theorem tgt_nil (hg : g.Ok C) : tgt g .nil = g := by
  have hS : ∀ t, S (tgt g .nil) t = S g t := fun t => by rw [S_tgt]; exact Int.add_zero _
  cases g with
  | nil => exact ext (tgt_ok2 (C := 1) (D := 1) (g := .nil) (k := .nil) trivial trivial (by omega) (by omega)) hg hS
  | cons n h m r =>
    have hC : 1 ≤ C := by have := hg.2.2.1; have := hg.2.2.2.1; omega
    exact ext (tgt_ok2 hg (k := .nil) (D := 1) trivial hC (by omega)) hg hS
/-- one kind of tree, so many -/
def one (t : Tr) (m : Int) : Gr := .cons t.1 t.2 m .nil
theorem one_ok {t : Tr} {m : Int} (h1 : NameOk t.1) (h2 : t.2.Ok C) (h3 : 1 ≤ m) (h4 : m < C) : (one t m).Ok C := ⟨h1, h2, h3, h4, trivial, fun _ h => nomatch h⟩
end Gr
end FT
namespace FT
open PySem PySem.W PySem.Spec PyProof.Rows L2
def Wd (d : PyData) : Prop := d.canLay0 = true ∧ d.depth ≤ 190
theorem Wd.of {d : PyData} (h : SeqAt.shaped d = true) : Wd d := ⟨SeqAt.canLay_of_shaped h, by have := SeqAt.depth_of_shaped h; omega⟩
theorem Gr.wd {C : Int} {g : Gr} (h : g.Ok C) (hd : g.deep ≤ 63) : Wd g.enc := ⟨by simp [Gr.enc, PyData.canLay0, Gr.lays h], by have := g.enc_depth; omega⟩
end FT
namespace FT
open PySem PySem.W PySem.Spec PyProof.Rows L2
namespace Gr
variable {b : Bk} {n : Int} {C F E : Int} {g fr : Gr}
theorem ok_mem (h : g.Ok C) {p : Tr × Int} (hp : p ∈ g.ps) : NameOk p.1.1 ∧ p.1.2.Ok C ∧ 1 ≤ p.2 ∧ p.2 < C := (ok_iff.mp h).1 p hp
end Gr
end FT
namespace FT
open PySem PySem.W PySem.Spec PyProof.Rows L2
theorem Wh.int {K : PySem.W.Frag} {H : Hp} {v : V} {n : Int} (h : Wh K H v (some n)) : v = .int n := by
  rcases h with ⟨i, rfl, e⟩ | ⟨e, _⟩
  · rw [Option.some.inj e]
  · cases e
end FT
namespace FT
open PySem PySem.W PySem.Spec PyProof.Rows L2
/-- taken away one by one, if there is enough -/
def Gr.exc (g : Gr) : List (Tr × Int) → Option Gr
  | [] => some g
  | p :: r => if Gr.S g p.1 < p.2 then none else Gr.exc (Gr.wo g p.1 p.2) r
namespace Gr
variable {C F : Int} {g : Gr} {b : Bk} {n : Int}
theorem exc_ok : ∀ {ps : List (Tr × Int)} {g l : Gr}, g.Ok C → (∀ p ∈ ps, 0 ≤ p.2) → exc g ps = some l → l.Ok C ∧ l.parts ≤ g.parts ∧ l.deep ≤ g.deep ∧ l.ps.length ≤ g.ps.length
  | [], g, l, ho, _, h => by rw [← Option.some.inj h]; exact ⟨ho, Nat.le_refl _, Nat.le_refl _, Nat.le_refl _⟩
  | p :: r, g, l, ho, hp, h => by
    rw [exc] at h
    split at h
    · cases h
    · have h0 := hp p (by simp)
      obtain ⟨a1, a2, a3, a4⟩ := exc_ok (wo_ok ho h0) (fun q hq => hp q (by simp [hq])) h
      have := wo_parts g p.1 p.2
      have := wo_deep g p.1 p.2
      have := wo_len g p.1 p.2
      exact ⟨a1, by omega, by omega, by omega⟩
end Gr
end FT
namespace FT
open PySem PySem.W PySem.Spec PyProof.Rows L2
inductive RowAll (K : PySem.W.Frag) (H : Hp) : List (Key × V) → Bk → Prop
  | nil : RowAll K H [] []
  | cons {l : Addr} {zs : List V} {k : Kd} {kvs : List (Key × V)} {b : Bk} : H l = some (.lst zs) → Bears K H Ru.enc zs k.rs → RowAll K H kvs b → RowAll K H ((Sum.inr k.n, .ref l) :: kvs) (k :: b)
section
variable {K : PySem.W.Frag} {H H' : Hp}
theorem RowAll.sb {ps : List Addr} (e : SB ps H H') : ∀ {kvs : List (Key × V)} {b : Bk}, RowAll K H kvs b → (∀ p ∈ kvs, ∀ q ∈ ps, p.2 ≠ .ref q) → RowAll K H' kvs b
  | _, _, .nil, _ => .nil
  | _, _, .cons h1 h2 h3, n => .cons (e.keep _ _ h1 fun z => n _ (List.mem_cons_self ..) _ z rfl) (h2.sb e Ru.noList_enc) (RowAll.sb e h3 fun p hp => n p (List.mem_cons_of_mem _ hp))
theorem RowAll.append : ∀ {kvs kws : List (Key × V)} {b c : Bk}, RowAll K H kvs b → RowAll K H kws c → RowAll K H (kvs ++ kws) (b ++ c)
  | _, _, _, _, .nil, h => h
  | _, _, _, _, .cons h1 h2 h3, h => .cons h1 h2 (RowAll.append h3 h)
theorem RowAll.ne {q : Addr} (hq : H q = none) : ∀ {kvs : List (Key × V)} {b : Bk}, RowAll K H kvs b → ∀ p ∈ kvs, p.2 ≠ .ref q
  | _, _, .nil, _, hp => nomatch hp
  | _, _, .cons h1 _ h3, p, hp => by
    rcases List.mem_cons.mp hp with e | hp
    · rw [e]; intro z; rw [V.ref.inj z] at h1; rw [hq] at h1; cases h1
    · exact RowAll.ne hq h3 p hp
theorem RowAll.length : ∀ {kvs : List (Key × V)} {b : Bk}, RowAll K H kvs b → kvs.length = b.length
  | _, _, .nil => rfl
  | _, _, .cons _ _ h => by rw [List.length_cons, List.length_cons, RowAll.length h]
theorem RowAll.val {n : Str} {k : Kd} : ∀ {kvs : List (Key × V)} {b : Bk}, RowAll K H kvs b → b.get n = some k → ∃ l zs, valV kvs (Sum.inr n) = some (.ref l) ∧ H l = some (.lst zs) ∧ Bears K H Ru.enc zs k.rs
  | _, _, .nil, e => nomatch e
  | _, _, .cons (l := l) (zs := zs) (k := k') h1 h2 h3, e => by
    unfold Bk.get at e
    rw [List.find?_cons] at e
    by_cases z : k'.n = n
    · rw [decide_eq_true z] at e
      have e := Option.some.inj e
      subst e
      exact ⟨l, zs, by rw [valV, List.find?_cons, decide_eq_true (by rw [z])]; rfl, h1, h2⟩
    · rw [decide_eq_false z] at e
      obtain ⟨l', zs', a, b', c⟩ := RowAll.val h3 e
      exact ⟨l', zs', by rw [valV, List.find?_cons, decide_eq_false (fun y => z (Sum.inr.inj y))]; exact a, b', c⟩
end
theorem Wlk.snoc {b : Bk} {n : Str} {p : List Sx} {s : Sx} {k : Str} (h : Wlk b n (p ++ [s]) k) : ∃ m kd, Wlk b n p m ∧ b.get m = some kd ∧ s ∈ kd.steps ∧ k = s.k := by
  generalize e : p ++ [s] = l at h
  cases h with
  | nil => exact absurd e (by simp)
  | step w eg hs =>
    obtain ⟨e1, e2⟩ := List.append_inj' e rfl
    have e2 := (List.cons.inj e2).1
    subst e1 e2
    exact ⟨_, _, w, eg, hs, rfl⟩
theorem Wlk.of_nil {b : Bk} {n k : Str} (h : Wlk b n [] k) : k = n := by
  generalize e : ([] : List Sx) = l at h
  cases h with
  | nil => rfl
  | step _ _ _ => exact absurd e (by simp)
theorem Wlk.det {b : Bk} {n : Str} : ∀ {p : List Sx} {k j : Str}, Wlk b n p k → Wlk b n p j → k = j := by
  intro p k j h g
  rcases List.eq_nil_or_concat p with rfl | ⟨q, s, rfl⟩
  · rw [h.of_nil, g.of_nil]
  · rw [List.concat_eq_append] at h g
    obtain ⟨_, _, _, _, _, e1⟩ := h.snoc
    obtain ⟨_, _, _, _, _, e2⟩ := g.snoc
    rw [e1, e2]
theorem Wlk.at {b : Bk} {n : Str} : ∀ {p : List Sx} {k : Str} {j : Nat} {s : Sx}, Wlk b n p k → p[j]? = some s → ∀ m, Wlk b n (p.take j) m → ∃ kd, b.get m = some kd ∧ s ∈ kd.steps := by
  intro p k j s h
  induction h with
  | nil => intro e; exact nomatch e
  | @step p m' kd s' w eg hs ih =>
    intro e m wm
    by_cases hj : j < p.length
    · rw [List.getElem?_append_left hj] at e
      rw [List.take_append_of_le_length (by omega)] at wm
      exact ih e m wm
    · rw [List.getElem?_append_right (by omega)] at e
      have hj2 : j = p.length := by
        obtain ⟨h1, _⟩ := List.getElem?_eq_some_iff.mp e
        simp only [List.length_cons, List.length_nil] at h1
        omega
      subst hj2
      rw [List.take_left] at wm
      rw [Nat.sub_self] at e
      have e := Option.some.inj e
      subst e
      have := wm.det w
      subst this
      exact ⟨kd, eg, hs⟩
theorem SB.drops2 {p q : Addr} {H H' : Hp} (s : SB [p, q] H H') (hp : H p = none) (hq : H q = none) : SB [] H H' := s.drops fun x hx => by
  rcases List.mem_cons.mp hx with e | hx
  · rw [e]; exact hp
  · rw [List.mem_singleton.mp hx]; exact hq
end FT
namespace FT
open PySem PySem.W PySem.Spec PyProof.Rows L2
section
variable {γ : Type} [DecidableEq γ]
/-- a weighted sum -/
def wsum (f : γ → Int) (l : List (γ × Int)) : Int := match l with
  | [] => 0
  | p :: r => f p.1 * p.2 + wsum f r
theorem wsum_append (f : γ → Int) : ∀ as bs : List (γ × Int), wsum f (as ++ bs) = wsum f as + wsum f bs
  | [], bs => by simp [wsum]
  | p :: r, bs => by show _ + wsum f (r ++ bs) = _; rw [wsum_append f r bs, wsum]; omega
theorem wsum_out (f : γ → Int) (t : γ) : ∀ l : List (γ × Int), wsum f l = f t * sumE l t + wsum f (l.filter fun p => decide (p.1 ≠ t))
  | [] => by simp [wsum, sumE]
  | p :: r => by
    have ih := wsum_out f t r
    by_cases e : p.1 = t
    · rw [List.filter_cons_of_neg (by simpa using e)]
      show f p.1 * p.2 + wsum f r = f t * ((if p.1 = t then p.2 else 0) + sumE r t) + _
      rw [if_pos e, Int.mul_add, e, ih]; omega
    · rw [List.filter_cons_of_pos (by simpa using e)]
      show f p.1 * p.2 + wsum f r = f t * ((if p.1 = t then p.2 else 0) + sumE r t) + (f p.1 * p.2 + _)
      rw [if_neg e, Int.zero_add, ih]; omega
theorem sumE_out (t x : γ) : ∀ l : List (γ × Int), sumE (l.filter fun p => decide (p.1 ≠ t)) x = if x = t then 0 else sumE l x
  | [] => by simp [sumE]
  | p :: r => by
    have ih := sumE_out t x r
    by_cases e : p.1 = t
    · rw [List.filter_cons_of_neg (by simpa using e), ih]
      by_cases hx : x = t
      · rw [if_pos hx, if_pos hx]
      · rw [if_neg hx, if_neg hx, sumE_cons, if_neg (by rw [e]; exact fun z => hx z.symm), Int.zero_add]
    · rw [List.filter_cons_of_pos (by simpa using e), sumE_cons, ih]
      by_cases hx : x = t
      · rw [if_pos hx, if_pos hx, if_neg (by rw [hx]; exact e)]; rfl
      · rw [if_neg hx, if_neg hx, sumE_cons]
theorem filter_short {p : γ × Int} {r : List (γ × Int)} : ((p :: r).filter fun q => decide (q.1 ≠ p.1)).length ≤ r.length := by
  rw [List.filter_cons_of_neg (by simp)]; exact List.length_filter_le _ _
theorem wsum_ext (f : γ → Int) : ∀ (n : Nat) (as bs : List (γ × Int)), as.length + bs.length ≤ n → (∀ x, sumE as x = sumE bs x) → wsum f as = wsum f bs
  | n, [], [], _, _ => rfl
  | 0, p :: r, bs, h, _ => by simp at h
  | 0, [], p :: r, h, _ => by simp at h
  | n + 1, p :: r, bs, h, e => by
    rw [wsum_out f p.1 (p :: r), wsum_out f p.1 bs, e p.1, wsum_ext f n ((p :: r).filter fun q => decide (q.1 ≠ p.1)) (bs.filter fun q => decide (q.1 ≠ p.1)) ?_ fun x => ?_]
    · have h1 := filter_short (p := p) (r := r)
      have h2 := List.length_filter_le (fun q : γ × Int => decide (q.1 ≠ p.1)) bs
      simp only [List.length_cons] at h
      omega
    · rw [sumE_out, sumE_out, e]
  | n + 1, [], p :: r, h, e => by
    rw [wsum_out f p.1 (p :: r), wsum_out f p.1 [], ← e p.1, wsum_ext f n (([] : List (γ × Int)).filter fun q => decide (q.1 ≠ p.1)) ((p :: r).filter fun q => decide (q.1 ≠ p.1)) ?_ fun x => ?_]
    · have h1 := filter_short (p := p) (r := r)
      simp only [List.length_cons, List.length_nil, List.filter_nil] at h ⊢
      omega
    · rw [sumE_out, sumE_out, e]
end
section
variable {K : PySem.W.Frag} {H H' : Hp} {d : Addr} {f : Str → Int} {L : Nat}
def kvI (p : Str × Int) : Key × V := (Sum.inr p.1, .int p.2)
def DN (H : Hp) (d : Addr) (f : Str → Int) (L : Nat) : Prop := ∃ l : List (Str × Int), H d = some (.dK (l.map kvI)) ∧ (l.map (·.1)).Nodup ∧ l.length ≤ L ∧ ∀ x, sumE l x = f x
theorem sumE_key : ∀ (l : List (Str × Int)) {k : Str}, k ∉ l.map (·.1) → sumE l k = 0
  | [], _, _ => rfl
  | p :: r, k, h => by
    rw [List.map_cons, List.mem_cons, not_or] at h
    rw [sumE_cons, if_neg fun z => h.1 z.symm, sumE_key r h.2]; rfl
theorem valI : ∀ (l : List (Str × Int)), (l.map (·.1)).Nodup → ∀ k, (valV (l.map kvI) (Sum.inr k)).getD (.int 0) = .int (sumE l k)
  | [], _, _ => rfl
  | p :: r, h, k => by
    rw [List.map_cons, List.nodup_cons] at h
    rw [List.map_cons, sumE_cons]
    by_cases e : p.1 = k
    · rw [valV_pos (by rw [kvI, e]), if_pos e, sumE_key r (by rw [← e]; exact h.1)]
      show V.int p.2 = _
      rw [Int.add_zero]
    · rw [valV_neg (by rw [kvI]; exact fun z => e (Sum.inr.inj z)), if_neg e, Int.zero_add]
      exact valI r h.2 k
theorem DN.get (h : DN H d f L) (k : Str) : ∃ o, DGet H d (.str k) o ∧ o.getD (.int 0) = .int (f k) := by
  obtain ⟨l, e, nd, _, s⟩ := h
  exact ⟨_, DGet.k (k := Sum.inr k) e, by rw [valI l nd, s]⟩
theorem DN.sb {ps : List Addr} (h : DN H d f L) (s : SB ps H H') (hd : d ∉ ps) : DN H' d f L := by
  obtain ⟨l, e, r⟩ := h
  exact ⟨l, s.keep _ _ e hd, r⟩
theorem DN.ext {g : Str → Int} {M : Nat} (h : DN H d f L) (e : ∀ x, f x = g x) (hl : L ≤ M) : DN H d g M := by
  obtain ⟨l, a, b, c, s⟩ := h
  exact ⟨l, a, b, by omega, fun x => by rw [s, e]⟩
theorem DN.new {ps : List Addr} (hd : H d = none) : DN (upd H d (.dK [])) d (fun _ => 0) 0 := ⟨[], upd_same, by simp, Nat.le_refl _, fun _ => rfl⟩
end
theorem DN.upd {H : Hp} {d a : Addr} {f : Str → Int} {L : Nat} (h : DN H d f L) (n : d ≠ a) (o : HO) : DN (upd H a o) d f L := by
  obtain ⟨l, e, r⟩ := h
  exact ⟨l, by rw [upd_ne n]; exact e, r⟩
end FT
namespace FT
open PySem PySem.W PySem.Spec PyProof.Rows L2
/-- no dict, or one that stands -/
def ExD (H : Hp) (d : Option Addr) : Prop := d = none ∨ ∃ dd fs, d = some dd ∧ H dd = some (.xd fs)
theorem ExD.sb {H H' : Hp} {d : Option Addr} (h : ExD H d) (s : SB [] H H') : ExD H' d := by
  rcases h with h | ⟨dd, fs, h, g⟩
  · exact .inl h
  · exact .inr ⟨dd, fs, h, s.keep _ _ g List.not_mem_nil⟩
structure ErrsM (K : PySem.W.Frag) (mg : Str → Option Value) (c : Str → Addr) (caught names kinds : List Str) : Prop where
  glo : ∀ n ∈ names, mg n = some (.ref (c n))
  FellError : mg "FellError" = some (.ref (c "FellError"))
  ve : mg "ValueError" = none
  exc : ∀ n ∈ caught, ExcC K (c n)
  exm : ∀ n ∈ caught, PySem.W.exmOne K (.ref (c n)) (.ref (c "FellError")) = some true
  kve : ∀ n ∈ caught, PySem.W.kitOne K (.ref (c n)) (.type "ValueError") = some true
  kit : ∀ n ∈ caught, ∀ m ∈ names, PySem.W.kitOne K (.ref (c n)) (.ref (c m)) = some (decide (n = m))
  nok : ∀ n ∈ kinds, PySem.W.findIn K (.ref (c n)) "kind" = some none
theorem ErrsM.any {K : PySem.W.Frag} {mg : Str → Option Value} {c : Str → Addr} {caught names kinds : List Str} (T : ErrsM K mg c caught names kinds) {n : Str} (hn : n ∈ caught) : ∀ {ms : List Str}, (∀ m ∈ ms, m ∈ names) → PySem.W.kitAny K (.ref (c n)) (ms.map fun m => .ref (c m)) = some (decide (n ∈ ms))
  | [], _ => by simp [PySem.W.kitAny]
  | m :: r, h => by
    have e := T.kit n hn m (h m List.mem_cons_self)
    have e2 := T.any hn (ms := r) fun x hx => h x (List.mem_cons_of_mem _ hx)
    rw [List.map_cons, PySem.W.kitAny, e]
    by_cases z : n = m
    · simp [z]
    · simp [z, e2]
end FT
namespace FT
open PySem PySem.W PySem.Spec PyProof.Rows L2
abbrev Rw := Pl × Tr × Int
def arE (x : Rw) : PyData := .tuple [plEnc x.1, Gr.tEnc x.2.1, .int x.2.2]
theorem arE_noList (x : Rw) : noList (arE x) = true := by simp [arE, noList, noLists, pl_noList, Gr.noList_tEnc]
theorem arE_depth (x : Rw) : (arE x).depth ≤ 3 * x.2.1.2.deep + 3 := by
  have e1 := pl_depth x.1
  have e2 := Gr.tEnc_depth x.2.1
  simp only [arE, PyData.depth, PyData.depthAll]
  omega
instance : Orderly arE where
  al a b := by simp [arE, alike, alikeAll, Orderly.al (enc := plEnc) a.1 b.1, Orderly.al (enc := Gr.tEnc) a.2.1 b.2.1]
  eq a b := by
    simp only [arE, PyData.eqv, PyData.eqvAll, Orderly.eq (enc := plEnc), Orderly.eq (enc := Gr.tEnc), Bool.and_true, ib]
    by_cases h : a = b
    · subst h; simp
    · rw [decide_eq_false h]
      refine Bool.eq_false_iff.mpr fun z => h ?_
      simp only [Bool.and_eq_true, decide_eq_true_eq] at z
      exact Prod.ext z.1 (Prod.ext z.2.1 z.2.2)
theorem arE_lt {a b : Rw} (h : dataLt (plEnc b.1) (plEnc a.1) = false) (hne : b.1 ≠ a.1) : dataLt (arE b) (arE a) = false := by
  show dataLt (.tuple (plEnc b.1 :: _)) (.tuple (plEnc a.1 :: _)) = false
  rw [dataLt_tuple, dataLt_cons (Orderly.al (enc := plEnc) _ _), Orderly.eq (enc := plEnc), if_neg (by simp [hne])]
  exact h
namespace Gr
def ar : Gr → Nat → Int → List Rw
  | .nil, _, _ => []
  | .cons k g m r, i, f => (([i], (k, g), f * m) :: (g.ar 0 (f * m)).map fun x => (i :: x.1, x.2)) ++ r.ar (i + 1) f
def arP (p : Tr × Int) (i : Nat) (f : Int) : List Rw := ([i], p.1, f * p.2) :: (p.1.2.ar 0 (f * p.2)).map fun x => (i :: x.1, x.2)
def ars : List (Tr × Int) → Nat → Int → List Rw
  | [], _, _ => []
  | p :: r, i, f => arP p i f ++ ars r (i + 1) f
theorem ar_ps : ∀ (g : Gr) (i : Nat) (f : Int), g.ar i f = ars g.ps i f
  | .nil, _, _ => rfl
  | .cons k g m r, i, f => by
    show (_ ++ r.ar (i + 1) f) = arP ((k, g), m) i f ++ ars r.ps (i + 1) f
    rw [ar_ps r]; rfl
theorem ars_drop {bs : List (Tr × Int)} {i : Nat} {p : Tr × Int} (h : bs[i]? = some p) (f : Int) : ars (bs.drop i) i f = arP p i f ++ ars (bs.drop (i + 1)) (i + 1) f := by
  obtain ⟨hl, e⟩ := List.getElem?_eq_some_iff.mp h
  rw [List.drop_eq_getElem_cons hl, e]; rfl
theorem ar_len : ∀ (g : Gr) (i : Nat) (f : Int), (g.ar i f).length = g.parts
  | .nil, _, _ => rfl
  | .cons k g m r, i, f => by
    show (_ ++ r.ar (i + 1) f).length = 1 + g.parts + r.parts
    rw [List.length_append, List.length_cons, List.length_map, ar_len g, ar_len r]
    omega
theorem ar_head : ∀ (g : Gr) (i : Nat) (f : Int), ∀ x ∈ g.ar i f, ∃ h t, x.1 = h :: t ∧ i ≤ h
  | .nil, _, _, x, h => by cases h
  | .cons k g m r, i, f, x, h => by
    rcases List.mem_append.mp h with h | h
    · rcases List.mem_cons.mp h with h | h
      · rw [h]; exact ⟨i, [], rfl, Nat.le_refl _⟩
      · obtain ⟨q, _, rfl⟩ := List.mem_map.mp h
        exact ⟨i, q.1, rfl, Nat.le_refl _⟩
    · obtain ⟨a, t, e, hl⟩ := ar_head r (i + 1) f x h
      exact ⟨a, t, e, by omega⟩
theorem ar_pl : ∀ (g : Gr) (i : Nat) (f : Int), (g.ar i f).Pairwise fun a b => dataLt (plEnc b.1) (plEnc a.1) = false ∧ b.1 ≠ a.1
  | .nil, _, _ => List.Pairwise.nil
  | .cons k g m r, i, f => by
    have h1 := ar_pl g 0 (f * m)
    have h2 := ar_pl r (i + 1) f
    show (_ ++ r.ar (i + 1) f).Pairwise _
    rw [List.pairwise_append]
    refine ⟨?_, h2, fun a ha b hb => ?_⟩
    · rw [List.pairwise_cons]
      refine ⟨fun b hb => ?_, ?_⟩
      · obtain ⟨q, hq, rfl⟩ := List.mem_map.mp hb
        obtain ⟨h, t, e, _⟩ := ar_head g 0 _ q hq
        refine ⟨?_, fun z => by rw [e] at z; cases z⟩
        show dataLt (plEnc (i :: q.1)) (plEnc [i]) = false
        rw [pl_lt_cons, if_pos rfl, e]
        show dataLt (.tuple _) (.tuple []) = false
        simp [dataLt_tuple, plInts]
        rfl
      · rw [List.pairwise_map]
        refine h1.imp fun {a b} hab => ⟨?_, fun z => hab.2 (List.cons.inj z).2⟩
        show dataLt (plEnc (i :: b.1)) (plEnc (i :: a.1)) = false
        rw [pl_lt_cons, if_pos rfl]; exact hab.1
    · obtain ⟨hb1, tb, eb, hbi⟩ := ar_head r (i + 1) f b hb
      have : ∃ t, a.1 = i :: t := by
        rcases List.mem_cons.mp ha with h | h
        · rw [h]; exact ⟨[], rfl⟩
        · obtain ⟨q, _, rfl⟩ := List.mem_map.mp h
          exact ⟨q.1, rfl⟩
      obtain ⟨t, ea⟩ := this
      rw [ea, eb]
      refine ⟨?_, fun z => by have := (List.cons.inj z).1; omega⟩
      rw [pl_lt_cons, if_neg (by omega)]
      exact decide_eq_false (by omega)
theorem ar_rise (g : Gr) (i : Nat) (f : Int) : (g.ar i f).Pairwise fun a b => dataLt (arE b) (arE a) = false := (ar_pl g i f).imp fun h => arE_lt h.1 h.2
theorem ar_at {G : Gr} : ∀ (g : Gr) (i : Nat) (f : Int), G.ps.drop i = g.ps → ∀ x ∈ g.ar i f, plO x.1 ≠ [] ∧ lk ("", G) (plO x.1) = some x.2.1
  | .nil, _, _, _, x, h => by cases h
  | .cons k g m r, i, f, hd, x, h => by
    have hd' : G.ps.drop i = ((k, g), m) :: r.ps := hd
    have hi : G.ps[i]? = some ((k, g), m) := by
      have := congrArg (·[0]?) hd'
      simpa using this
    have hs : stp G (some ((i : Nat) : Int)) = some (k, g) := by
      show (if (0 : Int) ≤ ((i : Nat) : Int) then (G.ps[((i : Nat) : Int).toNat]?).map (·.1) else none) = _
      rw [if_pos (by omega), Int.toNat_natCast, hi]; rfl
    rcases List.mem_append.mp h with h | h
    · rcases List.mem_cons.mp h with h | h
      · rw [h]
        refine ⟨by simp [plO], ?_⟩
        show (stp G (some ((i : Nat) : Int))).bind _ = _
        rw [hs]; rfl
      · obtain ⟨q, hq, rfl⟩ := List.mem_map.mp h
        obtain ⟨n1, e1⟩ := ar_at (G := g) g 0 _ rfl q hq
        refine ⟨by simp [plO], ?_⟩
        show (stp G (some ((i : Nat) : Int))).bind (fun u => lk u (plO q.1)) = _
        rw [hs]
        show lk (k, g) (plO q.1) = some q.2.1
        rw [lk_root (b := "") n1, e1]
    · exact ar_at r (i + 1) f (by rw [← List.drop_drop, hd']; rfl) x h
variable {C : Int}
theorem ar_ok : ∀ {g : Gr} (i : Nat) (f : Int), g.Ok C → ∀ x ∈ g.ar i f, NameOk x.2.1.1 ∧ x.2.1.2.Ok C ∧ x.1.length + x.2.1.2.deep ≤ g.deep ∧ x.2.1.2.parts < g.parts
  | .nil, _, _, _, x, h => by cases h
  | .cons k g m r, i, f, ho, x, h => by
    obtain ⟨h1, h2, _, _, h5, _⟩ := ho
    have e1 : (Gr.cons k g m r).deep = max (1 + g.deep) r.deep := rfl
    have e2 : (Gr.cons k g m r).parts = 1 + g.parts + r.parts := rfl
    rcases List.mem_append.mp h with h | h
    · rcases List.mem_cons.mp h with h | h
      · rw [h]
        exact ⟨h1, h2, by show 1 + g.deep ≤ _; omega, by show g.parts < _; omega⟩
      · obtain ⟨q, hq, rfl⟩ := List.mem_map.mp h
        obtain ⟨a, b, c, d⟩ := ar_ok (g := g) 0 _ h2 q hq
        exact ⟨a, b, by show (i :: q.1).length + q.2.1.2.deep ≤ _; rw [List.length_cons]; omega, by show q.2.1.2.parts < _; omega⟩
    · obtain ⟨a, b, c, d⟩ := ar_ok (g := r) (i + 1) f h5 x h
      exact ⟨a, b, by omega, by omega⟩
theorem ar_sum : ∀ (g : Gr) (i : Nat) (f : Int), ((g.ar i f).map (·.2.2)).sum = f * g.size
  | .nil, _, f => (Int.mul_zero f).symm
  | .cons k g m r, i, f => by
    show ((_ ++ r.ar (i + 1) f).map (·.2.2)).sum = f * (m * (1 + g.size) + r.size)
    rw [List.map_append, List.sum_append, List.map_cons, List.sum_cons, List.map_map, ar_sum r]
    have e : ((g.ar 0 (f * m)).map ((fun x : Rw => x.2.2) ∘ fun x => (i :: x.1, x.2))).sum = f * m * g.size := ar_sum g 0 (f * m)
    rw [e, Int.mul_add, Int.mul_add, Int.mul_one, Int.mul_add, Int.mul_assoc]
theorem ar_reach : ∀ (g : Gr) (i : Nat) (f : Int), 0 < g.deep → ∃ x ∈ g.ar i f, x.1.length = g.deep
  | .nil, _, _, h => by cases h
  | .cons k g m r, i, f, _ => by
    have e1 : (Gr.cons k g m r).deep = max (1 + g.deep) r.deep := rfl
    by_cases hr : 1 + g.deep ≤ r.deep
    · obtain ⟨x, hx, e⟩ := ar_reach r (i + 1) f (by omega)
      exact ⟨x, List.mem_append_right _ hx, by omega⟩
    · by_cases hg : 0 < g.deep
      · obtain ⟨x, hx, e⟩ := ar_reach g 0 (f * m) hg
        exact ⟨(i :: x.1, x.2), List.mem_append_left _ (List.mem_cons_of_mem _ (List.mem_map.mpr ⟨x, hx, rfl⟩)), by show (i :: x.1).length = _; rw [List.length_cons]; omega⟩
      · exact ⟨_, List.mem_append_left _ List.mem_cons_self, by show 1 = _; omega⟩
theorem ar_bare : ∀ (g : Gr) (i : Nat) (f : Int), ((g.ar i f).filter fun x => decide (x.2.1.2 = .nil)).map (·.1) = g.bp i
  | .nil, _, _ => rfl
  | .cons k g m r, i, f => by
    show (((([i], (k, g), f * m) :: (g.ar 0 (f * m)).map fun x => (i :: x.1, x.2)) ++ r.ar (i + 1) f).filter _).map _ = (if g = .nil then [[i]] else (g.bp 0).map (i :: ·)) ++ r.bp (i + 1)
    rw [List.filter_append, List.map_append, ar_bare r]
    congr 1
    by_cases hg : g = .nil
    · subst hg
      rw [if_pos rfl]; rfl
    · rw [if_neg hg, List.filter_cons, if_neg (by simpa using hg), ← ar_bare g 0 (f * m), List.filter_map, List.map_map, List.map_map]
      rfl
theorem ar_max {g : Gr} {i : Nat} {f : Int} (ho : g.Ok C) {m : Int} (hm : m ∈ (0 : Int) :: (g.ar i f).map fun x => ((x.1.length : Nat) : Int)) (hy : ∀ y ∈ (0 : Int) :: (g.ar i f).map fun x => ((x.1.length : Nat) : Int), y ≤ m) : m = (g.deep : Nat) := by
  refine Int.le_antisymm ?_ ?_
  · rcases List.mem_cons.mp hm with h | h
    · rw [h]; omega
    · obtain ⟨x, hx, rfl⟩ := List.mem_map.mp h
      have := (ar_ok i f ho x hx).2.2.1
      show ((x.1.length : Nat) : Int) ≤ _
      omega
  · by_cases h : 0 < g.deep
    · obtain ⟨x, hx, e⟩ := ar_reach g i f h
      have := hy _ (List.mem_cons_of_mem _ (List.mem_map.mpr ⟨x, hx, rfl⟩))
      rw [← e]; exact this
    · have := hy 0 List.mem_cons_self
      omega
abbrev Wt := Pl × Gr × Int
def wtE (x : Wt) : PyData := .tuple [plEnc x.1, x.2.1.enc, .int x.2.2]
theorem wtE_noList (x : Wt) : noList (wtE x) = true := by simp [wtE, noList, noLists, pl_noList, Gr.noList_enc]
def pend (x : Wt) : List Rw := (x.2.1.ar 0 x.2.2).map fun y => (x.1 ++ y.1, y.2)
theorem pend_step (pl : Pl) (p : Tr × Int) (i : Nat) (t : Int) : (arP p i t).map (fun y : Rw => (pl ++ y.1, y.2)) = (pl ++ [i], p.1, t * p.2) :: pend (pl ++ [i], p.1.2, t * p.2) := by
  show (pl ++ [i], p.1, t * p.2) :: List.map _ (List.map _ _) = _
  rw [List.map_map]
  refine congrArg _ (List.map_congr_left fun y _ => ?_)
  show (pl ++ i :: y.1, y.2) = ((pl ++ [i]) ++ y.1, y.2)
  rw [List.append_assoc]; rfl
def wtTot : List Wt → Nat
  | [] => 0
  | x :: r => 1 + x.2.1.parts + wtTot r
theorem wtTot_append : ∀ as bs : List Wt, wtTot (as ++ bs) = wtTot as + wtTot bs
  | [], bs => by simp [wtTot]
  | g :: r, bs => by show _ + wtTot (r ++ bs) = _; rw [wtTot_append r bs, wtTot]; omega
theorem len_wtTot : ∀ gs : List Wt, gs.length ≤ wtTot gs
  | [] => Nat.le_refl _
  | g :: r => by have := len_wtTot r; show r.length + 1 ≤ 1 + g.2.1.parts + wtTot r; omega
theorem wt_shaped {ws : List Wt} (h : ∀ x ∈ ws, x.2.1.Ok C ∧ x.2.1.deep ≤ 14) : SeqAt.shaped (.list (ws.map wtE)) = true := by
  have h1 : PyData.canLayAll0 (ws.map wtE) = true := by
    induction ws with
    | nil => simp [PyData.canLayAll0]
    | cons b r ih =>
      have e := ih fun c hc => h c (List.mem_cons_of_mem _ hc)
      obtain ⟨o, _⟩ := h b (List.mem_cons_self ..)
      rw [List.map_cons, PyData.canLayAll0, e]
      simp [wtE, PyData.canLay0, PyData.canLayAll0, Gr.enc, Gr.lays o, pl_lay]
  have h2 : PyData.depthAll (ws.map wtE) ≤ 50 := depths_le fun d hd => by
    obtain ⟨b, hb, rfl⟩ := List.mem_map.mp hd
    have e2 := (h b hb).2
    have e3 := b.2.1.enc_depth
    have e5 := pl_depth b.1
    simp only [wtE, PyData.depth, PyData.depthAll, e5]
    omega
  have h3 : (PyData.list (ws.map wtE)).depth = PyData.depthAll (ws.map wtE) + 1 := by simp [PyData.depth]
  unfold SeqAt.shaped
  rw [PyData.canLay0, h1, Bool.true_and]
  exact decide_eq_true (by omega)
theorem size_wsum : ∀ g : Gr, g.size = wsum (fun t => 1 + t.2.size) g.ps
  | .nil => rfl
  | .cons k g m r => by
    show m * (1 + g.size) + r.size = (1 + g.size) * m + wsum _ r.ps
    rw [size_wsum r, Int.mul_comm]
theorem size_tgt (g k : Gr) : (tgt g k).size = g.size + k.size := by
  rw [size_wsum, size_wsum g, size_wsum k, ← wsum_append]
  exact wsum_ext _ _ _ _ (Nat.le_refl _) fun t => by
    rw [sumE_append]; exact S_tgt g k t
theorem size_one (t : Tr) (m : Int) : (one t m).size = m * (1 + t.2.size) + 0 := rfl
theorem tidy_self {g : Gr} (h : g.Ok C) : tidy g.ps = g := by
  have := tgt_nil h
  unfold tgt at this
  rw [show (Gr.nil).ps = [] from rfl, List.append_nil] at this
  exact this
theorem size_pos : ∀ {g : Gr}, g.Ok C → 0 ≤ g.size
  | .nil, _ => Int.le_refl _
  | .cons k g m r, h => by
    obtain ⟨_, h2, h3, _, h5, _⟩ := h
    have e1 := size_pos h2
    have e2 := size_pos h5
    have e3 : 0 ≤ m * (1 + g.size) := Int.mul_nonneg (by omega) (by omega)
    show 0 ≤ m * (1 + g.size) + r.size
    omega
theorem size_pos1 {g : Gr} (h : g.Ok C) (hn : g ≠ .nil) : 1 ≤ g.size := by
  cases g with
  | nil => exact absurd rfl hn
  | cons k g m r =>
    obtain ⟨_, h2, h3, _, h5, _⟩ := h
    have e1 := size_pos h2
    have e2 := size_pos h5
    have e3 : 1 * 1 ≤ m * (1 + g.size) := Int.mul_le_mul h3 (by omega) (by decide) (by omega)
    show 1 ≤ m * (1 + g.size) + r.size
    omega
end Gr
end FT
namespace FT
open PySem PySem.W PySem.Spec PyProof.Rows L2
def top (i : Nat) : Stmt := PySem.Challenge.pw_felltimber_k20_whole_groves_grown.main.body.getD i (.Pass ⟨0, 0, 0, 0⟩)
abbrev s_is_whole : Stmt := top 7
abbrev s_is_many : Stmt := top 8
abbrev s_is_name : Stmt := top 9
abbrev s_is_rising : Stmt := top 10
abbrev s_joined : Stmt := top 11
abbrev s_run_of : Stmt := top 12
abbrev s_sign_at : Stmt := top 13
abbrev s_is_tree : Stmt := top 19
abbrev s_is_grove : Stmt := top 20
abbrev s_are_grove_pairs : Stmt := top 21
abbrev s_grove_of : Stmt := top 22
abbrev s_together : Stmt := top 23
abbrev s_pairs_within : Stmt := top 24
abbrev s_parts_of : Stmt := top 25
abbrev s_deep_of : Stmt := top 26
abbrev s_size : Stmt := top 27
abbrev s_show_grove : Stmt := top 29
abbrev s_show_pair : Stmt := top 30
abbrev s_show_tree : Stmt := top 31
abbrev s_read_grove : Stmt := top 32
abbrev s_read_pairs : Stmt := top 33
abbrev s_read_pair : Stmt := top 34
abbrev s_read_tree : Stmt := top 35
abbrev s_tree_at : Stmt := top 37
abbrev s_bare_places : Stmt := top 38
abbrev s__law_purse : Stmt := top 40
abbrev s__law_take : Stmt := top 41
abbrev s__law_names : Stmt := top 42
abbrev s__law_plain : Stmt := top 43
abbrev s__law_all : Stmt := top 44
abbrev s__law_put : Stmt := top 45
abbrev s__law_deed : Stmt := top 46
abbrev s__law_looked : Stmt := top 47
abbrev s__law_written : Stmt := top 48
abbrev s_law : Stmt := top 49
end FT
namespace FT
open PySem PySem.W PySem.Spec PyProof.Rows L2
section
variable {P : Program} {w : World} {K : PySem.W.Frag} {mg : Str → Option Value} {base : Heap} {f : Addr} {fd : FuncData} {ps : List Addr}
theorem sc_is_whole : FnScope ["thing"] ["thing"] (defScope s_is_whole) := ⟨rfl, rfl, rfl, by decide +kernel, rfl, by decide +kernel, by decide +kernel⟩
theorem ok_is_whole (B : BI mg) (F : Fun K "is_whole" "is_whole" s_is_whole f fd) : FnOk P w K mg base CX0 1 f fd ["thing"] (spWhole K) := by
  refine F.ok sc_is_whole (fun vs H Q E h => ?_) (fun cdv A outer s H vs Q E hr h => ?_)
  · obtain ⟨v, n, b1, b2, rfl, _⟩ := h
    rfl
  obtain ⟨v, n, b1, b2, rfl, ty, k1, k2, q⟩ := h
  refine ⟨_, pss_one (ps_ret (pe_and (pe_isi B (pv 0) B.int boot_int) (pe_one (pe_not (pe_isi B (pv 0) B.bool boot_bool))))), ?_⟩
  refine ⟨_, rfl, _, _, n, b1, rfl, ty, k1, b1, rfl, ?_⟩
  cases b1 with
  | false => exact iteF q
  | true =>
    refine iteT ⟨_, rfl, _, _, n, b2, rfl, ty, k2 rfl, b2, rfl, ?_⟩
    exact q
end
end FT
namespace FT
open PySem PySem.W PySem.Spec PyProof.Rows L2
section
variable {P : Program} {w : World} {K : PySem.W.Frag} {mg : Str → Option Value} {base : Heap} {f : Addr} {fd : FuncData} {ps : List Addr}
theorem sc_is_many : FnScope ["thing"] ["thing"] (defScope s_is_many) := ⟨rfl, rfl, rfl, by decide +kernel, rfl, by decide +kernel, by decide +kernel⟩
theorem ok_is_many {ps : List Addr} (B : BI mg) (G : Got P w K mg base "is_whole" ["thing"] 1 (spWhole K)) (F : Fun K "is_many" "is_many" s_is_many f fd) : FnOk P w K mg base CX0 2 f fd ["thing"] (spMany K ps) := by
  refine F.ok sc_is_many (fun vs H Q E h => ?_) (fun cdv A outer s H vs Q E hr h => ?_)
  · obtain ⟨v, d, rfl, _⟩ := h
    rfl
  obtain ⟨v, d, rfl, th, q⟩ := h
  refine ⟨_, pss_one (ps_ret (pe_and (pe_got G hr rfl (pa_cons (pv 0) pa_nil)) (pe_one (pe_cmpR op_ge (pv 0) pe_int (nomark _))))), ?_⟩
  obtain ⟨n, b1, b2, ty, k1, k2, y1, y2⟩ := th.whole
  refine ⟨_, rfl, v, n, b1, b2, rfl, ty, k1, k2, b1 && !b2, rfl, ?_⟩
  cases e : (b1 && !b2) with
  | false =>
    refine iteF ?_
    rw [y2 e] at q
    exact q
  | true =>
    obtain ⟨i, rfl, rfl⟩ := y1 e
    exact iteT ⟨_, rfl, _, _, rfl, rfl, q⟩
end
end FT
namespace FT
open PySem PySem.W PySem.Spec PyProof.Rows L2
section
variable {P : Program} {w : World} {K : PySem.W.Frag} {mg : Str → Option Value} {base : Heap} {f : Addr} {fd : FuncData}
theorem sc_is_name : FnScope ["thing"] ["thing"] (defScope s_is_name) := ⟨rfl, rfl, rfl, by decide +kernel, rfl, by decide +kernel, by decide +kernel⟩
theorem ok_is_name (B : BI mg) (L : ∃ t, mg "LETTERS" = some (.str abc t)) (N : ∃ t, mg "LONGEST_NAME" = some (.int 8 t)) (G : Got P w K mg base "run_of" ["text", "at", "signs"] 1 (spRunOf K)) (F : Fun K "is_name" "is_name" s_is_name f fd) : FnOk P w K mg base CX0 2 f fd ["thing"] (spName K) := by
  refine F.ok sc_is_name (fun vs H Q E h => ?_) (fun cdv A outer s H vs Q E hr h => ?_)
  · obtain ⟨v, d, rfl, _⟩ := h
    rfl
  obtain ⟨v, d, rfl, th, q⟩ := h
  obtain ⟨tl, hL⟩ := L
  obtain ⟨tn, hN⟩ := N
  refine ⟨_, pss_cons (ps_if (PW.pt (pw_or (pt_not (pt_val (pe_isi B (pv 0) B.str boot_str))) (pw_or1 (pt_not (pt_chain op_le op_le pe_int (pe_callB call_len_str rfl B.len PySem.boot_len (pa_cons (pv 0) pa_nil)) (pe_glob (v := .int 8) rfl hN ⟨_, rfl⟩)))))) (pss_one (ps_ret pe_bl)) pss_nil)
    (pss_one (ps_ret (pe_cmpR op_eq (pe_got G hr rfl (pa_cons (pv 0) (pa_cons pe_int (pa_cons (pe_glob (v := .str abc) rfl hL ⟨_, rfl⟩) pa_nil)))) (pv 0) (nomark _)))), ?_⟩
  obtain ⟨n1, b, ty, kb, y1, y2⟩ := th.txt
  refine ⟨_, rfl, _, _, n1, b, rfl, ty, kb, b, rfl, ?_⟩
  cases b with
  | false =>
    refine iteT (iteT ?_)
    have e : nameD d = false := by
      cases d with
      | str z => exact absurd rfl (y2 rfl z)
      | _ => simp [nameD]
    have := q H SB.refl
    rw [e] at this
    exact this
  | true =>
  refine iteF ?_
  obtain ⟨z, rfl, rfl, hz⟩ := y1 rfl
  have hzl : z.length ≤ sizeLine := by have := sizeLine_eq; omega
  refine ⟨_, rfl, z, rfl, hzl, _, _, rfl, rfl, _, rfl, ?_⟩
  by_cases h1 : 1 ≤ z.length
  · rw [show decide ((1 : Int) ≤ (z.length : Int)) = true from decide_eq_true (by omega)]
    refine iteT ⟨_, _, rfl, rfl, _, rfl, ?_⟩
    by_cases h8 : z.length ≤ 8
    · rw [show decide ((z.length : Int) ≤ 8) = true from decide_eq_true (by omega)]
      refine iteF ?_
      refine ⟨_, rfl, z, abc, 0, rfl, by omega, Nat.zero_le _, fun e _ he hin hout => ?_⟩
      refine ⟨_, rfl, rfl, ?_⟩
      have := q H SB.refl
      rw [← run_name h1 h8 he hin hout] at this
      exact this
    · rw [show decide ((z.length : Int) ≤ 8) = false from decide_eq_false (by omega)]
      have := q H SB.refl
      rw [name_out fun h => h8 h.2] at this
      exact iteT this
  · rw [show decide ((1 : Int) ≤ (z.length : Int)) = false from decide_eq_false (by omega)]
    have := q H SB.refl
    rw [name_out fun h => h1 h.1] at this
    exact iteF ⟨_, rfl, iteT this⟩
end
end FT
namespace FT
open PySem PySem.W PySem.Spec PyProof.Rows L2
section
variable {P : Program} {w : World} {K : PySem.W.Frag} {mg : Str → Option Value} {base : Heap} {f : Addr} {fd : FuncData} {ps : List Addr}
theorem sc_is_rising : FnScope N_rising ["things"] (defScope s_is_rising) := ⟨rfl, rfl, rfl, by decide +kernel, rfl, by decide +kernel, by decide +kernel⟩
theorem ok_is_rising (B : BI mg) (F : Fun K "is_rising" "is_rising" s_is_rising f fd) : FnOk P w K mg base CX0 1 f fd ["things"] (spRising K) := by
  refine F.ok sc_is_rising (fun vs H Q E h => ?_) (fun cdv A outer s H vs Q E hr h => ?_)
  · obtain ⟨v, n, b1, rfl, _⟩ := h
    rfl
  obtain ⟨a, xs, ds, rfl, hS, hDp, hok, hal, hz, q⟩ := h
  have hu : A.units + 200 < cLine := by have := hr.un; show A.units + 200 < cLine; have h3 : (A.deeper (envOfC "is_rising" (defScope s_is_rising) s.heap.objs.size f cdv)).units = A.units + 3 := rfl; omega
  refine ⟨_, pss_one (ps_ret (pe_callB (cr_all rfl) rfl B.all boot_all (pa_cons
    (pe_lc (own := [("low", 1), ("high", 2)]) (g := gTup K 2 (gCons (gName 1) (gCons (gName 2) gNil))) (tt := tYes) (te := tOp (rLtD K) (tVar 1) (tVar 2)) rfl sc_is_rising.nd
      (pi_zip rfl B.zip (pa_cons (pv 0) (pa_cons (pe_slice sl_list (pv 0) (po_some pe_int) po_none) pa_nil)))
      (blkOk_by (N := N_rising) (sc := defScope s_is_rising) (by decide +kernel))
      (fun _ _ _ _ _ => pg_tup rfl (pgs_cons (pg_name (i := 1) sc_is_rising.nd rfl (.inl rfl)) (pgs_cons (pg_name (i := 2) sc_is_rising.nd rfl (.inl rfl)) pgs_nil)))
      (fun _ _ _ _ _ => pts_nil)
      (fun _ _ _ _ _ => pe_cmpR (op_ltD (by have := hu; show A.units + 3 + 100 < cLine; omega)) (pv 1) (pv 2) (nomark _))) pa_nil))), ?_⟩
  refine ⟨_, rfl, _, rfl, 1, rfl, a, xs, rfl, hS, fun p hp => ?_⟩
  rw [cut1]
  have e1 : SB [] H (upd H p (.lst (xs.drop 1))) := SB.new hp _
  refine ⟨a, p, xs, xs.drop 1, rfl, e1.sqL List.not_mem_nil hS, SqL.of upd_same, fun D hD => ?_⟩
  have hpD : p ≠ D := fun z => by subst z; rw [upd_same] at hD; cases hD
  have dl : ds.length = xs.length := (DpAll.length hDp).symm
  refine lc_it (walk_zip (n := min xs.length (xs.drop 1).length) rfl) (fun i H2 => SB [D] (upd H p (.lst (xs.drop 1))) H2 ∧ H2 D = some (.lst (((ltsD ds).take i).map V.bl))) ⟨SB.new hD _, upd_same⟩ (fun i H2 hi h2 => ?_) (fun i x H2 H' hi h2 y => ?_) (fun H2 h2 => ?_)
  · obtain ⟨h2, h3⟩ := h2
    have h4 := h2.drop hD
    exact ⟨(e1.trans h4).sqL List.not_mem_nil hS, h4.sqL List.not_mem_nil (SqL.of upd_same)⟩
  · obtain ⟨h2, h3⟩ := h2
    have h4 := e1.trans (h2.drop hD)
    obtain ⟨T, x1, y1, rfl, hT, rfl, ex, ey⟩ := y
    have ey : (xs.drop 1)[i]? = some y1 := ey
    rw [List.getElem?_drop, Nat.add_comm] at ey
    obtain ⟨d, ed, hd⟩ := DpAll.get hDp ex
    obtain ⟨d', ed', hd'⟩ := DpAll.get (i := i + 1) hDp ey
    have e5 : SB [] H (upd H2 T (.tup [x1, y1])) := h4.trans (SB.new hT _)
    have m1 := List.mem_of_getElem? ed
    have m2 := List.mem_of_getElem? ed'
    have hTD : D ≠ T := fun z => by subst z; rw [h3] at hT; cases hT
    refine ⟨T, _, rfl, SqT.of upd_same, rfl, _, _, rfl, _, _, rfl, rfl, rfl, ?_⟩
    refine ⟨_, rfl, _, rfl, d, d', Dp_sb e5 _ _ (hok d m1).1 hd, Dp_sb e5 _ _ (hok d' m2).1 hd', hal d m1 d' m2, (hok d m1).2.1, (hok d m1).2.2, _, by rw [upd_ne hTD]; exact h3, ?_, ?_⟩
    · have := ltsD_length ds
      rw [List.length_map, List.length_take]
      exact small1000 (by omega)
    · refine ⟨(h2.trans (SB.new hT _)).trans (SB.set (by rw [upd_ne hTD]; exact h3) (by simp) _), ?_⟩
      rw [upd_same, List.take_add_one, ltsD_get ds i d d' ed ed']
      simp
  · obtain ⟨h2, h3⟩ := h2
    have h4 := e1.trans (h2.drop hD)
    have e6 : (ltsD ds).take (min xs.length (xs.drop 1).length) = ltsD ds := by
      apply List.take_of_length_le
      rw [ltsD_length, List.length_drop]
      omega
    rw [e6] at h3
    exact ⟨D, _, rfl, SqL.of h3, q _ h4⟩
end
end FT
namespace FT
open PySem PySem.W PySem.Spec PyProof.Rows L2
section
variable {P : Program} {w : World} {K : PySem.W.Frag} {mg : Str → Option Value} {base : Heap} {f : Addr} {fd : FuncData}
abbrev N_joined : List Str := ["pairs", "row", "thing", "many"]
theorem sc_joined : FnScope N_joined ["pairs"] (defScope s_joined) := ⟨rfl, rfl, rfl, by decide +kernel, rfl, by decide +kernel, by decide +kernel⟩
theorem ok_joined {γ : Type} [DecidableEq γ] {enc : γ → PyData} (hnl : ∀ g, noList (enc g) = true) (heq : ∀ g h, PyData.eqv (enc g) (enc h) = decide (g = h)) (B : BI mg) (F : Fun K "joined" "joined" s_joined f fd) : FnOk P w K mg base CX0 1 f fd ["pairs"] (spJoined K enc) := by
  refine F.ok sc_joined (fun vs H Q E h => ?_) (fun cdv A outer s H vs Q E hr h => ?_)
  · obtain ⟨a, xs, bs, rfl, _⟩ := h
    rfl
  obtain ⟨a, xs, bs, rfl, hs, hb, hl, hsh, q⟩ := h
  have hun2 : A.units + 3 + 200 < cLine := by have := hr.un; have h3 : (A.deeper (envOfC "joined" (defScope s_joined) s.heap.objs.size f cdv)).units = A.units + 3 := rfl; omega
  refine ⟨_, pss_cons (ps_set (i := 1) sc_joined.nd rfl (.inl rfl) (pe_lst pa_nil))
    (pss_cons (ps_for PassesOwn.never rfl (pi_list (pv 0)) (pg_tup rfl (pgs_cons (pg_name (i := 2) sc_joined.nd rfl (.inl rfl)) (pgs_cons (pg_name (i := 3) sc_joined.nd rfl (.inl rfl)) pgs_nil)))
      (pss_one (ps_if (PW.pt (pw_and (pt_truth (pv 1) (by intro _; rfl)) (pw_and1 (pt_cmpR (op_eqD (by show A.units + 3 + 64 < cLine; omega)) (pe_ix ix_tup (pe_ix ix_list (pv 1) (pe_un un_neg pe_int) (fun _ _ => rfl)) pe_int (fun _ _ => rfl)) (pv 2) (nomark _)))))
        (pss_one (ps_asg (pe_tup (pa_cons (pv 2) (pa_cons (pe_op op_add (pe_ix ix_tup (pe_ix ix_list (pv 1) (pe_un un_neg pe_int) (fun _ _ => rfl)) pe_int (fun _ _ => rfl)) (pv 3)) pa_nil))) (pg_sub (pv 1) (pe_un un_neg pe_int) set_list)))
        (pss_one (ps_expr (pe_bm PySem.F.plainAttrs_list PySem.F.slot_list_append PySem.F.type_list_append mt_append (pv 1) (pa_cons (pe_tup (pa_cons (pv 2) (pa_cons (pv 3) pa_nil))) pa_nil)))))))
    (pss_one (ps_ret (pe_callTy call_tuple_of rfl B.tuple boot_tuple (pa_cons (pv 1) pa_nil))))), ?_⟩
  refine ⟨(by show 0 ≤ sizeLine; decide), fun D hD => ?_⟩
  have t0 := SB.new (ps := []) hD (.lst [])
  refine ⟨_, rfl, a, rfl, ⟨xs, t0.sqL List.not_mem_nil hs⟩, ?_⟩
  have xl := hb.length
  refine for_list (K := K) (a := a) (xs := xs) (fun i σ H2 => SB [D] H H2 ∧ ∃ acc o2 o3, σ = [some (.ref a), some (.ref D), o2, o3] ∧ H2 D = some (.lst acc) ∧ Bears K H2 (pairE enc) acc (jn (bs.take i))) ⟨SB.new hD _, [], none, none, rfl, upd_same, .nil⟩ (fun i σ H2 hi h2 => (h2.1.drop hD).sqL List.not_mem_nil hs) (fun i x σ H2 hx h2 => ?_) (fun σ H2 h2 => ?_)
  · obtain ⟨s2, acc, o2, o3, rfl, hD2, hb2⟩ := h2
    have s2' := s2.drop hD
    obtain ⟨p, ep, hpd⟩ := hb.get hx
    have pm := List.mem_of_getElem? ep
    obtain ⟨ad, ux, rfl, hsx, hdx⟩ := pair_at hpd
    have al := hb2.length
    have jl := jn_length (bs.take i)
    rw [List.length_take] at jl
    have nl := pairE_noList hnl
    rw [jn_take bs i p ep]
    have hdx2 := Dp_sb s2' _ _ (hnl _) hdx
    refine ⟨ad, _, rfl, s2'.sqT hsx, rfl, _, _, rfl, _, _, rfl, rfl, ?_⟩
    -- the row ahead: none, or a last one
    have app : jstep (jn (bs.take i)) p = jn (bs.take i) ++ [p] → tDrop (tBM K "list" rAppend (tVar 1) (tCons (tTup (tCons (tVar 2) (tCons (tVar 3) tNil))) tNil)) { nx := fun σ H2 => SB [D] H H2 ∧ ∃ acc o2 o3, σ = [some (.ref a), some (.ref D), o2, o3] ∧ H2 D = some (.lst acc) ∧ Bears K H2 (pairE enc) acc (jstep (jn (bs.take i)) p), rt := Q } [some (.ref a), some (.ref D), some ux, some (.int p.2)] H2 := by
      intro e
      rw [e]
      refine ⟨_, rfl, .inl ⟨rfl, _, SqL.of hD2⟩, _, rfl, _, rfl, (by show 2 ≤ sizeLine; decide), fun t ht => ?_⟩
      have t3 := SB.new (ps := [D]) ht (.tup [ux, .int p.2])
      have hD3 : (upd H2 t (.tup [ux, .int p.2])) D = some (.lst acc) := by rw [upd_ne (ne_of_none hD2 ht)]; exact hD2
      refine ⟨D, acc, _, rfl, rfl, hD3, small1000 (by omega), ?_⟩
      have t4 := SB.set (ps := [D]) hD3 (by simp) (.lst (acc ++ [.ref t]))
      exact ⟨(s2.trans t3).trans t4, _, _, _, rfl, upd_same, Bears.append ((hb2.sb t3 nl).sb t4 nl) (.cons (pair_mk (t4.sqT (SqT.of upd_same)) (Dp_sb t4 _ _ (hnl _) (Dp_sb t3 _ _ (hnl _) hdx2))) .nil)⟩
    rcases List.eq_nil_or_concat (jn (bs.take i)) with he | ⟨js, z, he⟩
    · rw [he] at hb2 app
      cases hb2
      refine ⟨_, rfl, _, .inl ⟨[], SqL.of hD2, rfl⟩, iteF (iteF ?_)⟩
      rw [he]
      exact app rfl
    · rw [List.concat_eq_append] at he
      rw [he] at hb2 app
      rw [he]
      obtain ⟨us, u, rfl, hus, hu⟩ := hb2.snoc
      obtain ⟨az, uz, rfl, hsz, hdz⟩ := pair_at hu
      have zsh : SeqAt.shaped (enc z.1) = true := by
        obtain ⟨q2, hq2, eq2⟩ := jn_keys (bs.take i) z (by rw [he]; simp)
        rw [← eq2]
        exact hsh q2 (List.mem_of_mem_take hq2)
      refine ⟨_, rfl, _, .inl ⟨us ++ [.ref az], SqL.of hD2, rfl⟩, ?_⟩
      have e0 : (!(us ++ [V.ref az]).isEmpty) = true := by simp
      rw [e0]
      refine iteT ?_
      refine ⟨_, rfl, 1, rfl, D, _, _, _, rfl, rfl, SqL.of hD2, at_last, az, _, _, _, rfl, rfl, hsz, atI_nat (j := 0) rfl, _, rfl, enc z.1, enc p.1, hdz, hdx2, zsh, hsh p pm, _, rfl, ?_⟩
      rw [heq]
      by_cases hz : z.1 = p.1
      · rw [show decide (z.1 = p.1) = true by simp [hz]]
        refine iteT ?_
        refine ⟨_, rfl, _, rfl, 1, rfl, D, _, _, _, rfl, rfl, SqL.of hD2, at_last, az, _, _, _, rfl, rfl, hsz, atI_nat (j := 1) rfl, _, rfl, _, _, rfl, rfl, (by show 2 ≤ sizeLine; decide), fun t ht => ?_⟩
        have t3 := SB.new (ps := [D]) ht (.tup [ux, .int (z.2 + p.2)])
        have hD3 : (upd H2 t (.tup [ux, .int (z.2 + p.2)])) D = some (.lst (us ++ [.ref az])) := by rw [upd_ne (ne_of_none hD2 ht)]; exact hD2
        refine ⟨_, rfl, 1, rfl, D, _, _, us.length, rfl, rfl, hD3, ixN_last, ?_⟩
        rw [set_last]
        have t4 := SB.set (ps := [D]) hD3 (by simp) (.lst (us ++ [.ref t]))
        refine ⟨(s2.trans t3).trans t4, _, _, _, rfl, upd_same, ?_⟩
        rw [jstep_snoc, if_pos hz]
        exact Bears.append ((hus.sb t3 nl).sb t4 nl) (.cons (pair_mk (t4.sqT (SqT.of upd_same)) (Dp_sb t4 _ _ (hnl _) (Dp_sb t3 _ _ (hnl _) hdx2))) .nil)
      · rw [show decide (z.1 = p.1) = false by simp [hz]]
        refine iteF ?_
        exact app (by rw [jstep_snoc, if_neg hz])
  · obtain ⟨s2, acc, o2, o3, rfl, hD2, hb2⟩ := h2
    rw [xl, List.take_length] at hb2
    refine ⟨_, rfl, D, acc, rfl, .inl ⟨SqL.of hD2, fun t ht => ?_⟩⟩
    have t3 := SB.new (ps := []) ht (.tup acc)
    exact q _ _ _ ((s2.drop hD).trans t3) (SqT.of upd_same) (hb2.sb t3 (pairE_noList hnl))
end
end FT
namespace FT
open PySem PySem.W PySem.Spec PyProof.Rows L2
section
variable {P : Program} {w : World} {K : PySem.W.Frag} {mg : Str → Option Value} {base : Heap} {f : Addr} {fd : FuncData}
theorem sc_run_of : FnScope ["text", "at", "signs", "end"] ["text", "at", "signs"] (defScope s_run_of) := ⟨rfl, rfl, rfl, by decide +kernel, rfl, by decide +kernel, by decide +kernel⟩
theorem ok_run_of (B : BI mg) (F : Fun K "run_of" "run_of" s_run_of f fd) : FnOk P w K mg base CX0 1 f fd ["text", "at", "signs"] (spRunOf K) := by
  refine F.ok sc_run_of (fun vs H Q E h => ?_) (fun cdv A outer s H vs Q E hr h => ?_)
  · obtain ⟨z, y, k, rfl, _⟩ := h
    rfl
  obtain ⟨z, y, k, rfl, hz, hk, q⟩ := h
  refine ⟨_, pss_cons (ps_set (i := 3) sc_run_of.nd rfl (.inl rfl) (pv 1))
    (pss_cons (ps_while PassesOwn.never (PW.pt (pw_and (pt_cmpR op_lt (pv 3) (pe_callB call_len_str rfl B.len PySem.boot_len (pa_cons (pv 0) pa_nil)) (nomark _)) (pw_and1 (pt_cmpR op_in_sign (pe_ix ix_str (pv 0) (pv 3) (fun _ _ => rfl)) (pv 2) (by rfl)))))
      (pss_one (ps_aug (i := 3) sc_run_of.nd rfl (.inl rfl) pe_int ip_add)))
    (pss_one (ps_ret (pe_slice sl_str (pv 0) (po_some (pv 1)) (po_some (pv 3)))))), ?_⟩
  have hzl : z.length ≤ sizeLine := by have := sizeLine_eq; omega
  have hl := len_cps z
  refine ⟨_, rfl, ?_⟩
  refine ⟨fun mm σ H2 => ∃ e : Nat, mm = z.length - e ∧ H2 = H ∧ σ = [some (.str z), some (.int (k : Int)), some (.str y), some (.int (e : Int))] ∧ k ≤ e ∧ e ≤ z.length ∧ (∀ j c, k ≤ j → j < e → z.cps.toList[j]? = some c → c ∈ y.cps.toList), ⟨_, k, rfl, rfl, rfl, Nat.le_refl _, hk, fun j c h1 h2 _ => by omega⟩, fun mm σ H2 h2 => ?_⟩
  obtain ⟨e, rfl, rfl, rfl, ke, el, hin⟩ := h2
  refine ⟨_, rfl, _, rfl, z, rfl, hzl, _, _, rfl, rfl, _, rfl, ?_⟩
  have fin : (∀ c, z.cps.toList[e]? = some c → c ∉ y.cps.toList) → Q (.str (cutS z (some (k : Int)) (some (e : Int)))) H2 := fun ho => q e ke el hin ho
  by_cases hlt : e < z.length
  · rw [show decide ((e : Int) < (z.length : Int)) = true from decide_eq_true (by omega)]
    refine iteT ?_
    obtain ⟨c, hc⟩ : ∃ c, z.cps.toList[e]? = some c := ⟨_, List.getElem?_eq_getElem (by omega)⟩
    refine ⟨_, rfl, _, rfl, z, _, c, rfl, rfl, hzl, atI_natN hc, _, rfl, c, y, rfl, rfl, _, rfl, ?_⟩
    by_cases hm : c ∈ y.cps.toList
    · rw [decide_eq_true hm]
      refine iteT ?_
      refine ⟨_, fun σ' H' z => z, ?_⟩
      refine ⟨_, rfl, _, _, rfl, rfl, z.length - (e + 1), by omega, e + 1, rfl, rfl, rfl, by omega, by omega, fun j c' h1 h2 h3 => ?_⟩
      rcases Nat.lt_or_ge j e with h | h
      · exact hin j c' h1 h h3
      · have : j = e := by omega
        subst this
        rw [hc] at h3; cases h3; exact hm
    · rw [decide_eq_false hm]
      refine iteF ?_
      refine ⟨_, rfl, _, rfl, _, rfl, _, rfl, _, rfl, z, rfl, hzl, fin fun c' h' => ?_⟩
      rw [hc] at h'; cases h'; exact hm
  · rw [show decide ((e : Int) < (z.length : Int)) = false from decide_eq_false (by omega)]
    refine iteF (iteF ?_)
    refine ⟨_, rfl, _, rfl, _, rfl, _, rfl, _, rfl, z, rfl, hzl, fin fun c' h' => ?_⟩
    have := (List.getElem?_eq_some_iff.mp h').1
    omega
end
end FT
namespace FT
open PySem PySem.W PySem.Spec PyProof.Rows L2
section
variable {P : Program} {w : World} {K : PySem.W.Frag} {mg : Str → Option Value} {base : Heap} {f : Addr} {fd : FuncData}
open TL (tl)
abbrev N_sign_at : List Str := ["text", "at"]
theorem sc_sign_at : FnScope N_sign_at ["text", "at"] (defScope s_sign_at) := ⟨rfl, rfl, rfl, by decide +kernel, rfl, by decide +kernel, by decide +kernel⟩
theorem ok_sign_at (B : BI mg) (F : Fun K "sign_at" "sign_at" s_sign_at f fd) : FnOk P w K mg base CX0 (1) f fd ["text", "at"] (spSignAt K) := by
  refine F.ok sc_sign_at (fun vs H Q E h => ?_) (fun cdv A outer s H vs Q E hr h => ?_)
  · obtain ⟨z, k, rfl, _⟩ := h
    rfl
  obtain ⟨z, k, rfl, hz, q⟩ := h
  have hun2 : A.units + 3 + 200 < cLine := by have := hr.un; have h3 : (A.deeper (envOfC "sign_at" (defScope s_sign_at) s.heap.objs.size f cdv)).units = A.units + 3 := rfl; omega
  refine ⟨_, pss_one (ps_ret (pe_slice sl_str (pv 0) (po_some (pv 1)) (po_some (pe_op op_add (pv 1) pe_int)))), ?_⟩
  refine ⟨_, rfl, _, rfl, _, rfl, _, rfl, _, _, rfl, rfl, _, rfl, z, rfl, by have := sizeLine_eq; omega, ?_⟩
  refine q _ ?_
  have := cut_tl z k (k + 1)
  rw [show k + 1 - k = 1 by omega] at this
  exact this
end
end FT
namespace FT
open PySem PySem.W PySem.Spec PyProof.Rows L2
section
variable {P : Program} {w : World} {K : PySem.W.Frag} {mg : Str → Option Value} {base : Heap} {f : Addr} {fd : FuncData}
theorem sc_is_tree : FnScope ["thing"] ["thing"] (defScope s_is_tree) := ⟨rfl, rfl, rfl, by decide +kernel, rfl, by decide +kernel, by decide +kernel⟩
theorem none_is_tree {ps : List Str} {k : Nat} : FnOk P w K mg base CX0 k f fd ps (spIsTree K 0) := none_sp fun vs H Q E ⟨v, d, _, _, h, _⟩ => by omega
theorem ok_is_tree {n : Nat} (B : BI mg) (GN : Got P w K mg base "is_name" ["thing"] 2 (spName K)) (G : Got P w K mg base "is_grove" ["thing"] (n + 3) (spIsGrove K n)) (F : Fun K "is_tree" "is_tree" s_is_tree f fd) :
    FnOk P w K mg base CX0 (n + 4) f fd ["thing"] (spIsTree K (n + 1)) := by
  refine F.ok sc_is_tree (fun vs H Q E h => ?_) (fun cdv A outer s H vs Q E hr h => ?_)
  · obtain ⟨v, l, rfl, _⟩ := h
    rfl
  obtain ⟨v, d, rfl, th, hd, h80, hw, q⟩ := h
  refine ⟨_, pss_one (ps_ret (pe_and (pe_isi B (pv 0) B.tuple boot_tuple) (pe_and (pe_cmpR op_eq (pe_callB call_len_seq rfl B.len PySem.boot_len (pa_cons (pv 0) pa_nil)) pe_int (nomark _))
    (pe_and (pe_got GN (hr.mono (by omega)) rfl (pa_cons (pe_ix ix_tup (pv 0) pe_int (fun _ _ => rfl)) pa_nil)) (pe_one (pe_got G hr rfl (pa_cons (pe_ix ix_tup (pv 0) pe_int (fun _ _ => rfl)) pa_nil))))))), ?_⟩
  obtain ⟨n1, b, ty, kb, y1, y2⟩ := th.ty
  refine ⟨_, rfl, _, _, n1, b, rfl, ty, kb, b, rfl, ?_⟩
  cases b with
  | false =>
    refine iteF ?_
    have e : treeD d = false := by
      cases d with
      | tuple ds => exact absurd rfl (y2 rfl ds)
      | _ => simp [treeD]
    have := q H SB.refl
    rw [e] at this
    exact this
  | true =>
  refine iteT ?_
  obtain ⟨a, xs, ds, rfl, rfl, hs, ha⟩ := y1 rfl
  refine ⟨_, rfl, a, xs, rfl, .inr hs, rfl, _, rfl, ?_⟩
  have hl := TgAll.length ha
  refine ite2 (fun c => ?_) (fun c => ?_)
  · have c' : V.int (xs.length : Nat) = V.int 2 := of_decide_eq_true c
    injection c' with c'
    have c2 : xs.length = 2 := by omega
    cases ha with
    | nil => simp at c2
    | cons t1 ta =>
      cases ta with
      | nil => simp at c2
      | cons t2 ta =>
        cases ta with
        | cons t3 ta => simp at c2
        | nil =>
          rename_i v1 d1 v2 d2
          have q1 : d2.depth < PyData.depth (.tuple [d1, d2]) := by simp only [PyData.depth, PyData.depthAll]; omega
          have q2 : wide d2 ≤ wide (.tuple [d1, d2]) := by simp only [wide, wides]; omega
          refine ⟨_, rfl, a, _, _, _, rfl, rfl, hs, atI_nat (j := 0) rfl, v1, d1, rfl, t1, fun H1 h1 => ?_⟩
          refine ⟨_, rfl, ?_⟩
          cases e1 : nameD d1 with
          | false =>
            refine iteF ?_
            have := q H1 h1
            have e : treeD (.tuple [d1, d2]) = false := by simp [treeD, trD2, e1]
            rw [e] at this
            exact this
          | true =>
            refine iteT ?_
            refine ⟨_, rfl, a, _, _, _, rfl, rfl, h1.sqT hs, atI_nat (j := 1) rfl, v2, d2, rfl, Tg_sb h1 t2, by omega, by omega, by omega, fun H2 h2 => ?_⟩
            have := q H2 (h1.trans h2)
            have e : treeD (.tuple [d1, d2]) = groveD d2 := by simp [treeD, trD2, trD3, e1]
            rw [e] at this
            exact this
  · have c' : ¬ V.int (xs.length : Nat) = V.int 2 := of_decide_eq_false (Bool.eq_false_iff.mpr c)
    have c2 : ¬ xs.length = 2 := fun z => c' (by rw [z]; rfl)
    have e : treeD (.tuple ds) = false := by
      cases e : treeD (.tuple ds) with
      | false => rfl
      | true =>
        obtain ⟨t, e2⟩ := treeD_tr _ e
        injection e2 with e2
        rw [e2] at hl
        exact absurd hl c2
    have := q H SB.refl
    rw [e] at this
    exact this
end
end FT
namespace FT
open PySem PySem.W PySem.Spec PyProof.Rows L2
section
variable {P : Program} {w : World} {K : PySem.W.Frag} {mg : Str → Option Value} {base : Heap} {f : Addr} {fd : FuncData}
abbrev N_is_grove : List Str := ["thing", "pair"]
theorem sc_is_grove : FnScope N_is_grove ["thing"] (defScope s_is_grove) := ⟨rfl, rfl, rfl, by decide +kernel, rfl, by decide +kernel, by decide +kernel⟩
theorem none_is_grove {ps : List Str} {k : Nat} : FnOk P w K mg base CX0 k f fd ps (spIsGrove K 0) := none_sp fun vs H Q E ⟨v, d, _, _, h, _⟩ => by omega
theorem exp0_pEnc (bs : List (Tr × Int)) : (bs.map Gr.pEnc).map exp0 = bs.map fun p => Gr.tEnc p.1 := by rw [List.map_map]; rfl
theorem noLists_trs : ∀ bs : List (Tr × Int), noLists (bs.map fun p => Gr.tEnc p.1) = true
  | [] => by simp [noLists]
  | p :: r => by rw [List.map_cons, noLists, noLists_trs r, Gr.noList_tEnc]; rfl
theorem ok_is_grove {n : Nat} (B : BI mg) (GR : Got P w K mg base "is_rising" ["things"] 1 (spRising K)) (G : Got P w K mg base "are_grove_pairs" ["things"] (n + 3) (spPairsQ K true n)) (F : Fun K "is_grove" "is_grove" s_is_grove f fd) :
    FnOk P w K mg base CX0 (n + 4) f fd ["thing"] (spIsGrove K (n + 1)) := by
  refine F.ok sc_is_grove (fun vs H Q E h => ?_) (fun cdv A outer s H vs Q E hr h => ?_)
  · obtain ⟨v, l, rfl, _⟩ := h
    rfl
  obtain ⟨v, d, rfl, th, hd, h80, hw, q⟩ := h
  refine ⟨_, pss_cons (ps_if (PW.pt (pw_or (pt_not (pt_val (pe_isi B (pv 0) B.tuple boot_tuple))) (pw_or1 (pt_not (pt_val (pe_got G hr rfl (pa_cons (pv 0) pa_nil))))))) (pss_one (ps_ret pe_bl)) pss_nil)
    (pss_one (ps_ret (pe_got GR (hr.mono (by omega)) rfl (pa_cons (pe_lc (own := [("pair", 1)]) (g := gName 1) (tt := tYes) (te := tOp (rIxT K) (tVar 1) (tC (.int 0))) rfl sc_is_grove.nd
      (pi_tup (pv 0))
      (blkOk_by (N := N_is_grove) (sc := defScope s_is_grove) (by decide +kernel))
      (fun _ _ _ _ _ => pg_name (i := 1) sc_is_grove.nd rfl (.inl rfl))
      (fun _ _ _ _ _ => pts_nil)
      (fun _ _ _ _ _ => pe_ix ix_tup (pv 1) pe_int (fun _ _ => rfl))) pa_nil)))), ?_⟩
  obtain ⟨n1, b, ty, kb, y1, y2⟩ := th.ty
  refine ⟨_, rfl, _, _, n1, b, rfl, ty, kb, b, rfl, ?_⟩
  cases b with
  | false =>
    refine iteT (iteT ?_)
    have e : groveD d = false := by
      cases d with
      | tuple ds => exact absurd rfl (y2 rfl ds)
      | _ => simp [groveD]
    have := q H SB.refl
    rw [e] at this
    exact this
  | true =>
  refine iteF ?_
  obtain ⟨a, xs, ds, rfl, rfl, hs, ha⟩ := y1 rfl
  have hl := TgAll.length ha
  have m3 : PyData.depth (.tuple ds) = PyData.depthAll ds + 1 := by simp [PyData.depth]
  refine ⟨_, rfl, a, xs, ds, rfl, by simpa using hs, ha, by omega, by omega, hw, fun H2 h2 => ⟨_, rfl, ?_⟩⟩
  cases e1 : grPs ds with
  | false =>
    refine iteT ?_
    have := q H2 h2
    rw [groveD, e1] at this
    exact this
  | true =>
    refine iteF ?_
    obtain ⟨g, rfl⟩ := grPs_enc ds e1
    have hga : GA K H (.ref a) g := Dp.tup hs (Tg_ga g ha)
    obtain ⟨a', xs', e', hs', hb⟩ := GA_bears (hga.sb h2)
    cases e'
    have hlen := hb.length
    have gl : g.encs.length = g.ps.length := by rw [Gr.encs_ps, List.length_map]
    rw [wide_tuple] at hw
    refine ⟨_, rfl, a, rfl, ⟨xs', hs'⟩, fun D hD => ?_⟩
    refine lc_it (walk_tup (xs := xs')) (fun i H3 => SB [D] H2 H3 ∧ ∃ acc, H3 D = some (.lst acc) ∧ DpAll K H3 acc ((g.ps.take i).map fun p => Gr.tEnc p.1)) ⟨SB.new hD _, [], upd_same, .nil⟩ (fun i H3 hi h3 => (h3.1.drop hD).sqT hs') (fun i x H3 H' hi h3 y => ?_) (fun H3 h3 => ?_)
    · obtain ⟨h3, acc, h4, h5⟩ := h3
      obtain ⟨rfl, ex⟩ := y
      obtain ⟨p, ep, hpd⟩ := hb.get ex
      obtain ⟨ad, bd, ux, rfl, hsx, hst, hdx, hdt⟩ := PA_parts hpd
      have h6 := h3.drop hD
      have hla2 := DpAll.length h5
      refine ⟨rfl, ?_⟩
      refine ⟨_, rfl, ad, _, _, _, rfl, rfl, h6.sqT hsx, atI_nat (j := 0) rfl, acc, h4, ?_, ?_⟩
      · rw [hla2, List.length_map, List.length_take]
        exact small1000 (by omega)
      · have h7 := SB.set (ps := [D]) h4 (by simp) (.lst (acc ++ [.ref bd]))
        refine ⟨h3.trans h7, _, upd_same, ?_⟩
        rw [List.take_add_one, ep, List.map_append]
        exact DpAll.append (DpAll_sb h7 _ _ (noLists_trs _) h5) (.cons (Dp_sb h7 _ _ (Gr.noList_tEnc _) (Dp_sb h6 _ _ (Gr.noList_tEnc _) hdt)) .nil)
    · obtain ⟨h3', acc, h4, h5⟩ := h3
      rw [hlen, List.take_length] at h5
      have h6 := h3'.drop hD
      have hla2 := DpAll.length h5
      refine ⟨D, acc, g.ps.map fun p => Gr.tEnc p.1, rfl, SqL.of h4, h5, ?_, ?_, ?_, fun H9 h9 => ?_⟩
      · intro d hd'
        obtain ⟨p1, m1, rfl⟩ := List.mem_map.mp hd'
        have hd2 : (Gr.pEnc p1).depth ≤ PyData.depthAll g.encs := PyData.depth_le_depthAll _ _ (by rw [Gr.encs_ps]; exact List.mem_map_of_mem m1)
        have hd3 : (Gr.tEnc p1.1).depth < (Gr.pEnc p1).depth := by
          show _ < (PyData.tuple [Gr.tEnc p1.1, .int p1.2]).depth
          simp only [PyData.depth, PyData.depthAll]; omega
        exact ⟨Gr.noList_tEnc _, (fun z : Gr.tEnc p1.1 = .none => by simp [Gr.tEnc] at z), by omega⟩
      · intro d hd' d2 hd2
        obtain ⟨p1, _, rfl⟩ := List.mem_map.mp hd'
        obtain ⟨p2, _, rfl⟩ := List.mem_map.mp hd2
        exact Orderly.al (enc := Gr.tEnc) _ _
      · rw [hla2, List.length_map]; omega
      · have := q H9 ((h2.trans h6).trans h9)
        rw [groveD, e1, Bool.true_and, Gr.encs_ps, exp0_pEnc] at this
        exact this
end
end FT
namespace FT
open PySem PySem.W PySem.Spec PyProof.Rows L2
section
variable {P : Program} {w : World} {K : PySem.W.Frag} {mg : Str → Option Value} {base : Heap} {f : Addr} {fd : FuncData}
abbrev N_are_pairs : List Str := ["things", "thing"]
theorem sc_are_grove_pairs : FnScope N_are_pairs ["things"] (defScope s_are_grove_pairs) := ⟨rfl, rfl, rfl, by decide +kernel, rfl, by decide +kernel, by decide +kernel⟩
theorem none_are_grove_pairs {ps : List Str} {tp : Bool} {k : Nat} : FnOk P w K mg base CX0 k f fd ps (spPairsQ K tp 0) := none_sp fun vs H Q E ⟨a, xs, ds, _, _, _, h, _⟩ => by omega
theorem grPs_all : ∀ ds : List PyData, grPs ds = ds.all grP
  | [] => by rw [grPs]; rfl
  | d :: ds => by rw [grPs, grPs_all ds]; rfl
theorem ok_are_grove_pairs {n : Nat} (B : BI mg) (GM : Got P w K mg base "is_many" ["thing"] 2 (spMany K [])) (G : Got P w K mg base "is_tree" ["thing"] (n + 3) (spIsTree K n)) (F : Fun K "are_grove_pairs" "are_grove_pairs" s_are_grove_pairs f fd) :
    FnOk P w K mg base CX0 (n + 4) f fd ["things"] (spPairsQ K true (n + 1)) := by
  refine F.ok sc_are_grove_pairs (fun vs H Q E h => ?_) (fun cdv A outer s H vs Q E hr h => ?_)
  · obtain ⟨a, xs, ds, rfl, _⟩ := h
    rfl
  obtain ⟨a, xs, ds, rfl, hs, ha, hd, h79, hw, q⟩ := h
  refine ⟨_, pss_cons (ps_for PassesOwn.never rfl (pi_tup (pv 0)) (pg_name (i := 1) sc_are_grove_pairs.nd rfl (.inl rfl))
      (pss_cons (ps_if (PW.pt (pw_or (pt_not (pt_val (pe_isi B (pv 1) B.tuple boot_tuple))) (pw_or1 (pt_cmpR op_ne (pe_callB call_len_seq rfl B.len PySem.boot_len (pa_cons (pv 1) pa_nil)) pe_int (nomark _))))) (pss_one (ps_ret pe_bl)) pss_nil)
      (pss_one (ps_if (PW.pt (pw_or (pt_not (pt_val (pe_got G hr rfl (pa_cons (pe_ix ix_tup (pv 1) pe_int (fun _ _ => rfl)) pa_nil)))) (pw_or1 (pt_not (pt_val (pe_got GM (hr.mono (by omega)) rfl (pa_cons (pe_ix ix_tup (pv 1) pe_int (fun _ _ => rfl)) pa_nil))))))) (pss_one (ps_ret pe_bl)) pss_nil))))
    (pss_one (ps_ret pe_bl)), ?_⟩
  have hs : SqT K H a xs := by simpa using hs
  have hl := TgAll.length ha
  rw [wide_tuple] at hw
  refine ⟨_, rfl, a, rfl, ⟨xs, hs⟩, ?_⟩
  refine for_tup (K := K) (a := a) (xs := xs) (fun i σ H2 => SB [] H H2 ∧ (∃ o, σ = [some (.ref a), o]) ∧ (ds.take i).all grP = true) ⟨SB.refl, ⟨none, rfl⟩, by simp⟩ (fun i σ H2 hi h2 => h2.1.sqT hs) (fun i x σ H2 hx h2 => ?_) (fun σ H2 h2 => ?_)
  · obtain ⟨h2, ⟨o, rfl⟩, h3⟩ := h2
    obtain ⟨dx, ex, tx⟩ := TgAll.get ha hx
    have mx := List.mem_of_getElem? ex
    have m1 := depthAll_get ex
    have m2 := wide_mem _ _ mx
    have no : grP dx = false → ∀ H', SB [] H2 H' → Q (.bl false) H' := fun e H' s' => by
      have := q H' (h2.trans s')
      have e2 : grPs ds = false := by
        rw [grPs_all, List.all_eq_false]
        exact ⟨dx, mx, by rw [e]; exact Bool.false_ne_true⟩
      rw [e2] at this
      exact this
    obtain ⟨n1, b, ty, kb, y1, y2⟩ := (Tg_sb h2 tx).ty
    refine ⟨_, rfl, _, _, n1, b, rfl, ty, kb, b, rfl, ?_⟩
    cases b with
    | false =>
      refine iteT (iteT (no ?_ _ SB.refl))
      cases dx with
      | tuple ds => exact absurd rfl (y2 rfl ds)
      | _ => simp [grP]
    | true =>
    refine iteF ?_
    obtain ⟨b1, ys, es, rfl, rfl, hs1, ha1⟩ := y1 rfl
    refine ⟨_, rfl, b1, ys, rfl, .inr hs1, rfl, _, rfl, ?_⟩
    have hl1 := TgAll.length ha1
    by_cases c2 : ys.length = 2
    · rw [show (!decide (V.int (ys.length : Nat) = V.int 2)) = false by rw [c2]; rfl]
      refine iteF ?_
      cases ha1 with
      | nil => simp at c2
      | cons t1 ta =>
        cases ta with
        | nil => simp at c2
        | cons t2 ta =>
          cases ta with
          | cons t3 ta => simp at c2
          | nil =>
            rename_i v1 d1 v2 d2
            have q1 : d1.depth < PyData.depth (.tuple [d1, d2]) := by simp only [PyData.depth, PyData.depthAll]; omega
            have q2 : wide d1 ≤ wide (.tuple [d1, d2]) := by simp only [wide, wides]; omega
            refine ⟨_, rfl, b1, _, _, _, rfl, rfl, hs1, atI_nat (j := 0) rfl, v1, d1, rfl, t1, by omega, by omega, by omega, fun H3 h3' => ?_⟩
            refine ⟨_, rfl, ?_⟩
            cases e1 : treeD d1 with
            | false => exact iteT (iteT (no (by simp [grP, grP2, e1]) _ h3'))
            | true =>
              refine iteF ?_
              refine ⟨_, rfl, b1, _, _, _, rfl, rfl, h3'.sqT hs1, atI_nat (j := 1) rfl, v2, strip d2, rfl, (Tg_sb h3' t2).th, _, rfl, ?_⟩
              rw [many_strip]
              have e : grP (.tuple [d1, d2]) = manyD d2 := by simp [grP, grP2, ladP3, e1]
              cases e2 : manyD d2 with
              | false => exact iteT (no (by rw [e, e2]) _ h3')
              | true =>
                refine iteF ⟨h2.trans h3', ⟨_, rfl⟩, ?_⟩
                rw [List.take_add_one, ex, List.all_append, h3]
                simp [e, e2]
    · rw [show (!decide (V.int (ys.length : Nat) = V.int 2)) = true by rw [decide_eq_false (fun z => by injection z with z; omega)]; rfl]
      refine iteT (no ?_ _ SB.refl)
      cases e : grP (.tuple es) with
      | false => rfl
      | true =>
        obtain ⟨t, i, e2, _⟩ := grP_enc _ e
        injection e2 with e2
        rw [e2] at hl1
        exact absurd hl1 c2
  · obtain ⟨h2, ⟨o, rfl⟩, h3⟩ := h2
    rw [hl, List.take_length, ← grPs_all] at h3
    have := q H2 h2
    rw [h3] at this
    exact this
theorem ok_are_grove_pairsL {n : Nat} (B : BI mg) (GM : Got P w K mg base "is_many" ["thing"] 2 (spMany K [])) (G : Got P w K mg base "is_tree" ["thing"] (n + 3) (spIsTree K n)) (F : Fun K "are_grove_pairs" "are_grove_pairs" s_are_grove_pairs f fd) :
    FnOk P w K mg base CX0 (n + 4) f fd ["things"] (spPairsQ K false (n + 1)) := by
  refine F.ok sc_are_grove_pairs (fun vs H Q E h => ?_) (fun cdv A outer s H vs Q E hr h => ?_)
  · obtain ⟨a, xs, ds, rfl, _⟩ := h
    rfl
  obtain ⟨a, xs, ds, rfl, hs, ha, hd, h79, hw, q⟩ := h
  refine ⟨_, pss_cons (ps_for PassesOwn.never rfl (pi_list (pv 0)) (pg_name (i := 1) sc_are_grove_pairs.nd rfl (.inl rfl))
      (pss_cons (ps_if (PW.pt (pw_or (pt_not (pt_val (pe_isi B (pv 1) B.tuple boot_tuple))) (pw_or1 (pt_cmpR op_ne (pe_callB call_len_seq rfl B.len PySem.boot_len (pa_cons (pv 1) pa_nil)) pe_int (nomark _))))) (pss_one (ps_ret pe_bl)) pss_nil)
      (pss_one (ps_if (PW.pt (pw_or (pt_not (pt_val (pe_got G hr rfl (pa_cons (pe_ix ix_tup (pv 1) pe_int (fun _ _ => rfl)) pa_nil)))) (pw_or1 (pt_not (pt_val (pe_got GM (hr.mono (by omega)) rfl (pa_cons (pe_ix ix_tup (pv 1) pe_int (fun _ _ => rfl)) pa_nil))))))) (pss_one (ps_ret pe_bl)) pss_nil))))
    (pss_one (ps_ret pe_bl)), ?_⟩
  have hs : SqL K H a xs := by simpa using hs
  have hl := TgAll.length ha
  rw [wide_tuple] at hw
  refine ⟨_, rfl, a, rfl, ⟨xs, hs⟩, ?_⟩
  refine for_list (K := K) (a := a) (xs := xs) (fun i σ H2 => SB [] H H2 ∧ (∃ o, σ = [some (.ref a), o]) ∧ (ds.take i).all grP = true) ⟨SB.refl, ⟨none, rfl⟩, by simp⟩ (fun i σ H2 hi h2 => h2.1.sqL List.not_mem_nil hs) (fun i x σ H2 hx h2 => ?_) (fun σ H2 h2 => ?_)
  · obtain ⟨h2, ⟨o, rfl⟩, h3⟩ := h2
    obtain ⟨dx, ex, tx⟩ := TgAll.get ha hx
    have mx := List.mem_of_getElem? ex
    have m1 := depthAll_get ex
    have m2 := wide_mem _ _ mx
    have no : grP dx = false → ∀ H', SB [] H2 H' → Q (.bl false) H' := fun e H' s' => by
      have := q H' (h2.trans s')
      have e2 : grPs ds = false := by
        rw [grPs_all, List.all_eq_false]
        exact ⟨dx, mx, by rw [e]; exact Bool.false_ne_true⟩
      rw [e2] at this
      exact this
    obtain ⟨n1, b, ty, kb, y1, y2⟩ := (Tg_sb h2 tx).ty
    refine ⟨_, rfl, _, _, n1, b, rfl, ty, kb, b, rfl, ?_⟩
    cases b with
    | false =>
      refine iteT (iteT (no ?_ _ SB.refl))
      cases dx with
      | tuple ds => exact absurd rfl (y2 rfl ds)
      | _ => simp [grP]
    | true =>
    refine iteF ?_
    obtain ⟨b1, ys, es, rfl, rfl, hs1, ha1⟩ := y1 rfl
    refine ⟨_, rfl, b1, ys, rfl, .inr hs1, rfl, _, rfl, ?_⟩
    have hl1 := TgAll.length ha1
    by_cases c2 : ys.length = 2
    · rw [show (!decide (V.int (ys.length : Nat) = V.int 2)) = false by rw [c2]; rfl]
      refine iteF ?_
      cases ha1 with
      | nil => simp at c2
      | cons t1 ta =>
        cases ta with
        | nil => simp at c2
        | cons t2 ta =>
          cases ta with
          | cons t3 ta => simp at c2
          | nil =>
            rename_i v1 d1 v2 d2
            have q1 : d1.depth < PyData.depth (.tuple [d1, d2]) := by simp only [PyData.depth, PyData.depthAll]; omega
            have q2 : wide d1 ≤ wide (.tuple [d1, d2]) := by simp only [wide, wides]; omega
            refine ⟨_, rfl, b1, _, _, _, rfl, rfl, hs1, atI_nat (j := 0) rfl, v1, d1, rfl, t1, by omega, by omega, by omega, fun H3 h3' => ?_⟩
            refine ⟨_, rfl, ?_⟩
            cases e1 : treeD d1 with
            | false => exact iteT (iteT (no (by simp [grP, grP2, e1]) _ h3'))
            | true =>
              refine iteF ?_
              refine ⟨_, rfl, b1, _, _, _, rfl, rfl, h3'.sqT hs1, atI_nat (j := 1) rfl, v2, strip d2, rfl, (Tg_sb h3' t2).th, _, rfl, ?_⟩
              rw [many_strip]
              have e : grP (.tuple [d1, d2]) = manyD d2 := by simp [grP, grP2, ladP3, e1]
              cases e2 : manyD d2 with
              | false => exact iteT (no (by rw [e, e2]) _ h3')
              | true =>
                refine iteF ⟨h2.trans h3', ⟨_, rfl⟩, ?_⟩
                rw [List.take_add_one, ex, List.all_append, h3]
                simp [e, e2]
    · rw [show (!decide (V.int (ys.length : Nat) = V.int 2)) = true by rw [decide_eq_false (fun z => by injection z with z; omega)]; rfl]
      refine iteT (no ?_ _ SB.refl)
      cases e : grP (.tuple es) with
      | false => rfl
      | true =>
        obtain ⟨t, i, e2, _⟩ := grP_enc _ e
        injection e2 with e2
        rw [e2] at hl1
        exact absurd hl1 c2
  · obtain ⟨h2, ⟨o, rfl⟩, h3⟩ := h2
    rw [hl, List.take_length, ← grPs_all] at h3
    have := q H2 h2
    rw [h3] at this
    exact this
end
end FT
namespace FT
open PySem PySem.W PySem.Spec PyProof.Rows L2
section
variable {P : Program} {w : World} {K : PySem.W.Frag} {mg : Str → Option Value} {base : Heap} {f : Addr} {fd : FuncData}
theorem sc_grove_of : FnScope ["some"] ["some"] (defScope s_grove_of) := ⟨rfl, rfl, rfl, by decide +kernel, rfl, by decide +kernel, by decide +kernel⟩
theorem ok_grove_of {C : Addr} (B : BI mg) (O : Own K mg "NoGrove" C) (GA' : Got P w K mg base "are_grove_pairs" ["things"] 63 (spPairsQ K false 60)) (G : Got P w K mg base "joined" ["pairs"] 1 (spJoined K Gr.tEnc)) (F : Fun K "grove_of" "grove_of" s_grove_of f fd) : FnOk P w K mg base (L2.CX P w) 64 f fd ["some"] (spGroveOf K C) := by
  refine F.okX sc_grove_of (fun vs H Q E h => ?_) (fun cdv A outer s H vs Q E hr h => ?_)
  · obtain ⟨a, xs, rfl, _⟩ := h
    rfl
  obtain ⟨a, xs, rfl, hs, h⟩ := h
  have hun2 : A.units + 3 + 200 < cLine := by have := hr.un; have h3 : (A.deeper (envOfC "grove_of" (defScope s_grove_of) s.heap.objs.size f cdv)).units = A.units + 3 := rfl; omega
  refine ⟨_, pss_cons (ps_if (pt_not (pt_val (pe_got GA' hr rfl (pa_cons (pv 0) pa_nil)))) (pss_one (ps_raise rfl (takes_of rfl rfl rfl rfl) (pmk_own PySem.F.excBase_ValueError O.q O.gC O.k (raises_own O.s O.t) rfl))) pss_nil)
    (PSs.nox (pss_one (ps_ret (pe_got G (hr.mono (by decide)) rfl (pa_cons (pe_callB (cr_sortedL Gr.pEnc (by show A.units + 3 + 110 < cLine; omega)) rfl B.sorted (by decide +kernel) (pa_cons (pv 0) pa_nil)) pa_nil))))), ?_⟩
  rcases h with ⟨bs, D, hb, hl, ho, q⟩ | ⟨ds, ht, hd, hw, hno, q⟩
  · have xl := hb.length
    refine ⟨_, rfl, a, xs, bs.map Gr.pEnc, rfl, by simpa using hs, Bears_things hb (C := D) (fun p hp => ⟨(ho p hp).1, (ho p hp).2.1⟩), ?_, ?_, ?_, fun H1 s1 => ⟨_, rfl, ?_⟩⟩
    · have := depth_pairs (bs := bs) fun p hp => (ho p hp).2.2.2.1
      omega
    · have := depth_pairs (bs := bs) fun p hp => (ho p hp).2.2.2.1
      omega
    · have := wide_pairs (n := 900) (bs := bs) fun p hp => (ho p hp).2.2.2.2
      rw [wide_tuple, List.length_map]; omega
    rw [grPs_ok (C := D) fun p hp => ⟨(ho p hp).1, (ho p hp).2.1, (ho p hp).2.2.1⟩]
    refine iteF ?_
    refine ⟨_, rfl, a, xs, bs, rfl, s1.sqL List.not_mem_nil hs, hb.sb s1 Gr.noList_pEnc, Gr.pEnc_all _, Gr.pEnc_sortable _, by omega, fun p hp => ?_, fun p zs hp hz => ?_⟩
    · have := Gr.pEnc_depth p
      have := (ho p hp).2.2.2.1
      omega
    have s2 := SB.new (ps := []) hp (.lst zs)
    refine ⟨p, zs, srtE Gr.pEnc bs, rfl, SqL.of upd_same, hz.sb s2 Gr.noList_pEnc, ?_, fun b hb' => ?_, fun c2 ws H3 s3 hc2 hb3 => ?_⟩
    · rw [(srtE_perm _).length_eq]; omega
    · obtain ⟨h1, h2, _, h3, _⟩ := ho b ((srtE_perm _).mem_iff.mp hb')
      exact Gr.shaped_tEnc h1 h2 (by omega)
    · exact q _ _ ((s1.trans s2).trans s3) (Bears_ga hc2 hb3)
  · refine ⟨_, rfl, a, xs, ds, rfl, by simpa using hs, ht, by omega, by omega, hw, fun H1 s1 => ⟨_, rfl, ?_⟩⟩
    rw [hno]
    exact iteT (q _ s1)
end
end FT
namespace FT
open PySem PySem.W PySem.Spec PyProof.Rows L2
section
variable {P : Program} {w : World} {K : PySem.W.Frag} {mg : Str → Option Value} {base : Heap} {f : Addr} {fd : FuncData}
theorem sc_together : FnScope ["one", "other"] ["one", "other"] (defScope s_together) := ⟨rfl, rfl, rfl, by decide +kernel, rfl, by decide +kernel, by decide +kernel⟩
theorem ok_together (B : BI mg) (G : Got P w K mg base "joined" ["pairs"] 1 (spJoined K Gr.tEnc)) (F : Fun K "together" "together" s_together f fd) : FnOk P w K mg base CX0 2 f fd ["one", "other"] (spTogether K) := by
  refine F.ok sc_together (fun vs H Q E h => ?_) (fun cdv A outer s H vs Q E hr h => ?_)
  · obtain ⟨v, u, g, k, rfl, _⟩ := h
    rfl
  obtain ⟨v, u, g, k, rfl, hv, hu, ⟨C, go, ko⟩, gd, kd, gp, kp, q⟩ := h
  have hun2 : A.units + 3 + 200 < cLine := by have := hr.un; have h3 : (A.deeper (envOfC "together" (defScope s_together) s.heap.objs.size f cdv)).units = A.units + 3 := rfl; omega
  refine ⟨_, pss_one (ps_ret (pe_got G hr rfl (pa_cons (pe_callB (cr_sortedT Gr.pEnc (by show A.units + 3 + 110 < cLine; omega)) rfl B.sorted (by decide +kernel) (pa_cons (pe_op op_catB (pv 0) (pv 1)) pa_nil)) pa_nil))), ?_⟩
  obtain ⟨a, xs, rfl, hsa, hba⟩ := GA_bears hv
  obtain ⟨b, ys, rfl, hsb, hbb⟩ := GA_bears hu
  have xl := hba.length
  have yl := hbb.length
  have lp := g.len_parts
  have kp' := k.len_parts
  have hok : ∀ p ∈ g.ps ++ k.ps, NameOk p.1.1 ∧ p.1.2.Ok C ∧ p.1.2.deep ≤ 18 := fun p hp => by
    rcases List.mem_append.mp hp with h | h
    · have h1 := (Gr.ok_iff.mp go).1 p h
      have h2 := g.mem_deep p h
      exact ⟨h1.1, h1.2.1, by omega⟩
    · have h1 := (Gr.ok_iff.mp ko).1 p h
      have h2 := k.mem_deep p h
      exact ⟨h1.1, h1.2.1, by omega⟩
  refine ⟨_, rfl, _, rfl, a, b, xs, ys, rfl, rfl, hsa, hsb, by have := small5 (n := xs.length + ys.length) (by omega); omega, fun c H1 s1 hc => ?_⟩
  refine ⟨c, _, g.ps ++ k.ps, rfl, hc, Bears.append (hba.sb s1 Gr.noList_pEnc) (hbb.sb s1 Gr.noList_pEnc), Gr.pEnc_all _, Gr.pEnc_sortable _, by rw [List.length_append]; omega, fun p hp => ?_, fun p zs hp hz => ?_⟩
  · have := Gr.pEnc_depth p
    have := (hok p hp).2.2
    omega
  have s2 := SB.new (ps := []) hp (.lst zs)
  refine ⟨p, zs, srtE Gr.pEnc (g.ps ++ k.ps), rfl, SqL.of upd_same, hz.sb s2 Gr.noList_pEnc, ?_, fun b hb => ?_, fun c2 ws H3 s3 hc2 hb3 => ?_⟩
  · rw [(srtE_perm _).length_eq, List.length_append]; omega
  · obtain ⟨h1, h2, h3⟩ := hok b ((srtE_perm _).mem_iff.mp hb)
    exact Gr.shaped_tEnc h1 h2 (by omega)
  · exact q _ _ ((s1.trans s2).trans s3) (Bears_ga hc2 hb3)
end
end FT
namespace FT
open PySem PySem.W PySem.Spec PyProof.Rows L2
section
variable {P : Program} {w : World} {K : PySem.W.Frag} {mg : Str → Option Value} {base : Heap} {f : Addr} {fd : FuncData}
theorem sc_pairs_within : FnScope ["grove", "found", "pair"] ["grove"] (defScope s_pairs_within) := ⟨rfl, rfl, rfl, by decide +kernel, rfl, by decide +kernel, by decide +kernel⟩
theorem ok_pairs_within {n : Nat} (G : Got P w K mg base "pairs_within" ["grove"] n (spPairsW K n)) (F : Fun K "pairs_within" "pairs_within" s_pairs_within f fd) : FnOk P w K mg base CX0 (n + 1) f fd ["grove"] (spPairsW K (n + 1)) := by
  refine F.ok sc_pairs_within (fun vs H Q E h => ?_) (fun cdv A outer s H vs Q E hr h => ?_)
  · obtain ⟨v, g, rfl, _⟩ := h
    rfl
  obtain ⟨v, g, rfl, hg, hd, hp, q⟩ := h
  refine ⟨_, pss_cons (ps_set (i := 1) sc_pairs_within.nd rfl (.inl rfl) (pe_lst pa_nil))
    (pss_cons (ps_for PassesOwn.never rfl (pi_tup (pv 0)) (pg_name (i := 2) sc_pairs_within.nd rfl (.inl rfl))
      (pss_cons (ps_expr (pe_bm PySem.F.plainAttrs_list PySem.F.slot_list_append PySem.F.type_list_append mt_append (pv 1) (pa_cons (pv 2) pa_nil)))
      (pss_one (ps_expr (pe_bm PySem.F.plainAttrs_list PySem.F.slot_list_extend PySem.F.type_list_extend mt_extend (pv 1) (pa_cons (pe_got G hr rfl (pa_cons (pe_ix ix_tup (pe_ix ix_tup (pv 2) pe_int (fun _ _ => rfl)) pe_int (fun _ _ => rfl)) pa_nil)) pa_nil))))))
    (pss_one (ps_ret (pv 1)))), ?_⟩
  obtain ⟨a, xs, rfl, hs, hb⟩ := GA_bears hg
  have bl := hb.length
  have wl := g.within_length
  refine ⟨(by show 0 ≤ sizeLine; decide), fun D hD => ?_⟩
  refine ⟨_, rfl, a, rfl, ⟨xs, (SB.new (ps := []) hD _).sqT hs⟩, ?_⟩
  refine for_it (walk_tup (xs := xs)) (fun i σ H2 => SB [D] H H2 ∧ ∃ us o2, σ = [some (.ref a), some (.ref D), o2] ∧ H2 D = some (.lst us) ∧ Bears K H2 Gr.pEnc us ((g.ps.take i).flatMap fun p => p :: p.1.2.within)) ⟨SB.new hD _, [], none, rfl, upd_same, .nil⟩ (fun i σ H2 hi h2 => (h2.1.drop hD).sqT hs) (fun i x σ H2 H' hi h2 y => ?_) (fun σ H2 h2 => ?_)
  · obtain ⟨s2, us, o2, rfl, hD2, hb2⟩ := h2
    obtain ⟨rfl, ex⟩ := y
    obtain ⟨p, ep, hpd⟩ := hb.get ex
    have pm := List.mem_of_getElem? ep
    obtain ⟨ad, td, ux, rfl, hs2, hs3, hga, _⟩ := PA_parts hpd
    have s2' := s2.drop hD
    have ul := hb2.length
    have hsplit : (g.ps.take (i + 1)).flatMap (fun p => p :: p.1.2.within) = (g.ps.take i).flatMap (fun p => p :: p.1.2.within) ++ (p :: p.1.2.within) := by rw [List.take_add_one, ep]; simp
    have hle : ((g.ps.take i).flatMap (fun p => p :: p.1.2.within)).length + (p.1.2.within.length + 1) ≤ 200000 := by
      have h1 : g.within = (g.ps.take (i + 1)).flatMap (fun p => p :: p.1.2.within) ++ (g.ps.drop (i + 1)).flatMap (fun p => p :: p.1.2.within) := by rw [Gr.within_ps, ← List.flatMap_append, List.take_append_drop]
      have h2 := congrArg List.length h1
      rw [hsplit, List.length_append, List.length_append, List.length_cons, wl] at h2
      omega
    refine ⟨_, rfl, .inl ⟨rfl, _, SqL.of hD2⟩, _, rfl, D, us, _, rfl, rfl, hD2, small5 (by omega), ?_⟩
    have t3 := SB.set (ps := [D]) hD2 (by simp) (.lst (us ++ [.ref ad]))
    have hD3 : (upd H' D (.lst (us ++ [.ref ad]))) D = some (.lst (us ++ [.ref ad])) := upd_same
    have hb3 := Bears.append (hb2.sb t3 Gr.noList_pEnc) (.cons (Dp_sb (s2.trans t3) _ _ (Gr.noList_pEnc _) hpd) .nil)
    have s3 := s2.trans t3
    have s3' := s3.drop hD
    generalize hH3 : upd H' D (.lst (us ++ [.ref ad])) = H3 at t3 hD3 hb3 s3 s3'
    have pd := g.mem_deep p pm
    have pp := g.mem_parts p pm
    refine ⟨_, rfl, .inl ⟨rfl, _, SqL.of hD3⟩, _, rfl, ad, _, _, _, rfl, rfl, s3'.sqT hs2, atI_nat (j := 0) rfl, td, _, _, _, rfl, rfl, s3'.sqT hs3, atI_nat (j := 1) rfl, ux, p.1.2, rfl, hga.sb s3', by omega, by omega, fun D2 vs2 H4 s4 hDn hD4 hb4 => ?_⟩
    have hD4' := s4.keep _ _ hD3 List.not_mem_nil
    have vl := hb4.length
    refine ⟨D, D2, _, _, rfl, rfl, hD4', hD4, ?_, ?_⟩
    · rw [List.length_append, List.length_singleton]
      have : 1000000 ≤ sizeLine := by decide
      omega
    have t5 := SB.set (ps := [D]) hD4' (by simp) (.lst (us ++ [.ref ad] ++ vs2))
    refine ⟨(s3.trans s4.nil).trans t5, _, _, rfl, upd_same, ?_⟩
    rw [hsplit, show ((g.ps.take i).flatMap (fun p => p :: p.1.2.within) ++ (p :: p.1.2.within)) = (g.ps.take i).flatMap (fun p => p :: p.1.2.within) ++ [p] ++ p.1.2.within by simp]
    exact Bears.append ((hb3.sb s4 Gr.noList_pEnc).sb t5 Gr.noList_pEnc) (hb4.sb t5 Gr.noList_pEnc)
  · obtain ⟨s2, us, o2, rfl, hD2, hb2⟩ := h2
    rw [bl, List.take_length, ← Gr.within_ps] at hb2
    exact ⟨_, rfl, q D us H2 (s2.drop hD) hD hD2 hb2⟩
end
end FT
namespace FT
open PySem PySem.W PySem.Spec PyProof.Rows L2
section
variable {P : Program} {w : World} {K : PySem.W.Frag} {mg : Str → Option Value} {base : Heap} {f : Addr} {fd : FuncData}
theorem sc_parts_of : FnScope ["grove"] ["grove"] (defScope s_parts_of) := ⟨rfl, rfl, rfl, by decide +kernel, rfl, by decide +kernel, by decide +kernel⟩
theorem ok_parts_of {n : Nat} (B : BI mg) (G : Got P w K mg base "pairs_within" ["grove"] n (spPairsW K n)) (F : Fun K "parts_of" "parts_of" s_parts_of f fd) : FnOk P w K mg base CX0 (n + 1) f fd ["grove"] (spPartsOf K n) := by
  refine F.ok sc_parts_of (fun vs H Q E h => ?_) (fun cdv A outer s H vs Q E hr h => ?_)
  · obtain ⟨v, g, rfl, _⟩ := h
    rfl
  obtain ⟨v, g, rfl, hg, hd, hp, q⟩ := h
  refine ⟨_, pss_one (ps_ret (pe_callB call_len_seq rfl B.len PySem.boot_len (pa_cons (pe_got G hr rfl (pa_cons (pv 0) pa_nil)) pa_nil))), ?_⟩
  refine ⟨_, rfl, v, g, rfl, hg, hd, hp, fun D us H2 s2 _ hD hb => ?_⟩
  refine ⟨D, us, rfl, .inl (SqL.of hD), ?_⟩
  rw [hb.length, g.within_length]
  exact q _ s2
end
end FT
namespace FT
open PySem PySem.W PySem.Spec PyProof.Rows L2
section
variable {P : Program} {w : World} {K : PySem.W.Frag} {mg : Str → Option Value} {base : Heap} {f : Addr} {fd : FuncData}
abbrev N_deepof : List Str := ["grove", "tree", "many"]
theorem sc_deep_of : FnScope N_deepof ["grove"] (defScope s_deep_of) := ⟨rfl, rfl, rfl, by decide +kernel, rfl, by decide +kernel, by decide +kernel⟩
theorem ok_deep_of {n : Nat} (B : BI mg) (G : Got P w K mg base "deep_of" ["grove"] n (spDeepOf K n)) (F : Fun K "deep_of" "deep_of" s_deep_of f fd) : FnOk P w K mg base CX0 (n + 1) f fd ["grove"] (spDeepOf K (n + 1)) := by
  refine F.ok sc_deep_of (fun vs H Q E h => ?_) (fun cdv A outer s H vs Q E hr h => ?_)
  · obtain ⟨v, g, rfl, _⟩ := h
    rfl
  obtain ⟨v, g, rfl, hg, hd, hp, q⟩ := h
  refine ⟨_, pss_cons (ps_if (pt_not (pt_truth (pv 0) (by intro _; rfl))) (pss_one (ps_ret pe_int)) pss_nil) (pss_one (ps_ret (pe_op op_add pe_int (pe_callB (cr_max rfl) rfl B.max boot_max (pa_cons
    (pe_lc (own := [("tree", 1), ("many", 2)]) (g := gPair K) (tt := tYes) (te := (tCall (spDeepOf K n) [] E0 (tCons (tOp (rIxT K) (tVar 1) (tC (.int 1))) tNil))) rfl sc_deep_of.nd
      (pi_tup (pv 0))
      (blkOk_by (N := N_deepof) (sc := defScope s_deep_of) (by decide +kernel))
      (fun _ _ _ _ _ => pg_tup rfl (pgs_cons (pg_name (i := 1) sc_deep_of.nd rfl (.inl rfl)) (pgs_cons (pg_name (i := 2) sc_deep_of.nd rfl (.inl rfl)) pgs_nil)))
      (fun _ _ _ _ _ => pts_nil)
      (fun _ _ _ _ _ => (pe_got G hr rfl (pa_cons (pe_ix ix_tup (pv 1) pe_int (fun _ _ => rfl)) pa_nil)))) pa_nil))))), ?_⟩
  obtain ⟨a, xs, rfl, hs, hb⟩ := GA_bears hg
  have bl := hb.length
  refine ⟨_, rfl, _, .inr (.inl ⟨xs, hs, rfl⟩), ?_⟩
  cases ex : xs with
  | nil =>
    refine iteT ?_
    have e0 : g.deep = 0 := by
      cases g with
      | nil => rfl
      | cons k g m r => rw [ex] at bl; simp [Gr.ps] at bl
    have := q H SB.refl
    rw [e0] at this
    exact this
  | cons x0 xr =>
  refine iteF ?_
  refine ⟨_, rfl, a, rfl, ⟨xs, hs⟩, fun D hD => ?_⟩
  have hz := g.len_parts
  refine lc_it (walk_tup (xs := xs)) (fun i H2 => SB [D] H H2 ∧ H2 D = some (.lst (((g.ps.take i).map fun p => (p.1.2.deep : Int)).map V.int))) ⟨SB.new hD _, upd_same⟩ (fun i H2 hi h2 => (h2.1.drop hD).sqT hs) (fun i x H2 H' hi h2 y => ?_) (fun H2 h2 => ?_)
  · obtain ⟨h2, h3⟩ := h2
    obtain ⟨rfl, ex⟩ := y
    obtain ⟨p, ep, hpd⟩ := hb.get ex
    have pm := List.mem_of_getElem? ep
    obtain ⟨ad, td, ux, rfl, hs2, hs3, hga, _⟩ := PA_parts hpd
    have h4 := h2.drop hD
    have m1 := g.mem_deep p pm
    have m2 := g.mem_parts p pm
    refine ⟨ad, _, rfl, h4.sqT hs2, rfl, _, _, rfl, _, _, rfl, rfl, rfl, ?_⟩
    refine ⟨_, rfl, td, _, _, _, rfl, rfl, h4.sqT hs3, atI_nat (j := 1) rfl, ux, p.1.2, rfl, hga.sb h4, by omega, by omega, fun H5 h5 => ?_⟩
    have h6 := h5.keep _ _ h3 List.not_mem_nil
    refine ⟨_, h6, ?_, ?_⟩
    · rw [List.length_map, List.length_map, List.length_take]
      exact small5 (by omega)
    · refine ⟨(h2.trans h5.nil).trans (SB.set h6 (by simp) _), ?_⟩
      rw [upd_same, List.take_add_one, ep]
      simp
  · obtain ⟨h2, h3⟩ := h2
    rw [bl, List.take_length] at h3
    refine ⟨D, _, rfl, SqL.of h3, ?_, fun m hm hy => ?_⟩
    · rw [List.length_map, ← bl, ex]; simp
    refine ⟨_, _, rfl, rfl, ?_⟩
    show Q (.int (1 + m)) H2
    rw [Gr.deep_max g m hm hy]
    exact q _ (h2.drop hD)
end
end FT
namespace FT
open PySem PySem.W PySem.Spec PyProof.Rows L2
section
variable {P : Program} {w : World} {K : PySem.W.Frag} {mg : Str → Option Value} {base : Heap} {f : Addr} {fd : FuncData}
abbrev N_size : List Str := ["grove", "tree", "many"]
theorem sc_size : FnScope N_size ["grove"] (defScope s_size) := ⟨rfl, rfl, rfl, by decide +kernel, rfl, by decide +kernel, by decide +kernel⟩
theorem ok_size {n : Nat} (B : BI mg) (G : Got P w K mg base "size" ["grove"] n (spSizeG K n)) (F : Fun K "size" "size" s_size f fd) : FnOk P w K mg base CX0 (n + 1) f fd ["grove"] (spSizeG K (n + 1)) := by
  refine F.ok sc_size (fun vs H Q E h => ?_) (fun cdv A outer s H vs Q E hr h => ?_)
  · obtain ⟨v, g, rfl, _⟩ := h
    rfl
  obtain ⟨v, g, rfl, hg, hd, hp, ho, q⟩ := h
  refine ⟨_, pss_one (ps_ret (pe_callB (cr_sum rfl) rfl B.sum boot_sum (pa_cons
    (pe_lc (own := [("tree", 1), ("many", 2)]) (g := gPair K) (tt := tYes) (te := tOp (rI CMulW fun i j => .int (i * j)) (tVar 2) (tOp (rI0 fun i j => .int (i + j)) (tC (.int 1)) (tCall (spSizeG K n) [] E0 (tCons (tOp (rIxT K) (tVar 1) (tC (.int 1))) tNil)))) rfl sc_size.nd
      (pi_tup (pv 0))
      (blkOk_by (N := N_size) (sc := defScope s_size) (by decide +kernel))
      (fun _ _ _ _ _ => pg_tup rfl (pgs_cons (pg_name (i := 1) sc_size.nd rfl (.inl rfl)) (pgs_cons (pg_name (i := 2) sc_size.nd rfl (.inl rfl)) pgs_nil)))
      (fun _ _ _ _ _ => pts_nil)
      (fun _ _ _ _ _ => pe_op op_mulW (pv 2) (pe_op op_add pe_int (pe_got G hr rfl (pa_cons (pe_ix ix_tup (pv 1) pe_int (fun _ _ => rfl)) pa_nil))))) pa_nil))), ?_⟩
  obtain ⟨a, xs, rfl, hs, hb⟩ := GA_bears hg
  have bl := hb.length
  refine ⟨_, rfl, a, rfl, ⟨xs, hs⟩, fun D hD => ?_⟩
  have hz := g.len_parts
  refine lc_it (walk_tup (xs := xs)) (fun i H2 => SB [D] H H2 ∧ H2 D = some (.lst (((g.ps.take i).map fun p => p.2 * (1 + p.1.2.size)).map V.int))) ⟨SB.new hD _, upd_same⟩ (fun i H2 hi h2 => (h2.1.drop hD).sqT hs) (fun i x H2 H' hi h2 y => ?_) (fun H2 h2 => ?_)
  · obtain ⟨h2, h3⟩ := h2
    obtain ⟨rfl, ex⟩ := y
    obtain ⟨p, ep, hpd⟩ := hb.get ex
    have pm := List.mem_of_getElem? ep
    obtain ⟨ad, td, ux, rfl, hs2, hs3, hga, _⟩ := PA_parts hpd
    have h4 := h2.drop hD
    have m1 := g.mem_deep p pm
    have m2 := g.mem_parts p pm
    obtain ⟨o1, o2, o3, o4⟩ := (Gr.ok_iff.mp ho).1 p pm
    obtain ⟨z1, z2⟩ := Gr.size_bound (Int.le_refl _) o2
    refine ⟨ad, _, rfl, h4.sqT hs2, rfl, _, _, rfl, _, _, rfl, rfl, rfl, ?_⟩
    refine ⟨_, rfl, _, rfl, td, _, _, _, rfl, rfl, h4.sqT hs3, atI_nat (j := 1) rfl, ux, p.1.2, rfl, hga.sb h4, by omega, by omega, o2, fun H5 h5 => ?_⟩
    have h6 := h5.keep _ _ h3 List.not_mem_nil
    refine ⟨_, _, rfl, rfl, _, _, rfl, rfl, wide_mul (a := 199) (b := 200 * p.1.2.parts + 1) (Gr.natAbs_lt (by omega) o4) (Gr.natAbs_lt (by omega) ?_) (by decide) (by omega) (by omega), _, h6, ?_, ?_⟩
    · rw [Int.pow_succ]
      have : (0 : Int) < 2 ^ (200 * p.1.2.parts) := Int.pow_pos (by decide)
      show 1 + p.1.2.size < _
      omega
    · rw [List.length_map, List.length_map, List.length_take]
      exact small1000 (by omega)
    · refine ⟨(h2.trans h5.nil).trans (SB.set h6 (by simp) _), ?_⟩
      rw [upd_same, List.take_add_one, ep]
      simp
  · obtain ⟨h2, h3⟩ := h2
    rw [bl, List.take_length] at h3
    refine ⟨D, _, rfl, SqL.of h3, ?_⟩
    rw [← Gr.size_ps]
    exact q _ (h2.drop hD)
end
end FT
namespace FT
open PySem PySem.W PySem.Spec PyProof.Rows L2
section
variable {P : Program} {w : World} {K : PySem.W.Frag} {mg : Str → Option Value} {base : Heap} {f : Addr} {fd : FuncData}
open TL (tl)
abbrev N_show_grove : List Str := ["grove", "tree", "many"]
theorem sc_show_grove : FnScope N_show_grove ["grove"] (defScope s_show_grove) := ⟨rfl, rfl, rfl, by decide +kernel, rfl, by decide +kernel, by decide +kernel⟩
theorem ok_show_grove {n : Nat} (B : BI mg) (G_show_pair : Got P w K mg base "show_pair" ["tree", "many"] (3 * n + 3) (spShowP K n)) (F : Fun K "show_grove" "show_grove" s_show_grove f fd) : FnOk P w K mg base CX0 (3 * n + 4) f fd ["grove"] (spShowG K (n + 1)) := by
  refine F.ok sc_show_grove (fun vs H Q E h => ?_) (fun cdv A outer s H vs Q E hr h => ?_)
  · obtain ⟨v, g, rfl, _⟩ := h
    rfl
  obtain ⟨v, g, rfl, hv, hd, ho, hp, q⟩ := h
  have hun2 : A.units + 3 + 200 < cLine := by have := hr.un; have h3 : (A.deeper (envOfC "show_grove" (defScope s_show_grove) s.heap.objs.size f cdv)).units = A.units + 3 := rfl; omega
  refine ⟨_, pss_cons (ps_if (pt_not (pt_truth (pv 0) (by intro _; rfl))) (pss_one (ps_ret pe_str)) pss_nil)
    (pss_one (ps_ret (pe_join pe_str (pe_lc (own := [("tree", 1), ("many", 2)]) (g := (gTup K 2 (gCons (gName 1) (gCons (gName 2) gNil)))) (tt := tYes) (te := (tCall (spShowP K n) [] E0 (tCons (tVar 1) (tCons (tVar 2) tNil)))) rfl sc_show_grove.nd (pi_tup (pv 0)) (blkOk_by (N := N_show_grove) (sc := defScope s_show_grove) (by decide +kernel)) (fun _ _ _ _ _ => (pg_tup rfl (pgs_cons (pg_name (i := 1) sc_show_grove.nd rfl (.inl rfl)) (pgs_cons (pg_name (i := 2) sc_show_grove.nd rfl (.inl rfl)) pgs_nil)))) (fun _ _ _ _ _ => pts_nil) (fun _ _ _ _ _ => (pe_got G_show_pair (hr.mono (by omega)) rfl (pa_cons (pv 1) (pa_cons (pv 2) pa_nil)))))))), ?_⟩
  obtain ⟨a, xs, rfl, hs, hb⟩ := GA_bears hv
  have xl := hb.length
  have oki := Gr.ok_iff.mp ho
  have lp := g.len_parts
  refine ⟨_, rfl, _, .inr (.inl ⟨xs, hs, rfl⟩), ?_⟩
  by_cases hg : g = .nil
  · have x0 : xs = [] := by rw [hg] at xl; exact List.length_eq_zero_iff.mp xl
    subst x0
    refine iteT (q _ _ SB.refl ?_)
    rw [hg]; rfl
  have x1 : xs.isEmpty = false := by
    cases xs with
    | nil =>
      cases hh : g with
      | nil => exact absurd hh hg
      | cons k g m r => rw [hh] at xl; simp [Gr.ps] at xl
    | cons _ _ => rfl
  rw [x1]
  refine iteF ?_
  refine ⟨⟨_, rfl⟩, ?_⟩
  refine ⟨_, rfl, a, rfl, ⟨xs, hs⟩, fun D hD => ?_⟩
  refine lc_it (walk_tup (xs := xs)) (fun i H2 => SB [D] H H2 ∧ ∃ zs : List Str, H2 D = some (.lst (zs.map V.str)) ∧ zs.map tl = (g.ps.take i).map Gr.pText) ⟨SB.new hD _, [], upd_same, rfl⟩ (fun i H2 hi h2 => (h2.1.drop hD).sqT hs) (fun i x H2 H' hi h2 y => ?_) (fun H2 h2 => ?_)
  · obtain ⟨s2, zs, hD2, hz2⟩ := h2
    obtain ⟨rfl, ex⟩ := y
    have s2' := s2.drop hD
    obtain ⟨p, ep, hpd⟩ := hb.get ex
    have pm := List.mem_of_getElem? ep
    obtain ⟨pn, po, p1, pB⟩ := oki.1 p pm
    have pd := g.mem_deep p pm
    have pp := g.mem_parts p pm
    obtain ⟨ad, td, ux, rfl, hs2, hs3, hga, hdt⟩ := PA_parts hpd
    refine ⟨ad, _, rfl, s2'.sqT hs2, rfl, _, _, rfl, _, _, rfl, rfl, rfl, ?_⟩
    refine ⟨_, rfl, _, rfl, _, p.1, p.2, rfl, Dp_sb s2' _ _ (Gr.noList_tEnc _) hdt, pn, by omega, po, by omega, p1, pB, fun z H3 s3 hz => ?_⟩
    have hD3 := s3.keep _ _ hD2 List.not_mem_nil
    have zl := congrArg List.length hz2
    rw [List.length_map, List.length_map, List.length_take] at zl
    refine ⟨_, hD3, by rw [List.length_map]; exact small1000 (by omega), ?_⟩
    have t9 := SB.set (ps := [D]) hD3 (by simp) (.lst (zs.map V.str ++ [.str z]))
    refine ⟨(s2.trans s3.nil).trans t9, zs ++ [z], by rw [upd_same, List.map_append]; rfl, ?_⟩
    rw [List.take_add_one, ep, List.map_append, List.map_append, hz2]
    show _ ++ [tl z] = _ ++ [Gr.pText p]
    rw [hz]
  · obtain ⟨s2, zs, hD2, hz2⟩ := h2
    rw [xl, List.take_length] at hz2
    have zl := congrArg List.length hz2
    rw [List.length_map, List.length_map] at zl
    refine ⟨_, D, zs, rfl, rfl, .inl (SqL.of hD2), ?_, ?_⟩
    · -- lengths
      have key : ∀ (zs : List Str) (ps : List (Tr × Int)), zs.map tl = ps.map Gr.pText → (∀ p ∈ ps, NameOk p.1.1 ∧ p.1.2.Ok (10 ^ 500) ∧ 1 ≤ p.2 ∧ p.2 < 10 ^ 500 ∧ p.1.2.parts ≤ 1000) → (zs.map (·.length)).sum ≤ 515 * ps.length + 513 * Gr.tot ps := by
        intro zs
        induction zs with
        | nil => intro ps h _; cases ps with
                               | nil => simp
                               | cons _ _ => simp at h
        | cons z r ih =>
          intro ps h hps
          cases ps with
          | nil => simp at h
          | cons p s =>
            rw [List.map_cons, List.map_cons] at h
            injection h with h1 h2
            have e := ih s h2 fun q hq => hps q (List.mem_cons_of_mem _ hq)
            obtain ⟨a1, a2, a3, a4, a5⟩ := hps p (List.mem_cons_self ..)
            have pl := pText_len (t := p.1) (m := p.2) a1 a2 a5 a3 a4
            rw [List.map_cons, List.sum_cons, TL.len_tl, h1]
            show (Gr.pText (p.1, p.2)).length + _ ≤ 515 * (s.length + 1) + 513 * (1 + p.1.2.parts + Gr.tot s)
            omega
      have := key zs g.ps hz2 fun p hp' => by
        obtain ⟨b1, b2, b3, b4⟩ := oki.1 p hp'
        have := g.mem_parts p hp'
        exact ⟨b1, b2, b3, b4, by omega⟩
      rw [Gr.tot_ps] at this
      show _ + zs.length * 2 ≤ _
      omega
    · refine q _ _ (s2.drop hD) ?_
      rw [TL.join_eq, TL.tl_join, hz2]
      unfold Gr.text
      rw [if_neg hg, Gr.body_join g hg]
      rfl
end
end FT
namespace FT
open PySem PySem.W PySem.Spec PyProof.Rows L2
section
variable {P : Program} {w : World} {K : PySem.W.Frag} {mg : Str → Option Value} {base : Heap} {f : Addr} {fd : FuncData}
open TL (tl)
abbrev N_show_pair : List Str := ["tree", "many"]
theorem sc_show_pair : FnScope N_show_pair ["tree", "many"] (defScope s_show_pair) := ⟨rfl, rfl, rfl, by decide +kernel, rfl, by decide +kernel, by decide +kernel⟩
theorem ok_show_pair {n : Nat} (B : BI mg) (G_show_tree : Got P w K mg base "show_tree" ["tree"] (3 * n + 2) (spShowT K n)) (F : Fun K "show_pair" "show_pair" s_show_pair f fd) : FnOk P w K mg base CX0 (3 * n + 3) f fd ["tree", "many"] (spShowP K n) := by
  refine F.ok sc_show_pair (fun vs H Q E h => ?_) (fun cdv A outer s H vs Q E hr h => ?_)
  · obtain ⟨v, t, m, rfl, _⟩ := h
    rfl
  obtain ⟨v, t, m, rfl, hv, hn, hd, ho, hp, m1, mB, q⟩ := h
  have hun2 : A.units + 3 + 200 < cLine := by have := hr.un; have h3 : (A.deeper (envOfC "show_pair" (defScope s_show_pair) s.heap.objs.size f cdv)).units = A.units + 3 := rfl; omega
  refine ⟨_, pss_cons (ps_if (pt_cmpR op_eq (pv 1) pe_int (nomark _)) (pss_one (ps_ret (pe_got G_show_tree (hr.mono (by omega)) rfl (pa_cons (pv 0) pa_nil)))) pss_nil)
    (pss_one (ps_ret (pe_joined (.cons (pe_fmt (pv 1)) (.cons pe_str (.cons (pe_fmt (pe_got G_show_tree (hr.mono (by omega)) rfl (pa_cons (pv 0) pa_nil))) .nil)))))), ?_⟩
  refine ⟨_, rfl, rfl, _, rfl, ?_⟩
  have hl := held_len ho hp
  have nl : (tl t.1).length ≤ 8 := hn.2.1
  by_cases hm : m = 1
  · subst hm
    rw [show decide (V.int 1 = V.int 1) = true from decide_eq_true rfl]
    refine iteT ⟨_, rfl, v, t, rfl, hv, hn, hd, ho, hp, fun z H1 s1 hz => q z H1 s1 ?_⟩
    rw [hz]; rfl
  · rw [show decide (V.int m = V.int 1) = false from decide_eq_false (fun z => hm (by injection z))]
    refine iteF ?_
    have sl := str_len (by omega) mB
    refine ⟨_, rfl, .inr ⟨m, rfl, log_small (by omega) mB, ?_⟩⟩
    refine ⟨_, rfl, ?_, ?_⟩
    · rw [TL.len_tl, TL.tl_append, List.length_append, ← TL.len_tl, ← TL.len_tl]; have := sizeLine_eq; show 0 + _ ≤ _; omega
    refine ⟨_, rfl, ?_, ?_⟩
    · rw [TL.len_tl, TL.tl_append, TL.tl_append, List.length_append, List.length_append, ← TL.len_tl, ← TL.len_tl]; have := sizeLine_eq; show 0 + _ + 1 ≤ _; omega
    refine ⟨_, rfl, v, t, rfl, hv, hn, hd, ho, hp, fun z H1 s1 hz => ?_⟩
    have zl : z.length ≤ 513010 := by rw [TL.len_tl, hz, List.length_append]; omega
    refine .inl ⟨z, rfl, by have := sizeLine_eq; omega, ⟨_, rfl, ?_, q _ _ s1 ?_⟩⟩
    · rw [TL.len_tl, TL.tl_append, TL.tl_append, TL.tl_append, List.length_append, List.length_append, List.length_append, ← TL.len_tl, ← TL.len_tl]; have := sizeLine_eq; show 0 + _ + 1 + _ ≤ _; rw [← TL.len_tl]; omega
    · rw [TL.tl_append, TL.tl_append, TL.tl_append, hz, num_tl (by omega)]
      unfold Gr.pText numT
      rw [if_neg hm]
      show [] ++ TL.numL m.toNat ++ [32] ++ (tl t.1 ++ t.2.held) = _
      simp
end
end FT
namespace FT
open PySem PySem.W PySem.Spec PyProof.Rows L2
section
variable {P : Program} {w : World} {K : PySem.W.Frag} {mg : Str → Option Value} {base : Heap} {f : Addr} {fd : FuncData}
open TL (tl)
abbrev N_show_tree : List Str := ["tree", "kind", "held"]
theorem sc_show_tree : FnScope N_show_tree ["tree"] (defScope s_show_tree) := ⟨rfl, rfl, rfl, by decide +kernel, rfl, by decide +kernel, by decide +kernel⟩
theorem ok_show_tree {n : Nat} (B : BI mg) (G_show_grove : Got P w K mg base "show_grove" ["grove"] (3 * n + 1) (spShowG K n)) (F : Fun K "show_tree" "show_tree" s_show_tree f fd) : FnOk P w K mg base CX0 (3 * n + 2) f fd ["tree"] (spShowT K n) := by
  refine F.ok sc_show_tree (fun vs H Q E h => ?_) (fun cdv A outer s H vs Q E hr h => ?_)
  · obtain ⟨v, t, rfl, _⟩ := h
    rfl
  obtain ⟨v, t, rfl, hv, hn, hd, ho, hp, q⟩ := h
  have hun2 : A.units + 3 + 200 < cLine := by have := hr.un; have h3 : (A.deeper (envOfC "show_tree" (defScope s_show_tree) s.heap.objs.size f cdv)).units = A.units + 3 := rfl; omega
  refine ⟨_, pss_cons (ps_asg (pv 0) (pg_tup rfl (pgs_cons (pg_name (i := 1) sc_show_tree.nd rfl (.inl rfl)) (pgs_cons (pg_name (i := 2) sc_show_tree.nd rfl (.inl rfl)) pgs_nil))))
    (pss_cons (ps_if (pt_not (pt_truth (pv 2) (by intro _; rfl))) (pss_one (ps_ret (pv 1))) pss_nil)
    (pss_one (ps_ret (pe_op op_add_str (pe_op op_add_str (pe_op op_add_str (pv 1) pe_str) (pe_got G_show_grove (hr.mono (by omega)) rfl (pa_cons (pv 2) pa_nil))) pe_str)))), ?_⟩
  obtain ⟨a, u, rfl, hs, hga⟩ := TA_parts hv
  refine ⟨_, rfl, a, _, rfl, hs, rfl, _, _, rfl, _, _, rfl, rfl, ?_⟩
  obtain ⟨c, xs, rfl, hsc, hbc⟩ := GA_bears hga
  have xl := hbc.length
  refine ⟨_, rfl, _, .inr (.inl ⟨xs, hsc, rfl⟩), ?_⟩
  by_cases hg : t.2 = .nil
  · have x0 : xs = [] := by rw [hg] at xl; exact List.length_eq_zero_iff.mp xl
    subst x0
    refine iteT ⟨_, rfl, q _ _ SB.refl ?_⟩
    rw [hg]; show tl t.1 = tl t.1 ++ []; rw [List.append_nil]
  · have x1 : xs.isEmpty = false := by
      cases xs with
      | nil =>
        cases hh : t.2 with
        | nil => exact absurd hh hg
        | cons k g m r => rw [hh] at xl; simp [Gr.ps] at xl
      | cons _ _ => rfl
    rw [x1]
    refine iteF ?_
    have nl : (tl t.1).length ≤ 8 := hn.2.1
    have nl2 : t.1.length ≤ 8 := by rw [TL.len_tl]; exact nl
    have hl := held_len ho hp
    refine ⟨_, rfl, _, _, rfl, rfl, by have := sizeLine_eq; show t.1.length + 1 ≤ _; omega, ?_⟩
    refine ⟨_, rfl, _, t.2, rfl, hga, hd, ho, hp, fun z H1 s1 hz => ?_⟩
    have ez : tl z = t.2.body := by rw [hz]; unfold Gr.text; rw [if_neg hg]
    have hb := Gr.body_len (C := 500) (by decide) ho
    have zl : z.length ≤ 513000 := by rw [TL.len_tl, ez]; omega
    have e1 : (t.1 ++ (Str.ofString "{")).length = t.1.length + 1 := by rw [TL.len_tl, TL.tl_append, List.length_append, ← TL.len_tl]; rfl
    refine ⟨_, _, rfl, rfl, by have := sizeLine_eq; rw [e1]; omega, ?_⟩
    have e2 : (t.1 ++ (Str.ofString "{") ++ z).length = t.1.length + 1 + z.length := by rw [TL.len_tl, TL.tl_append, List.length_append, ← TL.len_tl, ← TL.len_tl, e1]
    refine ⟨_, _, rfl, rfl, by have := sizeLine_eq; rw [e2]; show _ + 1 ≤ _; omega, ?_⟩
    refine q _ _ s1 ?_
    rw [TL.tl_append, TL.tl_append, TL.tl_append, ez]
    unfold Gr.held
    rw [if_neg hg]
    show tl t.1 ++ [123] ++ t.2.body ++ [125] = _
    simp
end
end FT
namespace FT
open PySem PySem.W PySem.Spec PyProof.Rows L2
section
variable {P : Program} {w : World} {K : PySem.W.Frag} {mg : Str → Option Value} {base : Heap} {f : Addr} {fd : FuncData}
open TL (tl)
abbrev N_read_grove : List Str := ["text", "grove", "at"]
theorem sc_read_grove : FnScope N_read_grove ["text"] (defScope s_read_grove) := ⟨rfl, rfl, rfl, by decide +kernel, rfl, by decide +kernel, by decide +kernel⟩
theorem ok_read_grove {C_NoGrove : Addr} (B : BI mg) (O_NoGrove : Own K mg "NoGrove" C_NoGrove) (L_MOST_DEEP : ∃ t, mg "MOST_DEEP" = some (.int (12) t)) (L_MOST_PARTS : ∃ t, mg "MOST_PARTS" = some (.int (60) t)) (G_read_pairs : GotX P w K mg base "read_pairs" ["text", "at", "left"] (43) (spReadPairs K C_NoGrove 13)) (G_is_grove : Got P w K mg base "is_grove" ["thing"] (84) (spIsGrove K 81)) (G_parts_of : Got P w K mg base "parts_of" ["grove"] (21) (spPartsOf K 20)) (G_deep_of : Got P w K mg base "deep_of" ["grove"] (20) (spDeepOf K 20)) (G_show_grove : Got P w K mg base "show_grove" ["grove"] (61) (spShowG K 20)) (F : Fun K "read_grove" "read_grove" s_read_grove f fd) : FnOk P w K mg base (L2.CX P w) (100) f fd ["text"] (spReadG K C_NoGrove) := by
  refine F.okX sc_read_grove (fun vs H Q E h => ?_) (fun cdv A outer s H vs Q E hr h => ?_)
  · obtain ⟨z, rfl, _⟩ := h
    rfl
  obtain ⟨z, rfl, hz, q, qE⟩ := h
  obtain ⟨tk_MOST_DEEP, h_MOST_DEEP⟩ := L_MOST_DEEP
  obtain ⟨tk_MOST_PARTS, h_MOST_PARTS⟩ := L_MOST_PARTS
  have hun2 : A.units + 3 + 200 < cLine := by have := hr.un; have h3 : (A.deeper (envOfC "read_grove" (defScope s_read_grove) s.heap.objs.size f cdv)).units = A.units + 3 := rfl; omega
  refine ⟨_, pss_cons (ps_if (pt_cmpR op_eq (pv 0) pe_str (nomark _)) (pss_one (ps_ret (pe_tup pa_nil))) pss_nil)
    (pss_cons (ps_asg (pe_gotS G_read_pairs (hr.mono (by omega)) rfl (takes_of rfl rfl rfl rfl) (pa_cons (pv 0) (pa_cons pe_int (pa_cons (pe_glob (v := .int (12)) rfl h_MOST_DEEP ⟨_, rfl⟩) pa_nil)))) (pg_tup rfl (pgs_cons (pg_name (i := 1) sc_read_grove.nd rfl (.inl rfl)) (pgs_cons (pg_name (i := 2) sc_read_grove.nd rfl (.inl rfl)) pgs_nil))))
    (pss_cons (ps_if (PW.pt (pw_or (pt_cmpR op_ne (pv 2) (pe_callB call_len_str rfl B.len PySem.boot_len (pa_cons (pv 0) pa_nil)) (nomark _)) (pw_or1 (pt_not (pt_val (pe_got G_is_grove (hr.mono (by omega)) rfl (pa_cons (pv 1) pa_nil))))))) (pss_one (ps_raise rfl (takes_of rfl rfl rfl rfl) (pmk_own PySem.F.excBase_ValueError O_NoGrove.q O_NoGrove.gC O_NoGrove.k (raises_own O_NoGrove.s O_NoGrove.t) rfl))) pss_nil)
    (pss_cons (ps_if (PW.pt (pw_or (pt_cmpR op_gt (pe_got G_parts_of (hr.mono (by omega)) rfl (pa_cons (pv 1) pa_nil)) (pe_glob (v := .int (60)) rfl h_MOST_PARTS ⟨_, rfl⟩) (nomark _)) (pw_or1 (pt_cmpR op_gt (pe_got G_deep_of (hr.mono (by omega)) rfl (pa_cons (pv 1) pa_nil)) (pe_glob (v := .int (12)) rfl h_MOST_DEEP ⟨_, rfl⟩) (nomark _))))) (pss_one (ps_raise rfl (takes_of rfl rfl rfl rfl) (pmk_own PySem.F.excBase_ValueError O_NoGrove.q O_NoGrove.gC O_NoGrove.k (raises_own O_NoGrove.s O_NoGrove.t) rfl))) pss_nil)
    (pss_cons (ps_if (pt_cmpR op_ne (pe_got G_show_grove (hr.mono (by omega)) rfl (pa_cons (pv 1) pa_nil)) (pv 0) (nomark _)) (pss_one (ps_raise rfl (takes_of rfl rfl rfl rfl) (pmk_own PySem.F.excBase_ValueError O_NoGrove.q O_NoGrove.gC O_NoGrove.k (raises_own O_NoGrove.s O_NoGrove.t) rfl))) pss_nil)
    (pss_one (ps_ret (pv 1))))))), ?_⟩
  have szl := sizeLine_eq
  have hlen : (tl z).length = z.length := (TL.len_tl z).symm
  have zl : z.length ≤ 4381 := by
    rcases hz with h | ⟨g, h⟩
    · omega
    · exact h.len
  refine ⟨_, rfl, rfl, _, rfl, ?_⟩
  by_cases h0 : z = (Str.ofString "-")
  · rw [show decide (V.str z = V.str "-") = true from decide_eq_true (by rw [h0])]
    refine iteT ⟨(by show 0 ≤ sizeLine; decide), fun t0 ht0 => ?_⟩
    exact q .nil ⟨by rw [h0]; decide +kernel, trivial, Nat.zero_le _, Nat.zero_le _⟩ _ _ (SB.new ht0 _) (GA_nil (SqT.of upd_same))
  rw [show decide (V.str z = V.str "-") = false from decide_eq_false (fun h => h0 (by injection h))]
  refine iteF ?_
  have nonil : ∀ g, Shows z g → g ≠ .nil := fun g hg hn => by
    subst hn
    exact h0 (TL.ext_tl (by rw [hg.tx]; decide +kernel))
  refine ⟨_, rfl, z, 0, 12, rfl, by omega, Nat.zero_le _, by omega, ?_, ?_⟩
  · intro ps l2 hrd T v k1 H1 s1 hT hv hkk hkl hdrop
    rw [List.drop_zero] at hrd
    refine ⟨T, _, rfl, hT, rfl, _, _, rfl, _, _, rfl, rfl, ?_⟩
    -- what was read
    have small : (Gr.ofPs ps).parts ≤ 901 ∧ ∃ L, L ≤ 1000 ∧ Raw L (Gr.ofPs ps) ∧ (Gr.ofPs ps).deep ≤ 13 := by
      rcases hz with h | ⟨g, h⟩
      · have h1 := eats_pairs (eats_pairOf (eats_tree 12)) _ ps l2 hrd
        obtain ⟨h2, _⟩ := raw_pairs (L := 900) (raw_pairOf (raw_tree (L := 900) 12)) _ ps l2 (by omega) hrd
        rw [Gr.parts_ofPs]
        refine ⟨by omega, 900, by decide, raw_ofPs fun p hp => ⟨(h2 p hp).1, (h2 p hp).2.1, (h2 p hp).2.2.1, (h2 p hp).2.2.2.1⟩, deep_ofPs fun p hp => (h2 p hp).2.2.2.2⟩
      · have h1 := h.read (nonil g h)
        rw [h1] at hrd
        cases hrd
        rw [Gr.ofPs_ps]
        exact ⟨by have := h.parts; omega, 8, by decide, ok_raw h.ok, by have := h.deep; omega⟩
    obtain ⟨hparts, L, hL, hraw, hdeep⟩ := small
    refine ⟨_, rfl, _, rfl, _, rfl, by omega, rfl, _, rfl, ?_⟩
    have bad1 : ∀ H2, SB [] H1 H2 → (k1 ≠ z.length ∨ groveD (Gr.ofPs ps).enc = false) → E (.ref C_NoGrove) none H2 := fun H2 s2 hor => by
      refine qE (fun g hg => ?_) _ (s1.trans s2)
      have h1 := hg.read (nonil g hg)
      rw [h1] at hrd
      cases hrd
      rcases hor with h | h
      · have : ((tl z).drop k1).length = 0 := by rw [hdrop]; rfl
        rw [List.length_drop] at this
        omega
      · rw [Gr.ofPs_ps, groveD_ok hg.ok] at h; cases h
    by_cases hk1 : k1 = z.length
    · rw [show (!decide (V.int (k1 : Int) = V.int ((z.length : Nat) : Int))) = false by rw [hk1]; simp]
      refine iteF ?_
      have ged := (Gr.ofPs ps).enc_depth
      obtain ⟨gw1, gw2⟩ := wides_gr (Gr.ofPs ps)
      have gw : wide (Gr.ofPs ps).enc ≤ 1000 := by rw [Gr.enc, wide_tuple]; omega
      have hth : Tg K H1 v (Gr.ofPs ps).enc := by
        cases (hv : Dp K H1 v (.tuple (Gr.ofPs ps).encs)) with
        | tup hs ha => exact .tup hs (raw_thing hL _ hraw ha)
      refine ⟨_, rfl, v, (Gr.ofPs ps).enc, rfl, hth, by omega, by omega, gw, fun H2 s2 => ⟨_, rfl, ?_⟩⟩
      cases hgd : groveD (Gr.ofPs ps).enc with
      | false => exact iteT (bad1 H2 s2 (.inr hgd))
      | true =>
      refine iteF ?_
      have hok := raw_ok hraw hgd
      refine ⟨_, rfl, v, Gr.ofPs ps, rfl, hv.sb s2, by omega, by omega, fun H3 s3 => ⟨_, _, rfl, rfl, _, rfl, ?_⟩⟩
      have bad2 : ∀ H4, SB [] H3 H4 → (60 < (Gr.ofPs ps).parts ∨ 12 < (Gr.ofPs ps).deep) → E (.ref C_NoGrove) none H4 := fun H4 s4 hor => by
        refine qE (fun g hg => ?_) _ (((s1.trans s2).trans s3).trans s4)
        have h1 := hg.read (nonil g hg)
        rw [h1] at hrd
        cases hrd
        rw [Gr.ofPs_ps] at hor
        have := hg.parts
        have := hg.deep
        omega
      by_cases h60 : 60 < (Gr.ofPs ps).parts
      · rw [show decide ((60 : Int) < (((Gr.ofPs ps).parts : Nat) : Int)) = true from decide_eq_true (by omega)]
        exact iteT (iteT (bad2 _ SB.refl (.inl h60)))
      · rw [show decide ((60 : Int) < (((Gr.ofPs ps).parts : Nat) : Int)) = false from decide_eq_false (by omega)]
        refine iteF ⟨_, rfl, v, Gr.ofPs ps, rfl, (hv.sb s2).sb s3, by omega, by omega, fun H4 s4 => ⟨_, _, rfl, rfl, _, rfl, ?_⟩⟩
        by_cases h12 : 12 < (Gr.ofPs ps).deep
        · rw [show decide ((12 : Int) < (((Gr.ofPs ps).deep : Nat) : Int)) = true from decide_eq_true (by omega)]
          exact iteT (bad2 _ s4 (.inr h12))
        · rw [show decide ((12 : Int) < (((Gr.ofPs ps).deep : Nat) : Int)) = false from decide_eq_false (by omega)]
          refine iteF ?_
          have s14 := (s2.trans s3).trans s4
          refine ⟨_, rfl, v, Gr.ofPs ps, rfl, hv.sb s14, by omega, hok.mono (by decide), by omega, fun y H5 s5 hy => ?_⟩
          refine ⟨_, rfl, rfl, _, rfl, ?_⟩
          have s15 := s14.trans s5
          by_cases hyz : y = z
          · rw [show (!decide (V.str y = V.str z)) = false by rw [hyz]; simp]
            refine iteF ⟨_, rfl, ?_⟩
            exact q (Gr.ofPs ps) ⟨by rw [← hyz]; exact hy, hok, by omega, by omega⟩ v H5 (s1.trans s15) (hv.sb s15)
          · rw [show (!decide (V.str y = V.str z)) = true by rw [decide_eq_false]; rfl; intro h; exact hyz (by injection h)]
            refine iteT (qE (fun g hg => ?_) _ (s1.trans s15))
            have h1 := hg.read (nonil g hg)
            rw [h1] at hrd
            cases hrd
            rw [Gr.ofPs_ps] at hy
            exact hyz (TL.ext_tl (by rw [hy, hg.tx]))
    · rw [show (!decide (V.int (k1 : Int) = V.int ((z.length : Nat) : Int))) = true by
        rw [decide_eq_false]; rfl
        intro h; injection h with h; exact hk1 (by omega)]
      exact iteT (iteT (bad1 _ SB.refl (.inl hk1)))
  · intro hno H1 s1
    refine qE (fun g hg => ?_) _ s1
    have h1 := hg.read (nonil g hg)
    rw [List.drop_zero, h1] at hno
    cases hno
end
end FT
namespace FT
open PySem PySem.W PySem.Spec PyProof.Rows L2
section
variable {P : Program} {w : World} {K : PySem.W.Frag} {mg : Str → Option Value} {base : Heap} {f : Addr} {fd : FuncData}
open TL (tl)
abbrev N_read_pairs : List Str := ["text", "at", "left", "pair", "pairs"]
theorem sc_read_pairs : FnScope N_read_pairs ["text", "at", "left"] (defScope s_read_pairs) := ⟨rfl, rfl, rfl, by decide +kernel, rfl, by decide +kernel, by decide +kernel⟩
theorem ok_read_pairs {C_NoGrove : Addr} {n : Nat} (B : BI mg) (G_read_pair : GotX P w K mg base "read_pair" ["text", "at", "left"] (3 * n + 3) (spReadPair K C_NoGrove n)) (F : Fun K "read_pairs" "read_pairs" s_read_pairs f fd) : FnOk P w K mg base (L2.CX P w) (3 * n + 4) f fd ["text", "at", "left"] (spReadPairs K C_NoGrove n) := by
  refine F.okX sc_read_pairs (fun vs H Q E h => ?_) (fun cdv A outer s H vs Q E hr h => ?_)
  · obtain ⟨z, k, left, rfl, _⟩ := h
    rfl
  obtain ⟨z, k, left, rfl, hz, hk, hl, q, qE⟩ := h
  have hun2 : A.units + 3 + 200 < cLine := by have := hr.un; have h3 : (A.deeper (envOfC "read_pairs" (defScope s_read_pairs) s.heap.objs.size f cdv)).units = A.units + 3 := rfl; omega
  refine ⟨_, pss_cons (ps_asg (pe_gotS G_read_pair (hr.mono (by omega)) rfl (takes_of rfl rfl rfl rfl) (pa_cons (pv 0) (pa_cons (pv 1) (pa_cons (pv 2) pa_nil)))) (pg_tup rfl (pgs_cons (pg_name (i := 3) sc_read_pairs.nd rfl (.inl rfl)) (pgs_cons (pg_name (i := 1) sc_read_pairs.nd rfl (.inl rfl)) pgs_nil))))
    (pss_cons (ps_set (i := 4) sc_read_pairs.nd rfl (.inl rfl) (pe_lst (pa_cons (pv 3) pa_nil)))
    (pss_cons (ps_while (passes_of rfl) (pt_cmpR op_eq (pe_slice sl_str (pv 0) (po_some (pv 1)) (po_some (pe_op op_add (pv 1) pe_int))) pe_str (nomark _)) (pss_cons (ps_asg (pe_gotS G_read_pair (hr.mono (by omega)) rfl (takes_of rfl rfl rfl rfl) (pa_cons (pv 0) (pa_cons (pe_op op_add (pv 1) pe_int) (pa_cons (pv 2) pa_nil)))) (pg_tup rfl (pgs_cons (pg_name (i := 3) sc_read_pairs.nd rfl (.inl rfl)) (pgs_cons (pg_name (i := 1) sc_read_pairs.nd rfl (.inl rfl)) pgs_nil))))
    (pss_one (ps_expr (pe_bm PySem.F.plainAttrs_list PySem.F.slot_list_append PySem.F.type_list_append mt_append (pv 4) (pa_cons (pv 3) pa_nil))))))
    (pss_one (ps_ret (pe_tup (pa_cons (pe_callTy call_tuple_of rfl B.tuple boot_tuple (pa_cons (pv 4) pa_nil)) (pa_cons (pv 1) pa_nil))))))), ?_⟩
  have szl := sizeLine_eq
  have hlen : (tl z).length = z.length := (TL.len_tl z).symm
  refine ⟨_, rfl, _, rfl, _, rfl, z, k, left, rfl, hz, hk, hl, ?_, ?_⟩
  · intro p l1 hp T v k1 H1 s1 hT hv hkk hkl hdrop
    refine ⟨T, _, rfl, hT, rfl, _, _, rfl, _, _, rfl, rfl, ?_⟩
    refine ⟨_, rfl, (by show 1 ≤ sizeLine; decide), fun D hD => ?_⟩
    have t2 := SB.new (ps := []) hD (.lst [v])
    have hD2 : (upd H1 D (.lst [v])) D = some (.lst [v]) := upd_same
    have hv2 := Dp_sb t2 _ _ (Gr.noList_pEnc _) hv
    have nD : H D = none := s1.dom _ hD
    have s2 : SB [D] H (upd H1 D (.lst [v])) := (s1.trans t2).nil
    generalize hH2 : upd H1 D (.lst [v]) = H2 at t2 hD2 hv2 s2
    have hall : ∀ y, rdTail (rdPair left) 100000 l1 = y → rdPairs (rdPair left) ((tl z).drop k) = y.map fun y => (p :: y.1, y.2) := fun y hy => by
      unfold rdPairs; rw [hp]; show (rdTail (rdPair left) 100000 l1).map _ = _; rw [hy]
    refine ⟨fun m σ H3 => ∃ (k3 f3 : Nat) (us : List V) (ps : List (Tr × Int)) (o3 : Option V), m = z.length - k3 ∧ SB [D] H H3 ∧ σ = [some (.str z), some (.int (k3 : Int)), some (.int (left : Int)), o3, some (.ref D)] ∧ H3 D = some (.lst us) ∧ Bears K H3 Gr.pEnc us ps ∧ k ≤ k3 ∧ k3 ≤ z.length ∧ ps.length + (z.length - k3) ≤ z.length + 1 ∧ z.length - k3 < f3 ∧ (rdPairs (rdPair left) ((tl z).drop k) = (rdTail (rdPair left) f3 ((tl z).drop k3)).map fun y => (ps ++ y.1, y.2)),
      ⟨_, k1, 100000, [v], [p], _, rfl, s2, rfl, hD2, .cons hv2 .nil, hkk, hkl, by show 1 + _ ≤ _; omega, by omega, by rw [hdrop]; exact hall _ rfl⟩, fun m σ H3 h3 => ?_⟩
    obtain ⟨k3, f3, us, ps, o3, rfl, s3, rfl, hD3, hb3, hk3, hl3, hcnt, hf3, hrd⟩ := h3
    obtain ⟨f4, rfl⟩ : ∃ f4, f3 = f4 + 1 := ⟨f3 - 1, by omega⟩
    have ul := hb3.length
    have e2 : ((k3 : Int) + 2) = ((k3 + 2 : Nat) : Int) := by omega
    refine ⟨_, rfl, _, rfl, _, rfl, _, rfl, _, _, rfl, rfl, _, rfl, z, rfl, by omega, rfl, _, rfl, ?_⟩
    have ct : tl (cutS z (some (k3 : Int)) (some ((k3 : Int) + 2))) = ((tl z).drop k3).take 2 := by
      have := cut_tl z k3 (k3 + 2)
      rw [show k3 + 2 - k3 = 2 by omega] at this
      exact this
    by_cases hc : ((tl z).drop k3).take 2 = [44, 32]
    · have hy : cutS z (some (k3 : Int)) (some ((k3 : Int) + 2)) = (Str.ofString ", ") := TL.ext_tl (by rw [ct, hc]; decide +kernel)
      rw [show decide (V.str (cutS z (some (k3 : Int)) (some ((k3 : Int) + 2))) = V.str ", ") = true from decide_eq_true (by rw [hy])]
      refine iteT ⟨_, fun σ' H' h => h, ?_⟩
      have hk2 : k3 + 2 ≤ z.length := by
        have := congrArg List.length hc
        rw [List.length_take, List.length_drop] at this
        have e3 : ([44, 32] : List Nat).length = 2 := rfl
        omega
      have hstep : rdTail (rdPair left) (f4 + 1) ((tl z).drop k3) = (rdPair left ((tl z).drop (k3 + 2))).bind fun x => (rdTail (rdPair left) f4 x.2).map fun y => (x.1 :: y.1, y.2) := by
        show (if ((tl z).drop k3).take 2 = [44, 32] then _ else _) = _
        rw [if_pos hc, List.drop_drop]
      rw [hstep] at hrd
      refine ⟨_, rfl, _, rfl, _, _, rfl, rfl, _, rfl, z, k3 + 2, left, (by show [_, V.int ((k3 : Int) + 2), _] = _; rw [e2]), hz, hk2, hl, ?_, ?_⟩
      · intro p2 l2 hp2 T2 v2 k4 H4 s4 hT2 hv4 hkk4 hkl4 hdrop4
        rw [hp2] at hrd
        refine ⟨T2, _, rfl, hT2, rfl, _, _, rfl, _, _, rfl, rfl, ?_⟩
        have hD4 := s4.keep _ _ hD3 List.not_mem_nil
        refine ⟨_, rfl, .inl ⟨rfl, _, SqL.of hD4⟩, _, rfl, D, us, _, rfl, rfl, hD4, by omega, ?_⟩
        have t5 := SB.set (ps := [D]) hD4 (by simp) (.lst (us ++ [v2]))
        refine ⟨z.length - k4, by omega, k4, f4, us ++ [v2], ps ++ [p2], _, rfl, (s3.trans s4.nil).trans t5, rfl, upd_same, Bears.append ((hb3.sb s4 Gr.noList_pEnc).sb t5 Gr.noList_pEnc) (.cons (Dp_sb t5 _ _ (Gr.noList_pEnc _) hv4) .nil), by omega, hkl4, by rw [List.length_append]; show _ + 1 + _ ≤ _; omega, by omega, ?_⟩
        rw [hrd, hdrop4]
        show ((rdTail (rdPair left) f4 l2).map (fun y => (p2 :: y.1, y.2))).map _ = _
        rw [Option.map_map]
        congr 1
        funext y
        show (ps ++ p2 :: y.1, y.2) = (ps ++ [p2] ++ y.1, y.2)
        simp
      · intro hno H4 s4
        rw [hno] at hrd
        exact qE hrd _ ((s3.trans s4.nil).drop nD)
    · have hy : ¬ cutS z (some (k3 : Int)) (some ((k3 : Int) + 2)) = (Str.ofString ", ") := fun h => hc (by rw [← ct, h]; decide +kernel)
      rw [show decide (V.str (cutS z (some (k3 : Int)) (some ((k3 : Int) + 2))) = V.str ", ") = false from decide_eq_false (fun h => hy (by injection h))]
      refine iteF ?_
      have hstep : rdTail (rdPair left) (f4 + 1) ((tl z).drop k3) = some ([], (tl z).drop k3) := by
        show (if ((tl z).drop k3).take 2 = [44, 32] then _ else _) = _
        rw [if_neg hc]
      rw [hstep] at hrd
      have hrd' : rdPairs (rdPair left) ((tl z).drop k) = some (ps, (tl z).drop k3) := by rw [hrd]; show some (ps ++ [], _) = _; rw [List.append_nil]
      refine ⟨_, rfl, D, us, rfl, .inl ⟨SqL.of hD3, fun t1 ht1 => ⟨_, rfl, (by show 2 ≤ sizeLine; decide), fun t2 ht2 => ?_⟩⟩⟩
      have u1 := SB.new (ps := []) ht1 (.tup us)
      have u2 := SB.new (ps := []) ht2 (.tup [.ref t1, .int (k3 : Int)])
      exact q ps _ hrd' t2 (.ref t1) k3 _ (((s3.drop nD).trans u1).trans u2) (SqT.of upd_same) (Bears_ga (u2.sqT (SqT.of upd_same)) (hb3.sb (u1.trans u2) Gr.noList_pEnc)) hk3 hl3 rfl
  · intro hno H1 s1
    refine qE ?_ _ s1
    unfold rdPairs; rw [hno]; rfl
end
end FT
namespace FT
open PySem PySem.W PySem.Spec PyProof.Rows L2
section
variable {P : Program} {w : World} {K : PySem.W.Frag} {mg : Str → Option Value} {base : Heap} {f : Addr} {fd : FuncData}
open TL (tl)
abbrev N_read_pair : List Str := ["text", "at", "left", "many", "figures", "tree"]
theorem sc_read_pair : FnScope N_read_pair ["text", "at", "left"] (defScope s_read_pair) := ⟨rfl, rfl, rfl, by decide +kernel, rfl, by decide +kernel, by decide +kernel⟩
theorem ok_read_pair {C_NoGrove : Addr} {n : Nat} (B : BI mg) (O_NoGrove : Own K mg "NoGrove" C_NoGrove) (L_FIGURES : ∃ t, mg "FIGURES" = some (.str "0123456789" t)) (L_MOST_FIGURES : ∃ t, mg "MOST_FIGURES" = some (.int (60) t)) (G_run_of : Got P w K mg base "run_of" ["text", "at", "signs"] (1) (spRunOf K)) (G_sign_at : Got P w K mg base "sign_at" ["text", "at"] (1) (spSignAt K)) (G_read_tree : GotX P w K mg base "read_tree" ["text", "at", "left"] (3 * n + 2) (spReadTree K C_NoGrove n)) (F : Fun K "read_pair" "read_pair" s_read_pair f fd) : FnOk P w K mg base (L2.CX P w) (3 * n + 3) f fd ["text", "at", "left"] (spReadPair K C_NoGrove n) := by
  refine F.okX sc_read_pair (fun vs H Q E h => ?_) (fun cdv A outer s H vs Q E hr h => ?_)
  · obtain ⟨z, k, left, rfl, _⟩ := h
    rfl
  obtain ⟨z, k, left, rfl, hz, hk, hl, q, qE⟩ := h
  obtain ⟨tk_FIGURES, h_FIGURES⟩ := L_FIGURES
  obtain ⟨tk_MOST_FIGURES, h_MOST_FIGURES⟩ := L_MOST_FIGURES
  have hun2 : A.units + 3 + 200 < cLine := by have := hr.un; have h3 : (A.deeper (envOfC "read_pair" (defScope s_read_pair) s.heap.objs.size f cdv)).units = A.units + 3 := rfl; omega
  refine ⟨_, pss_cons (ps_set (i := 3) sc_read_pair.nd rfl (.inl rfl) pe_int)
    (pss_cons (ps_set (i := 4) sc_read_pair.nd rfl (.inl rfl) (pe_got G_run_of (hr.mono (by omega)) rfl (pa_cons (pv 0) (pa_cons (pv 1) (pa_cons (pe_glob (v := .str "0123456789") rfl h_FIGURES ⟨_, rfl⟩) pa_nil)))))
    (pss_cons (ps_if (pt_truth (pv 4) (by intro _; rfl)) (pss_cons (ps_aug (i := 1) sc_read_pair.nd rfl (.inl rfl) (pe_callB call_len_str rfl B.len PySem.boot_len (pa_cons (pv 4) pa_nil)) ip_add)
    (pss_cons (ps_if (PW.pt (pw_or (pt_cmpR op_gt (pe_callB call_len_str rfl B.len PySem.boot_len (pa_cons (pv 4) pa_nil)) (pe_glob (v := .int (60)) rfl h_MOST_FIGURES ⟨_, rfl⟩) (nomark _)) (pw_or1 (pt_cmpR op_ne (pe_got G_sign_at (hr.mono (by omega)) rfl (pa_cons (pv 0) (pa_cons (pv 1) pa_nil))) pe_str (nomark _))))) (pss_one (ps_raise rfl (takes_of rfl rfl rfl rfl) (pmk_own PySem.F.excBase_ValueError O_NoGrove.q O_NoGrove.gC O_NoGrove.k (raises_own O_NoGrove.s O_NoGrove.t) rfl))) pss_nil)
    (pss_cons (ps_set (i := 3) sc_read_pair.nd rfl (.inl rfl) (pe_callTy call_int_str rfl B.int boot_int (pa_cons (pv 4) pa_nil)))
    (pss_one (ps_aug (i := 1) sc_read_pair.nd rfl (.inl rfl) pe_int ip_add))))) pss_nil)
    (pss_cons (ps_asg (pe_gotS G_read_tree (hr.mono (by omega)) rfl (takes_of rfl rfl rfl rfl) (pa_cons (pv 0) (pa_cons (pv 1) (pa_cons (pv 2) pa_nil)))) (pg_tup rfl (pgs_cons (pg_name (i := 5) sc_read_pair.nd rfl (.inl rfl)) (pgs_cons (pg_name (i := 1) sc_read_pair.nd rfl (.inl rfl)) pgs_nil))))
    (pss_one (ps_ret (pe_tup (pa_cons (pe_tup (pa_cons (pv 5) (pa_cons (pv 3) pa_nil))) (pa_cons (pv 1) pa_nil)))))))), ?_⟩
  have szl := sizeLine_eq
  have hlen : (tl z).length = z.length := (TL.len_tl z).symm
  refine ⟨_, rfl, _, rfl, z, (Str.ofString "0123456789"), k, rfl, by omega, hk, fun e ke el hin hout => ?_⟩
  obtain ⟨r1, r2, r3⟩ := run_tw (p := isFig) fig_mem ke el hin hout
  have rl : (cutS z (some (k : Int)) (some (e : Int))).length = e - k := by rw [TL.len_tl, r1, r3]
  -- the end: tree, at = read_tree(..); return (tree, many), at
  have fin : ∀ (e2 : Nat) (m : Int) (o4 o5 : Option V), e2 ≤ z.length → k ≤ e2 → rdPair left ((tl z).drop k) = (rdTree left ((tl z).drop e2)).map (fun x => ((x.1, m), x.2)) →
      (tSeq (tAsg (tCallS (spReadTree K C_NoGrove n) (WE fun cls d _ H => E cls d H) (tCons (tVar 0) (tCons (tVar 1) (tCons (tVar 2) tNil)))) (gTup K 2 (gCons (gName 5) (gCons (gName 1) gNil))))
        (tRet (tTup (tCons (tTup (tCons (tVar 5) (tCons (tVar 3) tNil))) (tCons (tVar 1) tNil))))) { nx := fun _ H' => Q .non H', rt := Q } [some (.str z), some (.int (e2 : Int)), some (.int (left : Int)), some (.int m), o4, o5] H := by
    intro e2 m o4 o5 he2 hke hrd
    refine ⟨_, rfl, _, rfl, _, rfl, z, e2, left, rfl, hz, he2, hl, ?_, ?_⟩
    · intro t l2 ht T v k' H' s' hT hv hkk hkl hdrop
      rw [ht] at hrd
      refine ⟨T, _, rfl, hT, rfl, _, _, rfl, _, _, rfl, rfl, ?_⟩
      refine ⟨_, rfl, _, rfl, (by show 2 ≤ sizeLine; decide), fun t1 ht1 => ⟨_, rfl, (by show 2 ≤ sizeLine; decide), fun t2 ht2 => ?_⟩⟩
      have u1 := SB.new (ps := []) ht1 (.tup [v, .int m])
      have u2 := SB.new (ps := []) ht2 (.tup [.ref t1, .int (k' : Int)])
      exact q (t, m) l2 hrd t2 (.ref t1) k' _ ((s'.trans u1).trans u2) (SqT.of upd_same) (Dp.tup (u2.sqT (SqT.of upd_same)) (.cons (Dp_sb (u1.trans u2) _ _ (Gr.noList_tEnc _) hv) (.cons (.int _) .nil))) (by omega) hkl hdrop
    · intro hno H' s'
      rw [hno] at hrd
      exact qE hrd _ s'
  refine ⟨_, rfl, _, ⟨by omega, rfl⟩, ?_⟩
  by_cases h0 : e = k
  · have hl0 : (cutS z (some (k : Int)) (some (e : Int))).length = 0 := by omega
    rw [show (((cutS z (some (k : Int)) (some (e : Int))).length : Int) != 0) = false by rw [hl0]; rfl]
    refine iteF ?_
    refine fin k 1 _ none hk (Nat.le_refl _) ?_
    unfold rdPair rdPairOf
    rw [if_pos (List.length_eq_zero_iff.mp (by omega))]
  · rw [show (((cutS z (some (k : Int)) (some (e : Int))).length : Int) != 0) = true by simp; omega]
    refine iteT ?_
    have hne : ((tl z).drop k).takeWhile isFig ≠ [] := fun h => by rw [h] at r3; simp at r3; omega
    refine ⟨_, rfl, _, rfl, _, rfl, by omega, _, _, rfl, rfl, ?_⟩
    have ek : ((k : Int) + ((cutS z (some (k : Int)) (some (e : Int))).length : Nat)) = (e : Int) := by rw [rl]; omega
    simp only [ek]
    refine ⟨_, rfl, _, rfl, by omega, _, _, rfl, rfl, _, rfl, ?_⟩
    by_cases h60 : 60 < (cutS z (some (k : Int)) (some (e : Int))).length
    · rw [show decide ((60 : Int) < ((cutS z (some (k : Int)) (some (e : Int))).length : Nat)) = true from decide_eq_true (by omega)]
      refine iteT (iteT (qE ?_ _ SB.refl))
      unfold rdPair rdPairOf
      rw [if_neg hne, if_pos (.inl (by omega))]
    · rw [show decide ((60 : Int) < ((cutS z (some (k : Int)) (some (e : Int))).length : Nat)) = false from decide_eq_false (by omega)]
      refine iteF ⟨_, rfl, _, rfl, z, e, rfl, by omega, fun y hy => ⟨rfl, _, rfl, ?_⟩⟩
      by_cases hb : ((tl z).drop e).head? = some 32
      · have hy1 : y = ⟨#[32]⟩ := (take1_eq hy).mpr hb
        rw [show (!decide (V.str y = V.str " ")) = false by rw [hy1]; decide +kernel]
        refine iteF ?_
        have elt := head_lt hb
        have hint : PySem.intText? (cutS z (some (k : Int)) (some (e : Int))) = some ((NumText.digitsVal (((tl z).drop k).takeWhile isFig) : Nat) : Int) := by
          have := PySem.intText_digits (x := cutS z (some (k : Int)) (some (e : Int))) (by
            rw [show (cutS z (some (k : Int)) (some (e : Int))).cps.toList = ((tl z).drop k).takeWhile isFig from r1]
            intro c hc
            have := of_decide_eq_true (tw_all isFig _ c hc)
            omega) (by rw [show (cutS z (some (k : Int)) (some (e : Int))).cps.toList = ((tl z).drop k).takeWhile isFig from r1]; exact hne) (by omega)
          rw [show (cutS z (some (k : Int)) (some (e : Int))).cps.toList = ((tl z).drop k).takeWhile isFig from r1] at this
          exact this
        refine ⟨_, rfl, _, _, rfl, hint, by omega, ?_⟩
        refine ⟨_, rfl, _, _, rfl, rfl, ?_⟩
        have e1 : ((e : Int) + 1) = ((e + 1 : Nat) : Int) := by omega
        simp only [e1]
        refine fin (e + 1) _ _ none (by omega) (by omega) ?_
        unfold rdPair rdPairOf
        rw [if_neg hne, if_neg (by rw [← r2]; simp [hb]; omega), ← r2, tail_drop]
      · have hy1 : ¬ y = ⟨#[32]⟩ := fun h => hb ((take1_eq hy).mp h)
        rw [show (!decide (V.str y = V.str " ")) = true by
          rw [decide_eq_false]; rfl
          intro h; injection h with h; exact hy1 h]
        refine iteT (qE ?_ _ SB.refl)
        unfold rdPair rdPairOf
        rw [if_neg hne, if_pos (.inr (by rw [← r2]; exact hb))]
end
end FT
namespace FT
open PySem PySem.W PySem.Spec PyProof.Rows L2
section
variable {P : Program} {w : World} {K : PySem.W.Frag} {mg : Str → Option Value} {base : Heap} {f : Addr} {fd : FuncData}
open TL (tl)
abbrev N_read_tree : List Str := ["text", "at", "left", "kind", "held"]
theorem sc_read_tree : FnScope N_read_tree ["text", "at", "left"] (defScope s_read_tree) := ⟨rfl, rfl, rfl, by decide +kernel, rfl, by decide +kernel, by decide +kernel⟩
theorem ok_read_tree {C_NoGrove : Addr} {n : Nat} (B : BI mg) (O_NoGrove : Own K mg "NoGrove" C_NoGrove) (L_LETTERS : ∃ t, mg "LETTERS" = some (.str abc t)) (G_run_of : Got P w K mg base "run_of" ["text", "at", "signs"] (1) (spRunOf K)) (G_sign_at : Got P w K mg base "sign_at" ["text", "at"] (1) (spSignAt K)) (G_read_pairs : GotX P w K mg base "read_pairs" ["text", "at", "left"] (3 * n + 4) (spReadPairs K C_NoGrove n)) (F : Fun K "read_tree" "read_tree" s_read_tree f fd) : FnOk P w K mg base (L2.CX P w) (3 * n + 5) f fd ["text", "at", "left"] (spReadTree K C_NoGrove (n + 1)) := by
  refine F.okX sc_read_tree (fun vs H Q E h => ?_) (fun cdv A outer s H vs Q E hr h => ?_)
  · obtain ⟨z, k, left, rfl, _⟩ := h
    rfl
  obtain ⟨z, k, left, rfl, hz, hk, hl, q, qE⟩ := h
  obtain ⟨tk_LETTERS, h_LETTERS⟩ := L_LETTERS
  have hun2 : A.units + 3 + 200 < cLine := by have := hr.un; have h3 : (A.deeper (envOfC "read_tree" (defScope s_read_tree) s.heap.objs.size f cdv)).units = A.units + 3 := rfl; omega
  refine ⟨_, pss_cons (ps_set (i := 3) sc_read_tree.nd rfl (.inl rfl) (pe_got G_run_of (hr.mono (by omega)) rfl (pa_cons (pv 0) (pa_cons (pv 1) (pa_cons (pe_glob (v := .str abc) rfl h_LETTERS ⟨_, rfl⟩) pa_nil)))))
    (pss_cons (ps_aug (i := 1) sc_read_tree.nd rfl (.inl rfl) (pe_callB call_len_str rfl B.len PySem.boot_len (pa_cons (pv 3) pa_nil)) ip_add)
    (pss_cons (ps_if (pt_cmpR op_ne (pe_got G_sign_at (hr.mono (by omega)) rfl (pa_cons (pv 0) (pa_cons (pv 1) pa_nil))) pe_str (nomark _)) (pss_one (ps_ret (pe_tup (pa_cons (pe_tup (pa_cons (pv 3) (pa_cons (pe_tup pa_nil) pa_nil))) (pa_cons (pv 1) pa_nil))))) pss_nil)
    (pss_cons (ps_if (pt_cmpR op_eq (pv 2) pe_int (nomark _)) (pss_one (ps_raise rfl (takes_of rfl rfl rfl rfl) (pmk_own PySem.F.excBase_ValueError O_NoGrove.q O_NoGrove.gC O_NoGrove.k (raises_own O_NoGrove.s O_NoGrove.t) rfl))) pss_nil)
    (pss_cons (ps_asg (pe_gotS G_read_pairs (hr.mono (by omega)) rfl (takes_of rfl rfl rfl rfl) (pa_cons (pv 0) (pa_cons (pe_op op_add (pv 1) pe_int) (pa_cons (pe_op op_sub (pv 2) pe_int) pa_nil)))) (pg_tup rfl (pgs_cons (pg_name (i := 4) sc_read_tree.nd rfl (.inl rfl)) (pgs_cons (pg_name (i := 1) sc_read_tree.nd rfl (.inl rfl)) pgs_nil))))
    (pss_cons (ps_if (pt_cmpR op_ne (pe_got G_sign_at (hr.mono (by omega)) rfl (pa_cons (pv 0) (pa_cons (pv 1) pa_nil))) pe_str (nomark _)) (pss_one (ps_raise rfl (takes_of rfl rfl rfl rfl) (pmk_own PySem.F.excBase_ValueError O_NoGrove.q O_NoGrove.gC O_NoGrove.k (raises_own O_NoGrove.s O_NoGrove.t) rfl))) pss_nil)
    (pss_one (ps_ret (pe_tup (pa_cons (pe_tup (pa_cons (pv 3) (pa_cons (pv 4) pa_nil))) (pa_cons (pe_op op_add (pv 1) pe_int) pa_nil)))))))))), ?_⟩
  have szl := sizeLine_eq
  have hlen : (tl z).length = z.length := (TL.len_tl z).symm
  refine ⟨_, rfl, _, rfl, z, abc, k, rfl, by omega, hk, fun e ke el hin hout => ?_⟩
  obtain ⟨r1, r2, r3⟩ := run_tw (p := isLtr) ltr_mem ke el hin hout
  have rl : (cutS z (some (k : Int)) (some (e : Int))).length = e - k := by rw [TL.len_tl, r1, r3]
  refine ⟨_, rfl, _, rfl, _, rfl, by omega, _, _, rfl, rfl, ?_⟩
  have ek : ((k : Int) + ((cutS z (some (k : Int)) (some (e : Int))).length : Nat)) = (e : Int) := by rw [rl]; omega
  simp only [ek]
  refine ⟨_, rfl, _, rfl, z, e, rfl, by omega, fun y hy => ?_⟩
  refine ⟨rfl, _, rfl, ?_⟩
  have kd : (⟨(((tl z).drop k).takeWhile isLtr).toArray⟩ : Str) = cutS z (some (k : Int)) (some (e : Int)) := TL.ext_tl (by rw [r1])
  by_cases hb : ((tl z).drop e).head? = some 123
  · have hy1 : y = ⟨#[123]⟩ := (take1_eq hy).mpr hb
    rw [show (!decide (V.str y = V.str "{")) = false by rw [hy1]; decide +kernel]
    refine iteF ⟨_, rfl, rfl, _, rfl, ?_⟩
    cases left with
    | zero =>
      rw [show decide (V.int ((0 : Nat) : Int) = V.int 0) = true from decide_eq_true rfl]
      refine iteT (qE ?_ _ SB.refl)
      unfold rdTree
      rw [← r2, if_neg (by simp [hb])]
    | succ left =>
      rw [show decide (V.int ((left + 1 : Nat) : Int) = V.int 0) = false from decide_eq_false (fun h => by injection h with h; omega)]
      refine iteF ?_
      have elt := head_lt hb
      have e1 : ((e : Int) + 1) = ((e + 1 : Nat) : Int) := by omega
      have e2 : (((left + 1 : Nat) : Int) - 1) = ((left : Nat) : Int) := by omega
      refine ⟨_, rfl, _, rfl, _, _, rfl, rfl, _, rfl, _, _, rfl, rfl, ?_⟩
      refine ⟨z, e + 1, left, (by show [_, V.int ((e : Int) + 1), V.int (((left + 1 : Nat) : Int) - 1)] = _; rw [e1, e2]), hz, by omega, by omega, ?_, ?_⟩
      · intro ps l2 hrd T v k' H' s' hT hv hkk hkl hdrop
        refine ⟨T, _, rfl, hT, rfl, _, _, rfl, _, _, rfl, rfl, ?_⟩
        refine ⟨_, rfl, _, rfl, z, k', rfl, by omega, fun y2 hy2 => ⟨rfl, _, rfl, ?_⟩⟩
        rw [hdrop] at hy2
        have htree : rdTree (left + 1) ((tl z).drop k) = if l2.head? = some 125 then some ((cutS z (some (k : Int)) (some (e : Int)), Gr.ofPs ps), l2.tail) else none := by
          unfold rdTree
          rw [← r2, if_neg (by simp [hb]), kd, tail_drop]
          show (rdPairs (rdPair left) ((tl z).drop (e + 1))).bind _ = _
          rw [hrd]; rfl
        by_cases hc : l2.head? = some 125
        · have hy3 : y2 = ⟨#[125]⟩ := (take1_eq hy2).mpr hc
          rw [show (!decide (V.str y2 = V.str "}")) = false by rw [hy3]; decide +kernel]
          refine iteF ?_
          rw [if_pos hc] at htree
          refine ⟨_, rfl, _, rfl, (by show 2 ≤ sizeLine; decide), fun t1 ht1 => ⟨_, rfl, _, _, rfl, rfl, (by show 2 ≤ sizeLine; decide), fun t2 ht2 => ?_⟩⟩
          have u1 := SB.new (ps := []) ht1 (.tup [.str (cutS z (some (k : Int)) (some (e : Int))), v])
          have u2 := SB.new (ps := []) ht2 (.tup [.ref t1, .int ((k' : Int) + 1)])
          have kl2 : k' < (tl z).length := by rw [← hdrop] at hc; exact head_lt hc
          refine q _ _ htree t2 (.ref t1) (k' + 1) _ ((s'.trans u1).trans u2) (SqT.of upd_same) (Dp.tup (u2.sqT (SqT.of upd_same)) (.cons (.str _) (.cons ((hv.sb u1).sb u2) .nil))) (by omega) (by omega) ?_
          rw [← tail_drop, hdrop]
        · have hy3 : ¬ y2 = ⟨#[125]⟩ := fun h => hc ((take1_eq hy2).mp h)
          rw [show (!decide (V.str y2 = V.str "}")) = true by
            rw [decide_eq_false]; rfl
            intro h; injection h with h; exact hy3 h]
          rw [if_neg hc] at htree
          exact iteT (qE htree _ s')
      · intro hno H' s'
        refine qE ?_ _ s'
        unfold rdTree
        rw [← r2, if_neg (by simp [hb]), tail_drop]
        show (rdPairs (rdPair left) ((tl z).drop (e + 1))).bind _ = _
        rw [hno]; rfl
  · have hy1 : ¬ y = ⟨#[123]⟩ := fun h => hb ((take1_eq hy).mp h)
    rw [show (!decide (V.str y = V.str "{")) = true by
      rw [decide_eq_false]; rfl
      intro h; injection h with h; exact hy1 h]
    refine iteT ?_
    have htree : rdTree left ((tl z).drop k) = some ((cutS z (some (k : Int)) (some (e : Int)), .nil), (tl z).drop e) := by
      cases left with
      | zero => unfold rdTree; rw [← r2, if_pos hb, kd]
      | succ n => unfold rdTree; rw [← r2, if_pos hb, kd]
    refine ⟨_, rfl, (by show 0 ≤ sizeLine; decide), fun t0 ht0 => ⟨(by show 2 ≤ sizeLine; decide), fun t1 ht1 => ⟨_, rfl, (by show 2 ≤ sizeLine; decide), fun t2 ht2 => ?_⟩⟩⟩
    have u0 := SB.new (ps := []) ht0 (.tup [])
    have u1 := SB.new (ps := []) ht1 (.tup [.str (cutS z (some (k : Int)) (some (e : Int))), .ref t0])
    have u2 := SB.new (ps := []) ht2 (.tup [.ref t1, .int (e : Int)])
    exact q _ _ htree t2 (.ref t1) e _ ((u0.trans u1).trans u2) (SqT.of upd_same) (Dp.tup (u2.sqT (SqT.of upd_same)) (.cons (.str _) (.cons (GA_nil ((u1.trans u2).sqT (SqT.of upd_same))) .nil))) ke el rfl
end
end FT
namespace FT
open PySem PySem.W PySem.Spec PyProof.Rows L2
section
variable {P : Program} {w : World} {K : PySem.W.Frag} {mg : Str → Option Value} {base : Heap} {f : Addr} {fd : FuncData}
abbrev N_tree_at : List Str := ["grove", "place", "tree", "row", "at"]
theorem sc_tree_at : FnScope N_tree_at ["grove", "place"] (defScope s_tree_at) := ⟨rfl, rfl, rfl, by decide +kernel, rfl, by decide +kernel, by decide +kernel⟩
theorem ok_tree_at {C : Addr} (B : BI mg) (O : Own K mg "NoPlace" C) (GW : Got P w K mg base "is_whole" ["thing"] 1 (spWhole K)) (F : Fun K "tree_at" "tree_at" s_tree_at f fd) : FnOk P w K mg base (L2.CX P w) 2 f fd ["grove", "place"] (spTreeAt K C) := by
  refine F.okX sc_tree_at (fun vs H Q E h => ?_) (fun cdv A outer s H vs Q E hr h => ?_)
  · obtain ⟨v, g, a, xs, os, rfl, _⟩ := h
    rfl
  obtain ⟨v, g, a, xs, os, rfl, hv, hs, hw, q, qE⟩ := h
  refine ⟨_, pss_cons (ps_if (pt_not (pt_truth (pv 1) (by intro _; rfl))) (pss_one (ps_raise rfl (takes_of rfl rfl rfl rfl) (pmk_own PySem.F.excBase_ValueError O.q O.gC O.k (raises_own O.s O.t) rfl))) pss_nil)
    (pss_cons (ps_set (i := 2) sc_tree_at.nd rfl (.inl rfl) (pe_tup pa_nil))
    (pss_cons (ps_set (i := 3) sc_tree_at.nd rfl (.inl rfl) (pv 0))
    (pss_cons (ps_for (passes_of rfl) rfl (pi_tup (pv 1)) (pg_name (i := 4) sc_tree_at.nd rfl (.inl rfl))
      (pss_cons (ps_if (PW.pt (pw_or (pt_not (pt_val (pe_got GW hr rfl (pa_cons (pv 4) pa_nil)))) (pw_or1 (pt_not (pt_chain op_le op_lt pe_int (pv 4) (pe_callB call_len_seq rfl B.len PySem.boot_len (pa_cons (pv 3) pa_nil)))))))
        (pss_one (ps_raise rfl (takes_of rfl rfl rfl rfl) (pmk_own PySem.F.excBase_ValueError O.q O.gC O.k (raises_own O.s O.t) rfl))) pss_nil)
      (pss_cons (ps_set (i := 2) sc_tree_at.nd rfl (.inl rfl) (pe_ix ix_tup (pe_ix ix_tup (pv 3) (pv 4) (fun _ _ => rfl)) pe_int (fun _ _ => rfl)))
      (pss_one (ps_set (i := 3) sc_tree_at.nd rfl (.inl rfl) (pe_ix ix_tup (pv 2) pe_int (fun _ _ => rfl)))))))
    (pss_one (ps_ret (pv 2)))))), ?_⟩
  have wl := hw.length
  by_cases hnil : os = []
  · have x0 : xs = [] := by rw [hnil] at wl; exact List.length_eq_zero_iff.mp wl
    exact ⟨_, rfl, false, .inr (.inl ⟨xs, hs, by rw [x0]; rfl⟩), iteT (qE (.inl hnil) _ SB.refl)⟩
  have x1 : xs ≠ [] := fun z => hnil (by rw [z] at wl; exact List.length_eq_zero_iff.mp wl.symm)
  refine ⟨_, rfl, true, .inr (.inl ⟨xs, hs, by cases xs with | nil => exact absurd rfl x1 | cons _ _ => rfl⟩), iteF ?_⟩
  refine ⟨(by show 0 ≤ sizeLine; decide), fun e0 he0 => ?_⟩
  have t0 := SB.new (ps := []) he0 (.tup [])
  have hv0 := hv.sb t0
  have hs0 := t0.sqT hs
  have hw' : Whs K (upd H e0 (.tup [])) xs os := Whs.sb t0 hw
  generalize hH0 : upd H e0 (.tup []) = H0 at t0 hv0 hs0 hw'
  refine ⟨_, rfl, _, rfl, a, rfl, ⟨xs, hs0⟩, ?_⟩
  refine for_tup (K := K) (a := a) (xs := xs) (fun i σ H2 => H2 = H0 ∧ ∃ (tv rv : V) (t : Tr) (o4 : Option V), σ = [some v, some (.ref a), some tv, some rv, o4] ∧ lk ("", g) (os.take i) = some t ∧ GA K H0 rv t.2 ∧ (i = 0 ∨ Dp K H0 tv (Gr.tEnc t)))
    ⟨rfl, _, _, ("", g), none, rfl, rfl, hv0, .inl rfl⟩ (fun i σ H2 hi h2 => by rw [h2.1]; exact hs0) (fun i x σ H2 hx h2 => ?_) (fun σ H2 h2 => ?_)
  · obtain ⟨rfl, tv, rv, t, o4, rfl, hlk, hrv, _⟩ := h2
    obtain ⟨o, eo, hwx⟩ := hw'.get hx
    have bad : stp t.2 o = none → E (.ref C) none H2 := fun z => qE (.inr (lk_none hlk eo z)) _ t0
    rcases hwx with ⟨n, rfl, rfl⟩ | ⟨rfl, n, b1, b2, ty, k1, k2, k3⟩
    · refine ⟨_, rfl, _, "int", true, false, rfl, .base (.int n), by decide +kernel, fun _ => by decide +kernel, true, rfl, iteF ?_⟩
      obtain ⟨c, ys, rfl, hsc, hbc⟩ := GA_bears hrv
      have yl := hbc.length
      refine ⟨_, rfl, _, _, rfl, rfl, _, rfl, ?_⟩
      by_cases h0 : 0 ≤ n
      · rw [decide_eq_true h0]
        refine iteT ⟨_, rfl, c, ys, rfl, .inr hsc, _, _, rfl, rfl, _, rfl, ?_⟩
        obtain ⟨m, rfl⟩ : ∃ m : Nat, n = (m : Int) := ⟨n.toNat, by omega⟩
        by_cases h1 : m < ys.length
        · rw [show decide ((m : Int) < (ys.length : Nat)) = true from decide_eq_true (by omega)]
          refine iteF ?_
          obtain ⟨y, hy⟩ : ∃ y, ys[m]? = some y := ⟨_, List.getElem?_eq_getElem h1⟩
          obtain ⟨p, ep, hpd⟩ := hbc.get hy
          obtain ⟨ad, bd, ux, rfl, hsx, hst, hdx, hdt⟩ := PA_parts hpd
          refine ⟨_, rfl, _, rfl, c, ys, _, _, rfl, rfl, hsc, atI_nat hy, ad, _, _, _, rfl, rfl, hsx, atI_nat (j := 0) rfl, ?_⟩
          refine ⟨_, rfl, bd, _, _, _, rfl, rfl, hst, atI_nat (j := 1) rfl, ?_⟩
          have es : stp t.2 (some (m : Int)) = some p.1 := by
            show (if 0 ≤ (m : Int) then (t.2.ps[(m : Int).toNat]?).map (·.1) else none) = _
            rw [if_pos h0, Int.toNat_natCast, ep]; rfl
          exact ⟨rfl, _, _, p.1, _, rfl, lk_next hlk eo es, hdx, .inr hdt⟩
        · rw [show decide ((m : Int) < (ys.length : Nat)) = false from decide_eq_false (by omega)]
          refine iteT (bad ?_)
          show (if 0 ≤ (m : Int) then (t.2.ps[(m : Int).toNat]?).map (·.1) else none) = _
          rw [if_pos h0, Int.toNat_natCast, List.getElem?_eq_none (by omega)]; rfl
      · rw [decide_eq_false h0]
        refine iteF ⟨_, rfl, iteT (bad ?_)⟩
        show (if 0 ≤ n then (t.2.ps[n.toNat]?).map (·.1) else none) = _
        rw [if_neg h0]
    · refine ⟨_, rfl, _, n, b1, b2, rfl, ty, k1, k2, _, rfl, ?_⟩
      rw [k3]
      exact iteT (iteT (bad rfl))
  · obtain ⟨rfl, tv, rv, t, o4, rfl, hlk, hrv, h3⟩ := h2
    rw [wl, List.take_length] at hlk
    refine ⟨_, rfl, q t hnil hlk _ _ t0 ?_⟩
    rcases h3 with h3 | h3
    · exact absurd (List.length_eq_zero_iff.mp h3) x1
    · exact h3
end
end FT
namespace FT
open PySem PySem.W PySem.Spec PyProof.Rows L2
section
variable {P : Program} {w : World} {K : PySem.W.Frag} {mg : Str → Option Value} {base : Heap} {f : Addr} {fd : FuncData}
abbrev N_bare : List Str := ["grove", "found", "at", "pair", "held", "place"]
theorem sc_bare_places : FnScope N_bare ["grove"] (defScope s_bare_places) := ⟨rfl, rfl, rfl, by decide +kernel, rfl, by decide +kernel, by decide +kernel⟩
theorem ok_bare_places {n : Nat} (B : BI mg) (G : Got P w K mg base "bare_places" ["grove"] n (spBareP K n)) (F : Fun K "bare_places" "bare_places" s_bare_places f fd) : FnOk P w K mg base CX0 (n + 1) f fd ["grove"] (spBareP K (n + 1)) := by
  refine F.ok sc_bare_places (fun vs H Q E h => ?_) (fun cdv A outer s H vs Q E hr h => ?_)
  · obtain ⟨v, g, rfl, _⟩ := h
    rfl
  obtain ⟨v, g, rfl, hg, hd, hd2, hp, q⟩ := h
  refine ⟨_, pss_cons (ps_set (i := 1) sc_bare_places.nd rfl (.inl rfl) (pe_lst pa_nil))
    (pss_cons (ps_for PassesOwn.never rfl (pi_enumT rfl B.enumerate (pv 0)) (pg_tup rfl (pgs_cons (pg_name (i := 2) sc_bare_places.nd rfl (.inr rfl)) (pgs_cons (pg_name (i := 3) sc_bare_places.nd rfl (.inl rfl)) pgs_nil)))
      (pss_cons (ps_set (i := 4) sc_bare_places.nd rfl (.inl rfl) (pe_ix ix_tup (pe_ix ix_tup (pv 3) pe_int (fun _ _ => rfl)) pe_int (fun _ _ => rfl)))
      (pss_one (ps_if (pt_truth (pv 4) (by intro _; rfl))
        (pss_one (ps_expr (pe_bm PySem.F.plainAttrs_list PySem.F.slot_list_extend PySem.F.type_list_extend mt_extend (pv 1) (pa_cons
          (pe_lc (own := [("place", 5)]) (g := gName 5) (tt := tYes) (te := tOp (rCatB K) (tTup (tCons (tVar 2) tNil)) (tVar 5)) rfl sc_bare_places.nd (pi_list (pe_got G hr rfl (pa_cons (pv 4) pa_nil)))
            (blkOk_by (N := N_bare) (sc := defScope s_bare_places) (by decide +kernel))
            (fun _ _ _ _ _ => pg_name (i := 5) sc_bare_places.nd rfl (.inl rfl)) (fun _ _ _ _ _ => pts_nil)
            (fun _ _ _ _ _ => pe_op op_catB (pe_tup (pa_cons (pv 2) pa_nil)) (pv 5))) pa_nil))))
        (pss_one (ps_expr (pe_bm PySem.F.plainAttrs_list PySem.F.slot_list_append PySem.F.type_list_append mt_append (pv 1) (pa_cons (pe_tup (pa_cons (pv 2) pa_nil)) pa_nil))))))))
    (pss_one (ps_ret (pv 1)))), ?_⟩
  obtain ⟨a, xs, rfl, hs, hb⟩ := GA_bears hg
  have bl := hb.length
  have lenb := g.bp_len 0
  refine ⟨(by show 0 ≤ sizeLine; decide), fun D hD => ?_⟩
  refine ⟨_, rfl, a, xs, rfl, (SB.new (ps := []) hD _).sqT hs, ?_⟩
  refine for_it (walk_enumT (xs := xs)) (fun i σ H2 => SB [D] H H2 ∧ ∃ us o2 o3 o4, σ = [some (.ref a), some (.ref D), o2, o3, o4, none] ∧ H2 D = some (.lst us) ∧ Bears K H2 plEnc us (Gr.bps (g.ps.take i) 0)) ⟨SB.new hD _, [], none, none, none, rfl, upd_same, .nil⟩ (fun i σ H2 hi h2 => (h2.1.drop hD).sqT hs) (fun i x σ H2 H' hi h2 y => ?_) (fun σ H2 h2 => ?_)
  · obtain ⟨s2, us, o2, o3, o4, rfl, hD2, hb2⟩ := h2
    obtain ⟨T, e1, e2, rfl, hT, rfl, ee1, ee2⟩ := y
    have he1 : e1 = .int (i : Nat) := (Option.some.inj ee1).symm
    subst he1
    obtain ⟨p, ep, hpd⟩ := hb.get ee2
    have pm := List.mem_of_getElem? ep
    obtain ⟨ad, td, ux, rfl, hs2, hs3, hga, _⟩ := PA_parts hpd
    have t3 := SB.new (ps := [D]) hT (.tup [.int (i : Nat), .ref ad])
    have hD3 : (upd H2 T (.tup [.int (i : Nat), .ref ad])) D = some (.lst us) := by rw [upd_ne (ne_of_none hD2 hT)]; exact hD2
    have hT3 : SqT K (upd H2 T (.tup [.int (i : Nat), .ref ad])) T [.int (i : Nat), .ref ad] := SqT.of upd_same
    have s3 := s2.trans t3
    have hb3 := hb2.sb t3 pl_noList
    generalize hH3 : upd H2 T (.tup [.int (i : Nat), .ref ad]) = H3 at t3 hD3 hT3 s3 hb3
    have s3' := s3.drop hD
    have ul := hb3.length
    have pd := g.mem_deep p pm
    have pp := g.mem_parts p pm
    have hsp : g.bp 0 = Gr.bps (g.ps.take i) 0 ++ Gr.bpP p i ++ Gr.bps (g.ps.drop (i + 1)) (i + 1) := by
      rw [Gr.bp_ps]
      conv => lhs; rw [← List.take_append_drop (i + 1) g.ps]
      rw [Gr.bps_append, Gr.bps_take ep, List.length_take, Nat.min_eq_left (by omega), Nat.zero_add]
    have hlen := congrArg List.length hsp
    rw [List.length_append, List.length_append] at hlen
    refine ⟨T, _, rfl, hT3, rfl, _, _, rfl, _, _, rfl, rfl, ?_⟩
    refine ⟨_, rfl, ad, _, _, _, rfl, rfl, s3'.sqT hs2, atI_nat (j := 0) rfl, td, _, _, _, rfl, rfl, s3'.sqT hs3, atI_nat (j := 1) rfl, ?_⟩
    obtain ⟨b, ys, rfl, hsb, hbb⟩ := GA_bears hga
    have yl := hbb.length
    refine ⟨_, rfl, _, .inr (.inl ⟨ys, s3'.sqT hsb, rfl⟩), ?_⟩
    by_cases hnil : p.1.2 = .nil
    · have ys0 : ys = [] := by
        rw [hnil] at yl
        exact List.length_eq_zero_iff.mp yl
      rw [ys0]
      refine iteF ?_
      have hbP : Gr.bpP p i = [[i]] := if_pos hnil
      refine ⟨_, rfl, .inl ⟨rfl, _, SqL.of hD3⟩, _, rfl, (by show 1 ≤ sizeLine; decide), fun t ht => ?_⟩
      have t4 := SB.new (ps := [D]) ht (.tup [.int (i : Nat)])
      have hD4 : (upd H3 t (.tup [.int (i : Nat)])) D = some (.lst us) := by rw [upd_ne (ne_of_none hD3 ht)]; exact hD3
      refine ⟨D, us, _, rfl, rfl, hD4, small1000 (by omega), ?_⟩
      have t5 := SB.set (ps := [D]) hD4 (by simp) (.lst (us ++ [.ref t]))
      refine ⟨(s3.trans t4).trans t5, _, _, _, _, rfl, upd_same, ?_⟩
      rw [Gr.bps_take ep, hbP]
      exact Bears.append ((hb3.sb t4 pl_noList).sb t5 pl_noList) (.cons (PL_of (p := [i]) (t5.sqT (SqT.of upd_same))) .nil)
    · have ys1 : ys ≠ [] := fun z => by
        rw [z] at yl
        cases hq : p.1.2 with
        | nil => exact hnil hq
        | cons k g m r => rw [hq] at yl; simp [Gr.ps] at yl
      have hie : (!ys.isEmpty) = true := by cases ys with
        | nil => exact absurd rfl ys1
        | cons _ _ => rfl
      rw [hie]
      refine iteT ?_
      have hbP : Gr.bpP p i = (p.1.2.bp 0).map (i :: ·) := if_neg hnil
      refine ⟨_, rfl, .inl ⟨rfl, _, SqL.of hD3⟩, _, rfl, .ref b, p.1.2, rfl, hga.sb s3', by omega, by omega, by omega, fun D2 vs2 H4 s4 hDn hD4 hb4 => ?_⟩
      have hD3' := s4.keep _ _ hD3 List.not_mem_nil
      have s24 := s3.trans s4.nil
      have vl := hb4.length
      refine ⟨D2, rfl, ⟨_, SqL.of hD4⟩, fun L hL => ?_⟩
      have DL : D ≠ L := ne_of_none hD3' hL
      have D2L : D2 ≠ L := ne_of_none hD4 hL
      refine lc_it (walk_list (xs := vs2)) (fun j H5 => SB [L] H4 H5 ∧ ∃ ws, H5 L = some (.lst ws) ∧ Bears K H5 plEnc ws (((p.1.2.bp 0).take j).map (i :: ·))) ⟨SB.new hL _, [], upd_same, .nil⟩ (fun j H5 hj h5 => h5.1.sqL (by simpa using D2L) (SqL.of hD4)) (fun j z H5 H6 hj h5 hz => ?_) (fun H5 h5 => ?_)
      · obtain ⟨s5, ws, hL5, hb5⟩ := h5
        obtain ⟨rfl, ez⟩ := hz
        obtain ⟨pl, epl, hpl⟩ := hb4.get ez
        obtain ⟨pa, rfl, hpa⟩ := PL_ints hpl
        have plong := p.1.2.bp_long 0 pl (List.mem_of_getElem? epl)
        have pbl := p.1.2.bp_len 0
        have wl := hb5.length
        rw [List.length_map, List.length_take] at wl
        have s5' := s5.drop hL
        refine ⟨rfl, ?_⟩
        refine ⟨_, rfl, (by show 1 ≤ sizeLine; decide), fun t ht => ?_⟩
        have t6 := SB.new (ps := [L]) ht (.tup [.int (i : Nat)])
        have hL6 : (upd H6 t (.tup [.int (i : Nat)])) L = some (.lst ws) := by rw [upd_ne (ne_of_none hL5 ht)]; exact hL5
        have hsx : SqT K (upd H6 t (.tup [.int (i : Nat)])) pa (pl.map fun n : Nat => V.int (n : Int)) := t6.sqT (s5'.sqT hpa)
        refine ⟨_, rfl, t, pa, _, _, rfl, rfl, SqT.of upd_same, hsx, ?_, fun c H7 s7 hc => ?_⟩
        · rw [List.length_map, List.length_singleton]
          have := small5 (n := 1 + pl.length) (by omega)
          omega
        have hL7 := s7.keep _ _ hL6 List.not_mem_nil
        refine ⟨ws, hL7, small1000 (by omega), ?_⟩
        have t8 := SB.set (ps := [L]) hL7 (by simp) (.lst (ws ++ [.ref c]))
        refine ⟨((s5.trans t6).trans s7.nil).trans t8, _, upd_same, ?_⟩
        rw [List.take_add_one, epl, Option.toList_some, List.map_append]
        exact Bears.append (((hb5.sb t6 pl_noList).sb s7 pl_noList).sb t8 pl_noList) (.cons (PL_of (p := i :: pl) (t8.sqT hc)) .nil)
      · obtain ⟨s5, ws, hL5, hb5⟩ := h5
        rw [vl, List.take_length, ← hbP] at hb5
        have wl := hb5.length
        have hD5 := s5.keep _ _ hD3' (by simpa using DL)
        refine ⟨D, L, _, _, rfl, rfl, hD5, hL5, ?_, ?_⟩
        · have := small5 (n := us.length + ws.length) (by omega)
          omega
        have t6 := SB.set (ps := [D]) hD5 (by simp) (.lst (us ++ ws))
        refine ⟨s24.trans ((s5.drop hL).nil.trans t6), _, _, _, _, rfl, upd_same, ?_⟩
        rw [Gr.bps_take ep]
        exact Bears.append (((hb3.sb s4 pl_noList).sb s5 pl_noList).sb t6 pl_noList) (hb5.sb t6 pl_noList)
  · obtain ⟨s2, us, o2, o3, o4, rfl, hD2, hb2⟩ := h2
    rw [bl, List.take_length, ← Gr.bp_ps] at hb2
    exact ⟨_, rfl, q D us H2 (s2.drop hD) hD hD2 hb2⟩
end
end FT
namespace FT
open PySem PySem.W PySem.Spec PyProof.Rows L2
section
variable {P : Program} {w : World} {K : PySem.W.Frag} {mg : Str → Option Value} {base : Heap} {f : Addr} {fd : FuncData}
abbrev N_purseG : List Str := ["_law_script", "_law_k", "_law_cell", "_law_digits", "_law_begin"]
theorem sc_law_purse : FnScope N_purseG ["_law_script", "_law_k"] (defScope s__law_purse) := ⟨rfl, rfl, rfl, by decide +kernel, rfl, by decide +kernel, by decide +kernel⟩
theorem ok_law_purse (B : BI mg) (F : Fun K "_law_purse" "_law_purse" s__law_purse f fd) : FnOk P w K mg base CX0 1 f fd ["_law_script", "_law_k"] (spPurseG K) := by
  refine F.ok sc_law_purse (fun vs H Q E h => ?_) (fun cdv A outer s H vs Q E hr h => ?_)
  · obtain ⟨a, ns, k, rfl, _⟩ := h
    rfl
  obtain ⟨a, ns, k, rfl, hs, h63, hk, q⟩ := h
  refine ⟨_, pss_cons (ps_set (i := 2) sc_law_purse.nd rfl (.inl rfl) pe_int)
    (pss_cons (ps_if (pt_cmpR op_lt (pv 1) (pe_callB call_len_seq rfl B.len PySem.boot_len (pa_cons (pv 0) pa_nil)) (nomark _)) (pss_one (ps_set (i := 2) sc_law_purse.nd rfl (.inl rfl) (pe_ix ix_list (pv 0) (pv 1) (fun _ _ => rfl)))) pss_nil)
    (pss_cons (ps_set (i := 3) sc_law_purse.nd rfl (.inl rfl) pe_int)
    (pss_cons (ps_if (PW.pt (pw_or (pt_cmpR op_ge (pv 2) (pe_op op_pow pe_int pe_int) (nomark _)) (pw_or1 (pt_cmpR op_lt (pv 2) pe_int (nomark _)))))
      (pss_one (ps_set (i := 3) sc_law_purse.nd rfl (.inl rfl) (pe_op op_mod (pe_callB call_abs rfl B.abs boot_abs (pa_cons (pv 2) pa_nil)) (pe_op op_mulW (pe_op op_mulW (pe_op op_mulW (pe_op op_mulW (pe_op op_pow pe_int pe_int) (pe_op op_pow pe_int pe_int)) (pe_op op_pow pe_int pe_int)) (pe_op op_pow pe_int pe_int)) (pe_op op_pow pe_int pe_int))))) pss_nil)
    (pss_cons (ps_set (i := 4) sc_law_purse.nd rfl (.inl rfl) (pe_op op_mul (pe_op op_add (pe_op op_mod (pv 2) pe_int) pe_int) (pe_op op_add (pe_op op_add (pe_op op_mul (pe_op op_mul pe_int (pv 1)) (pv 1)) (pe_op op_mul pe_int (pv 1))) pe_int)))
    (pss_one (ps_ret (pe_lst (pa_cons (pv 3) (pa_cons (pe_op op_add (pe_op op_mod (pe_op op_mul (pv 4) pe_int) pe_int) pe_int) pa_nil))))))))), ?_⟩
  have fin : ∀ (c x : Int), 0 ≤ x → tSeq (tAsg (tOp (rI CMul fun i j => .int (i * j)) (tOp (rI0 fun i j => .int (i + j)) (tOp (rI (fun _ j => 0 < j) fun i j => .int (i % j)) (tVar 2) (tC (.int 18446744073709551557))) (tC (.int 1))) (tOp (rI0 fun i j => .int (i + j)) (tOp (rI0 fun i j => .int (i + j)) (tOp (rI CMul fun i j => .int (i * j)) (tOp (rI CMul fun i j => .int (i * j)) (tC (.int 7)) (tVar 1)) (tVar 1)) (tOp (rI CMul fun i j => .int (i * j)) (tC (.int 2)) (tVar 1))) (tC (.int 3)))) (gName 4))
      (tRet (tLst (tCons (tVar 3) (tCons (tOp (rI0 fun i j => .int (i + j)) (tOp (rI (fun _ j => 0 < j) fun i j => .int (i % j)) (tOp (rI CMul fun i j => .int (i * j)) (tVar 4) (tC (.int 2654435761))) (tC (.int 18446744073709551557))) (tC (.int 1))) tNil))))
      { nx := fun _ H' => Q .non H', rt := Q } [some (.ref a), some (.int (k : Int)), some (.int c), some (.int x), none] H := by
    intro c x hx
    refine ⟨_, rfl, _, _, rfl, rfl, (by show (0 : Int) < 18446744073709551557; decide), _, _, rfl, rfl, _, rfl, _, _, rfl, rfl, .inl ⟨by decide, by decide⟩, _, rfl, _, _, rfl, rfl, .inl ⟨by show -(2 ^ 64) < 7 * (k : Int); omega, by show 7 * (k : Int) < 2 ^ 64; omega⟩, _, rfl, _, _, rfl, rfl, .inl ⟨by decide, by decide⟩, _, _, rfl, rfl, _, _, rfl, rfl, _, _, rfl, rfl, .inr ⟨?_, ?_⟩, ?_⟩
    · have h1 : 0 ≤ 7 * (k : Int) * (k : Int) := Int.mul_nonneg (by omega) (by omega)
      show -(2 ^ 64) < 7 * (k : Int) * k + 2 * k + 3; omega
    · have h1 : 7 * (k : Int) * (k : Int) ≤ 7000 * 1000 := Int.mul_le_mul (by omega) (by omega) (by omega) (by decide)
      show 7 * (k : Int) * k + 2 * k + 3 < 2 ^ 64; omega
    refine ⟨_, rfl, _, rfl, _, _, rfl, rfl, .inr ⟨by decide, by decide⟩, _, _, rfl, rfl, (by show (0 : Int) < 18446744073709551557; decide), _, _, rfl, rfl, (by show 2 ≤ sizeLine; decide), fun p hp => ?_⟩
    refine q p _ (SB.new hp _) hp ⟨x, _, upd_same, hx, ?_, ?_⟩
    · have := Int.emod_nonneg ((c % 18446744073709551557 + 1) * (7 * (k : Int) * k + 2 * k + 3) * 2654435761) (b := 18446744073709551557) (by decide)
      omega
    · have := Int.emod_lt_of_pos ((c % 18446744073709551557 + 1) * (7 * (k : Int) * k + 2 * k + 3) * 2654435761) (b := 18446744073709551557) (by decide)
      omega
  have mid : ∀ (c : Int), tSeq (tAsg (tC (.int 0)) (gName 3)) (tSeq (tIfS (tOr (tTest (tOp (rI0 fun i j => .bl (decide (i ≥ j))) (tVar 2) (tOp (rI CPow fun i j => .int (i ^ j.toNat)) (tC (.int 10)) (tC (.int 18))))) (tTest (tOp (rI0 fun i j => .bl (decide (i < j))) (tVar 2) (tC (.int 0)))))
      (tAsg (tOp (rI (fun _ j => 0 < j) fun i j => .int (i % j)) (tCB (fun xs H Q => ∃ i, xs = [.int i] ∧ Q (.int (if i < 0 then -i else i)) H) (tCons (tVar 2) tNil)) (tOp (rI CMulW fun i j => .int (i * j)) (tOp (rI CMulW fun i j => .int (i * j)) (tOp (rI CMulW fun i j => .int (i * j)) (tOp (rI CMulW fun i j => .int (i * j)) (tOp (rI CPow fun i j => .int (i ^ j.toNat)) (tC (.int 10)) (tC (.int 60))) (tOp (rI CPow fun i j => .int (i ^ j.toNat)) (tC (.int 10)) (tC (.int 60)))) (tOp (rI CPow fun i j => .int (i ^ j.toNat)) (tC (.int 10)) (tC (.int 60)))) (tOp (rI CPow fun i j => .int (i ^ j.toNat)) (tC (.int 10)) (tC (.int 60)))) (tOp (rI CPow fun i j => .int (i ^ j.toNat)) (tC (.int 10)) (tC (.int 60))))) (gName 3)) tNext)
      (tSeq (tAsg (tOp (rI CMul fun i j => .int (i * j)) (tOp (rI0 fun i j => .int (i + j)) (tOp (rI (fun _ j => 0 < j) fun i j => .int (i % j)) (tVar 2) (tC (.int 18446744073709551557))) (tC (.int 1))) (tOp (rI0 fun i j => .int (i + j)) (tOp (rI0 fun i j => .int (i + j)) (tOp (rI CMul fun i j => .int (i * j)) (tOp (rI CMul fun i j => .int (i * j)) (tC (.int 7)) (tVar 1)) (tVar 1)) (tOp (rI CMul fun i j => .int (i * j)) (tC (.int 2)) (tVar 1))) (tC (.int 3)))) (gName 4))
      (tRet (tLst (tCons (tVar 3) (tCons (tOp (rI0 fun i j => .int (i + j)) (tOp (rI (fun _ j => 0 < j) fun i j => .int (i % j)) (tOp (rI CMul fun i j => .int (i * j)) (tVar 4) (tC (.int 2654435761))) (tC (.int 18446744073709551557))) (tC (.int 1))) tNil))))))
      { nx := fun _ H' => Q .non H', rt := Q } [some (.ref a), some (.int (k : Int)), some (.int c), none, none] H := by
    intro c
    have cp : CPow 10 60 := ⟨by decide, by decide, by decide⟩
    refine ⟨_, rfl, _, _, rfl, rfl, ⟨by decide, by decide, by decide⟩, _, _, rfl, rfl, _, rfl, ?_⟩
    refine ite2 (fun z => iteT ?_) (fun z => ⟨_, rfl, _, _, rfl, rfl, _, rfl, ite2 (fun z => ?_) (fun z => ?_)⟩)
    case refine_3 => exact fin c 0 (Int.le_refl 0)
    all_goals
      refine ⟨_, rfl, c, rfl, _, _, rfl, rfl, cp, _, _, rfl, rfl, cp, _, _, rfl, rfl, wide_mul (a := 200) (b := 200) (by decide) (by decide) (by decide) (by decide) (by decide), _, _, rfl, rfl, cp, _, _, rfl, rfl, wide_mul (a := 400) (b := 200) (by decide) (by decide) (by decide) (by decide) (by decide), _, _, rfl, rfl, cp, _, _, rfl, rfl, wide_mul (a := 600) (b := 200) (by decide) (by decide) (by decide) (by decide) (by decide), _, _, rfl, rfl, cp, _, _, rfl, rfl, wide_mul (a := 800) (b := 200) (by decide) (by decide) (by decide) (by decide) (by decide), _, _, rfl, rfl, ?_, ?_⟩
      · show (0 : Int) < 10 ^ 60 * 10 ^ 60 * 10 ^ 60 * 10 ^ 60 * 10 ^ 60; decide
      · exact fin c _ (Int.emod_nonneg _ (by decide))
  refine ⟨_, rfl, _, rfl, a, _, rfl, .inl hs, _, _, rfl, rfl, _, rfl, ?_⟩
  refine ite2 (fun z => ?_) (fun z => ?_)
  · have z' : (k : Int) < ((ns.map V.int).length : Nat) := of_decide_eq_true z
    rw [List.length_map] at z'
    have hk2 : k < ns.length := by omega
    refine ⟨_, rfl, _, rfl, a, _, _, _, rfl, rfl, hs, atI_nat (j := k) (v := .int ns[k]) (by rw [List.getElem?_map, List.getElem?_eq_getElem hk2]; rfl), ?_⟩
    exact mid _
  · exact mid 0
end
end FT
namespace FT
open PySem PySem.W PySem.Spec PyProof.Rows L2
section
variable {P : Program} {w : World} {K : PySem.W.Frag} {mg : Str → Option Value} {base : Heap} {f : Addr} {fd : FuncData}
abbrev N_takeG : List Str := ["_law_purse_here", "_law_many", "_law_digit"]
theorem sc_law_take : FnScope N_takeG ["_law_purse_here", "_law_many"] (defScope s__law_take) := ⟨rfl, rfl, rfl, by decide +kernel, rfl, by decide +kernel, by decide +kernel⟩
theorem ok_law_take (F : Fun K "_law_take" "_law_take" s__law_take f fd) : FnOk P w K mg base CX0 1 f fd ["_law_purse_here", "_law_many"] spTakeG := by
  refine F.ok sc_law_take (fun vs H Q E h => ?_) (fun cdv A outer s H vs Q E hr h => ?_)
  · obtain ⟨p, m, rfl, _⟩ := h
    rfl
  obtain ⟨p, m, rfl, ⟨x, y, hp, hx, hy, hy2⟩, hm, hm2, q⟩ := h
  refine ⟨_, pss_cons (ps_if (pt_cmpR op_gt (pe_ix ix_list (pv 0) pe_int (fun _ _ => rfl)) pe_int (nomark _))
      (pss_cons (ps_set (i := 2) sc_law_take.nd rfl (.inl rfl) (pe_op op_mod (pe_ix ix_list (pv 0) pe_int (fun _ _ => rfl)) (pv 1)))
      (pss_cons (ps_asg (pe_op op_fdivW (pe_ix ix_list (pv 0) pe_int (fun _ _ => rfl)) (pv 1)) (pg_sub (pv 0) pe_int set_list)) (pss_one (ps_ret (pv 2))))) pss_nil)
    (pss_cons (ps_asg (pe_op op_add (pe_op op_mod (pe_op op_add (pe_op op_mul (pe_ix ix_list (pv 0) pe_int (fun _ _ => rfl)) pe_int) pe_int) pe_int) pe_int) (pg_sub (pv 0) pe_int set_list))
    (pss_one (ps_ret (pe_op op_mod (pe_op op_fdivW (pe_op op_pow (pe_ix ix_list (pv 0) pe_int (fun _ _ => rfl)) pe_int) pe_int) (pv 1))))), ?_⟩
  have hS : SqL K H p [.int x, .int y] := SqL.of hp
  refine ⟨_, rfl, p, _, _, _, rfl, rfl, hS, ix0, _, _, rfl, rfl, _, rfl, ?_⟩
  refine ite2 (fun c => ?_) (fun c => ?_)
  · refine ⟨_, rfl, p, _, _, _, rfl, rfl, hS, ix0, _, rfl, _, _, rfl, rfl, (by show (0 : Int) < m; omega), ?_⟩
    refine ⟨_, rfl, p, _, _, _, rfl, rfl, hS, ix0, _, rfl, _, _, rfl, rfl, wide_div (b := 250) (by omega) (by omega) (by decide) (by decide), ?_⟩
    refine ⟨_, rfl, p, _, _, _, rfl, rfl, hp, rfl, ?_⟩
    refine ⟨_, rfl, q _ _ (Int.emod_nonneg _ (by omega)) (Int.emod_lt_of_pos _ (by omega)) (SB.set hp (by simp) _) ⟨x / m, y, upd_same, Int.ediv_nonneg hx (by omega), hy, hy2⟩⟩
  · refine ⟨_, rfl, p, _, _, _, rfl, rfl, hS, ix1, _, _, rfl, rfl, .inr ⟨by decide, by decide⟩, _, _, rfl, rfl, _, _, rfl, rfl, (by show (0 : Int) < 18446744073709551557; decide), _, _, rfl, rfl, ?_⟩
    refine ⟨_, rfl, p, _, _, _, rfl, rfl, hp, rfl, ?_⟩
    have b1 := Int.emod_nonneg (y * 5851302741139 + 977) (b := 18446744073709551557) (by decide)
    have b2 := Int.emod_lt_of_pos (y * 5851302741139 + 977) (b := 18446744073709551557) (by decide)
    generalize (y * 5851302741139 + 977) % 18446744073709551557 = z at b1 b2 ⊢
    have hp2 : (upd H p (.lst [.int x, .int (z + 1)])) p = some (.lst [.int x, .int (z + 1)]) := upd_same
    have hS2 : SqL K (upd H p (.lst [.int x, .int (z + 1)])) p [.int x, .int (z + 1)] := SqL.of hp2
    refine ⟨_, rfl, p, _, _, _, rfl, rfl, hS2, ix1, _, _, rfl, rfl, ⟨by decide, by decide, by omega⟩, _, _, rfl, rfl, wide_div (b := 100) (by decide) (by decide) (by decide) (by decide), _, rfl, _, _, rfl, rfl, (by show (0 : Int) < m; omega), ?_⟩
    exact q _ _ (Int.emod_nonneg _ (by omega)) (Int.emod_lt_of_pos _ (by omega)) (SB.set hp (by simp) _) ⟨x, z + 1, upd_same, hx, by omega, by omega⟩
end
end FT
namespace FT
open PySem PySem.W PySem.Spec PyProof.Rows L2
section
variable {P : Program} {w : World} {K : PySem.W.Frag} {mg : Str → Option Value} {base : Heap} {f : Addr} {fd : FuncData}
abbrev N_names : List Str := ["_law_purse_here", "_law_letters", "_law_base", "_law_many", "_law_turn", "_law_found", "_law_long", "_law_at", "_law_first", "_law_some", "_law_k", "_law_sign"]
theorem sc_law_names : FnScope N_names ["_law_purse_here"] (defScope s__law_names) := ⟨rfl, rfl, rfl, by decide +kernel, rfl, by decide +kernel, by decide +kernel⟩
theorem ok_law_names (B : BI mg) (GT : Got P w K mg base "_law_take" ["_law_purse_here", "_law_many"] 1 spTakeG) (F : Fun K "_law_names" "_law_names" s__law_names f fd) : FnOk P w K mg base CX0 2 f fd ["_law_purse_here"] (spNamesG K) := by
  refine F.ok sc_law_names (fun vs H Q E h => ?_) (fun cdv A outer s H vs Q E hr h => ?_)
  · obtain ⟨p, rfl, _⟩ := h
    rfl
  obtain ⟨p, rfl, hp, q⟩ := h
  refine ⟨_, pss_cons (ps_set (i := 1) sc_law_names.nd rfl (.inr rfl) pe_str)
    (pss_cons (ps_set (i := 2) sc_law_names.nd rfl (.inr rfl) (pe_join pe_str
      (pe_lc (own := [("_law_k", 10)]) (g := gName 10) (tt := tYes) (te := tOp rIxS (tVar 1) (tCall spTakeG [] E0 (tCons (tVar 0) (tCons (tC (.int 26)) tNil)))) rfl sc_law_names.nd (pi_range1 rfl B.range (pa_cons pe_int pa_nil))
        (blkOk_by (N := N_names) (sc := defScope s__law_names) (by decide +kernel))
        (fun _ _ _ _ _ => pg_name (i := 10) sc_law_names.nd rfl (.inl rfl)) (fun _ _ _ _ _ => pts_nil)
        (fun _ _ _ _ _ => pe_ix ix_str (pv 1) (pe_got GT hr rfl (pa_cons (pv 0) (pa_cons pe_int pa_nil))) (fun _ _ => rfl)))))
    (pss_cons (ps_set (i := 3) sc_law_names.nd rfl (.inl rfl) (pe_op op_add pe_int (pe_got GT hr rfl (pa_cons (pv 0) (pa_cons pe_int pa_nil)))))
    (pss_cons (ps_set (i := 4) sc_law_names.nd rfl (.inl rfl) (pe_got GT hr rfl (pa_cons (pv 0) (pa_cons (pv 3) pa_nil))))
    (pss_cons (ps_if (pt_cmpR op_eq (pe_got GT hr rfl (pa_cons (pv 0) (pa_cons pe_int pa_nil))) pe_int (nomark _))
      (pss_one (ps_setLc (i := 5) (own := [("_law_k", 10)]) (g := gName 10) (tt := tYes) (te := tSl rSlS (tVar 2) tNoPart (tPart (tOp (rI0 fun i j => .int (i + j)) (tVar 10) (tC (.int 1))))) rfl sc_law_names.nd rfl rfl (sw_true rfl rfl rfl (by decide +kernel)) (pi_range1 rfl B.range (pa_cons (pv 3) pa_nil))
        (blkOk_by (N := N_names) (sc := defScope s__law_names) (by decide +kernel))
        (fun _ _ _ _ _ => pg_name (i := 10) sc_law_names.nd rfl (.inl rfl)) (fun _ _ _ _ _ => pts_nil)
        (fun _ _ _ _ _ => pe_slice sl_str (pv 2) po_none (po_some (pe_op op_add (pv 10) pe_int)))))
      (pss_cons (ps_set (i := 6) sc_law_names.nd rfl (.inr rfl) (pe_op op_add pe_int (pe_got GT hr rfl (pa_cons (pv 0) (pa_cons pe_int pa_nil)))))
      (pss_cons (ps_set (i := 7) sc_law_names.nd rfl (.inr rfl) (pe_got GT hr rfl (pa_cons (pv 0) (pa_cons (pv 6) pa_nil))))
      (pss_cons (ps_set (i := 8) sc_law_names.nd rfl (.inr rfl) (pe_got GT hr rfl (pa_cons (pv 0) (pa_cons pe_int pa_nil))))
      (pss_cons (ps_setLc (i := 9) (own := [("_law_k", 10)]) (g := gName 10) (tt := tYes) (te := tOp rIxS (tVar 1) (tOp (rI (fun _ j => 0 < j) fun i j => .int (i % j)) (tOp (rI0 fun i j => .int (i + j)) (tVar 8) (tOp (rI CMul fun i j => .int (i * j)) (tC (.int 3)) (tVar 10))) (tC (.int 26)))) rfl sc_law_names.nd rfl rfl (sw_true rfl rfl rfl (by decide +kernel)) (pi_range1 rfl B.range (pa_cons (pv 3) pa_nil))
        (blkOk_by (N := N_names) (sc := defScope s__law_names) (by decide +kernel))
        (fun _ _ _ _ _ => pg_name (i := 10) sc_law_names.nd rfl (.inl rfl)) (fun _ _ _ _ _ => pts_nil)
        (fun _ _ _ _ _ => pe_ix ix_str (pv 1) (pe_op op_mod (pe_op op_add (pv 8) (pe_op op_mul pe_int (pv 10))) pe_int) (fun _ _ => rfl)))
      (pss_one (ps_setLc (i := 5) (own := [("_law_sign", 11)]) (g := gName 11) (tt := tYes) (te := tOp (fun x y H Q => ∃ i j, x = .str i ∧ y = .str j ∧ i.length + j.length ≤ sizeLine ∧ Q (.str (i ++ j)) H) (tOp (fun x y H Q => ∃ i j, x = .str i ∧ y = .str j ∧ i.length + j.length ≤ sizeLine ∧ Q (.str (i ++ j)) H) (tSl rSlS (tVar 2) tNoPart (tPart (tVar 7))) (tVar 11)) (tSl rSlS (tVar 2) (tPart (tOp (rI0 fun i j => .int (i + j)) (tVar 7) (tC (.int 1)))) (tPart (tVar 6)))) rfl sc_law_names.nd rfl rfl (sw_true rfl rfl rfl (by decide +kernel)) (pi_list (pv 9))
        (blkOk_by (N := N_names) (sc := defScope s__law_names) (by decide +kernel))
        (fun _ _ _ _ _ => pg_name (i := 11) sc_law_names.nd rfl (.inl rfl)) (fun _ _ _ _ _ => pts_nil)
        (fun _ _ _ _ _ => pe_op op_add_str (pe_op op_add_str (pe_slice sl_str (pv 2) po_none (po_some (pv 7))) (pv 11)) (pe_slice sl_str (pv 2) (po_some (pe_op op_add (pv 7) pe_int)) (po_some (pv 6)))))))))))
    (pss_one (ps_ret (pe_op op_cat (pe_slice sl_list (pv 5) (po_some (pv 4)) po_none) (pe_slice sl_list (pv 5) po_none (po_some (pv 4)))))))))), ?_⟩
  refine ⟨⟨_, rfl⟩, 8, rfl, by decide, by decide, fun D hD => ?_⟩
  have pD : p ≠ D := hp.ne hD
  refine lc_it (walk_range (lo := 0) (n := 8)) (fun i H2 => SB [p, D] H H2 ∧ PuG H2 p ∧ ∃ cs : List Nat, cs.length = i ∧ (∀ c ∈ cs, 97 ≤ c ∧ c ≤ 122) ∧ H2 D = some (.lst (cs.map fun c => V.str ⟨#[c]⟩))) ⟨SB.new hD _, hp.new hD, [], rfl, by simp, upd_same⟩ (fun _ _ _ _ => trivial) (fun i x H2 H' hi h2 y => ?_) (fun H2 h2 => ?_)
  · obtain ⟨s2, p2, cs, cl, co, hD2⟩ := h2
    obtain ⟨rfl, rfl⟩ := y
    refine ⟨rfl, ?_⟩
    refine ⟨_, rfl, ?_⟩
    refine take_at (i := 0) rfl p2 (by decide) (by decide) fun r H3 r0 r26 s3 p3 => ?_
    obtain ⟨n, rfl⟩ : ∃ n : Nat, r = (n : Int) := ⟨r.toNat, by omega⟩
    obtain ⟨c, hc, hco⟩ := abc_at n (by omega)
    have hD3 := s3.keep _ _ hD2 (by simpa using fun z : D = p => pD z.symm)
    refine ⟨_, _, c, rfl, rfl, abc_len, atI_natN hc, _, hD3, ?_, ?_⟩
    · rw [List.length_map]; exact small1000 (by omega)
    · refine ⟨(s2.trans (s3.mono (by simp))).trans (SB.set hD3 (by simp) _), ?_, cs ++ [c], by simp [cl], ?_, ?_⟩
      · exact p3.keep (SB.set (ps := [D]) hD3 (by simp) _) (by simpa using pD)
      · intro d hd
        rcases List.mem_append.mp hd with hd | hd
        · exact co d hd
        · have : d = c := by simpa using hd
          subst this; exact hco
      · rw [upd_same, List.map_append]; rfl
  obtain ⟨s2, p2, cs, cl, co, hD2⟩ := h2
  have hb := join_ltrs cs co
  rw [cl] at hb
  have s2' : SB [p] H H2 := s2.drop2 hD
  have e1 : (cs.map fun c => V.str ⟨#[c]⟩) = (cs.map fun c => (⟨#[c]⟩ : Str)).map V.str := by rw [List.map_map]; rfl
  rw [e1] at hD2
  refine ⟨_, D, cs.map fun c => ⟨#[c]⟩, rfl, rfl, .inl (SqL.of hD2), ?_, ?_⟩
  · have : ∀ cs : List Nat, ((cs.map fun c => (⟨#[c]⟩ : Str)).map (·.length)).sum = cs.length := by
      intro cs
      induction cs with
      | nil => rfl
      | cons c r ih => rw [List.map_cons, List.map_cons, List.sum_cons, ih]; show 1 + r.length = r.length + 1; omega
    rw [this, List.length_map, cl]
    decide +kernel
  clear hD2 e1
  generalize Txt.join (Str.ofString "") (cs.map fun c => (⟨#[c]⟩ : Str)) = bs at hb
  refine take_at (i := 0) rfl p2 (by decide) (by decide) fun r3 H3 r30 r38 s3 p3 => ?_
  refine ⟨_, _, rfl, rfl, ?_⟩
  obtain ⟨m, em, m1, m8⟩ : ∃ m : Nat, 1 + r3 = (m : Int) ∧ 1 ≤ m ∧ m ≤ 8 := ⟨(1 + r3).toNat, by omega, by omega, by omega⟩
  refine ⟨_, rfl, _, rfl, p, (m : Int), by rw [← em]; rfl, p3, by omega, by omega, fun r4 H4 r40 r4m s4 p4 => ?_⟩
  obtain ⟨t, rfl⟩ : ∃ t : Nat, r4 = (t : Int) := ⟨r4.toNat, by omega⟩
  show tSeq _ _ _ [some (.ref p), some (.str abc), some (.str bs), some (.int (1 + r3)), some (.int (t : Int)), none, none, none, none, none, none, none] _
  rw [em]
  have s24 : SB [p] H H4 := (s2'.trans s3).trans s4
  refine take_at (i := 0) rfl p4 (by decide) (by decide) fun r5 H5 r50 r53 s5 p5 => ?_
  refine ⟨rfl, _, rfl, ?_⟩
  have s25 := s24.trans s5
  -- the end: the names turned about
  have fin : ∀ (σ : L2.St) (fa : Addr) (ks : List Str) (H6 : Hp), σ[4]? = some (some (.int (t : Int))) → σ[5]? = some (some (.ref fa)) → SB [p] H H6 → PuG H6 p → H6 fa = some (.lst (ks.map V.str)) → ks.length = m → (∀ k ∈ ks, NameOk k) →
      tRet (tOp rCat (tSl (rSlL K) (tVar 5) (tPart (tVar 4)) tNoPart) (tSl (rSlL K) (tVar 5) tNoPart (tPart (tVar 4)))) { nx := fun _ H' => Q .non H', rt := Q } σ H6 := by
    intro σ fa ks H6 h4 h5 s6 p6 hfa kl kn
    refine ⟨_, h5, _, h4, _, rfl, fa, _, rfl, SqL.of hfa, fun l1 hl1 => ?_⟩
    rw [cutDropS]
    have u1 := SB.new (ps := []) hl1 (.lst ((ks.drop t).map V.str))
    refine ⟨_, h5, _, h4, _, rfl, fa, _, rfl, SqL.of (u1.keep _ _ hfa List.not_mem_nil), fun l2 hl2 => ?_⟩
    rw [cutTakeS]
    have u2 := SB.new (ps := []) hl2 (.lst ((ks.take t).map V.str))
    refine ⟨l1, l2, _, _, rfl, rfl, u2.keep _ _ upd_same List.not_mem_nil, upd_same, ?_, fun l3 hl3 => ?_⟩
    · rw [List.length_map, List.length_map, List.length_drop, List.length_take]
      have : 1000 ≤ sizeLine := by decide
      omega
    have u3 := SB.new (ps := []) hl3 (.lst ((ks.drop t).map V.str ++ (ks.take t).map V.str))
    have u13 := (u1.trans u2).trans u3
    refine q l3 (ks.drop t ++ ks.take t) _ (s6.trans u13.nil) (p6.sb u13) ?_ (by rw [upd_same, List.map_append]) ?_ ?_ ?_
    · exact s6.dom _ (u1.dom _ (u2.dom _ hl3))
    · rw [List.length_append, List.length_drop, List.length_take]; omega
    · rw [List.length_append, List.length_drop, List.length_take]; omega
    · intro k hk
      rcases List.mem_append.mp hk with hk | hk
      · exact kn k (List.mem_of_mem_drop hk)
      · exact kn k (List.mem_of_mem_take hk)
  refine ite2 (fun cc => ?_) (fun cc => ?_)
  · refine ⟨_, rfl, (m : Int), rfl, by omega, by omega, fun D2 hD2 => ?_⟩
    have pD2 : p ≠ D2 := p5.ne hD2
    refine lc_it (walk_range (lo := 0) (n := (m : Int).toNat)) (fun i H6 => SB [D2] H5 H6 ∧ ∃ ks : List Str, ks.length = i ∧ (∀ k ∈ ks, NameOk k) ∧ H6 D2 = some (.lst (ks.map V.str))) ⟨SB.new hD2 _, [], rfl, by simp, upd_same⟩ (fun _ _ _ _ => trivial) (fun i x H6 H' hi h6 y => ?_) (fun H6 h6 => ?_)
    · obtain ⟨s6, ks, kl, kn, hD6⟩ := h6
      obtain ⟨rfl, rfl⟩ := y
      refine ⟨rfl, ?_⟩
      refine ⟨_, rfl, _, rfl, _, _, rfl, rfl, _, rfl, bs, rfl, ?_, _, hD6, ?_, ?_⟩
      · rw [hb.len]; decide
      · rw [List.length_map]; exact small1000 (by omega)
      · refine ⟨s6.trans (SB.set hD6 (by simp) _), ks ++ [_], by simp [kl], fun k hk => ?_, by rw [upd_same, List.map_append]; rfl⟩
        rcases List.mem_append.mp hk with hk | hk
        · exact kn k hk
        · have hk' : k = cutS bs none (some ((0 : Int) + (i : Nat) + 1)) := by simpa using hk
          subst hk'
          have e : ((0 : Int) + (i : Nat) + 1) = ((i + 1 : Nat) : Int) := by omega
          rw [e]
          exact (hb.take (i + 1)).name (by omega) (by omega)
    · obtain ⟨s6, ks, kl, kn, hD6⟩ := h6
      exact fin _ D2 ks H6 rfl rfl (s25.trans (s6.drop hD2).nil) (p5.keep s6 (by simpa using pD2)) hD6 (by omega) kn
  · refine ⟨_, rfl, p, 8, rfl, p5, by decide, by decide, fun r6 H6 r60 r68 s6 p6 => ?_⟩
    refine ⟨_, _, rfl, rfl, ?_⟩
    obtain ⟨lg, elg, lg1, lg8⟩ : ∃ m : Nat, 1 + r6 = (m : Int) ∧ 1 ≤ m ∧ m ≤ 8 := ⟨(1 + r6).toNat, by omega, by omega, by omega⟩
    refine ⟨_, rfl, _, rfl, p, (lg : Int), by rw [← elg]; rfl, p6, by omega, by omega, fun r7 H7 r70 r7m s7 p7 => ?_⟩
    obtain ⟨at_, rfl⟩ : ∃ t : Nat, r7 = (t : Int) := ⟨r7.toNat, by omega⟩
    refine take_at (i := 0) rfl p7 (by decide) (by decide) fun r8 H8 r80 r826 s8 p8 => ?_
    have s28 := (s25.trans s6).trans (s7.trans s8)
    refine ⟨_, rfl, (m : Int), rfl, by omega, by omega, fun D2 hD2 => ?_⟩
    have pD2 : p ≠ D2 := p8.ne hD2
    refine lc_it (walk_range (lo := 0) (n := (m : Int).toNat)) (fun i H9 => SB [D2] H8 H9 ∧ ∃ ks : List Str, ks.length = i ∧ (∀ k ∈ ks, Ltr k 1) ∧ H9 D2 = some (.lst (ks.map V.str))) ⟨SB.new hD2 _, [], rfl, by simp, upd_same⟩ (fun _ _ _ _ => trivial) (fun i x H9 H' hi h9 y => ?_) (fun H9 h9 => ?_)
    · obtain ⟨s9, ks, kl, kn, hD9⟩ := h9
      obtain ⟨rfl, rfl⟩ := y
      refine ⟨rfl, ?_⟩
      have g1 := Int.emod_nonneg (r8 + 3 * ((0 : Int) + (i : Nat))) (b := 26) (by decide)
      have g2 := Int.emod_lt_of_pos (r8 + 3 * ((0 : Int) + (i : Nat))) (b := 26) (by decide)
      obtain ⟨n, hn⟩ : ∃ n : Nat, (r8 + 3 * ((0 : Int) + (i : Nat))) % 26 = (n : Int) := ⟨((r8 + 3 * ((0 : Int) + (i : Nat))) % 26).toNat, by omega⟩
      obtain ⟨c, hc, hco⟩ := abc_at n (by omega)
      refine ⟨_, rfl, _, rfl, _, rfl, _, _, rfl, rfl, .inl ⟨by decide, by decide⟩, _, _, rfl, rfl, _, _, rfl, rfl, (by show (0 : Int) < 26; decide), _, _, c, rfl, rfl, abc_len, ?_, _, hD9, ?_, ?_⟩
      · show atI abc.cps.toList ((r8 + 3 * ((0 : Int) + (i : Nat))) % 26) = some c
        rw [hn]; exact atI_natN hc
      · rw [List.length_map]; exact small1000 (by omega)
      · refine ⟨s9.trans (SB.set hD9 (by simp) _), ks ++ [⟨#[c]⟩], by simp [kl], fun k hk => ?_, by rw [upd_same, List.map_append]; rfl⟩
        rcases List.mem_append.mp hk with hk | hk
        · exact kn k hk
        · have hk' : k = ⟨#[c]⟩ := by simpa using hk
          subst hk'; exact Ltr.one hco
    · obtain ⟨s9, ks, kl, kn, hD9⟩ := h9
      have p9 := p8.keep s9 (by simpa using pD2)
      have s29 := s28.trans (s9.drop hD2).nil
      refine ⟨_, rfl, D2, rfl, ⟨_, SqL.of hD9⟩, fun D3 hD3 => ?_⟩
      have pD3 : p ≠ D3 := p9.ne hD3
      have D23 : D2 ≠ D3 := ne_of_none hD9 hD3
      refine lc_it (walk_list (xs := ks.map V.str)) (fun i H10 => SB [D3] H9 H10 ∧ ∃ zs : List Str, zs.length = i ∧ (∀ k ∈ zs, NameOk k) ∧ H10 D3 = some (.lst (zs.map V.str))) ⟨SB.new hD3 _, [], rfl, by simp, upd_same⟩ (fun i H10 hi h10 => SqL.of ((h10.1.drop hD3).keep _ _ hD9 List.not_mem_nil)) (fun i x H10 H' hi h10 y => ?_) (fun H10 h10 => ?_)
      · obtain ⟨s10, zs, zl, zn, hD10⟩ := h10
        obtain ⟨rfl, ex⟩ := y
        obtain ⟨sg, esg, rfl⟩ : ∃ sg, ks[i]? = some sg ∧ V.str sg = x := by
          rw [List.getElem?_map] at ex
          cases hh : ks[i]? with
          | none => rw [hh] at ex; cases ex
          | some sg => rw [hh] at ex; exact ⟨sg, rfl, Option.some.inj ex⟩
        have hsg := kn sg (List.mem_of_getElem? esg)
        have hl1 := hb.take at_
        have hl2 := hb.cut (at_ + 1) lg
        have hal := (hl1.append hsg).append hl2
        have il : zs.length ≤ 1000 := by rw [List.length_map] at hi; omega
        refine ⟨rfl, ?_⟩
        refine ⟨_, rfl, _, rfl, _, rfl, bs, rfl, by rw [hb.len]; decide, _, rfl, _, _, rfl, rfl, ?_, _, rfl, _, rfl, _, _, rfl, rfl, _, rfl, _, rfl, _, rfl, bs, rfl, by rw [hb.len]; decide, _, _, rfl, rfl, ?_, _, hD10, ?_, ?_⟩
        · rw [hl1.len, hsg.len]
          have : 1000 ≤ sizeLine := by decide
          omega
        · have e : ((at_ : Int) + 1) = ((at_ + 1 : Nat) : Int) := by omega
          show (cutS bs none (some (at_ : Int)) ++ sg).length + (cutS bs (some ((at_ : Int) + 1)) (some (1 + r6))).length ≤ sizeLine
          rw [e, elg, (hl1.append hsg).len, hl2.len]
          have : 1000 ≤ sizeLine := by decide
          omega
        · rw [List.length_map]; exact small1000 il
        · refine ⟨s10.trans (SB.set hD10 (by simp) _), zs ++ [_], by simp [zl], fun k hk => ?_, by rw [upd_same, List.map_append]; rfl⟩
          rcases List.mem_append.mp hk with hk | hk
          · exact zn k hk
          · have hk' : k = cutS bs none (some (at_ : Int)) ++ sg ++ cutS bs (some ((at_ : Int) + 1)) (some (1 + r6)) := by simpa using hk
            subst hk'
            have e : ((at_ : Int) + 1) = ((at_ + 1 : Nat) : Int) := by omega
            rw [e, elg]
            exact hal.name (by omega) (by omega)
      · obtain ⟨s10, zs, zl, zn, hD10⟩ := h10
        rw [List.length_map] at zl
        exact fin _ D3 zs H10 rfl rfl (s29.trans (s10.drop hD3).nil) (p9.keep s10 (by simpa using pD3)) hD10 (by omega) zn
end
end FT
namespace FT
open PySem PySem.W PySem.Spec PyProof.Rows L2
section
variable {P : Program} {w : World} {K : PySem.W.Frag} {mg : Str → Option Value} {base : Heap} {f : Addr} {fd : FuncData}
theorem sc_law_plain : FnScope ["_law_thing", "_law_left", "_law_one"] ["_law_thing"] (defScope s__law_plain) := ⟨rfl, rfl, rfl, by decide +kernel, rfl, by decide +kernel, by decide +kernel⟩
theorem ok_law_plain (B : BI mg) (F : Fun K "_law_plain" "_law_plain" s__law_plain f fd) : FnOk P w K mg base CX0 1 f fd ["_law_thing"] (spPlainG K) := by
  refine F.ok sc_law_plain (fun vs H Q E h => ?_) (fun cdv A outer s H vs Q E hr h => ?_)
  · obtain ⟨v, ds, rfl, _⟩ := h
    rfl
  obtain ⟨v, ds, rfl, hv, hpl, hdp, hnd, q⟩ := h
  have hun2 : A.units + 3 + 200 < cLine := by have := hr.un; have h3 : (A.deeper (envOfC "_law_plain" (defScope s__law_plain) s.heap.objs.size f cdv)).units = A.units + 3 := rfl; omega
  refine ⟨_, pss_cons (ps_set (i := 1) sc_law_plain.nd rfl (.inl rfl) (pe_lst (pa_cons (pv 0) pa_nil)))
    (pss_cons (ps_while PassesOwn.never (pt_cmpR (op_neD (by show A.units + 3 + 64 < cLine; omega)) (pv 1) (pe_lst pa_nil) (nomark _))
      (pss_cons (ps_set (i := 2) sc_law_plain.nd rfl (.inl rfl) (pe_bm0 PySem.F.plainAttrs_list PySem.F.slot_list_pop PySem.F.type_list_pop mt_pop (pv 1)))
      (pss_one (ps_if (pt_val (pe_isi B (pv 2) B.tuple boot_tuple))
        (pss_one (ps_expr (pe_bm PySem.F.plainAttrs_list PySem.F.slot_list_extend PySem.F.type_list_extend mt_extend (pv 1) (pa_cons (pe_callTy call_list_of rfl B.list boot_list (pa_cons (pv 2) pa_nil)) pa_nil))))
        (pss_one (ps_if (PW.pt (pw_or (pt_val (pe_isi B (pv 2) B.bool boot_bool)) (pw_or1 (pt_not (pt_val (pe_callB call_isiT rfl B.isinstance boot_isinstance (pa_cons (pv 2) (pa_cons (pe_tup (pa_cons (pe_ty rfl B.int boot_int) (pa_cons (pe_ty rfl B.str boot_str) pa_nil))) pa_nil)))))))) (pss_one (ps_ret pe_bl)) pss_nil))))))
    (pss_one (ps_ret (pe_isi B (pv 0) B.tuple boot_tuple)))), ?_⟩
  refine ⟨_, rfl, (by show 1 ≤ sizeLine; decide), fun D hD => ?_⟩
  have t0 := SB.new (ps := []) hD (.lst [v])
  have hD0 : (upd H D (.lst [v])) D = some (.lst [v]) := upd_same
  have hb0 : Bears K (upd H D (.lst [v])) PL.e [v] [⟨.tuple ds, by rw [plS]; exact hpl⟩] := .cons (Dp_sb t0 _ _ (plS_noList _ (by show plS (.tuple ds) = true; rw [plS]; exact hpl)) hv) .nil
  generalize hH0 : upd H D (.lst [v]) = H0 at t0 hD0 hb0
  have n0 : nodes (.tuple ds) = 1 + nodesS ds := by rw [nodes]
  refine ⟨fun mm σ H2 => ∃ (us : List V) (xs : List PL) (o2 : Option V), mm = nodesS (xs.map PL.e) ∧ SB [D] H0 H2 ∧ σ = [some v, some (.ref D), o2] ∧ H2 D = some (.lst us) ∧ Bears K H2 PL.e us xs ∧ nodesS (xs.map PL.e) ≤ 100001 ∧ (∀ d ∈ xs, d.e.depth ≤ 60), ⟨_, [v], [⟨.tuple ds, by rw [plS]; exact hpl⟩], none, rfl, SB.refl, rfl, hD0, hb0, ?_, fun d hd => ?_⟩, fun mm σ H2 h2 => ?_⟩
  · show nodes (.tuple ds) + 0 ≤ 100001; omega
  · have : d = ⟨.tuple ds, by rw [plS]; exact hpl⟩ := by simpa using hd
    subst this
    show (PyData.tuple ds).depth ≤ 60
    simp only [PyData.depth]; omega
  obtain ⟨us, xs, o2, rfl, s2, rfl, hD2, hb2, htot, hall⟩ := h2
  refine ⟨_, rfl, (by show 0 ≤ sizeLine; decide), fun e0 he0 => ?_⟩
  have t3 := SB.new (ps := [D]) he0 (.lst [])
  have hD3 : (upd H2 e0 (.lst [])) D = some (.lst us) := by rw [upd_ne (ne_of_none hD2 he0)]; exact hD2
  have hb3 := hb2.sb t3 PL.noList
  have he0' : (upd H2 e0 (.lst [])) e0 = some (.lst []) := upd_same
  have s3 := s2.trans t3
  generalize hH3 : upd H2 e0 (.lst []) = H3 at t3 hD3 hb3 he0' s3
  refine ⟨.list (xs.map PL.e), .list [], Dp.lst (SqL.of hD3) hb3.dp, Dp.lst (SqL.of he0') .nil, pl_shaped hall, by decide +kernel, _, rfl, ?_⟩
  rcases List.eq_nil_or_concat xs with he | ⟨js, x, he⟩
  · subst he
    refine iteF ?_
    cases hv with
    | tup hs _ =>
      have hs3 := (t0.nil.trans s3).sqT hs
      exact ⟨_, rfl, _, _, "tuple", true, rfl, SqT_ty hs3, by decide +kernel, q _ ((t0.nil.trans s3).drop hD)⟩
  · rw [List.concat_eq_append] at he
    subst he
    obtain ⟨us', u, rfl, hus, hu⟩ := hb3.snoc
    have xd := hall x (by simp)
    have e0 : (!PyData.eqv (.list ((js ++ [x]).map PL.e)) (.list [])) = true := by
      cases js <;> simp [PyData.eqv, PyData.eqvAll]
    rw [e0]
    refine iteT ?_
    rw [List.map_append, nodesS_append] at htot ⊢
    have hx1 : nodesS ([x].map PL.e) = nodes x.e := by simp [nodesS]
    rw [hx1] at htot ⊢
    refine ⟨_, fun σ' H' z => z, ?_⟩
    refine ⟨_, rfl, .inl ⟨rfl, _, SqL.of hD3⟩, D, _, _, rfl, rfl, hD3, (by simp : (us' ++ [u])[(us' ++ [u]).length - 1]? = some u), ?_⟩
    have edl : (us' ++ [u]).dropLast = us' := by simp
    rw [edl]
    have t5 := SB.set (ps := [D]) hD3 (by simp) (.lst us')
    have hD5 : (upd H3 D (.lst us')) D = some (.lst us') := upd_same
    have hus5 := hus.sb t5 PL.noList
    have hu5 : Dp K (upd H3 D (.lst us')) u x.e := Dp_sb t5 _ _ x.noList hu
    have s5 := s3.trans t5
    generalize hH5 : upd H3 D (.lst us') = H5 at t5 hD5 hus5 hu5 s5
    have hallj : ∀ d ∈ js, d.e.depth ≤ 60 := fun d hd => hall d (List.mem_append_left _ hd)
    have jl := len_nodes (js.map PL.e)
    rw [List.length_map] at jl
    have ul := hus5.length
    obtain ⟨xe, xpl⟩ := x
    have hu5 : Dp K H5 u xe := hu5
    have xd : xe.depth ≤ 60 := xd
    have htot : nodesS (js.map PL.e) + nodes xe ≤ 100001 := htot
    have done : nodes xe = 1 → ∀ (H6 : Hp), SB [] H5 H6 → ∃ m' : Nat, m' < nodesS (js.map PL.e) + nodes xe ∧ ∃ (us : List V) (xs : List PL) (o2 : Option V), m' = nodesS (xs.map PL.e) ∧ SB [D] H0 H6 ∧ [some v, some (.ref D), some u] = [some v, some (.ref D), o2] ∧ H6 D = some (.lst us) ∧ Bears K H6 PL.e us xs ∧ nodesS (xs.map PL.e) ≤ 100001 ∧ (∀ d ∈ xs, d.e.depth ≤ 60) := fun h1 H6 s6 =>
      ⟨nodesS (js.map PL.e), by omega, us', js, some u, rfl, s5.trans s6.nil, rfl, s6.keep _ _ hD5 List.not_mem_nil, hus5.sb s6 PL.noList, by omega, hallj⟩
    cases hu5 with
    | int i =>
      refine ⟨_, rfl, _, _, "int", false, rfl, .base (.int i), by decide +kernel, false, rfl, iteF ?_⟩
      refine ⟨_, rfl, _, _, "int", false, rfl, .base (.int i), by decide +kernel, false, rfl, iteF ?_⟩
      refine ⟨_, rfl, (by show 2 ≤ sizeLine; decide), fun tp htp => ?_⟩
      have t6 := SB.new (ps := []) htp (.tup [.ty "int", .ty "str"])
      refine ⟨_, tp, [.ty "int", .ty "str"], .type "int", [.type "int", .type "str"], true, rfl, upd_same, .cons (.ty _) (.cons (.ty _) .nil), .base (.int i), kitAny_cons (b := true) (kit_ty (by decide +kernel)) (fun z => nomatch z) (fun _ => rfl), true, rfl, iteF ?_⟩
      exact done (by simp [nodes]) _ t6
    | str z =>
      refine ⟨_, rfl, _, _, "str", false, rfl, .base (.str z), by decide +kernel, false, rfl, iteF ?_⟩
      refine ⟨_, rfl, _, _, "str", false, rfl, .base (.str z), by decide +kernel, false, rfl, iteF ?_⟩
      refine ⟨_, rfl, (by show 2 ≤ sizeLine; decide), fun tp htp => ?_⟩
      have t6 := SB.new (ps := []) htp (.tup [.ty "int", .ty "str"])
      refine ⟨_, tp, [.ty "int", .ty "str"], .type "str", [.type "int", .type "str"], true, rfl, upd_same, .cons (.ty _) (.cons (.ty _) .nil), .base (.str z), kitAny_cons (b := false) (kit_ty (by decide +kernel)) (fun _ => kitAny_cons (b := true) (kit_ty (by decide +kernel)) (fun z => nomatch z) (fun _ => rfl)) (fun z => nomatch z), true, rfl, iteF ?_⟩
      exact done (by simp [nodes]) _ t6
    | @tup a ys es hs ha =>
      refine ⟨_, rfl, _, _, "tuple", true, rfl, SqT_ty hs, by decide +kernel, true, rfl, iteT ?_⟩
      rw [plS] at xpl
      obtain ⟨zs, hzs⟩ := pl_parts xpl
      have nd : nodes (.tuple es) = 1 + nodesS es := by rw [nodes]
      have yl := DpAll.length ha
      have el := len_nodes es
      refine ⟨_, rfl, .inl ⟨rfl, _, SqL.of hD5⟩, _, rfl, a, ys, rfl, .inr hs, fun L hL => ?_⟩
      have t6 := SB.new (ps := []) hL (.lst ys)
      have hD6 := t6.keep _ _ hD5 List.not_mem_nil
      refine ⟨D, L, _, _, rfl, rfl, hD6, upd_same, ?_, ?_⟩
      · have := small5 (n := us'.length + ys.length) (by omega); omega
      have t7 := SB.set (ps := [D]) hD6 (by simp) (.lst (us' ++ ys))
      have hbz : Bears K H5 PL.e ys zs := Bears.of (by rw [hzs]; exact ha)
      refine ⟨nodesS ((js ++ zs).map PL.e), ?_, us' ++ ys, js ++ zs, _, rfl, s5.trans (t6.nil.trans t7), rfl, upd_same, Bears.append ((hus5.sb t6 PL.noList).sb t7 PL.noList) ((hbz.sb t6 PL.noList).sb t7 PL.noList), ?_, fun d hd => ?_⟩
      · show nodesS ((js ++ zs).map PL.e) < nodesS (js.map PL.e) + nodes (.tuple es)
        rw [List.map_append, nodesS_append, hzs]; omega
      · rw [List.map_append, nodesS_append, hzs]; omega
      · rcases List.mem_append.mp hd with hd | hd
        · exact hallj d hd
        · have hm : d.e ∈ es := by rw [← hzs]; exact List.mem_map_of_mem hd
          have h1 := PyData.depth_le_depthAll _ _ hm
          have h2 : (PyData.tuple es).depth = PyData.depthAll es + 1 := by simp [PyData.depth]
          omega
    | non => simp [plS] at xpl
    | bl b => simp [plS] at xpl
    | lst _ _ => simp [plS] at xpl
end
end FT
namespace FT
open PySem PySem.W PySem.Spec PyProof.Rows L2
open TL (tl)
section
variable {P : Program} {w : World} {K : PySem.W.Frag} {mg : Str → Option Value} {base : Heap} {f : Addr} {fd : FuncData}
/-- the bound on numbers -/
abbrev B170 : Int := 2 ^ 170
def spAll20 (K : PySem.W.Frag) : Sp := fun vs H Q _ => ∃ (v : V) (g : Gr), vs = [v] ∧ GA K H v g ∧ g.Ok B170 ∧ g.deep ≤ 13 ∧ g.parts ≤ 200 ∧ ∀ (D : Addr) (us : List V) (H' : Hp), SB [] H H' → H D = none → H' D = some (.lst us) → Bears K H' arE us (g.ar 0 1) → Q (.ref D) H'
def spPut20 (K : PySem.W.Frag) : Sp := fun vs H Q _ => ∃ (v : V) (l : Addr) (us : List V) (g : Gr) (bs : List (Tr × Int)), vs = [v, .ref l] ∧ GA K H v g ∧ H l = some (.lst us) ∧ Bears K H Gr.pEnc us bs ∧ g.ps.length + bs.length ≤ 900 ∧ (∃ C, ∀ p ∈ g.ps ++ bs, NameOk p.1.1 ∧ p.1.2.Ok C ∧ p.1.2.deep ≤ 18) ∧ ∀ (x : V) (H' : Hp), SB [] H H' → GA K H' x (Gr.tidy (g.ps ++ bs)) → Q x H'
/-- a deed: what is put to what; it comes to more trees -/
structure Deed (C : Int) (g g1 k : Gr) : Prop where
  ok1 : g1.Ok C
  okk : k.Ok C
  ok : (Gr.tgt g1 k).Ok (2 * C)
  p1 : g1.parts ≤ 60
  pk : k.parts ≤ 61
  d1 : g1.deep ≤ 12
  dk : k.deep ≤ 13
  more : g.size < (Gr.tgt g1 k).size
  small : g = .nil → g1 = .nil ∧ k.parts ≤ 1
theorem deed_of {C : Int} {g g1 k : Gr} (o1 : g1.Ok C) (ok : k.Ok C) (hC : 1 ≤ C) (p1 : g1.parts ≤ 60) (pk : k.parts ≤ 61) (d1 : g1.deep ≤ 12) (dk : k.deep ≤ 13) (h : g.size < g1.size + k.size) (hs : g = .nil → g1 = .nil ∧ k.parts ≤ 1) : Deed C g g1 k :=
  ⟨o1, ok, by rw [show 2 * C = C + C by omega]; exact Gr.tgt_ok2 o1 ok hC hC, p1, pk, d1, dk, by rw [Gr.size_tgt]; exact h, hs⟩
theorem ar_shaped {C : Int} {g : Gr} (h : g.Ok C) (hd : g.deep ≤ 14) : SeqAt.shaped (.list ((g.ar 0 1).map arE)) = true := by
  have h1 : ∀ l : List Rw, (∀ x ∈ l, NameOk x.2.1.1 ∧ x.2.1.2.Ok C) → PyData.canLayAll0 (l.map arE) = true := by
    intro l
    induction l with
    | nil => intro _; simp [PyData.canLayAll0]
    | cons b r ih =>
      intro hh
      have e := ih fun c hc => hh c (List.mem_cons_of_mem _ hc)
      obtain ⟨o1, o2⟩ := hh b (List.mem_cons_self ..)
      rw [List.map_cons, PyData.canLayAll0, e]
      simp [arE, Gr.tEnc, PyData.canLay0, PyData.canLayAll0, Gr.enc, Gr.lays o2, pl_lay, Gr.strOk_name o1]
  have h2 : PyData.depthAll ((g.ar 0 1).map arE) ≤ 50 := depths_le fun d hd' => by
    obtain ⟨b, hb, rfl⟩ := List.mem_map.mp hd'
    have := arE_depth b
    have := (Gr.ar_ok 0 1 h b hb).2.2.1
    omega
  have h3 : (PyData.list ((g.ar 0 1).map arE)).depth = PyData.depthAll ((g.ar 0 1).map arE) + 1 := by simp [PyData.depth]
  unfold SeqAt.shaped
  rw [PyData.canLay0, h1 _ fun x hx => ⟨(Gr.ar_ok 0 1 h x hx).1, (Gr.ar_ok 0 1 h x hx).2.1⟩, Bool.true_and]
  exact decide_eq_true (by omega)
def spDeed20 (K : PySem.W.Frag) : Sp := fun vs H Q _ => ∃ (v : V) (p l : Addr) (g : Gr) (ks : List Str) (C : Int), vs = [v, .ref p, .ref l] ∧ GA K H v g ∧ PuG H p ∧ H l = some (.lst (ks.map V.str)) ∧ l ≠ p ∧ 1 ≤ ks.length ∧ ks.length ≤ 8 ∧ (∀ k ∈ ks, NameOk k) ∧ g.Ok C ∧ 10 ^ 31 ≤ C ∧ C ≤ B170 ∧ g.parts ≤ 60 ∧ g.deep ≤ 12 ∧
  ∀ (T L : Addr) (x : V) (us : List V) (g1 k : Gr) (H' : Hp), SB [p] H H' → SqT K H' T [x, .ref L] → GA K H' x g1 → H' L = some (.lst us) → Bears K H' Gr.pEnc us k.ps → Deed C g g1 k → Q (.ref T) H'
def spLooked20 (K : PySem.W.Frag) : Sp := fun vs H Q _ => ∃ (v : V) (g : Gr), vs = [v] ∧ GA K H v g ∧ g.Ok B170 ∧ g.deep ≤ 12 ∧ g.parts ≤ 60 ∧ ∀ H', SB [] H H' → Q (.bl true) H'
def spWritten20 (K : PySem.W.Frag) : Sp := fun vs H Q _ => ∃ (v : V) (l : Addr) (ts : List Str) (g : Gr), vs = [v, .ref l] ∧ GA K H v g ∧ g.Ok (10 ^ 60) ∧ g.deep ≤ 12 ∧ g.parts ≤ 60 ∧ H l = some (.lst (ts.map V.str)) ∧ ts.length ≤ 900 ∧ ∀ (z : Str) (H' : Hp), SB [l] H H' → tl z = g.text → H' l = some (.lst ((ts ++ [z]).map V.str)) → Q (.bl true) H'
theorem Wt_parts {H : Hp} {v : V} {x : Gr.Wt} (h : Dp K H v (Gr.wtE x)) : ∃ a b u, v = .ref a ∧ SqT K H a [.ref b, u, .int x.2.2] ∧ SqT K H b (x.1.map fun n : Nat => V.int (n : Int)) ∧ GA K H u x.2.1 := by
  cases h with
  | tup hs ha =>
    cases ha with
    | cons h1 h2 =>
      cases h2 with
      | cons h3 h4 =>
        cases h4 with
        | cons h5 h6 =>
          cases h6
          cases h5
          obtain ⟨b, rfl, hb⟩ := PL_ints h1
          exact ⟨_, b, _, rfl, hs, hb, h3⟩
theorem Ar_parts {H : Hp} {v : V} {x : Rw} (h : Dp K H v (arE x)) : ∃ a b u, v = .ref a ∧ SqT K H a [.ref b, .ref u, .int x.2.2] ∧ SqT K H b (x.1.map fun n : Nat => V.int (n : Int)) ∧ Dp K H (.ref u) (Gr.tEnc x.2.1) := by
  cases h with
  | tup hs ha =>
    cases ha with
    | cons h1 h2 =>
      cases h2 with
      | cons h3 h4 =>
        cases h4 with
        | cons h5 h6 =>
          cases h6
          cases h5
          obtain ⟨b, rfl, hb⟩ := PL_ints h1
          obtain ⟨a, u, rfl, _, _⟩ := TA_parts h3
          exact ⟨_, b, _, rfl, hs, hb, h3⟩
abbrev N__law_all : List Str := ["_law_grove_here", "_law_found", "_law_left", "_law_place", "_law_here", "_law_times", "_law_k", "_law_tree", "_law_many"]
theorem sc__law_all : FnScope N__law_all ["_law_grove_here"] (defScope s__law_all) := ⟨rfl, rfl, rfl, by decide +kernel, rfl, by decide +kernel, by decide +kernel⟩
theorem ok__law_all (B : BI mg) (F : Fun K "_law_all" "_law_all" s__law_all f fd) : FnOk P w K mg base CX0 (1) f fd ["_law_grove_here"] (spAll20 K) := by
  refine F.ok sc__law_all (fun vs H Q E h => ?_) (fun cdv A outer s H vs Q E hr h => ?_)
  · obtain ⟨v, g, rfl, _⟩ := h
    rfl
  obtain ⟨v, g, rfl, hv, ho, hd, hp, q⟩ := h
  have hun2 : A.units + 3 + 200 < cLine := by have := hr.un; have h3 : (A.deeper (envOfC "_law_all" (defScope s__law_all) s.heap.objs.size f cdv)).units = A.units + 3 := rfl; omega
  refine ⟨_, pss_cons (ps_set (i := 1) sc__law_all.nd rfl (.inl rfl) (pe_lst pa_nil))
    (pss_cons (ps_set (i := 2) sc__law_all.nd rfl (.inl rfl) (pe_lst (pa_cons (pe_tup (pa_cons (pe_tup pa_nil) (pa_cons (pv 0) (pa_cons pe_int pa_nil)))) pa_nil)))
    (pss_cons (ps_while PassesOwn.never (pt_cmpR (op_neD (by show A.units + 3 + 64 < cLine; omega)) (pv 2) (pe_lst pa_nil) (nomark _)) (pss_cons (ps_asg (pe_bm0 PySem.F.plainAttrs_list PySem.F.slot_list_pop PySem.F.type_list_pop mt_pop (pv 2)) (pg_tup rfl (pgs_cons (pg_name (i := 3) sc__law_all.nd rfl (.inl rfl)) (pgs_cons (pg_name (i := 4) sc__law_all.nd rfl (.inl rfl)) (pgs_cons (pg_name (i := 5) sc__law_all.nd rfl (.inl rfl)) pgs_nil)))))
    (pss_one (ps_for PassesOwn.never rfl (pi_enumT rfl B.enumerate (pv 4)) (pg_tup rfl (pgs_cons (pg_name (i := 6) sc__law_all.nd rfl (.inl rfl)) (pgs_cons (pg_tup rfl (pgs_cons (pg_name (i := 7) sc__law_all.nd rfl (.inl rfl)) (pgs_cons (pg_name (i := 8) sc__law_all.nd rfl (.inl rfl)) pgs_nil))) pgs_nil)))
      (pss_cons (ps_expr (pe_bm PySem.F.plainAttrs_list PySem.F.slot_list_append PySem.F.type_list_append mt_append (pv 1) (pa_cons (pe_tup (pa_cons (pe_op op_catB (pv 3) (pe_tup (pa_cons (pv 6) pa_nil))) (pa_cons (pv 7) (pa_cons (pe_op op_mulW (pv 5) (pv 8)) pa_nil)))) pa_nil)))
    (pss_one (ps_expr (pe_bm PySem.F.plainAttrs_list PySem.F.slot_list_append PySem.F.type_list_append mt_append (pv 2) (pa_cons (pe_tup (pa_cons (pe_op op_catB (pv 3) (pe_tup (pa_cons (pv 6) pa_nil))) (pa_cons (pe_ix ix_tup (pv 7) pe_int (fun _ _ => rfl)) (pa_cons (pe_op op_mulW (pv 5) (pv 8)) pa_nil)))) pa_nil)))))))))
    (pss_one (ps_ret (pe_callB (cr_sortedL arE (by show A.units + 3 + 110 < cLine; omega)) rfl B.sorted (by decide +kernel) (pa_cons (pv 1) pa_nil)))))), ?_⟩
  refine ⟨(by show 0 ≤ sizeLine; decide), fun F0 hF0 => ?_⟩
  have e0 := SB.new (ps := []) hF0 (.lst [])
  refine ⟨(by show 0 ≤ sizeLine; decide), fun t1 ht1 => ?_⟩
  have e1 := SB.new (ps := []) ht1 (.tup [])
  refine ⟨_, rfl, (by show 3 ≤ sizeLine; decide), fun t2 ht2 => ?_⟩
  have e2 := SB.new (ps := []) ht2 (.tup [.ref t1, v, .int 1])
  refine ⟨(by show 1 ≤ sizeLine; decide), fun D hD => ?_⟩
  have e3 := SB.new (ps := []) hD (.lst [.ref t2])
  have e13 := (e1.trans e2).trans e3
  have hF1 := e13.keep _ _ (show (upd H F0 (.lst [])) F0 = some (.lst []) from upd_same) List.not_mem_nil
  have hD1 : (upd (upd (upd (upd H F0 (.lst [])) t1 (.tup [])) t2 (.tup [.ref t1, v, .int 1])) D (.lst [.ref t2])) D = some (.lst [.ref t2]) := upd_same
  have FD : F0 ≠ D := fun z => by
    have := (e1.trans e2).keep _ _ (show (upd H F0 (.lst [])) F0 = some (.lst []) from upd_same) List.not_mem_nil
    exact ne_of_none this hD z
  have hb1 : Bears K (upd (upd (upd (upd H F0 (.lst [])) t1 (.tup [])) t2 (.tup [.ref t1, v, .int 1])) D (.lst [.ref t2])) Gr.wtE [.ref t2] [([], g, 1)] := .cons (Dp.tup (e3.sqT (SqT.of upd_same)) (.cons (PL_of (p := []) ((e2.trans e3).sqT (SqT.of upd_same))) (.cons ((hv.sb e0).sb e13) (.cons (.int _) .nil)))) .nil
  have e03 := e0.trans e13
  have DnH : H D = none := e0.dom _ ((e1.trans e2).dom _ hD)
  generalize hH1 : upd (upd (upd (upd H F0 (.lst [])) t1 (.tup [])) t2 (.tup [.ref t1, v, .int 1])) D (.lst [.ref t2]) = H1 at e03 hF1 hD1 hb1
  have sfin : ∀ (H2 : Hp), SB [F0, D] H H2 → SB [] H H2 := fun H2 s3 => s3.drops2 hF0 DnH
  let Pv : List Gr.Wt → L2.St → Hp → Prop := fun ws σ H2 => ∃ (us fs : List V) (ps : List Rw) (o3 o4 o5 o6 o7 o8 : Option V), SB [F0, D] H H2 ∧ σ = [some v, some (.ref F0), some (.ref D), o3, o4, o5, o6, o7, o8] ∧ H2 D = some (.lst us) ∧ Bears K H2 Gr.wtE us ws ∧ H2 F0 = some (.lst fs) ∧ Bears K H2 arE fs ps ∧ Gr.wtTot ws ≤ g.parts + 1 ∧ (ps ++ ws.flatMap Gr.pend).Perm (g.ar 0 1) ∧ (∀ x ∈ ws, x.2.1.Ok B170 ∧ x.1.length + x.2.1.deep ≤ 13 ∧ x.2.2.natAbs < 2 ^ (171 * x.1.length + 1))
  refine while_left (K := K) (enc := Gr.wtE) (D := D) Gr.wtTot Pv (ws0 := [([], g, 1)]) ⟨[.ref t2], [], [], none, none, none, none, none, none, e03.nil, rfl, hD1, hb1, hF1, .nil, by show 1 + g.parts + 0 ≤ g.parts + 1; omega, ?_, fun x hx => ?_⟩ (fun ws σ H2 h2 => ?_) Gr.wtE_noList (fun ws σ H2 h2 => ?_) (fun ws σ H2 z h2 hz => ?_) (fun js x σ H2 h2 => ?_) (fun σ H2 h2 => ?_)
  · show (((g.ar 0 1).map fun y : Rw => ([] ++ y.1, y.2)) ++ []).Perm _
    rw [List.append_nil, show (fun y : Rw => (([] : Pl) ++ y.1, y.2)) = id from rfl, List.map_id]
  · have : x = ([], g, 1) := by simpa using hx
    subst this; exact ⟨ho, by show 0 + g.deep ≤ 13; omega, by show 1 < 2 ^ (171 * 0 + 1); decide⟩
  · obtain ⟨us, fs, ps, o3, o4, o5, o6, o7, o8, s2, rfl, hD2, hb2, _⟩ := h2
    exact ⟨rfl, us, hD2, hb2⟩
  · obtain ⟨us, fs, ps, o3, o4, o5, o6, o7, o8, s2, rfl, hD2, hb2, hF2, hf2, hcnt, hper, hall⟩ := h2
    exact Gr.wt_shaped (C := B170) fun x hx => by obtain ⟨h1, h2, _⟩ := hall x hx; exact ⟨h1, by omega⟩
  · obtain ⟨us, fs, ps, o3, o4, o5, o6, o7, o8, s2, rfl, hD2, hb2, hF2, hf2, hcnt, hper, hall⟩ := h2
    have t3 := SB.new (ps := []) hz (.lst [])
    exact ⟨us, fs, ps, o3, o4, o5, o6, o7, o8, s2.trans t3.nil, rfl, t3.keep _ _ hD2 List.not_mem_nil, hb2.sb t3 Gr.wtE_noList, t3.keep _ _ hF2 List.not_mem_nil, hf2.sb t3 arE_noList, hcnt, hper, hall⟩
  · obtain ⟨us, fs, ps, o3, o4, o5, o6, o7, o8, s2, rfl, hD2, hb2, hF2, hf2, hcnt, hper, hall⟩ := h2
    obtain ⟨xo, xd, xt⟩ := hall x (by simp)
    have psl : ps.length ≤ g.parts := by
      have := hper.length_eq
      rw [List.length_append, Gr.ar_len] at this
      omega
    refine pop_left (K := K) (j := 2) rfl hD2 hb2 Gr.wtE_noList fun us' u H3 s3 hD3 hb3 hu3 hne => ?_
    have hF3 : H3 F0 = some (.lst fs) := by rw [hne F0 FD]; exact hF2
    have hf3 := hf2.sb s3 arE_noList
    have s23 : SB [F0, D] H H3 := s2.trans (s3.mono (by simp))
    obtain ⟨az, pz, uz, rfl, hsz, hsp, hdz⟩ := Wt_parts hu3
    refine ⟨az, _, rfl, hsz, rfl, _, _, rfl, _, _, rfl, _, _, rfl, rfl, ?_⟩
    obtain ⟨c, xs, rfl, hsc, hbc⟩ := GA_bears hdz
    have xl := hbc.length
    have lp := x.2.1.len_parts
    have hcn3 : Gr.wtTot js + (1 + x.2.1.parts) ≤ g.parts + 1 := by
      rw [Gr.wtTot_append] at hcnt
      exact hcnt
    have hjs := Gr.len_wtTot js
    rw [List.flatMap_append, show [x].flatMap Gr.pend = Gr.pend x by simp] at hper
    refine ⟨_, rfl, c, xs, rfl, hsc, ?_⟩
    refine for_it (walk_enumT (xs := xs)) (fun i σ H6 => ∃ (ys gs : List V) (ps2 : List Rw) (ks : List Gr.Wt) (o6 o7 o8 : Option V), σ = [some v, some (.ref F0), some (.ref D), some (.ref pz), some (.ref c), some (.int x.2.2), o6, o7, o8] ∧ SB [F0, D] H3 H6 ∧ H6 D = some (.lst ys) ∧ Bears K H6 Gr.wtE ys (js ++ ks) ∧ H6 F0 = some (.lst gs) ∧ Bears K H6 arE gs ps2 ∧ ks.length = i ∧ Gr.wtTot ks = Gr.tot (x.2.1.ps.take i) ∧ (ps2 ++ (js ++ ks).flatMap Gr.pend ++ (Gr.ars (x.2.1.ps.drop i) i x.2.2).map (fun y : Rw => (x.1 ++ y.1, y.2))).Perm (g.ar 0 1) ∧ (∀ y ∈ ks, y.2.1.Ok B170 ∧ y.1.length + y.2.1.deep ≤ 13 ∧ y.2.2.natAbs < 2 ^ (171 * y.1.length + 1)))
      ⟨us', fs, ps, [], o6, o7, o8, rfl, SB.refl, hD3, by simpa using hb3, hF3, hf3, rfl, rfl, ?_, by simp⟩ (fun i σ H6 hi h6 => by obtain ⟨ys, gs, ps2, ks, o6, o7, o8, rfl, s6, _⟩ := h6; exact s6.sqT hsc) (fun i y σ H6 H' hi h6 hy => ?_) (fun σ H6 h6 => ?_)
    · rw [List.append_nil, List.append_assoc, List.drop_zero, ← Gr.ar_ps]
      exact hper
    · obtain ⟨ys, gs, ps2, ks, o6, o7, o8, rfl, s6, hD6, hb6, hF6, hf6, kl, kt, kper, kok⟩ := h6
      obtain ⟨T, y1, y2, rfl, hT, rfl, ey1, ey2⟩ := hy
      have hy1 : y1 = .int (i : Nat) := (Option.some.inj ey1).symm
      subst hy1
      obtain ⟨p, ep, hpd⟩ := hbc.get ey2
      have pm := List.mem_of_getElem? ep
      obtain ⟨ad, td, ux, rfl, hsx, hst, hdx, hdt⟩ := PA_parts hpd
      have yl := hb6.length
      have gl := hf6.length
      rw [List.length_append] at yl
      have pd := x.2.1.mem_deep p pm
      obtain ⟨pn, pok, p1, p2⟩ := Gr.ok_mem xo pm
      have ps2l : ps2.length ≤ 200 := by
        have := kper.length_eq
        rw [List.length_append, List.length_append, Gr.ar_len] at this
        omega
      have ksl : js.length + ks.length ≤ 201 := by
        have h1 := Gr.len_wtTot ks
        have h2 : Gr.tot (x.2.1.ps.take i) ≤ x.2.1.parts := by
          rw [← Gr.tot_ps x.2.1]
          conv => rhs; rw [← List.take_append_drop i x.2.1.ps]
          rw [Gr.tot_append]; omega
        omega
      have tn : (x.2.2 * p.2).natAbs < 2 ^ (171 * (x.1.length + 1) + 1) := by
        have h2 : p.2.natAbs < 2 ^ 170 := Gr.natAbs_lt (by omega) p2
        rw [Int.natAbs_mul, show 171 * (x.1.length + 1) + 1 = (171 * x.1.length + 1) + 171 by omega, Nat.pow_add]
        exact Nat.mul_lt_mul_of_lt_of_le xt (Nat.le_of_lt (Nat.lt_trans h2 (by decide +kernel))) (Nat.two_pow_pos _)
      have hmul : CMulW x.2.2 p.2 := by
        have e1 := log_lt (x := x.2.2) (a := 171 * x.1.length + 1) (b := 171 * x.1.length + 1) xt (Nat.le_refl _) (by omega)
        have e2 := log_lt (x := p.2) (a := 170) (b := 170) (Gr.natAbs_lt (by omega) p2) (Nat.le_refl _) (by decide)
        unfold CMulW
        omega
      have t7 := SB.new (ps := [F0, D]) hT (.tup [.int (i : Nat), .ref ad])
      have hD7 : (upd H6 T (.tup [.int (i : Nat), .ref ad])) D = some (.lst ys) := by rw [upd_ne (ne_of_none hD6 hT)]; exact hD6
      have hF7 : (upd H6 T (.tup [.int (i : Nat), .ref ad])) F0 = some (.lst gs) := by rw [upd_ne (ne_of_none hF6 hT)]; exact hF6
      have hT7 : SqT K (upd H6 T (.tup [.int (i : Nat), .ref ad])) T [.int (i : Nat), .ref ad] := SqT.of upd_same
      have hb7 := hb6.sb t7 Gr.wtE_noList
      have hf7 := hf6.sb t7 arE_noList
      have s7 := s6.trans t7
      generalize hH7 : upd H6 T (.tup [.int (i : Nat), .ref ad]) = H7 at t7 hD7 hF7 hT7 hb7 hf7 s7
      refine ⟨T, _, rfl, hT7, rfl, _, _, rfl, _, _, rfl, ad, _, rfl, s7.sqT hsx, rfl, _, _, rfl, _, _, rfl, rfl, rfl, ?_⟩
      have hcat : ∀ (H8 : Hp), SB [F0, D] H7 H8 → ∀ (t : Addr), H8 t = none → ∀ (QQ : V → Hp → Prop), (∀ (c2 : Addr) (H9 : Hp), SB [] H8 H9 → Dp K H9 (.ref c2) (plEnc (x.1 ++ [i])) → QQ (.ref c2) H9) → rCatB K (.ref pz) (.ref t) (upd H8 t (.tup [.int (i : Nat)])) QQ := by
        intro H8 s8 t ht QQ hq
        have t9 := SB.new (ps := []) ht (.tup [.int (i : Nat)])
        refine ⟨pz, t, _, _, rfl, rfl, t9.sqT ((s7.trans s8).sqT hsp), SqT.of upd_same, ?_, fun c2 H9 s9 hc2 => ?_⟩
        · rw [List.length_map, List.length_singleton]
          omega
        · refine hq c2 H9 (t9.trans s9) (PL_of (p := x.1 ++ [i]) ?_)
          rw [List.map_append]; exact hc2
      refine ⟨_, rfl, .inl ⟨rfl, _, SqL.of hF7⟩, _, rfl, _, rfl, (by show 1 ≤ sizeLine; decide), fun t ht => ?_⟩
      refine hcat H7 SB.refl t ht _ fun c1 H8 s8 hc1 => ?_
      refine ⟨_, rfl, _, rfl, _, rfl, _, _, rfl, rfl, hmul, (by show 3 ≤ sizeLine; decide), fun t8 ht8 => ?_⟩
      have t9 := SB.new (ps := []) ht8 (.tup [.ref c1, .ref td, .int (x.2.2 * p.2)])
      have s9 := s8.trans t9
      have hD9 := s9.keep _ _ hD7 List.not_mem_nil
      have hF9 := s9.keep _ _ hF7 List.not_mem_nil
      refine ⟨F0, gs, _, rfl, rfl, hF9, small1000 (by omega), ?_⟩
      have t10 := SB.set (ps := [F0, D]) hF9 (by simp) (.lst (gs ++ [.ref t8]))
      have s10 : SB [F0, D] H7 _ := s9.nil.trans t10
      have hD10 : (upd (upd H8 t8 (.tup [.ref c1, .ref td, .int (x.2.2 * p.2)])) F0 (.lst (gs ++ [.ref t8]))) D = some (.lst ys) := by rw [upd_ne (fun z => FD z.symm)]; exact hD9
      have hF10 : (upd (upd H8 t8 (.tup [.ref c1, .ref td, .int (x.2.2 * p.2)])) F0 (.lst (gs ++ [.ref t8]))) F0 = some (.lst (gs ++ [.ref t8])) := upd_same
      have hf10 : Bears K (upd (upd H8 t8 (.tup [.ref c1, .ref td, .int (x.2.2 * p.2)])) F0 (.lst (gs ++ [.ref t8]))) arE (gs ++ [.ref t8]) (ps2 ++ [(x.1 ++ [i], p.1, x.2.2 * p.2)]) :=
        Bears.append (hf7.sb s10 arE_noList) (.cons (Dp.tup (t10.sqT (SqT.of upd_same)) (.cons (Dp_sb (t9.nil.trans t10) _ _ (pl_noList _) hc1) (.cons (Dp_sb (s7.trans s10) _ _ (Gr.noList_tEnc _) hdt) (.cons (.int _) .nil)))) .nil)
      generalize hH10 : upd (upd H8 t8 (.tup [.ref c1, .ref td, .int (x.2.2 * p.2)])) F0 (.lst (gs ++ [.ref t8])) = H10 at t10 s10 hD10 hF10 hf10
      refine ⟨_, rfl, .inl ⟨rfl, _, SqL.of hD10⟩, _, rfl, _, rfl, (by show 1 ≤ sizeLine; decide), fun t' ht' => ?_⟩
      refine hcat H10 s10 t' ht' _ fun c2 H11 s11 hc2 => ?_
      have s711 : SB [F0, D] H7 H11 := s10.trans s11.nil
      refine ⟨_, rfl, td, _, _, _, rfl, rfl, (s7.trans s711).sqT hst, atI_nat (j := 1) rfl, _, rfl, _, rfl, _, _, rfl, rfl, hmul, (by show 3 ≤ sizeLine; decide), fun t2 ht2 => ?_⟩
      have t12 := SB.new (ps := []) ht2 (.tup [.ref c2, ux, .int (x.2.2 * p.2)])
      have hD12 := (s11.trans t12).keep _ _ hD10 List.not_mem_nil
      have hF12 := (s11.trans t12).keep _ _ hF10 List.not_mem_nil
      refine ⟨D, ys, _, rfl, rfl, hD12, small1000 (by omega), ?_⟩
      have t13 := SB.set (ps := [F0, D]) hD12 (by simp) (.lst (ys ++ [.ref t2]))
      have s1113 : SB [F0, D] H11 _ := t12.nil.trans t13
      refine ⟨ys ++ [.ref t2], gs ++ [.ref t8], ps2 ++ [(x.1 ++ [i], p.1, x.2.2 * p.2)], ks ++ [(x.1 ++ [i], p.1.2, x.2.2 * p.2)], _, _, _, rfl, s7.trans (s711.trans s1113), upd_same, ?_, by rw [upd_ne FD]; exact hF12, hf10.sb (s11.nil.trans s1113) arE_noList, by simp [kl], ?_, ?_, fun y hy => ?_⟩
      · rw [← List.append_assoc]
        refine Bears.append (hb7.sb (s711.trans s1113) Gr.wtE_noList) (.cons (Dp.tup (t13.sqT (SqT.of upd_same)) (.cons (Dp_sb s1113 _ _ (pl_noList _) hc2) (.cons (hdx.sb (s7.trans (s711.trans s1113))) (.cons (.int _) .nil)))) .nil)
      · rw [Gr.wtTot_append, kt, List.take_add_one, ep, Gr.tot_append]; rfl
      · refine List.Perm.trans ?_ kper
        rw [Gr.ars_drop ep, List.map_append, Gr.pend_step, List.flatMap_append, List.flatMap_append, List.flatMap_append, show [(x.1 ++ [i], p.1.2, x.2.2 * p.2)].flatMap Gr.pend = Gr.pend (x.1 ++ [i], p.1.2, x.2.2 * p.2) by simp]
        refine List.perm_iff_count.mpr fun a => ?_
        simp only [List.count_append, List.count_cons, List.count_nil]
        omega
      · rcases List.mem_append.mp hy with hy | hy
        · exact kok y hy
        · have : y = (x.1 ++ [i], p.1.2, x.2.2 * p.2) := by simpa using hy
          subst this
          exact ⟨pok, by show (x.1 ++ [i]).length + p.1.2.deep ≤ 13; rw [List.length_append, List.length_singleton]; omega, by show _ < 2 ^ (171 * (x.1 ++ [i]).length + 1); rw [List.length_append, List.length_singleton]; exact tn⟩
    · obtain ⟨ys, gs, ps2, ks, o6, o7, o8, rfl, s6, hD6, hb6, hF6, hf6, kl, kt, kper, kok⟩ := h6
      rw [List.drop_eq_nil_of_le (by omega)] at kper
      rw [xl, List.take_length, Gr.tot_ps] at kt
      refine ⟨js ++ ks, ?_, ys, gs, ps2, _, _, _, _, _, _, s23.trans s6, rfl, hD6, hb6, hF6, hf6, ?_, by simpa [Gr.ars] using kper, fun y hy => ?_⟩
      · rw [Gr.wtTot_append, Gr.wtTot_append, kt]; show _ < _ + (1 + x.2.1.parts + 0); omega
      · rw [Gr.wtTot_append, kt]; omega
      · rcases List.mem_append.mp hy with hy | hy
        · exact hall y (List.mem_append_left _ hy)
        · exact kok y hy
  · obtain ⟨us, fs, ps, o3, o4, o5, o6, o7, o8, s2, rfl, hD2, hb2, hF2, hf2, hcnt, hper, hall⟩ := h2
    have hper : ps.Perm (g.ar 0 1) := by simpa using hper
    have pl2 := hper.length_eq
    rw [Gr.ar_len] at pl2
    refine ⟨_, rfl, F0, fs, ps, rfl, SqL.of hF2, hf2, AllAlike.of fun a b => Orderly.al (enc := arE) a b, Sortable.tuples fun b => ⟨_, _, rfl⟩, by omega, fun b hb => ?_, fun p zs hp' hz => ?_⟩
    · have := arE_depth b
      have := (Gr.ar_ok 0 1 ho b (hper.mem_iff.mp hb)).2.2.1
      omega
    have t5 := SB.new (ps := []) hp' (.lst zs)
    have e : ps.mergeSort (dataLe false arE) = g.ar 0 1 := (srtE_of hper.symm (Gr.ar_rise g 0 1)).symm
    rw [e] at hz
    exact q p zs _ ((sfin _ s2).trans t5) ((sfin _ s2).dom _ hp') upd_same (hz.sb t5 arE_noList)
abbrev N__law_put : List Str := ["_law_grove_here", "_law_some", "_law_found", "_law_tree", "_law_many"]
theorem sc__law_put : FnScope N__law_put ["_law_grove_here", "_law_some"] (defScope s__law_put) := ⟨rfl, rfl, rfl, by decide +kernel, rfl, by decide +kernel, by decide +kernel⟩
theorem ok__law_put (B : BI mg) (F : Fun K "_law_put" "_law_put" s__law_put f fd) : FnOk P w K mg base CX0 (1) f fd ["_law_grove_here", "_law_some"] (spPut20 K) := by
  refine F.ok sc__law_put (fun vs H Q E h => ?_) (fun cdv A outer s H vs Q E hr h => ?_)
  · obtain ⟨v, l, us, g, bs, rfl, _⟩ := h
    rfl
  obtain ⟨v, l, us, g, bs, rfl, hv, hl, hb, hlen, ⟨C, ho⟩, q⟩ := h
  have hun2 : A.units + 3 + 200 < cLine := by have := hr.un; have h3 : (A.deeper (envOfC "_law_put" (defScope s__law_put) s.heap.objs.size f cdv)).units = A.units + 3 := rfl; omega
  refine ⟨_, pss_cons (ps_set (i := 2) sc__law_put.nd rfl (.inl rfl) (pe_lst pa_nil))
    (pss_cons (ps_for PassesOwn.never rfl (pi_list (pe_callB (cr_sortedB Gr.pEnc (by show A.units + 3 + 110 < cLine; omega)) rfl B.sorted (by decide +kernel) (pa_cons (pe_op op_cat (pe_callTy call_list_of rfl B.list boot_list (pa_cons (pv 0) pa_nil)) (pv 1)) pa_nil))) (pg_tup rfl (pgs_cons (pg_name (i := 3) sc__law_put.nd rfl (.inl rfl)) (pgs_cons (pg_name (i := 4) sc__law_put.nd rfl (.inl rfl)) pgs_nil)))
      (pss_cons (ps_if (PW.pt (pw_and (pt_cmpR (op_neD (by show A.units + 3 + 64 < cLine; omega)) (pv 2) (pe_lst pa_nil) (nomark _)) (pw_and1 (pt_cmpR (op_eqD (by show A.units + 3 + 64 < cLine; omega)) (pe_ix ix_tup (pe_ix ix_list (pv 2) (pe_un un_neg pe_int) (fun _ _ => rfl)) pe_int (fun _ _ => rfl)) (pv 3) (nomark _))))) (pss_one (ps_set (i := 4) sc__law_put.nd rfl (.inl rfl) (pe_op op_add (pv 4) (pe_ix ix_tup (pe_bm0 PySem.F.plainAttrs_list PySem.F.slot_list_pop PySem.F.type_list_pop mt_pop (pv 2)) pe_int (fun _ _ => rfl))))) pss_nil)
    (pss_one (ps_expr (pe_bm PySem.F.plainAttrs_list PySem.F.slot_list_append PySem.F.type_list_append mt_append (pv 2) (pa_cons (pe_tup (pa_cons (pv 3) (pa_cons (pv 4) pa_nil))) pa_nil))))))
    (pss_one (ps_ret (pe_callTy call_tuple_of rfl B.tuple boot_tuple (pa_cons (pv 2) pa_nil))))), ?_⟩
  have szl := sizeLine_eq
  obtain ⟨ga, gs, rfl, hga, hgb⟩ := GA_bears hv
  have gsl := hgb.length
  have usl := hb.length
  refine ⟨(by show 0 ≤ sizeLine; decide), fun D hD => ?_⟩
  have t0 := SB.new (ps := []) hD (.lst [])
  have hD0 : (upd H D (.lst [])) D = some (.lst []) := upd_same
  generalize hH0 : upd H D (.lst []) = H0 at t0 hD0
  refine ⟨_, rfl, ga, gs, rfl, .inr (t0.sqT hga), fun G nG => ?_⟩
  have u1 := SB.new (ps := []) nG (.lst gs)
  have hG : upd H0 G (.lst gs) G = some (.lst gs) := upd_same
  generalize upd H0 G (.lst gs) = I1 at u1 hG
  refine ⟨_, rfl, G, l, _, _, rfl, rfl, hG, (t0.trans u1).keep _ _ hl List.not_mem_nil, by omega, fun C0 nC => ?_⟩
  have u2 := SB.new (ps := []) nC (.lst (gs ++ us))
  have hC : upd I1 C0 (.lst (gs ++ us)) C0 = some (.lst (gs ++ us)) := upd_same
  generalize upd I1 C0 (.lst (gs ++ us)) = I2 at u2 hC
  have t02 := (t0.trans u1).trans u2
  have hba : Bears K I2 Gr.pEnc (gs ++ us) (g.ps ++ bs) := (hgb.sb t02 Gr.noList_pEnc).append (hb.sb t02 Gr.noList_pEnc)
  refine ⟨C0, _, g.ps ++ bs, rfl, .inl (SqL.of hC), hba, Gr.pEnc_all _, Gr.pEnc_sortable _, by rw [List.length_append]; omega, fun p hp => ?_, fun p1 zs hp1 hz => ?_⟩
  · have := Gr.pEnc_depth p
    have := (ho p hp).2.2
    omega
  have s1 := SB.new (ps := []) hp1 (.lst zs)
  have hz3 : Bears K (upd I2 p1 (.lst zs)) Gr.pEnc zs (srtE Gr.pEnc (g.ps ++ bs)) := hz.sb s1 Gr.noList_pEnc
  have hD3 := ((u1.trans u2).trans s1).keep _ _ hD0 List.not_mem_nil
  have hl3 : SqL K (upd I2 p1 (.lst zs)) p1 zs := SqL.of upd_same
  have p1D : p1 ≠ D := fun z => by
    subst z
    have := (u1.trans u2).keep _ _ hD0 List.not_mem_nil
    rw [this] at hp1; cases hp1
  generalize hH3 : upd I2 p1 (.lst zs) = H3 at s1 hz3 hD3 hl3
  clear hz
  have hl : (g.ps ++ bs).length ≤ 1000 := by rw [List.length_append]; omega
  generalize hbs : srtE Gr.pEnc (g.ps ++ bs) = cs at hz3
  have bok : ∀ p ∈ cs, NameOk p.1.1 ∧ p.1.2.Ok C ∧ p.1.2.deep ≤ 18 := by
    intro p hp
    rw [← hbs] at hp
    exact ho p ((srtE_perm (g.ps ++ bs)).mem_iff.mp hp)
  have blen : cs.length ≤ 1000 := by rw [← hbs, (srtE_perm (g.ps ++ bs)).length_eq]; exact hl
  have zl := hz3.length
  refine ⟨p1, rfl, ⟨zs, hl3⟩, ?_⟩
  refine for_list (K := K) (a := p1) (xs := zs) (fun i σ H2 => SB [D] H3 H2 ∧ ∃ acc o2 o3, σ = [some (.ref ga), some (.ref l), some (.ref D), o2, o3] ∧ H2 D = some (.lst acc) ∧ Bears K H2 Gr.pEnc acc (jn (cs.take i))) ⟨SB.refl, [], none, none, rfl, hD3, .nil⟩ (fun i σ H2 hi h2 => h2.1.sqL (by simpa using p1D) hl3) (fun i x σ H2 hx h2 => ?_) (fun σ H2 h2 => ?_)
  · obtain ⟨s2, acc, o2, o3, rfl, hD2, hb2⟩ := h2
    obtain ⟨p, ep, hpd⟩ := hz3.get hx
    have pm := List.mem_of_getElem? ep
    obtain ⟨ad, tx, ux, rfl, hsx, _, _, hdx⟩ := PA_parts hpd
    have al := hb2.length
    have jl := jn_length (cs.take i)
    rw [List.length_take] at jl
    rw [jn_take cs i p ep]
    have hdx2 : Dp K H2 (.ref tx) (Gr.tEnc p.1) := Dp_sb s2 _ _ (Gr.noList_tEnc _) hdx
    refine ⟨ad, _, rfl, s2.sqT hsx, rfl, _, _, rfl, _, _, rfl, rfl, ?_⟩
    refine ⟨_, rfl, (by show 0 ≤ sizeLine; decide), fun e0 he0 => ?_⟩
    have t3 := SB.new (ps := [D]) he0 (.lst [])
    have hD3 : (upd H2 e0 (.lst [])) D = some (.lst acc) := by rw [upd_ne (ne_of_none hD2 he0)]; exact hD2
    have jd : ∀ p ∈ jn (cs.take i), NameOk p.1.1 ∧ p.1.2.Ok C ∧ p.1.2.deep ≤ 18 := by
      intro p hp
      obtain ⟨q2, hq2, e2⟩ := jn_keys _ p hp
      rw [← e2]; exact bok q2 (List.mem_of_mem_take hq2)
    have hb3 := hb2.sb t3 Gr.noList_pEnc
    have hdx3 := Dp_sb t3 _ _ (Gr.noList_tEnc _) hdx2
    have he0' : (upd H2 e0 (.lst [])) e0 = some (.lst []) := upd_same
    generalize hH4 : upd H2 e0 (.lst []) = H4 at t3 hD3 hb3 hdx3 he0'
    refine ⟨.list ((jn (cs.take i)).map Gr.pEnc), .list [], Dp.lst (SqL.of hD3) hb3.dp, Dp.lst (SqL.of he0') .nil, Gr.shaped_rows ⟨C, jd⟩, by decide +kernel, _, rfl, ?_⟩
    have s24 := s2.trans t3
    have app : ∀ (us : List V) (js : List (Tr × Int)) (m : Int) (H5 : Hp), SB [D] H4 H5 → H5 D = some (.lst us) → Bears K H5 Gr.pEnc us js → us.length ≤ 1000 → jstep (jn (cs.take i)) p = js ++ [(p.1, m)] →
        tDrop (tBM K "list" rAppend (tVar 2) (tCons (tTup (tCons (tVar 3) (tCons (tVar 4) tNil))) tNil)) { nx := fun σ H2 => SB [D] H3 H2 ∧ ∃ acc o2 o3, σ = [some (.ref ga), some (.ref l), some (.ref D), o2, o3] ∧ H2 D = some (.lst acc) ∧ Bears K H2 Gr.pEnc acc (jstep (jn (cs.take i)) p), rt := Q } [some (.ref ga), some (.ref l), some (.ref D), some (.ref tx), some (.int m)] H5 := by
      intro us js m H5 s5 hD5 hb5 hul e
      rw [e]
      refine ⟨_, rfl, .inl ⟨rfl, _, SqL.of hD5⟩, _, rfl, _, rfl, (by show 2 ≤ sizeLine; decide), fun t ht => ?_⟩
      have t6 := SB.new (ps := [D]) ht (.tup [.ref tx, .int m])
      have hD6 : (upd H5 t (.tup [.ref tx, .int m])) D = some (.lst us) := by rw [upd_ne (ne_of_none hD5 ht)]; exact hD5
      refine ⟨D, us, _, rfl, rfl, hD6, small1000 hul, ?_⟩
      have t7 := SB.set (ps := [D]) hD6 (by simp) (.lst (us ++ [.ref t]))
      exact ⟨((s24.trans s5).trans t6).trans t7, _, _, _, rfl, upd_same, Bears.append ((hb5.sb t6 Gr.noList_pEnc).sb t7 Gr.noList_pEnc) (.cons (Dp.tup (t7.sqT (SqT.of upd_same)) (.cons (Dp_sb ((s5.trans t6).trans t7) _ _ (Gr.noList_tEnc _) hdx3) (.cons (.int _) .nil))) .nil)⟩
    rcases List.eq_nil_or_concat (jn (cs.take i)) with he | ⟨js, z, he⟩
    · rw [he] at hb3 app
      rw [he]
      cases hb3
      refine iteF (iteF ?_)
      exact app [] [] p.2 H4 SB.refl hD3 .nil (by simp) rfl
    · rw [List.concat_eq_append] at he
      rw [he] at hb3 app jd
      rw [he]
      obtain ⟨us, u, rfl, hus, hu⟩ := hb3.snoc
      obtain ⟨az, tz, uz, rfl, hsz, _, _, hdz⟩ := PA_parts hu
      obtain ⟨zn, zo, zd⟩ := jd z (by simp)
      obtain ⟨pn, po, pd⟩ := bok p pm
      have e0 : (!PyData.eqv (.list ((js ++ [z]).map Gr.pEnc)) (.list [])) = true := by
        cases js <;> simp [PyData.eqv, PyData.eqvAll]
      rw [e0]
      refine iteT ?_
      refine ⟨_, rfl, 1, rfl, D, _, _, _, rfl, rfl, SqL.of hD3, at_last, az, _, _, _, rfl, rfl, hsz, atI_nat (j := 0) rfl, _, rfl, Gr.tEnc z.1, Gr.tEnc p.1, hdz, hdx3, Gr.shaped_tEnc zn zo (by omega), Gr.shaped_tEnc pn po (by omega), _, rfl, ?_⟩
      rw [Orderly.eq (enc := Gr.tEnc)]
      have ul : us.length ≤ 1000 := by rw [List.length_append] at al; omega
      by_cases hz : z.1 = p.1
      · rw [show decide (z.1 = p.1) = true by simp [hz]]
        refine iteT ?_
        refine ⟨_, rfl, _, rfl, .inl ⟨rfl, _, SqL.of hD3⟩, D, _, _, rfl, rfl, hD3, (by simp : (us ++ [V.ref az])[(us ++ [V.ref az]).length - 1]? = some (V.ref az)), ?_⟩
        have ed : (us ++ [V.ref az]).dropLast = us := by simp
        rw [ed]
        have t6 := SB.set (ps := [D]) hD3 (by simp) (.lst us)
        refine ⟨az, _, _, _, rfl, rfl, t6.sqT hsz, atI_nat (j := 1) rfl, _, _, rfl, rfl, ?_⟩
        refine app us js (p.2 + z.2) _ t6 upd_same (hus.sb t6 Gr.noList_pEnc) ul ?_
        rw [jstep_snoc, if_pos hz, Int.add_comm]
      · rw [show decide (z.1 = p.1) = false by simp [hz]]
        refine iteF ?_
        refine app _ (js ++ [z]) p.2 H4 SB.refl hD3 hb3 (by rw [List.length_append, List.length_singleton] at al ⊢; omega) ?_
        rw [jstep_snoc, if_neg hz]
  · obtain ⟨s2, acc, o2, o3, rfl, hD2, hb2⟩ := h2
    rw [zl, List.take_length] at hb2
    refine ⟨_, rfl, D, acc, rfl, .inl ⟨SqL.of hD2, fun t ht => ?_⟩⟩
    have t3 := SB.new (ps := []) ht (.tup acc)
    refine q _ _ ((((t02.trans s1).nil.trans s2).drop hD).trans t3) ?_
    have e : Gr.tidy (g.ps ++ bs) = Gr.ofPs (jn cs) := by rw [← hbs]; rfl
    rw [e]
    exact Bears_ga (SqT.of upd_same) (hb2.sb t3 Gr.noList_pEnc)
abbrev N__law_deed : List Str := ["_law_grove_here", "_law_purse_here", "_law_names_here", "_law_way", "_law_many", "_law_name", "_law_rows"]
theorem sc__law_deed : FnScope N__law_deed ["_law_grove_here", "_law_purse_here", "_law_names_here"] (defScope s__law_deed) := ⟨rfl, rfl, rfl, by decide +kernel, rfl, by decide +kernel, by decide +kernel⟩
theorem ok__law_deed (B : BI mg) (G__law_take : Got P w K mg base "_law_take" ["_law_purse_here", "_law_many"] (1) (spTakeG)) (G__law_all : Got P w K mg base "_law_all" ["_law_grove_here"] (1) (spAll20 K)) (F : Fun K "_law_deed" "_law_deed" s__law_deed f fd) : FnOk P w K mg base CX0 (2) f fd ["_law_grove_here", "_law_purse_here", "_law_names_here"] (spDeed20 K) := by
  refine F.ok sc__law_deed (fun vs H Q E h => ?_) (fun cdv A outer s H vs Q E hr h => ?_)
  · obtain ⟨v, p, l, g, ks, C, rfl, _⟩ := h
    rfl
  obtain ⟨v, p, l, g, ks, C, rfl, hv, hpu, hl, lp, k1, k8, kn, ho, C1, C2, hp, hd, q⟩ := h
  have hun2 : A.units + 3 + 200 < cLine := by have := hr.un; have h3 : (A.deeper (envOfC "_law_deed" (defScope s__law_deed) s.heap.objs.size f cdv)).units = A.units + 3 := rfl; omega
  refine ⟨_, pss_cons (ps_set (i := 3) sc__law_deed.nd rfl (.inl rfl) (pe_got G__law_take (hr.mono (by omega)) rfl (pa_cons (pv 1) (pa_cons pe_int pa_nil))))
    (pss_cons (ps_set (i := 4) sc__law_deed.nd rfl (.inl rfl) (pe_op op_add pe_int (pe_got G__law_take (hr.mono (by omega)) rfl (pa_cons (pv 1) (pa_cons (pe_ix ix_list (pe_lst (pa_cons pe_int (pa_cons pe_int (pa_cons (pe_op op_pow pe_int pe_int) pa_nil)))) (pe_got G__law_take (hr.mono (by omega)) rfl (pa_cons (pv 1) (pa_cons pe_int pa_nil))) (fun _ _ => rfl)) pa_nil)))))
    (pss_cons (ps_set (i := 5) sc__law_deed.nd rfl (.inl rfl) (pe_ix ix_list (pv 2) (pe_got G__law_take (hr.mono (by omega)) rfl (pa_cons (pv 1) (pa_cons (pe_callB call_len_seq rfl B.len PySem.boot_len (pa_cons (pv 2) pa_nil)) pa_nil))) (fun _ _ => rfl)))
    (pss_cons (ps_set (i := 6) sc__law_deed.nd rfl (.inl rfl) (pe_got G__law_all (hr.mono (by omega)) rfl (pa_cons (pv 0) pa_nil)))
    (pss_cons (ps_if (PW.pt (pw_or (pt_cmpR op_eq (pv 3) pe_int (nomark _)) (pw_or1 (pt_cmpR (op_eqD (by show A.units + 3 + 64 < cLine; omega)) (pv 6) (pe_lst pa_nil) (nomark _))))) (pss_one (ps_ret (pe_tup (pa_cons (pv 0) (pa_cons (pe_lst (pa_cons (pe_tup (pa_cons (pe_tup (pa_cons (pv 5) (pa_cons (pe_tup pa_nil) pa_nil))) (pa_cons (pv 4) pa_nil))) pa_nil)) pa_nil))))) pss_nil)
    (pss_cons (ps_if (pt_cmpR op_eq (pv 3) pe_int (nomark _)) (pss_one (ps_ret (pe_tup (pa_cons (pe_tup pa_nil) (pa_cons (pe_lst (pa_cons (pe_tup (pa_cons (pe_tup (pa_cons (pv 5) (pa_cons (pv 0) pa_nil))) (pa_cons (pv 4) pa_nil))) pa_nil)) pa_nil))))) pss_nil)
    (pss_cons (ps_if (pt_cmpR op_eq (pv 3) pe_int (nomark _)) (pss_one (ps_ret (pe_tup (pa_cons (pv 0) (pa_cons (pe_lst (pa_cons (pe_tup (pa_cons (pe_ix ix_tup (pe_ix ix_list (pv 6) (pe_got G__law_take (hr.mono (by omega)) rfl (pa_cons (pv 1) (pa_cons (pe_callB call_len_seq rfl B.len PySem.boot_len (pa_cons (pv 6) pa_nil)) pa_nil))) (fun _ _ => rfl)) pe_int (fun _ _ => rfl)) (pa_cons (pv 4) pa_nil))) pa_nil)) pa_nil))))) pss_nil)
    (pss_one (ps_ret (pe_tup (pa_cons (pv 0) (pa_cons (pe_callTy call_list_of rfl B.list boot_list (pa_cons (pv 0) pa_nil)) pa_nil))))))))))), ?_⟩
  have szl := sizeLine_eq
  have cpw : CPow 10 30 := ⟨by decide, by decide, by decide⟩
  have C3 : (10 : Int) ^ 30 + 1 < 10 ^ 31 := by decide
  refine ⟨_, rfl, p, 4, rfl, hpu, by decide, by decide, fun r1 H1 a0 a4 s1 hp1 => ?_⟩
  refine take_ofL (i := 1) [1, 4, 10 ^ 30] rfl hp1 (fun _ h => ⟨_, _, rfl, rfl, cpw, h⟩) rfl (by decide) (by decide) (by decide) fun r2 H2 b0 bz s2 hp2 => ?_
  obtain ⟨m, em, m1, m2⟩ : ∃ m : Int, 1 + r2 = m ∧ 1 ≤ m ∧ m < C := by
    refine ⟨_, rfl, by omega, ?_⟩
    obtain ⟨z, hz, hlt⟩ := bz
    simp only [List.mem_cons, List.not_mem_nil, or_false] at hz
    rcases hz with e | e | e <;> rw [e] at hlt <;> omega
  refine ⟨1, r2, rfl, rfl, ?_⟩
  show gName 4 (.int (1 + r2)) _ _ _
  rw [em]
  have hl2 := (s1.trans s2).keep _ _ hl (by simpa using lp)
  refine ⟨_, rfl, _, rfl, _, rfl, l, _, rfl, .inl (SqL.of hl2), p, _, rfl, hp2, by rw [List.length_map]; omega, by rw [List.length_map]; omega, fun r3 H3 c0 c3 s3 hp3 => ?_⟩
  rw [List.length_map] at c3
  obtain ⟨j, ej, hj⟩ : ∃ j : Nat, r3 = (j : Int) ∧ j < ks.length := ⟨r3.toNat, by omega, by omega⟩
  subst ej
  have hl3 := s3.keep _ _ hl2 (by simpa using lp)
  obtain ⟨nm, enm⟩ : ∃ nm, ks[j]? = some nm := ⟨_, List.getElem?_eq_getElem hj⟩
  have nok := kn nm (List.mem_of_getElem? enm)
  refine ⟨l, _, _, .str nm, rfl, rfl, SqL.of hl3, atI_nat (by rw [List.getElem?_map, enm]; rfl), ?_⟩
  have s03 := (s1.trans s2).trans s3
  have hv3 := hv.sb s03
  refine ⟨_, rfl, v, g, rfl, hv3, ho.mono C2, by omega, by omega, fun D us H4 s4 nD hD hbs => ?_⟩
  have s04 := s03.trans s4.nil
  have hv4 := hv3.sb s4
  have hp4 := hp3.sb s4
  have usl := hbs.length
  rw [Gr.ar_len] at usl
  have retA : ∀ (H5 : Hp), SB [p] H H5 → GA K H5 v g → tTup (tCons (tVar 0) (tCons (tLst (tCons (tTup (tCons (tTup (tCons (tVar 5) (tCons (tTup tNil) tNil))) (tCons (tVar 4) tNil))) tNil)) tNil)) [some v, some (.ref p), some (.ref l), some (.int r1), some (.int m), some (.str nm), some (.ref D)] H5 Q := by
    intro H5 s5 hv5
    refine ⟨_, rfl, _, rfl, by show 0 ≤ sizeLine; decide, fun t0 n0 => ?_⟩
    have e0 := SB.new (ps := []) n0 (.tup [])
    have h0 : SqT K (upd H5 t0 (.tup [])) t0 [] := SqT.of upd_same
    generalize upd H5 t0 (.tup []) = G0 at e0 h0
    refine ⟨by show 2 ≤ sizeLine; decide, fun t1 n1 => ?_⟩
    have e1 := SB.new (ps := []) n1 (.tup [.str nm, .ref t0])
    have h1 : SqT K (upd G0 t1 (.tup [.str nm, .ref t0])) t1 [.str nm, .ref t0] := SqT.of upd_same
    generalize upd G0 t1 (.tup [.str nm, .ref t0]) = G1 at e1 h1
    refine ⟨_, rfl, by show 2 ≤ sizeLine; decide, fun t2 n2 => ?_⟩
    have e2 := SB.new (ps := []) n2 (.tup [.ref t1, .int m])
    have h2 : SqT K (upd G1 t2 (.tup [.ref t1, .int m])) t2 [.ref t1, .int m] := SqT.of upd_same
    generalize upd G1 t2 (.tup [.ref t1, .int m]) = G2 at e2 h2
    refine ⟨by show 1 ≤ sizeLine; decide, fun L nL => ?_⟩
    have e3 := SB.new (ps := []) nL (.lst [.ref t2])
    have h3 : upd G2 L (.lst [.ref t2]) L = some (.lst [.ref t2]) := upd_same
    generalize upd G2 L (.lst [.ref t2]) = G3 at e3 h3
    refine ⟨by show 2 ≤ sizeLine; decide, fun T nT => ?_⟩
    have e4 := SB.new (ps := []) nT (.tup [v, .ref L])
    have e14 := ((e1.trans e2).trans e3).trans e4
    have e04 := e0.trans e14
    refine q T L v [.ref t2] g (Gr.one (nm, .nil) m) _ (s5.trans e04.nil) (SqT.of upd_same) (hv5.sb e04) (e4.keep _ _ h3 List.not_mem_nil) (.cons (.tup ((e3.trans e4).sqT h2) (.cons (.tup (((e2.trans e3).trans e4).sqT h1) (.cons (.str _) (.cons (.tup (e14.sqT h0) .nil) .nil))) (.cons (.int _) .nil))) .nil) ?_
    exact deed_of ho (Gr.one_ok nok trivial m1 m2) (by omega) hp (by show 1 + 0 + 0 ≤ 61; omega) hd (by show max (1 + 0) 0 ≤ 13; omega) (by rw [Gr.size_one]; show g.size < g.size + (m * (1 + 0) + 0); omega) fun e => ⟨e, by show 1 + 0 + 0 ≤ 1; omega⟩
  refine ⟨_, rfl, rfl, _, rfl, ?_⟩
  by_cases w0 : r1 = 0
  · rw [show decide (V.int r1 = V.int 0) = true from decide_eq_true (by rw [w0])]
    exact iteT (retA _ s04 hv4)
  rw [show decide (V.int r1 = V.int 0) = false from decide_eq_false fun z => w0 (V.int.inj z)]
  refine iteF ⟨_, rfl, by show 0 ≤ sizeLine; decide, fun en nen => ?_⟩
  have t5 := SB.new (ps := []) nen (.lst [])
  have hen : upd H4 en (.lst []) en = some (.lst []) := upd_same
  generalize upd H4 en (.lst []) = H5 at t5 hen
  have hbs5 := hbs.sb t5 arE_noList
  refine ⟨.list ((g.ar 0 1).map arE), .list [], .lst (SqL.of (t5.keep _ _ hD List.not_mem_nil)) (Bears_dp hbs5), .lst (SqL.of hen) .nil, ar_shaped (ho.mono C2) (by omega), by decide +kernel, _, rfl, ?_⟩
  have s05 := s04.trans t5.nil
  have hv5 := hv4.sb t5
  by_cases gn : g = .nil
  · rw [show PyData.eqv (.list ((g.ar 0 1).map arE)) (.list []) = true by rw [gn]; decide +kernel]
    exact iteT (retA _ s05 hv5)
  have ane : g.ar 0 1 ≠ [] := fun z => by
    have := congrArg List.length z
    rw [Gr.ar_len] at this
    cases g with
    | nil => exact gn rfl
    | cons a b c d => exact absurd (show 1 + b.parts + d.parts = 0 from this) (by omega)
  rw [show PyData.eqv (.list ((g.ar 0 1).map arE)) (.list []) = false by
    cases e : g.ar 0 1 with
    | nil => exact absurd e ane
    | cons x y => simp [PyData.eqv, PyData.eqvAll]]
  refine iteF (nextI ?_)
  have hp5 := hp4.sb t5
  have gpos := Gr.size_pos ho
  refine ⟨_, rfl, rfl, _, rfl, ?_⟩
  by_cases w1 : r1 = 1
  · rw [show decide (V.int r1 = V.int 1) = true from decide_eq_true (by rw [w1])]
    refine iteT ⟨by show 0 ≤ sizeLine; decide, fun t0 n0 => ?_⟩
    have e0 := SB.new (ps := []) n0 (.tup [])
    have h0 : SqT K (upd H5 t0 (.tup [])) t0 [] := SqT.of upd_same
    generalize upd H5 t0 (.tup []) = G0 at e0 h0
    refine ⟨_, rfl, _, rfl, by show 2 ≤ sizeLine; decide, fun t1 n1 => ?_⟩
    have e1 := SB.new (ps := []) n1 (.tup [.str nm, v])
    have h1 : SqT K (upd G0 t1 (.tup [.str nm, v])) t1 [.str nm, v] := SqT.of upd_same
    generalize upd G0 t1 (.tup [.str nm, v]) = G1 at e1 h1
    refine ⟨_, rfl, by show 2 ≤ sizeLine; decide, fun t2 n2 => ?_⟩
    have e2 := SB.new (ps := []) n2 (.tup [.ref t1, .int m])
    have h2 : SqT K (upd G1 t2 (.tup [.ref t1, .int m])) t2 [.ref t1, .int m] := SqT.of upd_same
    generalize upd G1 t2 (.tup [.ref t1, .int m]) = G2 at e2 h2
    refine ⟨by show 1 ≤ sizeLine; decide, fun L nL => ?_⟩
    have e3 := SB.new (ps := []) nL (.lst [.ref t2])
    have h3 : upd G2 L (.lst [.ref t2]) L = some (.lst [.ref t2]) := upd_same
    generalize upd G2 L (.lst [.ref t2]) = G3 at e3 h3
    refine ⟨by show 2 ≤ sizeLine; decide, fun T nT => ?_⟩
    have e4 := SB.new (ps := []) nT (.tup [.ref t0, .ref L])
    have e14 := ((e1.trans e2).trans e3).trans e4
    have e04 := e0.trans e14
    refine q T L (.ref t0) [.ref t2] .nil (Gr.one (nm, g) m) _ (s05.trans e04.nil) (SqT.of upd_same) (GA_nil (e14.sqT h0)) (e4.keep _ _ h3 List.not_mem_nil) (.cons (.tup ((e3.trans e4).sqT h2) (.cons (.tup (((e2.trans e3).trans e4).sqT h1) (.cons (.str _) (.cons (hv5.sb e04) .nil))) (.cons (.int _) .nil))) .nil) ?_
    have e : 1 * (1 + g.size) ≤ m * (1 + g.size) := Int.mul_le_mul_of_nonneg_right m1 (by omega)
    exact deed_of trivial (Gr.one_ok nok ho m1 m2) (by omega) (Nat.zero_le _) (by show 1 + g.parts + 0 ≤ 61; omega) (Nat.zero_le _) (by show max (1 + g.deep) 0 ≤ 13; omega) (by rw [Gr.size_one]; show g.size < 0 + (m * (1 + g.size) + 0); omega) fun z => absurd z gn
  rw [show decide (V.int r1 = V.int 1) = false from decide_eq_false fun z => w1 (V.int.inj z)]
  refine iteF (nextI ⟨_, rfl, rfl, _, rfl, ?_⟩)
  by_cases w2 : r1 = 2
  · rw [show decide (V.int r1 = V.int 2) = true from decide_eq_true (by rw [w2])]
    have hD5 := t5.keep _ _ hD List.not_mem_nil
    have alen : 0 < us.length := by rw [usl, ← Gr.ar_len g 0 1]; exact List.length_pos_iff.mpr ane
    refine iteT ⟨_, rfl, _, rfl, _, rfl, _, rfl, D, us, rfl, .inl (SqL.of hD5), p, _, rfl, hp5, by omega, by omega, fun r6 H6 d0 d6 s6 hp6 => ?_⟩
    obtain ⟨i, ei, hi⟩ : ∃ i : Nat, r6 = (i : Int) ∧ i < us.length := ⟨r6.toNat, by omega, by omega⟩
    subst ei
    have Dp' : D ≠ p := fun z => by rw [z] at nD; exact absurd rfl (hp3.ne nD)
    have hD6 := s6.keep _ _ hD5 (by simpa using Dp')
    have eui := List.getElem?_eq_getElem hi
    obtain ⟨x, ex, hx⟩ := hbs5.get eui
    obtain ⟨ax, bx, ux, eax, hax, _, hdx⟩ := Ar_parts (Dp_sb s6 _ _ (arE_noList _) hx)
    rw [eax] at eui
    have xm := List.mem_of_getElem? ex
    obtain ⟨x1, x2, x3, x4⟩ := Gr.ar_ok 0 1 ho x xm
    obtain ⟨xh, xt, exl, _⟩ := Gr.ar_head g 0 1 x xm
    have xl : 1 ≤ x.1.length := by rw [exl]; simp
    refine ⟨D, us, _, _, rfl, rfl, SqL.of hD6, atI_nat eui, ax, _, _, _, rfl, rfl, hax, atI_nat (j := 1) rfl, _, rfl, by show 2 ≤ sizeLine; decide, fun t2 n2 => ?_⟩
    have e2 := SB.new (ps := []) n2 (.tup [.ref ux, .int m])
    have h2 : SqT K (upd H6 t2 (.tup [.ref ux, .int m])) t2 [.ref ux, .int m] := SqT.of upd_same
    generalize upd H6 t2 (.tup [.ref ux, .int m]) = G2 at e2 h2
    refine ⟨by show 1 ≤ sizeLine; decide, fun L nL => ?_⟩
    have e3 := SB.new (ps := []) nL (.lst [.ref t2])
    have h3 : upd G2 L (.lst [.ref t2]) L = some (.lst [.ref t2]) := upd_same
    generalize upd G2 L (.lst [.ref t2]) = G3 at e3 h3
    refine ⟨by show 2 ≤ sizeLine; decide, fun T nT => ?_⟩
    have e4 := SB.new (ps := []) nT (.tup [v, .ref L])
    have e24 := (e2.trans e3).trans e4
    refine q T L v [.ref t2] g (Gr.one x.2.1 m) _ ((s05.trans s6).trans e24.nil) (SqT.of upd_same) ((hv5.sb s6).sb e24) (e4.keep _ _ h3 List.not_mem_nil) (.cons (.tup ((e3.trans e4).sqT h2) (.cons (Dp_sb e24 _ _ (Gr.noList_tEnc _) hdx) (.cons (.int _) .nil))) .nil) ?_
    have xs0 := Gr.size_pos x2
    have e : 1 * (1 + x.2.1.2.size) ≤ m * (1 + x.2.1.2.size) := Int.mul_le_mul_of_nonneg_right m1 (by omega)
    exact deed_of ho (Gr.one_ok x1 x2 m1 m2) (by omega) hp (by show 1 + x.2.1.2.parts + 0 ≤ 61; omega) hd (by show max (1 + x.2.1.2.deep) 0 ≤ 13; omega) (by rw [Gr.size_one]; omega) fun z => absurd z gn
  rw [show decide (V.int r1 = V.int 2) = false from decide_eq_false fun z => w2 (V.int.inj z)]
  obtain ⟨ga, gs, ega, hga, hgb⟩ := GA_bears hv5
  refine iteF (nextI ⟨_, rfl, _, rfl, ga, gs, by rw [ega], .inr hga, fun L nL => ?_⟩)
  have e3 := SB.new (ps := []) nL (.lst gs)
  have h3 : upd H5 L (.lst gs) L = some (.lst gs) := upd_same
  generalize upd H5 L (.lst gs) = G3 at e3 h3
  refine ⟨by show 2 ≤ sizeLine; decide, fun T nT => ?_⟩
  have e4 := SB.new (ps := []) nT (.tup [v, .ref L])
  have e34 := e3.trans e4
  refine q T L v gs g g _ (s05.trans e34.nil) (SqT.of upd_same) (hv5.sb e34) (e4.keep _ _ h3 List.not_mem_nil) (hgb.sb e34 Gr.noList_pEnc) ?_
  have := Gr.size_pos1 ho gn
  exact deed_of ho ho (by omega) hp (by omega) hd (by omega) (by omega) fun z => absurd z gn
abbrev N__law_looked : List Str := ["_law_grove_here", "_law_rows", "_law_found", "_law_deep", "_law_place", "_law_tree", "_law_times", "_law_row"]
theorem sc__law_looked : FnScope N__law_looked ["_law_grove_here"] (defScope s__law_looked) := ⟨rfl, rfl, rfl, by decide +kernel, rfl, by decide +kernel, by decide +kernel⟩
theorem ok__law_looked {C_NoPlace : Addr} (B : BI mg) (G__law_all : Got P w K mg base "_law_all" ["_law_grove_here"] (1) (spAll20 K)) (G_size : Got P w K mg base "size" ["grove"] (20) (spSizeG K 20)) (G_deep_of : Got P w K mg base "deep_of" ["grove"] (20) (spDeepOf K 20)) (G_parts_of : Got P w K mg base "parts_of" ["grove"] (21) (spPartsOf K 20)) (G_tree_at : GotX P w K mg base "tree_at" ["grove", "place"] (2) (spTreeAt K C_NoPlace)) (G_bare_places : Got P w K mg base "bare_places" ["grove"] (20) (spBareP K 20)) (F : Fun K "_law_looked" "_law_looked" s__law_looked f fd) : FnOk P w K mg base CX0 (22) f fd ["_law_grove_here"] (spLooked20 K) := by
  refine F.ok sc__law_looked (fun vs H Q E h => ?_) (fun cdv A outer s H vs Q E hr h => ?_)
  · obtain ⟨v, g, rfl, _⟩ := h
    rfl
  obtain ⟨v, g, rfl, hv, ho, hd, hp, q⟩ := h
  have hun2 : A.units + 3 + 200 < cLine := by have := hr.un; have h3 : (A.deeper (envOfC "_law_looked" (defScope s__law_looked) s.heap.objs.size f cdv)).units = A.units + 3 := rfl; omega
  refine ⟨_, pss_cons (ps_set (i := 1) sc__law_looked.nd rfl (.inl rfl) (pe_got G__law_all (hr.mono (by omega)) rfl (pa_cons (pv 0) pa_nil)))
    (pss_cons (ps_set (i := 2) sc__law_looked.nd rfl (.inl rfl) (pe_lst (pa_cons (pe_got G_parts_of (hr.mono (by omega)) rfl (pa_cons (pv 0) pa_nil)) (pa_cons (pe_got G_deep_of (hr.mono (by omega)) rfl (pa_cons (pv 0) pa_nil)) (pa_cons (pe_got G_size (hr.mono (by omega)) rfl (pa_cons (pv 0) pa_nil)) pa_nil)))))
    (pss_cons (ps_set (i := 3) sc__law_looked.nd rfl (.inl rfl) (pe_callB (cr_max rfl) rfl B.max boot_max (pa_cons (pe_op op_cat (pe_lst (pa_cons pe_int pa_nil)) (pe_lc (own := [("_law_row", 7)]) (g := (gName 7)) (tt := tYes) (te := (tCB (fun xs H Q => ∃ p ys, xs = [.ref p] ∧ (SqL K H p ys ∨ SqT K H p ys) ∧ Q (.int ys.length) H) (tCons (tOp (rIxT K) (tVar 7) (tC (.int 0))) tNil))) rfl sc__law_looked.nd (pi_list (pv 1)) (blkOk_by (N := N__law_looked) (sc := defScope s__law_looked) (by decide +kernel)) (fun _ _ _ _ _ => (pg_name (i := 7) sc__law_looked.nd rfl (.inl rfl))) (fun _ _ _ _ _ => pts_nil) (fun _ _ _ _ _ => (pe_callB call_len_seq rfl B.len PySem.boot_len (pa_cons (pe_ix ix_tup (pv 7) pe_int (fun _ _ => rfl)) pa_nil))))) pa_nil)))
    (pss_cons (ps_if (pt_cmpR (op_neD (by show A.units + 3 + 64 < cLine; omega)) (pv 2) (pe_lst (pa_cons (pe_callB call_len_seq rfl B.len PySem.boot_len (pa_cons (pv 1) pa_nil)) (pa_cons (pv 3) (pa_cons (pe_callB (cr_sum rfl) rfl B.sum boot_sum (pa_cons (pe_lc (own := [("_law_row", 7)]) (g := (gName 7)) (tt := tYes) (te := (tOp (rIxT K) (tVar 7) (tC (.int 2)))) rfl sc__law_looked.nd (pi_list (pv 1)) (blkOk_by (N := N__law_looked) (sc := defScope s__law_looked) (by decide +kernel)) (fun _ _ _ _ _ => (pg_name (i := 7) sc__law_looked.nd rfl (.inl rfl))) (fun _ _ _ _ _ => pts_nil) (fun _ _ _ _ _ => (pe_ix ix_tup (pv 7) pe_int (fun _ _ => rfl)))) pa_nil)) pa_nil)))) (nomark _)) (pss_one (ps_ret pe_bl)) pss_nil)
    (pss_cons (ps_for PassesOwn.never rfl (pi_list (pv 1)) (pg_tup rfl (pgs_cons (pg_name (i := 4) sc__law_looked.nd rfl (.inl rfl)) (pgs_cons (pg_name (i := 5) sc__law_looked.nd rfl (.inl rfl)) (pgs_cons (pg_name (i := 6) sc__law_looked.nd rfl (.inl rfl)) pgs_nil))))
      (pss_one (ps_if (pt_cmpR (op_neD (by show A.units + 3 + 64 < cLine; omega)) (pe_gotX G_tree_at (hr.mono (by omega)) rfl (pa_cons (pv 0) (pa_cons (pv 4) pa_nil))) (pv 5) (nomark _)) (pss_one (ps_ret pe_bl)) pss_nil)))
    (pss_one (ps_ret (pe_cmpR (op_eqD (by show A.units + 3 + 64 < cLine; omega)) (pe_got G_bare_places (hr.mono (by omega)) rfl (pa_cons (pv 0) pa_nil)) (pe_lc (own := [("_law_row", 7)]) (g := (gName 7)) (tt := (tTest (tOp (rEqD K) (tOp (rIxT K) (tOp (rIxT K) (tVar 7) (tC (.int 1))) (tC (.int 1))) (tTup tNil)))) (te := (tOp (rIxT K) (tVar 7) (tC (.int 0)))) rfl sc__law_looked.nd (pi_list (pv 1)) (blkOk_by (N := N__law_looked) (sc := defScope s__law_looked) (by decide +kernel)) (fun _ _ _ _ _ => (pg_name (i := 7) sc__law_looked.nd rfl (.inl rfl))) (fun _ _ _ _ _ => (pts_one (pt_cmpR (op_eqD (by show A.units + 3 + 64 < cLine; omega)) (pe_ix ix_tup (pe_ix ix_tup (pv 7) pe_int (fun _ _ => rfl)) pe_int (fun _ _ => rfl)) (pe_tup pa_nil) (nomark _)))) (fun _ _ _ _ _ => (pe_ix ix_tup (pv 7) pe_int (fun _ _ => rfl)))) (nomark _)))))))), ?_⟩
  have szl := sizeLine_eq
  have hC : (2 : Int) ^ 170 ≤ 2 ^ 199 := by decide
  refine ⟨_, rfl, v, g, rfl, hv, ho, by omega, by omega, fun D us H1 s1 nD hD hbs => ?_⟩
  have usl := hbs.length
  rw [Gr.ar_len] at usl
  have hv1 := hv.sb s1
  refine ⟨_, rfl, v, g, rfl, hv1, by omega, by omega, fun H2 s2 => ?_⟩
  refine ⟨_, rfl, v, g, rfl, hv1.sb s2, by omega, by omega, fun H3 s3 => ?_⟩
  refine ⟨_, rfl, v, g, rfl, (hv1.sb s2).sb s3, by omega, by omega, ho.mono hC, fun H4 s4 => ?_⟩
  refine ⟨by show 3 ≤ sizeLine; decide, fun F nF => ?_⟩
  have e5 := SB.new (ps := []) nF (.lst [.int (g.parts : Nat), .int (g.deep : Nat), .int g.size])
  have hF : upd H4 F (.lst [.int (g.parts : Nat), .int (g.deep : Nat), .int g.size]) F = some (.lst [.int (g.parts : Nat), .int (g.deep : Nat), .int g.size]) := upd_same
  have s15 := ((s2.trans s3).trans s4).trans e5
  generalize upd H4 F (.lst [.int (g.parts : Nat), .int (g.deep : Nat), .int g.size]) = H5 at e5 hF s15
  have hD5 := s15.keep _ _ hD List.not_mem_nil
  have hbs5 := hbs.sb s15 arE_noList
  refine ⟨by show 1 ≤ sizeLine; decide, fun L0 n0 => ?_⟩
  have e6 := SB.new (ps := []) n0 (.lst [.int 0])
  have h0 : upd H5 L0 (.lst [.int 0]) L0 = some (.lst [.int 0]) := upd_same
  generalize upd H5 L0 (.lst [.int 0]) = H6 at e6 h0
  have hD6 := e6.keep _ _ hD5 List.not_mem_nil
  have hbs6 := hbs5.sb e6 arE_noList
  refine ⟨_, rfl, D, rfl, ⟨_, SqL.of hD6⟩, fun L1 n1 => ?_⟩
  refine lc_seqQ (walk_list (xs := us)) [] n1 (by simp) (by omega) (fun i us' _ => us' = (((g.ar 0 1).take i).map fun x => ((x.1.length : Nat) : Int)).map V.int) rfl (fun H3 s3 => s3.sqL List.not_mem_nil (SqL.of hD6)) (fun _ _ _ _ _ h => h) (fun Pv i x Hq H3 us' hi s3 y hR hu hE3 fin skip => ?_) (fun us' H7 s7 hL7 hR hul => ?_)
  · obtain ⟨rfl, ex⟩ := y
    obtain ⟨r, er, hr'⟩ := hbs6.get ex
    obtain ⟨ax, bx, ux, rfl, hax, hbx, _⟩ := Ar_parts (Dp_sb s3 _ _ (arE_noList _) hr')
    refine ⟨rfl, _, rfl, ax, _, _, _, rfl, rfl, hax, atI_nat (j := 0) rfl, bx, _, rfl, .inr hbx, fin _ _ SB.refl ?_⟩
    rw [hR, List.take_add_one, er, List.map_append, List.map_append, List.length_map]
    rfl
  rw [usl, ← Gr.ar_len g 0 1, List.take_length] at hR
  subst hR
  have h07 := s7.keep _ _ h0 List.not_mem_nil
  refine ⟨L0, L1, _, _, rfl, rfl, h07, hL7, by rw [List.length_map, List.length_map, Gr.ar_len]; show 1 + _ ≤ _; omega, fun C nC => ?_⟩
  have e8 := SB.new (ps := []) nC (.lst ([V.int 0] ++ ((g.ar 0 1).map fun x => ((x.1.length : Nat) : Int)).map V.int))
  have hC8 : upd H7 C (.lst ([V.int 0] ++ ((g.ar 0 1).map fun x => ((x.1.length : Nat) : Int)).map V.int)) C = some (.lst (((0 : Int) :: (g.ar 0 1).map fun x => ((x.1.length : Nat) : Int)).map V.int)) := upd_same
  generalize upd H7 C (.lst ([V.int 0] ++ ((g.ar 0 1).map fun x => ((x.1.length : Nat) : Int)).map V.int)) = H8 at e8 hC8
  refine ⟨C, _, rfl, SqL.of hC8, by simp, fun m hm hy => ?_⟩
  have em := Gr.ar_max ho hm hy
  subst em
  have s58 := (e6.trans s7).trans e8
  have hD8 := s58.keep _ _ hD5 List.not_mem_nil
  have hbs8 := hbs5.sb s58 arE_noList
  refine ⟨_, rfl, _, rfl, D, us, rfl, .inl (SqL.of hD8), _, rfl, _, rfl, D, rfl, ⟨_, SqL.of hD8⟩, fun L2 n2 => ?_⟩
  refine lc_seqQ (walk_list (xs := us)) [] n2 (by simp) (by omega) (fun i us' _ => us' = (((g.ar 0 1).take i).map fun x => x.2.2).map V.int) rfl (fun H3 s3 => s3.sqL List.not_mem_nil (SqL.of hD8)) (fun _ _ _ _ _ h => h) (fun Pv i x Hq H3 us' hi s3 y hR hu hE3 fin skip => ?_) (fun us' H9 s9 hL9 hR hul => ?_)
  · obtain ⟨rfl, ex⟩ := y
    obtain ⟨r, er, hr'⟩ := hbs8.get ex
    obtain ⟨ax, bx, ux, rfl, hax, hbx, _⟩ := Ar_parts (Dp_sb s3 _ _ (arE_noList _) hr')
    refine ⟨rfl, _, rfl, ax, _, _, _, rfl, rfl, hax, atI_nat (j := 2) rfl, fin _ _ SB.refl ?_⟩
    rw [hR, List.take_add_one, er, List.map_append, List.map_append]
    rfl
  rw [usl, ← Gr.ar_len g 0 1, List.take_length] at hR
  subst hR
  refine ⟨L2, _, rfl, SqL.of hL9, by show 3 ≤ sizeLine; decide, fun M nM => ?_⟩
  rw [Gr.ar_sum, Int.one_mul, usl]
  have e10 := SB.new (ps := []) nM (.lst [.int (g.parts : Nat), .int (g.deep : Nat), .int g.size])
  have s510 := (s58.trans s9).trans e10
  have p3 : plSs [.int (g.parts : Nat), .int (g.deep : Nat), .int g.size] = true := rfl
  have d3 : PyData.depthAll [.int (g.parts : Nat), .int (g.deep : Nat), .int g.size] ≤ 60 := by simp [PyData.depthAll, PyData.depth]
  refine ⟨.list [.int (g.parts : Nat), .int (g.deep : Nat), .int g.size], .list [.int (g.parts : Nat), .int (g.deep : Nat), .int g.size], .lst (SqL.of (s510.keep _ _ hF List.not_mem_nil)) (.cons (.int _) (.cons (.int _) (.cons (.int _) .nil))), .lst (SqL.of upd_same) (.cons (.int _) (.cons (.int _) (.cons (.int _) .nil))), plain_shaped p3 d3, plain_shaped p3 d3, ?_⟩
  rw [plain_eqv p3]
  refine ⟨_, rfl, iteF (nextI ?_)⟩
  generalize upd H9 M (.lst [.int (g.parts : Nat), .int (g.deep : Nat), .int g.size]) = H10 at e10 s510
  have s110 := s15.trans s510
  have s010 := s1.trans s110
  have hD10 := s110.keep _ _ hD List.not_mem_nil
  have hbs10 := hbs.sb s110 arE_noList
  have hv10 := hv1.sb s110
  refine ⟨_, rfl, D, rfl, ⟨_, SqL.of hD10⟩, ?_⟩
  refine for_it (walk_list (xs := us)) (fun i σ H11 => SB [] H10 H11 ∧ ∃ o4 o5 o6 : Option V, σ = [some v, some (.ref D), some (.ref F), some (.int (g.deep : Nat)), o4, o5, o6, none]) ⟨SB.refl, _, _, _, rfl⟩ (fun i σ H11 hi h => by obtain ⟨s, _⟩ := h; exact SqL.of (s.keep _ _ hD10 List.not_mem_nil)) (fun i x σ H12 H11 hi h yy => ?_) (fun σ H11 h => ?_)
  · obtain ⟨s11, o4, o5, o6, rfl⟩ := h
    obtain ⟨rfl, ex⟩ := yy
    obtain ⟨r, er, hr'⟩ := hbs10.get ex
    obtain ⟨ax, bx, ux, rfl, hax, hbx, hux⟩ := Ar_parts (Dp_sb s11 _ _ (arE_noList _) hr')
    have rm := List.mem_of_getElem? er
    obtain ⟨r1, r2, r3, r4⟩ := Gr.ar_ok 0 1 ho r rm
    obtain ⟨rne, rat⟩ := Gr.ar_at (G := g) g 0 1 rfl r rm
    refine ⟨ax, _, rfl, hax, rfl, _, _, rfl, _, _, rfl, _, _, rfl, rfl, ?_⟩
    refine ⟨_, rfl, _, rfl, v, g, bx, _, plO r.1, rfl, hv10.sb s11, hbx, Whs.pl K _ r.1, fun t _ ht x H12 s12 hx => ?_, fun z => ?_⟩
    · have e := rat.symm.trans ht
      cases e
      refine ⟨_, rfl, Gr.tEnc r.2.1, Gr.tEnc r.2.1, hx, Dp_sb s12 _ _ (Gr.noList_tEnc _) hux, Gr.shaped_tEnc r1 r2 (by omega), Gr.shaped_tEnc r1 r2 (by omega), ?_⟩
      rw [Orderly.eq (enc := Gr.tEnc), decide_eq_true rfl]
      exact ⟨_, rfl, iteF ⟨s11.trans s12, _, _, _, rfl⟩⟩
    · rcases z with z | z
      · exact absurd z rne
      · rw [rat] at z; cases z
  · obtain ⟨s11, o4, o5, o6, rfl⟩ := h
    have s111 := s110.trans s11
    refine ⟨_, rfl, v, g, rfl, hv1.sb s111, by omega, by omega, by omega, fun B bs H12 s12 nB hB hbb => ?_⟩
    have s112 := s111.trans s12
    have hD12 := s112.keep _ _ hD List.not_mem_nil
    have hbs12 := hbs.sb s112 arE_noList
    refine ⟨_, rfl, D, rfl, ⟨_, SqL.of hD12⟩, fun L3 n3 => ?_⟩
    refine lc_seqQ (walk_list (xs := us)) [] n3 (by simp) (by omega) (fun i us' Hx => Bears K Hx plEnc us' ((((g.ar 0 1).take i).filter fun x : Rw => decide (x.2.1.2 = Gr.nil)).map fun x : Rw => x.1)) .nil (fun H3 s3 => s3.sqL List.not_mem_nil (SqL.of hD12)) (fun i us' Ha Hb s h => h.sb s pl_noList) (fun Pv i x Hq H3 us' hi s3 y hR hu hE3 fin skip => ?_) (fun us' H13 s13 hL13 hR hul => ?_)
    · obtain ⟨rfl, ex⟩ := y
      obtain ⟨r, er, hr'⟩ := hbs12.get ex
      obtain ⟨ax, bx, ux, rfl, hax, hbx, hux⟩ := Ar_parts (Dp_sb s3 _ _ (arE_noList _) hr')
      obtain ⟨a2, u2, eu, h2, h2g⟩ := TA_parts hux
      cases eu
      have rm := List.mem_of_getElem? er
      obtain ⟨r1, r2, r3, r4⟩ := Gr.ar_ok 0 1 ho r rm
      refine ⟨rfl, _, rfl, ax, _, _, _, rfl, rfl, hax, atI_nat (j := 1) rfl, ux, _, _, _, rfl, rfl, h2, atI_nat (j := 1) rfl, by show 0 ≤ sizeLine; decide, fun en nen => ?_⟩
      have f1 := SB.new (ps := []) nen (.tup [])
      have hen : SqT K (upd H3 en (.tup [])) en [] := SqT.of upd_same
      generalize upd H3 en (.tup []) = H14 at f1 hen
      refine ⟨r.2.1.2.enc, .tuple [], h2g.sb f1, .tup hen .nil, Gr.shaped_enc r2 (by omega), by decide +kernel, ?_⟩
      rw [Gr.enc_eq_nil]
      have est : ((((g.ar 0 1).take (i + 1)).filter fun x : Rw => decide (x.2.1.2 = Gr.nil)).map fun x : Rw => x.1) = ((((g.ar 0 1).take i).filter fun x : Rw => decide (x.2.1.2 = Gr.nil)).map fun x : Rw => x.1) ++ (if r.2.1.2 = .nil then [r.1] else []) := by
        rw [List.take_add_one, er, List.filter_append, List.map_append]
        congr 1
        by_cases h : r.2.1.2 = .nil
        · rw [if_pos h]; simp [List.filter_cons, h]
        · rw [if_neg h]; simp [List.filter_cons, h]
      by_cases h : r.2.1.2 = .nil
      · rw [decide_eq_true h]
        refine ⟨_, rfl, iteT ⟨_, rfl, ax, _, _, _, rfl, rfl, f1.sqT hax, atI_nat (j := 0) rfl, fin _ _ f1 ?_⟩⟩
        rw [est, if_pos h]
        exact (hR.sb f1 pl_noList).append (.cons (PL_of (f1.sqT hbx)) .nil)
      · rw [decide_eq_false h]
        refine ⟨_, rfl, iteF (skip _ f1 ?_)⟩
        rw [est, if_neg h, List.append_nil]
        exact hR.sb f1 pl_noList
    rw [usl, ← Gr.ar_len g 0 1, List.take_length, Gr.ar_bare] at hR
    refine ⟨.list ((g.bp 0).map plEnc), .list ((g.bp 0).map plEnc), .lst (SqL.of (s13.keep _ _ hB List.not_mem_nil)) (Bears_dp (hbb.sb s13 pl_noList)), .lst (SqL.of hL13) (Bears_dp hR), pls_shaped _, pls_shaped _, ?_⟩
    rw [pls_eqv]
    exact q _ ((s1.trans s112).trans s13)
abbrev N__law_written : List Str := ["_law_grove_here", "_law_texts", "_law_text", "_law_found"]
theorem sc__law_written : FnScope N__law_written ["_law_grove_here", "_law_texts"] (defScope s__law_written) := ⟨rfl, rfl, rfl, by decide +kernel, rfl, by decide +kernel, by decide +kernel⟩
theorem ok__law_written {C_NoGrove : Addr} (B : BI mg) (G_show_grove : Got P w K mg base "show_grove" ["grove"] (61) (spShowG K 20)) (G_read_grove : GotX P w K mg base "read_grove" ["text"] (100) (spReadG K C_NoGrove)) (G__law_plain : Got P w K mg base "_law_plain" ["_law_thing"] (1) (spPlainG K)) (F : Fun K "_law_written" "_law_written" s__law_written f fd) : FnOk P w K mg base CX0 (101) f fd ["_law_grove_here", "_law_texts"] (spWritten20 K) := by
  refine F.ok sc__law_written (fun vs H Q E h => ?_) (fun cdv A outer s H vs Q E hr h => ?_)
  · obtain ⟨v, l, ts, g, rfl, _⟩ := h
    rfl
  obtain ⟨v, l, ts, g, rfl, hv, ho, hd, hp, hl, tl8, q⟩ := h
  have hun2 : A.units + 3 + 200 < cLine := by have := hr.un; have h3 : (A.deeper (envOfC "_law_written" (defScope s__law_written) s.heap.objs.size f cdv)).units = A.units + 3 := rfl; omega
  refine ⟨_, pss_cons (ps_set (i := 2) sc__law_written.nd rfl (.inl rfl) (pe_got G_show_grove (hr.mono (by omega)) rfl (pa_cons (pv 0) pa_nil)))
    (pss_cons (ps_if (pt_not (pt_val (pe_isi B (pv 2) B.str boot_str))) (pss_one (ps_ret pe_bl)) pss_nil)
    (pss_cons (ps_expr (pe_bm PySem.F.plainAttrs_list PySem.F.slot_list_append PySem.F.type_list_append mt_append (pv 1) (pa_cons (pv 2) pa_nil)))
    (pss_cons (ps_if (pt_cmpR op_gt (pe_callB call_len_str rfl B.len PySem.boot_len (pa_cons (pv 2) pa_nil)) pe_int (nomark _)) (pss_one (ps_ret pe_bl)) pss_nil)
    (pss_cons (ps_set (i := 3) sc__law_written.nd rfl (.inl rfl) (pe_gotX G_read_grove (hr.mono (by omega)) rfl (pa_cons (pv 2) pa_nil)))
    (pss_one (ps_ret (pe_and (pe_got G__law_plain (hr.mono (by omega)) rfl (pa_cons (pv 3) pa_nil)) (pe_one (pe_cmpR (op_eqD (by show A.units + 3 + 64 < cLine; omega)) (pv 3) (pv 0) (nomark _)))))))))), ?_⟩
  have szl := sizeLine_eq
  refine ⟨_, rfl, v, g, rfl, hv, by omega, ho.mono (by decide), by omega, fun z H1 s1 hz => ?_⟩
  have hsh : Shows z g := ⟨hz, ho, hp, hd⟩
  have zl := hsh.len
  refine ⟨_, rfl, _, "str", "str", true, rfl, .base (.str _), by decide +kernel, _, rfl, iteF (nextI ?_)⟩
  have hl1 := s1.keep _ _ hl List.not_mem_nil
  refine ⟨_, rfl, .inl ⟨rfl, _, SqL.of hl1⟩, _, rfl, l, _, _, rfl, rfl, hl1, by rw [List.length_map]; omega, ?_⟩
  have t2 := SB.set (ps := [l]) hl1 (by simp) (.lst (ts.map V.str ++ [V.str z]))
  have hl2 : upd H1 l (.lst (ts.map V.str ++ [V.str z])) l = some (.lst ((ts ++ [z]).map V.str)) := by rw [upd_same, List.map_append]; rfl
  have s2 : SB [l] H _ := s1.nil.trans t2
  generalize upd H1 l (.lst (ts.map V.str ++ [V.str z])) = H2 at t2 hl2 s2
  refine ⟨_, rfl, z, rfl, by omega, _, _, rfl, rfl, _, rfl, ?_⟩
  by_cases h4 : 4000 < z.length
  · rw [show decide ((4000 : Int) < (z.length : Nat)) = true from decide_eq_true (by omega)]
    exact iteT (q z _ s2 hz hl2)
  rw [show decide ((4000 : Int) < (z.length : Nat)) = false from decide_eq_false (by omega)]
  refine iteF (nextI ?_)
  refine ⟨_, rfl, z, rfl, .inr ⟨g, hsh⟩, fun g' h' x H3 s3 hx => ?_, fun hno => absurd hsh (hno g)⟩
  rw [hsh.inj h'] at hx
  have nd := Gr.nodes_encs g
  have ed := Gr.encs_depth g
  refine ⟨_, rfl, x, g.encs, rfl, hx, Gr.plSs_encs ho, by omega, by omega, fun H4 s4 => ⟨_, rfl, iteT ?_⟩⟩
  have s34 := s3.trans s4
  refine ⟨_, rfl, _, rfl, g.enc, g.enc, hx.sb s4, hv.sb (s2.trans s34.nil), Gr.shaped_enc ho (by omega), Gr.shaped_enc ho (by omega), ?_⟩
  rw [Gr.eqvT rfl]
  exact q z _ (s2.trans s34.nil) hz (s34.keep _ _ hl2 List.not_mem_nil)
abbrev N_law : List Str := ["_law_script", "_law_names_here", "_law_grove_here", "_law_texts", "_law_k", "_law_first", "_law_some", "_law_next", "_law_found", "_law_row"]
theorem sc_law : FnScope N_law ["_law_script"] (defScope s_law) := ⟨rfl, rfl, rfl, by decide +kernel, rfl, by decide +kernel, by decide +kernel⟩
theorem ok_law {C_NoGrove : Addr} (B : BI mg) (G__law_names : Got P w K mg base "_law_names" ["_law_purse_here"] (2) (spNamesG K)) (G__law_purse : Got P w K mg base "_law_purse" ["_law_script", "_law_k"] (1) (spPurseG K)) (G__law_deed : Got P w K mg base "_law_deed" ["_law_grove_here", "_law_purse_here", "_law_names_here"] (2) (spDeed20 K)) (G__law_put : Got P w K mg base "_law_put" ["_law_grove_here", "_law_some"] (1) (spPut20 K)) (G__law_all : Got P w K mg base "_law_all" ["_law_grove_here"] (1) (spAll20 K)) (G_together : Got P w K mg base "together" ["one", "other"] (2) (spTogether K)) (G_grove_of : GotX P w K mg base "grove_of" ["some"] (64) (spGroveOf K C_NoGrove)) (G__law_plain : Got P w K mg base "_law_plain" ["_law_thing"] (1) (spPlainG K)) (G_is_grove : Got P w K mg base "is_grove" ["thing"] (84) (spIsGrove K 81)) (G__law_looked : Got P w K mg base "_law_looked" ["_law_grove_here"] (22) (spLooked20 K)) (G__law_written : Got P w K mg base "_law_written" ["_law_grove_here", "_law_texts"] (101) (spWritten20 K)) (F : Fun K "law" "law" s_law f fd) : FnOk P w K mg base CX0 (106) f fd ["_law_script"] (spLaw K) := by
  refine F.ok sc_law (fun vs H Q E h => ?_) (fun cdv A outer s H vs Q E hr h => ?_)
  · obtain ⟨a, ns, rfl, _⟩ := h
    rfl
  obtain ⟨a, ns, rfl, hs, nl, q⟩ := h
  have hun2 : A.units + 3 + 200 < cLine := by have := hr.un; have h3 : (A.deeper (envOfC "law" (defScope s_law) s.heap.objs.size f cdv)).units = A.units + 3 := rfl; omega
  refine ⟨_, pss_cons (ps_set (i := 1) sc_law.nd rfl (.inl rfl) (pe_got G__law_names (hr.mono (by omega)) rfl (pa_cons (pe_got G__law_purse (hr.mono (by omega)) rfl (pa_cons (pv 0) (pa_cons pe_int pa_nil))) pa_nil)))
    (pss_cons (ps_set (i := 2) sc_law.nd rfl (.inl rfl) (pe_tup pa_nil))
    (pss_cons (ps_set (i := 3) sc_law.nd rfl (.inl rfl) (pe_lst (pa_cons pe_str pa_nil)))
    (pss_cons (ps_for PassesOwn.never rfl (pi_range2 rfl B.range (pa_cons pe_int (pa_cons (pe_callB (call_max2 rfl) rfl B.max boot_max (pa_cons pe_int (pa_cons (pe_callB (call_min2 rfl) rfl B.min boot_min (pa_cons (pe_callB call_len_seq rfl B.len PySem.boot_len (pa_cons (pv 0) pa_nil)) (pa_cons pe_int pa_nil))) pa_nil))) pa_nil))) (pg_name (i := 4) sc_law.nd rfl (.inl rfl))
      (pss_cons (ps_asg (pe_got G__law_deed (hr.mono (by omega)) rfl (pa_cons (pv 2) (pa_cons (pe_got G__law_purse (hr.mono (by omega)) rfl (pa_cons (pv 0) (pa_cons (pv 4) pa_nil))) (pa_cons (pv 1) pa_nil)))) (pg_tup rfl (pgs_cons (pg_name (i := 5) sc_law.nd rfl (.inl rfl)) (pgs_cons (pg_name (i := 6) sc_law.nd rfl (.inl rfl)) pgs_nil))))
    (pss_cons (ps_set (i := 7) sc_law.nd rfl (.inl rfl) (pe_got G__law_put (hr.mono (by omega)) rfl (pa_cons (pv 5) (pa_cons (pv 6) pa_nil))))
    (pss_cons (ps_if (PW.pt (pw_or (pt_cmpR op_gt (pe_callB call_len_seq rfl B.len PySem.boot_len (pa_cons (pe_got G__law_all (hr.mono (by omega)) rfl (pa_cons (pv 7) pa_nil)) pa_nil)) pe_int (nomark _)) (pw_or1 (pt_cmpR op_gt (pe_callB (cr_max rfl) rfl B.max boot_max (pa_cons (pe_lc (own := [("_law_row", 9)]) (g := (gName 9)) (tt := tYes) (te := (tCB (fun xs H Q => ∃ p ys, xs = [.ref p] ∧ (SqL K H p ys ∨ SqT K H p ys) ∧ Q (.int ys.length) H) (tCons (tOp (rIxT K) (tVar 9) (tC (.int 0))) tNil))) rfl sc_law.nd (pi_list (pe_got G__law_all (hr.mono (by omega)) rfl (pa_cons (pv 7) pa_nil))) (blkOk_by (N := N_law) (sc := defScope s_law) (by decide +kernel)) (fun _ _ _ _ _ => (pg_name (i := 9) sc_law.nd rfl (.inl rfl))) (fun _ _ _ _ _ => pts_nil) (fun _ _ _ _ _ => (pe_callB call_len_seq rfl B.len PySem.boot_len (pa_cons (pe_ix ix_tup (pv 9) pe_int (fun _ _ => rfl)) pa_nil)))) pa_nil)) pe_int (nomark _))))) (pss_one ps_continue) pss_nil)
    (pss_cons (ps_set (i := 8) sc_law.nd rfl (.inl rfl) (pe_got G_together (hr.mono (by omega)) rfl (pa_cons (pv 5) (pa_cons (pe_gotX G_grove_of (hr.mono (by omega)) rfl (pa_cons (pv 6) pa_nil)) pa_nil))))
    (pss_cons (ps_if (PW.pt (pw_or (pt_not (pt_val (pe_got G__law_plain (hr.mono (by omega)) rfl (pa_cons (pv 8) pa_nil)))) (pw_or (pt_cmpR (op_neD (by show A.units + 3 + 64 < cLine; omega)) (pv 8) (pv 7) (nomark _)) (pw_or1 (pt_cmpR op_isnot_bl (pe_got G_is_grove (hr.mono (by omega)) rfl (pa_cons (pv 8) pa_nil)) pe_bl (nomark _)))))) (pss_one (ps_ret pe_bl)) pss_nil)
    (pss_cons (ps_set (i := 2) sc_law.nd rfl (.inl rfl) (pv 7))
    (pss_cons (ps_if (pt_not (pt_val (pe_got G__law_looked (hr.mono (by omega)) rfl (pa_cons (pv 2) pa_nil)))) (pss_one (ps_ret pe_bl)) pss_nil)
    (pss_one (ps_if (PW.pt (pw_and (pt_cmpR op_eq (pe_op op_mod (pv 4) pe_int) pe_int (nomark _)) (pw_and1 (PW.pt (pw_or (pt_not (pt_val (pe_got G__law_written (hr.mono (by omega)) rfl (pa_cons (pv 2) (pa_cons (pv 3) pa_nil))))) (pw_or1 (pt_cmpR op_eq (pe_ix ix_list (pv 3) (pe_un un_neg pe_int) (fun _ _ => rfl)) (pe_ix ix_list (pv 3) (pe_un un_neg pe_int) (fun _ _ => rfl)) (nomark _)))))))) (pss_one (ps_ret pe_bl)) pss_nil))))))))))
    (pss_one (ps_ret (pe_and (pe_got G__law_written (hr.mono (by omega)) rfl (pa_cons (pv 2) (pa_cons (pv 3) pa_nil))) (pe_one (pe_cmpR op_notIn_seq pe_str (pe_slice sl_list (pv 3) (po_some pe_int) po_none) (by rfl))))))))), ?_⟩
  have szl := sizeLine_eq
  refine ⟨_, rfl, a, ns, 1, rfl, hs, nl, by omega, fun p H1 s1 np hp => ?_⟩
  refine ⟨p, rfl, hp, fun nm ks H2 s2 hp2 nn hnm k1 k8 kn => ?_⟩
  have s02 : SB [] H H2 := (s1.nil.trans s2).drop np
  refine ⟨by show 0 ≤ sizeLine; decide, fun g0 n0 => ?_⟩
  have e1 := SB.new (ps := []) n0 (.tup [])
  have h0 : SqT K (upd H2 g0 (.tup [])) g0 [] := SqT.of upd_same
  generalize upd H2 g0 (.tup []) = H3 at e1 h0
  refine ⟨by show 1 ≤ sizeLine; decide, fun T nT => ?_⟩
  have e2 := SB.new (ps := []) nT (.lst [.str (Str.ofString "-")])
  have hT : upd H3 T (.lst [.str (Str.ofString "-")]) T = some (.lst (([] ++ [Str.ofString "-"]).map V.str)) := upd_same
  have nT0 := (s02.trans e1).dom _ nT
  have s04 := (s02.trans e1).trans e2
  have hnm4 := (e1.trans e2).keep _ _ hnm List.not_mem_nil
  have hg4 : GA K (upd H3 T (.lst [.str (Str.ofString "-")])) (.ref g0) .nil := GA_nil (e2.sqT h0)
  generalize upd H3 T (.lst [.str (Str.ofString "-")]) = H4 at e2 hT s04 hnm4 hg4
  have nmT : nm ≠ T := fun z => by
    have := e1.keep _ _ hnm List.not_mem_nil
    rw [z, nT] at this; cases this
  clear s1 s2 hp hp2 np e1 e2 h0
  have hM : ∀ L : Int, ∃ M : Int, (if (if (63 : Int) < L then 63 else L) > 14 then (if (63 : Int) < L then 63 else L) else 14) = M ∧ 14 ≤ M ∧ M ≤ 63 := fun L => by
    refine ⟨_, rfl, ?_⟩
    by_cases h1 : (63 : Int) < L
    · rw [if_pos h1, if_pos (by decide)]; decide
    · rw [if_neg h1]
      by_cases h2 : L > 14
      · rw [if_pos h2]; omega
      · rw [if_neg h2]; omega
  obtain ⟨M, eM, m1, m2⟩ := hM (((ns.map V.int).length : Nat) : Int)
  refine ⟨_, rfl, a, ns.map V.int, rfl, .inl (s04.sqL List.not_mem_nil hs), _, _, rfl, _, _, rfl, 2, M, congrArg (fun z => [V.int 2, V.int z]) eM, ⟨by decide, by decide, by omega, by omega⟩, ?_⟩
  refine for_it (walk_range (lo := 2) (n := (M - 2).toNat)) (fun j σ G => SB [T] H4 G ∧ ∃ (gv : V) (g gl : Gr) (ts : List Str) (z : Str) (o4 o5 o6 o7 o8 : Option V), σ = [some (.ref a), some (.ref nm), some gv, some (.ref T), o4, o5, o6, o7, o8, none] ∧ (GA K G gv g ∧ g.Ok (10 ^ 31 * 2 ^ j) ∧ g.deep ≤ 12 ∧ g.parts ≤ 60 ∧ (j = 0 ∨ g ≠ .nil)) ∧ G T = some (.lst ((ts ++ [z]).map V.str)) ∧ ts.length ≤ j ∧ (tl z = gl.text ∧ gl.Ok (10 ^ 60) ∧ gl.parts ≤ 60 ∧ gl.deep ≤ 12 ∧ gl.size ≤ g.size) ∧ ∀ y ∈ (ts ++ [z]).drop 1, y ≠ Str.ofString "-")
    ⟨SB.refl, .ref g0, .nil, .nil, [], Str.ofString "-", none, none, none, none, none, rfl, ⟨hg4, trivial, Nat.zero_le _, Nat.zero_le _, .inl rfl⟩, hT, Nat.le_refl _, ⟨by decide +kernel, trivial, Nat.zero_le _, Nat.zero_le _, Int.le_refl _⟩, fun y hy => nomatch hy⟩ (fun _ _ _ _ _ => trivial) (fun j x σ G' G hj h yy => ?_) (fun σ G h => ?_)
  · obtain ⟨u, gv, g, gl, ts, z, o4, o5, o6, o7, o8, rfl, ⟨hg, go, gd, gp, gnn⟩, hTG, tsl, ⟨zt, glo, glp, gld, gls⟩, hz⟩ := h
    obtain ⟨rfl, rfl⟩ := yy
    have hj61 : j ≤ 60 := by omega
    have two : (2 : Int) ^ j ≤ 2 ^ 60 := by exact_mod_cast Nat.pow_le_pow_right (n := 2) (by decide) hj61
    have two1 : (1 : Int) ≤ 2 ^ j := by exact_mod_cast Nat.one_le_two_pow
    have C1 : (10 : Int) ^ 31 ≤ 10 ^ 31 * 2 ^ j := by omega
    have C2 : (10 : Int) ^ 31 * 2 ^ j ≤ 2 ^ 168 := Int.le_trans (Int.mul_le_mul_of_nonneg_left two (by decide)) (by decide)
    have C3 : (10 : Int) ^ 31 * 2 ^ (j + 1) = 2 * (10 ^ 31 * 2 ^ j) := by rw [Int.pow_succ]; omega
    have u0 : SB [] H G := (s04.nil.trans u).drop nT0
    refine ⟨_, rfl, _, rfl, _, rfl, a, ns, 2 + j, (by show [V.ref a, V.int (2 + (j : Int))] = _; rw [show (2 : Int) + (j : Int) = ((2 + j : Nat) : Int) by omega]), u0.sqL List.not_mem_nil hs, nl, by omega, fun p G1 u1 np hp => ?_⟩
    have hnmG := u.keep _ _ hnm4 (by simpa using nmT)
    have hnm1 := u1.keep _ _ hnmG List.not_mem_nil
    have nmp : nm ≠ p := fun z => by rw [z, np] at hnmG; cases hnmG
    refine ⟨_, rfl, gv, p, nm, g, ks, _, rfl, hg.sb u1, hp, hnm1, nmp, k1, k8, kn, go, C1, Int.le_trans C2 (by decide), gp, gd, fun T1 L x us g1 kk G2 u2 hT1 hx hL hbk hde => ?_⟩
    have u12 : SB [] G G2 := (u1.nil.trans u2).drop np
    have p1 := hde.p1
    have pk := hde.pk
    have d1 := hde.d1
    have dk := hde.dk
    have lg1 := g1.len_parts
    have lkk := kk.len_parts
    have tp := Gr.tgt_parts g1 kk
    have td := Gr.tgt_deep (n := 13) (g := g1) (k := kk) (by omega) dk
    have tok := hde.ok
    have C2' : 2 * ((10 : Int) ^ 31 * 2 ^ j) ≤ 2 ^ 170 := by omega
    have tokB := tok.mono C2'
    have npos : (Gr.tgt g1 kk) ≠ .nil := fun e => by
      have h1 := hde.more
      rw [e] at h1
      have := Gr.size_pos go
      exact absurd h1 (by show ¬ g.size < 0; omega)
    refine ⟨T1, _, rfl, hT1, rfl, _, _, rfl, _, _, rfl, rfl, ?_⟩
    refine ⟨_, rfl, _, rfl, x, L, us, g1, kk.ps, rfl, hx, hL, hbk, by omega, ⟨10 ^ 31 * 2 ^ j, fun q hq => ?_⟩, fun nx G3 u3 hnx => ?_⟩
    · rcases List.mem_append.mp hq with hq | hq
      · obtain ⟨a1, a2, _, _⟩ := Gr.ok_mem hde.ok1 hq
        have := g1.mem_deep q hq
        exact ⟨a1, a2, by omega⟩
      · obtain ⟨a1, a2, _, _⟩ := Gr.ok_mem hde.okk hq
        have := kk.mem_deep q hq
        exact ⟨a1, a2, by omega⟩
    have hnx : GA K G3 nx (Gr.tgt g1 kk) := hnx
    have cont : ∀ (G9 : Hp), SB [] G G9 → g ≠ .nil → ∀ o4 o5 o6 o7 o8 : Option V, SB [T] H4 G9 ∧ ∃ (gv' : V) (g' gl' : Gr) (ts' : List Str) (z' : Str) (o4' o5' o6' o7' o8' : Option V), ([some (.ref a), some (.ref nm), some gv, some (.ref T), o4, o5, o6, o7, o8, none] : L2.St) = [some (.ref a), some (.ref nm), some gv', some (.ref T), o4', o5', o6', o7', o8', none] ∧ (GA K G9 gv' g' ∧ g'.Ok (10 ^ 31 * 2 ^ (j + 1)) ∧ g'.deep ≤ 12 ∧ g'.parts ≤ 60 ∧ (j + 1 = 0 ∨ g' ≠ .nil)) ∧ G9 T = some (.lst ((ts' ++ [z']).map V.str)) ∧ ts'.length ≤ j + 1 ∧ (tl z' = gl'.text ∧ gl'.Ok (10 ^ 60) ∧ gl'.parts ≤ 60 ∧ gl'.deep ≤ 12 ∧ gl'.size ≤ g'.size) ∧ ∀ y ∈ (ts' ++ [z']).drop 1, y ≠ Str.ofString "-" := by
      intro G9 v hgn o4 o5 o6 o7 o8
      exact ⟨u.trans v.nil, gv, g, gl, ts, z, _, _, _, _, _, rfl, ⟨hg.sb v, go.mono (by omega), gd, gp, .inr hgn⟩, v.keep _ _ hTG List.not_mem_nil, by omega, ⟨zt, glo, glp, gld, gls⟩, hz⟩
    refine ⟨_, rfl, nx, _, rfl, hnx, tokB, td, by omega, fun D1 us1 G4 u4 nD1 hD1 hb1 => ?_⟩
    have ul1 := hb1.length
    rw [Gr.ar_len] at ul1
    refine ⟨D1, us1, rfl, .inl (SqL.of hD1), _, _, rfl, rfl, _, rfl, ?_⟩
    have v4 := (u12.trans u3).trans u4
    by_cases h60 : 60 < (Gr.tgt g1 kk).parts
    · rw [show decide ((60 : Int) < (us1.length : Nat)) = true from decide_eq_true (by omega)]
      have e0 : g = .nil → g1.parts = 0 ∧ kk.parts ≤ 1 := fun e => by
        obtain ⟨ha, hb⟩ := hde.small e
        exact ⟨by rw [ha]; rfl, hb⟩
      exact iteT (cont _ v4 (fun e => by have := e0 e; omega) _ _ _ _ _)
    rw [show decide ((60 : Int) < (us1.length : Nat)) = false from decide_eq_false (by omega)]
    refine iteF ⟨_, rfl, nx, _, rfl, hnx.sb u4, tokB, td, by omega, fun D2 us2 G5 u5 nD2 hD2 hb2 => ?_⟩
    have ul2 := hb2.length
    rw [Gr.ar_len] at ul2
    refine ⟨D2, rfl, ⟨_, SqL.of hD2⟩, fun L5 nL5 => ?_⟩
    refine lc_seqQ (walk_list (xs := us2)) [] nL5 (by simp) (by omega) (fun i us' _ => us' = ((((Gr.tgt g1 kk).ar 0 1).take i).map fun x => ((x.1.length : Nat) : Int)).map V.int) rfl (fun H3 s3 => s3.sqL List.not_mem_nil (SqL.of hD2)) (fun _ _ _ _ _ h => h) (fun Pv i x Hq H3 us' hi s3 y hR hu hE3 fin skip => ?_) (fun us' G6 u6 hL6 hR hul => ?_)
    · obtain ⟨rfl, ex⟩ := y
      obtain ⟨r, er, hr'⟩ := hb2.get ex
      obtain ⟨ax, bx, ux, rfl, hax, hbx, _⟩ := Ar_parts (Dp_sb s3 _ _ (arE_noList _) hr')
      refine ⟨rfl, _, rfl, ax, _, _, _, rfl, rfl, hax, atI_nat (j := 0) rfl, bx, _, rfl, .inr hbx, fin _ _ SB.refl ?_⟩
      rw [hR, List.take_add_one, er, List.map_append, List.map_append, List.length_map]
      rfl
    rw [ul2, ← Gr.ar_len (Gr.tgt g1 kk) 0 1, List.take_length] at hR
    subst hR
    have v6 := (v4.trans u5).trans u6
    refine ⟨L5, _, rfl, SqL.of hL6, ?_, fun m hm hy => ?_⟩
    · rw [List.length_map, Gr.ar_len]
      cases e : Gr.tgt g1 kk with
      | nil => exact absurd e npos
      | cons a b c d => show 0 < 1 + b.parts + d.parts; omega
    have em : m = ((Gr.tgt g1 kk).deep : Nat) := by
      refine Gr.ar_max tok (List.mem_cons_of_mem _ hm) fun y hy' => ?_
      rcases List.mem_cons.mp hy' with e | e
      · rw [e]
        obtain ⟨w, _, rfl⟩ := List.mem_map.mp hm
        exact Int.natCast_nonneg _
      · exact hy y e
    subst em
    refine ⟨_, _, rfl, rfl, _, rfl, ?_⟩
    by_cases h12 : 12 < (Gr.tgt g1 kk).deep
    · rw [show decide ((12 : Int) < ((Gr.tgt g1 kk).deep : Nat)) = true from decide_eq_true (by omega)]
      refine iteT (cont _ v6 (fun e => ?_) _ _ _ _ _)
      obtain ⟨ha, hb⟩ := hde.small e
      have e0 : g1.parts = 0 := by rw [ha]; rfl
      have := Gr.deep_parts (Gr.tgt g1 kk)
      omega
    rw [show decide ((12 : Int) < ((Gr.tgt g1 kk).deep : Nat)) = false from decide_eq_false (by omega)]
    refine iteF (nextI ?_)
    have v26 := ((u3.trans u4).trans u5).trans u6
    refine ⟨_, rfl, _, rfl, L, us, rfl, SqL.of (v26.keep _ _ hL List.not_mem_nil), .inl ⟨kk.ps, 10 ^ 31 * 2 ^ j, hbk.sb v26 Gr.noList_pEnc, by omega, fun q hq => ?_, fun y G7 u7 hy => ?_⟩⟩
    · obtain ⟨a1, a2, a3, _⟩ := Gr.ok_mem hde.okk hq
      have := kk.mem_deep q hq
      have := kk.mem_parts q hq
      exact ⟨a1, a2, a3, by omega, by omega⟩
    rw [Gr.tidy_self hde.okk] at hy
    refine ⟨x, y, g1, kk, rfl, (hx.sb v26).sb u7, hy, ⟨_, hde.ok1, hde.okk⟩, by omega, by omega, by omega, by omega, fun fd G8 u8 hfd => ?_⟩
    have hfd : GA K G8 fd (Gr.tgt g1 kk) := hfd
    have nd := Gr.nodes_encs (Gr.tgt g1 kk)
    have ed := Gr.encs_depth (Gr.tgt g1 kk)
    refine ⟨_, rfl, fd, _, rfl, hfd, Gr.plSs_encs tok, by omega, by omega, fun G9 u9 => ⟨_, rfl, iteF ?_⟩⟩
    have v39 := (((((u4.trans u5).trans u6).trans u7).trans u8).trans u9)
    have hnx9 := hnx.sb v39
    refine ⟨_, rfl, _, rfl, _, _, hfd.sb u9, hnx9, Gr.shaped_enc tok (by omega), Gr.shaped_enc tok (by omega), ?_⟩
    rw [Gr.eqvT rfl]
    refine ⟨_, rfl, iteF ?_⟩
    have eed := Gr.enc_depth (Gr.tgt g1 kk)
    obtain ⟨wg1, wg2⟩ := wides_gr (Gr.tgt g1 kk)
    refine ⟨_, rfl, fd, _, rfl, GA_thing tok (hfd.sb u9), by omega, by omega, by show wide (.tuple _) ≤ 1000; rw [wide_tuple]; omega, fun G10 u10 => ?_⟩
    refine ⟨_, _, rfl, rfl, _, rfl, ?_⟩
    rw [groveD_ok tok, show (!decide (true = true)) = false from rfl]
    refine iteF (nextI ⟨_, rfl, ?_⟩)
    have hnx10 := hnx9.sb u10
    refine nameI ⟨_, rfl, nx, _, rfl, hnx10, tokB, by omega, by omega, fun G11 u11 => ⟨_, rfl, iteF (nextI ?_)⟩⟩
    have hnx11 := hnx10.sb u11
    have v11 : SB [] G G11 := (((u12.trans u3).trans v39).trans u10).trans u11
    have hT11 := v11.keep _ _ hTG List.not_mem_nil
    have go60 : (Gr.tgt g1 kk).Ok (10 ^ 60) := tok.mono (Int.le_trans C2' (by decide))
    have goB : (Gr.tgt g1 kk).Ok (10 ^ 31 * 2 ^ (j + 1)) := by rw [C3]; exact tok
    refine ⟨_, rfl, _, _, rfl, rfl, by show (0 : Int) < 3; decide, rfl, _, rfl, ?_⟩
    by_cases h3 : (2 + (j : Int)) % 3 = 1
    · rw [show decide (V.int ((2 + (j : Int)) % 3) = V.int 1) = true from decide_eq_true (by rw [h3])]
      refine iteT ⟨_, rfl, _, rfl, nx, T, ts ++ [z], _, rfl, hnx11, go60, by omega, by omega, hT11, by rw [List.length_append, List.length_singleton]; omega, fun z2 G12 u12' hz2 hT12 => ⟨_, rfl, iteF ?_⟩⟩
      have zne : z2 ≠ z := fun e => by
        have s1 : Shows z2 (Gr.tgt g1 kk) := ⟨hz2, go60, by omega, by omega⟩
        have s2 : Shows z2 gl := ⟨by rw [e]; exact zt, glo, glp, gld⟩
        have e3 := s1.inj s2
        have := hde.more
        rw [← e3] at this
        omega
      have z2ne : z2 ≠ Str.ofString "-" := fun e => npos (text_dash go60 (by rw [← hz2, e]; decide +kernel))
      have hat2 : atI ((ts ++ [z] ++ [z2]).map V.str) (-2) = some (.str z) := by
        unfold atI ixN
        rw [List.length_map, List.length_append, List.length_append, List.length_singleton, List.length_singleton, if_neg (by decide), if_pos (by omega)]
        show ((ts ++ [z] ++ [z2]).map V.str)[(-2 + ((ts.length + 1 + 1 : Nat) : Int)).toNat]? = _
        rw [show (-2 + ((ts.length + 1 + 1 : Nat) : Int)).toNat = ts.length by omega, List.getElem?_map, List.append_assoc, List.getElem?_append_right (Nat.le_refl _), Nat.sub_self]
        rfl
      have hat1 : atI ((ts ++ [z] ++ [z2]).map V.str) (-1) = some (.str z2) := by rw [List.map_append]; exact at_last
      refine ⟨_, rfl, 1, rfl, T, _, _, _, rfl, rfl, SqL.of hT12, hat1, _, rfl, 2, rfl, T, _, _, _, rfl, rfl, SqL.of hT12, hat2, rfl, _, rfl, ?_⟩
      rw [show decide (V.str z2 = V.str z) = false from decide_eq_false fun e => zne (V.str.inj e)]
      refine iteF ⟨(u.trans v11.nil).trans u12', nx, _, _, ts ++ [z], z2, _, _, _, _, _, rfl, ⟨Dp_sb u12' _ _ (Gr.noList_enc _) hnx11, goB, by omega, by omega, .inr npos⟩, hT12, by rw [List.length_append, List.length_singleton]; omega, ⟨hz2, go60, by omega, by omega, Int.le_refl _⟩, fun y hy => ?_⟩
      have hy : y ∈ ((ts ++ [z]) ++ [z2]).drop 1 := hy
      rw [List.drop_append_of_le_length (by rw [List.length_append, List.length_singleton]; omega)] at hy
      rcases List.mem_append.mp hy with hy | hy
      · exact hz y hy
      · rw [List.mem_singleton.mp hy]; exact z2ne
    · rw [show decide (V.int ((2 + (j : Int)) % 3) = V.int 1) = false from decide_eq_false fun e => h3 (V.int.inj e)]
      have := hde.more
      exact iteF ⟨u.trans v11.nil, nx, _, gl, ts, z, _, _, _, _, _, rfl, ⟨hnx11, goB, by omega, by omega, .inr npos⟩, hT11, by omega, ⟨zt, glo, glp, gld, by omega⟩, hz⟩
  · obtain ⟨u, gv, g, gl, ts, z, o4, o5, o6, o7, o8, rfl, ⟨hg, go, gd, gp, gnn⟩, hTG, tsl, ⟨zt, glo, glp, gld, gls⟩, hz⟩ := h
    have hn61 : (M - 2).toNat ≤ 61 := by omega
    have two : (2 : Int) ^ (M - 2).toNat ≤ 2 ^ 61 := by exact_mod_cast Nat.pow_le_pow_right (n := 2) (by decide) hn61
    have go60 : g.Ok (10 ^ 60) := go.mono (Int.le_trans (Int.mul_le_mul_of_nonneg_left two (by decide)) (by decide))
    refine ⟨_, rfl, _, rfl, gv, T, ts ++ [z], g, rfl, hg, go60, gd, gp, hTG, by rw [List.length_append, List.length_singleton]; omega, fun z2 G2 u2 hz2 hT2 => ⟨_, rfl, iteT ?_⟩⟩
    have gne : g ≠ .nil := by
      rcases gnn with e | e
      · omega
      · exact e
    have z2ne : z2 ≠ Str.ofString "-" := fun e => gne (text_dash go60 (by rw [← hz2, e]; decide +kernel))
    refine ⟨_, rfl, _, rfl, T, _, rfl, SqL.of hT2, fun c nc => ?_⟩
    have hc : upd G2 c (.lst (cutV ((ts ++ [z] ++ [z2]).map V.str) (some 1) none)) c = some (.lst (((ts ++ [z] ++ [z2]).drop 1).map V.str)) := by rw [upd_same, cut1, ← List.map_drop]
    refine ⟨c, _, rfl, .inl (SqL.of hc), rfl, flat_strs _, ?_⟩
    rw [if_pos rfl, inV_strs, show decide (Str.ofString "-" ∈ (ts ++ [z] ++ [z2]).drop 1) = false from decide_eq_false fun hy => by
      rw [List.drop_append_of_le_length (by rw [List.length_append, List.length_singleton]; omega)] at hy
      rcases List.mem_append.mp hy with hy | hy
      · exact hz _ hy rfl
      · exact z2ne (List.mem_singleton.mp hy).symm]
    exact q _
end
end FT
namespace FT
open PySem PySem.W PySem.Spec PyProof.Rows L2
def d_is_whole : He.DefD := ⟨("is_whole", none), "is_whole", "is_whole", defArgs s_is_whole, defBody s_is_whole, defScope s_is_whole, [], []⟩
def d_is_many : He.DefD := ⟨("is_many", none), "is_many", "is_many", defArgs s_is_many, defBody s_is_many, defScope s_is_many, [], []⟩
def d_is_name : He.DefD := ⟨("is_name", none), "is_name", "is_name", defArgs s_is_name, defBody s_is_name, defScope s_is_name, [], []⟩
def d_is_rising : He.DefD := ⟨("is_rising", none), "is_rising", "is_rising", defArgs s_is_rising, defBody s_is_rising, defScope s_is_rising, [], []⟩
def d_joined : He.DefD := ⟨("joined", none), "joined", "joined", defArgs s_joined, defBody s_joined, defScope s_joined, [], []⟩
def d_run_of : He.DefD := ⟨("run_of", none), "run_of", "run_of", defArgs s_run_of, defBody s_run_of, defScope s_run_of, [], []⟩
def d_sign_at : He.DefD := ⟨("sign_at", none), "sign_at", "sign_at", defArgs s_sign_at, defBody s_sign_at, defScope s_sign_at, [], []⟩
def d_is_tree : He.DefD := ⟨("is_tree", none), "is_tree", "is_tree", defArgs s_is_tree, defBody s_is_tree, defScope s_is_tree, [], []⟩
def d_is_grove : He.DefD := ⟨("is_grove", none), "is_grove", "is_grove", defArgs s_is_grove, defBody s_is_grove, defScope s_is_grove, [], []⟩
def d_are_grove_pairs : He.DefD := ⟨("are_grove_pairs", none), "are_grove_pairs", "are_grove_pairs", defArgs s_are_grove_pairs, defBody s_are_grove_pairs, defScope s_are_grove_pairs, [], []⟩
def d_grove_of : He.DefD := ⟨("grove_of", none), "grove_of", "grove_of", defArgs s_grove_of, defBody s_grove_of, defScope s_grove_of, [], []⟩
def d_together : He.DefD := ⟨("together", none), "together", "together", defArgs s_together, defBody s_together, defScope s_together, [], []⟩
def d_pairs_within : He.DefD := ⟨("pairs_within", none), "pairs_within", "pairs_within", defArgs s_pairs_within, defBody s_pairs_within, defScope s_pairs_within, [], []⟩
def d_parts_of : He.DefD := ⟨("parts_of", none), "parts_of", "parts_of", defArgs s_parts_of, defBody s_parts_of, defScope s_parts_of, [], []⟩
def d_deep_of : He.DefD := ⟨("deep_of", none), "deep_of", "deep_of", defArgs s_deep_of, defBody s_deep_of, defScope s_deep_of, [], []⟩
def d_size : He.DefD := ⟨("size", none), "size", "size", defArgs s_size, defBody s_size, defScope s_size, [], []⟩
def d_show_grove : He.DefD := ⟨("show_grove", none), "show_grove", "show_grove", defArgs s_show_grove, defBody s_show_grove, defScope s_show_grove, [], []⟩
def d_show_pair : He.DefD := ⟨("show_pair", none), "show_pair", "show_pair", defArgs s_show_pair, defBody s_show_pair, defScope s_show_pair, [], []⟩
def d_show_tree : He.DefD := ⟨("show_tree", none), "show_tree", "show_tree", defArgs s_show_tree, defBody s_show_tree, defScope s_show_tree, [], []⟩
def d_read_grove : He.DefD := ⟨("read_grove", none), "read_grove", "read_grove", defArgs s_read_grove, defBody s_read_grove, defScope s_read_grove, [], []⟩
def d_read_pairs : He.DefD := ⟨("read_pairs", none), "read_pairs", "read_pairs", defArgs s_read_pairs, defBody s_read_pairs, defScope s_read_pairs, [], []⟩
def d_read_pair : He.DefD := ⟨("read_pair", none), "read_pair", "read_pair", defArgs s_read_pair, defBody s_read_pair, defScope s_read_pair, [], []⟩
def d_read_tree : He.DefD := ⟨("read_tree", none), "read_tree", "read_tree", defArgs s_read_tree, defBody s_read_tree, defScope s_read_tree, [], []⟩
def d_tree_at : He.DefD := ⟨("tree_at", none), "tree_at", "tree_at", defArgs s_tree_at, defBody s_tree_at, defScope s_tree_at, [], []⟩
def d_bare_places : He.DefD := ⟨("bare_places", none), "bare_places", "bare_places", defArgs s_bare_places, defBody s_bare_places, defScope s_bare_places, [], []⟩
def d__law_purse : He.DefD := ⟨("_law_purse", none), "_law_purse", "_law_purse", defArgs s__law_purse, defBody s__law_purse, defScope s__law_purse, [], []⟩
def d__law_take : He.DefD := ⟨("_law_take", none), "_law_take", "_law_take", defArgs s__law_take, defBody s__law_take, defScope s__law_take, [], []⟩
def d__law_names : He.DefD := ⟨("_law_names", none), "_law_names", "_law_names", defArgs s__law_names, defBody s__law_names, defScope s__law_names, [], []⟩
def d__law_plain : He.DefD := ⟨("_law_plain", none), "_law_plain", "_law_plain", defArgs s__law_plain, defBody s__law_plain, defScope s__law_plain, [], []⟩
def d__law_all : He.DefD := ⟨("_law_all", none), "_law_all", "_law_all", defArgs s__law_all, defBody s__law_all, defScope s__law_all, [], []⟩
def d__law_put : He.DefD := ⟨("_law_put", none), "_law_put", "_law_put", defArgs s__law_put, defBody s__law_put, defScope s__law_put, [], []⟩
def d__law_deed : He.DefD := ⟨("_law_deed", none), "_law_deed", "_law_deed", defArgs s__law_deed, defBody s__law_deed, defScope s__law_deed, [], []⟩
def d__law_looked : He.DefD := ⟨("_law_looked", none), "_law_looked", "_law_looked", defArgs s__law_looked, defBody s__law_looked, defScope s__law_looked, [], []⟩
def d__law_written : He.DefD := ⟨("_law_written", none), "_law_written", "_law_written", defArgs s__law_written, defBody s__law_written, defScope s__law_written, [], []⟩
def d_law : He.DefD := ⟨("law", none), "law", "law", defArgs s_law, defBody s_law, defScope s_law, [], []⟩
def fn : List He.DefD := [d_is_whole, d_is_many, d_is_name, d_is_rising, d_joined, d_run_of, d_sign_at, d_is_tree, d_is_grove, d_are_grove_pairs, d_grove_of, d_together, d_pairs_within, d_parts_of, d_deep_of, d_size, d_show_grove, d_show_pair, d_show_tree, d_read_grove, d_read_pairs, d_read_pair, d_read_tree, d_tree_at, d_bare_places, d__law_purse, d__law_take, d__law_names, d__law_plain, d__law_all, d__law_put, d__law_deed, d__law_looked, d__law_written, d_law]
def fa : List He.Fa := [.glo "is_whole", .glo "is_many", .glo "is_name", .glo "is_rising", .glo "joined", .glo "run_of", .glo "sign_at", .glo "is_tree", .glo "is_grove", .glo "are_grove_pairs", .glo "grove_of", .glo "together", .glo "pairs_within", .glo "parts_of", .glo "deep_of", .glo "size", .glo "show_grove", .glo "show_pair", .glo "show_tree", .glo "read_grove", .glo "read_pairs", .glo "read_pair", .glo "read_tree", .glo "tree_at", .glo "bare_places", .glo "_law_purse", .glo "_law_take", .glo "_law_names", .glo "_law_plain", .glo "_law_all", .glo "_law_put", .glo "_law_deed", .glo "_law_looked", .glo "_law_written", .glo "law", .free "len", .free "isinstance", .free "int", .free "bool", .free "str", .free "tuple", .free "list", .free "all", .free "zip", .free "sum", .free "max", .free "range", .free "enumerate", .free "abs", .free "sorted", .free "min", .free "reversed", .free "any", .free "set", .free "dict", .free "repr", .str "FIGURES" "0123456789", .str "LETTERS" "abcdefghijklmnopqrstuvwxyz", .int "LONGEST_NAME" (8), .int "MOST_FIGURES" (60), .int "MOST_PARTS" (60), .int "MOST_DEEP" (12), .exc "NoGrove", .glo "NoGrove", .exc "NoPlace", .glo "NoPlace"]
def exOk (K : PySem.W.Frag) : Bool := true
abbrev R : PySem.W.OpenRow := PySem.W.OpenLaw.row PySem.Challenge.rw_felltimber_k20_whole_groves_grown
abbrev hk : PySem.W.Hook := hookE 6 fa fn exOk
def ob (s : PySem.W.SharedT) : AlE := obsE 6 fa fn exOk (HandSHeadRun.getT s)
theorem ob_eq (s : PySem.W.SharedT) : ob s = hk.obs s.abs := obsE_eq (HandSHeadRun.getT_eq s)
def loose : List PySem.Str := (["is_whole", "is_many", "is_name", "is_rising", "joined", "run_of", "sign_at", "FellError", "NoGrove", "NoPlace", "is_tree", "is_grove"] : List PySem.Str) ++ (["are_grove_pairs", "grove_of", "together", "pairs_within", "parts_of", "deep_of", "size", "show_grove", "show_pair", "show_tree", "read_grove", "read_pairs"] : List PySem.Str) ++ (["read_pair", "read_tree", "tree_at", "bare_places", "_law_purse", "_law_take", "_law_names", "_law_plain", "_law_all", "_law_put", "_law_deed", "_law_looked"] : List PySem.Str) ++ (["_law_written", "FIGURES", "LETTERS", "LONGEST_NAME", "MOST_DEEP", "MOST_FIGURES", "MOST_PARTS"] : List PySem.Str)
theorem run (w : World) : HandSHeadRun.RunEq R (PySem.W.view R.prog [49]) hk ob 6000 loose w := by
  intro os
  kernel_rfl
theorem facts {P : Program} {w : World} {K : PySem.W.Frag} {h : Heap} {mg : Str → Option Value} {f : Addr} (X : K.In h) (G : h.Ns mainGlobals mg) (hfa : mg ("law" : Str) = some (.ref f)) (c : He.SaysD fa fn K) (cx : exOk K = true) :
    ∃ fd : FuncData, (∀ (s : Shared) (v : Value), BindsTo s fd ⟨[v], []⟩ [("_law_script", v)]) ∧ ∀ base : Heap, K.In base → base.Ns mainGlobals mg → FnOk P w K mg base CX0 106 f fd ["_law_script"] (spLaw K) := by
  obtain ⟨fd_is_whole, D_is_whole⟩ := c.def_ 0 (d := d_is_whole) rfl
  have F_is_whole : Fun K "is_whole" "is_whole" s_is_whole _ fd_is_whole := He5.fun_of D_is_whole
  have m_is_whole := He.glo_ok X G (c.fact 0 (f := .glo "is_whole") rfl)
  have b_is_whole := F_is_whole.binds (ps := ["thing"]) fun _ _ _ _ _ _ us hl => match us, hl with | [_], _ => rfl
  obtain ⟨fd_is_many, D_is_many⟩ := c.def_ 1 (d := d_is_many) rfl
  have F_is_many : Fun K "is_many" "is_many" s_is_many _ fd_is_many := He5.fun_of D_is_many
  have m_is_many := He.glo_ok X G (c.fact 1 (f := .glo "is_many") rfl)
  have b_is_many := F_is_many.binds (ps := ["thing"]) fun _ _ _ _ _ _ us hl => match us, hl with | [_], _ => rfl
  obtain ⟨fd_is_name, D_is_name⟩ := c.def_ 2 (d := d_is_name) rfl
  have F_is_name : Fun K "is_name" "is_name" s_is_name _ fd_is_name := He5.fun_of D_is_name
  have m_is_name := He.glo_ok X G (c.fact 2 (f := .glo "is_name") rfl)
  have b_is_name := F_is_name.binds (ps := ["thing"]) fun _ _ _ _ _ _ us hl => match us, hl with | [_], _ => rfl
  obtain ⟨fd_is_rising, D_is_rising⟩ := c.def_ 3 (d := d_is_rising) rfl
  have F_is_rising : Fun K "is_rising" "is_rising" s_is_rising _ fd_is_rising := He5.fun_of D_is_rising
  have m_is_rising := He.glo_ok X G (c.fact 3 (f := .glo "is_rising") rfl)
  have b_is_rising := F_is_rising.binds (ps := ["things"]) fun _ _ _ _ _ _ us hl => match us, hl with | [_], _ => rfl
  obtain ⟨fd_joined, D_joined⟩ := c.def_ 4 (d := d_joined) rfl
  have F_joined : Fun K "joined" "joined" s_joined _ fd_joined := He5.fun_of D_joined
  have m_joined := He.glo_ok X G (c.fact 4 (f := .glo "joined") rfl)
  have b_joined := F_joined.binds (ps := ["pairs"]) fun _ _ _ _ _ _ us hl => match us, hl with | [_], _ => rfl
  obtain ⟨fd_run_of, D_run_of⟩ := c.def_ 5 (d := d_run_of) rfl
  have F_run_of : Fun K "run_of" "run_of" s_run_of _ fd_run_of := He5.fun_of D_run_of
  have m_run_of := He.glo_ok X G (c.fact 5 (f := .glo "run_of") rfl)
  have b_run_of := F_run_of.binds (ps := ["text", "at", "signs"]) fun _ _ _ _ _ _ us hl => match us, hl with | [_, _, _], _ => rfl
  obtain ⟨fd_sign_at, D_sign_at⟩ := c.def_ 6 (d := d_sign_at) rfl
  have F_sign_at : Fun K "sign_at" "sign_at" s_sign_at _ fd_sign_at := He5.fun_of D_sign_at
  have m_sign_at := He.glo_ok X G (c.fact 6 (f := .glo "sign_at") rfl)
  have b_sign_at := F_sign_at.binds (ps := ["text", "at"]) fun _ _ _ _ _ _ us hl => match us, hl with | [_, _], _ => rfl
  obtain ⟨fd_is_tree, D_is_tree⟩ := c.def_ 7 (d := d_is_tree) rfl
  have F_is_tree : Fun K "is_tree" "is_tree" s_is_tree _ fd_is_tree := He5.fun_of D_is_tree
  have m_is_tree := He.glo_ok X G (c.fact 7 (f := .glo "is_tree") rfl)
  have b_is_tree := F_is_tree.binds (ps := ["thing"]) fun _ _ _ _ _ _ us hl => match us, hl with | [_], _ => rfl
  obtain ⟨fd_is_grove, D_is_grove⟩ := c.def_ 8 (d := d_is_grove) rfl
  have F_is_grove : Fun K "is_grove" "is_grove" s_is_grove _ fd_is_grove := He5.fun_of D_is_grove
  have m_is_grove := He.glo_ok X G (c.fact 8 (f := .glo "is_grove") rfl)
  have b_is_grove := F_is_grove.binds (ps := ["thing"]) fun _ _ _ _ _ _ us hl => match us, hl with | [_], _ => rfl
  obtain ⟨fd_are_grove_pairs, D_are_grove_pairs⟩ := c.def_ 9 (d := d_are_grove_pairs) rfl
  have F_are_grove_pairs : Fun K "are_grove_pairs" "are_grove_pairs" s_are_grove_pairs _ fd_are_grove_pairs := He5.fun_of D_are_grove_pairs
  have m_are_grove_pairs := He.glo_ok X G (c.fact 9 (f := .glo "are_grove_pairs") rfl)
  have b_are_grove_pairs := F_are_grove_pairs.binds (ps := ["things"]) fun _ _ _ _ _ _ us hl => match us, hl with | [_], _ => rfl
  obtain ⟨fd_grove_of, D_grove_of⟩ := c.def_ 10 (d := d_grove_of) rfl
  have F_grove_of : Fun K "grove_of" "grove_of" s_grove_of _ fd_grove_of := He5.fun_of D_grove_of
  have m_grove_of := He.glo_ok X G (c.fact 10 (f := .glo "grove_of") rfl)
  have b_grove_of := F_grove_of.binds (ps := ["some"]) fun _ _ _ _ _ _ us hl => match us, hl with | [_], _ => rfl
  obtain ⟨fd_together, D_together⟩ := c.def_ 11 (d := d_together) rfl
  have F_together : Fun K "together" "together" s_together _ fd_together := He5.fun_of D_together
  have m_together := He.glo_ok X G (c.fact 11 (f := .glo "together") rfl)
  have b_together := F_together.binds (ps := ["one", "other"]) fun _ _ _ _ _ _ us hl => match us, hl with | [_, _], _ => rfl
  obtain ⟨fd_pairs_within, D_pairs_within⟩ := c.def_ 12 (d := d_pairs_within) rfl
  have F_pairs_within : Fun K "pairs_within" "pairs_within" s_pairs_within _ fd_pairs_within := He5.fun_of D_pairs_within
  have m_pairs_within := He.glo_ok X G (c.fact 12 (f := .glo "pairs_within") rfl)
  have b_pairs_within := F_pairs_within.binds (ps := ["grove"]) fun _ _ _ _ _ _ us hl => match us, hl with | [_], _ => rfl
  obtain ⟨fd_parts_of, D_parts_of⟩ := c.def_ 13 (d := d_parts_of) rfl
  have F_parts_of : Fun K "parts_of" "parts_of" s_parts_of _ fd_parts_of := He5.fun_of D_parts_of
  have m_parts_of := He.glo_ok X G (c.fact 13 (f := .glo "parts_of") rfl)
  have b_parts_of := F_parts_of.binds (ps := ["grove"]) fun _ _ _ _ _ _ us hl => match us, hl with | [_], _ => rfl
  obtain ⟨fd_deep_of, D_deep_of⟩ := c.def_ 14 (d := d_deep_of) rfl
  have F_deep_of : Fun K "deep_of" "deep_of" s_deep_of _ fd_deep_of := He5.fun_of D_deep_of
  have m_deep_of := He.glo_ok X G (c.fact 14 (f := .glo "deep_of") rfl)
  have b_deep_of := F_deep_of.binds (ps := ["grove"]) fun _ _ _ _ _ _ us hl => match us, hl with | [_], _ => rfl
  obtain ⟨fd_size, D_size⟩ := c.def_ 15 (d := d_size) rfl
  have F_size : Fun K "size" "size" s_size _ fd_size := He5.fun_of D_size
  have m_size := He.glo_ok X G (c.fact 15 (f := .glo "size") rfl)
  have b_size := F_size.binds (ps := ["grove"]) fun _ _ _ _ _ _ us hl => match us, hl with | [_], _ => rfl
  obtain ⟨fd_show_grove, D_show_grove⟩ := c.def_ 16 (d := d_show_grove) rfl
  have F_show_grove : Fun K "show_grove" "show_grove" s_show_grove _ fd_show_grove := He5.fun_of D_show_grove
  have m_show_grove := He.glo_ok X G (c.fact 16 (f := .glo "show_grove") rfl)
  have b_show_grove := F_show_grove.binds (ps := ["grove"]) fun _ _ _ _ _ _ us hl => match us, hl with | [_], _ => rfl
  obtain ⟨fd_show_pair, D_show_pair⟩ := c.def_ 17 (d := d_show_pair) rfl
  have F_show_pair : Fun K "show_pair" "show_pair" s_show_pair _ fd_show_pair := He5.fun_of D_show_pair
  have m_show_pair := He.glo_ok X G (c.fact 17 (f := .glo "show_pair") rfl)
  have b_show_pair := F_show_pair.binds (ps := ["tree", "many"]) fun _ _ _ _ _ _ us hl => match us, hl with | [_, _], _ => rfl
  obtain ⟨fd_show_tree, D_show_tree⟩ := c.def_ 18 (d := d_show_tree) rfl
  have F_show_tree : Fun K "show_tree" "show_tree" s_show_tree _ fd_show_tree := He5.fun_of D_show_tree
  have m_show_tree := He.glo_ok X G (c.fact 18 (f := .glo "show_tree") rfl)
  have b_show_tree := F_show_tree.binds (ps := ["tree"]) fun _ _ _ _ _ _ us hl => match us, hl with | [_], _ => rfl
  obtain ⟨fd_read_grove, D_read_grove⟩ := c.def_ 19 (d := d_read_grove) rfl
  have F_read_grove : Fun K "read_grove" "read_grove" s_read_grove _ fd_read_grove := He5.fun_of D_read_grove
  have m_read_grove := He.glo_ok X G (c.fact 19 (f := .glo "read_grove") rfl)
  have b_read_grove := F_read_grove.binds (ps := ["text"]) fun _ _ _ _ _ _ us hl => match us, hl with | [_], _ => rfl
  obtain ⟨fd_read_pairs, D_read_pairs⟩ := c.def_ 20 (d := d_read_pairs) rfl
  have F_read_pairs : Fun K "read_pairs" "read_pairs" s_read_pairs _ fd_read_pairs := He5.fun_of D_read_pairs
  have m_read_pairs := He.glo_ok X G (c.fact 20 (f := .glo "read_pairs") rfl)
  have b_read_pairs := F_read_pairs.binds (ps := ["text", "at", "left"]) fun _ _ _ _ _ _ us hl => match us, hl with | [_, _, _], _ => rfl
  obtain ⟨fd_read_pair, D_read_pair⟩ := c.def_ 21 (d := d_read_pair) rfl
  have F_read_pair : Fun K "read_pair" "read_pair" s_read_pair _ fd_read_pair := He5.fun_of D_read_pair
  have m_read_pair := He.glo_ok X G (c.fact 21 (f := .glo "read_pair") rfl)
  have b_read_pair := F_read_pair.binds (ps := ["text", "at", "left"]) fun _ _ _ _ _ _ us hl => match us, hl with | [_, _, _], _ => rfl
  obtain ⟨fd_read_tree, D_read_tree⟩ := c.def_ 22 (d := d_read_tree) rfl
  have F_read_tree : Fun K "read_tree" "read_tree" s_read_tree _ fd_read_tree := He5.fun_of D_read_tree
  have m_read_tree := He.glo_ok X G (c.fact 22 (f := .glo "read_tree") rfl)
  have b_read_tree := F_read_tree.binds (ps := ["text", "at", "left"]) fun _ _ _ _ _ _ us hl => match us, hl with | [_, _, _], _ => rfl
  obtain ⟨fd_tree_at, D_tree_at⟩ := c.def_ 23 (d := d_tree_at) rfl
  have F_tree_at : Fun K "tree_at" "tree_at" s_tree_at _ fd_tree_at := He5.fun_of D_tree_at
  have m_tree_at := He.glo_ok X G (c.fact 23 (f := .glo "tree_at") rfl)
  have b_tree_at := F_tree_at.binds (ps := ["grove", "place"]) fun _ _ _ _ _ _ us hl => match us, hl with | [_, _], _ => rfl
  obtain ⟨fd_bare_places, D_bare_places⟩ := c.def_ 24 (d := d_bare_places) rfl
  have F_bare_places : Fun K "bare_places" "bare_places" s_bare_places _ fd_bare_places := He5.fun_of D_bare_places
  have m_bare_places := He.glo_ok X G (c.fact 24 (f := .glo "bare_places") rfl)
  have b_bare_places := F_bare_places.binds (ps := ["grove"]) fun _ _ _ _ _ _ us hl => match us, hl with | [_], _ => rfl
  obtain ⟨fd__law_purse, D__law_purse⟩ := c.def_ 25 (d := d__law_purse) rfl
  have F__law_purse : Fun K "_law_purse" "_law_purse" s__law_purse _ fd__law_purse := He5.fun_of D__law_purse
  have m__law_purse := He.glo_ok X G (c.fact 25 (f := .glo "_law_purse") rfl)
  have b__law_purse := F__law_purse.binds (ps := ["_law_script", "_law_k"]) fun _ _ _ _ _ _ us hl => match us, hl with | [_, _], _ => rfl
  obtain ⟨fd__law_take, D__law_take⟩ := c.def_ 26 (d := d__law_take) rfl
  have F__law_take : Fun K "_law_take" "_law_take" s__law_take _ fd__law_take := He5.fun_of D__law_take
  have m__law_take := He.glo_ok X G (c.fact 26 (f := .glo "_law_take") rfl)
  have b__law_take := F__law_take.binds (ps := ["_law_purse_here", "_law_many"]) fun _ _ _ _ _ _ us hl => match us, hl with | [_, _], _ => rfl
  obtain ⟨fd__law_names, D__law_names⟩ := c.def_ 27 (d := d__law_names) rfl
  have F__law_names : Fun K "_law_names" "_law_names" s__law_names _ fd__law_names := He5.fun_of D__law_names
  have m__law_names := He.glo_ok X G (c.fact 27 (f := .glo "_law_names") rfl)
  have b__law_names := F__law_names.binds (ps := ["_law_purse_here"]) fun _ _ _ _ _ _ us hl => match us, hl with | [_], _ => rfl
  obtain ⟨fd__law_plain, D__law_plain⟩ := c.def_ 28 (d := d__law_plain) rfl
  have F__law_plain : Fun K "_law_plain" "_law_plain" s__law_plain _ fd__law_plain := He5.fun_of D__law_plain
  have m__law_plain := He.glo_ok X G (c.fact 28 (f := .glo "_law_plain") rfl)
  have b__law_plain := F__law_plain.binds (ps := ["_law_thing"]) fun _ _ _ _ _ _ us hl => match us, hl with | [_], _ => rfl
  obtain ⟨fd__law_all, D__law_all⟩ := c.def_ 29 (d := d__law_all) rfl
  have F__law_all : Fun K "_law_all" "_law_all" s__law_all _ fd__law_all := He5.fun_of D__law_all
  have m__law_all := He.glo_ok X G (c.fact 29 (f := .glo "_law_all") rfl)
  have b__law_all := F__law_all.binds (ps := ["_law_grove_here"]) fun _ _ _ _ _ _ us hl => match us, hl with | [_], _ => rfl
  obtain ⟨fd__law_put, D__law_put⟩ := c.def_ 30 (d := d__law_put) rfl
  have F__law_put : Fun K "_law_put" "_law_put" s__law_put _ fd__law_put := He5.fun_of D__law_put
  have m__law_put := He.glo_ok X G (c.fact 30 (f := .glo "_law_put") rfl)
  have b__law_put := F__law_put.binds (ps := ["_law_grove_here", "_law_some"]) fun _ _ _ _ _ _ us hl => match us, hl with | [_, _], _ => rfl
  obtain ⟨fd__law_deed, D__law_deed⟩ := c.def_ 31 (d := d__law_deed) rfl
  have F__law_deed : Fun K "_law_deed" "_law_deed" s__law_deed _ fd__law_deed := He5.fun_of D__law_deed
  have m__law_deed := He.glo_ok X G (c.fact 31 (f := .glo "_law_deed") rfl)
  have b__law_deed := F__law_deed.binds (ps := ["_law_grove_here", "_law_purse_here", "_law_names_here"]) fun _ _ _ _ _ _ us hl => match us, hl with | [_, _, _], _ => rfl
  obtain ⟨fd__law_looked, D__law_looked⟩ := c.def_ 32 (d := d__law_looked) rfl
  have F__law_looked : Fun K "_law_looked" "_law_looked" s__law_looked _ fd__law_looked := He5.fun_of D__law_looked
  have m__law_looked := He.glo_ok X G (c.fact 32 (f := .glo "_law_looked") rfl)
  have b__law_looked := F__law_looked.binds (ps := ["_law_grove_here"]) fun _ _ _ _ _ _ us hl => match us, hl with | [_], _ => rfl
  obtain ⟨fd__law_written, D__law_written⟩ := c.def_ 33 (d := d__law_written) rfl
  have F__law_written : Fun K "_law_written" "_law_written" s__law_written _ fd__law_written := He5.fun_of D__law_written
  have m__law_written := He.glo_ok X G (c.fact 33 (f := .glo "_law_written") rfl)
  have b__law_written := F__law_written.binds (ps := ["_law_grove_here", "_law_texts"]) fun _ _ _ _ _ _ us hl => match us, hl with | [_, _], _ => rfl
  obtain ⟨fd_law, D_law⟩ := c.def_ 34 (d := d_law) rfl
  have F_law : Fun K "law" "law" s_law _ fd_law := He5.fun_of D_law
  have m_law := He.glo_ok X G (c.fact 34 (f := .glo "law") rfl)
  have B : BI mg := ⟨He.free_ok X G (c.fact 35 (f := .free "len") rfl), He.free_ok X G (c.fact 36 (f := .free "isinstance") rfl), He.free_ok X G (c.fact 37 (f := .free "int") rfl), He.free_ok X G (c.fact 38 (f := .free "bool") rfl), He.free_ok X G (c.fact 39 (f := .free "str") rfl), He.free_ok X G (c.fact 40 (f := .free "tuple") rfl), He.free_ok X G (c.fact 41 (f := .free "list") rfl), He.free_ok X G (c.fact 42 (f := .free "all") rfl), He.free_ok X G (c.fact 43 (f := .free "zip") rfl), He.free_ok X G (c.fact 44 (f := .free "sum") rfl), He.free_ok X G (c.fact 45 (f := .free "max") rfl), He.free_ok X G (c.fact 46 (f := .free "range") rfl), He.free_ok X G (c.fact 47 (f := .free "enumerate") rfl), He.free_ok X G (c.fact 48 (f := .free "abs") rfl), He.free_ok X G (c.fact 49 (f := .free "sorted") rfl), He.free_ok X G (c.fact 50 (f := .free "min") rfl), He.free_ok X G (c.fact 51 (f := .free "reversed") rfl), He.free_ok X G (c.fact 52 (f := .free "any") rfl), He.free_ok X G (c.fact 53 (f := .free "set") rfl), He.free_ok X G (c.fact 54 (f := .free "dict") rfl), He.free_ok X G (c.fact 55 (f := .free "repr") rfl)⟩
  have L_FIGURES := He.str_ok X G (c.fact 56 (f := .str "FIGURES" "0123456789") rfl)
  have L_LETTERS := He.str_ok X G (c.fact 57 (f := .str "LETTERS" "abcdefghijklmnopqrstuvwxyz") rfl)
  have L_LONGEST_NAME := He.int_ok X G (c.fact 58 (f := .int "LONGEST_NAME" (8)) rfl)
  have L_MOST_FIGURES := He.int_ok X G (c.fact 59 (f := .int "MOST_FIGURES" (60)) rfl)
  have L_MOST_PARTS := He.int_ok X G (c.fact 60 (f := .int "MOST_PARTS" (60)) rfl)
  have L_MOST_DEEP := He.int_ok X G (c.fact 61 (f := .int "MOST_DEEP" (12)) rfl)
  have O_NoGrove : Own K mg "NoGrove" (He.ga K "NoGrove") := by
    obtain ⟨y1, y2, y3, y4⟩ := He.exc_ok (c.fact 62 (f := .exc "NoGrove") rfl)
    exact ⟨He.glo_ok X G (c.fact 63 (f := .glo "NoGrove") rfl), y1, y2, y3, y4⟩
  have O_NoPlace : Own K mg "NoPlace" (He.ga K "NoPlace") := by
    obtain ⟨y1, y2, y3, y4⟩ := He.exc_ok (c.fact 64 (f := .exc "NoPlace") rfl)
    exact ⟨He.glo_ok X G (c.fact 65 (f := .glo "NoPlace") rfl), y1, y2, y3, y4⟩
  have e := hfa.symm.trans m_law
  cases e
  have b := FunD.bindsA (ps := ["_law_script"]) D_law fun _ _ _ _ _ _ us hl => match us, hl with | [_], _ => rfl
  refine ⟨fd_law, fun s v => b s [v] rfl, fun base _ _ => ?_⟩
  have g_is_whole : Got P w K mg base "is_whole" ["thing"] 1 (spWhole K) := ⟨_, _, ok_is_whole B F_is_whole, F_is_whole.kp, b_is_whole, m_is_whole⟩
  have g_is_many : Got P w K mg base "is_many" ["thing"] 2 (spMany K []) := ⟨_, _, ok_is_many B g_is_whole F_is_many, F_is_many.kp, b_is_many, m_is_many⟩
  have g_is_rising : Got P w K mg base "is_rising" ["things"] 1 (spRising K) := ⟨_, _, ok_is_rising B F_is_rising, F_is_rising.kp, b_is_rising, m_is_rising⟩
  have g_run_of : Got P w K mg base "run_of" ["text", "at", "signs"] 1 (spRunOf K) := ⟨_, _, ok_run_of B F_run_of, F_run_of.kp, b_run_of, m_run_of⟩
  have g_is_name : Got P w K mg base "is_name" ["thing"] 2 (spName K) := ⟨_, _, ok_is_name B L_LETTERS L_LONGEST_NAME g_run_of F_is_name, F_is_name.kp, b_is_name, m_is_name⟩
  have r_grove : ∀ n, Got P w K mg base "is_tree" ["thing"] (n + 3) (spIsTree K n) ∧ Got P w K mg base "is_grove" ["thing"] (n + 3) (spIsGrove K n) ∧ Got P w K mg base "are_grove_pairs" ["things"] (n + 3) (spPairsQ K true n) := by
    intro n
    induction n with
    | zero => exact ⟨⟨_, _, none_is_tree, F_is_tree.kp, b_is_tree, m_is_tree⟩, ⟨_, _, none_is_grove, F_is_grove.kp, b_is_grove, m_is_grove⟩, ⟨_, _, none_are_grove_pairs, F_are_grove_pairs.kp, b_are_grove_pairs, m_are_grove_pairs⟩⟩
    | succ n ih => exact ⟨⟨_, _, ok_is_tree B g_is_name ih.2.1 F_is_tree, F_is_tree.kp, b_is_tree, m_is_tree⟩, ⟨_, _, ok_is_grove B g_is_rising ih.2.2 F_is_grove, F_is_grove.kp, b_is_grove, m_is_grove⟩, ⟨_, _, ok_are_grove_pairs B g_is_many ih.1 F_are_grove_pairs, F_are_grove_pairs.kp, b_are_grove_pairs, m_are_grove_pairs⟩⟩
  have g_is_tree : Got P w K mg base "is_tree" ["thing"] 84 (spIsTree K 81) := (r_grove 81).1
  have g_is_grove : Got P w K mg base "is_grove" ["thing"] 84 (spIsGrove K 81) := (r_grove 81).2.1
  have gL_are_grove_pairs : Got P w K mg base "are_grove_pairs" ["things"] 63 (spPairsQ K false 60) := ⟨_, _, ok_are_grove_pairsL B g_is_many (r_grove 59).1 F_are_grove_pairs, F_are_grove_pairs.kp, b_are_grove_pairs, m_are_grove_pairs⟩
  have r_pairs_within : ∀ n, Got P w K mg base "pairs_within" ["grove"] (n) (spPairsW K n) := by
    intro n
    induction n with
    | zero => exact ⟨_, _, none_pairs_within, F_pairs_within.kp, b_pairs_within, m_pairs_within⟩
    | succ n ih => exact ⟨_, _, ok_pairs_within ih F_pairs_within, F_pairs_within.kp, b_pairs_within, m_pairs_within⟩
  have g_pairs_within := r_pairs_within 20
  have g_parts_of : Got P w K mg base "parts_of" ["grove"] 21 (spPartsOf K 20) := ⟨_, _, ok_parts_of B g_pairs_within F_parts_of, F_parts_of.kp, b_parts_of, m_parts_of⟩
  have r_deep_of : ∀ n, Got P w K mg base "deep_of" ["grove"] (n) (spDeepOf K n) := by
    intro n
    induction n with
    | zero => exact ⟨_, _, none_deep_of, F_deep_of.kp, b_deep_of, m_deep_of⟩
    | succ n ih => exact ⟨_, _, ok_deep_of B ih F_deep_of, F_deep_of.kp, b_deep_of, m_deep_of⟩
  have g_deep_of := r_deep_of 20
  have r_size : ∀ n, Got P w K mg base "size" ["grove"] (n) (spSizeG K n) := by
    intro n
    induction n with
    | zero => exact ⟨_, _, none_size, F_size.kp, b_size, m_size⟩
    | succ n ih => exact ⟨_, _, ok_size B ih F_size, F_size.kp, b_size, m_size⟩
  have g_size := r_size 20
  have r_bare_places : ∀ n, Got P w K mg base "bare_places" ["grove"] (n) (spBareP K n) := by
    intro n
    induction n with
    | zero => exact ⟨_, _, none_bare_places, F_bare_places.kp, b_bare_places, m_bare_places⟩
    | succ n ih => exact ⟨_, _, ok_bare_places B ih F_bare_places, F_bare_places.kp, b_bare_places, m_bare_places⟩
  have g_bare_places := r_bare_places 20
  have g_tree_at : GotX P w K mg base "tree_at" ["grove", "place"] 2 (spTreeAt K (He.ga K "NoPlace")) := ⟨_, _, ok_tree_at B O_NoPlace g_is_whole F_tree_at, F_tree_at.kp, b_tree_at, m_tree_at⟩
  have g__law_purse : Got P w K mg base "_law_purse" ["_law_script", "_law_k"] 1 (spPurseG K) := ⟨_, _, ok_law_purse B F__law_purse, F__law_purse.kp, b__law_purse, m__law_purse⟩
  have g__law_take : Got P w K mg base "_law_take" ["_law_purse_here", "_law_many"] 1 (spTakeG) := ⟨_, _, ok_law_take F__law_take, F__law_take.kp, b__law_take, m__law_take⟩
  have g__law_names : Got P w K mg base "_law_names" ["_law_purse_here"] 2 (spNamesG K) := ⟨_, _, ok_law_names B g__law_take F__law_names, F__law_names.kp, b__law_names, m__law_names⟩
  have g_joined : Got P w K mg base "joined" ["pairs"] 1 (spJoined K Gr.tEnc) := ⟨_, _, ok_joined Gr.noList_tEnc (Orderly.eq (enc := Gr.tEnc)) B F_joined, F_joined.kp, b_joined, m_joined⟩
  have g_together : Got P w K mg base "together" ["one", "other"] 2 (spTogether K) := ⟨_, _, ok_together B g_joined F_together, F_together.kp, b_together, m_together⟩
  have g_grove_of : GotX P w K mg base "grove_of" ["some"] 64 (spGroveOf K (He.ga K "NoGrove")) := ⟨_, _, ok_grove_of B O_NoGrove gL_are_grove_pairs g_joined F_grove_of, F_grove_of.kp, b_grove_of, m_grove_of⟩
  have g__law_plain : Got P w K mg base "_law_plain" ["_law_thing"] 1 (spPlainG K) := ⟨_, _, ok_law_plain B F__law_plain, F__law_plain.kp, b__law_plain, m__law_plain⟩
  have g_sign_at : Got P w K mg base "sign_at" ["text", "at"] (1) (spSignAt K) := ⟨_, _, ok_sign_at B F_sign_at, F_sign_at.kp, b_sign_at, m_sign_at⟩
  have r_showG : ∀ n, Got P w K mg base "show_grove" ["grove"] (3 * n + 1) (spShowG K n) := by
    intro n
    induction n with
    | zero => exact ⟨_, _, none_showG, F_show_grove.kp, b_show_grove, m_show_grove⟩
    | succ n ih =>
      have h1 : Got P w K mg base "show_tree" ["tree"] (3 * n + 2) (spShowT K n) := ⟨_, _, ok_show_tree B ih F_show_tree, F_show_tree.kp, b_show_tree, m_show_tree⟩
      have h2 : Got P w K mg base "show_pair" ["tree", "many"] (3 * n + 3) (spShowP K n) := ⟨_, _, ok_show_pair B h1 F_show_pair, F_show_pair.kp, b_show_pair, m_show_pair⟩
      exact ⟨_, _, ok_show_grove B h2 F_show_grove, F_show_grove.kp, b_show_grove, m_show_grove⟩
  have g_show_grove : Got P w K mg base "show_grove" ["grove"] 61 (spShowG K 20) := r_showG 20
  have g_show_tree : Got P w K mg base "show_tree" ["tree"] 62 (spShowT K 20) := ⟨_, _, ok_show_tree (n := 20) B g_show_grove F_show_tree, F_show_tree.kp, b_show_tree, m_show_tree⟩
  have r_readG : ∀ n, GotX P w K mg base "read_tree" ["text", "at", "left"] (3 * n + 2) (spReadTree K (He.ga K "NoGrove") n) ∧ GotX P w K mg base "read_pairs" ["text", "at", "left"] (3 * n + 4) (spReadPairs K (He.ga K "NoGrove") n) := by
    intro n
    induction n with
    | zero =>
      have h1 : GotX P w K mg base "read_tree" ["text", "at", "left"] (3 * 0 + 2) (spReadTree K (He.ga K "NoGrove") 0) := ⟨_, _, none_spX fun vs H Q E ⟨z, k, l, _, _, _, h, _⟩ => by omega, F_read_tree.kp, b_read_tree, m_read_tree⟩
      have h2 : GotX P w K mg base "read_pair" ["text", "at", "left"] (3 * 0 + 3) (spReadPair K (He.ga K "NoGrove") 0) := ⟨_, _, ok_read_pair B O_NoGrove L_FIGURES L_MOST_FIGURES g_run_of g_sign_at h1 F_read_pair, F_read_pair.kp, b_read_pair, m_read_pair⟩
      exact ⟨h1, ⟨_, _, ok_read_pairs B h2 F_read_pairs, F_read_pairs.kp, b_read_pairs, m_read_pairs⟩⟩
    | succ n ih =>
      have h1 : GotX P w K mg base "read_tree" ["text", "at", "left"] (3 * (n + 1) + 2) (spReadTree K (He.ga K "NoGrove") (n + 1)) := ⟨_, _, ok_read_tree B O_NoGrove L_LETTERS g_run_of g_sign_at ih.2 F_read_tree, F_read_tree.kp, b_read_tree, m_read_tree⟩
      have h2 : GotX P w K mg base "read_pair" ["text", "at", "left"] (3 * (n + 1) + 3) (spReadPair K (He.ga K "NoGrove") (n + 1)) := ⟨_, _, ok_read_pair B O_NoGrove L_FIGURES L_MOST_FIGURES g_run_of g_sign_at h1 F_read_pair, F_read_pair.kp, b_read_pair, m_read_pair⟩
      exact ⟨h1, ⟨_, _, ok_read_pairs B h2 F_read_pairs, F_read_pairs.kp, b_read_pairs, m_read_pairs⟩⟩
  have g_read_pairs : GotX P w K mg base "read_pairs" ["text", "at", "left"] 43 (spReadPairs K (He.ga K "NoGrove") 13) := (r_readG 13).2
  have g_read_grove : GotX P w K mg base "read_grove" ["text"] (100) (spReadG K (He.ga K "NoGrove")) := ⟨_, _, ok_read_grove B O_NoGrove L_MOST_DEEP L_MOST_PARTS g_read_pairs g_is_grove g_parts_of g_deep_of g_show_grove F_read_grove, F_read_grove.kp, b_read_grove, m_read_grove⟩
  have g__law_all : Got P w K mg base "_law_all" ["_law_grove_here"] (1) (spAll20 K) := ⟨_, _, ok__law_all B F__law_all, F__law_all.kp, b__law_all, m__law_all⟩
  have g__law_put : Got P w K mg base "_law_put" ["_law_grove_here", "_law_some"] (1) (spPut20 K) := ⟨_, _, ok__law_put B F__law_put, F__law_put.kp, b__law_put, m__law_put⟩
  have g__law_deed : Got P w K mg base "_law_deed" ["_law_grove_here", "_law_purse_here", "_law_names_here"] (2) (spDeed20 K) := ⟨_, _, ok__law_deed B g__law_take g__law_all F__law_deed, F__law_deed.kp, b__law_deed, m__law_deed⟩
  have g__law_looked : Got P w K mg base "_law_looked" ["_law_grove_here"] (22) (spLooked20 K) := ⟨_, _, ok__law_looked B g__law_all g_size g_deep_of g_parts_of g_tree_at g_bare_places F__law_looked, F__law_looked.kp, b__law_looked, m__law_looked⟩
  have g__law_written : Got P w K mg base "_law_written" ["_law_grove_here", "_law_texts"] (101) (spWritten20 K) := ⟨_, _, ok__law_written B g_show_grove g_read_grove g__law_plain F__law_written, F__law_written.kp, b__law_written, m__law_written⟩
  exact ok_law B g__law_names g__law_purse g__law_deed g__law_put g__law_all g_together g_grove_of g__law_plain g_is_grove g__law_looked g__law_written F_law
end FT
open PySem PySem.W PySem.Calls PyProof.Rows
set_option maxRecDepth 100000 in
set_option maxHeartbeats 0 in
theorem PySem.Challenge.cw_felltimber_k20_whole_groves_grown_holds : PySem.Challenge.rw_felltimber_k20_whole_groves_grown.Holds := by
  w_on; o_law
  refine HandSHeadRun.head_any (r := OpenLaw.row PySem.Challenge.rw_felltimber_k20_whole_groves_grown) (q := view (OpenLaw.row PySem.Challenge.rw_felltimber_k20_whole_groves_grown).prog [49]) (H := FT.hk) (ob := FT.ob) (M := 6000) (loose := FT.loose) (d := HandSHeadRun.topDef (OpenLaw.row PySem.Challenge.rw_felltimber_k20_whole_groves_grown).prog 49) (kwd := []) FT.ob_eq
    (by kernel_rfl) (fun s => by kernel_rfl) FT.run (by kernel_rfl) (by kernel_rfl) (by kernel_rfl) (by rfl) (by first | assumption | decide +kernel) (by decide +kernel) ⟨rfl, rfl, rfl, rfl, rfl, by decide +kernel⟩ ?hw ?hc
  case hw => w_witness2
  case hc =>
    refine L2.walk_ofE (l := PySem.Challenge.rw_felltimber_k20_whole_groves_grown) (n := 63) (k := 106) (x := "_law_script") (CX := L2.CX0) rfl (by decide) (by kernel_rfl) ⟨rfl, by decide, by decide⟩ ?F (fun _ _ _ _ z => z)
    intro w mg fa h Y G hmg0
    obtain ⟨K, KX, c, cx⟩ := Y
    have hmg : mg ("law" : PySem.Str) = some (.ref fa) := by
      have e : (HandSHeadRun.topDef (OpenLaw.row PySem.Challenge.rw_felltimber_k20_whole_groves_grown).prog 49).name = ("law" : PySem.Str) := by kernel_rfl
      rw [← e]
      exact hmg0
    obtain ⟨fd, hb, hF⟩ := FT.facts (P := (PySem.Challenge.rw_felltimber_k20_whole_groves_grown).prog) (w := w) KX G hmg c cx
    exact ⟨K, fd, FT.spLaw K, KX, hb, fun H a ns hl _ hS => ⟨a, ns, rfl, hS, hl, fun _ => rfl⟩, hF⟩
