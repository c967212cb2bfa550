import PyProof.Rows.All
import Wide.All
import OpenK.AllK
import Wide.FinOn
import KE.KStateDown
import KE.SortData
import HandS.ForMost
import HandS.More
import HandS.Walk
import HandS.Zip
import HandS.Style
import HandS.TupAny
import HandS.IsInst
import HandS.Wide
import HandS.Flow
import HandS.WordsExc
import HandS.Defaults
import HandS.Head0
import HandS.Head1
import HandS.Head2
import HandS.HeadEnd
import HandS.HeadHook1
import HandS.HeadHook2
import HandS.HeadNt
import KE.DataCmp
import HandS.SortKw
import PyProof.TupleOfSeq
import HandS.NoneIn
import HandS.ExcIs
import HandS.RevRange
import KE.GoesEnum
import KE.DataAny
import HandS.Conv
import HandS.SortInts
import HandS.FStr
import HandS.Strs
import HandS.TupSets
import HandS.DictComp
import HandS.ExcInit
import HandS.SetKeys
import HandS.SetTxt0
import HandS.SetBool
import HandS.SetFor
import KE.GoesEnumKw
import PyProof.Rows.CallKwBuiltin
import KE.DatumOrd
import HandS.ExcField
import HandS.HotCalls
import HandS.Replace
import HandS.TupLe
import PySem.Challenge.RW_felltimber_k23_no_such_kind
set_option Elab.async false
set_option linter.all false
set_option maxRecDepth 100000
set_option maxHeartbeats 4000000
namespace FT
open PySem PySem.W PySem.Spec PyProof.Rows L2
structure SB (ps : List Addr) (H H' : Hp) : Prop where
  keep : ∀ b o, H b = some o → b ∉ ps → H' b = some o
  tups : ∀ b xs, H b = some (.tup xs) → H' b = some (.tup xs)
  frzs : ∀ b o u, H b = some (.frz o u) → H' b = some (.frz o u)
  dom : ∀ b, H' b = none → H b = none
section
variable {K : PySem.W.Frag} {ps qs : List Addr} {H H' H1 H2 : Hp} {a p : Addr} {xs : List V}
theorem SB.refl : SB ps H H := ⟨fun _ _ h _ => h, fun _ _ h => h, fun _ _ _ h => h, fun _ h => h⟩
theorem SB.trans (a : SB ps H H1) (b : SB ps H1 H2) : SB ps H H2 :=
  ⟨fun c o h n => b.keep c o (a.keep c o h n) n, fun c x h => b.tups c x (a.tups c x h), fun c o u h => b.frzs c o u (a.frzs c o u h), fun c h => a.dom c (b.dom c h)⟩
theorem SB.mono (h : SB ps H H') (hs : ∀ b ∈ ps, b ∈ qs) : SB qs H H' := ⟨fun c o e n => h.keep c o e fun z => n (hs c z), h.tups, h.frzs, h.dom⟩
theorem SB.nil (h : SB [] H H') : SB ps H H' := h.mono fun _ z => absurd z (List.not_mem_nil)
theorem SB.same (h : SB [] H H') : Same H H' := fun b o e => h.keep b o e List.not_mem_nil
theorem SB.new (h : H p = none) (o : HO) : SB ps H (upd H p o) := by
  refine ⟨fun b u e _ => ?_, fun b u e => ?_, fun b v u e => ?_, fun b e => ?_⟩
  · rw [upd_ne (ne_of_none e h)]; exact e
  · rw [upd_ne (ne_of_none e h)]; exact e
  · rw [upd_ne (ne_of_none e h)]; exact e
  · by_cases q : b = p
    · subst q; exact h
    · rw [upd_ne q] at e; exact e
theorem SB.set (h : H p = some (.lst xs)) (hp : p ∈ ps) (o : HO) : SB ps H (upd H p o) := by
  refine ⟨fun b u e n => ?_, fun b u e => ?_, fun b v u e => ?_, fun b e => ?_⟩
  · rw [upd_ne (fun (z : b = p) => n (by rw [z]; exact hp))]; exact e
  · rw [upd_ne (fun (z : b = p) => by subst z; rw [h] at e; cases e)]; exact e
  · rw [upd_ne (fun (z : b = p) => by subst z; rw [h] at e; cases e)]; exact e
  · by_cases q : b = p
    · subst q; rw [upd_same] at e; cases e
    · rw [upd_ne q] at e; exact e
theorem SB.drop (h : SB (p :: ps) H H') (n : H p = none) : SB ps H H' := by
  refine ⟨fun b o e m => h.keep b o e fun z => ?_, h.tups, h.frzs, h.dom⟩
  rcases List.mem_cons.mp z with z | z
  · subst z; rw [n] at e; cases e
  · exact m z
theorem SB.sqT (e : SB ps H H') (h : SqT K H a xs) : SqT K H' a xs := by
  rcases h with (h | ⟨o, h⟩) | h
  · exact .inl (.inl (e.tups _ _ h))
  · exact .inl (.inr ⟨o, e.frzs _ _ _ h⟩)
  · exact .inr h
theorem SB.sqL (e : SB ps H H') (n : a ∉ ps) (h : SqL K H a xs) : SqL K H' a xs := by
  rcases h with (h | ⟨o, h⟩) | h
  · exact .inl (.inl (e.keep _ _ h n))
  · exact .inl (.inr ⟨o, e.frzs _ _ _ h⟩)
  · exact .inr h
theorem SB.ne (e : SB ps H H') {b : Addr} {o : HO} (h : H b = some o) {q : Addr} (n : H' q = none) : b ≠ q := fun z => by
  subst z; rw [e.dom b n] at h; cases h
end
inductive Lad where
  | nil
  | cons (e : Lad) (m : Int) (r : Lad)
  deriving DecidableEq
namespace Lad
def encs : Lad → List PyData
  | .nil => []
  | .cons e m r => .tuple [.tuple e.encs, .int m] :: r.encs
def enc (l : Lad) : PyData := .tuple l.encs
def parts : Lad → Nat
  | .nil => 0
  | .cons e _ r => 1 + e.parts + r.parts
def deep : Lad → Nat
  | .nil => 0
  | .cons e _ r => max (1 + e.deep) r.deep
def len : Lad → Nat
  | .nil => 0
  | .cons _ _ r => 1 + r.len
theorem len_parts : ∀ l : Lad, l.len ≤ l.parts
  | .nil => Nat.le_refl _
  | .cons e m r => by have := len_parts r; show 1 + r.len ≤ 1 + e.parts + r.parts; omega
theorem alikes : ∀ l k : Lad, alikeAll l.encs k.encs = true
  | .nil, _ => by simp [encs, alikeAll]
  | .cons e m r, .nil => by simp [encs, alikeAll]
  | .cons e m r, .cons e' m' r' => by
    have h1 := alikes e e'
    have h2 := alikes r r'
    simp [encs, alikeAll, alike, h1, h2]
theorem alike_enc (l k : Lad) : alike l.enc k.enc = true := by
  show alike (.tuple l.encs) (.tuple k.encs) = true
  rw [alike]; exact alikes l k
theorem encs_depth : ∀ l : Lad, PyData.depthAll l.encs ≤ 2 * l.deep
  | .nil => by simp [encs, PyData.depthAll, deep]
  | .cons e m r => by
    have h1 := encs_depth e
    have h2 := encs_depth r
    simp only [encs, PyData.depthAll, PyData.depth, deep]
    omega
theorem enc_depth (l : Lad) : l.enc.depth ≤ 2 * l.deep + 1 := by
  have := encs_depth l
  simp only [enc, PyData.depth]
  omega
end Lad
def rLtD (K : PySem.W.Frag) : R2 := fun x y H Q => ∃ d e, Dp K H x d ∧ Dp K H y e ∧ alike d e = true ∧ d ≠ .none ∧ d.depth ≤ 100 ∧ Q (.bl (dataLt d e)) H
section
variable {X : Cx}
theorem op_ltD (hu : X.A.units + 100 < cLine) : OpR X (compareOp .Lt) (rLtD X.K) := by
  intro pins s σ H x y v u Q I rx ry h
  obtain ⟨d, e, hd, he, al, hn, hdp, q⟩ := h
  obtain ⟨as, r1⟩ := Dp.reads I d x v hd rx
  obtain ⟨bs, r2⟩ := Dp.reads I e y u he ry
  exact rcLt_alike d e X.A s v u as bs r1 r2 al hn (by have := Nat.min_le_left d.depth e.depth; omega) X.prog X.w X.xe _ ⟨.bl _, H, I, rfl, q⟩
end
mutual
def noList : PyData → Bool
  | .list _ => false
  | .dict _ => false
  | .tuple ds => noLists ds
  | _ => true
def noLists : List PyData → Bool
  | [] => true
  | d :: ds => noList d && noLists ds
end
section
variable {K : PySem.W.Frag} {ps : List Addr} {H H' : Hp}
mutual
theorem Dp_sb (e : SB ps H H') : ∀ (d : PyData) (v : V), noList d = true → Dp K H v d → Dp K H' v d
  | .none, _, _, h => by cases h; exact .non
  | .bool b, _, _, h => by cases h; exact .bl b
  | .int i, _, _, h => by cases h; exact .int i
  | .str x, _, _, h => by cases h; exact .str x
  | .list ds, _, n, _ => by simp [noList] at n
  | .dict ds, _, n, _ => by simp [noList] at n
  | .tuple ds, _, n, h => by
    cases h with
    | tup hs ha => exact .tup (e.sqT hs) (DpAll_sb e ds _ (by simpa [noList] using n) ha)
theorem DpAll_sb (e : SB ps H H') : ∀ (ds : List PyData) (vs : List V), noLists ds = true → DpAll K H vs ds → DpAll K H' vs ds
  | [], _, _, h => by cases h; exact .nil
  | d :: ds, _, n, h => by
    cases h with
    | cons h1 h2 =>
      simp [noLists] at n
      exact .cons (Dp_sb e d _ n.1 h1) (DpAll_sb e ds _ n.2 h2)
end
end
theorem Lad.noLists_encs : ∀ l : Lad, noLists l.encs = true
  | .nil => by simp [Lad.encs, noLists]
  | .cons e m r => by simp [Lad.encs, noLists, noList, Lad.noLists_encs e, Lad.noLists_encs r]
theorem Lad.noList_enc (l : Lad) : noList l.enc = true := by simp [Lad.enc, noList, Lad.noLists_encs l]
/-- at v stands the ladder l -/
def LA (K : PySem.W.Frag) (H : Hp) (v : V) (l : Lad) : Prop := Dp K H v l.enc
section
variable {K : PySem.W.Frag} {ps : List Addr} {H H' : Hp} {v : V} {l : Lad}
theorem LA.sb (h : LA K H v l) (e : SB ps H H') : LA K H' v l := Dp_sb e _ _ l.noList_enc h
theorem LA.tup (h : LA K H v l) : ∃ a xs, v = .ref a ∧ SqT K H a xs ∧ DpAll K H xs l.encs := by
  have h' : Dp K H v (.tuple l.encs) := h
  cases h' with
  | tup hs ha => exact ⟨_, _, rfl, hs, ha⟩
theorem DpAll.length : ∀ {vs : List V} {ds : List PyData}, DpAll K H vs ds → vs.length = ds.length
  | _, _, .nil => rfl
  | _, _, .cons _ t => by rw [List.length_cons, List.length_cons, DpAll.length t]
theorem DpAll.get : ∀ {vs : List V} {ds : List PyData} {i : Nat} {v : V}, DpAll K H vs ds → vs[i]? = some v → ∃ d, ds[i]? = some d ∧ Dp K H v d
  | _, _, _, _, .nil, e => by simp at e
  | _, _, 0, _, .cons h t, e => by simp at e; subst e; exact ⟨_, rfl, h⟩
  | _, _, i + 1, v, .cons h t, e => by
    obtain ⟨d, h1, h2⟩ := DpAll.get (i := i) (v := v) t (by simpa using e)
    exact ⟨d, by simpa using h1, h2⟩
end
end FT
namespace FT
open PySem PySem.W PySem.Spec PyProof.Rows L2
structure BI (mg : Str → Option Value) : Prop where
  len : mg "len" = none
  isinstance : mg "isinstance" = none
  int : mg "int" = none
  bool : mg "bool" = none
  str : mg "str" = none
  tuple : mg "tuple" = none
  list : mg "list" = none
  all : mg "all" = none
  zip : mg "zip" = none
  sum : mg "sum" = none
  max : mg "max" = none
  range : mg "range" = none
  enumerate : mg "enumerate" = none
  abs : mg "abs" = none
  sorted : mg "sorted" = none
  min : mg "min" = none
  reversed : mg "reversed" = none
  any : mg "any" = none
  set : mg "set" = none
  dict : mg "dict" = none
  repr : mg "repr" = none
structure Got (P : Program) (w : World) (K : PySem.W.Frag) (mg : Str → Option Value) (base : Heap) (x : Str) (ps : List Str) (k : Nat) (sp : Sp) : Prop where
  ex : ∃ (f : Addr) (fd : FuncData), FnOk P w K mg base CX0 k f fd ps sp ∧ PySem.W.keepIn K (.ref f) = true ∧ Binds K fd ps [] ∧ mg x = some (.ref f)
section
variable {X : Cx} {x : Str} {ps : List Str} {k : Nat} {sp : Sp} {e : Expr} {es : List Expr} {t : TA} {p pos : Pos}
theorem pe_got (G : Got X.prog X.w X.K X.mg X.base x ps k sp) (hr : Room k X.A) (hg : Gl X x) (ha : PA X (e :: es) t) (hdb : (x == ("__debug__" : Str)) = false := by decide) (he : starEach (e :: es) X.env = (false, eval e X.env) :: starEach es X.env := by rfl) (hpl : (backTo pos (starEach es X.env)).any (·.1) = false := by rfl) :
    PE X (.Call (.Name x p) (e :: es) [] pos) (tCall sp [] E0 t) := by
  obtain ⟨f, fd, h1, h2, h3, h4⟩ := G.ex
  exact pe_call h1 hr hg h4 h2 h3 .nil pass0 ha hdb he hpl
end
def rIsiN (K : PySem.W.Frag) : List V → Hp → VK → Prop := fun xs H Q => ∃ (x : V) (T n : String) (b : Bool), xs = [x, .ty T] ∧ TyX K H x (.type n) ∧ kitB n T = some b ∧ Q (.bl b) H
section
variable {X : Cx}
theorem call_isiN : CallR X (.builtin "isinstance") (rIsiN X.K) := by
  intro pins s σ H xs us Q I r h
  obtain ⟨x, T, n, b, rfl, ty, e, q⟩ := h
  exact call_isi pins s σ H _ us Q I r ⟨x, .ty T, .type n, .type T, b, rfl, .ty T, ty, kit_ty e, q⟩
theorem pe_ty {T : Str} {T' : String} {pos : Pos} (hg : Gl X T) (hm : X.mg T = none) (hv : bootBuiltins T = some (.type T')) (hn : T ≠ "__name__" := by decide) (hd : (T == ("__debug__" : Str)) = false := by decide) : PE X (.Name T pos) (tC (.ty T')) := pe_bltn hg hm hv rfl hn hd
theorem pe_isi {e : Expr} {te : TE} {T : Str} {T' : String} {p p2 pos : Pos} (B : BI X.mg) (he : PE X e te) (hm : X.mg T = none) (hv : bootBuiltins T = some (.type T')) (hg : Gl X "isinstance" := by rfl) (hg2 : Gl X T := by rfl) (hn : T ≠ "__name__" := by decide) (hd : (T == ("__debug__" : Str)) = false := by decide)
   (hs : starEach [e, .Name T p2] X.env = (false, eval e X.env) :: starEach [.Name T p2] X.env := by rfl) (hpl : (backTo pos (starEach [.Name T p2] X.env)).any (·.1) = false := by rfl) :
    PE X (.Call (.Name "isinstance" p) [e, .Name T p2] [] pos) (tCB (rIsiN X.K) (tCons te (tCons (tC (.ty T')) tNil))) :=
  pe_callB call_isiN hg B.isinstance boot_isinstance (pa_cons he (pa_cons (pe_ty hg2 hm hv hn hd) pa_nil) hs) (by decide) (by decide) hs hpl
end
mutual
inductive Th (K : PySem.W.Frag) (ps : List Addr) (H : Hp) : V → PyData → Prop
  | int (i : Int) : Th K ps H (.int i) (.int i)
  | tup {a : Addr} {xs : List V} {ds : List PyData} : SqT K H a xs → ThAll K ps H xs ds → Th K ps H (.ref a) (.tuple ds)
  | oth {v : V} {n : String} : TyX K H v (.type n) → kitB n "tuple" = some false → (kitB n "int" = some false ∨ n = "bool") → (∀ a, v = .ref a → a ∉ ps) → Th K ps H v .none
inductive ThAll (K : PySem.W.Frag) (ps : List Addr) (H : Hp) : List V → List PyData → Prop
  | nil : ThAll K ps H [] []
  | cons {v : V} {vs : List V} {d : PyData} {ds : List PyData} : Th K ps H v d → ThAll K ps H vs ds → ThAll K ps H (v :: vs) (d :: ds)
end
def manyD : PyData → Bool
  | .int i => decide (1 ≤ i)
  | _ => false
section
variable {K : PySem.W.Frag} {ps : List Addr} {H H' : Hp}
theorem SqT_ty {a : Addr} {xs : List V} (h : SqT K H a xs) : TyX K H (.ref a) (.type "tuple") := by
  rcases h with (h | ⟨o, h⟩) | ⟨o, its, n, h, c, _⟩
  · exact .base (.tup h)
  · exact .fTuple h
  · exact .kTuple h c
theorem Th.ty {v : V} {d : PyData} (h : Th K ps H v d) : ∃ n b, TyX K H v (.type n) ∧ kitB n "tuple" = some b ∧ (b = true → ∃ a xs ds, v = .ref a ∧ d = .tuple ds ∧ SqT K H a xs ∧ ThAll K ps H xs ds) ∧ (b = false → (∃ i, d = .int i) ∨ d = .none) := by
  cases h with
  | int i => exact ⟨"int", false, .base (.int i), by decide +kernel, fun z => (nomatch z), fun _ => .inl ⟨i, rfl⟩⟩
  | tup hs ha => exact ⟨"tuple", true, (SqT_ty hs), by decide +kernel, fun _ => ⟨_, _, _, rfl, rfl, hs, ha⟩, fun z => (nomatch z)⟩
  | oth ty k1 k2 _ => exact ⟨_, false, ty, k1, fun z => (nomatch z), fun _ => .inr rfl⟩
theorem Th.whole {v : V} {d : PyData} (h : Th K ps H v d) : ∃ n b1 b2, TyX K H v (.type n) ∧ kitB n "int" = some b1 ∧ (b1 = true → kitB n "bool" = some b2) ∧ ((b1 && !b2) = true → ∃ i, v = .int i ∧ d = .int i) ∧ ((b1 && !b2) = false → manyD d = false) := by
  cases h with
  | int i => exact ⟨"int", true, false, .base (.int i), by decide +kernel, fun _ => by decide +kernel, fun _ => ⟨i, rfl, rfl⟩, fun z => (nomatch z)⟩
  | tup hs ha => exact ⟨"tuple", false, false, (SqT_ty hs), by decide +kernel, fun z => (nomatch z), fun z => (nomatch z), fun _ => rfl⟩
  | @oth v n ty k1 k2 _ =>
    rcases k2 with k2 | k2
    · exact ⟨n, false, false, ty, k2, fun z => (nomatch z), fun z => (nomatch z), fun _ => rfl⟩
    · subst k2
      exact ⟨"bool", true, true, ty, by decide +kernel, fun _ => by decide +kernel, fun z => (nomatch z), fun _ => rfl⟩
theorem ThAll.length : ∀ {vs : List V} {ds : List PyData}, ThAll K ps H vs ds → vs.length = ds.length
  | _, _, .nil => rfl
  | _, _, .cons _ t => by rw [List.length_cons, List.length_cons, ThAll.length t]
theorem ThAll.get : ∀ {vs : List V} {ds : List PyData} {i : Nat} {v : V}, ThAll K ps H vs ds → vs[i]? = some v → ∃ d, ds[i]? = some d ∧ Th K ps H v d
  | _, _, _, _, .nil, e => by simp at e
  | _, _, 0, _, .cons h t, e => by simp at e; subst e; exact ⟨_, rfl, h⟩
  | _, _, i + 1, v, .cons h t, e => by
    obtain ⟨d, h1, h2⟩ := ThAll.get (i := i) (v := v) t (by simpa using e)
    exact ⟨d, by simpa using h1, h2⟩
theorem TyX_sb {v : V} {n : String} (e : SB ps H H') (hn : ∀ a, v = .ref a → a ∉ ps) (h : TyX K H v (.type n)) : TyX K H' v (.type n) := by
  cases h with
  | base h =>
    cases h with
    | non => exact .base .non
    | bl x => exact .base (.bl x)
    | int i => exact .base (.int i)
    | str x => exact .base (.str x)
    | flt x => exact .base (.flt x)
    | lst h => exact .base (.lst (e.keep _ _ h (hn _ rfl)))
    | frz h => exact .base (.frz (e.frzs _ _ _ h))
    | tup h => exact .base (.tup (e.tups _ _ h))
    | dK h => exact .base (.dK (e.keep _ _ h (hn _ rfl)))
    | dT h => exact .base (.dT (e.keep _ _ h (hn _ rfl)))
  | byt b => exact .byt b
  | set h => exact .set (e.keep _ _ h (hn _ rfl))
  | kList h c => exact .kList h c
  | kTuple h c => exact .kTuple h c
  | kDict h c => exact .kDict h c
  | fTuple h => exact .fTuple (e.frzs _ _ _ h)
  | fDict h => exact .fDict (e.frzs _ _ _ h)
end
end FT
namespace FT
open PySem PySem.W PySem.Spec PyProof.Rows L2
/-- the values vs bear the data bs -/
inductive Bears (K : PySem.W.Frag) (H : Hp) {β : Type} (enc : β → PyData) : List V → List β → Prop
  | nil : Bears K H enc [] []
  | cons {v : V} {vs : List V} {b : β} {bs : List β} : Dp K H v (enc b) → Bears K H enc vs bs → Bears K H enc (v :: vs) (b :: bs)
section
variable {K : PySem.W.Frag} {H H' : Hp} {β : Type} {enc : β → PyData} {ps : List Addr}
theorem Bears.length : ∀ {vs : List V} {bs : List β}, Bears K H enc vs bs → vs.length = bs.length
  | _, _, .nil => rfl
  | _, _, .cons _ t => by rw [List.length_cons, List.length_cons, Bears.length t]
theorem Bears.dp : ∀ {vs : List V} {bs : List β}, Bears K H enc vs bs → DpAll K H vs (bs.map enc)
  | _, _, .nil => .nil
  | _, _, .cons h t => .cons h (Bears.dp t)
theorem Bears.of : ∀ {vs : List V} {bs : List β}, DpAll K H vs (bs.map enc) → Bears K H enc vs bs
  | [], [], _ => .nil
  | _ :: _, [], h => by cases h
  | [], _ :: _, h => by cases h
  | v :: vs, b :: bs, h => by
    cases h with
    | cons h1 h2 => exact .cons h1 (Bears.of h2)
theorem Bears.get : ∀ {vs : List V} {bs : List β} {i : Nat} {v : V}, Bears K H enc vs bs → vs[i]? = some v → ∃ b, bs[i]? = some b ∧ Dp K H v (enc b)
  | _, _, _, _, .nil, e => by simp at e
  | _, _, 0, _, .cons h t, e => by simp at e; subst e; exact ⟨_, rfl, h⟩
  | _, _, i + 1, v, .cons h t, e => by
    obtain ⟨d, h1, h2⟩ := Bears.get (i := i) (v := v) t (by simpa using e)
    exact ⟨d, by simpa using h1, h2⟩
theorem Bears.append : ∀ {xs ys : List V} {bs cs : List β}, Bears K H enc xs bs → Bears K H enc ys cs → Bears K H enc (xs ++ ys) (bs ++ cs)
  | _, _, _, _, .nil, h => h
  | _, _, _, _, .cons a b, h => .cons a (Bears.append b h)
theorem Bears.reverse : ∀ {xs : List V} {bs : List β}, Bears K H enc xs bs → Bears K H enc xs.reverse bs.reverse
  | _, _, .nil => .nil
  | _, _, .cons a b => by
    rw [List.reverse_cons, List.reverse_cons]
    exact Bears.append (Bears.reverse b) (.cons a .nil)
theorem Bears.sb (e : SB ps H H') (hn : ∀ b, noList (enc b) = true) : ∀ {xs : List V} {bs : List β}, Bears K H enc xs bs → Bears K H' enc xs bs
  | _, _, .nil => .nil
  | _, _, .cons a b => .cons (Dp_sb e _ _ (hn _) a) (Bears.sb e hn b)
theorem Bears.take (n : Nat) : ∀ {xs : List V} {bs : List β}, Bears K H enc xs bs → Bears K H enc (xs.take n) (bs.take n) := by
  induction n with
  | zero => intro xs bs h; rw [List.take_zero, List.take_zero]; exact .nil
  | succ n ih =>
    intro xs bs h
    cases h with
    | nil => exact .nil
    | cons a b => exact .cons a (ih b)
theorem Bears.drop (n : Nat) : ∀ {xs : List V} {bs : List β}, Bears K H enc xs bs → Bears K H enc (xs.drop n) (bs.drop n) := by
  induction n with
  | zero => intro xs bs h; exact h
  | succ n ih =>
    intro xs bs h
    cases h with
    | nil => exact .nil
    | cons a b => exact ih b
end
section
variable {X : Cx} {pins : List (Addr × Obj)} {σ : L2.St} {H : Hp} {s : Shared} {β : Type} {enc : β → PyData}
theorem each_of (I : Inv X pins σ H s) : ∀ {vs : List V} {us : List Value} {bs : List β}, Bears X.K H enc vs bs → Vals vs us →
    EachIs (fun u b => ∃ v, RelV v u ∧ Dp X.K H v (enc b)) us bs ∧ EachIs (fun u b => ∃ as, Reads s.heap u (enc b) as) us bs
  | _, _, _, .nil, .nil => ⟨.nil, .nil⟩
  | _, _, _, .cons h t, .cons r u => by
    obtain ⟨h1, h2⟩ := each_of I t u
    exact ⟨.cons ⟨_, r, h⟩ h1, .cons (Dp.reads I _ _ _ h r) h2⟩
theorem of_each {K : PySem.W.Frag} : ∀ {us : List Value} {bs : List β}, EachIs (fun u b => ∃ v, RelV v u ∧ Dp K H v (enc b)) us bs → ∃ vs, Vals vs us ∧ Bears K H enc vs bs
  | _, _, .nil => ⟨[], .nil, .nil⟩
  | _, _, .cons ⟨v, r, h⟩ t => by
    obtain ⟨vs, h1, h2⟩ := of_each t
    exact ⟨v :: vs, .cons r h1, .cons h h2⟩
end
end FT
namespace FT
open PySem PySem.W PySem.Spec PyProof.Rows L2
section
variable {P : Program} {w : World} {K : PySem.W.Frag} {mg : Str → Option Value} {base : Heap} {f : Addr} {fd : FuncData}
def spWhole (K : PySem.W.Frag) : Sp := fun vs H Q _ => ∃ (v : V) (n : String) (b1 b2 : Bool), vs = [v] ∧ TyX K H v (.type n) ∧ kitB n "int" = some b1 ∧ (b1 = true → kitB n "bool" = some b2) ∧ Q (.bl (b1 && !b2)) H
def spMany (K : PySem.W.Frag) (ps : List Addr) : Sp := fun vs H Q _ => ∃ (v : V) (d : PyData), vs = [v] ∧ Th K ps H v d ∧ Q (.bl (manyD d)) H
end
def ltsD : List PyData → List Bool
  | [] => []
  | [_] => []
  | a :: b :: r => dataLt a b :: ltsD (b :: r)
def risingD (ds : List PyData) : Bool := (ltsD ds).all id
theorem ltsD_length : ∀ ds : List PyData, (ltsD ds).length = ds.length - 1
  | [] => rfl
  | [_] => rfl
  | a :: b :: r => by
    have h := ltsD_length (b :: r)
    show (ltsD (b :: r)).length + 1 = _
    rw [h]; simp
theorem ltsD_get : ∀ (ds : List PyData) (i : Nat) (d e : PyData), ds[i]? = some d → ds[i + 1]? = some e → (ltsD ds)[i]? = some (dataLt d e)
  | [], _, _, _, h, _ => by simp at h
  | [_], _, _, _, _, h => by simp at h
  | a :: b :: r, 0, d, e, h1, h2 => by simp at h1 h2; subst h1 h2; rfl
  | a :: b :: r, i + 1, d, e, h1, h2 => by
    have := ltsD_get (b :: r) i d e (by simpa using h1) (by simpa using h2)
    simpa [ltsD] using this
theorem cut1 (xs : List V) : cutV xs (some 1) none = xs.drop 1 := by
  unfold cutV
  have h1 : HT.sIx xs.length 0 (some 1) = min 1 xs.length := HT.sIx_nat xs.length 0 1
  have h2 : HT.sIx xs.length xs.length none = xs.length := rfl
  rw [h1, h2]
  cases xs with
  | nil => rfl
  | cons x r =>
    have : min 1 (x :: r).length = 1 := by simp
    rw [this]
    simp
section
variable {P : Program} {w : World} {K : PySem.W.Frag} {mg : Str → Option Value} {base : Heap} {f : Addr} {fd : FuncData}
def OkD (d : PyData) : Prop := noList d = true ∧ d ≠ .none ∧ d.depth ≤ 100
def spRising (K : PySem.W.Frag) : Sp := fun vs H Q _ => ∃ (a : Addr) (xs : List V) (ds : List PyData), vs = [.ref a] ∧ SqL K H a xs ∧ DpAll K H xs ds ∧ (∀ d ∈ ds, OkD d) ∧ AllAlike ds ∧ xs.length ≤ 1000 ∧
  ∀ H', SB [] H H' → Q (.bl (risingD ds)) H'
abbrev N_rising : List Str := ["things", "low", "high"]
end
def Lad.lt (l k : Lad) : Bool := dataLt l.enc k.enc
namespace Lad
def ps : Lad → List (Lad × Int)
  | .nil => []
  | .cons e m r => (e, m) :: r.ps
def pEnc (p : Lad × Int) : PyData := .tuple [p.1.enc, .int p.2]
theorem mem_parts : ∀ (l : Lad) (p : Lad × Int), p ∈ l.ps → p.1.parts < l.parts
  | .nil, _, h => by simp [ps] at h
  | .cons e m r, p, h => by
    rcases List.mem_cons.mp h with h | h
    · subst h; show e.parts < 1 + e.parts + r.parts; omega
    · have := mem_parts r p h; show p.1.parts < 1 + e.parts + r.parts; omega
theorem mem_deep : ∀ (l : Lad) (p : Lad × Int), p ∈ l.ps → p.1.deep < l.deep
  | .nil, _, h => by simp [ps] at h
  | .cons e m r, p, h => by
    rcases List.mem_cons.mp h with h | h
    · subst h; show e.deep < max (1 + e.deep) r.deep; omega
    · have := mem_deep r p h; show p.1.deep < max (1 + e.deep) r.deep; omega
end Lad
def exp0 : PyData → PyData
  | .tuple (e :: _) => e
  | _ => .none
mutual
def ladD : PyData → Bool
  | .tuple ds => ladPs ds && risingD (ds.map exp0).reverse
  | _ => false
def ladPs : List PyData → Bool
  | [] => true
  | d :: ds => ladP d && ladPs ds
def ladP : PyData → Bool
  | .tuple ds => ladP2 ds
  | _ => false
def ladP2 : List PyData → Bool
  | [] => false
  | e :: r => ladD e && ladP3 r
def ladP3 : List PyData → Bool
  | [] => false
  | m :: r => manyD m && r.isEmpty
end
theorem depthAll_get {ds : List PyData} {i : Nat} {d : PyData} (h : ds[i]? = some d) : d.depth ≤ PyData.depthAll ds := PyData.depth_le_depthAll ds d (List.mem_of_getElem? h)
section
variable {P : Program} {w : World} {K : PySem.W.Frag} {mg : Str → Option Value} {base : Heap} {f : Addr} {fd : FuncData} {ps : List Addr}
mutual
def wide : PyData → Nat
  | .tuple ds => max ds.length (wides ds)
  | _ => 0
def wides : List PyData → Nat
  | [] => 0
  | d :: ds => max (wide d) (wides ds)
end
theorem wide_mem : ∀ (ds : List PyData) (d : PyData), d ∈ ds → wide d ≤ wides ds
  | [], _, h => by simp at h
  | e :: ds, d, h => by
    rw [wides]
    rcases List.mem_cons.mp h with h | h
    · subst h; omega
    · have := wide_mem ds d h; omega
theorem wide_tuple (ds : List PyData) : wide (.tuple ds) = max ds.length (wides ds) := by rw [wide]
end
section
variable {K : PySem.W.Frag} {H : Hp}
theorem DpAll.append : ∀ {xs ys : List V} {ds es : List PyData}, DpAll K H xs ds → DpAll K H ys es → DpAll K H (xs ++ ys) (ds ++ es)
  | _, _, _, _, .nil, h => h
  | _, _, _, _, .cons a b, h => .cons a (DpAll.append b h)
theorem DpAll.reverse : ∀ {xs : List V} {ds : List PyData}, DpAll K H xs ds → DpAll K H xs.reverse ds.reverse
  | _, _, .nil => .nil
  | _, _, .cons a b => by
    rw [List.reverse_cons, List.reverse_cons]
    exact DpAll.append (DpAll.reverse b) (.cons a .nil)
end
/-- a purse -/
def Pu (H : Hp) (p : Addr) : Prop := ∃ x y : Int, H p = some (.lst [.int x, .int y]) ∧ 0 ≤ x ∧ 0 ≤ y ∧ y < 2147483629
section
variable {P : Program} {w : World} {K : PySem.W.Frag} {mg : Str → Option Value} {base : Heap} {f : Addr} {fd : FuncData}
theorem ix0 {x y : V} : atI [x, y] 0 = some x := rfl
theorem ix1 {x y : V} : atI [x, y] 1 = some y := rfl
end
mutual
def plainD : PyData → Bool
  | .int _ => true
  | .tuple ds => plainDs ds
  | _ => false
def plainDs : List PyData → Bool
  | [] => true
  | d :: ds => plainD d && plainDs ds
end
theorem Lad.plains : ∀ l : Lad, plainDs l.encs = true
  | .nil => by simp [Lad.encs, plainDs]
  | .cons e m r => by simp [Lad.encs, plainDs, plainD, Lad.plains e, Lad.plains r]
theorem Lad.plain (l : Lad) : plainD l.enc = true := by rw [Lad.enc, plainD]; exact l.plains
theorem ib (m m' : Int) : (m == m') = decide (m = m') := by by_cases h : m = m' <;> simp [h]
theorem Lad.eqvs : ∀ l k : Lad, PyData.eqvAll l.encs k.encs = decide (l = k)
  | .nil, .nil => by simp [encs, PyData.eqvAll]
  | .nil, .cons _ _ _ => by simp [encs, PyData.eqvAll]
  | .cons _ _ _, .nil => by simp [encs, PyData.eqvAll]
  | .cons e m r, .cons e' m' r' => by
    have h1 := Lad.eqvs e e'
    have h2 := Lad.eqvs r r'
    simp [encs, PyData.eqvAll, PyData.eqv, h1, h2, Bool.and_assoc, ib]
theorem Lad.eqv_enc (l k : Lad) : PyData.eqv l.enc k.enc = decide (l = k) := by
  rw [Lad.enc, Lad.enc, PyData.eqv]; exact Lad.eqvs l k
theorem Lad.lt_nil_nil : Lad.lt .nil .nil = false := by decide +kernel
theorem Lad.lt_nil_cons (e : Lad) (m : Int) (r : Lad) : Lad.lt .nil (.cons e m r) = true := by
  unfold Lad.lt Lad.enc
  rw [dataLt_tuple, Lad.encs, Lad.encs, toks_all_cons, show keyToksAll [] = [.inl 0] by simp [keyToksAll], lex_atom (by simp), lex_one]
  decide +kernel
theorem Lad.lt_cons_nil (e : Lad) (m : Int) (r : Lad) : Lad.lt (.cons e m r) .nil = false := by
  unfold Lad.lt Lad.enc
  rw [dataLt_tuple, Lad.encs, Lad.encs, toks_all_cons, show keyToksAll [] = [.inl 0] by simp [keyToksAll], lex_atom (by simp), lex_one]
  decide +kernel
theorem Lad.lt_cons (e e' : Lad) (m m' : Int) (r r' : Lad) : Lad.lt (.cons e m r) (.cons e' m' r') = if e = e' then (if m = m' then r.lt r' else decide (m < m')) else e.lt e' := by
  have al : alike (.tuple [e.enc, .int m]) (.tuple [e'.enc, .int m']) = true := by simp [alike, alikeAll, e.alike_enc e']
  have h1 : Lad.lt (.cons e m r) (.cons e' m' r') = if PyData.eqv (.tuple [e.enc, .int m]) (.tuple [e'.enc, .int m']) = true then r.lt r' else dataLt (.tuple [e.enc, .int m]) (.tuple [e'.enc, .int m']) := by
    unfold Lad.lt
    rw [show (Lad.cons e m r).enc = .tuple (.tuple [e.enc, .int m] :: r.encs) from rfl, show (Lad.cons e' m' r').enc = .tuple (.tuple [e'.enc, .int m'] :: r'.encs) from rfl, dataLt_tuple, dataLt_cons al]
    rw [show dataLt r.enc r'.enc = PyProof.Rows.lexLt itemOrd (keyToksAll r.encs) (keyToksAll r'.encs) from dataLt_tuple _ _]
  have h2 : PyData.eqv (.tuple [e.enc, .int m]) (.tuple [e'.enc, .int m']) = (decide (e = e') && decide (m = m')) := by
    simp [PyData.eqv, PyData.eqvAll, Lad.eqv_enc, ib]
  rw [h1, h2, dataLt_pair (e.alike_enc e') (by simp [alike]), Lad.eqv_enc]
  by_cases he : e = e'
  · by_cases hm : m = m'
    · simp [he, hm]
    · simp [he, hm, PyData.eqv, dataLt_int]
  · simp [he, Lad.lt]
namespace Lad
theorem lt_irrefl : ∀ l : Lad, l.lt l = false
  | .nil => lt_nil_nil
  | .cons e m r => by rw [lt_cons, if_pos rfl, if_pos rfl]; exact lt_irrefl r
theorem lt_nil_r : ∀ l : Lad, l.lt .nil = false
  | .nil => lt_nil_nil
  | .cons e m r => lt_cons_nil e m r
theorem lt_ne {l k : Lad} (h : l.lt k = true) : l ≠ k := fun z => by subst z; rw [lt_irrefl] at h; cases h
theorem lt_tri : ∀ l k : Lad, l ≠ k → l.lt k = false → k.lt l = true
  | .nil, .nil, h, _ => absurd rfl h
  | .nil, .cons e m r, _, h => by rw [lt_nil_cons] at h; cases h
  | .cons e m r, .nil, _, _ => lt_nil_cons e m r
  | .cons e m r, .cons e' m' r', hne, h => by
    rw [lt_cons] at h ⊢
    by_cases he : e = e'
    · subst he
      rw [if_pos rfl] at h ⊢
      by_cases hm : m = m'
      · subst hm
        rw [if_pos rfl] at h ⊢
        exact lt_tri r r' (fun z => hne (by rw [z])) h
      · rw [if_neg hm] at h
        rw [if_neg (fun z => hm z.symm)]
        have := of_decide_eq_false h
        exact decide_eq_true (by omega)
    · rw [if_neg he] at h
      rw [if_neg (fun z => he z.symm)]
      exact lt_tri e e' he h
theorem lt_trans : ∀ l k j : Lad, l.lt k = true → k.lt j = true → l.lt j = true
  | _, _, .nil, _, h => by rw [lt_nil_r] at h; cases h
  | _, .nil, .cons _ _ _, h, _ => by rw [lt_nil_r] at h; cases h
  | .nil, .cons _ _ _, .cons e m r, _, _ => lt_nil_cons e m r
  | .cons e m r, .cons e' m' r', .cons e'' m'' r'', h1, h2 => by
    rw [lt_cons] at h1 h2 ⊢
    by_cases he : e = e'
    · subst he
      rw [if_pos rfl] at h1
      by_cases he2 : e = e''
      · subst he2
        rw [if_pos rfl] at h2 ⊢
        by_cases hm : m = m'
        · subst hm
          rw [if_pos rfl] at h1
          by_cases hm2 : m = m''
          · subst hm2
            rw [if_pos rfl] at h2 ⊢
            exact lt_trans r r' r'' h1 h2
          · rw [if_neg hm2] at h2 ⊢
            exact h2
        · rw [if_neg hm] at h1
          have a1 := of_decide_eq_true h1
          by_cases hm2 : m' = m''
          · subst hm2
            rw [if_neg hm]
            exact h1
          · rw [if_neg hm2] at h2
            have a2 := of_decide_eq_true h2
            rw [if_neg (by omega)]
            exact decide_eq_true (by omega)
      · rw [if_neg he2] at h2 ⊢
        exact h2
    · rw [if_neg he] at h1
      by_cases he2 : e' = e''
      · subst he2
        rw [if_neg he]
        exact h1
      · rw [if_neg he2] at h2
        have h3 := lt_trans e e' e'' h1 h2
        rw [if_neg (lt_ne h3)]
        exact h3
/-- a right ladder: numbers from 1 to below B, exponents falling, at each depth -/
def Ok (B : Int) : Lad → Prop
  | .nil => True
  | .cons e m r => e.Ok B ∧ 1 ≤ m ∧ m < B ∧ r.Ok B ∧ ∀ p ∈ r.ps, p.1.lt e = true
theorem Ok.mono {B C : Int} (h : B ≤ C) : ∀ {l : Lad}, l.Ok B → l.Ok C
  | .nil, _ => trivial
  | .cons e m r, ⟨h1, h2, h3, h4, h5⟩ => ⟨Ok.mono h h1, h2, by omega, Ok.mono h h4, h5⟩
end Lad
theorem Pu.sb {H H' : Hp} {p : Addr} (h : Pu H p) (e : SB [] H H') : Pu H' p := by
  obtain ⟨x, y, h1, h2⟩ := h
  exact ⟨x, y, e.keep _ _ h1 List.not_mem_nil, h2⟩
section
variable {P : Program} {w : World} {K : PySem.W.Frag} {mg : Str → Option Value} {base : Heap} {f : Addr} {fd : FuncData}
def spLaw (K : PySem.W.Frag) : Sp := fun vs H Q _ => ∃ (a : Addr) (ns : List Int), vs = [.ref a] ∧ SqL K H a (ns.map V.int) ∧ ns.length ≤ 63 ∧ ∀ H', Q (.bl true) H'
end
section
variable {P : Program} {w : World} {K : PySem.W.Frag} {mg : Str → Option Value} {base : Heap} {f : Addr} {fd : FuncData}
theorem none_sp {ps : List Str} {k : Nat} {sp : Sp} (no : ∀ vs H Q E, ¬ sp vs H Q E) : FnOk P w K mg base CX0 k f fd ps sp :=
  ⟨fun vs H Q E h => absurd h (no vs H Q E), fun A outer s H args us vs Q E _ _ _ _ h => absurd h (no vs H Q E)⟩
end
end FT
namespace FT
open PySem PySem.W PySem.Spec PyProof.Rows L2
namespace Lad
abbrev srt (bs : List (Lad × Int)) : List (Lad × Int) := bs.mergeSort (dataLe false pEnc)
end Lad
end FT
namespace FT
open PySem PySem.W PySem.Spec PyProof.Rows L2
def rCatB (K : PySem.W.Frag) : R2 := fun x y H Q => ∃ a b xs ys, x = .ref a ∧ y = .ref b ∧ SqT K H a xs ∧ SqT K H b ys ∧ xs.length + ys.length ≤ 10000 ∧ ∀ c H', SB [] H H' → SqT K H' c (xs ++ ys) → Q (.ref c) H'
section
variable {X : Cx}
theorem op_catB : OpR X (binaryOp .Add) (rCatB X.K) := by
  intro pins s σ H x y v u Q I rx ry h
  obtain ⟨a, b, xs, ys, rfl, rfl, ha, hb, hz, q⟩ := h
  refine op_catA pins s σ H _ _ v u Q I rx ry ⟨a, b, xs, ys, rfl, rfl, ha, hb, by rw [sizeLine_eq]; omega, fun e => ?_, fun e1 e2 => ?_, fun e1 e2 p hp => ?_⟩
  · subst e; exact q b H SB.refl hb
  · subst e2; exact q a H SB.refl (by rw [List.append_nil]; exact ha)
  · exact q p _ (SB.new hp _) (SqT.of upd_same)
end
theorem cutDrop (xs : List V) (k : Nat) : cutV xs (some (k : Int)) none = xs.drop k := by
  unfold cutV
  have h1 : HT.sIx xs.length 0 (some (k : Int)) = min k xs.length := HT.sIx_nat xs.length 0 k
  have h2 : HT.sIx xs.length xs.length none = xs.length := rfl
  rw [h1, h2]
  by_cases h : k ≤ xs.length
  · rw [Nat.min_eq_left h, List.take_of_length_le (by rw [List.length_drop]; omega)]
  · rw [Nat.min_eq_right (by omega), List.drop_eq_nil_of_le (Nat.le_refl _), List.drop_eq_nil_of_le (by omega)]
    simp
namespace Lad
def sumAt (ps : List (Lad × Int)) (e : Lad) : Int := ((ps.filter fun p => decide (p.1 = e)).map (·.2)).sum
end Lad
end FT
namespace FT
open PySem PySem.W PySem.Spec PyProof.Rows L2
theorem Pu.new {H : Hp} {p q : Addr} (h : Pu H p) (n : H q = none) {o : HO} : Pu (upd H q o) p := by
  obtain ⟨x, y, h1, h2⟩ := h
  exact ⟨x, y, by rw [upd_ne (ne_of_none h1 n)]; exact h1, h2⟩
theorem Pu.ne {H : Hp} {p q : Addr} (h : Pu H p) (n : H q = none) : p ≠ q := by
  obtain ⟨x, y, h1, h2⟩ := h
  exact ne_of_none h1 n
theorem SB.drop2 {p q : Addr} {H H' : Hp} (h : SB [p, q] H H') (n : H q = none) : SB [p] H H' := by
  refine ⟨fun b o e m => h.keep b o e fun z => ?_, h.tups, h.frzs, h.dom⟩
  have z' : b = p ∨ b = q := by simpa using z
  rcases z' with z | z
  · exact m (by simp [z])
  · subst z; rw [n] at e; cases e
end FT
namespace FT
open PySem PySem.W PySem.Spec PyProof.Rows L2
theorem Bears.at {K : PySem.W.Frag} {H : Hp} {β : Type} {enc : β → PyData} : ∀ {vs : List V} {bs : List β} {i : Nat} {b : β}, Bears K H enc vs bs → bs[i]? = some b → ∃ v, vs[i]? = some v ∧ Dp K H v (enc b)
  | _, _, _, _, .nil, e => by simp at e
  | _, _, 0, _, .cons h t, e => by simp at e; subst e; exact ⟨_, rfl, h⟩
  | _, _, i + 1, b, .cons h t, e => by
    obtain ⟨d, h1, h2⟩ := Bears.at (i := i) (b := b) t (by simpa using e)
    exact ⟨d, by simpa using h1, h2⟩
theorem Bears.set {K : PySem.W.Frag} {H : Hp} {β : Type} {enc : β → PyData} {v : V} {b : β} (hv : Dp K H v (enc b)) : ∀ {vs : List V} {bs : List β} (i : Nat), Bears K H enc vs bs → Bears K H enc (vs.set i v) (bs.set i b)
  | _, _, _, .nil => .nil
  | _, _, 0, .cons h t => .cons hv t
  | _, _, i + 1, .cons h t => .cons h (Bears.set hv i t)
namespace Lad
theorem le_trans {a b c : Lad} (h1 : b.lt a = false) (h2 : c.lt b = false) : c.lt a = false := by
  cases e : c.lt a with
  | false => rfl
  | true =>
    by_cases hab : a = b
    · subst hab; rw [e] at h2; cases h2
    · have h3 : a.lt b = true := lt_tri b a (fun z => hab z.symm) h1
      have h4 := lt_trans c a b e h3
      rw [h4] at h2; cases h2
end Lad
end FT
namespace FT
open PySem PySem.W PySem.Spec PyProof.Rows L2
section
variable {prog : Program} {w : World} {A : Around} {E : Value → Shared → Prop} {s : Shared} {β : Type} {vs : List Value} {bs : List β} {enc : β → PyData} {R : Value → β → Prop}
/-- sorted(t, ..), t a tuple of data that are alike -/
theorem sorted_tupK {t : Addr} {kw : List (Str × Value)} {b : Bool} {Q : Value → Shared → Prop} (hkw : ∀ a, Builtin.«list.sort» ⟨[.ref a], kw⟩ = Builtin.«list.sort» ⟨[.ref a], [(Str.ofString "reverse", .bool b)]⟩) (ha1 : argsOk "sorted" ⟨[.ref t], kw⟩) (ha2 : ∀ x, argsOk "list.sort" ⟨[.ref x], kw⟩)
    (ht : IsTup s.heap t vs.toArray) (e : EachIs R vs bs) (er : EachIs (fun v b => ∃ as, Reads s.heap v (enc b) as) vs bs) (hal : AllAlike (bs.map enc)) (hk : Sortable (bs.map enc)) (hL : bs.length ≤ sizeLine)
    (hu : ∀ b, b ∈ bs → A.units + 2 + (enc b).depth < cLine)
    (h : ∀ (out : List Value) (h' h2 : Heap) (n : Nat), (∀ b o, s.heap.get? b = some o → h'.get? b = some o) → (∀ b o, h'.get? b = some o → h2.get? b = some o) → h2.get? h'.objs.size = some (seqObj "list" out.toArray n) → out.length = bs.length → EachIs R out (bs.mergeSort (dataLe b enc)) → Q (.ref h'.objs.size) { s with heap := h2 }) :
    wpAny (model prog w) A (call (.builtin "sorted") [.ref t] kw) Q E s := by
  have hlen : vs.length ≤ sizeLine := by rw [e.length]; exact hL
  obtain ⟨o, ho, hc, n0, hd⟩ := id ht
  refine call_function_entry_kw kind_sorted plain_sorted entry_sorted ha1 ?_
  unfold Builtin.«sorted»
  refine wpAny_bind (m := checkCount "sorted" 1 1 _) (wpAny_pure ?_)
  refine wpAny_bind (wpAny_collect_seq t (.inr rfl) ho hc hd (fun h' hk' => ?_) (by rw [List.size_toArray]; exact hlen))
  refine wpAny_bind (wpAny_newList ?_ hlen)
  show wpAny _ _ _ _ _ { s with heap := h'.push (seqObj "list" vs.toArray 0) }
  have hat : (h'.push (seqObj "list" vs.toArray 0)).get? h'.objs.size = some (seqObj "list" vs.toArray 0) := Heap.get?_push_size _ rfl
  refine wpAny_bind (wpAny_holding (wpAny_call_entry_kw slot_list_sort ⟨_, hat, rfl⟩ entry_list_sort ?body (ha2 _)))
  case body =>
    rw [hkw]
    have old : ∀ b o, h'.get? b = some o → (sortingHeap (h'.push (seqObj "list" vs.toArray 0)) h'.objs.size vs).get? b = some o := fun b o q => sortingHeap_old (Nat.ne_of_lt (Heap.lt_size q)) (Heap.get?_push_of_some _ q)
    have er' : EachIs (fun v b => ∃ as, Reads (sortingHeap (h'.push (seqObj "list" vs.toArray 0)) h'.objs.size vs) v (enc b) as) vs bs := er.mono fun _ _ ⟨as, r⟩ => ⟨as, PyProof.Rows.Reads.keeps (fun b o q => old b o (hk' b o q)) r⟩
    refine list_sort_rev_vals (s := { s with heap := h'.push (seqObj "list" vs.toArray 0) }) (κ := dataKind (sortingHeap (h'.push (seqObj "list" vs.toArray 0)) h'.objs.size vs) (bs.map enc)) hat (SortsAt.data (s := { s with heap := sortingHeap (h'.push (seqObj "list" vs.toArray 0)) h'.objs.size vs }) (each_map (R := fun v d => ∃ as, Reads (sortingHeap (h'.push (seqObj "list" vs.toArray 0)) h'.objs.size vs) v d as) enc er') hal hk (bound_map hu)) hlen ?_
    refine ⟨_, rfl, wpAny_pure ⟨_, rfl, ?_⟩⟩
    obtain ⟨n2, hn2⟩ := sortedHeap_at (out := (sortVals (dataKind (sortingHeap (h'.push (seqObj "list" vs.toArray 0)) h'.objs.size vs) (bs.map enc)) b vs vs).toArray) hat
    refine h _ h' _ n2 hk' (fun b o q => ?_) hn2 (by rw [sortVals_length b rfl]; exact e.length) (sortVals_data b e er' hal)
    rw [sortedHeap_old (Nat.ne_of_lt (Heap.lt_size q)) (by rw [size_push']; exact Nat.lt_succ_of_lt (Heap.lt_size q))]
    exact Heap.get?_push_of_some _ q
end
/-- sorted(t), sorted(t, reverse=b) -/
def rSortedT (K : PySem.W.Frag) {β : Type} (enc : β → PyData) (b : Bool) (vs : List V) (H : Hp) (Q : VK) : Prop := ∃ (a : Addr) (xs : List V) (bs : List β), vs = [V.ref a] ∧ SqT K H a xs ∧ Bears K H enc xs bs ∧ AllAlike (bs.map enc) ∧ Sortable (bs.map enc) ∧ bs.length ≤ 10000 ∧ (∀ b ∈ bs, (enc b).depth ≤ 100) ∧
  ∀ (p : Addr) (ys : List V), H p = none → Bears K H enc ys (bs.mergeSort (dataLe b enc)) → Q (.ref p) (upd H p (.lst ys))
section
variable {X : Cx}
theorem sortedT_run {β : Type} {enc : β → PyData} {b : Bool} {kw : List (Str × Value)} (hu : X.A.units + 110 < cLine) (hkw : ∀ a, Builtin.«list.sort» ⟨[.ref a], kw⟩ = Builtin.«list.sort» ⟨[.ref a], [(Str.ofString "reverse", .bool b)]⟩) (ha1 : ∀ t, argsOk "sorted" ⟨[.ref t], kw⟩) (ha2 : ∀ x, argsOk "list.sort" ⟨[.ref x], kw⟩)
    {pins : List (Addr × Obj)} {s : Shared} {σ : L2.St} {H : Hp} {vs : List V} {us : List Value} {Q : VK} (I : Inv X pins σ H s) (r : Vals vs us) (h : rSortedT X.K enc b vs H Q) : wpAny (model X.prog X.w) X.A (call (.builtin "sorted") us kw) (EP X pins σ Q) X.xe s := by
  obtain ⟨a, xs, bs, rfl, hs, hb, hal, hsr, hl, hd, q⟩ := h
  obtain ⟨its, rv, hli, _⟩ := I.tuple hs
  rw [Vals.ref1 r]
  obtain ⟨e1, e2⟩ := each_of I hb rv
  refine sorted_tupK (vs := its) (bs := bs) (enc := enc) (R := fun u b => ∃ v, RelV v u ∧ Dp X.K H v (enc b)) hkw (ha1 _) ha2 hli e1 e2 hal hsr (by rw [sizeLine_eq]; omega) (fun b m => by have := hd b m; omega) fun out h' h2 n k1 k2 hat ho h1 => ?_
  obtain ⟨ys, g2, g3⟩ := of_each h1
  have I' : Inv X pins σ H { s with heap := h' } := I.kept (t' := s.toks) k1
  have hlen : ys.length ≤ sizeLine := by rw [g2.length, ho, sizeLine_eq]; omega
  exact ⟨.ref _, upd H h'.objs.size (.lst ys), I'.laid (t' := s.toks) (fun b o e => k2 b o e) (Nat.le_refl _) ⟨hlen, out, n, g2, hat⟩, rfl, q _ ys (I'.hok.fresh (Nat.le_refl _)) g3⟩
theorem cr_sortedT {β : Type} (enc : β → PyData) (hu : X.A.units + 110 < cLine) : CallR X (.builtin "sorted") (rSortedT X.K enc false) := by
  intro pins s σ H vs us Q I r h
  exact sortedT_run (kw := []) hu plain_is_rev (fun _ => args_sorted1 _) (fun _ => args_list_sort _) I r h
end
end FT
namespace FT
open PySem PySem.W PySem.Spec PyProof.Rows L2
section
variable {γ : Type} [DecidableEq γ]
def pairE (enc : γ → PyData) (p : γ × Int) : PyData := .tuple [enc p.1, .int p.2]
end
theorem Bears.snoc {K : PySem.W.Frag} {H : Hp} {β : Type} {enc : β → PyData} {vs : List V} {bs : List β} {b : β} (h : Bears K H enc vs (bs ++ [b])) : ∃ us u, vs = us ++ [u] ∧ Bears K H enc us bs ∧ Dp K H u (enc b) := by
  induction bs generalizing vs with
  | nil =>
    cases h with
    | cons h1 h2 => cases h2; exact ⟨[], _, rfl, .nil, h1⟩
  | cons c r ih =>
    cases h with
    | cons h1 h2 =>
      obtain ⟨us, u, e, h3, h4⟩ := ih h2
      exact ⟨_ :: us, u, by rw [e]; rfl, .cons h1 h3, h4⟩
end FT
namespace FT
open PySem PySem.W PySem.Spec PyProof.Rows L2
theorem Th.weak {K : PySem.W.Frag} {ps : List Addr} {H : Hp} : ∀ {v : V} {d : PyData}, Th K ps H v d → Th K [] H v d := by
  intro v d h
  have key : ∀ (n : Nat) (d : PyData) (v : V), sizeOf d < n → Th K ps H v d → Th K [] H v d := by
    intro n
    induction n with
    | zero => intro d v hn; omega
    | succ n ih =>
      intro d v hn h
      cases h with
      | int i => exact .int i
      | oth ty k1 k2 hn => exact .oth ty k1 k2 (fun _ _ => List.not_mem_nil)
      | @tup a xs ds hs ha =>
        refine .tup hs ?_
        have hl : ∀ (xs : List V) (ds : List PyData), sizeOf ds < n + 1 → ThAll K ps H xs ds → ThAll K [] H xs ds := by
          intro xs
          induction xs with
          | nil => intro ds _ h; cases h; exact .nil
          | cons x r ihr =>
            intro ds hd h
            cases h with
            | @cons _ _ d1 dr h1 h2 =>
              have e : sizeOf (d1 :: dr) = 1 + sizeOf d1 + sizeOf dr := by simp
              exact .cons (ih d1 x (by omega) h1) (ihr dr (by omega) h2)
        have e : sizeOf (PyData.tuple ds) = 1 + sizeOf ds := by simp
        exact hl xs ds (by omega) ha
  exact key (sizeOf d + 1) d v (by omega) h
theorem ThAll.append {K : PySem.W.Frag} {ps : List Addr} {H : Hp} : ∀ {xs ys : List V} {ds es : List PyData}, ThAll K ps H xs ds → ThAll K ps H ys es → ThAll K ps H (xs ++ ys) (ds ++ es)
  | _, _, _, _, .nil, h => h
  | _, _, _, _, .cons a b, h => .cons a (ThAll.append b h)
theorem ThAll.reverse {K : PySem.W.Frag} {ps : List Addr} {H : Hp} : ∀ {xs : List V} {ds : List PyData}, ThAll K ps H xs ds → ThAll K ps H xs.reverse ds.reverse
  | _, _, .nil => .nil
  | _, _, .cons a b => by
    rw [List.reverse_cons, List.reverse_cons]
    exact ThAll.append (ThAll.reverse b) (.cons a .nil)
theorem ThAll.take {K : PySem.W.Frag} {ps : List Addr} {H : Hp} (n : Nat) : ∀ {xs : List V} {ds : List PyData}, ThAll K ps H xs ds → ThAll K ps H (xs.take n) (ds.take n) := by
  induction n with
  | zero => intro xs ds h; rw [List.take_zero, List.take_zero]; exact .nil
  | succ n ih =>
    intro xs ds h
    cases h with
    | nil => exact .nil
    | cons a b => exact .cons a (ih b)
theorem ThAll.drop {K : PySem.W.Frag} {ps : List Addr} {H : Hp} (n : Nat) : ∀ {xs : List V} {ds : List PyData}, ThAll K ps H xs ds → ThAll K ps H (xs.drop n) (ds.drop n) := by
  induction n with
  | zero => intro xs ds h; exact h
  | succ n ih =>
    intro xs ds h
    cases h with
    | nil => exact .nil
    | cons a b => exact ih b
/-- how far a thing goes: depth and width -/
def Fits (n m : Nat) (d : PyData) : Prop := d.depth ≤ n ∧ wide d ≤ m
theorem Fits.mono {n m n' m' : Nat} {d : PyData} (h : Fits n m d) (h1 : n ≤ n') (h2 : m ≤ m') : Fits n' m' d := ⟨Nat.le_trans h.1 h1, Nat.le_trans h.2 h2⟩
end FT
namespace FT
open PySem PySem.W PySem.Spec PyProof.Rows L2
namespace Lad
theorem sumAt_nil (x : Lad) : sumAt [] x = 0 := rfl
theorem sumAt_cons (e : Lad) (m : Int) (r : List (Lad × Int)) (x : Lad) : sumAt ((e, m) :: r) x = (if e = x then m else 0) + sumAt r x := by
  unfold sumAt
  rw [List.filter_cons]
  by_cases h : e = x
  · simp [h]
  · simp [h]
theorem sumAt_zero {bs : List (Lad × Int)} {x : Lad} (h : ∀ p ∈ bs, p.1 ≠ x) : sumAt bs x = 0 := by
  unfold sumAt
  have : bs.filter (fun p => decide (p.1 = x)) = [] := by
    rw [List.filter_eq_nil_iff]
    intro p hp
    simpa using h p hp
  rw [this]; rfl
/-- the many at an exponent -/
abbrev S (l : Lad) (x : Lad) : Int := sumAt l.ps x
section
variable {B C : Int}
theorem S_top {e : Lad} {m : Int} {r : Lad} (h : (Lad.cons e m r).Ok B) : S (.cons e m r) e = m := by
  show sumAt ((e, m) :: r.ps) e = m
  rw [sumAt_cons, if_pos rfl, sumAt_zero fun p hp => lt_ne (h.2.2.2.2 p hp)]
  omega
theorem S_above {e : Lad} {m : Int} {r x : Lad} (h : (Lad.cons e m r).Ok B) (hx : e.lt x = true) : S (.cons e m r) x = 0 := by
  show sumAt ((e, m) :: r.ps) x = 0
  rw [sumAt_cons, if_neg (lt_ne hx), sumAt_zero fun p hp => lt_ne (lt_trans _ _ _ (h.2.2.2.2 p hp) hx)]
  rfl
/-- less by the first exponent, from above, at which they differ -/
def LT' (l k : Lad) : Prop := ∃ x, S l x < S k x ∧ ∀ y, x.lt y = true → S l y = S k y
theorem lt_of {l k : Lad} : ∀ (_ : l.Ok B) (_ : k.Ok C), l.lt k = true → LT' l k := by
  induction l generalizing k with
  | nil =>
    intro hl hk h
    cases k with
    | nil => rw [lt_nil_nil] at h; cases h
    | cons e m r =>
      refine ⟨e, ?_, fun y hy => ?_⟩
      · rw [S_top hk]; show sumAt [] e < m; rw [sumAt_nil]; have := hk.2.1; omega
      · rw [S_above hk hy]; rfl
  | cons e m r _ ih =>
    intro hl hk h
    cases k with
    | nil => rw [lt_cons_nil] at h; cases h
    | cons e' m' r' =>
      rw [lt_cons] at h
      by_cases he : e = e'
      · subst he
        rw [if_pos rfl] at h
        by_cases hm : m = m'
        · subst hm
          rw [if_pos rfl] at h
          obtain ⟨x, h1, h2⟩ := ih hl.2.2.2.1 hk.2.2.2.1 h
          refine ⟨x, ?_, fun y hy => ?_⟩
          · show sumAt ((e, m) :: r.ps) x < sumAt ((e, m) :: r'.ps) x
            rw [sumAt_cons, sumAt_cons]
            have : sumAt r.ps x < sumAt r'.ps x := h1
            omega
          · show sumAt ((e, m) :: r.ps) y = sumAt ((e, m) :: r'.ps) y
            rw [sumAt_cons, sumAt_cons]
            have : sumAt r.ps y = sumAt r'.ps y := h2 y hy
            omega
        · rw [if_neg hm] at h
          exact ⟨e, by rw [S_top hl, S_top hk]; exact of_decide_eq_true h, fun y hy => by rw [S_above hl hy, S_above hk hy]⟩
      · rw [if_neg he] at h
        refine ⟨e', ?_, fun y hy => ?_⟩
        · rw [S_above hl h, S_top hk]; have := hk.2.1; omega
        · rw [S_above hl (lt_trans _ _ _ h hy), S_above hk hy]
/-- two right ladders with the same numbers are one -/
theorem ext {l k : Lad} (hl : l.Ok B) (hk : k.Ok C) (h : ∀ x, S l x = S k x) : l = k := by
  by_cases e : l = k
  · exact e
  · cases hlk : l.lt k with
    | true => obtain ⟨x, h1, _⟩ := lt_of hl hk hlk; have := h x; omega
    | false => obtain ⟨x, h1, _⟩ := lt_of hk hl (lt_tri l k e hlk); have := h x; omega
end
end Lad
end FT
namespace FT
open PySem PySem.W PySem.Spec PyProof.Rows L2
/-- a class of errors of the program's own -/
structure Own (K : PySem.W.Frag) (mg : Str → Option Value) (x : Str) (C : Addr) : Prop where
  gC : mg x = some (.ref C)
  q : PySem.W.excIn K C He.veBase "ValueError.__new__" = true
  k : PySem.W.keepIn K (.ref C) = true
  s : PySem.W.subIn K (.ref C) (.type "BaseException") = some true
  t : PySem.W.typeIn K (.ref C) = some (.type "type")
end FT
namespace FT
open PySem PySem.W PySem.Spec PyProof.Rows L2
/-- as Got, for a def that may raise -/
structure GotX (P : Program) (w : World) (K : PySem.W.Frag) (mg : Str → Option Value) (base : Heap) (x : Str) (ps : List Str) (k : Nat) (sp : Sp) : Prop where
  ex : ∃ (f : Addr) (fd : FuncData), FnOk P w K mg base (L2.CX P w) k f fd ps sp ∧ PySem.W.keepIn K (.ref f) = true ∧ Binds K fd ps [] ∧ mg x = some (.ref f)
section
variable {X : Cx} {x : Str} {ps : List Str} {k : Nat} {sp : Sp} {e : Expr} {es : List Expr} {t : TA} {p pos : Pos}
theorem pe_gotX (G : GotX X.prog X.w X.K X.mg X.base x ps k sp) (hr : Room k X.A) (hg : Gl X x) (ha : PA X (e :: es) t) (hdb : (x == ("__debug__" : Str)) = false := by decide) (he : starEach (e :: es) X.env = (false, eval e X.env) :: starEach es X.env := by rfl) (hpl : (backTo pos (starEach es X.env)).any (·.1) = false := by rfl) :
    PE X (.Call (.Name x p) (e :: es) [] pos) (tCall sp [] E0 t) := by
  obtain ⟨f, fd, h1, h2, h3, h4⟩ := G.ex
  exact pe_call h1 hr hg h4 h2 h3 .nil passL ha hdb he hpl
theorem pe_gotS {W : WX} (G : GotX X.prog X.w X.K X.mg X.base x ps k sp) (hr : Room k X.A) (hg : Gl X x) (tk : Takes X W) (ha : PA X (e :: es) t) (hdb : (x == ("__debug__" : Str)) = false := by decide) (he : starEach (e :: es) X.env = (false, eval e X.env) :: starEach es X.env := by rfl) (hpl : (backTo pos (starEach es X.env)).any (·.1) = false := by rfl) :
    PE X (.Call (.Name x p) (e :: es) [] pos) (tCallS sp (WE W) t) := by
  obtain ⟨f, fd, h1, h2, h3, h4⟩ := G.ex
  exact pe_callS h1 hr hg h4 h2 h3 (fun σ => passAt tk σ) ha hdb he hpl
end
abbrev AlE : Type := He.AlD × Bool
def obsE (n : Nat) (fa : List He.Fa) (fn : List He.DefD) (ex : PySem.W.Frag → Bool) (g : Addr → Option Obj) : AlE := (He.obsD fa fn (He.frG g (He.asD g n)), ex (He.frG g (He.asD g n)))
def hookE (n : Nat) (fa : List He.Fa) (fn : List He.DefD) (ex : PySem.W.Frag → Bool) : PySem.W.Hook where
  α := AlE
  obs := fun s => obsE n fa fn ex s.heap.get?
  val := fun _ => (He.valD fn, true)
  says := fun _ h => ∃ K : PySem.W.Frag, K.In h ∧ He.SaysD fa fn K ∧ ex K = true
  of := fun _ _ e => ⟨_, He.frG_in, congrArg (fun z : AlE => z.1) e, congrArg (fun z : AlE => z.2) e⟩
  keeps := fun _ _ _ ⟨K, hK, c⟩ k => ⟨K, PySem.W.Frag.In.keeps hK k, c⟩
theorem obsE_eq {n : Nat} {fa : List He.Fa} {fn : List He.DefD} {ex : PySem.W.Frag → Bool} {g : Addr → Option Obj} {s : Shared} (h : ∀ a, g a = s.heap.get? a) : obsE n fa fn ex g = (hookE n fa fn ex).obs s := by
  have e : g = s.heap.get? := funext h
  rw [e] <;> rfl
/-- what isinstance wants of an own class of errors, as a test -/
def excCB (K : PySem.W.Frag) (D : Addr) : Bool :=
  He.eqO (PySem.W.findIn K (.ref D) "__getattribute__") (some (some (.builtin "BaseException.__getattribute__"))) && (He.eqO (PySem.W.findIn K (.ref D) "__getattr__") (some none) && (decide (PySem.W.subIn K (.ref D) (.type "BaseException") = some true) && (PySem.W.hasDictIn K D && (He.eqO (PySem.W.findIn K (.ref D) "__class__") (some (some (.builtin "object.__class__"))) &&
  (He.eqO (PySem.W.specialIn K (.builtin "object.__class__") "__get__") (some (some (.builtin "getset_descriptor.__get__"))) && (decide (PySem.W.takesIn K (.builtin "object.__class__") = some true) && decide (PySem.W.mroIn K D (.type "object") = some true)))))))
theorem excCB_ok {K : PySem.W.Frag} {D : Addr} (h : excCB K D = true) : ExcC K D := by
  obtain ⟨h1, h⟩ := He.ba h
  obtain ⟨h2, h⟩ := He.ba h
  obtain ⟨h3, h⟩ := He.ba h
  obtain ⟨h4, h⟩ := He.ba h
  obtain ⟨h5, h⟩ := He.ba h
  obtain ⟨h6, h⟩ := He.ba h
  obtain ⟨h7, h8⟩ := He.ba h
  exact ⟨He.eqO_ok h1, He.eqO_ok h2, of_decide_eq_true h3, h4, He.eqO_ok h5, He.eqO_ok h6, of_decide_eq_true h7, of_decide_eq_true h8⟩
end FT
namespace FT
open PySem PySem.W PySem.Spec PyProof.Rows L2
section
variable {J : It} {n : Nat} {G : Hp → Prop} {Y : Nat → Hp → V → Hp → Prop}
theorem lcG (w : Walk J n G Y) {H0 : Hp} {Qd : Hp → Prop} {body : (Hp → Prop) → V → Hp → Prop} (Pv : Nat → Hp → Prop) (h0 : Pv 0 H0) (hG : ∀ i H, i ≤ n → Pv i H → G H)
    (hs : ∀ i x H H', i < n → Pv i H → Y i H x H' → body (Pv (i + 1)) x H') (hd : ∀ H, Pv n H → Qd H) :
    ∃ W : Nat → Nat → Hp → Prop, (∃ m, W 0 m H0) ∧ ∀ i m H, W i m H →
      (J.stop i H ∧ Qd H) ∨ (J.go i H ∧ ∃ Nx : Hp → Prop, (∀ H', Nx H' → ∃ m', m' < m ∧ W (i + 1) m' H') ∧ ∀ x H', J.yld i H x H' → body Nx x H') := by
  refine ⟨fun i m H => m = n - i ∧ i ≤ n ∧ Pv i H, ⟨n, by simp, Nat.zero_le _, h0⟩, ?_⟩
  rintro i m H ⟨rfl, hi, p⟩
  have q := hG i H hi p
  by_cases hlt : i < n
  · exact .inr ⟨w.goes i H hlt q, Pv (i + 1), fun H' p' => ⟨n - (i + 1), by omega, rfl, hlt, p'⟩, fun x H' y => hs i x H H' hlt p (w.yields i H x H' hlt q y)⟩
  · have e : i = n := by omega
    subst e
    exact .inl ⟨w.stops H q, hd H p⟩
end
section
variable {prog : Program} {w : World} {A : Around} {E : Value → Shared → Prop} {s : Shared} {β : Type} {vs : List Value} {bs : List β} {enc : β → PyData} {R : Value → β → Prop}
/-- sorted(t, ..), t a tuple of data that are alike -/
theorem sorted_lstK {t : Addr} {kw : List (Str × Value)} {b : Bool} {Q : Value → Shared → Prop} (hkw : ∀ a, Builtin.«list.sort» ⟨[.ref a], kw⟩ = Builtin.«list.sort» ⟨[.ref a], [(Str.ofString "reverse", .bool b)]⟩) (ha1 : argsOk "sorted" ⟨[.ref t], kw⟩) (ha2 : ∀ x, argsOk "list.sort" ⟨[.ref x], kw⟩)
    (ht : PlainL s.heap t vs.toArray) (e : EachIs R vs bs) (er : EachIs (fun v b => ∃ as, Reads s.heap v (enc b) as) vs bs) (hal : AllAlike (bs.map enc)) (hk : Sortable (bs.map enc)) (hL : bs.length ≤ sizeLine)
    (hu : ∀ b, b ∈ bs → A.units + 2 + (enc b).depth < cLine)
    (h : ∀ (out : List Value) (h' h2 : Heap) (n : Nat), (∀ b o, s.heap.get? b = some o → h'.get? b = some o) → (∀ b o, h'.get? b = some o → h2.get? b = some o) → h2.get? h'.objs.size = some (seqObj "list" out.toArray n) → out.length = bs.length → EachIs R out (bs.mergeSort (dataLe b enc)) → Q (.ref h'.objs.size) { s with heap := h2 }) :
    wpAny (model prog w) A (call (.builtin "sorted") [.ref t] kw) Q E s := by
  have hlen : vs.length ≤ sizeLine := by rw [e.length]; exact hL
  obtain ⟨o, n0, ho, hc, _, hd⟩ := id ht
  refine call_function_entry_kw kind_sorted plain_sorted entry_sorted ha1 ?_
  unfold Builtin.«sorted»
  refine wpAny_bind (m := checkCount "sorted" 1 1 _) (wpAny_pure ?_)
  refine wpAny_bind (wpAny_collect_seq t (.inl rfl) ho hc hd (fun h' hk' => ?_) (by rw [List.size_toArray]; exact hlen))
  refine wpAny_bind (wpAny_newList ?_ hlen)
  show wpAny _ _ _ _ _ { s with heap := h'.push (seqObj "list" vs.toArray 0) }
  have hat : (h'.push (seqObj "list" vs.toArray 0)).get? h'.objs.size = some (seqObj "list" vs.toArray 0) := Heap.get?_push_size _ rfl
  refine wpAny_bind (wpAny_holding (wpAny_call_entry_kw slot_list_sort ⟨_, hat, rfl⟩ entry_list_sort ?body (ha2 _)))
  case body =>
    rw [hkw]
    have old : ∀ b o, h'.get? b = some o → (sortingHeap (h'.push (seqObj "list" vs.toArray 0)) h'.objs.size vs).get? b = some o := fun b o q => sortingHeap_old (Nat.ne_of_lt (Heap.lt_size q)) (Heap.get?_push_of_some _ q)
    have er' : EachIs (fun v b => ∃ as, Reads (sortingHeap (h'.push (seqObj "list" vs.toArray 0)) h'.objs.size vs) v (enc b) as) vs bs := er.mono fun _ _ ⟨as, r⟩ => ⟨as, PyProof.Rows.Reads.keeps (fun b o q => old b o (hk' b o q)) r⟩
    refine list_sort_rev_vals (s := { s with heap := h'.push (seqObj "list" vs.toArray 0) }) (κ := dataKind (sortingHeap (h'.push (seqObj "list" vs.toArray 0)) h'.objs.size vs) (bs.map enc)) hat (SortsAt.data (s := { s with heap := sortingHeap (h'.push (seqObj "list" vs.toArray 0)) h'.objs.size vs }) (each_map (R := fun v d => ∃ as, Reads (sortingHeap (h'.push (seqObj "list" vs.toArray 0)) h'.objs.size vs) v d as) enc er') hal hk (bound_map hu)) hlen ?_
    refine ⟨_, rfl, wpAny_pure ⟨_, rfl, ?_⟩⟩
    obtain ⟨n2, hn2⟩ := sortedHeap_at (out := (sortVals (dataKind (sortingHeap (h'.push (seqObj "list" vs.toArray 0)) h'.objs.size vs) (bs.map enc)) b vs vs).toArray) hat
    refine h _ h' _ n2 hk' (fun b o q => ?_) hn2 (by rw [sortVals_length b rfl]; exact e.length) (sortVals_data b e er' hal)
    rw [sortedHeap_old (Nat.ne_of_lt (Heap.lt_size q)) (by rw [size_push']; exact Nat.lt_succ_of_lt (Heap.lt_size q))]
    exact Heap.get?_push_of_some _ q
end
/-- sorted(t), sorted(t, reverse=b) -/
def rSortedL (K : PySem.W.Frag) {β : Type} (enc : β → PyData) (b : Bool) (vs : List V) (H : Hp) (Q : VK) : Prop := ∃ (a : Addr) (xs : List V) (bs : List β), vs = [V.ref a] ∧ SqL K H a xs ∧ Bears K H enc xs bs ∧ AllAlike (bs.map enc) ∧ Sortable (bs.map enc) ∧ bs.length ≤ 10000 ∧ (∀ b ∈ bs, (enc b).depth ≤ 100) ∧
  ∀ (p : Addr) (ys : List V), H p = none → Bears K H enc ys (bs.mergeSort (dataLe b enc)) → Q (.ref p) (upd H p (.lst ys))
section
variable {X : Cx}
theorem sortedL_run {β : Type} {enc : β → PyData} {b : Bool} {kw : List (Str × Value)} (hu : X.A.units + 110 < cLine) (hkw : ∀ a, Builtin.«list.sort» ⟨[.ref a], kw⟩ = Builtin.«list.sort» ⟨[.ref a], [(Str.ofString "reverse", .bool b)]⟩) (ha1 : ∀ t, argsOk "sorted" ⟨[.ref t], kw⟩) (ha2 : ∀ x, argsOk "list.sort" ⟨[.ref x], kw⟩)
    {pins : List (Addr × Obj)} {s : Shared} {σ : L2.St} {H : Hp} {vs : List V} {us : List Value} {Q : VK} (I : Inv X pins σ H s) (r : Vals vs us) (h : rSortedL X.K enc b vs H Q) : wpAny (model X.prog X.w) X.A (call (.builtin "sorted") us kw) (EP X pins σ Q) X.xe s := by
  obtain ⟨a, xs, bs, rfl, hs, hb, hal, hsr, hl, hd, q⟩ := h
  obtain ⟨its, rv, hli, _⟩ := I.list hs
  rw [Vals.ref1 r]
  obtain ⟨e1, e2⟩ := each_of I hb rv
  refine sorted_lstK (vs := its) (bs := bs) (enc := enc) (R := fun u b => ∃ v, RelV v u ∧ Dp X.K H v (enc b)) hkw (ha1 _) ha2 hli e1 e2 hal hsr (by rw [sizeLine_eq]; omega) (fun b m => by have := hd b m; omega) fun out h' h2 n k1 k2 hat ho h1 => ?_
  obtain ⟨ys, g2, g3⟩ := of_each h1
  have I' : Inv X pins σ H { s with heap := h' } := I.kept (t' := s.toks) k1
  have hlen : ys.length ≤ sizeLine := by rw [g2.length, ho, sizeLine_eq]; omega
  exact ⟨.ref _, upd H h'.objs.size (.lst ys), I'.laid (t' := s.toks) (fun b o e => k2 b o e) (Nat.le_refl _) ⟨hlen, out, n, g2, hat⟩, rfl, q _ ys (I'.hok.fresh (Nat.le_refl _)) g3⟩
theorem cr_sortedL {β : Type} (enc : β → PyData) (hu : X.A.units + 110 < cLine) : CallR X (.builtin "sorted") (rSortedL X.K enc false) := by
  intro pins s σ H vs us Q I r h
  exact sortedL_run (kw := []) hu plain_is_rev (fun _ => args_sorted1 _) (fun _ => args_list_sort _) I r h
end
theorem Got.imp {P : Program} {w : World} {K : PySem.W.Frag} {mg : Str → Option Value} {base : Heap} {x : Str} {ps : List Str} {k : Nat} {sp sp' : Sp} (G : Got P w K mg base x ps k sp) (h : ∀ vs H Q E, sp' vs H Q E → sp vs H Q E) : Got P w K mg base x ps k sp' := by
  obtain ⟨f, fd, h1, h2⟩ := G.ex
  exact ⟨f, fd, h1.imp h, h2⟩
end FT
namespace FT
open PySem PySem.W PySem.Spec PyProof.Rows L2
theorem dl_irrefl (x : PyData) : dataLt x x = false := lex_irrefl (O := itemOrd) _
theorem dl_trans {x y z : PyData} (h : dataLt x y = true) (h2 : dataLt y z = true) : dataLt x z = true := lex_trans (O := itemOrd) _ _ _ h h2
theorem dl_total {x y : PyData} (al : alike x y = true) (h : dataLt x y = false) (h2 : dataLt y x = false) : PyData.eqv x y = true := by
  have e : keyToks x = keyToks y := lex_total (O := itemOrd) _ _ h h2
  cases hq : PyData.eqv x y with
  | true => rfl
  | false =>
    have t := (toks_eqv x y al).2 hq [.inl 0] [.inl 1]
    rw [e] at t
    have t2 : PyProof.Rows.lexLt itemOrd (keyToks y ++ [.inl 0]) (keyToks y ++ [.inl 1]) = PyProof.Rows.lexLt itemOrd [.inl 0] [.inl 1] := lex_pre _ _ _
    have t3 : PyProof.Rows.lexLt itemOrd (keyToks y) (keyToks y) = false := lex_irrefl (O := itemOrd) _
    rw [t2, t3, lex_one] at t
    revert t
    decide
theorem dl_asymm {x y : PyData} (h : dataLt x y = true) : dataLt y x = false := by
  cases e : dataLt y x with
  | false => rfl
  | true => have := dl_trans h e; rw [dl_irrefl] at this; cases this
/-- things whose data are alike and like only where they are the same -/
class Orderly {γ : Type} [DecidableEq γ] (enc : γ → PyData) : Prop where
  al : ∀ a b, alike (enc a) (enc b) = true
  eq : ∀ a b, PyData.eqv (enc a) (enc b) = decide (a = b)
section
variable {γ : Type} [DecidableEq γ] {enc : γ → PyData} [O : Orderly enc]
theorem ol_tri {a b : γ} (hne : a ≠ b) (h : dataLt (enc a) (enc b) = false) : dataLt (enc b) (enc a) = true := by
  cases e : dataLt (enc b) (enc a) with
  | true => rfl
  | false =>
    have := dl_total (O.al a b) h e
    rw [O.eq] at this
    exact absurd (of_decide_eq_true this) hne
instance : Orderly (pairE enc) where
  al a b := by simp [pairE, alike, alikeAll, O.al a.1 b.1]
  eq a b := by
    simp only [pairE, PyData.eqv, PyData.eqvAll, O.eq, Bool.and_true, ib]
    by_cases h : a = b
    · subst h; simp
    · rw [decide_eq_false h]
      rw [Bool.and_eq_false_iff]
      by_cases h1 : a.1 = b.1
      · exact .inr (decide_eq_false fun h2 => h (Prod.ext h1 h2))
      · exact .inl (decide_eq_false h1)
theorem pairE_lt (p q : γ × Int) : dataLt (pairE enc p) (pairE enc q) = if p.1 = q.1 then decide (p.2 < q.2) else dataLt (enc p.1) (enc q.1) := by
  unfold pairE
  rw [dataLt_pair (O.al p.1 q.1) (by simp [alike]), O.eq]
  by_cases h : p.1 = q.1
  · rw [if_pos (by simp [h]), if_pos h, dataLt_int]
    by_cases h2 : p.2 = q.2
    · simp [PyData.eqv, h2]
    · simp [PyData.eqv, h2]
  · rw [if_neg (by simp [h]), if_neg h]
/-- in order -/
def srtE (enc : γ → PyData) (bs : List γ) : List γ := bs.mergeSort (dataLe false enc)
theorem srtE_perm (bs : List γ) : (srtE enc bs).Perm bs := List.mergeSort_perm _ _
theorem srtE_le (bs : List γ) : (srtE enc bs).Pairwise (fun a b => dataLt (enc b) (enc a) = false) := by
  have h := List.pairwise_mergeSort (le := dataLe false enc) (fun a b c h1 h2 => ?_) (fun a b => ?_) bs
  · refine h.imp fun {a b} hab => ?_
    rw [dataLe_eq] at hab
    simpa using hab
  · rw [dataLe_eq] at h1 h2 ⊢
    simp only [cond_false, Bool.not_eq_true'] at h1 h2 ⊢
    by_cases hab : a = b
    · subst hab; exact h2
    · by_cases hbc : b = c
      · subst hbc; exact h1
      · exact dl_asymm (dl_trans (ol_tri (fun z => hab z.symm) h1) (ol_tri (fun z => hbc z.symm) h2))
  · rw [dataLe_eq]
    simp only [cond_false]
    cases e : dataLt (enc b) (enc a) with
    | false => rfl
    | true => rw [dl_asymm e]; rfl
/-- how many of a thing -/
def sumE (ps : List (γ × Int)) (x : γ) : Int := match ps with
  | [] => 0
  | p :: r => (if p.1 = x then p.2 else 0) + sumE r x
theorem sumE_append (x : γ) : ∀ (as bs : List (γ × Int)), sumE (as ++ bs) x = sumE as x + sumE bs x
  | [], bs => by simp [sumE]
  | p :: r, bs => by show _ + sumE (r ++ bs) x = _; rw [sumE_append x r bs, sumE]; omega
theorem srt_keys (bs : List (γ × Int)) : (srtE (pairE enc) bs).Pairwise (fun a b => dataLt (enc b.1) (enc a.1) = false) := by
  refine (srtE_le (enc := pairE enc) bs).imp fun {a b} hab => ?_
  rw [pairE_lt] at hab
  by_cases h : b.1 = a.1
  · rw [h]; exact dl_irrefl _
  · rw [if_neg h] at hab; exact hab
end
end FT
namespace FT
open PySem PySem.W PySem.Spec PyProof.Rows L2
inductive Gr where
  | nil
  | cons (k : Str) (g : Gr) (m : Int) (r : Gr)
  deriving DecidableEq
abbrev Tr := Str × Gr
/-- a name: one to eight small letters -/
def NameOk (k : Str) : Prop := 1 ≤ k.cps.toList.length ∧ k.cps.toList.length ≤ 8 ∧ ∀ c ∈ k.cps.toList, 97 ≤ c ∧ c ≤ 122
namespace Gr
def encs : Gr → List PyData
  | .nil => []
  | .cons k g m r => .tuple [.tuple [.str k, .tuple g.encs], .int m] :: r.encs
def enc (g : Gr) : PyData := .tuple g.encs
def tEnc (t : Tr) : PyData := .tuple [.str t.1, t.2.enc]
abbrev pEnc : Tr × Int → PyData := pairE tEnc
def ps : Gr → List (Tr × Int)
  | .nil => []
  | .cons k g m r => ((k, g), m) :: r.ps
def ofPs : List (Tr × Int) → Gr
  | [] => .nil
  | p :: r => .cons p.1.1 p.1.2 p.2 (ofPs r)
theorem ofPs_ps : ∀ g : Gr, ofPs g.ps = g
  | .nil => rfl
  | .cons k g m r => by show Gr.cons k g m (ofPs r.ps) = _; rw [ofPs_ps r]
theorem ps_ofPs : ∀ bs : List (Tr × Int), (ofPs bs).ps = bs
  | [] => rfl
  | p :: r => by show ((p.1.1, p.1.2), p.2) :: (ofPs r).ps = _; rw [ps_ofPs r]
theorem encs_ps : ∀ g : Gr, g.encs = g.ps.map pEnc
  | .nil => rfl
  | .cons k g m r => by show _ :: r.encs = _ :: r.ps.map pEnc; rw [encs_ps r]; rfl
def parts : Gr → Nat
  | .nil => 0
  | .cons _ g _ r => 1 + g.parts + r.parts
def deep : Gr → Nat
  | .nil => 0
  | .cons _ g _ r => max (1 + g.deep) r.deep
def size : Gr → Int
  | .nil => 0
  | .cons _ g m r => m * (1 + g.size) + r.size
def tot : List (Tr × Int) → Nat
  | [] => 0
  | p :: r => 1 + p.1.2.parts + tot r
theorem parts_ofPs : ∀ bs : List (Tr × Int), (ofPs bs).parts = tot bs
  | [] => rfl
  | p :: r => by show 1 + p.1.2.parts + (ofPs r).parts = 1 + p.1.2.parts + tot r; rw [parts_ofPs r]
theorem tot_ps (g : Gr) : tot g.ps = g.parts := by rw [← parts_ofPs, ofPs_ps]
theorem tot_append : ∀ bs cs : List (Tr × Int), tot (bs ++ cs) = tot bs + tot cs
  | [], cs => by simp [tot]
  | p :: r, cs => by show 1 + p.1.2.parts + tot (r ++ cs) = _; rw [tot_append r cs, tot]; omega
theorem tot_perm {bs cs : List (Tr × Int)} (h : bs.Perm cs) : tot bs = tot cs := by
  induction h with
  | nil => rfl
  | cons x _ ih => simp only [tot]; omega
  | swap x y l => simp only [tot]; omega
  | trans _ _ h1 h2 => omega
theorem len_tot : ∀ bs : List (Tr × Int), bs.length ≤ tot bs
  | [] => Nat.le_refl _
  | p :: r => by have := len_tot r; show r.length + 1 ≤ 1 + p.1.2.parts + tot r; omega
theorem mem_deep : ∀ (g : Gr) (p : Tr × Int), p ∈ g.ps → p.1.2.deep < g.deep
  | .nil, p, h => by cases h
  | .cons k g m r, p, h => by
    rcases List.mem_cons.mp h with h | h
    · subst h; show g.deep < max (1 + g.deep) r.deep; omega
    · have := mem_deep r p h; show _ < max (1 + g.deep) r.deep; omega
theorem mem_parts : ∀ (g : Gr) (p : Tr × Int), p ∈ g.ps → p.1.2.parts < g.parts
  | .nil, p, h => by cases h
  | .cons k g m r, p, h => by
    rcases List.mem_cons.mp h with h | h
    · subst h; show g.parts < 1 + g.parts + r.parts; omega
    · have := mem_parts r p h; show _ < 1 + g.parts + r.parts; omega
theorem deep_le {n : Nat} : ∀ {g : Gr}, (∀ p ∈ g.ps, p.1.2.deep < n) → g.deep ≤ n
  | .nil, _ => Nat.zero_le _
  | .cons k g m r, h => by
    have h1 := h ((k, g), m) (List.mem_cons_self ..)
    have h2 := deep_le (g := r) fun p hp => h p (List.mem_cons_of_mem _ hp)
    show max (1 + g.deep) r.deep ≤ n
    have : g.deep < n := h1
    omega
theorem len_parts (g : Gr) : g.ps.length ≤ g.parts := by have := len_tot g.ps; rw [tot_ps] at this; exact this
theorem alikes : ∀ g h : Gr, alikeAll g.encs h.encs = true
  | .nil, _ => by simp [encs, alikeAll]
  | .cons _ _ _ _, .nil => by simp [encs, alikeAll]
  | .cons k g m r, .cons k' g' m' r' => by
    have h1 := alikes g g'
    have h2 := alikes r r'
    simp [encs, alikeAll, alike, h1, h2]
theorem alike_enc (g h : Gr) : alike g.enc h.enc = true := by
  show alike (.tuple g.encs) (.tuple h.encs) = true
  rw [alike]; exact alikes g h
theorem sb (a b : Str) : (a == b) = decide (a = b) := by by_cases h : a = b <;> simp [h]
theorem eqvs : ∀ g h : Gr, PyData.eqvAll g.encs h.encs = decide (g = h)
  | .nil, .nil => by simp [encs, PyData.eqvAll]
  | .nil, .cons _ _ _ _ => by simp [encs, PyData.eqvAll]
  | .cons _ _ _ _, .nil => by simp [encs, PyData.eqvAll]
  | .cons k g m r, .cons k' g' m' r' => by
    have h1 := eqvs g g'
    have h2 := eqvs r r'
    simp [encs, PyData.eqvAll, PyData.eqv, h1, h2, Bool.and_assoc, ib, sb]
theorem eqv_enc (g h : Gr) : PyData.eqv g.enc h.enc = decide (g = h) := by
  rw [enc, enc, PyData.eqv]; exact eqvs g h
instance : Orderly tEnc where
  al a b := by simp [tEnc, alike, alikeAll, alike_enc]
  eq a b := by
    simp only [tEnc, PyData.eqv, PyData.eqvAll, eqv_enc, Bool.and_true, sb]
    by_cases h : a = b
    · subst h; simp
    · rw [decide_eq_false h, Bool.and_eq_false_iff]
      by_cases h1 : a.1 = b.1
      · exact .inr (decide_eq_false fun h2 => h (Prod.ext h1 h2))
      · exact .inl (decide_eq_false h1)
theorem noLists_encs : ∀ g : Gr, noLists g.encs = true
  | .nil => by simp [encs, noLists]
  | .cons k g m r => by simp [encs, noLists, noList, noLists_encs g, noLists_encs r]
theorem noList_enc (g : Gr) : noList g.enc = true := by simp [enc, noList, noLists_encs g]
theorem noList_tEnc (t : Tr) : noList (tEnc t) = true := by simp [tEnc, noList, noLists, noList_enc]
theorem noList_pEnc (p : Tr × Int) : noList (pEnc p) = true := by simp [pEnc, pairE, noList, noLists, noList_tEnc]
theorem encs_depth : ∀ g : Gr, PyData.depthAll g.encs ≤ 3 * g.deep
  | .nil => by simp [encs, PyData.depthAll, deep]
  | .cons k g m r => by
    have h1 := encs_depth g
    have h2 := encs_depth r
    simp only [encs, PyData.depthAll, PyData.depth, deep]
    omega
theorem enc_depth (g : Gr) : g.enc.depth ≤ 3 * g.deep + 1 := by
  have := encs_depth g
  simp only [enc, PyData.depth]
  omega
theorem tEnc_depth (t : Tr) : (tEnc t).depth ≤ 3 * t.2.deep + 2 := by
  have := enc_depth t.2
  simp only [tEnc, PyData.depth, PyData.depthAll]; omega
theorem pEnc_depth (p : Tr × Int) : (pEnc p).depth ≤ 3 * p.1.2.deep + 3 := by
  have := tEnc_depth p.1
  simp only [pEnc, pairE, PyData.depth, PyData.depthAll]; omega
/-- all names are names, numbers from 1 to below C, trees in order -/
def Ok (C : Int) : Gr → Prop
  | .nil => True
  | .cons k g m r => NameOk k ∧ g.Ok C ∧ 1 ≤ m ∧ m < C ∧ r.Ok C ∧ ∀ p ∈ r.ps, dataLt (tEnc (k, g)) (tEnc p.1) = true
theorem Ok.mono {B C : Int} (h : B ≤ C) : ∀ {g : Gr}, g.Ok B → g.Ok C
  | .nil, _ => trivial
  | .cons k g m r, ⟨h0, h1, h2, h3, h4, h5⟩ => ⟨h0, Ok.mono h h1, h2, by omega, Ok.mono h h4, h5⟩
theorem ok_ps {C : Int} : ∀ {bs : List (Tr × Int)}, (ofPs bs).Ok C ↔ (∀ p ∈ bs, NameOk p.1.1 ∧ p.1.2.Ok C ∧ 1 ≤ p.2 ∧ p.2 < C) ∧ bs.Pairwise (fun p q => dataLt (tEnc p.1) (tEnc q.1) = true)
  | [] => by simp [ofPs, Ok]
  | x :: r => by
    have ih := ok_ps (C := C) (bs := r)
    show (NameOk x.1.1 ∧ x.1.2.Ok C ∧ 1 ≤ x.2 ∧ x.2 < C ∧ (ofPs r).Ok C ∧ ∀ p ∈ (ofPs r).ps, dataLt (tEnc x.1) (tEnc p.1) = true) ↔ _
    rw [ps_ofPs, List.pairwise_cons, ih]
    constructor
    · rintro ⟨h0, h1, h2, h3, ⟨h4, h5⟩, h6⟩
      refine ⟨fun p hp => ?_, h6, h5⟩
      rcases List.mem_cons.mp hp with hp | hp
      · subst hp; exact ⟨h0, h1, h2, h3⟩
      · exact h4 p hp
    · rintro ⟨h1, h2, h3⟩
      have h4 := h1 x (List.mem_cons_self ..)
      exact ⟨h4.1, h4.2.1, h4.2.2.1, h4.2.2.2, ⟨fun p hp => h1 p (List.mem_cons_of_mem _ hp), h3⟩, h2⟩
theorem ok_iff {C : Int} {g : Gr} : g.Ok C ↔ (∀ p ∈ g.ps, NameOk p.1.1 ∧ p.1.2.Ok C ∧ 1 ≤ p.2 ∧ p.2 < C) ∧ g.ps.Pairwise (fun p q => dataLt (tEnc p.1) (tEnc q.1) = true) := by
  have := ok_ps (C := C) (bs := g.ps)
  rw [ofPs_ps] at this
  exact this
theorem strOk_name {k : Str} (h : NameOk k) : PySem.PyData.strOk k = true := by
  show k.cps.all (· < 0x110000) = true
  rw [Array.all_eq_true']
  intro c hc
  have := h.2.2 c (by simpa using hc)
  simp; omega
theorem lays {C : Int} : ∀ {g : Gr}, g.Ok C → PyData.canLayAll0 g.encs = true
  | .nil, _ => by simp [encs, PyData.canLayAll0]
  | .cons k g m r, ⟨h0, h1, _, _, h4, _⟩ => by
    have e1 := lays h1
    have e2 := lays h4
    simp [encs, PyData.canLayAll0, PyData.canLay0, e1, e2, strOk_name h0]
theorem shaped_tEnc {C : Int} {t : Tr} (h0 : NameOk t.1) (h : t.2.Ok C) (hd : t.2.deep ≤ 20) : SeqAt.shaped (tEnc t) = true := by
  have := tEnc_depth t
  unfold SeqAt.shaped
  rw [show (tEnc t).canLay0 = true by simp [tEnc, PyData.canLay0, PyData.canLayAll0, strOk_name h0, enc, lays h]]
  simp; omega
theorem pEnc_all (bs : List (Tr × Int)) : AllAlike (bs.map pEnc) := AllAlike.of fun a b => Orderly.al (enc := pEnc) a b
theorem pEnc_sortable (bs : List (Tr × Int)) : Sortable (bs.map pEnc) := Sortable.tuples fun b => ⟨_, _, rfl⟩
end Gr
/-- at v stands the grove g -/
def GA (K : PySem.W.Frag) (H : Hp) (v : V) (g : Gr) : Prop := Dp K H v g.enc
section
variable {K : PySem.W.Frag} {ps : List Addr} {H H' : Hp} {v : V} {g : Gr}
theorem GA.sb (h : GA K H v g) (e : SB ps H H') : GA K H' v g := Dp_sb e _ _ g.noList_enc h
theorem GA_bears (h : GA K H v g) : ∃ a xs, v = .ref a ∧ SqT K H a xs ∧ Bears K H Gr.pEnc xs g.ps := by
  have h' : Dp K H v (.tuple g.encs) := h
  cases h' with
  | tup hs ha =>
    rw [Gr.encs_ps] at ha
    exact ⟨_, _, rfl, hs, Bears.of ha⟩
theorem Bears_ga {a : Addr} {xs : List V} {bs : List (Tr × Int)} (h : SqT K H a xs) (hb : Bears K H Gr.pEnc xs bs) : GA K H (.ref a) (Gr.ofPs bs) := by
  refine Dp.tup h ?_
  rw [Gr.encs_ps, Gr.ps_ofPs]
  exact hb.dp
theorem TA_parts {t : Tr} (h : Dp K H v (Gr.tEnc t)) : ∃ a u, v = .ref a ∧ SqT K H a [.str t.1, u] ∧ GA K H u t.2 := by
  cases h with
  | tup hs ha =>
    cases ha with
    | cons h1 h2 =>
      cases h2 with
      | cons h3 h4 =>
        cases h4
        cases h1
        exact ⟨_, _, rfl, hs, h3⟩
theorem PA_parts {p : Tr × Int} (h : Dp K H v (Gr.pEnc p)) : ∃ a b u, v = .ref a ∧ SqT K H a [.ref b, .int p.2] ∧ SqT K H b [.str p.1.1, u] ∧ GA K H u p.1.2 ∧ Dp K H (.ref b) (Gr.tEnc p.1) := by
  cases h with
  | tup hs ha =>
    cases ha with
    | cons h1 h2 =>
      cases h2 with
      | cons h3 h4 =>
        cases h4
        cases h3
        obtain ⟨b, u, rfl, hb, hg⟩ := TA_parts h1
        exact ⟨_, b, u, rfl, hs, hb, hg, h1⟩
end
def PuG (H : Hp) (p : Addr) : Prop := ∃ x y : Int, H p = some (.lst [.int x, .int y]) ∧ 0 ≤ x ∧ 1 ≤ y ∧ y ≤ 18446744073709551557
theorem PuG.sb {H H' : Hp} {p : Addr} (h : PuG H p) (e : SB [] H H') : PuG H' p := by
  obtain ⟨x, y, h1, h2⟩ := h
  exact ⟨x, y, e.keep _ _ h1 List.not_mem_nil, h2⟩
theorem PuG.keep {H H' : Hp} {p : Addr} {ps : List Addr} (h : PuG H p) (e : SB ps H H') (n : p ∉ ps) : PuG H' p := by
  obtain ⟨x, y, h1, h2⟩ := h
  exact ⟨x, y, e.keep _ _ h1 n, h2⟩
theorem PuG.new {H : Hp} {p q : Addr} (h : PuG H p) (n : H q = none) {o : HO} : PuG (upd H q o) p := by
  obtain ⟨x, y, h1, h2⟩ := h
  exact ⟨x, y, by rw [upd_ne (ne_of_none h1 n)]; exact h1, h2⟩
theorem PuG.ne {H : Hp} {p q : Addr} (h : PuG H p) (n : H q = none) : p ≠ q := by
  obtain ⟨x, y, h1, h2⟩ := h
  exact ne_of_none h1 n
end FT
namespace FT
open PySem PySem.W PySem.Spec PyProof.Rows L2
def Ltr (z : Str) (n : Nat) : Prop := z.cps.toList.length = n ∧ ∀ c ∈ z.cps.toList, 97 ≤ c ∧ c ≤ 122
theorem Ltr.name {z : Str} {n : Nat} (h : Ltr z n) (h1 : 1 ≤ n) (h8 : n ≤ 8) : NameOk z := ⟨by have := h.1; omega, by have := h.1; omega, h.2⟩
theorem Ltr.len {z : Str} {n : Nat} (h : Ltr z n) : z.length = n := by have := h.1; simpa [Str.length] using this
theorem Ltr.one {c : Nat} (h : 97 ≤ c ∧ c ≤ 122) : Ltr ⟨#[c]⟩ 1 := ⟨rfl, fun x hx => by simp at hx; subst hx; exact h⟩
theorem Ltr.append {a b : Str} {n m : Nat} (ha : Ltr a n) (hb : Ltr b m) : Ltr (a ++ b) (n + m) := by
  have e : (a ++ b).cps.toList = a.cps.toList ++ b.cps.toList := by show (a.cps ++ b.cps).toList = _; simp
  unfold Ltr
  rw [e, List.length_append, ha.1, hb.1]
  refine ⟨rfl, fun c hc => ?_⟩
  rcases List.mem_append.mp hc with hc | hc
  · exact ha.2 c hc
  · exact hb.2 c hc
theorem Ltr.take {z : Str} {n : Nat} (h : Ltr z n) (k : Nat) : Ltr (cutS z none (some (k : Int))) (min k n) := by
  have hl := h.len
  have e : (cutS z none (some (k : Int))).cps.toList = z.cps.toList.take (min k n) := by
    unfold cutS
    rw [HT.sIx_none, HT.sIx_nat, hl]
    simp
  unfold Ltr
  rw [e, List.length_take, h.1]
  exact ⟨by omega, fun c hc => h.2 c (List.mem_of_mem_take hc)⟩
theorem Ltr.cut {z : Str} {n : Nat} (h : Ltr z n) (a b : Nat) : Ltr (cutS z (some (a : Int)) (some (b : Int))) (min b n - min a n) := by
  have hl := h.len
  have e : (cutS z (some (a : Int)) (some (b : Int))).cps.toList = (z.cps.toList.drop (min a n)).take (min b n - min a n) := by
    unfold cutS
    rw [HT.sIx_nat, HT.sIx_nat, hl]
  unfold Ltr
  rw [e, List.length_take, List.length_drop, h.1]
  exact ⟨by omega, fun c hc => h.2 c (List.mem_of_mem_drop (List.mem_of_mem_take hc))⟩
theorem glue_ones : ∀ (cs : List Nat) (acc : Array Nat), ((cs.map fun c => (⟨#[c]⟩ : Str)).foldl (fun acc p => acc ++ (Str.ofString "").cps ++ p.cps) acc).toList = acc.toList ++ cs
  | [], acc => by simp
  | c :: cs, acc => by
    have e0 : (Str.ofString "").cps = #[] := by decide +kernel
    rw [List.map_cons, List.foldl_cons, glue_ones cs]
    simp [e0]
theorem join_ltrs (cs : List Nat) (h : ∀ c ∈ cs, 97 ≤ c ∧ c ≤ 122) : Ltr (Txt.join (Str.ofString "") (cs.map fun c => ⟨#[c]⟩)) cs.length := by
  have e : (Txt.join (Str.ofString "") (cs.map fun c => (⟨#[c]⟩ : Str))).cps.toList = cs := by
    show (Builtin.Str.glued (Str.ofString "") (cs.map fun c => (⟨#[c]⟩ : Str))).cps.toList = cs
    unfold Builtin.Str.glued
    cases cs with
    | nil => rfl
    | cons c r =>
      show ((r.map fun c => (⟨#[c]⟩ : Str)).foldl (fun acc p => acc ++ (Str.ofString "").cps ++ p.cps) #[c]).toList = c :: r
      rw [glue_ones]
      rfl
  unfold Ltr
  rw [e]
  exact ⟨rfl, h⟩
abbrev abc : Str := Str.ofString "abcdefghijklmnopqrstuvwxyz"
theorem abc_at : ∀ r : Nat, r < 26 → ∃ c, abc.cps.toList[r]? = some c ∧ 97 ≤ c ∧ c ≤ 122 := by
  have : ∀ r : Fin 26, ∃ c : Fin 200, abc.cps.toList[r.val]? = some c.val ∧ 97 ≤ c.val ∧ c.val ≤ 122 := by decide +kernel
  intro r hr
  obtain ⟨c, h⟩ := this ⟨r, hr⟩
  exact ⟨c.val, h⟩
theorem abc_len : abc.length ≤ sizeLine := by decide +kernel
theorem atI_natN {xs : List Nat} {j : Nat} {c : Nat} (h : xs[j]? = some c) : atI xs (j : Int) = some c := by
  have hj : j < xs.length := (List.getElem?_eq_some_iff.mp h).1
  unfold atI ixN
  rw [if_pos (by omega), if_pos (by omega)]
  simpa using h
theorem cutDropS (ks : List Str) (k : Nat) : cutV (ks.map V.str) (some (k : Int)) none = (ks.drop k).map V.str := by rw [cutDrop, List.map_drop]
/-- sorted(xs), xs a list or a tuple of data that are alike -/
def rSortedB (K : PySem.W.Frag) {β : Type} (enc : β → PyData) (vs : List V) (H : Hp) (Q : VK) : Prop := ∃ (a : Addr) (xs : List V) (bs : List β), vs = [V.ref a] ∧ (SqL K H a xs ∨ SqT K H a xs) ∧ Bears K H enc xs bs ∧ AllAlike (bs.map enc) ∧ Sortable (bs.map enc) ∧ bs.length ≤ 10000 ∧ (∀ b ∈ bs, (enc b).depth ≤ 100) ∧
  ∀ (p : Addr) (ys : List V), H p = none → Bears K H enc ys (bs.mergeSort (dataLe false enc)) → Q (.ref p) (upd H p (.lst ys))
theorem cr_sortedB {X : Cx} {β : Type} (enc : β → PyData) (hu : X.A.units + 110 < cLine) : CallR X (.builtin "sorted") (rSortedB X.K enc) := by
  intro pins s σ H vs us Q I r h
  obtain ⟨a, xs, bs, h1, h2, h3⟩ := h
  rcases h2 with h2 | h2
  · exact cr_sortedL enc hu pins s σ H vs us Q I r ⟨a, xs, bs, h1, h2, h3⟩
  · exact cr_sortedT enc hu pins s σ H vs us Q I r ⟨a, xs, bs, h1, h2, h3⟩
end FT
namespace FT
open PySem PySem.W PySem.Spec PyProof.Rows L2
namespace Gr
/-- all pairs that stand anywhere -/
def within : Gr → List (Tr × Int)
  | .nil => []
  | .cons k g m r => ((k, g), m) :: (g.within ++ r.within)
theorem within_ps : ∀ g : Gr, g.within = g.ps.flatMap fun p => p :: p.1.2.within
  | .nil => rfl
  | .cons k g m r => by show ((k, g), m) :: (g.within ++ r.within) = _; rw [within_ps r]; rfl
theorem within_length : ∀ g : Gr, g.within.length = g.parts
  | .nil => rfl
  | .cons k g m r => by show (g.within ++ r.within).length + 1 = 1 + g.parts + r.parts; rw [List.length_append, within_length g, within_length r]; omega
end Gr
def spPairsW (K : PySem.W.Frag) (n : Nat) : Sp := fun vs H Q _ => ∃ (v : V) (g : Gr), vs = [v] ∧ GA K H v g ∧ g.deep < n ∧ g.parts ≤ 200000 ∧ ∀ (D : Addr) (us : List V) (H' : Hp), SB [] H H' → H D = none → H' D = some (.lst us) → Bears K H' Gr.pEnc us g.within → Q (.ref D) H'
section
variable {P : Program} {w : World} {K : PySem.W.Frag} {mg : Str → Option Value} {base : Heap} {f : Addr} {fd : FuncData}
theorem none_pairs_within {ps : List Str} {k : Nat} : FnOk P w K mg base CX0 k f fd ps (spPairsW K 0) := none_sp fun vs H Q E ⟨v, l, _, _, h, _⟩ => by omega
end
end FT
namespace FT
open PySem PySem.W PySem.Spec PyProof.Rows L2
mutual
def plS : PyData → Bool
  | .int _ => true
  | .str x => PyData.strOk x
  | .tuple ds => plSs ds
  | _ => false
def plSs : List PyData → Bool
  | [] => true
  | d :: ds => plS d && plSs ds
end
mutual
theorem plS_lay : ∀ d : PyData, plS d = true → d.canLay0 = true
  | .int _, _ => by simp [PyData.canLay0]
  | .str _, h => by rw [plS] at h; rw [PyData.canLay0]; exact h
  | .tuple ds, h => by rw [plS] at h; rw [PyData.canLay0]; exact plSs_lay ds h
  | .none, h => by simp [plS] at h
  | .bool _, h => by simp [plS] at h
  | .list _, h => by simp [plS] at h
  | .dict _, h => by simp [plS] at h
theorem plSs_lay : ∀ ds : List PyData, plSs ds = true → PyData.canLayAll0 ds = true
  | [], _ => by simp [PyData.canLayAll0]
  | d :: ds, h => by
    rw [plSs, Bool.and_eq_true] at h
    rw [PyData.canLayAll0, plS_lay d h.1, plSs_lay ds h.2]; rfl
end
namespace Gr
theorem plSs_encs {C : Int} : ∀ {g : Gr}, g.Ok C → plSs g.encs = true
  | .nil, _ => by simp [encs, plSs]
  | .cons k g m r, ⟨h0, h1, _, _, h4, _⟩ => by
    have e1 := plSs_encs h1
    have e2 := plSs_encs h4
    simp [encs, plSs, plS, e1, e2, strOk_name h0]
end Gr
namespace Gr
/-- how many of a tree -/
abbrev S (g : Gr) (t : Tr) : Int := sumE g.ps t
theorem S_zero {bs : List (Tr × Int)} {t : Tr} (h : ∀ p ∈ bs, p.1 ≠ t) : sumE bs t = 0 := by
  induction bs with
  | nil => rfl
  | cons p r ih =>
    show (if p.1 = t then p.2 else 0) + sumE r t = 0
    rw [if_neg (h p (List.mem_cons_self ..)), ih fun q hq => h q (List.mem_cons_of_mem _ hq)]; rfl
/-- two right groves with as many of each tree are the same -/
theorem ext_ps : ∀ {as bs : List (Tr × Int)}, as.Pairwise (fun p q => dataLt (tEnc p.1) (tEnc q.1) = true) → bs.Pairwise (fun p q => dataLt (tEnc p.1) (tEnc q.1) = true) → (∀ p ∈ as, 1 ≤ p.2) → (∀ p ∈ bs, 1 ≤ p.2) → (∀ t, sumE as t = sumE bs t) → as = bs
  | [], [], _, _, _, _, _ => rfl
  | [], b :: bs, _, h2, _, p2, h => by
    have := h b.1
    have hz : sumE bs b.1 = 0 := S_zero fun q hq z => by have := (List.pairwise_cons.mp h2).1 q hq; rw [z, dl_irrefl] at this; cases this
    have e : sumE (b :: bs) b.1 = b.2 + sumE bs b.1 := by show (if b.1 = b.1 then b.2 else 0) + _ = _; rw [if_pos rfl]
    rw [e, hz] at this
    have := p2 b (List.mem_cons_self ..)
    have z : sumE ([] : List (Tr × Int)) b.1 = 0 := rfl
    omega
  | a :: as, [], h1, _, p1, _, h => by
    have := h a.1
    have hz : sumE as a.1 = 0 := S_zero fun q hq z => by have := (List.pairwise_cons.mp h1).1 q hq; rw [z, dl_irrefl] at this; cases this
    have e : sumE (a :: as) a.1 = a.2 + sumE as a.1 := by show (if a.1 = a.1 then a.2 else 0) + _ = _; rw [if_pos rfl]
    rw [e, hz] at this
    have := p1 a (List.mem_cons_self ..)
    have z : sumE ([] : List (Tr × Int)) a.1 = 0 := rfl
    omega
  | a :: as, b :: bs, h1, h2, p1, p2, h => by
    obtain ⟨a1, a2⟩ := List.pairwise_cons.mp h1
    obtain ⟨b1, b2⟩ := List.pairwise_cons.mp h2
    have pa := p1 a (List.mem_cons_self ..)
    have pb := p2 b (List.mem_cons_self ..)
    have za : ∀ t, (t = a.1 ∨ dataLt (tEnc t) (tEnc a.1) = true) → sumE as t = 0 := fun t ht => S_zero fun q hq z => by
      have q1 := a1 q hq
      rw [z] at q1
      rcases ht with ht | ht
      · rw [ht, dl_irrefl] at q1; cases q1
      · rw [dl_asymm ht] at q1; cases q1
    have zb : ∀ t, (t = b.1 ∨ dataLt (tEnc t) (tEnc b.1) = true) → sumE bs t = 0 := fun t ht => S_zero fun q hq z => by
      have q1 := b1 q hq
      rw [z] at q1
      rcases ht with ht | ht
      · rw [ht, dl_irrefl] at q1; cases q1
      · rw [dl_asymm ht] at q1; cases q1
    have ea : ∀ t, sumE (a :: as) t = (if a.1 = t then a.2 else 0) + sumE as t := fun t => rfl
    have eb : ∀ t, sumE (b :: bs) t = (if b.1 = t then b.2 else 0) + sumE bs t := fun t => rfl
    have hab : a.1 = b.1 := by
      by_cases e : a.1 = b.1
      · exact e
      · exfalso
        cases hlt : dataLt (tEnc a.1) (tEnc b.1) with
        | true =>
          have := h a.1
          rw [ea, eb, if_pos rfl, if_neg (fun z => e z.symm), za _ (.inl rfl), zb _ (.inr hlt)] at this
          omega
        | false =>
          have hlt2 := ol_tri (enc := tEnc) e hlt
          have := h b.1
          rw [ea, eb, if_pos rfl, if_neg e, zb _ (.inl rfl), za _ (.inr hlt2)] at this
          omega
    have hm : a.2 = b.2 := by
      have := h a.1
      rw [ea, eb, if_pos rfl, if_pos hab.symm, za _ (.inl rfl), zb _ (.inl hab)] at this
      omega
    have he : a = b := Prod.ext hab hm
    subst he
    rw [ext_ps a2 b2 (fun p hp => p1 p (List.mem_cons_of_mem _ hp)) (fun p hp => p2 p (List.mem_cons_of_mem _ hp)) fun t => by have := h t; rw [ea, eb] at this; omega]
theorem ext {C D : Int} {g k : Gr} (hg : g.Ok C) (hk : k.Ok D) (h : ∀ t, S g t = S k t) : g = k := by
  have h1 := ok_iff.mp hg
  have h2 := ok_iff.mp hk
  have := ext_ps h1.2 h2.2 (fun p hp => (h1.1 p hp).2.2.1) (fun p hp => (h2.1 p hp).2.2.1) h
  rw [← ofPs_ps g, ← ofPs_ps k, this]
end Gr
theorem small5 {n : Nat} (h : n ≤ 1000000) : n < sizeLine := by
  have : sizeLine = 16777216 := sizeLine_eq
  omega
end FT
namespace FT
open PySem PySem.W PySem.Spec PyProof.Rows L2
/-- the head of a law over groves: a head's purse, names, and what is kept -/
structure Hd (K : PySem.W.Frag) (H H3 : Hp) (p0 nm : Addr) (ks : List Str) : Prop where
  hp : PuG H3 p0
  hnm : H3 nm = some (.lst (ks.map V.str))
  k1 : 1 ≤ ks.length
  k8 : ks.length ≤ 8
  kn : ∀ k ∈ ks, NameOk k
  ne : nm ≠ p0
  sb : SB [p0] H H3
  np : H p0 = none
theorem Hd.step {K : PySem.W.Frag} {H H3 H4 : Hp} {p0 nm : Addr} {ks : List Str} (h : Hd K H H3 p0 nm ks) (s : SB [p0] H3 H4) (hp : PuG H4 p0) : Hd K H H4 p0 nm ks :=
  ⟨hp, s.keep _ _ h.hnm (by simpa using h.ne), h.k1, h.k8, h.kn, h.ne, h.sb.trans s, h.np⟩
end FT
namespace FT
open PySem PySem.W PySem.Spec PyProof.Rows L2
open PySem.Sem in
theorem enumT_new {v : Value} {o : Obj} {Hh : Heap → Prop} (Bg : Begins v o Hh) :
    Meets (Builtin.«enumerate.__new__» ⟨[.type "enumerate", v], []⟩) (fun _ R s => Hh s.heap ∧ R (.ok (.ret (.ref (s.heap.push o).objs.size))) { s with heap := (s.heap.push o).push { cls := .type "enumerate", data := .fields #[.none, .bool false, .ref s.heap.objs.size, rawInt 0, .none, .none] } }) :=
  .of_wp fun prog w A R s h => by
    obtain ⟨hp, g, d, tk, os⟩ := s
    obtain ⟨h1, h⟩ := h
    have hsub := sub_enumerate
    have go : ∀ {A2 : Around} {E2 : Value → Shared → Prop} {Q2 : Value → Shared → Prop}, Q2 (.ref hp.objs.size) ⟨hp.push o, g, d, tk, os⟩ → wpAny (model prog w) A2 (pyIter v) Q2 E2 ⟨hp, g, d, tk, os⟩ := fun z => Bg.iter prog w _ _ ⟨hp, g, d, tk, os⟩ _ h1 z
    wp_walk using go
    refine wpAny_stack_any fun stk => wpAny_pure ?_
    split
    · rename_i cl _ _ _ _ _
      cases (cl == Value.type "enumerate") <;> (wp_walk using go; exact ⟨_, rfl, h⟩)
    · wp_walk using go; exact ⟨_, rfl, h⟩
section
variable {prog : Program} {w : World} {A : Around} {E : Value → Shared → Prop} {s : Shared}
theorem call_enumT {t : Addr} {items : Array Value} {Q : Value → Shared → Prop} (hT : s.heap.IsTuple t items)
    (h : ∀ h2, IsEnum h2 (s.heap.objs.size + 1) s.heap.objs.size 0 .none → h2.IsTupleIter s.heap.objs.size t 0 → (∀ b ob, s.heap.get? b = some ob → h2.get? b = some ob) → Q (.ref (s.heap.objs.size + 1)) { s with heap := h2 }) : wpAny (model prog w) A (call (.type "enumerate") [.ref t]) Q E s := by
  have Bg := begins_tuple t items
  refine callType_new F.called_enumerate (by decide) (F.typeCall_enumerate_1 _) (F.newCall_enumerate_1 _) (fun ob => F.args_object_init_2 ob _) F.entry_enumerate_new (enumT_new Bg) ⟨hT, ?_⟩
  have hz : (s.heap.push { cls := .type "tuple_iterator", data := .fields #[.ref t, .int 0 0] }).objs.size = s.heap.objs.size + 1 := Heap.size_push ..
  show _ ∧ _
  rw [hz]
  have he : IsEnum ((s.heap.push { cls := .type "tuple_iterator", data := .fields #[.ref t, .int 0 0] }).push { cls := .type "enumerate", data := .fields #[.none, .bool false, .ref s.heap.objs.size, rawInt 0, .none, .none] }) (s.heap.objs.size + 1) s.heap.objs.size 0 .none := by
    have z := Heap.get?_push_size (s.heap.push { cls := .type "tuple_iterator", data := .fields #[.ref t, .int 0 0] }) (o := { cls := .type "enumerate", data := .fields #[.none, .bool false, .ref s.heap.objs.size, rawInt 0, .none, .none] }) rfl
    rw [hz] at z
    exact z
  exact ⟨⟨_, he, rfl⟩, h _ he ⟨_, Heap.get?_push_of_some _ (Heap.get?_push_size _ rfl), rfl, rfl⟩ fun b ob x => Heap.get?_push_of_some _ (Heap.get?_push_of_some _ x)⟩
end
/-- the tuple at a, each item in a new pair with its number -/
def IteT (K : PySem.W.Frag) (a : Addr) : It :=
  ⟨fun i H => ∃ (xs : List V) (x : V), SqT K H a xs ∧ xs[i]? = some x,
    fun i H v H2 => ∃ T x, v = .ref T ∧ H T = none ∧ H2 = upd H T (.tup [.int (i : Nat), x]) ∧ ∀ xs, SqT K H a xs → xs[i]? = some x,
    fun i H => ∃ xs : List V, SqT K H a xs ∧ xs.length = i⟩
theorem turn_enumT {P : Program} {w : World} {K : PySem.W.Frag} {elts : List Expr} {kk : Nat} {tpos : Pos} (a e it : Addr) (hei : e ≠ it) (hai : a ≠ it) (hea : e ≠ a) :
    Turn P w K (.Tuple elts kk tpos) (IteT K a) [e, it] e (fun i h => (∃ old, IsEnum h e it ((i : Nat) : Int) old) ∧ h.IsTupleIter it a i) where
  mem := by simp
  obj := fun i h st b hb => by
    obtain ⟨⟨old, he⟩, o, ho, hc, hd⟩ := st
    rcases (show b = e ∨ b = it by simpa using hb) with z | z
    · rw [z]; exact ⟨_, he, fun v q => nomatch q⟩
    · rw [z]; exact ⟨o, ho, fun v q => by rw [hd] at q; cases q⟩
  keep := fun i h h2 st k => let ⟨⟨old, he⟩, o, ho, r⟩ := st; ⟨⟨old, k e (by simp) _ he⟩, o, k it (by simp) o ho, r⟩
  item := by
    intro X hP hw hK hc i pins s σ H E I hf st hg
    subst hP hw hK
    obtain ⟨⟨old, he⟩, hit⟩ := st
    obtain ⟨xs, x, hq, hx⟩ := hg
    obtain ⟨its, rv, p, hz⟩ := I.tuple hq
    obtain ⟨u, hu, ru⟩ := rv.get hx
    have hel : e < s.heap.objs.size := Heap.lt_size he
    have hil : it < s.heap.objs.size := by obtain ⟨_, z, _⟩ := hit; exact Heap.lt_size z
    have Dr := Draws.tuple (prog := X.prog) (w := X.w) (A := X.A.in1) (I.ok.hd hc) it a hai its.toArray
    have hlt : i < its.toArray.size := by
      have := (List.getElem?_eq_some_iff.mp hu).1
      simpa using this
    refine wpAny_pyNext_enum_itemD Dr he ⟨hit, p⟩ hlt hei (by simp [hei, hea]) fun y h2 tk hy ho hst hT hsz hk => ?_
    have hyu : y = u := by
      have h3 : its[i]? = some y := by simpa using hy
      rw [hu] at h3; exact (Option.some.inj h3).symm
    subst hyu
    refine ⟨_, rfl, wpAny_letOwnedTupleGo_enum (s := { s with heap := h2, toks := tk + 1 }) ho fun h3 he3 sb => ?_⟩
    have hT2 : h3.get? s.heap.objs.size = some { cls := .type "tuple", data := .seq #[.int i tk, y] } := (sb.2 _ (Nat.ne_of_gt hel)).trans hT
    have nw : ObjOk X.prog X.w (upd H s.heap.objs.size (.tup [.int (i : Nat), x])) h3 s.heap.objs.size (.tup [.int (i : Nat), x]) := ⟨by show 2 ≤ sizeLine; decide, [.int i tk, y], .cons ⟨_, rfl⟩ (.cons ru .nil), ⟨_, hT2, rfl, _, rfl⟩⟩
    have I1 : Inv X pins σ (upd H s.heap.objs.size (.tup [.int (i : Nat), x])) { s with heap := h3, toks := tk + 1 } := I.turnedNew (ch := [e, it]) (fun b ob hb z => (sb.2 b (fun y => hb (by simp [y]))).trans (hk b ob (fun y => hb (by simp [y])) (fun y => hb (by simp [y])) z)) hf (Nat.le_refl _) nw
    refine ⟨.ref s.heap.objs.size, _, I1, rfl, ⟨_, x, rfl, I.hok.fresh (Nat.le_refl _), rfl, fun ys hy => by rw [I.tuple_inj hy hq]; exact hx⟩, ⟨⟨y, ?_⟩, ?_⟩, fun b hb => ?_⟩
    · rw [show ((i + 1 : Nat) : Int) = (i : Int) + 1 by omega]; exact he3
    · obtain ⟨o, ho2, r⟩ := hst.1
      exact ⟨o, (sb.2 it (Ne.symm hei)).trans ho2, r⟩
    · have hb2 : b < s.heap.objs.size := by
        rcases (show b = e ∨ b = it by simpa using hb) with z | z
        · rw [z]; exact hel
        · rw [z]; exact hil
      rw [upd_ne (Nat.ne_of_lt hb2)]; exact (hf b hb).1
  done := by
    intro X hP hw hK hc i pins s σ H E I hf st hg
    subst hP hw hK
    obtain ⟨⟨old, he⟩, hit⟩ := st
    obtain ⟨xs, hq, hx⟩ := hg
    obtain ⟨its, rv, p, hz⟩ := I.tuple hq
    obtain ⟨f0, f1, f2, f3, f4, f5⟩ := hf it (by simp)
    have hl := rv.length
    have ht : s.heap.IsTuple a its.toArray := p
    have Dr := Draws.tuple (prog := X.prog) (w := X.w) (A := X.A.in1) (I.ok.hd hc) it a hai its.toArray
    have hn : its.toArray.size = i := by simp; omega
    refine wpAny_pyNext_enum_endD Dr he ⟨by rw [hn]; exact hit, ht⟩ fun h2 eb => ⟨rfl, I.turned (t' := s.toks) (fun b o hb z => eb b o hb z) f0 f1 f3 f4 f5⟩
  self := fun A i s Q E st h => let ⟨⟨_, he⟩, _⟩ := st; wpAny_pyIter_enum he h
def iEnumT (K : PySem.W.Frag) (te : TE) : TI := fun σ H R => te σ H fun v H1 => ∃ a xs, v = .ref a ∧ SqT K H1 a xs ∧ R (IteT K a) H1
theorem pi_enumT {X : Cx} {ex : Expr} {te : TE} {p pos tpos : Pos} {elts : List Expr} {kk : Nat} (hg : Gl X "enumerate") (hm : X.mg "enumerate" = none) (he : PE X ex te) (hs : starEach [ex] X.env = (false, eval ex X.env) :: starEach [] X.env := by rfl) :
    PI X (.Tuple elts kk tpos) (.Call (.Name "enumerate" p) [ex] [] pos) (iEnumT X.K te) := by
  refine ⟨fun pins s σ H R I h => ?_⟩
  refine Call_ (ld_blt I hg hm boot_enumerate (PyProof.Rows.callWith_type1 (args_cons (thn (he.run pins s σ H _ I h) fun u s1 ⟨v, H1, I1, r1, q1⟩ => args_nil ?_) hs) hs rfl))
  obtain ⟨a, xs, ev, hq, q⟩ := q1
  subst ev
  cases r1
  obtain ⟨its, rv, pt, hz⟩ := I1.tuple hq
  have ht : s1.heap.IsTuple a its.toArray := pt
  have hal : a < s1.heap.objs.size := by obtain ⟨_, z, _⟩ := ht; exact Heap.lt_size z
  refine call_enumT ht fun h2 he2 hit hk => wpAny_pyIter_enum he2 ?_
  have I2 : Inv X pins σ H1 { s1 with heap := h2 } := I1.kept (t' := s1.toks) hk
  refine ⟨s1.heap.objs.size + 1, [s1.heap.objs.size + 1, s1.heap.objs.size], _, _, H1, rfl, I2, turn_enumT a (s1.heap.objs.size + 1) s1.heap.objs.size (Nat.succ_ne_self _) (Nat.ne_of_lt hal) (Nat.ne_of_gt (Nat.lt_succ_of_lt hal)), ⟨⟨.none, he2⟩, hit⟩, fun b hb => ?_, q⟩
  have hle : s1.heap.objs.size ≤ b := by
    rcases (show b = s1.heap.objs.size + 1 ∨ b = s1.heap.objs.size by simpa using hb) with z | z
    · rw [z]; exact Nat.le_add_right _ _
    · rw [z]; exact Nat.le_refl _
  exact I1.fpOk hle (I1.hok.fresh hle)
theorem walk_enumT {K : PySem.W.Frag} {a : Addr} {xs : List V} : Walk (IteT K a) xs.length (fun H => SqT K H a xs) (YPair (fun i => some (.int (i : Nat))) (fun i => xs[i]?)) := by
  refine ⟨fun i _ hi q => ⟨xs, xs[i], q, by simp [hi]⟩, fun _ q => ⟨xs, q, rfl⟩, fun i H v H2 _ q y => ?_⟩
  obtain ⟨T, x, h1, h2, h3, h4⟩ := y
  exact ⟨T, .int (i : Nat), x, h1, h2, h3, rfl, h4 xs q⟩
end FT
namespace FT
open PySem PySem.W PySem.Spec PyProof.Rows L2
abbrev Pl := List Nat
def plInts (p : Pl) : List PyData := p.map fun n : Nat => .int (n : Int)
def plEnc (p : Pl) : PyData := .tuple (plInts p)
theorem pl_alikes : ∀ p q : Pl, alikeAll (plInts p) (plInts q) = true
  | [], _ => by simp [plInts, alikeAll]
  | _ :: _, [] => by simp [plInts, alikeAll]
  | a :: p, b :: q => by
    have := pl_alikes p q
    show alikeAll (.int a :: plInts p) (.int b :: plInts q) = true
    simp [alikeAll, alike, this]
theorem pl_eqvs : ∀ p q : Pl, PyData.eqvAll (plInts p) (plInts q) = decide (p = q)
  | [], [] => by simp [plInts, PyData.eqvAll]
  | [], _ :: _ => by simp [plInts, PyData.eqvAll]
  | _ :: _, [] => by simp [plInts, PyData.eqvAll]
  | a :: p, b :: q => by
    have ih := pl_eqvs p q
    show PyData.eqvAll (.int a :: plInts p) (.int b :: plInts q) = _
    simp only [PyData.eqvAll, PyData.eqv, ih, ib]
    by_cases h : a = b
    · subst h; simp
    · have : ¬ ((a : Int) = (b : Int)) := by omega
      simp [h, this]
instance : Orderly plEnc where
  al a b := by show alike (.tuple _) (.tuple _) = true; rw [alike]; exact pl_alikes a b
  eq a b := by show PyData.eqv (.tuple _) (.tuple _) = _; rw [PyData.eqv]; exact pl_eqvs a b
theorem pl_noList (p : Pl) : noList (plEnc p) = true := by
  have : ∀ p : Pl, noLists (plInts p) = true := by
    intro p
    induction p with
    | nil => simp [plInts, noLists]
    | cons a r ih => show noLists (.int a :: plInts r) = true; simp [noLists, noList, ih]
  show noList (.tuple _) = true
  rw [noList]; exact this p
theorem PL_ints {K : PySem.W.Frag} {H : Hp} {v : V} {p : Pl} (h : Dp K H v (plEnc p)) : ∃ a, v = .ref a ∧ SqT K H a (p.map fun n : Nat => V.int (n : Int)) := by
  have key : ∀ {p : Pl} {xs : List V}, DpAll K H xs (plInts p) → xs = p.map fun n : Nat => V.int (n : Int) := by
    intro p
    induction p with
    | nil => intro xs h; cases h; rfl
    | cons a r ih =>
      intro xs h
      cases h with
      | cons h1 h2 => cases h1; rw [ih h2]; rfl
  cases h with
  | tup hs ha => rw [key ha] at hs; exact ⟨_, rfl, hs⟩
theorem PL_of {K : PySem.W.Frag} {H : Hp} {a : Addr} {p : Pl} (h : SqT K H a (p.map fun n : Nat => V.int (n : Int))) : Dp K H (.ref a) (plEnc p) := by
  refine Dp.tup h ?_
  have key : ∀ p : Pl, DpAll K H (p.map fun n : Nat => V.int (n : Int)) (plInts p) := by
    intro p
    induction p with
    | nil => exact .nil
    | cons a r ih => exact .cons (.int _) ih
  exact key p
end FT
namespace FT
open PySem PySem.W PySem.Spec PyProof.Rows L2
/-- a thing in a place: which whole number it is, if it is one -/
def Wh (K : PySem.W.Frag) (H : Hp) (v : V) (o : Option Int) : Prop := (∃ i, v = .int i ∧ o = some i) ∨ (o = none ∧ ∃ (n : String) (b1 b2 : Bool), TyX K H v (.type n) ∧ kitB n "int" = some b1 ∧ (b1 = true → kitB n "bool" = some b2) ∧ (b1 && !b2) = false)
inductive Whs (K : PySem.W.Frag) (H : Hp) : List V → List (Option Int) → Prop where
  | nil : Whs K H [] []
  | cons {v : V} {o : Option Int} {vs : List V} {os : List (Option Int)} : Wh K H v o → Whs K H vs os → Whs K H (v :: vs) (o :: os)
section
variable {K : PySem.W.Frag} {H H' : Hp}
theorem Whs.length : ∀ {vs : List V} {os : List (Option Int)}, Whs K H vs os → vs.length = os.length
  | _, _, .nil => rfl
  | _, _, .cons _ h => congrArg (· + 1) h.length
theorem Whs.get : ∀ {vs : List V} {os : List (Option Int)}, Whs K H vs os → ∀ {i : Nat} {v : V}, vs[i]? = some v → ∃ o, os[i]? = some o ∧ Wh K H v o
  | _, _, .nil, i, v, e => by simp at e
  | _, _, .cons (o := o) h hs, 0, v, e => by
    have : _ = v := Option.some.inj e
    subst this; exact ⟨o, rfl, h⟩
  | _, _, .cons h hs, i + 1, v, e => hs.get (i := i) e
theorem Whs.append : ∀ {vs us : List V} {os ps : List (Option Int)}, Whs K H vs os → Whs K H us ps → Whs K H (vs ++ us) (os ++ ps)
  | _, _, _, _, .nil, h => h
  | _, _, _, _, .cons a b, h => .cons a (b.append h)
theorem Wh.sb {v : V} {o : Option Int} (h : Wh K H v o) (e : SB [] H H') : Wh K H' v o := by
  rcases h with h | ⟨h, n, b1, b2, ty, k⟩
  · exact .inl h
  · exact .inr ⟨h, n, b1, b2, TyX_sb e (fun _ _ => List.not_mem_nil) ty, k⟩
theorem Whs.sb (e : SB [] H H') : ∀ {vs : List V} {os : List (Option Int)}, Whs K H vs os → Whs K H' vs os
  | _, _, .nil => .nil
  | _, _, .cons h hs => .cons (h.sb e) (Whs.sb e hs)
def plO (p : Pl) : List (Option Int) := p.map fun n : Nat => some (n : Int)
theorem Whs.pl (K : PySem.W.Frag) (H : Hp) : ∀ p : Pl, Whs K H (p.map fun n : Nat => V.int (n : Int)) (plO p)
  | [] => .nil
  | n :: r => .cons (.inl ⟨_, rfl, rfl⟩) (Whs.pl K H r)
end
def stp (g : Gr) : Option Int → Option Tr
  | none => none
  | some n => if 0 ≤ n then (g.ps[n.toNat]?).map (·.1) else none
def lk : Tr → List (Option Int) → Option Tr
  | t, [] => some t
  | t, o :: r => (stp t.2 o).bind fun u => lk u r
theorem lk_append : ∀ (t : Tr) (as bs : List (Option Int)), lk t (as ++ bs) = (lk t as).bind fun u => lk u bs
  | t, [], bs => rfl
  | t, o :: r, bs => by
    show (stp t.2 o).bind (fun u => lk u (r ++ bs)) = ((stp t.2 o).bind fun u => lk u r).bind fun u => lk u bs
    cases stp t.2 o with
    | none => rfl
    | some u => exact lk_append u r bs
theorem lk_none {t : Tr} {os : List (Option Int)} {i : Nat} {o : Option Int} {u : Tr} (h1 : lk t (os.take i) = some u) (h2 : os[i]? = some o) (h3 : stp u.2 o = none) : lk t os = none := by
  have hl : i < os.length := (List.getElem?_eq_some_iff.mp h2).1
  have e : os = os.take i ++ o :: os.drop (i + 1) := by
    have := List.drop_eq_getElem_cons hl
    rw [(List.getElem?_eq_some_iff.mp h2).2] at this
    rw [← this, List.take_append_drop]
  rw [e, lk_append, h1]
  show (stp u.2 o).bind _ = none
  rw [h3]; rfl
theorem lk_next {t : Tr} {os : List (Option Int)} {i : Nat} {o : Option Int} {u x : Tr} (h1 : lk t (os.take i) = some u) (h2 : os[i]? = some o) (h3 : stp u.2 o = some x) : lk t (os.take (i + 1)) = some x := by
  rw [List.take_add_one, h2, lk_append, h1]
  show (stp u.2 o).bind _ = some x
  rw [h3]; rfl
/-- the tree at a place, or an error of the class at C -/
def spTreeAt (K : PySem.W.Frag) (C : Addr) : Sp := fun vs H Q E => ∃ (v : V) (g : Gr) (a : Addr) (xs : List V) (os : List (Option Int)), vs = [v, .ref a] ∧ GA K H v g ∧ SqT K H a xs ∧ Whs K H xs os ∧
  (∀ t, os ≠ [] → lk ("", g) os = some t → ∀ (x : V) (H' : Hp), SB [] H H' → Dp K H' x (Gr.tEnc t) → Q x H') ∧ ((os = [] ∨ lk ("", g) os = none) → ∀ H', SB [] H H' → E (.ref C) none H')
end FT
namespace FT
open PySem PySem.W PySem.Spec PyProof.Rows L2
mutual
inductive Tg (K : PySem.W.Frag) (H : Hp) : V → PyData → Prop
  | int (i : Int) : Tg K H (.int i) (.int i)
  | str (z : Str) : z.length ≤ 1000 → Tg K H (.str z) (.str z)
  | tup {a : Addr} {xs : List V} {ds : List PyData} : SqT K H a xs → TgAll K H xs ds → Tg K H (.ref a) (.tuple ds)
  | oth {v : V} {n : String} : TyX K H v (.type n) → kitB n "tuple" = some false → kitB n "str" = some false → (kitB n "int" = some false ∨ n = "bool") → Tg K H v .none
inductive TgAll (K : PySem.W.Frag) (H : Hp) : List V → List PyData → Prop
  | nil : TgAll K H [] []
  | cons {v : V} {vs : List V} {d : PyData} {ds : List PyData} : Tg K H v d → TgAll K H vs ds → TgAll K H (v :: vs) (d :: ds)
end
mutual
/-- the same without its texts -/
def strip : PyData → PyData
  | .int i => .int i
  | .tuple ds => .tuple (strips ds)
  | _ => .none
def strips : List PyData → List PyData
  | [] => []
  | d :: r => strip d :: strips r
end
theorem many_strip (d : PyData) : manyD (strip d) = manyD d := by cases d <;> simp [strip, manyD]
section
variable {K : PySem.W.Frag} {H H' : Hp}
mutual
theorem Tg.th : ∀ {v : V} {d : PyData}, Tg K H v d → Th K [] H v (strip d)
  | _, _, .int i => by rw [strip]; exact .int i
  | _, _, .str z _ => by rw [strip] <;> first | exact .oth (.base (.str z)) (by decide +kernel) (.inl (by decide +kernel)) (fun _ _ => List.not_mem_nil) | simp
  | _, _, .tup hs ha => by rw [strip]; exact .tup hs (TgAll.th ha)
  | _, _, .oth ty k1 _ k2 => by rw [strip] <;> first | exact .oth ty k1 k2 (fun _ _ => List.not_mem_nil) | simp
theorem TgAll.th : ∀ {vs : List V} {ds : List PyData}, TgAll K H vs ds → ThAll K [] H vs (strips ds)
  | _, _, .nil => by rw [strips]; exact .nil
  | _, _, .cons h t => by rw [strips]; exact .cons (Tg.th h) (TgAll.th t)
end
mutual
theorem Tg_sb (e : SB [] H H') : ∀ {v : V} {d : PyData}, Tg K H v d → Tg K H' v d
  | _, _, .int i => .int i
  | _, _, .str z hz => .str z hz
  | _, _, .tup hs ha => .tup (e.sqT hs) (TgAll_sb e ha)
  | _, _, .oth ty k0 k1 k2 => .oth (TyX_sb e (fun _ _ => List.not_mem_nil) ty) k0 k1 k2
theorem TgAll_sb (e : SB [] H H') : ∀ {vs : List V} {ds : List PyData}, TgAll K H vs ds → TgAll K H' vs ds
  | _, _, .nil => .nil
  | _, _, .cons h t => .cons (Tg_sb e h) (TgAll_sb e t)
end
theorem TgAll.length : ∀ {vs : List V} {ds : List PyData}, TgAll K H vs ds → vs.length = ds.length
  | _, _, .nil => rfl
  | _, _, .cons _ t => by rw [List.length_cons, List.length_cons, TgAll.length t]
theorem TgAll.get : ∀ {vs : List V} {ds : List PyData} {i : Nat} {v : V}, TgAll K H vs ds → vs[i]? = some v → ∃ d, ds[i]? = some d ∧ Tg K H v d
  | _, _, _, _, .nil, e => by simp at e
  | _, _, 0, _, .cons h t, e => by simp at e; subst e; exact ⟨_, rfl, h⟩
  | _, _, i + 1, v, .cons h t, e => by
    obtain ⟨d, h1, h2⟩ := TgAll.get (i := i) (v := v) t (by simpa using e)
    exact ⟨d, by simpa using h1, h2⟩
theorem Tg.ty {v : V} {d : PyData} (h : Tg K H v d) : ∃ n b, TyX K H v (.type n) ∧ kitB n "tuple" = some b ∧ (b = true → ∃ a xs ds, v = .ref a ∧ d = .tuple ds ∧ SqT K H a xs ∧ TgAll K H xs ds) ∧ (b = false → ∀ ds, d ≠ .tuple ds) := by
  cases h with
  | int i => exact ⟨"int", false, .base (.int i), by decide +kernel, fun z => (nomatch z), fun _ ds z => nomatch z⟩
  | str z hz => exact ⟨"str", false, .base (.str z), by decide +kernel, fun z => (nomatch z), fun _ ds z => nomatch z⟩
  | tup hs ha => exact ⟨"tuple", true, (SqT_ty hs), by decide +kernel, fun _ => ⟨_, _, _, rfl, rfl, hs, ha⟩, fun z => (nomatch z)⟩
  | oth ty k1 _ k2 => exact ⟨_, false, ty, k1, fun z => (nomatch z), fun _ ds z => nomatch z⟩
theorem Tg.txt {v : V} {d : PyData} (h : Tg K H v d) : ∃ n b, TyX K H v (.type n) ∧ kitB n "str" = some b ∧ (b = true → ∃ z, v = .str z ∧ d = .str z ∧ z.length ≤ 1000) ∧ (b = false → ∀ z, d ≠ .str z) := by
  cases h with
  | int i => exact ⟨"int", false, .base (.int i), by decide +kernel, fun z => (nomatch z), fun _ ds z => nomatch z⟩
  | str z hz => exact ⟨"str", true, .base (.str z), by decide +kernel, fun _ => ⟨z, rfl, rfl, hz⟩, fun z => (nomatch z)⟩
  | tup hs ha => exact ⟨"tuple", false, (SqT_ty hs), by decide +kernel, fun z => (nomatch z), fun _ ds z => nomatch z⟩
  | oth ty _ k1 k2 => exact ⟨_, false, ty, k1, fun z => (nomatch z), fun _ ds z => nomatch z⟩
end
instance (z : Str) : Decidable (NameOk z) := inferInstanceAs (Decidable (_ ∧ _ ∧ _))
def nameD : PyData → Bool
  | .str z => decide (NameOk z)
  | _ => false
mutual
def groveD : PyData → Bool
  | .tuple ds => grPs ds && risingD (ds.map exp0)
  | _ => false
def grPs : List PyData → Bool
  | [] => true
  | d :: ds => grP d && grPs ds
def grP : PyData → Bool
  | .tuple ds => grP2 ds
  | _ => false
def grP2 : List PyData → Bool
  | [] => false
  | t :: r => treeD t && ladP3 r
def treeD : PyData → Bool
  | .tuple ds => trD2 ds
  | _ => false
def trD2 : List PyData → Bool
  | [] => false
  | k :: r => nameD k && trD3 r
def trD3 : List PyData → Bool
  | [] => false
  | g :: r => groveD g && r.isEmpty
end
theorem ladP3_iff {r : List PyData} (h : ladP3 r = true) : ∃ i, r = [.int i] ∧ (1 : Int) ≤ i := by
  match r, h with
  | [], h => simp [ladP3] at h
  | .int i :: [], h => simp [ladP3, manyD] at h; exact ⟨i, rfl, h⟩
  | .int i :: _ :: _, h => simp [ladP3] at h
  | .none :: _, h => simp [ladP3, manyD] at h
  | .bool _ :: _, h => simp [ladP3, manyD] at h
  | .str _ :: _, h => simp [ladP3, manyD] at h
  | .list _ :: _, h => simp [ladP3, manyD] at h
  | .dict _ :: _, h => simp [ladP3, manyD] at h
  | .tuple _ :: _, h => simp [ladP3, manyD] at h
theorem nameD_iff {d : PyData} (h : nameD d = true) : ∃ z, d = .str z ∧ NameOk z := by
  cases d with
  | str z => exact ⟨z, rfl, of_decide_eq_true h⟩
  | _ => simp [nameD] at h
mutual
theorem groveD_gr : ∀ d : PyData, groveD d = true → ∃ g : Gr, d = g.enc
  | .tuple ds, h => by
    rw [groveD, Bool.and_eq_true] at h
    obtain ⟨g, e⟩ := grPs_enc ds h.1
    exact ⟨g, by rw [e]; rfl⟩
  | .none, h => by simp [groveD] at h
  | .bool _, h => by simp [groveD] at h
  | .int _, h => by simp [groveD] at h
  | .str _, h => by simp [groveD] at h
  | .list _, h => by simp [groveD] at h
  | .dict _, h => by simp [groveD] at h
theorem grPs_enc : ∀ ds : List PyData, grPs ds = true → ∃ g : Gr, ds = g.encs
  | [], _ => ⟨.nil, rfl⟩
  | d :: ds, h => by
    rw [grPs, Bool.and_eq_true] at h
    obtain ⟨r, er⟩ := grPs_enc ds h.2
    obtain ⟨t, i, ed, he⟩ := grP_enc d h.1
    exact ⟨.cons t.1 t.2 i r, by rw [er, ed]; rfl⟩
theorem grP_enc : ∀ d : PyData, grP d = true → ∃ (t : Tr) (i : Int), d = .tuple [Gr.tEnc t, .int i] ∧ (1 : Int) ≤ i
  | .tuple ds, h => by
    rw [grP] at h
    obtain ⟨e, i, ed, he⟩ := grP2_enc ds h
    exact ⟨e, i, by rw [ed], he⟩
  | .none, h => by simp [grP] at h
  | .bool _, h => by simp [grP] at h
  | .int _, h => by simp [grP] at h
  | .str _, h => by simp [grP] at h
  | .list _, h => by simp [grP] at h
  | .dict _, h => by simp [grP] at h
theorem grP2_enc : ∀ ds : List PyData, grP2 ds = true → ∃ (t : Tr) (i : Int), ds = [Gr.tEnc t, .int i] ∧ (1 : Int) ≤ i
  | [], h => by simp [grP2] at h
  | d :: r, h => by
    rw [grP2, Bool.and_eq_true] at h
    obtain ⟨t, et⟩ := treeD_tr d h.1
    obtain ⟨i, er, hi⟩ := ladP3_iff h.2
    exact ⟨t, i, by rw [et, er], hi⟩
theorem treeD_tr : ∀ d : PyData, treeD d = true → ∃ t : Tr, d = Gr.tEnc t
  | .tuple ds, h => by
    rw [treeD] at h
    obtain ⟨t, et⟩ := trD2_enc ds h
    exact ⟨t, by rw [et]; rfl⟩
  | .none, h => by simp [treeD] at h
  | .bool _, h => by simp [treeD] at h
  | .int _, h => by simp [treeD] at h
  | .str _, h => by simp [treeD] at h
  | .list _, h => by simp [treeD] at h
  | .dict _, h => by simp [treeD] at h
theorem trD2_enc : ∀ ds : List PyData, trD2 ds = true → ∃ t : Tr, ds = [.str t.1, t.2.enc]
  | [], h => by simp [trD2] at h
  | d :: r, h => by
    rw [trD2, Bool.and_eq_true] at h
    obtain ⟨z, ez, _⟩ := nameD_iff h.1
    obtain ⟨g, eg⟩ := trD3_enc r h.2
    exact ⟨(z, g), by rw [ez, eg]⟩
theorem trD3_enc : ∀ ds : List PyData, trD3 ds = true → ∃ g : Gr, ds = [g.enc]
  | [], h => by simp [trD3] at h
  | d :: r, h => by
    rw [trD3, Bool.and_eq_true] at h
    obtain ⟨g, eg⟩ := groveD_gr d h.1
    have : r = [] := by cases r with | nil => rfl | cons _ _ => simp at h
    exact ⟨g, by rw [eg, this]⟩
end
section
variable {K : PySem.W.Frag} {H : Hp}
theorem GA_tg {C : Int} : ∀ (g : Gr) {vs : List V}, g.Ok C → DpAll K H vs g.encs → TgAll K H vs g.encs
  | .nil, vs, _, h => by cases h; exact .nil
  | .cons k g m r, vs, ho, h => by
    cases h with
    | cons h1 h2 =>
      refine .cons ?_ (GA_tg r ho.2.2.2.2.1 h2)
      cases h1 with
      | tup hs ha =>
        cases ha with
        | cons h3 h4 =>
          cases h4 with
          | cons h5 h6 =>
            cases h6; cases h5
            refine .tup hs (.cons ?_ (.cons (.int _) .nil))
            cases h3 with
            | tup hs2 hb =>
              cases hb with
              | cons h7 h8 =>
                cases h8 with
                | cons h9 h10 =>
                  cases h10; cases h7
                  cases h9 with
                  | tup hs3 hc => exact .tup hs2 (.cons (.str _ (by have := ho.1.2.1; simp [Str.length]; simp at this; omega)) (.cons (.tup hs3 (GA_tg g ho.2.1 hc)) .nil))
theorem Tg_ga : ∀ (g : Gr) {vs : List V}, TgAll K H vs g.encs → DpAll K H vs g.encs
  | .nil, vs, h => by cases h; exact .nil
  | .cons k g m r, vs, h => by
    cases h with
    | cons h1 h2 =>
      refine .cons ?_ (Tg_ga r h2)
      cases h1 with
      | tup hs ha =>
        cases ha with
        | cons h3 h4 =>
          cases h4 with
          | cons h5 h6 =>
            cases h6; cases h5
            refine .tup hs (.cons ?_ (.cons (.int _) .nil))
            cases h3 with
            | tup hs2 hb =>
              cases hb with
              | cons h7 h8 =>
                cases h8 with
                | cons h9 h10 =>
                  cases h10; cases h7
                  cases h9 with
                  | tup hs3 hc => exact .tup hs2 (.cons (.str _) (.cons (.tup hs3 (Tg_ga g hc)) .nil))
end
def spName (K : PySem.W.Frag) : Sp := fun vs H Q _ => ∃ (v : V) (d : PyData), vs = [v] ∧ Tg K H v d ∧ ∀ H', SB [] H H' → Q (.bl (nameD d)) H'
def spIsTree (K : PySem.W.Frag) (n : Nat) : Sp := fun vs H Q _ => ∃ (v : V) (d : PyData), vs = [v] ∧ Tg K H v d ∧ d.depth < n ∧ d.depth ≤ 80 ∧ wide d ≤ 1000 ∧ ∀ H', SB [] H H' → Q (.bl (treeD d)) H'
def spIsGrove (K : PySem.W.Frag) (n : Nat) : Sp := fun vs H Q _ => ∃ (v : V) (d : PyData), vs = [v] ∧ Tg K H v d ∧ d.depth < n ∧ d.depth ≤ 80 ∧ wide d ≤ 1000 ∧ ∀ H', SB [] H H' → Q (.bl (groveD d)) H'
def spPairsQ (K : PySem.W.Frag) (tp : Bool) (n : Nat) : Sp := fun vs H Q _ => ∃ (a : Addr) (xs : List V) (ds : List PyData), vs = [.ref a] ∧ (if tp = true then SqT K H a xs else SqL K H a xs) ∧ TgAll K H xs ds ∧ PyData.depthAll ds < n ∧ PyData.depthAll ds ≤ 79 ∧ wide (.tuple ds) ≤ 1000 ∧ ∀ H', SB [] H H' → Q (.bl (grPs ds)) H'
/-- the run of signs from a place on -/
def spRunOf (K : PySem.W.Frag) : Sp := fun vs H Q _ => ∃ (z y : Str) (k : Nat), vs = [.str z, .int (k : Int), .str y] ∧ z.length ≤ 100000 ∧ k ≤ z.length ∧ ∀ e : Nat, k ≤ e → e ≤ z.length → (∀ j c, k ≤ j → j < e → z.cps.toList[j]? = some c → c ∈ y.cps.toList) → (∀ c, z.cps.toList[e]? = some c → c ∉ y.cps.toList) → Q (.str (cutS z (some (k : Int)) (some (e : Int)))) H
theorem mem_abc (c : Nat) : c ∈ abc.cps.toList ↔ 97 ≤ c ∧ c ≤ 122 := by
  have e : abc.cps.toList = (List.range 26).map (· + 97) := by decide +kernel
  rw [e, List.mem_map]
  constructor
  · rintro ⟨x, hx, rfl⟩
    have := List.mem_range.mp hx
    omega
  · intro h
    exact ⟨c - 97, List.mem_range.mpr (by omega), by omega⟩
theorem len_cps (z : Str) : z.cps.toList.length = z.length := by simp [Str.length]
theorem cut0 (z : Str) {e : Nat} (he : e ≤ z.length) : (cutS z (some ((0 : Nat) : Int)) (some (e : Int))).cps.toList = z.cps.toList.take e := by
  unfold cutS
  rw [HT.sIx_nat, HT.sIx_nat]
  simp [Nat.min_eq_left he]
theorem run_name {z : Str} {e : Nat} (h1 : 1 ≤ z.length) (h8 : z.length ≤ 8) (he : e ≤ z.length) (hin : ∀ j c, 0 ≤ j → j < e → z.cps.toList[j]? = some c → c ∈ abc.cps.toList) (hout : ∀ c, z.cps.toList[e]? = some c → c ∉ abc.cps.toList) :
    decide (V.str (cutS z (some ((0 : Nat) : Int)) (some (e : Int))) = V.str z) = nameD (.str z) := by
  have hl := len_cps z
  rw [Bool.eq_iff_iff, decide_eq_true_iff, nameD, decide_eq_true_iff]
  constructor
  · intro h
    injection h with h
    have h2 := cut0 z he
    rw [h] at h2
    have h3 : z.cps.toList.length = min e z.cps.toList.length := by
      have := congrArg List.length h2
      rwa [List.length_take] at this
    refine ⟨by omega, by omega, fun c hc => ?_⟩
    obtain ⟨j, hj⟩ := List.mem_iff_getElem?.mp hc
    have hj2 := (List.getElem?_eq_some_iff.mp hj).1
    exact (mem_abc c).mp (hin j c (Nat.zero_le _) (by omega) hj)
  · rintro ⟨_, _, hall⟩
    have e1 : e = z.length := by
      rcases Nat.lt_or_ge e z.length with h | h
      · obtain ⟨c, hc⟩ : ∃ c, z.cps.toList[e]? = some c := ⟨_, List.getElem?_eq_getElem (by omega)⟩
        exact absurd ((mem_abc c).mpr (hall c (List.mem_of_getElem? hc))) (hout c hc)
      · omega
    have h2 := cut0 z he
    rw [e1, ← hl, List.take_length] at h2
    congr 1
    have h3 : ∀ a b : Str, a.cps.toList = b.cps.toList → a = b := by
      intro a b hab
      cases a; cases b
      congr 1
      exact Array.toList_inj.mp hab
    rw [e1, ← hl]
    exact h3 _ _ h2
theorem name_out {z : Str} (h : ¬ (1 ≤ z.length ∧ z.length ≤ 8)) : nameD (.str z) = false := by
  have hl := len_cps z
  rw [nameD]
  exact decide_eq_false fun ⟨h1, h2, _⟩ => h ⟨by omega, by omega⟩
end FT
namespace FT
open PySem PySem.W PySem.Spec PyProof.Rows L2
theorem nameD_ok {z : Str} (h : NameOk z) : nameD (.str z) = true := decide_eq_true h
theorem treeD_of {t : Tr} (h0 : NameOk t.1) (h : groveD t.2.enc = true) : treeD (Gr.tEnc t) = true := by
  rw [Gr.tEnc, treeD, trD2, trD3, nameD_ok h0, h]; rfl
theorem grP_of {t : Tr} {m : Int} (h0 : NameOk t.1) (h : groveD t.2.enc = true) (hm : 1 ≤ m) : grP (Gr.pEnc (t, m)) = true := by
  show grP (.tuple [Gr.tEnc t, .int m]) = true
  rw [grP, grP2, ladP3, treeD_of h0 h]
  simp [manyD, hm]
theorem groveD_ok {C : Int} : ∀ {g : Gr}, g.Ok C → groveD g.enc = true
  | .nil, _ => by decide +kernel
  | .cons k g m r, ⟨h0, h1, h2, h3, h4, h5⟩ => by
    have a1 := groveD_ok h1
    have a2 := groveD_ok h4
    rw [Gr.enc, groveD, Bool.and_eq_true] at a2
    have hp : grP (Gr.pEnc ((k, g), m)) = true := grP_of h0 a1 h2
    have e : (Gr.cons k g m r).encs = Gr.pEnc ((k, g), m) :: r.encs := rfl
    rw [Gr.enc, groveD, e, grPs, hp, a2.1, Bool.true_and, Bool.true_and, List.map_cons]
    cases r with
    | nil => rfl
    | cons k2 g2 m2 r2 =>
      have hlt : dataLt (Gr.tEnc (k, g)) (Gr.tEnc (k2, g2)) = true := h5 ((k2, g2), m2) (List.mem_cons_self ..)
      have e2 : (Gr.cons k2 g2 m2 r2).encs = Gr.pEnc ((k2, g2), m2) :: r2.encs := rfl
      have a3 := a2.2
      rw [e2, List.map_cons] at a3 ⊢
      show (dataLt (Gr.tEnc (k, g)) (Gr.tEnc (k2, g2)) :: ltsD _).all id = true
      rw [List.all_cons, show id (dataLt (Gr.tEnc (k, g)) (Gr.tEnc (k2, g2))) = true from hlt, Bool.true_and]
      exact a3
theorem wides_gr : ∀ g : Gr, wides g.encs ≤ 2 + g.parts ∧ g.encs.length ≤ g.parts
  | .nil => ⟨by show wides [] ≤ _; rw [wides]; omega, Nat.le_refl _⟩
  | .cons k g m r => by
    obtain ⟨h1, h2⟩ := wides_gr g
    obtain ⟨h3, h4⟩ := wides_gr r
    have e : (Gr.cons k g m r).encs = Gr.pEnc ((k, g), m) :: r.encs := rfl
    have e2 : wide (Gr.pEnc ((k, g), m)) ≤ 2 + g.parts := by
      show wide (.tuple [.tuple [.str k, .tuple g.encs], .int m]) ≤ _
      simp only [wide, wides, List.length_cons, List.length_nil]
      omega
    rw [e, wides, List.length_cons]
    show _ ≤ 2 + (1 + g.parts + r.parts) ∧ _ ≤ 1 + g.parts + r.parts
    omega
section
variable {K : PySem.W.Frag} {H : Hp} {C : Int}
theorem GA_thing {g : Gr} {v : V} (ho : g.Ok C) (h : GA K H v g) : Tg K H v g.enc := by
  cases (h : Dp K H v (.tuple g.encs)) with
  | tup hs ha => exact .tup hs (GA_tg g ho ha)
theorem name_short {z : Str} (h : NameOk z) : z.length ≤ 1000 := by
  have := h.2.1
  rw [len_cps] at this
  omega
end
end FT
namespace FT
open PySem PySem.W PySem.Spec PyProof.Rows L2
section
variable {K : PySem.W.Frag} {H H3 H4 : Hp} {p0 nm S : Addr} {ks : List Str}
theorem Hd.other (h : Hd K H H3 p0 nm ks) (s : SB [S] H3 H4) (n : H S = none) (n1 : p0 ≠ S) (n2 : nm ≠ S) : Hd K H H4 p0 nm ks := by
  refine ⟨h.hp.keep s (by simpa using n1), s.keep _ _ h.hnm (by simpa using n2), h.k1, h.k8, h.kn, h.ne, ?_, h.np⟩
  have h1 : SB [S, p0] H H3 := h.sb.mono fun b hb => List.mem_cons_of_mem _ hb
  have h2 : SB [S, p0] H3 H4 := s.mono fun b hb => by have : b = S := by simpa using hb
                                                      subst this; simp
  exact (h1.trans h2).drop n
end
/-- a list that stands is kept where another is changed -/
theorem SB.lst {H H' : Hp} {ps : List Addr} {D : Addr} {us : List V} (s : SB ps H H') (h : H D = some (.lst us)) (n : D ∉ ps) : H' D = some (.lst us) := s.keep _ _ h n
theorem atI_end {α : Type} {xs : List α} {v : α} (h : xs[xs.length - 1]? = some v) : atI xs (-1) = some v := by
  rcases List.eq_nil_or_concat xs with e | ⟨ys, u, e⟩
  · subst e; simp at h
  · rw [List.concat_eq_append] at e
    subst e
    have : u = v := by simpa using h
    subst this
    exact atI_last ys u
theorem TgAll.append {K : PySem.W.Frag} {H : Hp} : ∀ {xs ys : List V} {ds es : List PyData}, TgAll K H xs ds → TgAll K H ys es → TgAll K H (xs ++ ys) (ds ++ es)
  | _, _, _, _, .nil, h => h
  | _, _, _, _, .cons a b, h => .cons a (TgAll.append b h)
end FT
namespace FT
open PySem PySem.W PySem.Spec PyProof.Rows L2
theorem SB.setD {H : Hp} {p : Addr} {kvs : List (Key × V)} {ps : List Addr} (h : H p = some (.dK kvs)) (hp : p ∈ ps) (o : HO) : SB ps H (upd H p o) := by
  refine ⟨fun b u e n => ?_, fun b u e => ?_, fun b v u e => ?_, fun b e => ?_⟩
  · rw [upd_ne (fun (z : b = p) => n (by rw [z]; exact hp))]; exact e
  · rw [upd_ne (fun (z : b = p) => by subst z; rw [h] at e; cases e)]; exact e
  · rw [upd_ne (fun (z : b = p) => by subst z; rw [h] at e; cases e)]; exact e
  · by_cases q : b = p
    · subst q; rw [upd_same] at e; cases e
    · rw [upd_ne q] at e; exact e
end FT
namespace FT
open PySem PySem.W PySem.Spec PyProof.Rows L2
abbrev PG := Pl × Gr
end FT
namespace FT
open PySem PySem.W PySem.Spec PyProof.Rows L2
open TL (tl)
def numT (m : Int) : List Nat := if m = 1 then [] else TL.numL m.toNat ++ [32]
namespace Gr
def body : Gr → List Nat
  | .nil => []
  | .cons k g m r => numT m ++ (tl k ++ ((if g = .nil then [] else 123 :: (g.body ++ [125])) ++ (if r = .nil then [] else 44 :: 32 :: r.body)))
def held (g : Gr) : List Nat := if g = .nil then [] else 123 :: (g.body ++ [125])
def more (r : Gr) : List Nat := if r = .nil then [] else 44 :: 32 :: r.body
def text (g : Gr) : List Nat := if g = .nil then [45] else g.body
theorem body_cons (k : Str) (g : Gr) (m : Int) (r : Gr) : (Gr.cons k g m r).body = numT m ++ (tl k ++ (g.held ++ r.more)) := rfl
theorem text_cons (k : Str) (g : Gr) (m : Int) (r : Gr) : (Gr.cons k g m r).text = (Gr.cons k g m r).body := if_neg (fun z => nomatch z)
end Gr
theorem numT_len {m : Int} {C : Nat} (hC : 0 < C) (h0 : 0 ≤ m) (h : m < 10 ^ C) : (numT m).length ≤ C + 1 := by
  unfold numT
  split
  · simp
  · obtain ⟨n, rfl⟩ : ∃ n : Nat, m = (n : Int) := ⟨m.toNat, by omega⟩
    have h' : n < 10 ^ C := by exact_mod_cast h
    have := TL.numL_len hC h'
    rw [List.length_append, Int.toNat_natCast]; simp; omega
namespace Gr
theorem body_len {C : Nat} (hC : 0 < C) : ∀ {g : Gr}, g.Ok (10 ^ C) → g.body.length ≤ (C + 13) * g.parts
  | .nil, _ => Nat.zero_le _
  | .cons k g m r, ⟨h0, h1, h2, h3, h4, _⟩ => by
    have a := body_len hC h1
    have b := body_len hC h4
    have c := numT_len hC (by omega) h3
    have d := h0.2.1
    have e1 : g.held.length ≤ (C + 13) * g.parts + 2 := by unfold held; split <;> simp <;> omega
    have e2 : r.more.length ≤ (C + 13) * r.parts + 2 := by unfold more; split <;> simp <;> omega
    rw [body_cons]
    simp only [List.length_append, parts]
    have e3 : (C + 13) * (1 + g.parts + r.parts) = (C + 13) + (C + 13) * g.parts + (C + 13) * r.parts := by rw [Nat.mul_add, Nat.mul_add, Nat.mul_one]
    have d' : (tl k).length ≤ 8 := d
    omega
theorem text_len {C : Nat} (hC : 0 < C) {g : Gr} (h : g.Ok (10 ^ C)) : g.text.length ≤ (C + 13) * g.parts + 1 := by
  have := body_len hC h
  unfold text
  split
  · simp
  · omega
end Gr
def isFig (c : Nat) : Bool := decide (48 ≤ c ∧ c ≤ 57)
def isLtr (c : Nat) : Bool := decide (97 ≤ c ∧ c ≤ 122)
abbrev Rd (α : Type) := List Nat → Option (α × List Nat)
def rdPairOf (rdT : Rd Tr) : Rd (Tr × Int) := fun l =>
  if l.takeWhile isFig = [] then (rdT l).map fun x => ((x.1, 1), x.2)
  else if (l.takeWhile isFig).length > 60 ∨ (l.dropWhile isFig).head? ≠ some 32 then none
  else (rdT (l.dropWhile isFig).tail).map fun x => ((x.1, (NumText.digitsVal (l.takeWhile isFig) : Int)), x.2)
def rdTail (rdP : Rd (Tr × Int)) : Nat → Rd (List (Tr × Int))
  | 0, l => some ([], l)
  | f + 1, l => if l.take 2 = [44, 32] then (rdP (l.drop 2)).bind fun x => (rdTail rdP f x.2).map fun y => (x.1 :: y.1, y.2) else some ([], l)
def rdPairs (rdP : Rd (Tr × Int)) : Rd (List (Tr × Int)) := fun l => (rdP l).bind fun x => (rdTail rdP 100000 x.2).map fun y => (x.1 :: y.1, y.2)
def rdTree : Nat → Rd Tr
  | 0, l => if (l.dropWhile isLtr).head? ≠ some 123 then some ((⟨(l.takeWhile isLtr).toArray⟩, .nil), l.dropWhile isLtr) else none
  | n + 1, l => if (l.dropWhile isLtr).head? ≠ some 123 then some ((⟨(l.takeWhile isLtr).toArray⟩, .nil), l.dropWhile isLtr) else
      (rdPairs (rdPairOf (rdTree n)) (l.dropWhile isLtr).tail).bind fun x => if x.2.head? = some 125 then some ((⟨(l.takeWhile isLtr).toArray⟩, Gr.ofPs x.1), x.2.tail) else none
abbrev rdPair (n : Nat) : Rd (Tr × Int) := rdPairOf (rdTree n)
theorem takeWhile_app {p : Nat → Bool} : ∀ {as bs : List Nat}, (∀ a ∈ as, p a = true) → (∀ b, bs.head? = some b → p b = false) → (as ++ bs).takeWhile p = as ∧ (as ++ bs).dropWhile p = bs
  | [], bs, _, hb => by
    cases bs with
    | nil => exact ⟨rfl, rfl⟩
    | cons b r =>
      have := hb b rfl
      exact ⟨by simp [List.takeWhile, this], by simp [List.dropWhile, this]⟩
  | a :: as, bs, ha, hb => by
    obtain ⟨h1, h2⟩ := takeWhile_app (fun x hx => ha x (List.mem_cons_of_mem _ hx)) hb
    have := ha a (List.mem_cons_self ..)
    exact ⟨by rw [List.cons_append, List.takeWhile_cons, if_pos this, h1], by rw [List.cons_append, List.dropWhile_cons, if_pos this, h2]⟩
theorem name_ltrs {k : Str} (h : NameOk k) : ∀ c ∈ tl k, isLtr c = true := fun c hc => decide_eq_true (h.2.2 c hc)
theorem name_head {k : Str} (h : NameOk k) (r : List Nat) : ∃ c s, tl k ++ r = c :: s ∧ 97 ≤ c ∧ c ≤ 122 := by
  cases e : tl k with
  | nil => have := h.1; rw [show k.cps.toList = tl k from rfl, e] at this; simp at this
  | cons c s => exact ⟨c, s ++ r, rfl, h.2.2 c (by rw [show k.cps.toList = tl k from rfl, e]; simp)⟩
/-- what may stand behind a pair -/
def Stop (l : List Nat) : Prop := ∀ c, l.head? = some c → c = 44 ∨ c = 125
theorem rdPairOf_show {rdT : Rd Tr} {t : Tr} {m : Int} {l rest : List Nat} (hn : NameOk t.1) (h1 : 1 ≤ m) (hB : m < 10 ^ 60) (h : rdT (tl t.1 ++ l) = some (t, rest)) : rdPairOf rdT (numT m ++ (tl t.1 ++ l)) = some ((t, m), rest) := by
  obtain ⟨c, s, ec, hc1, hc2⟩ := name_head hn l
  unfold rdPairOf numT
  by_cases hm : m = 1
  · subst hm
    rw [if_pos rfl, List.nil_append]
    have e1 : (tl t.1 ++ l).takeWhile isFig = [] := by
      rw [ec, List.takeWhile_cons, if_neg]
      simp [isFig]; omega
    rw [if_pos e1, h]; rfl
  · rw [if_neg hm]
    obtain ⟨n, rfl⟩ : ∃ n : Nat, m = (n : Int) := ⟨m.toNat, by omega⟩
    rw [Int.toNat_natCast, List.append_assoc]
    have hd : ∀ a ∈ TL.numL n, isFig a = true := fun a ha => by
      have := TL.numL_digits n a ha
      exact decide_eq_true (by omega)
    obtain ⟨e1, e2⟩ := takeWhile_app (p := isFig) (as := TL.numL n) (bs := [32] ++ (tl t.1 ++ l)) hd (fun b hb => by
      have : (32 : Nat) = b := by simpa using hb
      subst this; rfl)
    rw [e1, e2, if_neg (TL.numL_ne n)]
    have hl : (TL.numL n).length ≤ 60 := TL.numL_len (by decide) (by exact_mod_cast hB)
    rw [if_neg (by simp; omega)]
    show (rdT (tl t.1 ++ l)).map _ = _
    rw [h, TL.numL_val]; rfl
theorem rdTree_show0 {n : Nat} {k : Str} {rest : List Nat} (hn : NameOk k) (hs : Stop rest) : rdTree n (tl k ++ rest) = some ((k, .nil), rest) := by
  obtain ⟨e1, e2⟩ := takeWhile_app (p := isLtr) (as := tl k) (bs := rest) (name_ltrs hn) (fun b hb => by
    rcases hs b hb with h | h <;> subst h <;> rfl)
  have hh : rest.head? ≠ some 123 := fun h => by rcases hs 123 h with e | e <;> cases e
  cases n with
  | zero => unfold rdTree; rw [e1, e2, if_pos hh, TL.mk_tl]
  | succ n => unfold rdTree; rw [e1, e2, if_pos hh, TL.mk_tl]
theorem rdTree_show1 {n : Nat} {k : Str} {g : Gr} {rest : List Nat} (hn : NameOk k) (hg : g ≠ .nil) (h : rdPairs (rdPair n) (g.body ++ ([125] ++ rest)) = some (g.ps, [125] ++ rest)) : rdTree (n + 1) (tl k ++ (g.held ++ rest)) = some ((k, g), rest) := by
  have e0 : g.held ++ rest = 123 :: (g.body ++ ([125] ++ rest)) := by
    unfold Gr.held; rw [if_neg hg]; simp
  rw [e0]
  obtain ⟨e1, e2⟩ := takeWhile_app (p := isLtr) (as := tl k) (bs := 123 :: (g.body ++ ([125] ++ rest))) (name_ltrs hn) (fun b hb => by
    have : (123 : Nat) = b := by simpa using hb
    subst this; rfl)
  unfold rdTree
  rw [e1, e2, if_neg (by simp)]
  show (rdPairs (rdPair n) (g.body ++ ([125] ++ rest))).bind _ = _
  rw [h]
  show (if ([125] ++ rest).head? = some 125 then some (((⟨(tl k).toArray⟩ : Str), Gr.ofPs g.ps), rest) else none) = _
  rw [TL.mk_tl, Gr.ofPs_ps]
  rfl
theorem Stop.nil : Stop [] := fun c h => by cases h
theorem Stop.comma (r : List Nat) : Stop (44 :: r) := fun c h => by have : (44 : Nat) = c := by simpa using h
                                                                    exact .inl this.symm
/-- what may stand behind pairs -/
def End (l : List Nat) : Prop := ∀ c, l.head? = some c → c = 125
theorem End.stop {l : List Nat} (h : End l) : Stop l := fun c hc => .inr (h c hc)
theorem more_stop (r : Gr) {rest : List Nat} (he : End rest) : Stop (r.more ++ rest) := by
  unfold Gr.more
  split
  · exact he.stop
  · exact Stop.comma _
theorem tail_end {rdP : Rd (Tr × Int)} {rest : List Nat} (he : End rest) (f : Nat) : rdTail rdP f rest = some ([], rest) := by
  cases f with
  | zero => rfl
  | succ f =>
    show (if rest.take 2 = [44, 32] then _ else _) = _
    rw [if_neg]
    intro z
    cases rest with
    | nil => simp at z
    | cons c s =>
      have hc := he c rfl
      subst hc
      simp at z
mutual
theorem rdTail_show : ∀ (r : Gr), r.Ok (10 ^ 60) → r.parts ≤ 100000 → ∀ (n f : Nat), r.ps.length ≤ f → r.deep ≤ n + 1 → ∀ rest, End rest → rdTail (rdPair n) f (r.more ++ rest) = some (r.ps, rest)
  | .nil, _, _, n, f, _, _, rest, he => by
    show rdTail (rdPair n) f rest = some ([], rest)
    exact tail_end he f
  | .cons k g m r, ho, hp, n, f, hf, hd, rest, he => by
    have hp2 : r.parts ≤ 100000 := by have : 1 + g.parts + r.parts ≤ 100000 := hp; omega
    cases f with
    | zero => simp [Gr.ps] at hf
    | succ f =>
      have hd2 : r.deep ≤ n + 1 := by have : max (1 + g.deep) r.deep ≤ n + 1 := hd; omega
      have hf' : r.ps.length ≤ f := by have : r.ps.length + 1 ≤ f + 1 := hf; omega
      have e : (Gr.cons k g m r).more ++ rest = 44 :: 32 :: (numT m ++ (tl k ++ (g.held ++ (r.more ++ rest)))) := by
        unfold Gr.more; rw [if_neg (fun z => nomatch z), Gr.body_cons]
        simp [Gr.more]
      rw [e]
      show (if (44 :: 32 :: (numT m ++ (tl k ++ (g.held ++ (r.more ++ rest))))).take 2 = [44, 32] then (rdPair n (numT m ++ (tl k ++ (g.held ++ (r.more ++ rest))))).bind (fun x => (rdTail (rdPair n) f x.2).map fun y => (x.1 :: y.1, y.2)) else _) = _
      rw [if_pos (show (44 :: 32 :: (numT m ++ (tl k ++ (g.held ++ (r.more ++ rest))))).take 2 = [44, 32] from rfl), rdPair_show k g m r ho hp n hd (r.more ++ rest) (more_stop r he)]
      show (rdTail (rdPair n) f (r.more ++ rest)).map _ = _
      rw [rdTail_show r ho.2.2.2.2.1 hp2 n f hf' hd2 rest he]; rfl
theorem rdPair_show : ∀ (k : Str) (g : Gr) (m : Int) (r : Gr), (Gr.cons k g m r).Ok (10 ^ 60) → (Gr.cons k g m r).parts ≤ 100000 → ∀ (n : Nat), (Gr.cons k g m r).deep ≤ n + 1 → ∀ rest, Stop rest → rdPair n (numT m ++ (tl k ++ (g.held ++ rest))) = some (((k, g), m), rest)
  | k, g, m, r, ⟨h0, h1, h2, h3, h4, _⟩, hp, n, hd, rest, hs => by
    have hp1 : g.parts ≤ 100000 := by have : 1 + g.parts + r.parts ≤ 100000 := hp; omega
    have hd1 : g.deep ≤ n := by have : max (1 + g.deep) r.deep ≤ n + 1 := hd; omega
    refine rdPairOf_show (t := (k, g)) h0 h2 h3 ?_
    match g, h1, hd1, hp1 with
    | .nil, _, _, _ =>
      show rdTree n (tl k ++ ([] ++ rest)) = _
      exact rdTree_show0 h0 hs
    | .cons k2 g2 m2 r2, h1, hd1, hp1 =>
      match n, hd1 with
      | 0, hd1 => have : max (1 + g2.deep) r2.deep ≤ 0 := hd1; omega
      | n + 1, hd1 =>
        refine rdTree_show1 h0 (fun z => nomatch z) ?_
        have e : (Gr.cons k2 g2 m2 r2).body ++ ([125] ++ rest) = numT m2 ++ (tl k2 ++ (g2.held ++ (r2.more ++ ([125] ++ rest)))) := by
          rw [Gr.body_cons]; simp
        have he : End ([125] ++ rest) := fun c hc => by
          have : (125 : Nat) = c := by simpa using hc
          exact this.symm
        rw [e]
        unfold rdPairs
        rw [rdPair_show k2 g2 m2 r2 h1 hp1 n hd1 _ (more_stop r2 he)]
        show (rdTail (rdPair n) 100000 (r2.more ++ ([125] ++ rest))).map _ = _
        have hd2 : r2.deep ≤ n + 1 := by have : max (1 + g2.deep) r2.deep ≤ n + 1 := hd1; omega
        have hp2 : r2.parts ≤ 100000 := by have : 1 + g2.parts + r2.parts ≤ 100000 := hp1; omega
        rw [rdTail_show r2 h1.2.2.2.2.1 hp2 n 100000 (Nat.le_trans r2.len_parts hp2) hd2 _ he]; rfl
end
theorem rdPairs_show {g : Gr} (ho : g.Ok (10 ^ 60)) (hp : g.parts ≤ 100000) (hne : g ≠ .nil) {n : Nat} (hd : g.deep ≤ n + 1) {rest : List Nat} (he : End rest) : rdPairs (rdPair n) (g.body ++ rest) = some (g.ps, rest) := by
  cases g with
  | nil => exact absurd rfl hne
  | cons k g m r =>
    have e : (Gr.cons k g m r).body ++ rest = numT m ++ (tl k ++ (g.held ++ (r.more ++ rest))) := by rw [Gr.body_cons]; simp
    rw [e]
    unfold rdPairs
    rw [rdPair_show k g m r ho hp n hd _ (more_stop r he)]
    show (rdTail (rdPair n) 100000 (r.more ++ rest)).map _ = _
    have hd2 : r.deep ≤ n + 1 := by have : max (1 + g.deep) r.deep ≤ n + 1 := hd; omega
    have hp2 : r.parts ≤ 100000 := by have : 1 + g.parts + r.parts ≤ 100000 := hp; omega
    rw [rdTail_show r ho.2.2.2.2.1 hp2 n 100000 (Nat.le_trans r.len_parts hp2) hd2 _ he]; rfl
end FT
namespace FT
open PySem PySem.W PySem.Spec PyProof.Rows L2
open TL (tl)
/-- a text that shows a grove within the bounds -/
structure Shows (z : Str) (g : Gr) : Prop where
  tx : tl z = g.text
  ok : g.Ok (10 ^ 60)
  parts : g.parts ≤ 60
  deep : g.deep ≤ 12
theorem text_dash {g : Gr} (h : g.Ok (10 ^ 60)) (e : g.text = [45]) : g = .nil := by
  cases g with
  | nil => rfl
  | cons k g m r =>
    rw [Gr.text_cons, Gr.body_cons] at e
    exfalso
    obtain ⟨c, s, ec, hc1, hc2⟩ := name_head h.1 (g.held ++ r.more)
    rw [ec] at e
    unfold numT at e
    split at e
    · rw [List.nil_append] at e
      injection e with e1 e2
      omega
    · have hd := TL.numL_digits m.toNat
      have hne := TL.numL_ne m.toNat
      cases hx : TL.numL m.toNat with
      | nil => exact hne hx
      | cons a b =>
        rw [hx] at e hd
        injection e with e1 e2
        have := hd a (List.mem_cons_self ..)
        omega
theorem Shows.len {z : Str} {g : Gr} (h : Shows z g) : z.length ≤ 4381 := by
  have := Gr.text_len (C := 60) (by decide) h.ok
  rw [← h.tx, ← TL.len_tl] at this
  have := h.parts
  omega
theorem Shows.read {z : Str} {g : Gr} (h : Shows z g) (hne : g ≠ .nil) : rdPairs (rdPair 12) (tl z) = some (g.ps, []) := by
  have := rdPairs_show h.ok (by have := h.parts; omega) hne (n := 12) (by have := h.deep; omega) (rest := []) (fun c hc => by cases hc)
  rw [List.append_nil] at this
  rw [h.tx]
  unfold Gr.text
  rw [if_neg hne]; exact this
end FT
namespace FT
open PySem PySem.W PySem.Spec PyProof.Rows L2
/-- the texts met so far, each once -/
def met (xs : List Str) : Nat → List Str
  | 0 => []
  | i + 1 => if (met xs i).any (· == xs.getD i Str.empty) = true then met xs i else met xs i ++ [xs.getD i Str.empty]
theorem met_le (xs : List Str) : ∀ i, (met xs i).length ≤ i
  | 0 => Nat.le_refl _
  | i + 1 => by
    have := met_le xs i
    unfold met
    split
    · omega
    · rw [List.length_append]; simp; omega
theorem met_any (xs : List Str) (i : Nat) (k : Str) : (met xs (i + 1)).any (· == k) = ((met xs i).any (· == k) || decide (k = xs.getD i Str.empty)) := by
  rw [met]
  by_cases e : k = xs.getD i Str.empty
  · subst e
    split
    · rename_i h; rw [h]; simp
    · simp
  · rw [decide_eq_false e, Bool.or_false]
    split
    · rfl
    · rw [List.any_append]
      have : ([xs.getD i Str.empty].any (· == k)) = false := by
        simp only [List.any_cons, List.any_nil, Bool.or_false, beq_eq_false_iff_ne]
        exact fun z => e z.symm
      rw [this, Bool.or_false]
theorem met_len (xs : List Str) (i : Nat) : (met xs (i + 1)).length = if (met xs i).any (· == xs.getD i Str.empty) = true then (met xs i).length else (met xs i).length + 1 := by
  rw [met]; split <;> simp
abbrev SetOfS (P : Program) (w : World) (h : Heap) (a : Addr) (L : List Str) : Prop := h.SetOf (PySem.strKind P w) a (fun k => L.any (· == k)) L.length
theorem SetOfS.keep {P : Program} {w : World} {h h' : Heap} {a : Addr} {L : List Str} (S : SetOfS P w h a L) (k : ∀ o, h.get? a = some o → h'.get? a = some o) : SetOfS P w h' a L := by
  obtain ⟨o, es, ep, t, ho, r⟩ := S; exact ⟨o, es, ep, t, k o ho, r⟩
section
variable {P : Program} {w : World} {A : Around}
theorem met_loop {R : Result → Shared → Prop} {I : Addr} {fp wr : List Addr} {G : Array GenState → Array GenState → Prop} {n : Nat} {Pv : Nat → Value → Prop} {St : Nat → Shared → Prop} (W : WalksS P w A.in1 I fp wr G n Pv St) (S : Addr) (hSf : S ∉ fp) (xs : List Str) (hn : n + 1 < scanBound)
    (hval : ∀ i v, Pv i v → ∃ t, v = .str (xs.getD i Str.empty) t) : ∀ (k i : Nat) (s : Shared), k + i = n → St i s → SetOfS P w s.heap S (met xs i) →
      (∀ s', Moved (S :: wr) G s s' → SetOfS P w s'.heap S (met xs n) → R (.ok (.ret .none)) s') → codeAny (model P w) A (.builtin "set.update.loop" ⟨[.ref S, .ref I], []⟩) R s := by
  have out : S ∉ wr := fun z => hSf (W.sub _ z)
  have up : ∀ b ∈ wr, b ∈ S :: wr := fun b z => List.mem_cons_of_mem _ z
  intro k
  induction k with
  | zero =>
    intro i s e st hS hR
    rw [Nat.zero_add] at e; subst e
    refine codeAny_builtin F.entry_set_update_loop (by
      rw [Around.under_plainId F.plain_set_update_loop _]
      show wpAny _ A.in1 (pyNext (.ref I) >>= _) _ _ s
      refine wpAny_bind (W.done s _ _ st fun s' hm => ?_)
      show wpAny _ A.in1 (ret Value.none) _ _ s'
      exact wpAny_pure (hR s' (hm.mono up) (hS.keep fun o e => hm.heap S o out e)))
  | succ k ih =>
    intro i s e st hS hR
    have lt : i < n := by omega
    refine codeAny_builtin F.entry_set_update_loop (by
      rw [Around.under_plainId F.plain_set_update_loop _]
      show wpAny _ A.in1 (pyNext (.ref I) >>= _) _ _ s
      refine wpAny_bind (W.item i s _ _ lt st fun v s' hP st' hm => ?_)
      obtain ⟨t, rfl⟩ := hval i v hP
      have hS' : SetOfS P w s'.heap S (met xs i) := hS.keep fun o e => hm.heap S o out e
      show wpAny _ A.in1 (holding [Value.str (xs.getD i Str.empty) t] (setAdd S (.str (xs.getD i Str.empty) t)) >>= _) _ _ s'
      refine wpAny_bind (wpAny_holding ?_)
      unfold setAdd
      refine wpAny_holding (wpAny_bind ((PySem.strKind P w).pyHash (k := xs.getD i Str.empty) (PySem.Froz.is_str _ _) ?_))
      have room : (met xs i).length + 1 < scanBound := by have := met_le xs i; omega
      refine wpAny_setAddHashed_of (knd := PySem.strKind P w) (s := { s' with toks := s'.toks + 1 }) (PySem.Froz.is_str _ _) rfl hS' room fun h' hsb hS2 => ?_
      have hSi : SetOfS P w h' S (met xs (i + 1)) := SetOf_congr hS2 (fun k' => (met_any xs i k').symm) (met_len xs i).symm
      refine wpAny_pure ⟨plainId_quiet F.plain_set_update_loop _, ih (i + 1) _ (by omega) (W.frame _ s' _ _ st' (Nat.le_succ _) fun b hb o e => ?_) hSi fun s'' hm'' hS'' => ?_⟩
      · rw [hsb.2 b fun z : b = S => hSf (z ▸ hb)]; exact e
      · refine hR s'' (Moved.trans W.gtrans ((hm.mono up).then_heap (Nat.le_succ _) fun b o hb e => ?_) hm'') hS''
        rw [hsb.2 b fun z : b = S => hb (z ▸ List.mem_cons_self)]; exact e)
abbrev eo (led : Bool) : Obj := { cls := .type "set", dict := none, data := .set #[] 0 (.fresh 0 0 led) }
set_option maxHeartbeats 8000000 in
theorem call_setS {E : Value → Shared → Prop} {s : Shared} {l : Addr} {its : Array Value} {xs : List Str} {Q : Value → Shared → Prop} (hh : A.handled = none) (hl : s.heap.IsList l its) (hi : StrsAre its.toList xs) (hb : its.size + 1 < scanBound)
    (h : ∀ (h' : Heap) (tk : Nat), SetOfS P w h' s.heap.objs.size (met xs its.size) → (∀ b o, b < s.heap.objs.size → s.heap.get? b = some o → h'.get? b = some o) → Q (.ref s.heap.objs.size) { s with heap := h', toks := tk }) :
    wpAny (model P w) A (call (.type "set") [.ref l]) Q E s := by
  obtain ⟨c, tl', hmro⟩ := PySem.F.called_set.mro
  have k1 := PySem.F.called_set.made; have k2 := PySem.F.called_set.sub
  refine wpAny_call (codeAny_of_tree (by
    show wpAny _ _ (callAny (.type "set") _) _ _ _
    refine wpAny_pure ⟨Code.quiet_builtin _ (by decide +kernel), codeAny_builtin PySem.F.entry_type_call ?_⟩
    rw [Around.under_plain (weight_type_call_type "set" [.ref l] []) rfl]
    have k3 := PySem.F.called_set.notType; have k4 := PySem.F.called_set.canCreate; have k5 := PySem.F.typeCall_set_1 (.ref l)
    repeat (any_goals (first | assumption | wp_step))
    refine codeAny_mono (code_set_new_1 (.ref l) (E := E) (Q₁ := fun ob z => ∃ led : Bool, ob = .ref s.heap.objs.size ∧ z = { s with heap := s.heap.push (eo led) }) fun led => ⟨led, rfl, rfl⟩) fun r z hr => ?_
    cases r with
    | error e => exact hr
    | ok fl =>
    cases fl with
    | ret ob =>
      obtain ⟨led, rfl, rfl⟩ := hr
      have at0 : (s.heap.push (eo led)).get? s.heap.objs.size = some (eo led) := Heap.get?_push_size _ rfl
      have ty0 : Shared.TypeIs { s with heap := s.heap.push (eo led) } (.ref s.heap.objs.size) "set" := ⟨_, at0, rfl⟩
      have k6 := PySem.F.called_set.init.lookup; have k7 := PySem.F.called_set.init.bind (.ref s.heap.objs.size)
      repeat (any_goals (first | assumption | wp_step))
      refine codeAny_mono (codeAny_call_builtin (R := wants (fun r s₂ => r = .none ∧ ∃ h' tk, s₂ = { s with heap := h', toks := tk } ∧ SetOfS P w h' s.heap.objs.size (met xs its.size) ∧ (∀ b o, b < s.heap.objs.size → s.heap.get? b = some o → h'.get? b = some o)) E) PySem.F.called_set.init.plain PySem.F.entry_set_init (check_set_init_1 ty0 ?_)) fun r₂ s₂ hr₂ => ?_
      · obtain ⟨⟨oc, od, oda, osl⟩, hol, hcl, nl, hdl⟩ := hl
        simp only at hcl hdl
        subst hcl hdl
        have hol' : (s.heap.push (eo led)).get? l = some ⟨.type "list", od, .seq its nl, osl⟩ := Heap.get?_push_of_some _ hol
        have k8 := PySem.F.sub_list_set; have k9 := PySem.F.sub_list_frozenset
        have k10 : (Value.type "list" == Value.type "dict") = false := by decide
        have isl : (s.heap.push (eo led)).IsList l its := ⟨_, hol', rfl, nl, rfl⟩
        unfold Builtin.«set.__init__» noKeywords Builtin.Frozenset.updateFrom
        generalize hPI : pyIter = PI
        wp_walk
        subst hPI
        refine wpAny_pyIter_list isl (wpAny_bind (wpAny_runValue ?_))
        have ltl : l < s.heap.objs.size := Heap.lt_size hol
        have sz1 : (s.heap.push (eo led)).objs.size = s.heap.objs.size + 1 := Heap.size_push ..
        have lne : l ≠ (s.heap.push (eo led)).objs.size := Nat.ne_of_lt (sz1 ▸ Nat.lt_succ_of_lt ltl)
        have nin : s.heap.objs.size ∉ [(s.heap.push (eo led)).objs.size, l] := by
          intro z
          rcases List.mem_cons.mp z with z | z
          · exact absurd (z.trans sz1) (Nat.ne_of_lt (Nat.lt_succ_self _))
          · have : s.heap.objs.size = l := by simpa using z
            exact absurd this.symm (Nat.ne_of_lt ltl)
        refine met_loop ((Walks.list (show A.in1.in1.in1.handled = none by simp [hh]) _ l lne its).toS) s.heap.objs.size nin xs hb (fun i v hv => SS.strs_at hi i v (by rw [Array.getElem?_toList]; exact hv)) its.size 0 _ rfl ⟨⟨_, Heap.get?_push_size _ rfl, rfl, rfl⟩, isl.push _⟩ ?c1 ?c2
        case c1 => exact SetOf_congr ((setObjOf_fresh (knd := PySem.strKind P w) led).setOf (Heap.get?_push_of_some _ at0) (by unfold scanBound; omega)) (fun _ => rfl) rfl
        case c2 =>
          rintro ⟨h', g', d', tk', os'⟩ hm hS'
          have eg : g' = s.gens := hm.gens; have ed : d' = s.drawn := hm.drawn; have eo' : os' = s.os := hm.os
          subst eg ed eo'
          show wpAny _ _ _ _ _ _
          refine wpAny_pure (show wpAny _ _ (ret Value.none) _ _ _ from wpAny_pure ⟨rfl, h', tk', rfl, hS', fun b o hb' e => hm.heap b o (fun z => ?_) (Heap.get?_push_of_some _ (Heap.get?_push_of_some _ e))⟩)
          rcases List.mem_cons.mp z with z | z
          · exact absurd z (Nat.ne_of_lt hb')
          · have : b = (s.heap.push (eo led)).objs.size := by simpa using z
            exact absurd (this.trans sz1) (Nat.ne_of_lt (Nat.lt_succ_of_lt hb'))
      · cases r₂ with
        | error e => exact hr₂
        | ok fl₂ =>
        cases fl₂ with
        | ret r =>
          obtain ⟨rfl, h', tk, rfl, hS', hk'⟩ := hr₂
          repeat (any_goals (first | assumption | wp_step))
          exact h _ _ hS' hk'
        | _ => exact hr₂.elim
    | _ => exact hr.elim))
end
/-- all that is met, met -/
theorem met_mem (xs : List Str) : ∀ (i : Nat) (k : Str), k ∈ met xs i ↔ ∃ j, j < i ∧ xs.getD j Str.empty = k
  | 0, k => by simp [met]
  | i + 1, k => by
    rw [met]
    have ih := met_mem xs i k
    split
    · rename_i h
      rw [ih]
      refine ⟨fun ⟨j, a, b⟩ => ⟨j, by omega, b⟩, fun ⟨j, a, b⟩ => ?_⟩
      by_cases e : j = i
      · subst e
        obtain ⟨y, hy, he⟩ := List.any_eq_true.mp h
        have := (met_mem xs j y).mp hy
        rw [beq_iff_eq.mp he, b] at this
        exact this
      · exact ⟨j, by omega, b⟩
    · rw [List.mem_append, ih]
      refine ⟨fun z => ?_, fun ⟨j, a, b⟩ => ?_⟩
      · rcases z with ⟨j, a, b⟩ | z
        · exact ⟨j, by omega, b⟩
        · exact ⟨i, by omega, (List.mem_singleton.mp z).symm⟩
      · by_cases e : j = i
        · subst e; exact .inr (List.mem_singleton.mpr b.symm)
        · exact .inl ⟨j, by omega, b⟩
theorem met_nodup (xs : List Str) : ∀ i, (met xs i).Nodup
  | 0 => List.nodup_nil
  | i + 1 => by
    rw [met]
    split
    · exact met_nodup xs i
    · rename_i h
      refine List.nodup_append.mpr ⟨met_nodup xs i, by simp, fun a ha b hb e => h ?_⟩
      rw [List.mem_singleton.mp hb] at e
      exact List.any_eq_true.mpr ⟨a, ha, beq_iff_eq.mpr e⟩
theorem met_all (xs : List Str) (k : Str) : k ∈ met xs xs.length ↔ k ∈ xs := by
  rw [met_mem]
  refine ⟨fun ⟨j, a, b⟩ => ?_, fun h => ?_⟩
  · rw [← b, List.getD_eq_getElem?_getD, List.getElem?_eq_getElem a]; exact List.getElem_mem a
  · obtain ⟨j, a, b⟩ := List.getElem_of_mem h
    exact ⟨j, a, by rw [List.getD_eq_getElem?_getD, List.getElem?_eq_getElem a]; exact b⟩
theorem met_take (xs : List Str) : ∀ i, i ≤ xs.length → (met xs i).length = i → met xs i = xs.take i
  | 0, _, _ => by simp [met]
  | i + 1, hi, h => by
    have hl := met_le xs i
    rw [met] at h ⊢
    split at h
    · omega
    · rename_i hn
      rw [if_neg hn]
      rw [List.length_append, List.length_singleton] at h
      rw [met_take xs i (by omega) (by omega), List.take_add_one, List.getD_eq_getElem?_getD, List.getElem?_eq_getElem (by omega)]
      rfl
theorem met_len_nodup (xs : List Str) : (met xs xs.length).length = xs.length ↔ xs.Nodup := by
  constructor
  · intro h
    have e := met_take xs xs.length (Nat.le_refl _) h
    rw [List.take_length] at e
    rw [← e]; exact met_nodup xs _
  · intro h
    exact ((List.perm_ext_iff_of_nodup (met_nodup xs _) h).mpr fun k => met_all xs k).length_eq
section
variable {X : Cx}
/-- len(set(xs)), xs a list of texts -/
def tLenSetS (K : PySem.W.Frag) (ta : TE) : TE := fun σ H Q => ta σ H fun x H1 => ∃ (l : Addr) (zs : List Str), x = V.ref l ∧ SqL K H1 l (zs.map V.str) ∧ zs.length < 1000 ∧ Q (.int (met zs zs.length).length) H1
theorem pe_lenSetS {a : Expr} {ta : TE} {p p2 q pos : Pos} (hc : X.calm = true) (B : BI X.mg) (g1 : Gl X "len") (g2 : Gl X "set") (ha : PE X a ta)
    (na : starEach [a] X.env = (false, eval a X.env) :: starEach [] X.env := by rfl) : PE X (.Call (.Name "len" p) [.Call (.Name "set" p2) [a] [] q] [] pos) (tLenSetS X.K ta) := by
  refine ⟨fun pins s σ H Q I h => Call_ (ld_blt I g1 B.len PySem.boot_len ?_)⟩
  refine PyProof.Rows.callWith_builtin1 (PyProof.Rows.args_cons (Call_ (ld_blt I g2 B.set PyProof.Rows.boot_set ?_)) rfl) rfl rfl
  refine PyProof.Rows.callWith_type1 (PyProof.Rows.args_cons (thn (ha.run pins s σ H _ I h) fun v s1 ⟨x, H1, I1, r1, l, zs, ex, hq, h1, q1⟩ => PyProof.Rows.args_nil ?_) na) na rfl
  subst ex
  cases r1
  obtain ⟨its, rv, pl, hz⟩ := I1.list hq
  have hlen : its.toArray.size = zs.length := by rw [List.size_toArray, ← rv.length, List.length_map]
  refine call_setS (xs := zs) (I1.ok.hd hc) pl.isList (by simpa using rv.strs) (by rw [hlen]; unfold scanBound; omega) fun h' tk hS hk => PyProof.Rows.args_nil ?_
  rw [hlen] at hS
  have hm := met_le zs zs.length
  obtain ⟨o, es, ep, t, ho, hex, hd, _, _, _, hf, hn⟩ := hS
  have J : Inv X pins σ H1 { s1 with heap := h', toks := tk } := I1.kept fun b o e => hk b o (Heap.lt_size e) e
  exact call_len_set ho hex hd hf (by rw [hn]; omega) ⟨.int (met zs zs.length).length, H1, J.tok _, ⟨_, by rw [hn]⟩, q1⟩
end
end FT
namespace FT
open PySem PySem.W PySem.Spec PyProof.Rows L2
section
variable {X : Cx} {CX : CXT} {k : Nat} {f C : Addr} {fd : FuncData} {ps : List Str} {sp : Sp} {E : L2.St → XK} {x m : Str} {p pos apos : Pos} {e o : Expr} {es : List Expr} {ta : TE} {t : TA}
def tMethZ (C : Addr) (m : Str) (sp : Sp) (E : L2.St → XK) (ta : TE) (t : TA) : TE := fun σ H Q => ta σ H fun y H1 => ∃ a dx fs, y = .ref a ∧ H1 a = some (.ins C dx fs) ∧ fs.lookup m = none ∧ t σ H1 fun vs H2 => sp (y :: vs) H2 Q (E σ)
def tMakeZ (C : Addr) (sp : Sp) (E : L2.St → XK) (t : TA) : TE := fun σ H Q => t σ H fun vs H1 => ∀ y dx, H1 y = none → H1 dx = none → dx ≠ y →
  sp (.ref y :: vs) (upd (upd H1 dx (.own y)) y (.ins C dx [])) (fun v H2 => v = .non ∧ Q (.ref y) H2) (E σ)
theorem pe_methZ {pl : Sem Bool} (ho : PE X o ta) (c : Cls X.K C) (hm : Meth X.K C m f) (F : FnOk X.prog X.w X.K X.mg X.base CX k f fd ps sp) (hr : Room k X.A) (hb : Binds X.K fd ps []) (hx : ∀ σ, PassesAt CX X σ (E σ)) (ha : PA X (e :: es) t)
    (hst : starEach (e :: es) X.env = (false, eval e X.env) :: starEach es X.env := by rfl) (hpl : (backTo pos (starEach es X.env)).any (·.1) = false := by rfl)
    (ht : eval (.Call (.Attribute o m apos) (e :: es) [] pos) X.env = (do
        let ov ← eval o X.env
        standAt apos.atName
        let (g, first) ← holding [ov] (getMethod ov m pl)
        callWith pos g first (backTo pos (starEach (e :: es) X.env)) (backToKw pos (keywordEach [] X.env))) := by rfl) :
    PE X (.Call (.Attribute o m apos) (e :: es) [] pos) (tMethZ C m sp E ta t) := by
  refine ⟨fun pins s σ H Q I h => PySem.W.methodCall_KW (pl := pl) (thn (ho.run pins s σ H _ I h) fun u s1 ⟨y, H1, I1, ry, a, dx, fs, ey, ea, l, q⟩ => ?_) ht⟩
  subst ey
  cases (show u = Value.ref a from ry)
  exact getmeth_ok I1 ea c hm l (PySem.W.callWith_K (first := [.ref a]) (h₀ := X.base) I.ok.mod.kin hm.kp
    (thn (ha.run pos pins s1 σ H1 _ I1 q) fun us s2 ⟨vs, H2, I2, r, q2⟩ => ⟨I2.kIn, run_fnS (us := .ref a :: us) (vs := .ref a :: vs) F hr hb (hx σ) I2 (.cons rfl r) q2⟩) hst hpl)
theorem pe_methZ0 {pl : Sem Bool} (ho : PE X o ta) (c : Cls X.K C) (hm : Meth X.K C m f) (F : FnOk X.prog X.w X.K X.mg X.base CX k f fd ps sp) (hr : Room k X.A) (hb : Binds X.K fd ps []) (hx : ∀ σ, PassesAt CX X σ (E σ))
    (ht : eval (.Call (.Attribute o m apos) [] [] pos) X.env = (do
        let ov ← eval o X.env
        standAt apos.atName
        let (g, first) ← holding [ov] (getMethod ov m pl)
        callWith pos g first (backTo pos (starEach [] X.env)) (backToKw pos (keywordEach [] X.env))) := by rfl) :
    PE X (.Call (.Attribute o m apos) [] [] pos) (tMethZ C m sp E ta tNil) := by
  refine ⟨fun pins s σ H Q I h => PySem.W.methodCall_KW (pl := pl) (thn (ho.run pins s σ H _ I h) fun u s1 ⟨y, H1, I1, ry, a, dx, fs, ey, ea, l, q⟩ => ?_) ht⟩
  subst ey
  cases (show u = Value.ref a from ry)
  exact getmeth_ok I1 ea c hm l (PySem.W.callWith_K0 (first := [.ref a]) I1.kIn hm.kp (run_fnS (us := [.ref a]) (vs := [.ref a]) F hr hb (hx σ) I1 (.cons rfl .nil) q))
theorem pe_makeZ (M : Mk X.K C f) (F : FnOk X.prog X.w X.K X.mg X.base CX k f fd ps sp) (hr : Room (k + 1) X.A) (hg : Gl X x) (hm : X.mg x = some (.ref C)) (hb : Binds X.K fd ps []) (hx : ∀ σ, PassesAt CX X σ (E σ))
    (ha : PA X (e :: es) t) (hdb : (x == ("__debug__" : Str)) = false := by decide) (he : starEach (e :: es) X.env = (false, eval e X.env) :: starEach es X.env := by rfl) (hpl : (backTo pos (starEach es X.env)).any (·.1) = false := by rfl) :
    PE X (.Call (.Name x p) (e :: es) [] pos) (tMakeZ C sp E t) := by
  refine ⟨fun pins s σ H Q I h => wpAny_Call_Name_kw (ld_glob I hg hm ?_ hdb)⟩
  refine PySem.W.callWith_K (h₀ := X.base) I.ok.mod.kin M.kp (thn (ha.run pos pins s σ H _ I h) fun us s1 ⟨vs, H1, I1, r, q⟩ => ⟨I1.kIn, ?_⟩) he hpl
  have hq := q (s1.heap.objs.size + 1) s1.heap.objs.size (I1.hok.fresh (Nat.le_succ _)) (I1.hok.fresh (Nat.le_refl _)) (Nat.ne_of_lt (Nat.lt_succ_self _))
  have J := Inv.made (C := C) I1
  have r2 : Vals (V.ref (s1.heap.objs.size + 1) :: vs) (Value.ref (s1.heap.objs.size + 1) :: us) := .cons rfl r
  have hl : (Value.ref (s1.heap.objs.size + 1) :: us).length = ps.length := by rw [← r2.length]; exact F.len _ _ _ _ hq
  have b := hb _ (Value.ref (s1.heap.objs.size + 1) :: us) J.kIn (by rw [List.append_nil]; exact hl)
  rw [List.append_nil] at b
  refine wpAny_call (make_map (f := f) I1.kIn M.makes M.init (beq_iff_eq.mp M.fn) (codeAny_mono (F.run _ X.stack _ _ ⟨Value.ref (s1.heap.objs.size + 1) :: us, []⟩ (Value.ref (s1.heap.objs.size + 1) :: us) _ _ (E σ) (hr.make C us [])
    (J.env0.make C us []) b r2 hq) fun r s' hq' => ?_))
  match r, hq' with
  | .error er, hq' => exact hx σ pins _ _ er s' J hq'
  | .ok (.ret u), hq' =>
    obtain ⟨v, H', J3, rv, ev, q3⟩ := J.after hq'
    subst ev
    exact ⟨rv, ⟨V.ref (s1.heap.objs.size + 1), H', J3, rfl, q3⟩⟩
  | .ok .next, hq' => exact hq'.elim
  | .ok .brk, hq' => exact hq'.elim
  | .ok .cont, hq' => exact hq'.elim
end
/-- a method known by its promise: one that raises nothing, one that may -/
structure GotM (P : Program) (w : World) (K : PySem.W.Frag) (mg : Str → Option Value) (base : Heap) (C : Addr) (m : Str) (ps : List Str) (k : Nat) (sp : Sp) : Prop where
  ex : ∃ (f : Addr) (fd : FuncData), FnOk P w K mg base CX0 k f fd ps sp ∧ Meth K C m f ∧ Binds K fd ps [] ∧ Cls K C
structure GotMX (P : Program) (w : World) (K : PySem.W.Frag) (mg : Str → Option Value) (base : Heap) (C : Addr) (m : Str) (ps : List Str) (k : Nat) (sp : Sp) : Prop where
  ex : ∃ (f : Addr) (fd : FuncData), FnOk P w K mg base (L2.CX P w) k f fd ps sp ∧ Meth K C m f ∧ Binds K fd ps [] ∧ Cls K C
/-- a class known by the promise of its __init__ -/
structure GotI (P : Program) (w : World) (K : PySem.W.Frag) (mg : Str → Option Value) (base : Heap) (x : Str) (C : Addr) (ps : List Str) (k : Nat) (sp : Sp) : Prop where
  ex : ∃ (f : Addr) (fd : FuncData), FnOk P w K mg base (L2.CX P w) k f fd ps sp ∧ Mk K C f ∧ Binds K fd ps [] ∧ mg x = some (.ref C)
section
variable {X : Cx} {C : Addr} {x m : Str} {ps : List Str} {k : Nat} {sp : Sp} {e o : Expr} {es : List Expr} {ta : TE} {t : TA} {p pos apos : Pos} {pl : Sem Bool}
theorem pe_gotM0 (G : GotM X.prog X.w X.K X.mg X.base C m ps k sp) (hr : Room k X.A) (ho : PE X o ta)
    (ht : eval (.Call (.Attribute o m apos) [] [] pos) X.env = (do
        let ov ← eval o X.env
        standAt apos.atName
        let (g, first) ← holding [ov] (getMethod ov m pl)
        callWith pos g first (backTo pos (starEach [] X.env)) (backToKw pos (keywordEach [] X.env))) := by rfl) :
    PE X (.Call (.Attribute o m apos) [] [] pos) (tMethZ C m sp (fun _ => E0) ta tNil) := by
  obtain ⟨f, fd, h1, h2, h3, h4⟩ := G.ex
  exact pe_methZ0 ho h4 h2 h1 hr h3 (fun σ pins H s e s' I c => pass0 pins σ H s e s' I c) ht
theorem pe_gotMX (G : GotMX X.prog X.w X.K X.mg X.base C m ps k sp) (hr : Room k X.A) (ho : PE X o ta) (ha : PA X (e :: es) t)
    (hst : starEach (e :: es) X.env = (false, eval e X.env) :: starEach es X.env := by rfl) (hpl : (backTo pos (starEach es X.env)).any (·.1) = false := by rfl)
    (ht : eval (.Call (.Attribute o m apos) (e :: es) [] pos) X.env = (do
        let ov ← eval o X.env
        standAt apos.atName
        let (g, first) ← holding [ov] (getMethod ov m pl)
        callWith pos g first (backTo pos (starEach (e :: es) X.env)) (backToKw pos (keywordEach [] X.env))) := by rfl) :
    PE X (.Call (.Attribute o m apos) (e :: es) [] pos) (tMethZ C m sp (fun _ => E0) ta t) := by
  obtain ⟨f, fd, h1, h2, h3, h4⟩ := G.ex
  exact pe_methZ ho h4 h2 h1 hr h3 (fun σ pins H s e s' I c => passL pins σ H s e s' I c) ha hst hpl ht
theorem pe_gotMS {W : WX} (G : GotMX X.prog X.w X.K X.mg X.base C m ps k sp) (hr : Room k X.A) (tk : Takes X W) (ho : PE X o ta) (ha : PA X (e :: es) t)
    (hst : starEach (e :: es) X.env = (false, eval e X.env) :: starEach es X.env := by rfl) (hpl : (backTo pos (starEach es X.env)).any (·.1) = false := by rfl)
    (ht : eval (.Call (.Attribute o m apos) (e :: es) [] pos) X.env = (do
        let ov ← eval o X.env
        standAt apos.atName
        let (g, first) ← holding [ov] (getMethod ov m pl)
        callWith pos g first (backTo pos (starEach (e :: es) X.env)) (backToKw pos (keywordEach [] X.env))) := by rfl) :
    PE X (.Call (.Attribute o m apos) (e :: es) [] pos) (tMethZ C m sp (WE W) ta t) := by
  obtain ⟨f, fd, h1, h2, h3, h4⟩ := G.ex
  exact pe_methZ ho h4 h2 h1 hr h3 (fun σ => passAt tk σ) ha hst hpl ht
theorem pe_gotI (G : GotI X.prog X.w X.K X.mg X.base x C ps k sp) (hr : Room (k + 1) X.A) (hg : Gl X x) (ha : PA X (e :: es) t) (hdb : (x == ("__debug__" : Str)) = false := by decide)
    (he : starEach (e :: es) X.env = (false, eval e X.env) :: starEach es X.env := by rfl) (hpl : (backTo pos (starEach es X.env)).any (·.1) = false := by rfl) :
    PE X (.Call (.Name x p) (e :: es) [] pos) (tMakeZ C sp (fun _ => E0) t) := by
  obtain ⟨f, fd, h1, h2, h3, h4⟩ := G.ex
  exact pe_makeZ h2 h1 hr hg h4 h3 (fun σ pins H s e s' I c => passL pins σ H s e s' I c) ha hdb he hpl
end
def spKindI (K : PySem.W.Frag) (C : Addr) : Sp := fun vs H Q _ => ∃ (a : Addr) (y : V), vs = [.ref a, y] ∧ OexC K C ∧ PySem.W.findIn K (.ref C) "kind" = some none ∧ H a = some (exo a C none) ∧ ∀ dx, H dx = none → dx ≠ a → Q .non (upd (upd H dx (exd dx [("kind", y)])) a (exo a C (some dx)))
structure OwnI (P : Program) (w : World) (K : PySem.W.Frag) (mg : Str → Option Value) (base : Heap) (x : Str) (C : Addr) (k : Nat) : Prop where
  gC : mg x = some (.ref C)
  T : OexC K C
  no : PySem.W.findIn K (.ref C) "kind" = some none
  ex : ∃ (f : Addr) (fd : FuncData), PySem.W.findIn K (.ref C) "__init__" = some (some (.ref f)) ∧ PySem.W.typeIn K (.ref f) = some (.type "function") ∧ FnOk P w K mg base CX0 k f fd ["self", "kind"] (spKindI K C) ∧ Binds K fd ["self", "kind"] []
def oexCB (K : PySem.W.Frag) (C : Addr) : Bool := (match K.lookup C with
  | some ⟨.type "type", _, .cls cd, sl⟩ => (match cd.mro, sl.toList with
    | .ref D :: bm, [_, _, _, _, some (.builtin n), _] => decide (D = C) && (n == "ValueError.__new__" && (!cd.hasDel && (cd.hasDict && PySem.HandSPX.refsVE bm)))
    | _, _ => false)
  | _ => false) && (He.eqO (PySem.W.findIn K (.ref C) "__setattr__") (some (some (.builtin "object.__setattr__"))) && (decide (PySem.W.subIn K (.ref C) (.type "BaseException") = some true) && (decide (PySem.W.typeIn K (.ref C) = some (.type "type")) && PySem.W.keepIn K (.ref C))))
theorem oexCB_ok {K : PySem.W.Frag} {C : Addr} (h : oexCB K C = true) : OexC K C := by
  obtain ⟨h1, h⟩ := He.ba h
  obtain ⟨h2, h⟩ := He.ba h
  obtain ⟨h3, h⟩ := He.ba h
  obtain ⟨h4, h5⟩ := He.ba h
  refine ⟨?_, He.eqO_ok h2, of_decide_eq_true h3, of_decide_eq_true h4, h5⟩
  split at h1
  · rename_i dd cd sl ho
    split at h1
    · rename_i D bm k0 k1 k2 k3 n k5 hm hs
      obtain ⟨e1, h1⟩ := He.ba h1
      obtain ⟨e2, h1⟩ := He.ba h1
      obtain ⟨e3, h1⟩ := He.ba h1
      obtain ⟨e4, e5⟩ := He.ba h1
      have e1 := of_decide_eq_true e1
      have e2 := beq_iff_eq.mp e2
      obtain ⟨nm, bs, mro, ns, qn, hd, sn, sb, ab, col, del⟩ := cd
      simp only at hm e3 e4
      subst e1 e2 hm e4
      have e3 : del = false := by simpa using e3
      subst e3
      obtain ⟨sl⟩ := sl
      simp only at hs
      subst hs
      exact ⟨nm, qn, ns, bs, bm, sn, sb, ab, col, dd, k0, k1, k2, k3, k5, ho, e5⟩
    · cases h1
  · cases h1
/-- a reading that asks less -/
theorem _root_.L2.PE.wide {X : Cx} {e : Expr} {te : TE} (h : PE X e te) : PE X e (fun σ H Q => ∃ Q' : VK, te σ H Q' ∧ ∀ v H', Q' v H' → Q v H') :=
  ⟨fun pins s σ H Q I ⟨Q', h1, h2⟩ => thn (h.run pins s σ H Q' I h1) fun v s1 ⟨y, H1, I1, r, q⟩ => ⟨y, H1, I1, r, h2 _ _ q⟩⟩
section
variable {X : Cx} {C : Addr} {x : Str} {k : Nat} {e : Expr} {te : TE} {p pos : Pos}
def tKind (C : Addr) (te : TE) : L2.St → Hp → XK → Prop := fun σ H Q => te σ H fun y H1 => ∀ d, H1 d = none → Q (.ref C) (some d) (upd H1 d (.xd [("kind", y)]))
theorem pmk_kind (O : OwnI X.prog X.w X.K X.mg X.base x C k) (hr : Room (k + 1) X.A) (hg : Gl X x) (he : PE X e te) (hdb : (x == ("__debug__" : Str)) = false := by decide)
    (hs : starEach [e] X.env = (false, eval e X.env) :: starEach [] X.env := by rfl) (hpl : (backTo pos (starEach [] X.env)).any (·.1) = false := by rfl) : PMk X (.Call (.Name x p) [e] [] pos) (tKind C te) := by
  obtain ⟨f, fd, h1, h2, h3, h4⟩ := O.ex
  have hw := pmk_oex (p := p) O.T h1 h2 h3 hr h4 .nil pass0 hg O.gC (pa_cons (hs := hs) he.wide pa_nil) hdb hs hpl
  intro pins s σ H Q I h
  refine hw pins s σ H Q I ⟨_, h, fun y H1 q => ?_⟩
  refine ⟨by simp, fun a ha => ⟨a, y, rfl, O.T, O.no, upd_same, fun dx hd ne => ⟨rfl, dx, [("kind", y)], upd_same, ?_, ?_, ?_⟩⟩⟩
  · rw [upd_ne ne, upd_same]
  · rw [upd_ne ne] at hd; exact hd
  · have e : upd (del (upd (upd (upd H1 a (exo a C none)) dx (exd dx [("kind", y)])) a (exo a C (some dx))) a) dx (.xd [("kind", y)]) = upd H1 dx (.xd [("kind", y)]) := by
      funext b
      by_cases h1 : b = dx
      · subst h1; rw [upd_same, upd_same]
      · rw [upd_ne h1, upd_ne h1]
        by_cases h2 : b = a
        · subst h2; rw [del_same, ha]
        · rw [del_ne h2, upd_ne h2, upd_ne h1, upd_ne h2]
    rw [e]
    rw [upd_ne ne] at hd
    exact q dx hd
end
end FT
namespace FT
open PySem PySem.W PySem.Spec PyProof.Rows L2
abbrev Ru := Gr × Gr
def Ru.enc (r : Ru) : PyData := .tuple [r.1.enc, r.2.enc]
def Ru.within (r : Ru) : List (Tr × Int) := r.1.within ++ r.2.within
structure Kd where
  n : Str
  w : Bool
  rs : List Ru
abbrev Bk := List Kd
abbrev Bk.names (b : Bk) : List Str := b.map (·.n)
def Kd.rowE (k : Kd) : PyData := .tuple (k.rs.map Ru.enc)
def Bk.get (b : Bk) (n : Str) : Option Kd := b.find? fun k => decide (k.n = n)
def RuOk (r : Ru) : Prop := r.1.Ok 1000000001 ∧ r.2.Ok 1000000001 ∧ r.1.parts + r.2.parts ≤ 4
def KdOk (ns : List Str) (k : Kd) : Prop := NameOk k.n ∧ k.rs.length ≤ 4 ∧ ∀ r ∈ k.rs, RuOk r ∧ ∀ p ∈ Ru.within r, p.1.1 ∈ ns
structure Bk.Ok (b : Bk) : Prop where
  pos : 1 ≤ b.length
  len : b.length ≤ 8
  nd : b.names.Nodup
  kd : ∀ k ∈ b, KdOk b.names k
theorem Ru.noList_enc (r : Ru) : noList (Ru.enc r) = true := by simp [Ru.enc, noList, noLists, Gr.noList_enc]
theorem Kd.noList_rowE (k : Kd) : noList k.rowE = true := by
  unfold Kd.rowE noList
  induction k.rs with
  | nil => rfl
  | cons r l ih => rw [List.map_cons, noLists, Ru.noList_enc, ih]; rfl
theorem Bk.get_some {b : Bk} {n : Str} {k : Kd} (h : b.get n = some k) : k ∈ b ∧ k.n = n :=
  ⟨List.mem_of_find?_eq_some h, of_decide_eq_true (List.find?_some (p := fun k : Kd => decide (k.n = n)) h)⟩
theorem Bk.get_none {b : Bk} {n : Str} (h : b.get n = none) : n ∉ b.names := fun z => by
  obtain ⟨k, hk, e⟩ := List.mem_map.mp z
  have := List.find?_eq_none.mp h k hk
  exact this (decide_eq_true e)
theorem Bk.get_of {b : Bk} {n : Str} (h : n ∈ b.names) : ∃ k, b.get n = some k := by
  cases e : b.get n with
  | none => exact absurd h (Bk.get_none e)
  | some k => exact ⟨k, rfl⟩
theorem Bk.get_self {b : Bk} (nd : b.names.Nodup) {k : Kd} (hk : k ∈ b) : b.get k.n = some k := by
  induction b with
  | nil => cases hk
  | cons x r ih =>
    have nd' : (x.n :: Bk.names r).Nodup := nd
    unfold Bk.get
    rcases List.mem_cons.mp hk with e | e
    · subst e; rw [List.find?_cons_of_pos (by simp)]
    · have : ¬ x.n = k.n := fun z => (List.nodup_cons.mp nd').1 (by rw [z]; exact List.mem_map.mpr ⟨k, e, rfl⟩)
      rw [List.find?_cons_of_neg (by simpa using this)]
      exact ih (List.nodup_cons.mp nd').2 e
/-- the rows of a book, by their names -/
def Bk.rowKV (b : Bk) (us : List V) : List (Key × V) := List.zipWith (fun (k : Kd) (u : V) => (Sum.inr k.n, u)) b us
def Bk.spKV (b : Bk) : List (Key × V) := b.map fun k => (Sum.inr k.n, V.bl k.w)
theorem Bk.spKV_val (b : Bk) (n : Str) : valV b.spKV (Sum.inr n) = (b.get n).map fun k => V.bl k.w := by
  induction b with
  | nil => rfl
  | cons x r ih =>
    by_cases e : x.n = n
    · subst e
      rw [show Bk.spKV (x :: r) = (Sum.inr x.n, V.bl x.w) :: Bk.spKV r from rfl, valV_pos rfl]
      simp [Bk.get]
    · rw [show Bk.spKV (x :: r) = (Sum.inr x.n, V.bl x.w) :: Bk.spKV r from rfl, valV_neg (by simpa using e), ih]
      simp [Bk.get, e]
theorem Bk.rowKV_val {K : PySem.W.Frag} {H : Hp} (n : Str) : ∀ {b : Bk} {us : List V}, Bears K H Kd.rowE us b → ∀ {k : Kd}, b.get n = some k → ∃ u, valV (b.rowKV us) (Sum.inr n) = some u ∧ Dp K H u k.rowE
  | [], _, _, k, h => by cases h
  | x :: r, _, .cons (v := u) (vs := us) h0 h1, k, h => by
    have e0 : Bk.rowKV (x :: r) (u :: us) = (Sum.inr x.n, u) :: Bk.rowKV r us := rfl
    by_cases e : x.n = n
    · subst e
      have : x = k := by simpa [Bk.get] using h
      subst this
      exact ⟨u, by rw [e0, valV_pos rfl], h0⟩
    · have h' : Bk.get r n = some k := by simpa [Bk.get, e] using h
      obtain ⟨v, a, c⟩ := Bk.rowKV_val n h1 h'
      exact ⟨v, by rw [e0, valV_neg (by simpa using e)]; exact a, c⟩
abbrev bkF (d1 d2 : Addr) : List (Str × V) := [("spread_by_name", .ref d1), ("rows_by_name", .ref d2)]
/-- v is an instance of the class at C that holds the book b -/
def BkA (K : PySem.W.Frag) (C : Addr) (H : Hp) (v : V) (b : Bk) : Prop := ∃ (a dx d1 d2 : Addr) (us : List V), v = .ref a ∧ H a = some (.ins C dx (bkF d1 d2)) ∧ H d1 = some (.dK b.spKV) ∧ H d2 = some (.dK (b.rowKV us)) ∧ Bears K H Kd.rowE us b
def Lsts (H : Hp) (ps : List Addr) : Prop := ∀ p ∈ ps, H p = none ∨ ∃ xs, H p = some (.lst xs)
theorem Lsts.nil {H : Hp} : Lsts H [] := fun _ h => nomatch h
theorem Lsts.one {H : Hp} {p : Addr} {xs : List V} (h : H p = some (.lst xs)) : Lsts H [p] := fun q z => by rw [List.mem_singleton.mp z]; exact .inr ⟨xs, h⟩
theorem Lsts.cons {H : Hp} {p : Addr} {xs : List V} {ps : List Addr} (h : H p = some (.lst xs)) (hs : Lsts H ps) : Lsts H (p :: ps) := fun q z => by
  rcases List.mem_cons.mp z with z | z
  · rw [z]; exact .inr ⟨xs, h⟩
  · exact hs q z
theorem Lsts.notin {H : Hp} {ps : List Addr} (h : Lsts H ps) {a : Addr} {o : HO} (e : H a = some o) (n : ∀ xs, o ≠ .lst xs) : a ∉ ps := fun z => by
  rcases h a z with q | ⟨xs, q⟩
  · rw [e] at q; cases q
  · rw [e] at q; exact n xs (Option.some.inj q)
section
variable {K : PySem.W.Frag} {C : Addr} {H H' : Hp} {v : V} {b : Bk} {ps : List Addr}
theorem BkA.sb (h : BkA K C H v b) (e : SB ps H H') (hp : Lsts H ps) : BkA K C H' v b := by
  obtain ⟨a, dx, d1, d2, us, rfl, h1, h2, h3, h4⟩ := h
  exact ⟨a, dx, d1, d2, us, rfl, e.keep _ _ h1 (hp.notin h1 fun _ z => nomatch z), e.keep _ _ h2 (hp.notin h2 fun _ z => nomatch z), e.keep _ _ h3 (hp.notin h3 fun _ z => nomatch z), h4.sb e Kd.noList_rowE⟩
theorem BkA.sb0 (h : BkA K C H v b) (e : SB [] H H') : BkA K C H' v b := h.sb e Lsts.nil
theorem BkA.at (h : BkA K C H v b) : ∃ a dx d1 d2, v = .ref a ∧ H a = some (.ins C dx (bkF d1 d2)) := by
  obtain ⟨a, dx, d1, d2, us, e, h1, _⟩ := h
  exact ⟨a, dx, d1, d2, e, h1⟩
end
/-- what a class has: its fields are in no class of it -/
structure ClsF (K : PySem.W.Frag) (C : Addr) (fs : List Str) : Prop where
  c : Cls K C
  no : ∀ f ∈ fs, NoAttr K C f
def spBNames (K : PySem.W.Frag) (C : Addr) : Sp := fun vs H Q _ => ∃ (v : V) (b : Bk), vs = [v] ∧ BkA K C H v b ∧ b.length ≤ 1000 ∧ ∀ (l : Addr) (H' : Hp), SB [] H H' → H l = none → H' l = some (.lst (b.names.map V.str)) → Q (.ref l) H'
/-- n is a kind of b, or the error of the class at N has it as its field -/
def kindOr (N : Addr) (b : Bk) (n : Str) (H : Hp) (E : XK) (q : Kd → Prop) : Prop := (∀ k, b.get n = some k → q k) ∧ (b.get n = none → ∀ (d : Addr) (H' : Hp), SB [] H H' → H d = none → H' d = some (.xd [("kind", .str n)]) → E (.ref N) (some d) H')
def spCheckK (K : PySem.W.Frag) (C N : Addr) : Sp := fun vs H Q E => ∃ (v : V) (b : Bk) (n : Str), vs = [v, .str n] ∧ BkA K C H v b ∧ b.length ≤ 1000 ∧ kindOr N b n H E fun _ => ∀ H', SB [] H H' → Q .non H'
def spBSpreads (K : PySem.W.Frag) (C N : Addr) : Sp := fun vs H Q E => ∃ (v : V) (b : Bk) (n : Str), vs = [v, .str n] ∧ BkA K C H v b ∧ b.length ≤ 1000 ∧ kindOr N b n H E fun k => ∀ H', SB [] H H' → Q (.bl k.w) H'
def spBRules (K : PySem.W.Frag) (C N : Addr) : Sp := fun vs H Q E => ∃ (v : V) (b : Bk) (n : Str), vs = [v, .str n] ∧ BkA K C H v b ∧ b.length ≤ 1000 ∧ (∀ k ∈ b, k.rs.length ≤ 1000) ∧
  kindOr N b n H E fun k => ∀ (l : Addr) (us : List V) (H' : Hp), SB [] H H' → H l = none → H' l = some (.lst us) → Bears K H' Ru.enc us k.rs → Q (.ref l) H'
inductive KT where
  | other
  | three (d : PyData) (w : Option Bool) (rs : Option (List PyData))
def Kd.kt (k : Kd) : KT := .three (.str k.n) (some k.w) (some (k.rs.map Ru.enc))
/-- a thing that is no tuple of three, or a tuple of three: of any thing, a truth or not, a list of things or not -/
def KTA (K : PySem.W.Frag) (H : Hp) (v : V) : KT → Prop
  | .other => ∃ d, Tg K H v d ∧ ∀ ds, d = .tuple ds → ds.length ≠ 3
  | .three d w rs => ∃ (t : Addr) (x y z : V), v = .ref t ∧ SqT K H t [x, y, z] ∧ Tg K H x d ∧ (match w with
      | some b => y = .bl b
      | none => ∃ n, TyX K H y (.type n) ∧ kitB n "bool" = some false) ∧ (match rs with
      | some ds => ∃ (l : Addr) (zs : List V), z = .ref l ∧ H l = some (.lst zs) ∧ TgAll K H zs ds
      | none => ∃ n, TyX K H z (.type n) ∧ kitB n "list" = some false)
/-- a rule, as a datum -/
def RuD (d : PyData) : Prop := ∃ r : Ru, d = Ru.enc r ∧ RuOk r
/-- what is looked at is not too great -/
def RuFit (d : PyData) : Prop := d.depth ≤ 60 ∧ wide d ≤ 1000 ∧ ∀ a b, d = .tuple [a, b] → ∀ g : Gr, a = g.enc ∨ b = g.enc → g.deep ≤ 18 ∧ g.parts ≤ 450
def KTFit : KT → Prop
  | .other => True
  | .three d w rs => ∀ ds, rs = some ds → ds.length ≤ 1000 ∧ ∀ x ∈ ds, RuFit x
def KTKd (t : KT) : Prop := ∃ k : Kd, t = k.kt ∧ NameOk k.n ∧ k.rs.length ≤ 4 ∧ ∀ r ∈ k.rs, RuOk r
def KTBk (ts : List KT) : Prop := ∃ b : Bk, ts = b.map Kd.kt ∧ Bk.Ok b
inductive KTAll (K : PySem.W.Frag) (H : Hp) : List V → List KT → Prop
  | nil : KTAll K H [] []
  | cons {v : V} {t : KT} {vs : List V} {ts : List KT} : KTA K H v t → KTAll K H vs ts → KTAll K H (v :: vs) (t :: ts)
def spIsRule (K : PySem.W.Frag) : Sp := fun vs H Q _ => ∃ (v : V) (d : PyData), vs = [v] ∧ Tg K H v d ∧ RuFit d ∧ ∀ (b : Bool) (H' : Hp), SB [] H H' → (b = true ↔ RuD d) → Q (.bl b) H'
def spIsKind (K : PySem.W.Frag) : Sp := fun vs H Q _ => ∃ (v : V) (t : KT), vs = [v] ∧ KTA K H v t ∧ KTFit t ∧ ∀ (b : Bool) (H' : Hp), SB [] H H' → (b = true ↔ KTKd t) → Q (.bl b) H'
def spIsRuleOf (K : PySem.W.Frag) : Sp := fun vs H Q _ => ∃ (v : V) (l : Addr) (r : Ru) (ns : List Str), vs = [v, .ref l] ∧ Dp K H v (Ru.enc r) ∧ RuOk r ∧ SqL K H l (ns.map V.str) ∧ ns.length ≤ 1000 ∧ ∀ H', SB [] H H' → Q (.bl (decide (∀ p ∈ Ru.within r, p.1.1 ∈ ns))) H'
def spAreKinds (K : PySem.W.Frag) : Sp := fun vs H Q _ => ∃ (l : Addr) (xs : List V) (ts : List KT), vs = [.ref l] ∧ SqL K H l xs ∧ KTAll K H xs ts ∧ (∀ t ∈ ts, KTFit t) ∧ ts.length ≤ 1000 ∧ ∀ (b : Bool) (H' : Hp), SB [] H H' → (b = true ↔ KTBk ts) → Q (.bl b) H'
/-- Book(kinds): x is the new instance -/
def spBInit (K : PySem.W.Frag) (C B : Addr) : Sp := fun vs H Q E => ∃ (x dx l : Addr) (xs : List V) (ts : List KT), vs = [.ref x, .ref l] ∧ H x = some (.ins C dx []) ∧ H dx = some (.own x) ∧ H l = some (.lst xs) ∧ KTAll K H xs ts ∧ (∀ t ∈ ts, KTFit t) ∧ ts.length ≤ 1000 ∧
  (∀ b : Bk, ts = b.map Kd.kt → b.Ok → ∀ H', SB [x] H H' → BkA K C H' (.ref x) b → Q .non H') ∧ (¬ KTBk ts → ∀ H', SB [] H H' → E (.ref B) none H')
theorem inV_strs (n : Str) (zs : List Str) : inV (.str n) (zs.map V.str) = decide (n ∈ zs) := by
  induction zs with
  | nil => rfl
  | cons z r ih =>
    show ((z == n) || inV (.str n) (r.map V.str)) = _
    rw [ih]
    by_cases e : z = n
    · subst e; simp
    · have e' : ¬ n = z := fun y => e y.symm
      rw [show (z == n) = false from beq_eq_false_iff_ne.mpr e, Bool.false_or]
      by_cases h : n ∈ r <;> simp [h, e']
theorem flat_strs (zs : List Str) : (zs.map V.str).all flatV = true := by simp [flatV]
theorem getK {H : Hp} {d : Addr} {kvs : List (Key × V)} {n : Str} {v : V} (h : H d = some (.dK kvs)) (e : valV kvs (Sum.inr n) = some v) : DGet H d (.str n) (some v) := .inl ⟨kvs, Sum.inr n, .inl h, rfl, e.symm⟩
theorem Bk.get_isSome (b : Bk) (n : Str) : decide (n ∈ b.names) = (b.get n).isSome := by
  cases e : b.get n with
  | none => simpa using Bk.get_none e
  | some k => simpa using List.mem_map.mpr ⟨k, (Bk.get_some e).1, (Bk.get_some e).2⟩
end FT
namespace FT
open PySem PySem.W PySem.Spec PyProof.Rows L2
section
variable {J : It} {n : Nat} {G : Hp → Prop} {Y : Nat → Hp → V → Hp → Prop}
theorem lc_seq (w : Walk J n G Y) {g : TG} {tt : TT} {te : TE} {vs : List Nat} {σ : L2.St} {H : Hp} {D : Addr} {Qd : Hp → Prop} (hD : H D = none) (hn : n < sizeLine) (R : Nat → List V → Hp → Prop) (h0 : R 0 [] H) (hG : ∀ H2, SB [] H H2 → G H2)
    (st : ∀ i us H2 H3, SB [D] H2 H3 → R i us H2 → R i us H3)
    (turn : ∀ (Pv : Hp → Prop) i x H2 H' us, i < n → SB [] H H2 → Y i H2 x H' → R i us H2 → us.length ≤ i → (∀ y H5, SB [] H2 H5 → R (i + 1) (us ++ [y]) H5 → ∃ acc, H5 D = some (.lst acc) ∧ acc.length < sizeLine ∧ Pv (upd H5 D (.lst (acc ++ [y])))) →
      (∀ H4, SB [] H2 H4 → R (i + 1) us H4 → Pv H4) → g x (wipe σ vs) H' fun σ2 H3 => wipe σ2 vs = wipe σ vs ∧ tt σ2 H3 fun b H4 =>
        if b = true then te σ2 H4 fun y H5 => ∃ acc, H5 D = some (.lst acc) ∧ acc.length < sizeLine ∧ Pv (upd H5 D (.lst (acc ++ [y]))) else Pv H4)
    (done : ∀ us H2, SB [] H H2 → H2 D = some (.lst us) → R n us H2 → us.length ≤ n → Qd H2) :
    ∃ W : Nat → Nat → Hp → Prop, (∃ m, W 0 m (upd H D (.lst []))) ∧ ∀ i m H, W i m H →
      (J.stop i H ∧ Qd H) ∨ (J.go i H ∧ ∃ Nx : Hp → Prop, (∀ H', Nx H' → ∃ m', m' < m ∧ W (i + 1) m' H') ∧ ∀ x H', J.yld i H x H' → g x (wipe σ vs) H' fun σ2 H2 => wipe σ2 vs = wipe σ vs ∧ tt σ2 H2 fun b H3 =>
        if b = true then te σ2 H3 fun y H4 => ∃ acc, H4 D = some (.lst acc) ∧ acc.length < sizeLine ∧ Nx (upd H4 D (.lst (acc ++ [y]))) else Nx H3) := by
  refine lc_it w (fun i H2 => SB [D] H H2 ∧ ∃ us, H2 D = some (.lst us) ∧ R i us H2 ∧ us.length ≤ i) ⟨SB.new hD _, [], upd_same, st _ _ _ _ (SB.new hD _) h0, Nat.le_refl _⟩ (fun i H2 _ h => hG H2 (h.1.drop hD)) (fun i x H2 H' hi h y => ?_) (fun H2 h => ?_)
  · obtain ⟨s2, us, hD2, hR, hl⟩ := h
    refine turn _ i x H2 H' us hi (s2.drop hD) y hR hl (fun y H5 s5 r5 => ?_) (fun H4 s4 r4 => ⟨s2.trans s4.nil, us, s4.keep _ _ hD2 List.not_mem_nil, r4, by omega⟩)
    have hD5 := s5.keep _ _ hD2 List.not_mem_nil
    refine ⟨us, hD5, by omega, (s2.trans s5.nil).trans (SB.set hD5 (by simp) _), _, upd_same, st _ _ _ _ (SB.set hD5 (by simp) _) r5, ?_⟩
    rw [List.length_append, List.length_singleton]; omega
  · obtain ⟨s2, us, hD2, hR, hl⟩ := h
    exact done us H2 (s2.drop hD) hD2 hR hl
end
theorem groveD_Ok {C : Int} : ∀ {g : Gr}, groveD g.enc = true → (∀ p ∈ g.within, p.2 < C) → g.Ok C := by
  have key : ∀ (g : Gr), (∀ p ∈ g.within, p.2 < C) → grPs g.encs = true → (risingD (g.encs.map exp0) = true → g.Ok C) := by
    intro g
    induction g with
    | nil => intro _ _ _; trivial
    | cons k g m r ihg ihr =>
      intro hb hps hri
      have hb1 : ∀ p ∈ g.within, p.2 < C := fun p hp => hb p (List.mem_cons_of_mem _ (List.mem_append_left _ hp))
      have hb2 : ∀ p ∈ r.within, p.2 < C := fun p hp => hb p (List.mem_cons_of_mem _ (List.mem_append_right _ hp))
      have e : (Gr.cons k g m r).encs = Gr.pEnc ((k, g), m) :: r.encs := rfl
      rw [e, grPs, Bool.and_eq_true] at hps
      rw [e, List.map_cons] at hri
      have hp : grP (.tuple [.tuple [.str k, .tuple g.encs], .int m]) = true := hps.1
      rw [grP, grP2, Bool.and_eq_true, treeD, trD2, Bool.and_eq_true, trD3, Bool.and_eq_true, groveD, Bool.and_eq_true, ladP3, Bool.and_eq_true] at hp
      obtain ⟨⟨hn, ⟨hgp, hgr⟩, _⟩, hmm, _⟩ := hp
      have hname : NameOk k := by
        obtain ⟨z, ez, hz⟩ := nameD_iff hn
        cases ez; exact hz
      have hri2 : risingD (r.encs.map exp0) = true := by
        cases hre : r.encs with
        | nil => rfl
        | cons d ds =>
          rw [hre, List.map_cons] at hri
          have : (dataLt (exp0 (Gr.pEnc ((k, g), m))) (exp0 d) :: ltsD (exp0 d :: ds.map exp0)).all id = true := hri
          rw [List.all_cons, Bool.and_eq_true] at this
          rw [List.map_cons]; exact this.2
      have hro := ihr hb2 hps.2 hri2
      refine ⟨hname, ihg hb1 hgp hgr, of_decide_eq_true hmm, hb _ (List.mem_cons_self ..), hro, fun p hpm => ?_⟩
      cases r with
      | nil => cases hpm
      | cons k2 g2 m2 r2 =>
        have h12 : dataLt (Gr.tEnc (k, g)) (Gr.tEnc (k2, g2)) = true := by
          have : (dataLt (Gr.tEnc (k, g)) (Gr.tEnc (k2, g2)) :: ltsD (Gr.tEnc (k2, g2) :: r2.encs.map exp0)).all id = true := hri
          rw [List.all_cons, Bool.and_eq_true] at this
          exact this.1
        rcases List.mem_cons.mp hpm with h | h
        · subst h; exact h12
        · exact dl_trans h12 (hro.2.2.2.2.2 p h)
  intro g hg hb
  rw [Gr.enc, groveD, Bool.and_eq_true] at hg
  exact key g hb hg.1 hg.2
theorem Ok_within {C : Int} : ∀ {g : Gr}, g.Ok C → ∀ p ∈ g.within, NameOk p.1.1 ∧ p.1.2.Ok C ∧ 1 ≤ p.2 ∧ p.2 < C
  | .nil, _, p, h => by cases h
  | .cons k g m r, ⟨h0, h1, h2, h3, h4, _⟩, p, h => by
    rcases List.mem_cons.mp h with h | h
    · subst h; exact ⟨h0, h1, h2, h3⟩
    · rcases List.mem_append.mp h with h | h
      · exact Ok_within h1 p h
      · exact Ok_within h4 p h
theorem Gr.enc_inj {g h : Gr} (e : g.enc = h.enc) : g = h := by
  have := Gr.eqv_enc g h
  rw [e, Gr.eqv_enc h h, decide_eq_true rfl] at this
  exact of_decide_eq_true this.symm
/-- a rule, by what is looked at -/
theorem RuD_iff {g h : Gr} (hg : groveD g.enc = true) (hh : groveD h.enc = true) : RuD (.tuple [g.enc, h.enc]) ↔ g.parts + h.parts ≤ 4 ∧ ∀ p ∈ g.within ++ h.within, p.2 ≤ 1000000000 := by
  constructor
  · rintro ⟨r, e, h1, h2, h3⟩
    have e' : PyData.tuple [g.enc, h.enc] = .tuple [r.1.enc, r.2.enc] := e
    injection e' with e'
    injection e' with a e'
    injection e' with b _
    rw [Gr.enc_inj a, Gr.enc_inj b]
    refine ⟨h3, fun p hp => ?_⟩
    rcases List.mem_append.mp hp with hp | hp
    · have := (Ok_within h1 p hp).2.2.2; omega
    · have := (Ok_within h2 p hp).2.2.2; omega
  · rintro ⟨h1, h2⟩
    exact ⟨(g, h), rfl, groveD_Ok hg fun p hp => by have := h2 p (List.mem_append_left _ hp); omega, groveD_Ok hh fun p hp => by have := h2 p (List.mem_append_right _ hp); omega, h1⟩
theorem RuD_two {d : PyData} (h : RuD d) : ∃ g k : Gr, d = .tuple [g.enc, k.enc] ∧ groveD g.enc = true ∧ groveD k.enc = true := by
  obtain ⟨r, e, h1, h2, _⟩ := h
  exact ⟨r.1, r.2, e, groveD_ok h1, groveD_ok h2⟩
theorem within_deep : ∀ g : Gr, g.deep ≤ g.parts
  | .nil => Nat.le_refl _
  | .cons k g m r => by
    have h1 := within_deep g
    have h2 := within_deep r
    show max (1 + g.deep) r.deep ≤ 1 + g.parts + r.parts
    omega
theorem RuD_all : ∀ {ds : List PyData}, (∀ x ∈ ds, RuD x) → ∃ rs : List Ru, ds = rs.map Ru.enc ∧ ∀ r ∈ rs, RuOk r
  | [], _ => ⟨[], rfl, fun _ h => nomatch h⟩
  | d :: ds, h => by
    obtain ⟨r, e, hr⟩ := h d (List.mem_cons_self ..)
    obtain ⟨rs, e2, hrs⟩ := RuD_all fun x hx => h x (List.mem_cons_of_mem _ hx)
    refine ⟨r :: rs, by rw [e, e2]; rfl, fun x hx => ?_⟩
    rcases List.mem_cons.mp hx with hx | hx
    · rw [hx]; exact hr
    · exact hrs x hx
theorem SqL_ty {K : PySem.W.Frag} {H : Hp} {a : Addr} {xs : List V} (h : SqL K H a xs) : TyX K H (.ref a) (.type "list") := by
  rcases h with (h | ⟨o, h⟩) | ⟨o, its, n, h, c, _⟩
  · exact .base (.lst h)
  · exact .base (.frz h)
  · exact .kList h c
section
variable {K : PySem.W.Frag} {H H' : Hp}
theorem KTA_sb (e : SB [] H H') : ∀ {t : KT} {v : V}, KTA K H v t → KTA K H' v t
  | .other, v, ⟨d, h1, h2⟩ => ⟨d, Tg_sb e h1, h2⟩
  | .three d w rs, v, ⟨t, x, y, z, e0, h1, h2, h3, h4⟩ => by
    refine ⟨t, x, y, z, e0, e.sqT h1, Tg_sb e h2, ?_, ?_⟩
    · cases w with
      | some b => exact h3
      | none =>
        obtain ⟨n, a, b⟩ := h3
        exact ⟨n, TyX_sb e (fun _ _ => List.not_mem_nil) a, b⟩
    · cases rs with
      | some ds =>
        obtain ⟨l, zs, e1, h5, h6⟩ := h4
        exact ⟨l, zs, e1, e.keep _ _ h5 List.not_mem_nil, TgAll_sb e h6⟩
      | none =>
        obtain ⟨n, a, b⟩ := h4
        exact ⟨n, TyX_sb e (fun _ _ => List.not_mem_nil) a, b⟩
theorem KTAll.sb (e : SB [] H H') : ∀ {vs : List V} {ts : List KT}, KTAll K H vs ts → KTAll K H' vs ts
  | _, _, .nil => .nil
  | _, _, .cons h t => .cons (KTA_sb e h) (KTAll.sb e t)
theorem KTAll.length : ∀ {vs : List V} {ts : List KT}, KTAll K H vs ts → vs.length = ts.length
  | _, _, .nil => rfl
  | _, _, .cons h t => by rw [List.length_cons, List.length_cons, KTAll.length t]
theorem KTAll.get : ∀ {vs : List V} {ts : List KT} {i : Nat} {v : V}, KTAll K H vs ts → vs[i]? = some v → ∃ t, ts[i]? = some t ∧ KTA K H v t
  | _, _, i, v, .nil, h => by simp at h
  | _, _, 0, v, .cons h t, e => by simp at e; subst e; exact ⟨_, rfl, h⟩
  | _, _, i + 1, v, .cons h t, e => by
    simp at e
    obtain ⟨t', e', h'⟩ := KTAll.get (i := i) t e
    exact ⟨t', by simpa using e', h'⟩
theorem KT_all : ∀ {ts : List KT}, (∀ t ∈ ts, KTKd t) → ∃ b : Bk, ts = b.map Kd.kt ∧ ∀ k ∈ b, NameOk k.n ∧ k.rs.length ≤ 4 ∧ ∀ r ∈ k.rs, RuOk r
  | [], _ => ⟨[], rfl, fun _ h => nomatch h⟩
  | t :: ts, h => by
    obtain ⟨k, e, hk⟩ := h t (List.mem_cons_self ..)
    obtain ⟨b, e2, hb⟩ := KT_all fun x hx => h x (List.mem_cons_of_mem _ hx)
    refine ⟨k :: b, by rw [e, e2]; rfl, fun x hx => ?_⟩
    rcases List.mem_cons.mp hx with hx | hx
    · rw [hx]; exact hk
    · exact hb x hx
theorem kt_inj {k j : Kd} (e : k.kt = j.kt) : k = j := by
  obtain ⟨n, w, rs⟩ := k
  obtain ⟨n2, w2, rs2⟩ := j
  injection e with e1 e2 e3
  injection e1 with e1
  injection e2 with e2
  injection e3 with e3
  have e3 : rs.map Ru.enc = rs2.map Ru.enc := e3
  have e1 : n = n2 := e1
  have e2 : w = w2 := e2
  subst e1 e2
  have : rs = rs2 := by
    refine (List.map_inj_right ?_).mp e3
    intro x y h
    have h' : PyData.tuple [x.1.enc, x.2.enc] = .tuple [y.1.enc, y.2.enc] := h
    injection h' with h'
    injection h' with a h'
    injection h' with b _
    exact Prod.ext (Gr.enc_inj a) (Gr.enc_inj b)
  rw [this]
theorem kts_inj {b c : Bk} (e : b.map Kd.kt = c.map Kd.kt) : b = c := (List.map_inj_right (fun _ _ => kt_inj)).mp e
theorem TgAll_rules : ∀ {rs : List Ru} {zs : List V}, TgAll K H zs (rs.map Ru.enc) → Bears K H Ru.enc zs rs
  | [], _, .nil => .nil
  | r :: rs, _, .cons h t => by
    refine .cons ?_ (TgAll_rules t)
    cases (h : Tg K H _ (.tuple [r.1.enc, r.2.enc])) with
    | tup hs ha =>
      cases ha with
      | cons h1 ha =>
      cases ha with
      | cons h2 ha =>
      cases ha
      cases h1 with
      | tup a1 b1 =>
      cases h2 with
      | tup a2 b2 => exact .tup hs (.cons (.tup a1 (Tg_ga r.1 b1)) (.cons (.tup a2 (Tg_ga r.2 b2)) .nil))
/-- v is a tuple of a name, a truth and a list of rules, which is none of bad: those of k -/
def KdA (K : PySem.W.Frag) (H : Hp) (bad : List Addr) (v : V) (k : Kd) : Prop := ∃ (t l : Addr) (zs : List V), v = .ref t ∧ SqT K H t [.str k.n, .bl k.w, .ref l] ∧ H l = some (.lst zs) ∧ Bears K H Ru.enc zs k.rs ∧ l ∉ bad
theorem KTA_kd {k : Kd} {v : V} (h : KTA K H v k.kt) : KdA K H [] v k := by
  obtain ⟨t, x, y, z, e0, h1, h2, h3, l, zs, rfl, h5, h6⟩ := h
  have h3 : y = .bl k.w := h3
  subst h3
  cases h2
  exact ⟨t, l, zs, e0, h1, h5, TgAll_rules h6, List.not_mem_nil⟩
def NoLst (H : Hp) (bad ps : List Addr) : Prop := ∀ p ∈ ps, p ∈ bad ∨ ∀ xs, H p ≠ some (.lst xs)
theorem NoLst.nil {bad : List Addr} : NoLst H bad [] := fun _ z => nomatch z
theorem NoLst.self {bad : List Addr} : NoLst H bad bad := fun _ z => .inl z
theorem NoLst.new {bad : List Addr} {p : Addr} (h : H p = none) : NoLst H bad [p] := fun q z => .inr fun xs => by rw [List.mem_singleton.mp z, h]; exact fun y => nomatch y
theorem KdA.sb {k : Kd} {v : V} {ps bad : List Addr} (h : KdA K H bad v k) (e : SB ps H H') (n : NoLst H bad ps) : KdA K H' bad v k := by
  obtain ⟨t, l, zs, e0, h1, h2, h3, h4⟩ := h
  exact ⟨t, l, zs, e0, e.sqT h1, e.keep _ _ h2 fun z => (n _ z).elim h4 fun y => y _ h2, h3.sb e Ru.noList_enc, h4⟩
inductive KdAll (K : PySem.W.Frag) (H : Hp) (bad : List Addr) : List V → Bk → Prop
  | nil : KdAll K H bad [] []
  | cons {v : V} {k : Kd} {vs : List V} {b : Bk} : KdA K H bad v k → KdAll K H bad vs b → KdAll K H bad (v :: vs) (k :: b)
theorem KdAll.sb {ps bad : List Addr} (e : SB ps H H') (n : NoLst H bad ps) : ∀ {vs : List V} {b : Bk}, KdAll K H bad vs b → KdAll K H' bad vs b
  | _, _, .nil => .nil
  | _, _, .cons h t => .cons (h.sb e n) (KdAll.sb e n t)
theorem KdAll.less {bad bad' : List Addr} (hb : ∀ x ∈ bad', x ∈ bad) : ∀ {vs : List V} {b : Bk}, KdAll K H bad vs b → KdAll K H bad' vs b
  | _, _, .nil => .nil
  | _, _, .cons ⟨t, l, zs, h1, h2, h3, h4, h5⟩ r => .cons ⟨t, l, zs, h1, h2, h3, h4, fun z => h5 (hb l z)⟩ (KdAll.less hb r)
theorem KdAll.append {bad : List Addr} : ∀ {xs ys : List V} {bs cs : Bk}, KdAll K H bad xs bs → KdAll K H bad ys cs → KdAll K H bad (xs ++ ys) (bs ++ cs)
  | _, _, _, _, .nil, h => h
  | _, _, _, _, .cons a b, h => .cons a (KdAll.append b h)
theorem KdAll.length {bad : List Addr} : ∀ {vs : List V} {ts : Bk}, KdAll K H bad vs ts → vs.length = ts.length
  | _, _, .nil => rfl
  | _, _, .cons h t => by rw [List.length_cons, List.length_cons, KdAll.length t]
theorem KdAll.get {bad : List Addr} : ∀ {vs : List V} {ts : Bk} {i : Nat} {v : V}, KdAll K H bad vs ts → vs[i]? = some v → ∃ t, ts[i]? = some t ∧ KdA K H bad v t
  | _, _, i, v, .nil, h => by simp at h
  | _, _, 0, v, .cons h t, e => by simp at e; subst e; exact ⟨_, rfl, h⟩
  | _, _, i + 1, v, .cons h t, e => by
    simp at e
    obtain ⟨t', e', h'⟩ := KdAll.get (i := i) t e
    exact ⟨t', by simpa using e', h'⟩
theorem KTAll.kd : ∀ {b : Bk} {vs : List V}, KTAll K H vs (b.map Kd.kt) → KdAll K H [] vs b
  | [], _, .nil => .nil
  | k :: b, _, .cons h t => .cons (KTA_kd h) (KTAll.kd t)
theorem rules_TgAll {zs : List V} : ∀ {rs : List Ru} {zs : List V}, (∀ r ∈ rs, RuOk r) → Bears K H Ru.enc zs rs → TgAll K H zs (rs.map Ru.enc)
  | [], _, _, .nil => .nil
  | r :: rs, _, ok, .cons h t => by
    refine .cons ?_ (rules_TgAll (zs := zs) (fun x hx => ok x (List.mem_cons_of_mem _ hx)) t)
    obtain ⟨o1, o2, _⟩ := ok r (List.mem_cons_self ..)
    cases (h : Dp K H _ (.tuple [r.1.enc, r.2.enc])) with
    | tup hs ha =>
      cases ha with
      | cons h1 ha =>
      cases ha with
      | cons h2 ha =>
      cases ha
      exact .tup hs (.cons (GA_thing o1 h1) (.cons (GA_thing o2 h2) .nil))
theorem KdAll.kt {bad : List Addr} : ∀ {b : Bk} {vs : List V}, (∀ k ∈ b, NameOk k.n ∧ ∀ r ∈ k.rs, RuOk r) → KdAll K H bad vs b → KTAll K H vs (b.map Kd.kt)
  | [], _, _, .nil => .nil
  | k :: b, _, ok, .cons h t => by
    refine .cons ?_ (KdAll.kt (fun x hx => ok x (List.mem_cons_of_mem _ hx)) t)
    obtain ⟨t, l, zs, e0, h1, h2, h3, _⟩ := h
    obtain ⟨o1, o2⟩ := ok k (List.mem_cons_self ..)
    exact ⟨t, _, _, _, e0, h1, .str _ (name_short o1), rfl, l, zs, rfl, h2, rules_TgAll (zs := zs) o2 h3⟩
theorem RuFit_of {r : Ru} (h : RuOk r) : RuFit (Ru.enc r) := by
  obtain ⟨h1, h2, h3⟩ := h
  have d1 := within_deep r.1
  have d2 := within_deep r.2
  have e1 := r.1.encs_depth
  have e2 := r.2.encs_depth
  obtain ⟨w1, w2⟩ := wides_gr r.1
  obtain ⟨w3, w4⟩ := wides_gr r.2
  refine ⟨?_, ?_, fun a b e g hg => ?_⟩
  · show PyData.depth (.tuple [.tuple r.1.encs, .tuple r.2.encs]) ≤ 60
    simp only [PyData.depth, PyData.depthAll]; omega
  · show wide (.tuple [.tuple r.1.encs, .tuple r.2.encs]) ≤ 1000
    simp only [wide, wides, List.length_cons, List.length_nil]; omega
  · have e' : PyData.tuple [r.1.enc, r.2.enc] = .tuple [a, b] := e
    injection e' with e'
    injection e' with ea e'
    injection e' with eb _
    rcases hg with hg | hg
    · rw [← ea] at hg; rw [← Gr.enc_inj hg]; omega
    · rw [← eb] at hg; rw [← Gr.enc_inj hg]; omega
theorem KTFit_of {k : Kd} (h : k.rs.length ≤ 4 ∧ ∀ r ∈ k.rs, RuOk r) : KTFit k.kt := by
  intro ds e
  have e : some (k.rs.map Ru.enc) = some ds := e
  injection e with e
  subst e
  refine ⟨by rw [List.length_map]; omega, fun x hx => ?_⟩
  obtain ⟨r, hr, rfl⟩ := List.mem_map.mp hx
  exact RuFit_of (h.2 r hr)
end
section
variable {J : It} {n : Nat} {G : Hp → Prop} {Y : Nat → Hp → V → Hp → Prop}
theorem dc_seq (w : Walk J n G Y) {g : TG} {tt : TT} {tk tv : TE} {vs : List Nat} {σ : L2.St} {H : Hp} {D : Addr} {Qd : Hp → Prop} (hD : H D = none) (hn : n < sizeLine) (R : Nat → List (Key × V) → Hp → Prop) (h0 : R 0 [] H) (hG : ∀ H2, SB [] H H2 → G H2)
    (st : ∀ i us H2 H3, SB [D] H2 H3 → R i us H2 → R i us H3)
    (turn : ∀ (Pv : Hp → Prop) i x H2 H' kvs, i < n → SB [] H H2 → Y i H2 x H' → R i kvs H2 → kvs.length ≤ i → (∀ k z H5, SB [] H2 H5 → R (i + 1) (putK kvs k z) H5 → ∃ kvs k', kV k = kV k' ∧ H5 D = some (.dK kvs) ∧ kvs.length < sizeLine ∧ Pv (upd H5 D (.dK (putK kvs k' z)))) →
      (∀ H4, SB [] H2 H4 → R (i + 1) kvs H4 → Pv H4) → g x (wipe σ vs) H' fun σ2 H3 => wipe σ2 vs = wipe σ vs ∧ tt σ2 H3 fun b H4 =>
        if b = true then tk σ2 H4 fun y H5 => tv σ2 H5 fun z H6 => ∃ kvs k, y = kV k ∧ H6 D = some (.dK kvs) ∧ kvs.length < sizeLine ∧ Pv (upd H6 D (.dK (putK kvs k z))) else Pv H4)
    (done : ∀ kvs H2, SB [] H H2 → H2 D = some (.dK kvs) → R n kvs H2 → kvs.length ≤ n → Qd H2) :
    ∃ W : Nat → Nat → Hp → Prop, (∃ m, W 0 m (upd H D (.dK []))) ∧ ∀ i m H, W i m H →
      (J.stop i H ∧ Qd H) ∨ (J.go i H ∧ ∃ Nx : Hp → Prop, (∀ H', Nx H' → ∃ m', m' < m ∧ W (i + 1) m' H') ∧ ∀ x H', J.yld i H x H' → g x (wipe σ vs) H' fun σ2 H2 => wipe σ2 vs = wipe σ vs ∧ tt σ2 H2 fun b H3 =>
        if b = true then tk σ2 H3 fun y H4 => tv σ2 H4 fun z H5 => ∃ kvs k, y = kV k ∧ H5 D = some (.dK kvs) ∧ kvs.length < sizeLine ∧ Nx (upd H5 D (.dK (putK kvs k z))) else Nx H3) := by
  refine lcG (body := fun Nx x H' => g x (wipe σ vs) H' fun σ2 H2 => wipe σ2 vs = wipe σ vs ∧ tt σ2 H2 fun b H3 =>
        if b = true then tk σ2 H3 fun y H4 => tv σ2 H4 fun z H5 => ∃ kvs k, y = kV k ∧ H5 D = some (.dK kvs) ∧ kvs.length < sizeLine ∧ Nx (upd H5 D (.dK (putK kvs k z))) else Nx H3) w (fun i H2 => SB [D] H H2 ∧ ∃ kvs, H2 D = some (.dK kvs) ∧ R i kvs H2 ∧ kvs.length ≤ i)
    ⟨SB.new hD _, [], upd_same, st _ _ _ _ (SB.new hD _) h0, Nat.le_refl _⟩ (fun i H2 _ h => hG H2 (h.1.drop hD)) (fun i x H2 H' hi h y => ?_) (fun H2 h => ?_)
  · obtain ⟨s2, kvs, hD2, hR, hl⟩ := h
    refine turn _ i x H2 H' kvs hi (s2.drop hD) y hR hl (fun k z H5 s5 r5 => ?_) (fun H4 s4 r4 => ⟨s2.trans s4.nil, kvs, s4.keep _ _ hD2 List.not_mem_nil, r4, by omega⟩)
    have hD5 := s5.keep _ _ hD2 List.not_mem_nil
    refine ⟨kvs, k, rfl, hD5, by omega, (s2.trans s5.nil).trans (SB.setD hD5 (by simp) _), _, upd_same, st _ _ _ _ (SB.setD hD5 (by simp) _) r5, ?_⟩
    have := length_putK kvs k z
    omega
  · obtain ⟨s2, kvs, hD2, hR, hl⟩ := h
    exact done kvs H2 (s2.drop hD) hD2 hR hl
end
theorem putK_new {kvs : List (Key × V)} {k : Key} {v : V} (h : ∀ p ∈ kvs, p.1 ≠ k) : putK kvs k v = kvs ++ [(k, v)] := by
  unfold putK
  rw [if_neg]
  intro z
  obtain ⟨p, hp, e⟩ := List.any_eq_true.mp z
  exact h p hp (of_decide_eq_true e)
theorem Bk.nodup_at {b : Bk} (nd : b.names.Nodup) {i : Nat} {k : Kd} (h : b[i]? = some k) : ∀ j ∈ b.take i, j.n ≠ k.n := by
  intro j hj e
  have e1 : b.names = (b.take i).map (·.n) ++ (b.drop i).map (·.n) := by rw [← List.map_append, List.take_append_drop]
  rw [e1] at nd
  exact (List.nodup_append.mp nd).2.2 j.n (List.mem_map.mpr ⟨j, hj, rfl⟩) k.n (List.mem_map.mpr ⟨k, List.mem_of_getElem? (i := 0) (by rw [List.getElem?_drop]; exact h), rfl⟩) e
theorem SB.setG {H : Hp} {p : Addr} {o : HO} {ps : List Addr} (h : H p = some o) (hp : p ∈ ps) (n1 : ∀ xs, o ≠ .tup xs) (n2 : ∀ u v, o ≠ .frz u v) (o' : HO) : SB ps H (upd H p o') := by
  refine ⟨fun b u e n => ?_, fun b u e => ?_, fun b v u e => ?_, fun b e => ?_⟩
  · rw [upd_ne (fun (z : b = p) => n (by rw [z]; exact hp))]; exact e
  · rw [upd_ne (fun (z : b = p) => by subst z; rw [h] at e; exact n1 _ (Option.some.inj e))]; exact e
  · rw [upd_ne (fun (z : b = p) => by subst z; rw [h] at e; exact n2 _ _ (Option.some.inj e))]; exact e
  · by_cases q : b = p
    · subst q; rw [upd_same] at e; cases e
    · rw [upd_ne q] at e; exact e
theorem rowKV_mem : ∀ {b : Bk} {us : List V} {p : Key × V}, p ∈ b.rowKV us → ∃ j ∈ b, p.1 = Sum.inr j.n
  | [], _, p, h => by cases h
  | k :: b, [], p, h => by cases h
  | k :: b, u :: us, p, h => by
    rcases List.mem_cons.mp (show p ∈ (Sum.inr k.n, u) :: Bk.rowKV b us from h) with h | h
    · exact ⟨k, List.mem_cons_self .., by rw [h]⟩
    · obtain ⟨j, hj, e⟩ := rowKV_mem h
      exact ⟨j, List.mem_cons_of_mem _ hj, e⟩
end FT
namespace FT
open PySem PySem.W PySem.Spec PyProof.Rows L2
def CPowW (i j : Int) : Prop := 0 ≤ j ∧ j ≤ 1000 ∧ i.natAbs < 2 ^ 1000
theorem op_powW {X : Cx} : OpR X (binaryOp .Pow) (rI CPowW fun i j => .int (i ^ j.toNat)) := opI fun i j _ _ _ _ _ hc q => pow_int hc.1 (by
  obtain ⟨h0, h1, h2⟩ := hc
  have hb : Builtin.Int.intBits i ≤ 1000 := intBits_le h2
  have h3 : (Builtin.Int.intBits i : Int) * j ≤ 1000 * j := Int.mul_le_mul_of_nonneg_right (by omega) h0
  omega) q
def PuW (H : Hp) (p : Addr) : Prop := ∃ x y : Int, H p = some (.lst [.int x, .int y]) ∧ 0 ≤ x ∧ 0 ≤ y ∧ y < 2 ^ 62
theorem PuW.sb {H H' : Hp} {p : Addr} (h : PuW H p) (e : SB [] H H') : PuW H' p := by
  obtain ⟨x, y, h1, h2⟩ := h
  exact ⟨x, y, e.keep _ _ h1 List.not_mem_nil, h2⟩
theorem PuW.keep {H H' : Hp} {p : Addr} {ps : List Addr} (h : PuW H p) (e : SB ps H H') (n : p ∉ ps) : PuW H' p := by
  obtain ⟨x, y, h1, h2⟩ := h
  exact ⟨x, y, e.keep _ _ h1 n, h2⟩
theorem PuW.new {H : Hp} {p q : Addr} (h : PuW H p) (n : H q = none) {o : HO} : PuW (upd H q o) p := by
  obtain ⟨x, y, h1, h2⟩ := h
  exact ⟨x, y, by rw [upd_ne (ne_of_none h1 n)]; exact h1, h2⟩
theorem PuW.ne {H : Hp} {p q : Addr} (h : PuW H p) (n : H q = none) : p ≠ q := by
  obtain ⟨x, y, h1, h2⟩ := h
  exact ne_of_none h1 n
def spCellAt (K : PySem.W.Frag) : Sp := fun vs H Q _ => ∃ (a : Addr) (ns : List Int) (k : Nat), vs = [.ref a, .int (k : Int)] ∧ SqL K H a (ns.map V.int) ∧ ns.length ≤ 63 ∧ k ≤ 1000 ∧ ∀ c : Int, Q (.int c) H
def spPurseW (K : PySem.W.Frag) : Sp := fun vs H Q _ => ∃ (a : Addr) (ns : List Int) (k : Nat), vs = [.ref a, .int (k : Int)] ∧ SqL K H a (ns.map V.int) ∧ ns.length ≤ 63 ∧ k ≤ 1000 ∧ ∀ p H', SB [] H H' → H p = none → PuW H' p → Q (.ref p) H'
def spTakeW : Sp := fun vs H Q _ => ∃ (p : Addr) (m : Int), vs = [.ref p, .int m] ∧ PuW H p ∧ 1 ≤ m ∧ m < 2 ^ 250 ∧ ∀ r H', 0 ≤ r → r < m → SB [p] H H' → PuW H' p → Q (.int r) H'
section
variable {K : PySem.W.Frag} {H : Hp} {p : Addr} {Q : VK} {σ : L2.St} {i j : Nat} {m : Int}
theorem take_w (hσ : σ[i]? = some (some (.ref p))) (hp : PuW H p) (h1 : 1 ≤ m) (h2 : m < 2 ^ 250) (k : ∀ r H', 0 ≤ r → r < m → SB [p] H H' → PuW H' p → Q (.int r) H') :
    tCall spTakeW [] E0 (tCons (tVar i) (tCons (tC (.int m)) tNil)) σ H Q := ⟨_, hσ, p, m, rfl, hp, h1, h2, k⟩
end
section
variable {J : It} {n : Nat} {G : Hp → Prop} {Y : Nat → Hp → V → Hp → Prop}
theorem lc_seqP (w : Walk J n G Y) (ps : List Addr) {g : TG} {tt : TT} {te : TE} {vs : List Nat} {σ : L2.St} {H : Hp} {D : Addr} {Qd : Hp → Prop} (hD : H D = none) (hps : ∀ q ∈ ps, H q ≠ none) (hn : n < sizeLine) (R : Nat → List V → Hp → Prop) (h0 : R 0 [] H) (hG : ∀ H2, SB ps H H2 → G H2)
    (st : ∀ i us H2 H3, SB [D] H2 H3 → R i us H2 → R i us H3)
    (turn : ∀ (Pv : Hp → Prop) i x H2 H' us, i < n → SB ps H H2 → Y i H2 x H' → R i us H2 → us.length ≤ i → (∀ y H5, SB ps H2 H5 → R (i + 1) (us ++ [y]) H5 → ∃ acc, H5 D = some (.lst acc) ∧ acc.length < sizeLine ∧ Pv (upd H5 D (.lst (acc ++ [y])))) →
      (∀ H4, SB ps H2 H4 → R (i + 1) us H4 → Pv H4) → g x (wipe σ vs) H' fun σ2 H3 => wipe σ2 vs = wipe σ vs ∧ tt σ2 H3 fun b H4 =>
        if b = true then te σ2 H4 fun y H5 => ∃ acc, H5 D = some (.lst acc) ∧ acc.length < sizeLine ∧ Pv (upd H5 D (.lst (acc ++ [y]))) else Pv H4)
    (done : ∀ us H2, SB ps H H2 → H2 D = some (.lst us) → R n us H2 → us.length ≤ n → Qd H2) :
    ∃ W : Nat → Nat → Hp → Prop, (∃ m, W 0 m (upd H D (.lst []))) ∧ ∀ i m H, W i m H →
      (J.stop i H ∧ Qd H) ∨ (J.go i H ∧ ∃ Nx : Hp → Prop, (∀ H', Nx H' → ∃ m', m' < m ∧ W (i + 1) m' H') ∧ ∀ x H', J.yld i H x H' → g x (wipe σ vs) H' fun σ2 H2 => wipe σ2 vs = wipe σ vs ∧ tt σ2 H2 fun b H3 =>
        if b = true then te σ2 H3 fun y H4 => ∃ acc, H4 D = some (.lst acc) ∧ acc.length < sizeLine ∧ Nx (upd H4 D (.lst (acc ++ [y]))) else Nx H3) := by
  have nD : D ∉ ps := fun z => hps D z hD
  have up : ∀ {H1 H2 : Hp}, SB ps H1 H2 → SB (D :: ps) H1 H2 := fun e => e.mono fun b hb => List.mem_cons_of_mem _ hb
  have up1 : ∀ {H1 H2 : Hp}, SB [D] H1 H2 → SB (D :: ps) H1 H2 := fun e => e.mono fun b hb => by rw [List.mem_singleton.mp hb]; exact List.mem_cons_self ..
  refine lc_it w (fun i H2 => SB (D :: ps) H H2 ∧ ∃ us, H2 D = some (.lst us) ∧ R i us H2 ∧ us.length ≤ i) ⟨SB.new hD _, [], upd_same, st _ _ _ _ (SB.new hD _) h0, Nat.le_refl _⟩ (fun i H2 _ h => hG H2 (h.1.drop hD)) (fun i x H2 H' hi h y => ?_) (fun H2 h => ?_)
  · obtain ⟨s2, us, hD2, hR, hl⟩ := h
    refine turn _ i x H2 H' us hi (s2.drop hD) y hR hl (fun y H5 s5 r5 => ?_) (fun H4 s4 r4 => ⟨s2.trans (up s4), us, s4.keep _ _ hD2 nD, r4, by omega⟩)
    have hD5 := s5.keep _ _ hD2 nD
    refine ⟨us, hD5, by omega, (s2.trans (up s5)).trans (SB.set hD5 (by simp) _), _, upd_same, st _ _ _ _ (SB.set hD5 (by simp) _) r5, ?_⟩
    rw [List.length_append, List.length_singleton]; omega
  · obtain ⟨s2, us, hD2, hR, hl⟩ := h
    exact done us H2 (s2.drop hD) hD2 hR hl
end
abbrev rJoinS (K : PySem.W.Frag) : V → List V → Hp → VK → Prop := fun x xs H Q => ∃ a p, ∃ ys : List Str, x = .str a ∧ xs = [.ref p] ∧ (SqL K H p (ys.map V.str) ∨ SqT K H p (ys.map V.str)) ∧ (ys.map (·.length)).sum + ys.length * a.length ≤ 16777216 ∧ Q (.str (Txt.join a ys)) H
theorem PuW.some {H : Hp} {p : Addr} (h : PuW H p) : ∀ q ∈ [p], H q ≠ none := fun q hq z => by
  obtain ⟨x, y, h1, _⟩ := h
  rw [List.mem_singleton.mp hq, h1] at z
  cases z
theorem join_w {K : PySem.W.Frag} {H : Hp} {p : Addr} {Q : VK} {σ : L2.St} {jP jL jV k : Nat} {wi : TI} (hk : k ≤ 1000) (h1 : ∀ x, ((wipe σ [jV]).set jV (some x))[jP]? = some (some (.ref p))) (h2 : ∀ x, ((wipe σ [jV]).set jV (some x))[jL]? = some (some (.str abc)))
    (h3 : ∀ x, wipe ((wipe σ [jV]).set jV (some x)) [jV] = wipe σ [jV]) (hwi : ∀ R : It → Hp → Prop, R (Itr 0 k) H → wi σ H R) (hp : PuW H p) (q : ∀ z H', SB [p] H H' → PuW H' p → Ltr z k → Q (.str z) H') :
    tM1 (rJoinS K) (tC (.str (Str.ofString ""))) (tLc wi (gName jV) tYes (tOp rIxS (tVar jL) (tCall spTakeW [] E0 (tCons (tVar jP) (tCons (tC (.int 26)) tNil)))) [jV]) σ H Q := by
  refine ⟨⟨_, rfl⟩, hwi _ fun D hD => ?_⟩
  have pD : p ≠ D := hp.ne hD
  have szl := sizeLine_eq
  refine lc_seqP walk_range [p] hD hp.some (by omega) (fun i us H2 => PuW H2 p ∧ ∃ cs : List Nat, us = cs.map (fun c => V.str ⟨#[c]⟩) ∧ cs.length = i ∧ ∀ c ∈ cs, 97 ≤ c ∧ c ≤ 122) ⟨hp, [], rfl, rfl, by simp⟩ (fun _ _ => trivial) (fun i us H2 H3 e ⟨a, b⟩ => ⟨a.keep e (by simpa using pD), b⟩) (fun Pv i x H2 H' us hi s2 y hR hl fin _ => ?_) (fun us H2 s2 hD2 hR hl => ?_)
  · obtain ⟨rfl, rfl⟩ := y
    obtain ⟨hp2, cs, rfl, cl, co⟩ := hR
    refine ⟨h3 _, _, h2 _, ?_⟩
    refine take_w (h1 _) hp2 (by decide) (by decide) fun r H3 r0 r26 s3 hp3 => ?_
    obtain ⟨n, rfl⟩ : ∃ n : Nat, r = (n : Int) := ⟨r.toNat, by omega⟩
    obtain ⟨c, hc, hco⟩ := abc_at n (by omega)
    refine ⟨_, _, c, rfl, rfl, abc_len, atI_natN hc, fin _ _ s3 ⟨hp3, cs ++ [c], by rw [List.map_append]; rfl, by simp [cl], fun d hd => ?_⟩⟩
    rcases List.mem_append.mp hd with hd | hd
    · exact co d hd
    · rw [List.mem_singleton.mp hd]; exact hco
  · obtain ⟨hp2, cs, rfl, cl, co⟩ := hR
    have e1 : (cs.map fun c => V.str ⟨#[c]⟩) = (cs.map fun c => (⟨#[c]⟩ : Str)).map V.str := by rw [List.map_map]; rfl
    rw [e1] at hD2
    refine ⟨_, D, cs.map fun c => ⟨#[c]⟩, rfl, rfl, .inl (SqL.of hD2), ?_, q _ _ s2 hp2 (by have := join_ltrs cs co; rw [cl] at this; exact this)⟩
    have : ∀ cs : List Nat, ((cs.map fun c => (⟨#[c]⟩ : Str)).map (·.length)).sum = cs.length := by
      intro cs
      induction cs with
      | nil => rfl
      | cons c r ih => rw [List.map_cons, List.map_cons, List.sum_cons, ih]; show 1 + r.length = r.length + 1; omega
    rw [this, List.length_map, cl]
    have : (Str.ofString "").length = 0 := by decide +kernel
    rw [this]; omega
/-- some names, unlike ones -/
def spWords (K : PySem.W.Frag) : Sp := fun vs H Q _ => ∃ (p : Addr) (m : Nat), vs = [.ref p, .int (m : Int)] ∧ PuW H p ∧ 1 ≤ m ∧ m ≤ 8 ∧ ∀ (n : Addr) (ks : List Str) (H' : Hp), SB [p] H H' → PuW H' p → H n = none → H' n = some (.lst (ks.map V.str)) → ks.length = m → (∀ k ∈ ks, NameOk k) → ks.Nodup → Q (.ref n) H'
theorem abc_code : ∀ r : Nat, r < 26 → abc.cps.toList[r]? = some (97 + r) := by
  have : ∀ r : Fin 26, abc.cps.toList[r.val]? = some (97 + r.val) := by decide +kernel
  intro r hr
  exact this ⟨r, hr⟩
theorem Ltr.mid {a b : Str} {n c : Nat} (ha : Ltr a n) : (a ++ ⟨#[c]⟩ ++ b).cps.toList[n]? = some c := by
  have e : (a ++ ⟨#[c]⟩ ++ b).cps.toList = a.cps.toList ++ (c :: b.cps.toList) := by show (a.cps ++ #[c] ++ b.cps).toList = _; simp
  rw [e, List.getElem?_append_right (by rw [ha.1]; exact Nat.le_refl _), ha.1, Nat.sub_self]
  rfl
theorem nodup_range {α : Type} {F : Nat → α} {m : Nat} (h : ∀ i j, i < m → j < m → i ≠ j → F i ≠ F j) : ((List.range m).map F).Nodup := by
  refine List.pairwise_map.mpr (List.Pairwise.imp_of_mem (fun {i j} hi hj hn => h i j (List.mem_range.mp hi) (List.mem_range.mp hj) hn) List.nodup_range)
theorem turn_inj {b t i j : Nat} (ht : t < 6) (hi : i < 8) (hj : j < 8) (e : (b + (1 + 2 * t) * i) % 26 = (b + (1 + 2 * t) * j) % 26) : i = j := by
  have : t = 0 ∨ t = 1 ∨ t = 2 ∨ t = 3 ∨ t = 4 ∨ t = 5 := by omega
  rcases this with rfl | rfl | rfl | rfl | rfl | rfl <;> omega
section
variable {D : Ends} {σ : L2.St} {H : Hp} {t u : TS} {te : TE} {g : TG} {c : TT}
theorem nextI {f : L2.St → Hp → Prop} {r : VK} {b c' : L2.St → Hp → Prop} (h : f σ H) : tNext ⟨f, r, b, c'⟩ σ H := h
theorem seqI (h : t { D with nx := u D } σ H) : tSeq t u D σ H := h
theorem asgI (h : te σ H fun x H1 => g x σ H1 D.nx) : tAsg te g D σ H := h
end
def rwE (r : Nat × Str × Int) : PyData := .tuple [.int (r.1 : Int), .str r.2.1, .int r.2.2]
theorem noList_rwE (r : Nat × Str × Int) : noList (rwE r) = true := rfl
/-- how many stand inside i, at all depths -/
def cntTo (ws : List Nat) (c : Nat → Nat) (i j : Nat) : Nat := ((List.range j).map fun k => if ws.getD k 0 = i then 1 + c (k + 2) else 0).sum
def cnt (ws : List Nat) : Nat → Nat → Nat
  | 0, _ => 0
  | f + 1, i => cntTo ws (cnt ws f) i ws.length
theorem cntTo_succ (ws : List Nat) (c : Nat → Nat) (i j : Nat) : cntTo ws c i (j + 1) = cntTo ws c i j + if ws.getD j 0 = i then 1 + c (j + 2) else 0 := by
  unfold cntTo
  rw [List.range_succ, List.map_append, List.sum_append]
  simp
theorem cnt_all {ws : List Nat} (hl : ws.length ≤ 4) (hw : ∀ k w, ws[k]? = some w → w < 2 + k) : cnt ws 6 0 + cnt ws 6 1 ≤ 4 := by
  match ws, hl, hw with
  | [], _, _ => decide +kernel
  | [a], _, hw =>
    have h0 := hw 0 a rfl
    have : ∀ a : Fin 2, cnt [a.val] 6 0 + cnt [a.val] 6 1 ≤ 4 := by decide +kernel
    exact this ⟨a, by omega⟩
  | [a, b], _, hw =>
    have h0 := hw 0 a rfl
    have h1 := hw 1 b rfl
    have : ∀ (a : Fin 2) (b : Fin 3), cnt [a.val, b.val] 6 0 + cnt [a.val, b.val] 6 1 ≤ 4 := by decide +kernel
    exact this ⟨a, by omega⟩ ⟨b, by omega⟩
  | [a, b, c], _, hw =>
    have h0 := hw 0 a rfl
    have h1 := hw 1 b rfl
    have h2 := hw 2 c rfl
    have : ∀ (a : Fin 2) (b : Fin 3) (c : Fin 4), cnt [a.val, b.val, c.val] 6 0 + cnt [a.val, b.val, c.val] 6 1 ≤ 4 := by decide +kernel
    exact this ⟨a, by omega⟩ ⟨b, by omega⟩ ⟨c, by omega⟩
  | [a, b, c, d], _, hw =>
    have h0 := hw 0 a rfl
    have h1 := hw 1 b rfl
    have h2 := hw 2 c rfl
    have h3 := hw 3 d rfl
    have : ∀ (a : Fin 2) (b : Fin 3) (c : Fin 4) (d : Fin 5), cnt [a.val, b.val, c.val, d.val] 6 0 + cnt [a.val, b.val, c.val, d.val] 6 1 ≤ 4 := by decide +kernel
    exact this ⟨a, by omega⟩ ⟨b, by omega⟩ ⟨c, by omega⟩ ⟨d, by omega⟩
  | _ :: _ :: _ :: _ :: _ :: _, hl, _ => simp at hl
/-- sorted pairs of unlike trees are a grove -/
theorem srt_ok {C : Int} {bs : List (Tr × Int)} (nd : (bs.map (·.1)).Nodup) (h : ∀ p ∈ bs, NameOk p.1.1 ∧ p.1.2.Ok C ∧ 1 ≤ p.2 ∧ p.2 < C) : (Gr.ofPs (srtE Gr.pEnc bs)).Ok C := by
  rw [Gr.ok_ps]
  refine ⟨fun p hp => h p ((srtE_perm bs).mem_iff.mp hp), ?_⟩
  have h1 : (srtE Gr.pEnc bs).Pairwise (fun a b => dataLt (Gr.tEnc b.1) (Gr.tEnc a.1) = false) := srt_keys bs
  have h2 : ((srtE Gr.pEnc bs).map (·.1)).Nodup := (((srtE_perm bs).map _).nodup_iff).mpr nd
  have h3 : (srtE Gr.pEnc bs).Pairwise (fun a b => a.1 ≠ b.1) := List.pairwise_map.mp h2
  refine (List.pairwise_and_iff.mpr ⟨h1, h3⟩).imp fun {a b} ⟨x, y⟩ => ol_tri (enc := Gr.tEnc) (fun z => y z.symm) x
def RowOk (k : Nat) (r : Nat × Str × Int) : Prop := r.1 < 2 + k ∧ NameOk r.2.1 ∧ 1 ≤ r.2.2 ∧ r.2.2 ≤ 1000000000
def spHeap (K : PySem.W.Frag) (f : Nat) : Sp := fun vs H Q _ => ∃ (a : Addr) (xs : List V) (rs : List (Nat × Str × Int)) (i : Nat), vs = [.ref a, .int (i : Int)] ∧ SqL K H a xs ∧ Bears K H rwE xs rs ∧ rs.length ≤ 4 ∧ (∀ k r, rs[k]? = some r → RowOk k r) ∧ i ≤ rs.length + 1 ∧ rs.length + 2 ≤ i + f ∧ f ≤ 10 ∧
  ∀ (v : V) (g : Gr) (H' : Hp), SB [] H H' → GA K H' v g → g.Ok 1000000001 → g.parts ≤ cnt (rs.map (·.1)) f i → g.deep ≤ f → (∀ p ∈ g.within, p.1.1 ∈ rs.map (·.2.1)) → Q v H'
def spWay (K : PySem.W.Frag) : Sp := fun vs H Q _ => ∃ (p l : Addr) (ks : List Str), vs = [.ref p, .ref l] ∧ PuW H p ∧ H l = some (.lst (ks.map V.str)) ∧ l ≠ p ∧ ks.length ≤ 8 ∧ (∀ k ∈ ks, NameOk k) ∧
  ∀ (v : V) (r : Ru) (H' : Hp), SB [p] H H' → PuW H' p → Dp K H' v (Ru.enc r) → RuOk r → (∀ q ∈ Ru.within r, q.1.1 ∈ ks) → Q v H'
/-- a drawn book -/
def spKinds (K : PySem.W.Frag) : Sp := fun vs H Q _ => ∃ (a : Addr) (ns : List Int), vs = [.ref a] ∧ SqL K H a (ns.map V.int) ∧ ns.length ≤ 63 ∧
  ∀ (l : Addr) (xs : List V) (b : Bk) (H' : Hp), SB [] H H' → H l = none → H' l = some (.lst xs) → KdAll K H' [l] xs b → b.Ok → Q (.ref l) H'
theorem sum_from0 : ∀ {ns : List Int}, (∀ x ∈ ns, 0 ≤ x) → 0 ≤ ns.sum
  | [], _ => by simp
  | x :: r, h => by
    have h1 := h x (List.mem_cons_self ..)
    have h2 := sum_from0 fun y hy => h y (List.mem_cons_of_mem _ hy)
    rw [List.sum_cons]; omega
theorem tot_filter (c : Tr × Int → Bool) : ∀ bs : List (Tr × Int), Gr.tot (bs.filter c) ≤ Gr.tot bs
  | [] => Nat.le_refl _
  | p :: r => by
    have := tot_filter c r
    rw [List.filter_cons]
    split
    · simp only [Gr.tot]; omega
    · simp only [Gr.tot]; omega
theorem names_shaped {zs : List Str} (h : ∀ z ∈ zs, NameOk z) : SeqAt.shaped (.list (zs.map .str)) = true := by
  have h1 : PyData.canLayAll0 (zs.map .str) = true := by
    induction zs with
    | nil => simp [PyData.canLayAll0]
    | cons z r ih =>
      rw [List.map_cons, PyData.canLayAll0, ih fun y hy => h y (List.mem_cons_of_mem _ hy)]
      simp [PyData.canLay0, Gr.strOk_name (h z (List.mem_cons_self ..))]
  have h2 : PyData.depthAll (zs.map .str) = 0 := by
    clear h1 h
    induction zs with
    | nil => simp [PyData.depthAll]
    | cons z r ih => rw [List.map_cons, PyData.depthAll, ih]; simp [PyData.depth]
  unfold SeqAt.shaped
  rw [PyData.canLay0, h1, Bool.true_and]
  exact decide_eq_true (by simp only [PyData.depth, h2]; omega)
theorem Dp_strs {K : PySem.W.Frag} {H : Hp} : ∀ zs : List Str, DpAll K H (zs.map V.str) (zs.map .str)
  | [] => .nil
  | z :: r => .cons (.str z) (Dp_strs r)
theorem eqv_nil (zs : List Str) : PyData.eqv (.list (zs.map .str)) (.list []) = decide (zs = []) := by
  cases zs with
  | nil => decide +kernel
  | cons z r => simp [PyData.eqv, PyData.eqvAll]
theorem erase_map {α β : Type} (f : α → β) : ∀ (l : List α) (i : Nat), (l.map f).eraseIdx i = (l.eraseIdx i).map f
  | [], _ => rfl
  | _ :: _, 0 => rfl
  | x :: r, i + 1 => by rw [List.map_cons, List.eraseIdx_cons_succ, List.eraseIdx_cons_succ, List.map_cons, erase_map f r i]
theorem idx_perm {α : Type} : ∀ {l : List α} {u : Nat} {x : α}, l[u]? = some x → (x :: l.eraseIdx u).Perm l
  | [], _, _, h => by simp at h
  | y :: r, 0, x, h => by
    have h : y = x := by simpa using h
    subst h; exact List.Perm.refl _
  | y :: r, u + 1, x, h => by
    have h : r[u]? = some x := by simpa using h
    rw [List.eraseIdx_cons_succ]
    exact (List.Perm.swap y x _).trans (List.Perm.cons y (idx_perm h))
/-- the first place of one that is in a list -/
theorem first_at {α : Type} [DecidableEq α] {x : α} : ∀ {l : List α}, x ∈ l → ∃ j : Nat, l[j]? = some x ∧ ∀ m z, m < j → l[m]? = some z → z ≠ x
  | [], h => by cases h
  | y :: r, h => by
    by_cases e : y = x
    · exact ⟨0, by simp [e], fun m z hm => by omega⟩
    · obtain ⟨j, h1, h2⟩ := first_at (l := r) (by rcases List.mem_cons.mp h with h | h; exact absurd h.symm e; exact h)
      refine ⟨j + 1, by simpa using h1, fun m z hm hz => ?_⟩
      cases m with
      | zero => simp at hz; subst hz; exact e
      | succ m => exact h2 m z (by omega) (by simpa using hz)
end FT
namespace FT
open PySem PySem.W PySem.Spec PyProof.Rows L2
section
variable {J : It} {n : Nat} {G : Hp → Prop} {Y : Nat → Hp → V → Hp → Prop}
theorem lc_seqQ (w : Walk J n G Y) (ps : List Addr) {g : TG} {tt : TT} {te : TE} {vs : List Nat} {σ : L2.St} {H : Hp} {D : Addr} {Qd : Hp → Prop} (hD : H D = none) (hps : ∀ q ∈ ps, H q ≠ none) (hn : n < sizeLine) (R : Nat → List V → Hp → Prop) (h0 : R 0 [] H) (hG : ∀ H2, SB ps H H2 → G H2)
    (st : ∀ i us H2 H3, SB [D] H2 H3 → R i us H2 → R i us H3)
    (turn : ∀ (Pv : Hp → Prop) i x H2 H' us, i < n → SB ps H H2 → Y i H2 x H' → R i us H2 → us.length ≤ i → H2 D = some (.lst us) → (∀ y H5, SB ps H2 H5 → R (i + 1) (us ++ [y]) H5 → ∃ acc, H5 D = some (.lst acc) ∧ acc.length < sizeLine ∧ Pv (upd H5 D (.lst (acc ++ [y])))) →
      (∀ H4, SB ps H2 H4 → R (i + 1) us H4 → Pv H4) → g x (wipe σ vs) H' fun σ2 H3 => wipe σ2 vs = wipe σ vs ∧ tt σ2 H3 fun b H4 =>
        if b = true then te σ2 H4 fun y H5 => ∃ acc, H5 D = some (.lst acc) ∧ acc.length < sizeLine ∧ Pv (upd H5 D (.lst (acc ++ [y]))) else Pv H4)
    (done : ∀ us H2, SB ps H H2 → H2 D = some (.lst us) → R n us H2 → us.length ≤ n → Qd H2) :
    ∃ W : Nat → Nat → Hp → Prop, (∃ m, W 0 m (upd H D (.lst []))) ∧ ∀ i m H, W i m H →
      (J.stop i H ∧ Qd H) ∨ (J.go i H ∧ ∃ Nx : Hp → Prop, (∀ H', Nx H' → ∃ m', m' < m ∧ W (i + 1) m' H') ∧ ∀ x H', J.yld i H x H' → g x (wipe σ vs) H' fun σ2 H2 => wipe σ2 vs = wipe σ vs ∧ tt σ2 H2 fun b H3 =>
        if b = true then te σ2 H3 fun y H4 => ∃ acc, H4 D = some (.lst acc) ∧ acc.length < sizeLine ∧ Nx (upd H4 D (.lst (acc ++ [y]))) else Nx H3) := by
  have nD : D ∉ ps := fun z => hps D z hD
  have up : ∀ {H1 H2 : Hp}, SB ps H1 H2 → SB (D :: ps) H1 H2 := fun e => e.mono fun b hb => List.mem_cons_of_mem _ hb
  have up1 : ∀ {H1 H2 : Hp}, SB [D] H1 H2 → SB (D :: ps) H1 H2 := fun e => e.mono fun b hb => by rw [List.mem_singleton.mp hb]; exact List.mem_cons_self ..
  refine lc_it w (fun i H2 => SB (D :: ps) H H2 ∧ ∃ us, H2 D = some (.lst us) ∧ R i us H2 ∧ us.length ≤ i) ⟨SB.new hD _, [], upd_same, st _ _ _ _ (SB.new hD _) h0, Nat.le_refl _⟩ (fun i H2 _ h => hG H2 (h.1.drop hD)) (fun i x H2 H' hi h y => ?_) (fun H2 h => ?_)
  · obtain ⟨s2, us, hD2, hR, hl⟩ := h
    refine turn _ i x H2 H' us hi (s2.drop hD) y hR hl hD2 (fun y H5 s5 r5 => ?_) (fun H4 s4 r4 => ⟨s2.trans (up s4), us, s4.keep _ _ hD2 nD, r4, by omega⟩)
    have hD5 := s5.keep _ _ hD2 nD
    refine ⟨us, hD5, by omega, (s2.trans (up s5)).trans (SB.set hD5 (by simp) _), _, upd_same, st _ _ _ _ (SB.set hD5 (by simp) _) r5, ?_⟩
    rw [List.length_append, List.length_singleton]; omega
  · obtain ⟨s2, us, hD2, hR, hl⟩ := h
    exact done us H2 (s2.drop hD) hD2 hR hl
end
def Kd.dat (k : Kd) : PyData := .tuple [.str k.n, .bool k.w, .list (k.rs.map Ru.enc)]
section
variable {K : PySem.W.Frag} {H H' : Hp}
theorem Bears_dp {α : Type} {enc : α → PyData} : ∀ {vs : List V} {xs : List α}, Bears K H enc vs xs → DpAll K H vs (xs.map enc)
  | _, _, .nil => .nil
  | _, _, .cons h t => .cons h (Bears_dp t)
theorem KdAll.dp {bad : List Addr} : ∀ {vs : List V} {b : Bk}, KdAll K H bad vs b → DpAll K H vs (b.map Kd.dat)
  | _, _, .nil => .nil
  | _, _, .cons ⟨t, l, zs, e, h1, h2, h3, _⟩ r => by
    subst e
    exact .cons (.tup h1 (.cons (.str _) (.cons (.bl _) (.cons (.lst (SqL.of h2) (Bears_dp h3)) .nil)))) (KdAll.dp r)
theorem KdAll.bad {bad : List Addr} (hb : ∀ p ∈ bad, H p = none) : ∀ {vs : List V} {b : Bk}, KdAll K H [] vs b → KdAll K H bad vs b
  | _, _, .nil => .nil
  | _, _, .cons ⟨t, l, zs, e, h1, h2, h3, _⟩ r => .cons ⟨t, l, zs, e, h1, h2, h3, fun z => by rw [hb l z] at h2; cases h2⟩ (KdAll.bad hb r)
end
theorem plS_enc {C : Int} {g : Gr} (h : g.Ok C) : plS g.enc = true := by show plS (.tuple g.encs) = true; rw [plS]; exact Gr.plSs_encs h
theorem plS_ru {r : Ru} (h : RuOk r) : plS (Ru.enc r) = true := by
  show plS (.tuple [r.1.enc, r.2.enc]) = true
  rw [plS, plSs, plSs, plSs, plS_enc h.1, plS_enc h.2.1]; rfl
theorem plSs_of : ∀ {ds : List PyData}, (∀ d ∈ ds, plS d = true) → plSs ds = true
  | [], _ => rfl
  | d :: ds, h => by rw [plSs, h d (List.mem_cons_self ..), plSs_of fun x hx => h x (List.mem_cons_of_mem _ hx)]; rfl
theorem plSs_rus {rs : List Ru} (h : ∀ r ∈ rs, RuOk r) : plSs (rs.map Ru.enc) = true := plSs_of fun d hd => by
  obtain ⟨r, hr, rfl⟩ := List.mem_map.mp hd
  exact plS_ru (h r hr)
theorem depths_le {n : Nat} : ∀ {ds : List PyData}, (∀ d ∈ ds, d.depth ≤ n) → PyData.depthAll ds ≤ n
  | [], _ => by simp [PyData.depthAll]
  | d :: ds, h => by
    have h1 := h d (List.mem_cons_self ..)
    have h2 := depths_le fun x hx => h x (List.mem_cons_of_mem _ hx)
    rw [PyData.depthAll]; omega
theorem ru_depth {r : Ru} (h : RuOk r) : (Ru.enc r).depth ≤ 20 := by
  obtain ⟨h1, h2, h3⟩ := h
  have d1 := within_deep r.1
  have d2 := within_deep r.2
  have e1 := r.1.encs_depth
  have e2 := r.2.encs_depth
  show PyData.depth (.tuple [.tuple r.1.encs, .tuple r.2.encs]) ≤ 20
  simp only [PyData.depth, PyData.depthAll]; omega
mutual
theorem alike_pl : ∀ d : PyData, plS d = true → alike d d = true
  | .int _, _ => by simp [alike]
  | .str _, _ => by simp [alike]
  | .tuple ds, h => by rw [alike]; exact alikes_pl ds (by rw [plS] at h; exact h)
  | .none, h => by simp [plS] at h
  | .bool _, h => by simp [plS] at h
  | .list _, h => by simp [plS] at h
  | .dict _, h => by simp [plS] at h
theorem alikes_pl : ∀ ds : List PyData, plSs ds = true → alikeAll ds ds = true
  | [], _ => by simp [alikeAll]
  | d :: ds, h => by
    rw [plSs, Bool.and_eq_true] at h
    rw [alikeAll, alike_pl d h.1, alikes_pl ds h.2]; rfl
end
end FT
namespace FT
open PySem PySem.W PySem.Spec PyProof.Rows L2
open TL (tl)
def Ru.text (r : Ru) : List Nat := [32, 62, 32] ++ (r.1.text ++ ([32, 47, 32] ++ r.2.text))
def Kd.mark (k : Kd) : List Nat := if k.w = true then [32, 42] else []
def Kd.text (k : Kd) : List Nat := tl k.n ++ (k.mark ++ (k.rs.map Ru.text).flatten)
def Bk.text (b : Bk) : List Nat := TL.joinL [59, 32] (b.map Kd.text)
theorem app_len (a b : Str) : (a ++ b).length = a.length + b.length := by rw [TL.len_tl, TL.tl_append, List.length_append, ← TL.len_tl, ← TL.len_tl]
theorem nameI {i : Nat} {v : V} {σ : L2.St} {H : Hp} {f : L2.St → Hp → Prop} {r : VK} {b c : L2.St → Hp → Prop} (h : f (σ.set i (some v)) H) : gName i v σ H (Ends.mk f r b c).nx := h
theorem RuOk.swap {r : Ru} (h : RuOk r) : RuOk r.swap := ⟨h.2.1, h.1, by have := h.2.2; show r.2.parts + r.1.parts ≤ 4; omega⟩
abbrev rListOf (K : PySem.W.Frag) : List V → Hp → VK → Prop := fun xs H Q => ∃ p ys, xs = [.ref p] ∧ (SqL K H p ys ∨ SqT K H p ys) ∧ ∀ l, H l = none → Q (.ref l) (upd H l (.lst ys))
theorem Bk.Ok.two {b : Bk} (ok : b.Ok) : ∀ k ∈ b, k.rs.length ≤ 4 ∧ ∀ r ∈ k.rs, RuOk r := fun k hk => ⟨(ok.kd k hk).2.1, fun r hr => ((ok.kd k hk).2.2 r hr).1⟩
theorem Bk.Ok.three {b : Bk} (ok : b.Ok) : ∀ k ∈ b, NameOk k.n ∧ ∀ r ∈ k.rs, RuOk r := fun k hk => ⟨(ok.kd k hk).1, (ok.two k hk).2⟩
theorem make_core {K : PySem.W.Frag} {C B : Addr} {b : Bk} {H : Hp} {l : Addr} {xs : List V} {bad : List Addr} {Q : VK} {E : XK} (hl : H l = some (.lst xs)) (ha : KdAll K H bad xs b) (ok : b.Ok) (k : ∀ y H', SB [] H H' → H y = none → BkA K C H' (.ref y) b → Q (.ref y) H') :
    ∀ y dx, H y = none → H dx = none → dx ≠ y → spBInit K C B (.ref y :: [.ref l]) (upd (upd H dx (.own y)) y (.ins C dx [])) (fun v H2 => v = .non ∧ Q (.ref y) H2) E := by
  intro y dx hy hdx hne
  have b8 := ok.len
  have hy' : upd H dx (.own y) y = none := by rw [upd_ne (fun z => hne z.symm)]; exact hy
  have t4 := (SB.new (ps := []) hdx (.own y)).trans (SB.new hy' (.ins C dx []))
  have hdx4 : upd (upd H dx (.own y)) y (.ins C dx []) dx = some (.own y) := by rw [upd_ne hne, upd_same]
  have hx4 : upd (upd H dx (.own y)) y (.ins C dx []) y = some (.ins C dx []) := upd_same
  refine ⟨y, dx, l, xs, b.map Kd.kt, rfl, hx4, hdx4, t4.keep _ _ hl List.not_mem_nil, (ha.sb t4 NoLst.nil).kt ok.three, fun t ht => ?_, by rw [List.length_map]; omega, fun b' e ok' H5 s5 hbk => ?_, fun z => absurd ⟨b, rfl, ok⟩ z⟩
  · obtain ⟨k, hk, rfl⟩ := List.mem_map.mp ht
    exact KTFit_of (ok.two k hk)
  · have e := kts_inj e
    subst e
    exact ⟨rfl, k y H5 (((t4.nil (ps := [y])).trans s5).drop hy) hy hbk⟩
end FT
namespace FT
open PySem PySem.W PySem.Spec PyProof.Rows L2
open TL (tl)
def Ru.tail (r : Ru) : List Nat := r.1.text ++ ([32, 47, 32] ++ r.2.text)
def Kd.head (k : Kd) : List Nat := tl k.n ++ k.mark
theorem str_ext {x y : Str} (h : tl x = tl y) : x = y := by
  have hc : x.cps = y.cps := Array.toList_inj.mp h
  cases x; cases y; cases hc; rfl
theorem Shows.inj {z : Str} {g k : Gr} (h : Shows z g) (h' : Shows z k) : k = g := by
  by_cases e : g = .nil
  · subst e
    exact text_dash h'.ok (by rw [← h'.tx, h.tx]; rfl)
  · by_cases e' : k = .nil
    · subst e'
      exact absurd (text_dash h.ok (by rw [← h.tx, h'.tx]; rfl)) e
    · have a := h.read e
      have b := h'.read e'
      rw [a] at b
      injection b with b
      injection b with b _
      rw [← Gr.ofPs_ps k, ← Gr.ofPs_ps g, b]
structure InsC (K : PySem.W.Frag) (mg : Str → Option Value) (n : Str) (C : Addr) : Prop where
  c : Cls K C
  ha : PySem.W.findIn K (.ref C) "__class__" = some (some (.builtin "object.__class__"))
  hn : PySem.W.specialIn K (.builtin "object.__class__") "__get__" = some (some (.builtin "getset_descriptor.__get__"))
  htk : PySem.W.takesIn K (.builtin "object.__class__") = some true
  hm : PySem.W.mroIn K C (.type "object") = some true
  g : mg n = some (.ref C)
theorem InsC.ty {K : PySem.W.Frag} {mg : Str → Option Value} {n : Str} {C a dx : Addr} {H : Hp} {fs : List (Str × V)} (i : InsC K mg n C) (h : H a = some (.ins C dx fs)) : TyX K H (.ref a) (.ref C) := .base (.ins h i.c i.ha i.hn i.htk i.hm)
end FT
namespace FT
open PySem PySem.W PySem.Spec PyProof.Rows L2
open PySem.Froz (SD sObj TxOk addTx tailTx)
/-- the payload D holds the texts l, each once, and its table rises -/
structure TxS (P : Program) (w : World) (D : SD) (l : List Str) : Prop where
  ok : TxOk P w D l
  nd : l.Nodup
  ris : Ris D.2.2.place.toList
  led : w.params.followText "set-order" = true ∨ D.2.2.led = true
/-- the texts, one more -/
def insS (k : Str) (l : List Str) : List Str := if k ∈ l then l else k :: l
section
variable {P : Program} {w : World} {A : Around} {E : Value → Shared → Prop} {s : Shared} {D : SD} {l : List Str} {k : Str} {u : Tok} {a : Addr} {T : String}
theorem tail_walk {es : Array (Int × Value)} {ep : Nat} {t : SetTable} {b : Bool} (r : Ris t.place.toList) (d : w.params.followText "set-order" = true ∨ t.led = true) :
    Ris (tailTx ep es t b).2.2.place.toList ∧ (w.params.followText "set-order" = true ∨ (tailTx ep es t b).2.2.led = true) := by
  unfold tailTx
  split
  · exact ⟨relayAll_ris .., d.imp id fun z => by rw [relayAll_led]; exact z⟩
  · exact ⟨r, d⟩
theorem TxS.add (F : TxS P w D l) (hk : k ∉ l) : TxS P w (addTx (hashStr w k) (.str k u) D) (k :: l) := by
  obtain ⟨es, ep, t⟩ := D
  have r1 := layNew_ris t es (hashStr w k) (.str k u) F.ris
  have d1 := F.led.imp id fun z => (layNew_led t es (hashStr w k) (.str k u)).trans z
  have key : ∀ t' : SetTable, t'.place = (layNew t es (hashStr w k) (.str k u)).2.1.place → t'.led = (layNew t es (hashStr w k) (.str k u)).2.1.led → ∀ es' b, Ris (tailTx ep es' t' b).2.2.place.toList ∧ (w.params.followText "set-order" = true ∨ (tailTx ep es' t' b).2.2.led = true) :=
    fun t' e1 e2 es' b => tail_walk (by rw [e1]; exact r1) (by rw [e2]; exact d1)
  have z := key (if (layNew t es (hashStr w k) (.str k u)).2.1.plain = true then { (layNew t es (hashStr w k) (.str k u)).2.1 with plain := false } else (layNew t es (hashStr w k) (.str k u)).2.1) (by split <;> rfl) (by split <;> rfl) (layNew t es (hashStr w k) (.str k u)).1 (layNew t es (hashStr w k) (.str k u)).2.2.1
  exact ⟨PySem.Froz.add_ok u F.ok, List.nodup_cons.mpr ⟨hk, F.nd⟩, z.1, z.2⟩
/-- a text that is there -/
theorem add_there {Q : Bool → Shared → Prop} (ho : s.heap.get? a = some (sObj T D)) (F : TxOk P w D l) (hk : k ∈ l) (hb : l.length < scanBound) (h : Q false s) : wpAny (model P w) A (setAddHashed a (.str k u) (hashStr w k)) Q E s := by
  obtain ⟨es, ep, t⟩ := D
  have hd : (sObj T (es, ep, t)).data = .set es ep t := rfl
  have hel : ElemsOf (strKind P w) es.toList := F.el
  have hsz : es.size = l.length := F.sz
  have is0 : (strKind P w).is k (.str k u) = true := PySem.Froz.is_str k u
  obtain ⟨j, hj⟩ : ∃ j, List.findIdx? (fun e => (strKind P w).is k e.2) es.toList = some j := by
    cases e : List.findIdx? (fun e => (strKind P w).is k e.2) es.toList with
    | some j => exact ⟨j, rfl⟩
    | none =>
      obtain ⟨x, hx, hi⟩ := (F.mem k).mp hk
      have := List.findIdx?_eq_none_iff.mp e x hx
      rw [hi] at this
      cases this
  unfold setAddHashed setAddHashedIn
  refine wpAny_holding (wpAny_bind (wpAny_setState_of ho hd F.fit ?_))
  dsimp only
  rw [byScan_of rfl (by rw [hsz]; exact hb) hel]
  simp only [↓reduceIte]
  unfold setAddByScan
  refine wpAny_bind (wpAny_bind (wpAny_rule (wpAny_bind (wpAny_setScan_of (knd := strKind P w) (k := k) is0 ho hd F.fit hel ?_))))
  rw [hj]
  exact wpAny_pure (wpAny_pure h)
theorem add_any {Q : Bool → Shared → Prop} (ho : s.heap.get? a = some (sObj T D)) (F : TxS P w D l) (hb : l.length + 1 < scanBound)
    (h : ∀ (b : Bool) (h' : Heap) (D' : SD), Heap.SameBut a s.heap h' → h'.get? a = some (sObj T D') → TxS P w D' (insS k l) → Q b { s with heap := h' }) : wpAny (model P w) A (setAddHashed a (.str k u) (hashStr w k)) Q E s := by
  by_cases hk : k ∈ l
  · refine add_there ho F.ok hk (by omega) (h false s.heap D (Heap.SameBut.refl a s.heap) ho ?_)
    unfold insS
    rw [if_pos hk]
    exact F
  · refine PySem.Froz.add_x ho F.ok hk hb (h true _ _ (Heap.SameBut.update ..) (PySem.Froz.get_upd _ ho rfl) ?_)
    unfold insS
    rw [if_neg hk]
    exact F.add hk
end
section
variable {P : Program} {w : World} {A : Around} {E : Value → Shared → Prop} {s : Shared} {D : SD} {l : List Str} {k : Str} {u : Tok} {a : Addr}
theorem call_add {Q : Value → Shared → Prop} (ho : s.heap.get? a = some (sObj "set" D)) (F : TxS P w D l) (hb : l.length + 1 < scanBound)
    (h : ∀ (h' : Heap) (D' : SD), Heap.SameBut a s.heap h' → h'.get? a = some (sObj "set" D') → TxS P w D' (insS k l) → Q .none { s with heap := h', toks := s.toks + 1 }) : wpAny (model P w) A (call (.builtin "set.add") [.ref a, .str k u]) Q E s := by
  refine wpAny_call_entry PySem.F.slot_set_add ⟨_, ho, rfl⟩ PySem.F.entry_set_add ?_ (PySem.F.args_set_add_2 _ _)
  unfold Builtin.«set.add» Builtin.Frozenset.oneOther
  simp only [List.isEmpty_nil, bind_assoc]
  unfold Builtin.Frozenset.addrOf setAdd
  refine wpAny_bind (wpAny_pure ?_)
  try dsimp only
  refine wpAny_bind (wpAny_pure ?_)
  try dsimp only
  refine wpAny_bind (wpAny_holding (wpAny_bind ((strKind P w).pyHash (k := k) (PySem.Froz.is_str k u) ?_)))
  refine add_any (s := { s with toks := s.toks + 1 }) ho F hb fun b h' D' sb o' F' => ?_
  refine (?_ : wpAny (model P w) _ (ret Value.none) _ E _)
  exact wpAny_pure ⟨_, rfl, h h' D' sb o' F'⟩
end
def SetSO (P : Program) (w : World) (a : Addr) (l : List Str) : HO := .ext fun h => ∃ D : SD, h.get? a = some (sObj "set" D) ∧ TxS P w D l
theorem setSO_new {P : Program} {w : World} {H : Hp} {h : Heap} {a : Addr} {l : List Str} {D : SD} (ho : h.get? a = some (sObj "set" D)) (F : TxS P w D l) : ObjOk P w H h a (SetSO P w a l) :=
  ⟨⟨D, ho, F⟩, ⟨_, ho⟩, fun h1 h2 ⟨D', q, F'⟩ k => ⟨D', k _ q, F'⟩⟩
section
variable {X : Cx} {pins : List (Addr × Obj)} {σ : L2.St} {H : Hp} {s : Shared} {l : List Str}
theorem setSO_get {a : Addr} (I : Inv X pins σ H s) (ha : H a = some (SetSO X.prog X.w a l)) : ∃ D : SD, s.heap.get? a = some (sObj "set" D) ∧ TxS X.prog X.w D l := (I.hok a _ ha).1
theorem addS_ok {E : Value → Shared → Prop} {a : Addr} {k : Str} {u : Tok} {Q : Value → Shared → Prop} (I : Inv X pins σ H s) (ha : H a = some (SetSO X.prog X.w a l)) (room : l.length + 1 < scanBound)
    (h : ∀ s', Inv X pins σ (upd H a (SetSO X.prog X.w a (insS k l))) s' → Q .none s') : wpAny (model X.prog X.w) X.A (call (.builtin "set.add") [.ref a, .str k u]) Q E s := by
  obtain ⟨D, ho, F⟩ := setSO_get I ha
  refine call_add ho F room fun h' D' sb o' F' => ?_
  exact h _ (I.write (e := a) (t' := s.toks + 1) (by rw [ha]; trivial) (.inl rfl) (fun b o hb hu => (sb.2 b hb).trans hu) ⟨_, o'⟩ (setSO_new o' F'))
end
theorem fresh_txs (P : Program) (w : World) : TxS P w (#[], 0, .fresh 0 0 (!w.params.followText "set-order")) [] := by
  refine ⟨PySem.Froz.TxOk.nil rfl, List.nodup_nil, List.Pairwise.nil, ?_⟩
  show _ ∨ (!w.params.followText "set-order") = true
  cases w.params.followText "set-order"
  · exact .inr rfl
  · exact .inl rfl
theorem is_shape {P : Program} {w : World} {k : Str} {v : Value} (h : (strKind P w).is k v = true) : ∃ tk, v = Value.str k tk := by
  have h : Value.isStrOf k v = true := h
  cases v <;> simp [Value.isStrOf] at h
  exact ⟨_, by rw [h]⟩
theorem strs_of : ∀ (l : List Value), (∀ v ∈ l, ∃ k tk, v = Value.str k tk) → ∃ ss : List Str, StrsAre l ss ∧ ∀ k, k ∈ ss ↔ ∃ v ∈ l, ∃ tk, v = Value.str k tk
  | [], _ => ⟨[], .nil, fun k => by simp⟩
  | v :: r, h => by
    obtain ⟨k, tk, rfl⟩ := h v (List.mem_cons_self ..)
    obtain ⟨ss, h1, h2⟩ := strs_of r fun x hx => h x (List.mem_cons_of_mem _ hx)
    refine ⟨k :: ss, .cons k tk h1, fun j => ?_⟩
    rw [List.mem_cons, h2 j]
    refine ⟨fun z => ?_, fun ⟨x, hx, t', e⟩ => ?_⟩
    · rcases z with rfl | ⟨x, hx, e⟩
      · exact ⟨_, List.mem_cons_self .., tk, rfl⟩
      · exact ⟨x, List.mem_cons_of_mem _ hx, e⟩
    · rcases List.mem_cons.mp hx with q | q
      · rw [q] at e; cases e; exact .inl rfl
      · exact .inr ⟨x, q, t', e⟩
/-- lists with the same members, one without doubles and no longer -/
theorem perm_of {α : Type} : ∀ {a b : List α}, b.Nodup → a.length = b.length → (∀ k, k ∈ b → k ∈ a) → a.Perm b
  | a, [], _, hl, _ => by
    have : a = [] := List.eq_nil_of_length_eq_zero hl
    rw [this]
  | a, x :: b, nd, hl, hm => by
    obtain ⟨p, q, e⟩ := List.append_of_mem (hm x (List.mem_cons_self ..))
    subst e
    obtain ⟨n1, n2⟩ := List.nodup_cons.mp nd
    have ih := perm_of (a := p ++ q) (b := b) n2 (by simp at hl ⊢; omega) fun k hk => by
      have hx : k ≠ x := fun z => n1 (z ▸ hk)
      have := hm k (List.mem_cons_of_mem _ hk)
      simp only [List.mem_append, List.mem_cons] at this ⊢
      rcases this with z | z | z
      · exact .inl z
      · exact absurd z hx
      · exact .inr z
    exact List.perm_middle.trans (ih.cons x)
section
variable {P : Program} {w : World} {A : Around} {E : Value → Shared → Prop} {s : Shared} {D : SD} {l : List Str} {a : Addr}
theorem sorted_txt {Q : Value → Shared → Prop} (hh : A.handled = none) (ho : s.heap.get? a = some (sObj "set" D)) (F : TxS P w D l) (h64 : l.length < 64)
    (h : ∀ (s' : Shared) (p : Addr) (out : Array Value) (c : Nat) (ss : List Str), (∀ b o, s.heap.get? b = some o → s'.heap.get? b = some o) → s'.gens = s.gens → s'.os = s.os → s.heap.objs.size ≤ p → s'.heap.get? p = some (seqObj "list" out c) → StrsAre out.toList ss → ss.Perm l → sortedS ss = true → Q (.ref p) s') :
    wpAny (model P w) A (call (.builtin "sorted") [.ref a]) Q E s := by
  obtain ⟨es, ep, t⟩ := D
  have hsz : es.size = l.length := F.ok.sz
  have hsc : es.size < scanBound := by rw [hsz]; unfold scanBound; omega
  refine Calls.call_function_entry kind_sorted plain_sorted entry_sorted (args_sorted1 _) ?_
  unfold Builtin.«sorted»
  refine wpAny_bind (m := checkCount "sorted" 1 1 _) (wpAny_pure ?_)
  refine wpAny_bind (collect_set (A := A.in1) hh ⟨_, ho, rfl, rfl⟩ F.ok.fit hsc F.ris F.led fun s1 vs k1 z1 g1 o1 pm => ?_)
  have vl : vs.length = l.length := by rw [pm.length_eq, List.length_map, Array.length_toList, hsz]
  have shape : ∀ v ∈ vs, ∃ k tk, v = Value.str k tk := fun v hv => by
    obtain ⟨e, he, rfl⟩ := List.mem_map.mp (pm.mem_iff.mp hv)
    obtain ⟨⟨k, hk, _⟩, _⟩ := F.ok.el e he
    obtain ⟨tk, q⟩ := is_shape hk
    exact ⟨k, tk, q⟩
  obtain ⟨ss, hS, hmem⟩ := strs_of vs shape
  have hp : ss.Perm l := by
    refine perm_of F.nd (by rw [← hS.length]; exact vl) fun k hk => ?_
    obtain ⟨e, he, hi⟩ := (F.ok.mem k).mp hk
    obtain ⟨tk, q⟩ := is_shape hi
    exact (hmem k).mpr ⟨e.2, pm.mem_iff.mpr (List.mem_map_of_mem he), tk, q⟩
  refine wpAny_bind (wpAny_newList ?_ (by rw [vl, sizeLine_eq]; omega))
  have at1 : (s1.heap.push (seqObj "list" vs.toArray 0)).get? s1.heap.objs.size = some (seqObj "list" vs.toArray 0) := Heap.get?_push_size _ rfl
  refine wpAny_bind (wpAny_holding (wpAny_call_entry slot_list_sort ⟨_, at1, rfl⟩ entry_list_sort (list_sort_treeK strKind_oneLt at1 hS.keysOf (fun v1 v2 r e => keyKind_strs (by rw [← e]; exact hS)) (by rw [vl]; exact h64) fun st' p1 p2 => ⟨_, rfl, ?_⟩) (args_list_sort _)))
  obtain ⟨ss', q1, q2, q3⟩ := sorted_out_str hS p1 p2
  obtain ⟨c, hc⟩ := sortedHeap_at (vs := vs) (out := (arrOf st').map (·.2)) at1
  refine wpAny_pure ⟨_, rfl, h _ s1.heap.objs.size _ c ss' (fun b o e => ?_) g1 o1 z1 hc q1 (q2.trans hp) q3⟩
  have e1 := k1 b o e
  have lt := Heap.lt_size e1
  show (sortedHeap (s1.heap.push (seqObj "list" vs.toArray 0)) s1.heap.objs.size vs _).get? b = some o
  rw [sortedHeap_old (Nat.ne_of_lt lt) (by rw [size_push']; exact Nat.lt_succ_of_lt lt)]
  exact Heap.get?_push_of_some _ e1
end
section
variable {X : Cx}
def rSortedTx (P : Program) (w : World) : List V → Hp → VK → Prop := fun vs H Q => ∃ (a : Addr) (l : List Str), vs = [.ref a] ∧ H a = some (SetSO P w a l) ∧ l.length < 64 ∧ ∀ (ss : List Str) (p : Addr), ss.Perm l → sortedS ss = true → H p = none → Q (.ref p) (upd H p (.lst (ss.map V.str)))
theorem cr_sortedTx (hc : X.calm = true) : CallR X (.builtin "sorted") (rSortedTx X.prog X.w) := by
  intro pins s σ H vs us Q I r h
  obtain ⟨a, l, rfl, ha, h64, q⟩ := h
  obtain ⟨D, ho, F⟩ := setSO_get I ha
  rw [Vals.ref1 r]
  refine sorted_txt (I.ok.hd hc) ho F h64 fun s' p out c ss kp eg eo hp at' hS pm srt => ?_
  have hn : H p = none := I.hok.fresh hp
  have hz : (ss.map V.str).length ≤ sizeLine := by rw [List.length_map, pm.length_eq, sizeLine_eq]; omega
  obtain ⟨h', g', d', tk', os'⟩ := s'
  have eo : os' = s.os := eo
  subst eo
  exact ⟨.ref p, upd H p (.lst (ss.map V.str)), I.call (ch := []) (Un.laid kp hp hn) (I.hok.laid kp hp ⟨hz, out.toList, c, vals_of_strs hS, at'⟩) (by rw [show g' = s.gens from eg]; exact I.bare) (fun _ z => nomatch z), rfl, q ss p pm srt hn⟩
end
section
variable {X : Cx}
def tScS (P : Program) (w : World) (wi : TI) (g : TG) (tt : TT) (te : TE) (vs : List Nat) : TE := fun σ H Q => wi σ H fun J H1 => ∀ D, H1 D = none → ∃ W : Nat → Nat → Hp → Prop, (∃ m, W 0 m (upd H1 D (SetSO P w D []))) ∧ ∀ i m Hi, W i m Hi →
  (J.stop i Hi ∧ Q (.ref D) Hi) ∨ (J.go i Hi ∧ ∃ Nx : Hp → Prop, (∀ H', Nx H' → ∃ m', m' < m ∧ W (i + 1) m' H') ∧ ∀ x H', J.yld i Hi x H' → g x (wipe σ vs) H' fun σ2 H2 => wipe σ2 vs = wipe σ vs ∧ tt σ2 H2 fun b H3 =>
    if b = true then te σ2 H3 fun y H4 => ∃ (z : Str) (l : List Str), y = .str z ∧ H4 D = some (SetSO P w D l) ∧ l.length + 1 < scanBound ∧ Nx (upd H4 D (SetSO P w D (insS z l))) else Nx H3)
theorem pe_scS {elt tg iter : Expr} {ifs : List Expr} {scope : Scope} {own : List (PySem.Str × Nat)} {pos : Pos} {wi : TI} {g : TG} {tt : TT} {te : TE} (hc : X.calm = true) (hN : X.N.Nodup) (hi : PI X tg iter wi) (ok : BlkOk X.N X.env.scope scope own)
    (hg : ∀ (s1 : Shared) (H1 : Hp) (C : Addr) (cl : List (PySem.Str × Addr)) (fp : List Addr), L2.PG (X.blk s1 H1 scope (compEnvC scope cl C X.env) fp) tg g) (ht : ∀ (s1 : Shared) (H1 : Hp) (C : Addr) (cl : List (PySem.Str × Addr)) (fp : List Addr), L2.PTs (X.blk s1 H1 scope (compEnvC scope cl C X.env) fp) ifs tt)
    (he : ∀ (s1 : Shared) (H1 : Hp) (C : Addr) (cl : List (PySem.Str × Addr)) (fp : List Addr), L2.PE (X.blk s1 H1 scope (compEnvC scope cl C X.env) fp) elt te) (hs : ∀ x, foldedSetIterable iter X.env x = pure x := by intro _; rfl) :
    PE X (.SetComp elt [⟨tg, iter, ifs, 0⟩] scope pos) (tScS X.prog X.w wi g tt te (own.map (·.2))) := by
  refine ⟨fun pins s σ H Q I h => ?_⟩
  rw [PpSet.eval_SetComp]
  have clo : ∀ y ∈ scope.names, y.2 = .free → ∃ c, X.env.cells.lookup y.1 = some c := fun y hy e => (ok.free y hy e).elim (fun k => I.ok.has _ (.inl k)) fun k => I.ok.has _ (.inr k)
  refine wpAny_comprehension_free (use := none) rfl hs (closure_ok clo) ok.kind (fun y hy e => by rw [ok.uniq y hy, e]) (thn (hi.run pins s σ H _ I h) fun xv s1 hx => thn hx fun itv s2 got => ?_)
  obtain ⟨it, fp, tn, J, Ha, e0, Ia, Tn, sta, fpa, walk⟩ := got
  subst e0
  refine PpSet.newSet_ok (newEnv_comp ?_)
  -- the new set, at the heap's end
  generalize eD : s2.heap.objs.size = D
  have freeD : Ha D = none := Ia.hok.fresh (Nat.le_of_eq eD)
  obtain ⟨W, ⟨m0, w0⟩, turn⟩ := walk D freeD
  generalize eb : ({ s2 with heap := s2.heap.push { cls := .type "set", dict := none, data := .set #[] 0 (.fresh 0 0 (!X.w.params.followText "set-order")) } } : Shared) = sb
  have hpb : sb.heap = s2.heap.push { cls := .type "set", dict := none, data := .set #[] 0 (.fresh 0 0 (!X.w.params.followText "set-order")) } := by rw [← eb]
  have Ib : Inv X pins σ (upd Ha D (SetSO X.prog X.w D [])) sb := by
    rw [← eb]
    refine Ia.laid (t' := s2.toks) (fun b o e => Heap.get?_push_of_some _ e) (Nat.le_of_eq eD) ?_
    rw [← eD]
    exact setSO_new (Heap.get?_push_size _ rfl) (fresh_txs X.prog X.w)
  have low : ∀ b ∈ fp, b < s2.heap.objs.size := fun b hb => let ⟨o, e, _⟩ := Tn.obj _ _ sta b hb; Heap.lt_size e
  have fpb : ∀ b ∈ fp, FpOk X pins (upd Ha D (SetSO X.prog X.w D [])) b ∧ b < sb.heap.objs.size := fun b hb => by
    refine ⟨⟨?_, (fpa b hb).2⟩, by rw [hpb, Heap.size_push]; exact Nat.lt_succ_of_lt (low b hb)⟩
    rw [upd_ne (by rw [← eD]; exact Nat.ne_of_lt (low b hb))]
    exact (fpa b hb).1
  have stb : tn 0 sb.heap := Tn.keep _ _ _ sta fun b _ o e => by rw [hpb]; exact Heap.get?_push_of_some _ e
  have Ic := block_start Ib ok hN fpb
  generalize eHb : upd Ha D (SetSO X.prog X.w D []) = Hb at Ib Ic w0 fpb
  have pg := hg sb Hb sb.heap.objs.size (cellsFrom (sb.heap.objs.size + 1) scope.names (cloFrom X.env.cells scope.names [])) fp
  have pt := ht sb Hb sb.heap.objs.size (cellsFrom (sb.heap.objs.size + 1) scope.names (cloFrom X.env.cells scope.names [])) fp
  have pe := he sb Hb sb.heap.objs.size (cellsFrom (sb.heap.objs.size + 1) scope.names (cloFrom X.env.cells scope.names [])) fp
  show codeAny (model X.prog X.w) X.A (.compStart (.SetComp elt [⟨tg, iter, ifs, 0⟩] scope pos) 0 (.ref it) (.ref D) (compEnvC scope (cellsFrom (sb.heap.objs.size + 1) scope.names (cloFrom X.env.cells scope.names [])) sb.heap.objs.size X.env)) (compPost (model X.prog X.w) X.A X.xe none (EP X pins σ Q) (.ref D) sb.heap.objs.size) { sb with heap := pushCells (sb.heap.push { cls := .type "dict", data := .dict #[] }) scope.names }
  have noneF : ∀ b ∈ fp, Hb b = none := fun b hb => (fpb b hb).1.1
  generalize ece : compEnvC scope (cellsFrom (sb.heap.objs.size + 1) scope.names (cloFrom X.env.cells scope.names [])) sb.heap.objs.size X.env = ce at Ic pg pt pe ⊢
  have ecl : ce.locals = sb.heap.objs.size := by subst ece; rfl
  generalize esc : ({ sb with heap := pushCells (sb.heap.push { cls := .type "dict", data := .dict #[] }) scope.names } : Shared) = sc at Ic ⊢
  have stc : tn 0 sc.heap := Tn.keep _ _ _ stb fun b _ o e => by rw [← esc]; exact pushCells_keeps _ _ _ _ (Heap.get?_push_of_some _ e)
  -- the block's context
  let XB : Cx := X.blk sb Hb scope ce fp
  have still : ∀ {τ : L2.St} {G : Hp} {t : Shared}, Inv XB [] τ G t → (∀ b ∈ fp, G b = none) → ∀ b ∈ fp, FpOk XB [] G b := fun {τ G t} I' hn b hb =>
    ⟨hn b hb, (I'.ok.exf b hb).1, I'.ok.exfs b hb, .inl hb, fun x c e => (I'.ok.exf b hb).2 x c e, fun p hp => absurd (show p ∈ ([] : List (Addr × Obj)) ++ [] from hp) (by simp)⟩
  have loop : codeAny (model X.prog X.w) X.A (.compLoop (.SetComp elt [⟨tg, iter, ifs, 0⟩] scope pos) 0 (.ref it) (.ref D) ce) (compPost (model X.prog X.w) X.A X.xe none (EP X pins σ Q) (.ref D) sb.heap.objs.size) sc := by
    refine PpSet.compLoopS_any (fun n t => ∃ i G, Inv XB [] (wipe σ (own.map (·.2))) G t ∧ tn i t.heap ∧ (∀ b ∈ fp, G b = none) ∧ W i n G) ?_ m0 ⟨0, Hb, Ic, stc, noneF, w0⟩
    rintro n t ⟨i, G, It, stt, nt, wt⟩
    rcases turn i n G wt with ⟨ends, qq⟩ | ⟨goes, Nx, hNx, step⟩
    · refine thnF (Tn.done XB rfl rfl rfl hc i [] t _ G (fun _ _ => False) It (still It nt) stt ends) fun r t6 ⟨er, I6⟩ => ?_
      subst er
      have I7 : Inv X pins σ G t6 := Ib.call' (ch := fp) I6.os I6.base I6.hok I6.bare fun b hb => ⟨(fpb b hb).1.2.2.2.1, (fpb b hb).1.2.1, (fpb b hb).1.2.2.2.2.1, (fpb b hb).1.2.2.2.2.2⟩
      have nC : G sb.heap.objs.size = none := ecl ▸ (show G ce.locals = none from I6.free)
      obtain ⟨m, hn, _⟩ := I6.loc
      have hn : t6.heap.Ns sb.heap.objs.size m := ecl ▸ (show t6.heap.Ns ce.locals m from hn)
      obtain ⟨f0, f1, f2, f3, f4, f5⟩ := Ib.fpOk (Nat.le_refl _) nC
      exact ⟨m, hn, fun h'' same => ⟨.ref D, G, I7.turned (t' := t6.toks) (fun b o hb e => (same.2 b hb).trans e) f0 f1 f3 f4 f5, rfl, qq⟩⟩
    · refine thnF (Tn.item XB rfl rfl rfl hc i [] t _ G (fun _ _ => False) It (still It nt) stt goes) fun r t6 ⟨u, er, h6⟩ => ?_
      subst er
      refine thnF h6 fun _ t7 ⟨x, G7, I7, r7, y7, st7, n7⟩ => ?_
      have P7 := I7.pinned (still I7 n7) (Tn.obj _ _ st7)
      refine thnF (pg.run _ t7 _ G7 x u _ P7 r7 (step x G7 y7)) fun _ t8 ⟨τ, G8, I8, hw, q8⟩ => ?_
      refine thnF (pt.run _ t8 τ G8 _ I8 q8) fun b t9 ⟨G9, I9, q9⟩ => ?_
      have back : ∀ {t' : Shared} {G' : Hp}, Inv XB ([] ++ pinsAt fp t7.heap) τ G' t' → Nx G' → ∃ m, m < n ∧ ∃ i G, Inv XB [] (wipe σ (own.map (·.2))) G t' ∧ tn i t'.heap ∧ (∀ b ∈ fp, G b = none) ∧ W i m G := fun {t' G'} I' nx => by
        obtain ⟨m', hm, w'⟩ := hNx G' nx
        have keep : ∀ b ∈ fp, ∀ o, t7.heap.get? b = some o → t'.heap.get? b = some o ∧ G' b = none := fun b hb o e =>
          have z := I'.pin (b, o) (List.mem_append_right _ (List.mem_append_right _ (mem_pinsAt hb e)))
          ⟨z.1, z.2.1⟩
        refine ⟨m', hm, i + 1, G', (I'.unpinned (pins := [])).weak (by rw [← hw, wipe_length]) (fun j v e => (wipe_some (hw ▸ e)).1), Tn.keep _ _ _ st7 fun b hb o e => (keep b hb o e).1, fun b hb => ?_, w'⟩
        obtain ⟨o, e, _⟩ := Tn.obj _ _ st7 b hb
        exact (keep b hb o e).2
      cases b with
      | false => exact back I9 q9
      | true =>
        refine thnF (pe.run _ t9 τ G9 _ I9 q9) fun z t10 ⟨yv, G10, I10, r10, zz, l0, ey, hD10, room, nx⟩ => ?_
        subst ey
        obtain ⟨tk, rfl⟩ := r10
        exact addS_ok (X := XB) I10 hD10 room fun t11 I11 => back I11 nx
  exact PpSet.codeAny_compStart_set loop (Tn.self X.A 0 _ _ _ stc loop)
end
end FT
namespace FT
open PySem PySem.W PySem.Spec PyProof.Rows L2
open PySem.Froz (SD sObj TxOk addTx tailTx)
theorem insS_mem {k x : Str} {l : List Str} : k ∈ insS x l ↔ k = x ∨ k ∈ l := by
  unfold insS
  split
  · rename_i h
    exact ⟨.inr, fun z => z.elim (fun e => e ▸ h) id⟩
  · exact List.mem_cons
theorem insS_len (x : Str) (l : List Str) : (insS x l).length ≤ l.length + 1 := by
  unfold insS
  split
  · omega
  · simp
def TxAt (P : Program) (w : World) (h : Heap) (a : Addr) (l : List Str) : Prop := ∃ D : SD, h.get? a = some (sObj "set" D) ∧ TxS P w D l
theorem TxAt.keep {P : Program} {w : World} {h h' : Heap} {a : Addr} {l : List Str} (S : TxAt P w h a l) (k : ∀ o, h.get? a = some o → h'.get? a = some o) : TxAt P w h' a l := by
  obtain ⟨D, e, F⟩ := S
  exact ⟨D, k _ e, F⟩
theorem rising_all : ∀ {l : List Str} {p : Str}, risingS p l = true → ∀ x ∈ l, ¬ x.cps.toList < p.cps.toList
  | [], _, _, x, h => by cases h
  | y :: r, p, h, x, hx => by
    rw [risingS, Bool.and_eq_true, Bool.not_eq_true', ltCps_eq] at h
    have h1 : ¬ y.cps.toList < p.cps.toList := of_decide_eq_false h.1
    rcases List.mem_cons.mp hx with e | e
    · rw [e]; exact h1
    · exact List.le_trans h1 (rising_all h.2 x e)
theorem sortedS_tail {x : Str} {r : List Str} (h : sortedS (x :: r) = true) : sortedS r = true := by
  cases r with
  | nil => rfl
  | cons y s =>
    have h : risingS x (y :: s) = true := h
    rw [risingS, Bool.and_eq_true] at h
    exact h.2
theorem sorted_same : ∀ {a b : List Str}, a.Perm b → sortedS a = true → sortedS b = true → a = b
  | [], b, p, _, _ => (List.nil_perm.mp p).symm
  | x :: r, [], p, _, _ => absurd p.length_eq (by simp)
  | x :: r, y :: s, p, ha, hb => by
    have ha' : risingS x r = true := ha
    have hb' : risingS y s = true := hb
    have e : x = y := by
      refine str_ext (List.le_antisymm ?_ ?_)
      · rcases List.mem_cons.mp (p.mem_iff.mpr (List.mem_cons_self (a := y))) with z | z
        · rw [z]; exact List.lt_irrefl _
        · exact rising_all ha' y z
      · rcases List.mem_cons.mp (p.mem_iff.mp (List.mem_cons_self (a := x))) with z | z
        · rw [z]; exact List.lt_irrefl _
        · exact rising_all hb' x z
    subst e
    rw [sorted_same (List.perm_cons x |>.mp p) (sortedS_tail ha) (sortedS_tail hb)]
end FT
namespace FT
open PySem PySem.W PySem.Spec PyProof.Rows L2
section
variable {J : It} {n : Nat} {G : Hp → Prop} {Y : Nat → Hp → V → Hp → Prop} {P : Program} {w' : World}
theorem SetSO.noTup {a : Addr} {l : List Str} : (∀ xs, SetSO P w' a l ≠ .tup xs) ∧ ∀ u v, SetSO P w' a l ≠ .frz u v := ⟨(fun _ z => nomatch z), (fun _ _ z => nomatch z)⟩
theorem sc_seq (w : Walk J n G Y) {g : TG} {tt : TT} {te : TE} {vs : List Nat} {σ : L2.St} {H : Hp} {D : Addr} {Qd : Hp → Prop} (hD : H D = none) (hn : n + 1 < scanBound) (R : Nat → List Str → Hp → Prop) (h0 : R 0 [] H) (hG : ∀ H2, SB [] H H2 → G H2)
    (st : ∀ i us H2 H3, SB [D] H2 H3 → R i us H2 → R i us H3)
    (turn : ∀ (Pv : Hp → Prop) i x H2 H' us, i < n → SB [] H H2 → Y i H2 x H' → R i us H2 → us.length ≤ i → (∀ z H5, SB [] H2 H5 → R (i + 1) (insS z us) H5 → ∃ (z' : Str) (l : List Str), V.str z = .str z' ∧ H5 D = some (SetSO P w' D l) ∧ l.length + 1 < scanBound ∧ Pv (upd H5 D (SetSO P w' D (insS z' l)))) →
      (∀ H4, SB [] H2 H4 → R (i + 1) us H4 → Pv H4) → g x (wipe σ vs) H' fun σ2 H3 => wipe σ2 vs = wipe σ vs ∧ tt σ2 H3 fun b H4 =>
        if b = true then te σ2 H4 fun y H5 => ∃ (z : Str) (l : List Str), y = .str z ∧ H5 D = some (SetSO P w' D l) ∧ l.length + 1 < scanBound ∧ Pv (upd H5 D (SetSO P w' D (insS z l))) else Pv H4)
    (done : ∀ us H2, SB [] H H2 → H2 D = some (SetSO P w' D us) → R n us H2 → us.length ≤ n → Qd H2) :
    ∃ W : Nat → Nat → Hp → Prop, (∃ m, W 0 m (upd H D (SetSO P w' D []))) ∧ ∀ i m Hi, W i m Hi →
      (J.stop i Hi ∧ Qd Hi) ∨ (J.go i Hi ∧ ∃ Nx : Hp → Prop, (∀ H', Nx H' → ∃ m', m' < m ∧ W (i + 1) m' H') ∧ ∀ x H', J.yld i Hi x H' → g x (wipe σ vs) H' fun σ2 H2 => wipe σ2 vs = wipe σ vs ∧ tt σ2 H2 fun b H3 =>
        if b = true then te σ2 H3 fun y H4 => ∃ (z : Str) (l : List Str), y = .str z ∧ H4 D = some (SetSO P w' D l) ∧ l.length + 1 < scanBound ∧ Nx (upd H4 D (SetSO P w' D (insS z l))) else Nx H3) := by
  refine lcG (body := fun Nx x H' => g x (wipe σ vs) H' fun σ2 H2 => wipe σ2 vs = wipe σ vs ∧ tt σ2 H2 fun b H3 =>
        if b = true then te σ2 H3 fun y H4 => ∃ (z : Str) (l : List Str), y = .str z ∧ H4 D = some (SetSO P w' D l) ∧ l.length + 1 < scanBound ∧ Nx (upd H4 D (SetSO P w' D (insS z l))) else Nx H3) w (fun i H2 => SB [D] H H2 ∧ ∃ us, H2 D = some (SetSO P w' D us) ∧ R i us H2 ∧ us.length ≤ i) ⟨SB.new hD _, [], upd_same, st _ _ _ _ (SB.new hD _) h0, Nat.le_refl _⟩ (fun i H2 _ h => hG H2 (h.1.drop hD)) (fun i x H2 H' hi h y => ?_) (fun H2 h => ?_)
  · obtain ⟨s2, us, hD2, hR, hl⟩ := h
    refine turn _ i x H2 H' us hi (s2.drop hD) y hR hl (fun z H5 s5 r5 => ?_) (fun H4 s4 r4 => ⟨s2.trans s4.nil, us, s4.keep _ _ hD2 List.not_mem_nil, r4, by omega⟩)
    have hD5 := s5.keep _ _ hD2 List.not_mem_nil
    have t6 : SB [D] H5 (upd H5 D (SetSO P w' D (insS z us))) := SB.setG hD5 (by simp) SetSO.noTup.1 SetSO.noTup.2 _
    refine ⟨z, us, rfl, hD5, by omega, (s2.trans s5.nil).trans t6, _, upd_same, st _ _ _ _ t6 r5, ?_⟩
    have := insS_len z us
    omega
  · obtain ⟨s2, us, hD2, hR, hl⟩ := h
    exact done us H2 (s2.drop hD) hD2 hR hl
end
end FT
namespace FT
open PySem PySem.W PySem.Spec PyProof.Rows L2
section
variable {M : Model} {A : Around} {E : Value → Shared → Prop} {s : Shared} {env : Env}
theorem CallK_ {func : Expr} {args : List Expr} {kws : List Keyword} {pos : Pos} {Q : Value → Shared → Prop}
    (h : wpAny M A (eval func env) (fun f s₁ => wpAny M A (callWith pos f [] (backTo pos (starEach args env)) (backToKw pos (keywordEach kws env))) Q E s₁) E s)
    (he : eval (.Call func args kws pos) env = (do callWith pos (← eval func env) [] (backTo pos (starEach args env)) (backToKw pos (keywordEach kws env))) := by rfl) :
    wpAny M A (eval (.Call func args kws pos) env) Q E s := by
  rw [he]; exact wpAny_bind h
theorem callWith_typeK {pos : Pos} {T : String} {e : Expr} {rest : List Expr} {kws : List Keyword} {Q : Value → Shared → Prop}
    (h : wpAny M A (spliced (backTo pos (starEach (e :: rest) env))) (fun vs s₁ => wpAny M A (evalAll ((backToKw pos (keywordEach kws env)).map (·.2)))
      (fun kvs s₂ => wpAny M A (call (.type T) vs (((backToKw pos (keywordEach kws env)).filterMap (·.1)).zip kvs)) Q E s₂) E s₁) E s)
    (he : starEach (e :: rest) env = (false, eval e env) :: starEach rest env)
    (hplain : (backTo pos (starEach rest env)).any (·.1) = false)
    (hall : (backToKw pos (keywordEach kws env)).all (·.1.isSome) = true)
    (hkw : (backToKw pos (keywordEach kws env)).any (·.1.isNone) = false) :
    wpAny M A (callWith pos (.type T) [] (backTo pos (starEach (e :: rest) env)) (backToKw pos (keywordEach kws env))) Q E s := by
  rw [he] at h ⊢
  have h2 : (backTo pos ((false, eval e env) :: starEach rest env)).any (·.1) = false := by
    show (false || (backTo pos (starEach rest env)).any (·.1)) = false
    rw [hplain]; rfl
  have h3 : backTo pos ((false, eval e env) :: starEach rest env) = (false, eval e env) :: backTo pos (starEach rest env) := rfl
  rw [h3] at h h2 ⊢
  unfold callWith
  refine wpAny_bind (wpAny_holding (wpAny_mono (evalArgs_kwB (Q := fun a s₁ => wpAny M A (call (.type T) ([] ++ a.pos) a.kw) Q E s₁) hall h) (fun a s₁ h₁ => wpAny_bind (wpAny_standAt ?_)) fun _ _ x => x))
  simp only [h2, hkw, Bool.or_false]
  refine wpAny_bind (wpAny_pure ?_)
  exact wpAny_bind (wpAny_mono h₁ (fun r s₂ hr => wpAny_bind (wpAny_holding (wpAny_point (wpAny_pure hr)))) fun _ _ x => x)
end
/-- the list at a, each item in a new pair with its number, from one -/
def IteS (K : PySem.W.Frag) (a : Addr) : It :=
  ⟨fun i H => ∃ (xs : List V) (x : V), SqL K H a xs ∧ xs[i]? = some x,
    fun i H v H2 => ∃ T x, v = .ref T ∧ H T = none ∧ H2 = upd H T (.tup [.int ((i + 1 : Nat) : Int), x]) ∧ ∀ xs, SqL K H a xs → xs[i]? = some x,
    fun i H => ∃ xs : List V, SqL K H a xs ∧ xs.length = i⟩
theorem turn_enumS {P : Program} {w : World} {K : PySem.W.Frag} {elts : List Expr} {kk : Nat} {tpos : Pos} (a e it : Addr) (hei : e ≠ it) (hai : a ≠ it) (hea : e ≠ a) :
    Turn P w K (.Tuple elts kk tpos) (IteS K a) [e, it] e (fun i h => (∃ old, IsEnum h e it ((i + 1 : Nat) : Int) old) ∧ h.IsListIter it a i) where
  mem := by simp
  obj := fun i h st b hb => by
    obtain ⟨⟨old, he⟩, o, ho, hc, hd⟩ := st
    rcases (show b = e ∨ b = it by simpa using hb) with z | z
    · rw [z]; exact ⟨_, he, fun v q => nomatch q⟩
    · rw [z]; exact ⟨o, ho, fun v q => by rw [hd] at q; cases q⟩
  keep := fun i h h2 st k => let ⟨⟨old, he⟩, hi⟩ := st; ⟨⟨old, k e (by simp) _ he⟩, hi.at fun o q => k it (by simp) o q⟩
  item := by
    intro X hP hw hK hc i pins s σ H E I hf st hg
    subst hP hw hK
    obtain ⟨⟨old, he⟩, hit⟩ := st
    obtain ⟨xs, x, hq, hx⟩ := hg
    obtain ⟨its, rv, p, hz⟩ := I.list hq
    obtain ⟨u, hu, ru⟩ := rv.get hx
    have hel : e < s.heap.objs.size := Heap.lt_size he
    have hil : it < s.heap.objs.size := by obtain ⟨_, z, _⟩ := hit; exact Heap.lt_size z
    have Dr := Draws.list (prog := X.prog) (w := X.w) (A := X.A.in1) (I.ok.hd hc) it a hai its.toArray
    have hlt : i < its.toArray.size := by
      have := (List.getElem?_eq_some_iff.mp hu).1
      simpa using this
    refine wpAny_pyNext_enum_itemC Dr he ⟨hit, p.isList⟩ hlt hei (by simp [hei, hea]) fun y h2 tk hy ho hst hT hsz hk => ?_
    have hyu : y = u := by
      have h3 : its[i]? = some y := by simpa using hy
      rw [hu] at h3; exact (Option.some.inj h3).symm
    subst hyu
    refine ⟨_, rfl, wpAny_letOwnedTupleGo_enum (s := { s with heap := h2, toks := tk + 1 }) ho fun h3 he3 sb => ?_⟩
    have hT2 : h3.get? s.heap.objs.size = some { cls := .type "tuple", data := .seq #[.int ((i + 1 : Nat) : Int) tk, y] } := (sb.2 _ (Nat.ne_of_gt hel)).trans hT
    have nw : ObjOk X.prog X.w (upd H s.heap.objs.size (.tup [.int ((i + 1 : Nat) : Int), x])) h3 s.heap.objs.size (.tup [.int ((i + 1 : Nat) : Int), x]) := ⟨by show 2 ≤ sizeLine; decide, [.int ((i + 1 : Nat) : Int) tk, y], .cons ⟨_, rfl⟩ (.cons ru .nil), ⟨_, hT2, rfl, _, rfl⟩⟩
    have I1 : Inv X pins σ (upd H s.heap.objs.size (.tup [.int ((i + 1 : Nat) : Int), x])) { s with heap := h3, toks := tk + 1 } := I.turnedNew (ch := [e, it]) (fun b ob hb z => (sb.2 b (fun y => hb (by simp [y]))).trans (hk b ob (fun y => hb (by simp [y])) (fun y => hb (by simp [y])) z)) hf (Nat.le_refl _) nw
    refine ⟨.ref s.heap.objs.size, _, I1, rfl, ⟨_, x, rfl, I.hok.fresh (Nat.le_refl _), rfl, fun ys hy => by rw [I.list_inj hy hq]; exact hx⟩, ⟨⟨y, ?_⟩, hst.1.at fun o q => (sb.2 it (Ne.symm hei)).trans q⟩, fun b hb => ?_⟩
    · rw [show ((i + 1 + 1 : Nat) : Int) = ((i + 1 : Nat) : Int) + 1 by omega]; exact he3
    · have hb2 : b < s.heap.objs.size := by
        rcases (show b = e ∨ b = it by simpa using hb) with z | z
        · rw [z]; exact hel
        · rw [z]; exact hil
      rw [upd_ne (Nat.ne_of_lt hb2)]; exact (hf b hb).1
  done := by
    intro X hP hw hK hc i pins s σ H E I hf st hg
    subst hP hw hK
    obtain ⟨⟨old, he⟩, hit⟩ := st
    obtain ⟨xs, hq, hx⟩ := hg
    obtain ⟨its, rv, p, hz⟩ := I.list hq
    obtain ⟨f0, f1, f2, f3, f4, f5⟩ := hf it (by simp)
    have hl := rv.length
    have Dr := Draws.list (prog := X.prog) (w := X.w) (A := X.A.in1) (I.ok.hd hc) it a hai its.toArray
    have hn : its.toArray.size = i := by simp; omega
    refine wpAny_pyNext_enum_endD Dr he ⟨by rw [hn]; exact hit, p.isList⟩ fun h2 eb => ⟨rfl, I.turned (t' := s.toks) (fun b o hb z => eb b o hb z) f0 f1 f3 f4 f5⟩
  self := fun A i s Q E st h => let ⟨⟨_, he⟩, _⟩ := st; wpAny_pyIter_enum he h
def iEnumS (K : PySem.W.Frag) (te : TE) : TI := fun σ H R => te σ H fun v H1 => ∃ a xs, v = .ref a ∧ SqL K H1 a xs ∧ R (IteS K a) H1
theorem pi_enumS {X : Cx} {ex : Expr} {te : TE} {p pos tpos kp cp : Pos} {elts : List Expr} {kk ck : Nat} (hg : Gl X "enumerate") (hm : X.mg "enumerate" = none) (he : PE X ex te) (hs : starEach [ex] X.env = (false, eval ex X.env) :: starEach [] X.env := by rfl) :
    PI X (.Tuple elts kk tpos) (.Call (.Name "enumerate" p) [ex] [⟨some "start", .Constant (.int 1) ck cp, kp⟩] pos) (iEnumS X.K te) := by
  refine ⟨fun pins s σ H R I h => ?_⟩
  refine CallK_ (ld_blt I hg hm boot_enumerate (callWith_typeK (args_cons (thn (he.run pins s σ H _ I h) fun u s1 ⟨v, H1, I1, r1, q1⟩ => args_nil ?_) hs) hs rfl rfl rfl))
  obtain ⟨a, xs, ev, hq, q⟩ := q1
  subst ev
  cases r1
  refine kws_cons (thn ((pe_int (X := X) (i := 1) (j := ck) (pos := cp)).run pins s1 σ H1 (fun v H2 => v = .int 1 ∧ H2 = H1) I1 ⟨rfl, rfl⟩) fun u s2 ⟨v, H2, I2, r2, q2⟩ => kws_nil ?_)
  obtain ⟨rfl, rfl⟩ := q2
  obtain ⟨t, rfl⟩ : ∃ t, u = .int 1 t := r2
  obtain ⟨its, rv, pt, hz⟩ := I2.list hq
  have ht : s2.heap.IsList a its.toArray := pt.isList
  have hal : a < s2.heap.objs.size := by obtain ⟨_, z, _⟩ := ht; exact Heap.lt_size z
  show wpAny _ _ (call (.type "enumerate") [.ref a] [(Str.ofString "start", .int 1 t)]) _ _ _
  refine enum_begins_start (begins_list a its.toArray) ht (by decide) (by decide) fun h2 he2 hit hsz hk => wpAny_pyIter_enum he2 ?_
  have I3 : Inv X pins σ H2 { s2 with heap := h2 } := I2.kept (t' := s2.toks) hk
  refine ⟨s2.heap.objs.size + 1, [s2.heap.objs.size + 1, s2.heap.objs.size], _, _, H2, rfl, I3, turn_enumS a (s2.heap.objs.size + 1) s2.heap.objs.size (Nat.succ_ne_self _) (Nat.ne_of_lt hal) (Nat.ne_of_gt (Nat.lt_succ_of_lt hal)), ⟨⟨.none, he2⟩, ⟨_, hit, rfl, rfl⟩⟩, fun b hb => ?_, q⟩
  have hle : s2.heap.objs.size ≤ b := by
    rcases (show b = s2.heap.objs.size + 1 ∨ b = s2.heap.objs.size by simpa using hb) with z | z
    · rw [z]; exact Nat.le_add_right _ _
    · rw [z]; exact Nat.le_refl _
  exact I2.fpOk hle (I2.hok.fresh hle)
theorem walk_enumS {K : PySem.W.Frag} {a : Addr} {xs : List V} : Walk (IteS K a) xs.length (fun H => SqL K H a xs) (YPair (fun i => some (.int ((i + 1 : Nat) : Int))) (fun i => xs[i]?)) := by
  refine ⟨fun i _ hi q => ⟨xs, xs[i], q, by simp [hi]⟩, fun _ q => ⟨xs, q, rfl⟩, fun i H v H2 _ q y => ?_⟩
  obtain ⟨T, x, h1, h2, h3, h4⟩ := y
  exact ⟨T, .int ((i + 1 : Nat) : Int), x, h1, h2, h3, rfl, h4 xs q⟩
end FT
namespace FT
open PySem PySem.W PySem.Spec PyProof.Rows L2
namespace Gr
def ak : Gr → Nat → List (Pl × Str)
  | .nil, _ => []
  | .cons k g _ r, i => (([i], k) :: (g.ak 0).map fun x => (i :: x.1, x.2)) ++ r.ak (i + 1)
def akP (p : Tr × Int) (i : Nat) : List (Pl × Str) := ([i], p.1.1) :: (p.1.2.ak 0).map fun x => (i :: x.1, x.2)
def aks : List (Tr × Int) → Nat → List (Pl × Str)
  | [], _ => []
  | p :: r, i => akP p i ++ aks r (i + 1)
theorem ak_ps : ∀ (g : Gr) (i : Nat), g.ak i = aks g.ps i
  | .nil, _ => rfl
  | .cons k g m r, i => by show _ ++ r.ak (i + 1) = _ ++ aks r.ps (i + 1); rw [ak_ps r]; rfl
theorem aks_append : ∀ (as bs : List (Tr × Int)) (i : Nat), aks (as ++ bs) i = aks as i ++ aks bs (i + as.length)
  | [], bs, i => by simp [aks]
  | p :: r, bs, i => by
    show akP p i ++ aks (r ++ bs) (i + 1) = _
    rw [aks_append r bs (i + 1)]
    show _ = (akP p i ++ aks r (i + 1)) ++ aks bs (i + (r.length + 1))
    rw [List.append_assoc, show i + 1 + r.length = i + (r.length + 1) by omega]
theorem aks_take {bs : List (Tr × Int)} {i : Nat} {p : Tr × Int} (h : bs[i]? = some p) : aks (bs.take (i + 1)) 0 = aks (bs.take i) 0 ++ akP p i := by
  have hl : i < bs.length := (List.getElem?_eq_some_iff.mp h).1
  rw [List.take_add_one, h, aks_append, List.length_take, Nat.min_eq_left (by omega), Nat.zero_add]
  show _ ++ (akP p i ++ []) = _
  rw [List.append_nil]
theorem ak_kinds : ∀ (g : Gr) (i : Nat), (g.ak i).map (·.2) = g.within.map (·.1.1)
  | .nil, _ => rfl
  | .cons k g m r, i => by
    have h1 := ak_kinds g 0
    have h2 := ak_kinds r (i + 1)
    show ((([i], k) :: (g.ak 0).map fun x => (i :: x.1, x.2)) ++ r.ak (i + 1)).map (·.2) = (((k, g), m) :: (g.within ++ r.within)).map (·.1.1)
    rw [List.map_append, List.map_cons, List.map_map, h2, List.map_cons, List.map_append, ← h1]
    rfl
theorem ak_len (g : Gr) (i : Nat) : (g.ak i).length = g.parts := by
  have := congrArg List.length (ak_kinds g i)
  rw [List.length_map, List.length_map, within_length] at this
  exact this
theorem ak_long : ∀ (g : Gr) (i : Nat), ∀ x ∈ g.ak i, x.1.length ≤ g.deep
  | .nil, _, x, h => by cases h
  | .cons k g m r, i, x, h => by
    have h1 := ak_long g 0
    have h2 := ak_long r (i + 1)
    show x.1.length ≤ max (1 + g.deep) r.deep
    rcases List.mem_append.mp h with h | h
    · rcases List.mem_cons.mp h with h | h
      · rw [h]; show 1 ≤ _; omega
      · obtain ⟨q, hq, rfl⟩ := List.mem_map.mp h
        have := h1 q hq
        show q.1.length + 1 ≤ _; omega
    · have := h2 x h; omega
theorem lk_root {a b : Str} {g : Gr} {os : List (Option Int)} (h : os ≠ []) : lk (a, g) os = lk (b, g) os := by
  cases os with
  | nil => exact absurd rfl h
  | cons o r => rfl
theorem ak_at {G : Gr} : ∀ (g : Gr) (i : Nat), G.ps.drop i = g.ps → ∀ x ∈ g.ak i, plO x.1 ≠ [] ∧ ∃ t : Tr, lk ("", G) (plO x.1) = some t ∧ t.1 = x.2
  | .nil, _, _, x, h => by cases h
  | .cons k g m r, i, hd, x, h => by
    have hd' : G.ps.drop i = ((k, g), m) :: r.ps := hd
    have hi : G.ps[i]? = some ((k, g), m) := by
      have := congrArg (·[0]?) hd'
      simpa using this
    have hs : stp G (some ((i : Nat) : Int)) = some (k, g) := by
      show (if (0 : Int) ≤ ((i : Nat) : Int) then (G.ps[((i : Nat) : Int).toNat]?).map (·.1) else none) = _
      rw [if_pos (by omega), Int.toNat_natCast, hi]; rfl
    rcases List.mem_append.mp h with h | h
    · rcases List.mem_cons.mp h with h | h
      · rw [h]
        refine ⟨by simp [plO], (k, g), ?_, rfl⟩
        show (stp G (some ((i : Nat) : Int))).bind _ = _
        rw [hs]; rfl
      · obtain ⟨q, hq, rfl⟩ := List.mem_map.mp h
        obtain ⟨n1, t, e1, e2⟩ := ak_at (G := g) g 0 rfl q hq
        refine ⟨by simp [plO], t, ?_, e2⟩
        show (stp G (some ((i : Nat) : Int))).bind (fun u => lk u (plO q.1)) = _
        rw [hs]
        show lk (k, g) (plO q.1) = some t
        rw [lk_root (b := "") n1, e1]
    · refine ak_at r (i + 1) ?_ x h
      rw [← List.drop_drop, hd']; rfl
theorem ak_place (g : Gr) : ∀ x ∈ g.ak 0, plO x.1 ≠ [] ∧ ∃ t : Tr, lk ("", g) (plO x.1) = some t ∧ t.1 = x.2 := ak_at g 0 rfl
theorem deep_parts : ∀ g : Gr, g.deep ≤ g.parts
  | .nil => Nat.le_refl _
  | .cons k g m r => by
    have h1 := deep_parts g
    have h2 := deep_parts r
    show max (1 + g.deep) r.deep ≤ 1 + g.parts + r.parts
    omega
end Gr
def spAllP (K : PySem.W.Frag) (n : Nat) : Sp := fun vs H Q _ => ∃ (v : V) (g : Gr), vs = [v] ∧ GA K H v g ∧ g.deep < n ∧ g.deep ≤ 100 ∧ g.parts ≤ 1000 ∧ ∀ (D : Addr) (us : List V) (H' : Hp), SB [] H H' → H D = none → H' D = some (.lst us) → Bears K H' plEnc us ((g.ak 0).map (·.1)) → Q (.ref D) H'
structure Sx where
  n : Str
  i : Nat
  wd : Str
  p : Pl
  k : Str
def Sx.st (s : Sx) : PyData := .tuple [.str s.n, .int (s.i : Int), .str s.wd, plEnc s.p]
def Sx.enc (s : Sx) : PyData := .tuple [s.st, .str s.k]
theorem Sx.noList_st (s : Sx) : noList s.st = true := by simp [Sx.st, noList, noLists, pl_noList]
theorem Sx.noList_enc (s : Sx) : noList s.enc = true := by simp [Sx.enc, noList, noLists, Sx.noList_st]
def stG (n : Str) (i : Nat) (wd : Str) (g : Gr) : List Sx := (g.ak 0).map fun x => ⟨n, i, wd, x.1, x.2⟩
def stR (n : Str) (x : Ru × Nat) : List Sx := stG n x.2 "once" x.1.1 ++ stG n x.2 "each" x.1.2
def Kd.steps (k : Kd) : List Sx := (k.rs.zipIdx 1).flatMap (stR k.n)
/-- the kinds that stand in the rules -/
def ledR (rs : List Ru) : List Str := rs.flatMap fun r => r.within.map (·.1.1)
theorem stG_kinds (n : Str) (i : Nat) (wd : Str) (g : Gr) : (stG n i wd g).map (·.k) = g.within.map (·.1.1) := by
  unfold stG
  rw [List.map_map, ← Gr.ak_kinds g 0]; rfl
theorem stG_len (n : Str) (i : Nat) (wd : Str) (g : Gr) : (stG n i wd g).length = g.parts := by
  unfold stG
  rw [List.length_map, Gr.ak_len]
theorem stR_kinds (n : Str) (x : Ru × Nat) : (stR n x).map (·.k) = x.1.within.map (·.1.1) := by
  unfold stR Ru.within
  rw [List.map_append, List.map_append, stG_kinds, stG_kinds]
theorem stR_len (n : Str) (x : Ru × Nat) : (stR n x).length = x.1.1.parts + x.1.2.parts := by
  unfold stR
  rw [List.length_append, stG_len, stG_len]
theorem steps_from (n : Str) : ∀ (rs : List Ru) (i : Nat), ((rs.zipIdx i).flatMap (stR n)).map (·.k) = ledR rs
  | [], _ => rfl
  | r :: rs, i => by
    rw [List.zipIdx_cons, List.flatMap_cons, List.map_append, steps_from n rs (i + 1), stR_kinds]
    rfl
theorem Kd.steps_kinds (k : Kd) : k.steps.map (·.k) = ledR k.rs := steps_from _ _ _
theorem stR_le (n : Str) : ∀ (xs : List (Ru × Nat)), (∀ x ∈ xs, x.1.1.parts + x.1.2.parts ≤ 4) → (xs.flatMap (stR n)).length ≤ 4 * xs.length
  | [], _ => Nat.le_refl _
  | x :: xs, h => by
    have h1 := stR_le n xs fun y hy => h y (List.mem_cons_of_mem _ hy)
    have h2 := h x List.mem_cons_self
    rw [List.flatMap_cons, List.length_append, stR_len, List.length_cons]
    omega
theorem Kd.steps_len {k : Kd} (h4 : k.rs.length ≤ 4) (h : ∀ r ∈ k.rs, RuOk r) : k.steps.length ≤ 16 := by
  have := stR_le k.n (k.rs.zipIdx 1) fun x hx => (h x.1 (by
    have := List.mem_zipIdx hx
    rw [this.2.2]; exact List.getElem_mem _)).2.2
  rw [List.length_zipIdx] at this
  show ((k.rs.zipIdx 1).flatMap (stR k.n)).length ≤ 16
  omega
def spStepsIn (K : PySem.W.Frag) : Sp := fun vs H Q _ => ∃ (n wd : Str) (i : Nat) (v : V) (g : Gr), vs = [.str n, .int (i : Int), .str wd, v] ∧ GA K H v g ∧ g.deep < 20 ∧ g.parts ≤ 60 ∧ ∀ (l : Addr) (us : List V) (H' : Hp), SB [] H H' → H l = none → H' l = some (.lst us) → Bears K H' Sx.enc us (stG n i wd g) → Q (.ref l) H'
def spStepsOf (K : PySem.W.Frag) (C N : Addr) : Sp := fun vs H Q E => ∃ (v : V) (b : Bk) (n : Str), vs = [v, .str n] ∧ BkA K C H v b ∧ b.Ok ∧
  kindOr N b n H E fun k => ∀ (l : Addr) (us : List V) (H' : Hp), SB [] H H' → H l = none → H' l = some (.lst us) → Bears K H' Sx.enc us k.steps → Q (.ref l) H'
/-- the texts of ks, each once, sorted -/
structure SrtOf (ss ks : List Str) : Prop where
  srt : sortedS ss = true
  nd : ss.Nodup
  mem : ∀ x, x ∈ ss ↔ x ∈ ks
theorem SrtOf.same {a b ks : List Str} (h : SrtOf a ks) (g : SrtOf b ks) : a = b :=
  sorted_same ((List.perm_ext_iff_of_nodup h.nd g.nd).mpr fun x => (h.mem x).trans (g.mem x).symm) h.srt g.srt
theorem insS_nodup {x : Str} {l : List Str} (h : l.Nodup) : (insS x l).Nodup := by
  unfold insS
  split
  · exact h
  · rename_i hx
    exact List.nodup_cons.mpr ⟨hx, h⟩
theorem SrtOf.perm {ss l ks : List Str} (pm : ss.Perm l) (s : sortedS ss = true) (nd : l.Nodup) (h : ∀ x, x ∈ l ↔ x ∈ ks) : SrtOf ss ks :=
  ⟨s, pm.nodup_iff.mpr nd, fun x => pm.mem_iff.trans (h x)⟩
def spLeads (K : PySem.W.Frag) (C N : Addr) : Sp := fun vs H Q E => ∃ (v : V) (b : Bk) (n : Str), vs = [v, .str n] ∧ BkA K C H v b ∧ b.Ok ∧
  kindOr N b n H E fun k => ∀ (l : Addr) (ss : List Str) (H' : Hp), SB [] H H' → H l = none → H' l = some (.lst (ss.map V.str)) → SrtOf ss (ledR k.rs) → Q (.ref l) H'
def spGood24 (K : PySem.W.Frag) (C : Addr) : Sp := fun vs H Q _ => ∃ (v : V) (b : Bk) (l : Addr) (xs : List V), vs = [v, .ref l] ∧ BkA K C H v b ∧ H l = some (.lst xs) ∧ KdAll K H [] xs b ∧ b.Ok ∧ ∀ H', SB [] H H' → Q (.bl true) H'
end FT
namespace FT
open PySem PySem.W PySem.Spec PyProof.Rows L2
theorem plain_shaped {ds : List PyData} (h : plSs ds = true) (hd : PyData.depthAll ds ≤ 60) : SeqAt.shaped (.list ds) = true := by
  unfold SeqAt.shaped
  rw [PyData.canLay0, plSs_lay _ h, Bool.true_and]
  have : (PyData.list ds).depth = PyData.depthAll ds + 1 := by simp [PyData.depth]
  exact decide_eq_true (by omega)
theorem plain_eqv {ds : List PyData} (h : plSs ds = true) : PyData.eqv (.list ds) (.list ds) = true := eqv_refl_alike _ (by rw [alike]; exact alikes_pl _ h)
theorem strs_pl : ∀ {ss : List Str}, (∀ s ∈ ss, NameOk s) → plSs (ss.map PyData.str) = true
  | [], _ => by simp [plSs]
  | s :: ss, h => by
    rw [List.map_cons, plSs, strs_pl fun x hx => h x (List.mem_cons_of_mem _ hx), plS, Gr.strOk_name (h s List.mem_cons_self)]; rfl
theorem Bk.Ok.led {b : Bk} (ok : b.Ok) {k : Kd} (hk : k ∈ b) : ∀ x ∈ ledR k.rs, x ∈ b.names := fun x hx => by
  obtain ⟨r, hr, hx⟩ := List.mem_flatMap.mp hx
  obtain ⟨p, hp, rfl⟩ := List.mem_map.mp hx
  exact ((ok.kd k hk).2.2 r hr).2 p hp
theorem Bk.Ok.names {b : Bk} (ok : b.Ok) : ∀ x ∈ b.names, NameOk x := fun x hx => by
  obtain ⟨k, hk, rfl⟩ := List.mem_map.mp hx
  exact (ok.kd k hk).1
end FT
namespace FT
open PySem PySem.W PySem.Spec PyProof.Rows L2
theorem copy_lc {K : PySem.W.Frag} {σ : L2.St} {H : Hp} {kh : Addr} {xs : List V} {b : Bk} {Q : VK} {i a1 a2 a3 : Nat} {vs : List Nat} (hσ : σ[i]? = some (some (.ref kh)))
    (w0 : ∀ x y z : V, wipe ((((wipe σ vs).set a1 (some x)).set a2 (some y)).set a3 (some z)) vs = wipe σ vs)
    (w1 : ∀ x y z : V, ((((wipe σ vs).set a1 (some x)).set a2 (some y)).set a3 (some z))[a1]? = some (some x)) (w2 : ∀ x y z : V, ((((wipe σ vs).set a1 (some x)).set a2 (some y)).set a3 (some z))[a2]? = some (some y)) (w3 : ∀ x y z : V, ((((wipe σ vs).set a1 (some x)).set a2 (some y)).set a3 (some z))[a3]? = some (some z))
    (hkh : H kh = some (.lst xs)) (hb : KdAll K H [] xs b) (b8 : b.length ≤ 8)
    (k : ∀ (D : Addr) (us : List V) (ls : List Addr) (H' : Hp), SB [] H H' → H D = none → H' D = some (.lst us) → KdAll K H' [D] us b → D ∉ ls → (∀ p ∈ ls, H p = none ∧ ∃ zs, H' p = some (.lst zs)) → (∀ u ∈ us, ∃ t x y l, u = .ref t ∧ SqT K H' t [x, y, .ref l] ∧ l ∈ ls) → Q (.ref D) H') :
    tLc (iList K (tVar i)) (gTup K 3 (gCons (gName a1) (gCons (gName a2) (gCons (gName a3) gNil)))) tYes (tTup (tCons (tVar a1) (tCons (tVar a2) (tCons (tCB (rListOf K) (tCons (tVar a3) tNil)) tNil)))) vs σ H Q := by
  have szl := sizeLine_eq
  have xl := hb.length
  refine ⟨_, hσ, kh, rfl, ⟨_, SqL.of hkh⟩, fun D hD => ?_⟩
  refine lc_seqQ (walk_list (xs := xs)) [] hD (by simp) (by omega) (fun i us H2 => ∃ ls : List Addr, KdAll K H2 [D] us (b.take i) ∧ D ∉ ls ∧ (∀ p ∈ ls, H p = none ∧ ∃ zs, H2 p = some (.lst zs)) ∧ ∀ u ∈ us, ∃ t x y l, u = .ref t ∧ SqT K H2 t [x, y, .ref l] ∧ l ∈ ls)
    ⟨[], .nil, by simp, by simp, by simp⟩ (fun H3 s3 => s3.sqL List.not_mem_nil (SqL.of hkh)) (fun i us H2 H3 s3 ⟨ls, h1, h2, h3, h4⟩ => ⟨ls, h1.sb s3 NoLst.self, h2, fun p hp => ⟨(h3 p hp).1, (h3 p hp).2.imp fun zs hz => s3.keep _ _ hz fun z => h2 (by rw [← List.mem_singleton.mp z]; exact hp)⟩, fun u hu => by
      obtain ⟨t, x, y, l, e, h5, h6⟩ := h4 u hu
      exact ⟨t, x, y, l, e, s3.sqT h5, h6⟩⟩) (fun Pv i x Hq H2 us hi s2 y hR hu hD2 fin _ => ?_) (fun us H2 s2 hD2 hR hul => ?_)
  · obtain ⟨rfl, ey⟩ := y
    obtain ⟨ls, g1, g2, g3, g4⟩ := hR
    obtain ⟨k, ek, t, r, zs, rfl, h1, h2, h3, _⟩ := hb.get ey
    refine ⟨t, _, rfl, s2.sqT h1, rfl, _, _, rfl, _, _, rfl, _, _, rfl, rfl, w0 _ _ _, ?_⟩
    refine ⟨_, w1 _ _ _, _, w2 _ _ _, _, w3 _ _ _, r, zs, rfl, .inl (SqL.of (s2.keep _ _ h2 List.not_mem_nil)), fun l' hl' => ⟨by show 3 ≤ sizeLine; decide, fun T hT => ?_⟩⟩
    have t3 := SB.new (ps := []) hl' (.lst zs)
    have hl3 : upd H2 l' (.lst zs) l' = some (.lst zs) := upd_same
    generalize upd H2 l' (.lst zs) = H3 at t3 hl3 hT
    have t4 := SB.new (ps := []) hT (.tup [.str k.n, .bl k.w, .ref l'])
    have t24 := t3.trans t4
    have hl4 := t4.keep _ _ hl3 List.not_mem_nil
    have lD : l' ≠ D := fun z => by rw [z, hD2] at hl'; cases hl'
    refine fin _ _ t24 ⟨ls ++ [l'], ?_, ?_, ?_, ?_⟩
    · rw [List.take_add_one, ek]
      exact (g1.sb t24 NoLst.nil).append (.cons ⟨T, l', zs, rfl, SqT.of upd_same, hl4, h3.sb (s2.trans t24) Ru.noList_enc, by simpa using lD⟩ .nil)
    · intro z
      rcases List.mem_append.mp z with z | z
      · exact g2 z
      · exact lD (List.mem_singleton.mp z).symm
    · intro p hp
      rcases List.mem_append.mp hp with hp | hp
      · exact ⟨(g3 p hp).1, (g3 p hp).2.imp fun zs hz => t24.keep _ _ hz List.not_mem_nil⟩
      · rw [List.mem_singleton.mp hp]
        exact ⟨s2.dom _ hl', zs, hl4⟩
    · intro u hu
      rcases List.mem_append.mp hu with hu | hu
      · obtain ⟨t, x, y, l, e, h5, h6⟩ := g4 u hu
        exact ⟨t, x, y, l, e, t24.sqT h5, List.mem_append_left _ h6⟩
      · rw [List.mem_singleton.mp hu]
        exact ⟨T, _, _, l', rfl, SqT.of upd_same, by simp⟩
  obtain ⟨ls, g1, g2, g3, g4⟩ := hR
  rw [xl, List.take_length] at g1
  exact k D us ls H2 s2 hD hD2 g1 g2 g3 g4
section
variable {σ : L2.St} {H : Hp} {t : TE} {ta tb : TE} {as : TA}
theorem opI {r : R2} {Q : VK} (h : ta σ H fun x H1 => tb σ H1 fun y H2 => r x y H2 Q) : tOp r ta tb σ H Q := h
theorem consI {Q : List V → Hp → Prop} (h : t σ H fun x H1 => as σ H1 fun xs H2 => Q (x :: xs) H2) : tCons t as σ H Q := h
theorem makeI {C : Addr} {sp : Sp} {E : L2.St → XK} {Q : VK} (h : as σ H fun vs H1 => ∀ y dx, H1 y = none → H1 dx = none → dx ≠ y → sp (.ref y :: vs) (upd (upd H1 dx (.own y)) y (.ins C dx [])) (fun v H2 => v = .non ∧ Q (.ref y) H2) (E σ)) : tMakeZ C sp E as σ H Q := h
end
theorem copy_make {K : PySem.W.Frag} {C B : Addr} {E : L2.St → XK} {σ : L2.St} {H : Hp} {kh : Addr} {xs : List V} {b : Bk} {Q : VK} {i a1 a2 a3 : Nat} {vs : List Nat} (hσ : σ[i]? = some (some (.ref kh)))
    (w0 : ∀ x y z : V, wipe ((((wipe σ vs).set a1 (some x)).set a2 (some y)).set a3 (some z)) vs = wipe σ vs)
    (w1 : ∀ x y z : V, ((((wipe σ vs).set a1 (some x)).set a2 (some y)).set a3 (some z))[a1]? = some (some x)) (w2 : ∀ x y z : V, ((((wipe σ vs).set a1 (some x)).set a2 (some y)).set a3 (some z))[a2]? = some (some y)) (w3 : ∀ x y z : V, ((((wipe σ vs).set a1 (some x)).set a2 (some y)).set a3 (some z))[a3]? = some (some z))
    (hkh : H kh = some (.lst xs)) (hb : KdAll K H [] xs b) (ok : b.Ok) (k : ∀ y H', SB [] H H' → H y = none → BkA K C H' (.ref y) b → Q (.ref y) H') :
    tMakeZ C (spBInit K C B) E (tCons (tLc (iList K (tVar i)) (gTup K 3 (gCons (gName a1) (gCons (gName a2) (gCons (gName a3) gNil)))) tYes (tTup (tCons (tVar a1) (tCons (tVar a2) (tCons (tCB (rListOf K) (tCons (tVar a3) tNil)) tNil)))) vs) tNil) σ H Q := by
  refine makeI (consI (copy_lc hσ w0 w1 w2 w3 hkh hb ok.len fun D us ls H' s nD hD hK _ _ _ => ?_))
  exact make_core hD hK ok fun y H2 s2 ny hbk => k y H2 (s.trans s2) (s.dom _ ny) hbk
end FT
namespace FT
open PySem PySem.W PySem.Spec PyProof.Rows L2
def adj (b : Bk) (n : Str) : List Str := match b.get n with
  | some k => ledR k.rs
  | none => []
inductive EndK (b : Bk) : Str → Prop
  | mk {n : Str} : (∀ k, k ∈ adj b n → EndK b k) → EndK b n
inductive Rch (b : Bk) : Str → Str → Prop
  | one {n k : Str} : k ∈ adj b n → Rch b n k
  | step {n m k : Str} : Rch b n m → k ∈ adj b m → Rch b n k
section
variable {b : Bk}
theorem adj_get {n : Str} {k : Kd} (h : b.get n = some k) : adj b n = ledR k.rs := by unfold adj; rw [h]
theorem adj_names (ok : b.Ok) {n k : Str} (h : k ∈ adj b n) : k ∈ b.names := by
  unfold adj at h
  split at h
  · rename_i kd e
    exact ok.led (Bk.get_some e).1 k h
  · cases h
theorem Rch.trans {n m k : Str} (h : Rch b n m) (g : Rch b m k) : Rch b n k := by
  induction g with
  | one e => exact .step h e
  | step _ e ih => exact .step ih e
theorem Rch.cons {n m k : Str} (h : m ∈ adj b n) (g : Rch b m k) : Rch b n k := (Rch.one h).trans g
theorem Rch.split {n k : Str} (h : Rch b n k) : ∃ m, m ∈ adj b n ∧ (m = k ∨ Rch b m k) := by
  induction h with
  | one e => exact ⟨_, e, .inl rfl⟩
  | step _ e ih =>
    obtain ⟨m, hm, h⟩ := ih
    refine ⟨m, hm, .inr ?_⟩
    rcases h with h | h
    · rw [h]; exact .one e
    · exact .step h e
theorem Rch.mem (ok : b.Ok) {n k : Str} (h : Rch b n k) : k ∈ b.names := by
  cases h with
  | one e => exact adj_names ok e
  | step _ e => exact adj_names ok e
theorem EndK.next {n k : Str} (h : EndK b n) (e : k ∈ adj b n) : EndK b k := by
  cases h with
  | mk h => exact h k e
theorem EndK.rch {n k : Str} (h : EndK b n) (g : Rch b n k) : EndK b k := by
  induction g with
  | one e => exact h.next e
  | step _ e ih => exact ih.next e
theorem EndK.noring {n : Str} (h : EndK b n) : ¬ Rch b n n := by
  induction h with
  | mk h ih =>
    intro g
    obtain ⟨m, hm, e⟩ := g.split
    refine ih m hm ?_
    rcases e with e | e
    · rw [e]; exact g
    · exact .step e hm
/-- the walk that never ends -/
theorem not_ends {n : Str} (h : ¬ EndK b n) : ∃ k, k ∈ adj b n ∧ ¬ EndK b k := Classical.byContradiction fun g => h (.mk fun k hk => Classical.byContradiction fun z => g ⟨k, hk, z⟩)
theorem ring_of (ok : b.Ok) {n : Str} (hn : n ∈ b.names) (h : ¬ EndK b n) : ∃ r, Rch b r r ∧ (r = n ∨ Rch b n r) := by
  have ch : ∀ x : { x : Str // ¬ EndK b x }, ∃ y : { y : Str // ¬ EndK b y }, y.1 ∈ adj b x.1 := fun x => by
    obtain ⟨k, h1, h2⟩ := not_ends x.2
    exact ⟨⟨k, h2⟩, h1⟩
  let nx : { x : Str // ¬ EndK b x } → { x : Str // ¬ EndK b x } := fun x => (ch x).choose
  have hnx : ∀ x, (nx x).1 ∈ adj b x.1 := fun x => (ch x).choose_spec
  let w : Nat → { x : Str // ¬ EndK b x } := fun i => Nat.rec ⟨n, h⟩ (fun _ x => nx x) i
  have ws : ∀ i, (w (i + 1)).1 ∈ adj b (w i).1 := fun i => hnx (w i)
  have wm : ∀ i, (w i).1 ∈ b.names := fun i => by
    cases i with
    | zero => exact hn
    | succ i => exact adj_names ok (ws i)
  have wr : ∀ i d, Rch b (w i).1 (w (i + d + 1)).1 := by
    intro i d
    induction d with
    | zero => exact .one (ws i)
    | succ d ih => exact .step ih (ws (i + d + 1))
  have rep : ∃ i j, i < j ∧ (w i).1 = (w j).1 := by
    refine Classical.byContradiction fun z => ?_
    have nd : ((List.range (b.names.length + 1)).map fun i => (w i).1).Nodup := by
      refine List.pairwise_map.mpr (List.Pairwise.imp ?_ List.pairwise_lt_range)
      intro i j hij e
      exact z ⟨i, j, hij, e⟩
    have := nd.length_le_of_subset (l₂ := b.names) fun x hx => by
      obtain ⟨i, _, rfl⟩ := List.mem_map.mp hx
      exact wm i
    rw [List.length_map, List.length_range] at this
    omega
  obtain ⟨i, j, hij, e⟩ := rep
  refine ⟨(w i).1, ?_, ?_⟩
  · have := wr i (j - i - 1)
    rw [show i + (j - i - 1) + 1 = j by omega, ← e] at this
    exact this
  · cases i with
    | zero => exact .inl rfl
    | succ i =>
      have := wr 0 i
      rw [show 0 + i + 1 = i + 1 by omega] at this
      exact .inr this
end
inductive LedAll (K : PySem.W.Frag) (H : Hp) : List (Key × V) → Bk → Prop
  | nil : LedAll K H [] []
  | cons {l : Addr} {ss : List Str} {k : Kd} {kvs : List (Key × V)} {b : Bk} : H l = some (.lst (ss.map V.str)) → SrtOf ss (ledR k.rs) → LedAll K H kvs b → LedAll K H ((Sum.inr k.n, .ref l) :: kvs) (k :: b)
section
variable {K : PySem.W.Frag} {H H' : Hp}
theorem LedAll.length : ∀ {kvs : List (Key × V)} {b : Bk}, LedAll K H kvs b → kvs.length = b.length
  | _, _, .nil => rfl
  | _, _, .cons _ _ t => congrArg (· + 1) t.length
theorem LedAll.keep (h : ∀ l xs, H l = some (.lst xs) → H' l = some (.lst xs)) : ∀ {kvs : List (Key × V)} {b : Bk}, LedAll K H kvs b → LedAll K H' kvs b
  | _, _, .nil => .nil
  | _, _, .cons a s t => .cons (h _ _ a) s (LedAll.keep h t)
theorem LedAll.append : ∀ {kvs kws : List (Key × V)} {b c : Bk}, LedAll K H kvs b → LedAll K H kws c → LedAll K H (kvs ++ kws) (b ++ c)
  | _, _, _, _, .nil, h => h
  | _, _, _, _, .cons a s t, h => .cons a s (t.append h)
theorem LedAll.val {n : Str} {k : Kd} : ∀ {kvs : List (Key × V)} {b : Bk}, LedAll K H kvs b → b.get n = some k → ∃ l ss, valV kvs (Sum.inr n) = some (.ref l) ∧ H l = some (.lst (ss.map V.str)) ∧ SrtOf ss (ledR k.rs)
  | _, _, .nil, e => by simp [Bk.get] at e
  | _, _, .cons (l := l) (ss := ss) (k := kk) (b := bb) a s t, e => by
    by_cases h : kk.n = n
    · have e' : kk = k := by
        have : Bk.get (kk :: bb) n = some kk := by simp [Bk.get, h]
        rw [this] at e; exact Option.some.inj e
      subst e'
      exact ⟨l, ss, valV_pos (by rw [h]), a, s⟩
    · have e' : Bk.get bb n = some k := by
        unfold Bk.get at e
        rw [List.find?_cons_of_neg (by simpa using h)] at e
        exact e
      obtain ⟨l', ss', h1, h2, h3⟩ := t.val e'
      exact ⟨l', ss', by rw [valV_neg (fun z => h (Sum.inr.inj z))]; exact h1, h2, h3⟩
theorem LedAll.get : ∀ {kvs : List (Key × V)} {b : Bk} {i : Nat} {p : Key × V}, LedAll K H kvs b → kvs[i]? = some p → ∃ k, b[i]? = some k ∧ p.1 = Sum.inr k.n
  | _, _, _, _, .nil, e => by simp at e
  | _, _, 0, _, .cons a s t, e => by
    obtain rfl := Option.some.inj e
    exact ⟨_, rfl, rfl⟩
  | _, _, i + 1, _, .cons a s t, e => t.get (i := i) e
end
theorem SB.unlock {H H' : Hp} {d : Addr} {od : Obj} {u : HO} (s : SB [] (upd H d (.frz od u)) H') (hd : H d = some u) (n1 : ∀ xs, u ≠ .tup xs) (n2 : ∀ o v, u ≠ .frz o v) : SB [] H (upd H' d u) := by
  refine ⟨fun b o e _ => ?_, fun b xs e => ?_, fun b o v e => ?_, fun b e => ?_⟩
  · by_cases z : b = d
    · rw [z, upd_same]; rw [z, hd] at e; exact e
    · rw [upd_ne z]; exact s.keep b o (by rw [upd_ne z]; exact e) List.not_mem_nil
  · have z : b ≠ d := fun z => by rw [z, hd] at e; exact n1 _ (Option.some.inj e)
    rw [upd_ne z]; exact s.tups b xs (by rw [upd_ne z]; exact e)
  · have z : b ≠ d := fun z => by rw [z, hd] at e; exact n2 _ _ (Option.some.inj e)
    rw [upd_ne z]; exact s.frzs b o v (by rw [upd_ne z]; exact e)
  · have z : b ≠ d := fun z => by rw [z, upd_same] at e; cases e
    rw [upd_ne z] at e
    have := s.dom b e
    rwa [upd_ne z] at this
theorem getKR {H : Hp} {d : Addr} {kvs : List (Key × V)} {n : Str} {v : V} (h : L2.Rd H d (.dK kvs)) (e : valV kvs (Sum.inr n) = some v) : DGet H d (.str n) (some v) := .inl ⟨kvs, Sum.inr n, h, rfl, e.symm⟩
theorem LedAll.sb {K : PySem.W.Frag} {H H' : Hp} {ps : List Addr} (e : SB ps H H') : ∀ {kvs : List (Key × V)} {b : Bk}, LedAll K H kvs b → (∀ p ∈ kvs, ∀ q ∈ ps, p.2 ≠ .ref q) → LedAll K H' kvs b
  | _, _, .nil, _ => .nil
  | _, _, .cons a s t, h => .cons (e.keep _ _ a fun z => h _ List.mem_cons_self _ z rfl) s (LedAll.sb e t fun p hp => h p (List.mem_cons_of_mem _ hp))
theorem LedAll.ne {K : PySem.W.Frag} {H : Hp} {q : Addr} (hq : H q = none) : ∀ {kvs : List (Key × V)} {b : Bk}, LedAll K H kvs b → ∀ p ∈ kvs, p.2 ≠ .ref q
  | _, _, .nil, p, hp => by cases hp
  | _, _, .cons a s t, p, hp => by
    rcases List.mem_cons.mp hp with e | e
    · rw [e]
      intro z
      rw [V.ref.inj z] at a
      rw [a] at hq; cases hq
    · exact LedAll.ne hq t p e
theorem LedAll.keys {K : PySem.W.Frag} {H : Hp} : ∀ {kvs : List (Key × V)} {b : Bk}, LedAll K H kvs b → kvs.map (·.1) = b.names.map Sum.inr
  | _, _, .nil => rfl
  | _, _, .cons a s t => by rw [List.map_cons, LedAll.keys t]; rfl
end FT
namespace FT
open PySem PySem.W PySem.Spec PyProof.Rows L2
inductive Wlk (b : Bk) (n : Str) : List Sx → Str → Prop
  | nil : Wlk b n [] n
  | step {p : List Sx} {m : Str} {kd : Kd} {s : Sx} : Wlk b n p m → b.get m = some kd → s ∈ kd.steps → Wlk b n (p ++ [s]) s.k
section
variable {b : Bk} {K : PySem.W.Frag} {H H' : Hp} {F F' : Addr → Prop} {n k h : Str} {l : Addr} {A B A' B' : Nat} {ps : List Addr}
theorem step_adj {m : Str} {kd : Kd} {s : Sx} (e : b.get m = some kd) (hs : s ∈ kd.steps) : s.k ∈ adj b m := by
  rw [adj_get e, ← Kd.steps_kinds]
  exact List.mem_map.mpr ⟨s, hs, rfl⟩
theorem Wlk.rch {p : List Sx} (w : Wlk b n p k) : p ≠ [] → Rch b n k := by
  induction w with
  | nil => exact fun h => absurd rfl h
  | @step p m kd s w e hs ih =>
    intro _
    by_cases hp : p = []
    · have hm : m = n := by
        have : ∀ (q : List Sx) (k : Str), Wlk b n q k → q = [] → k = n := fun q k w z => by
          induction w with
          | nil => rfl
          | step _ _ _ _ => simp at z
        exact this _ _ w hp
      subst hm
      exact .one (step_adj e hs)
    · exact .step (ih hp) (step_adj e hs)
/-- l holds a walk from n to k, of at least A and at most B steps -/
def Wy (K : PySem.W.Frag) (H : Hp) (F : Addr → Prop) (b : Bk) (n : Str) (A B : Nat) (k : Str) (l : Addr) : Prop := ∃ us q, H l = some (.lst us) ∧ Bears K H Sx.st us q ∧ Wlk b n q k ∧ A ≤ q.length ∧ q.length ≤ B ∧ F l
theorem Wy.sb (e : SB ps H H') (hn : ∀ p ∈ ps, ¬ F p ∨ ∀ us, H p ≠ some (.lst us)) : Wy K H F b n A B k l → Wy K H' F b n A B k l := by
  rintro ⟨us, q, h1, h2, h3, h4, h5, h6⟩
  exact ⟨us, q, e.keep _ _ h1 (fun z => (hn _ z).elim (fun y => y h6) fun y => y _ h1), h2.sb e Sx.noList_st, h3, h4, h5, h6⟩
theorem Wy.imp (hA : A' ≤ A) (hB : B ≤ B') (hF : ∀ l us, H l = some (.lst us) → F l → F' l) : Wy K H F b n A B k l → Wy K H F' b n A' B' k l := by
  rintro ⟨us, q, h1, h2, h3, h4, h5, h6⟩
  exact ⟨us, q, h1, h2, h3, by omega, by omega, hF _ _ h1 h6⟩
inductive WyD (K : PySem.W.Frag) (H : Hp) (F : Addr → Prop) (b : Bk) (n : Str) (A B : Nat) : List (Key × V) → List Str → Prop
  | nil : WyD K H F b n A B [] []
  | cons {k : Str} {l : Addr} {kvs : List (Key × V)} {ks : List Str} : Wy K H F b n A B k l → WyD K H F b n A B kvs ks → WyD K H F b n A B ((Sum.inr k, .ref l) :: kvs) (k :: ks)
theorem WyD.map (f : ∀ k l, Wy K H F b n A B k l → Wy K H' F' b n A' B' k l) : ∀ {kvs : List (Key × V)} {ks : List Str}, WyD K H F b n A B kvs ks → WyD K H' F' b n A' B' kvs ks
  | _, _, .nil => .nil
  | _, _, .cons h t => .cons (f _ _ h) (WyD.map f t)
theorem WyD.sb {kvs : List (Key × V)} {ks : List Str} (h : WyD K H F b n A B kvs ks) (e : SB ps H H') (hn : ∀ p ∈ ps, ¬ F p ∨ ∀ us, H p ≠ some (.lst us)) : WyD K H' F b n A B kvs ks := h.map fun _ _ => Wy.sb e hn
theorem WyD.imp {kvs : List (Key × V)} {ks : List Str} (h : WyD K H F b n A B kvs ks) (hA : A' ≤ A) (hB : B ≤ B') (hF : ∀ l us, H l = some (.lst us) → F l → F' l) : WyD K H F' b n A' B' kvs ks := h.map fun _ _ => Wy.imp hA hB hF
theorem WyD.append : ∀ {kvs kws : List (Key × V)} {ks js : List Str}, WyD K H F b n A B kvs ks → WyD K H F b n A B kws js → WyD K H F b n A B (kvs ++ kws) (ks ++ js)
  | _, _, _, _, .nil, h => h
  | _, _, _, _, .cons a t, h => .cons a (t.append h)
theorem WyD.length : ∀ {kvs : List (Key × V)} {ks : List Str}, WyD K H F b n A B kvs ks → kvs.length = ks.length
  | _, _, .nil => rfl
  | _, _, .cons _ t => congrArg (· + 1) t.length
theorem WyD.keys : ∀ {kvs : List (Key × V)} {ks : List Str}, WyD K H F b n A B kvs ks → kvs.map (·.1) = ks.map Sum.inr
  | _, _, .nil => rfl
  | _, _, .cons _ t => by rw [List.map_cons, t.keys]; rfl
theorem WyD.val : ∀ {kvs : List (Key × V)} {ks : List Str}, WyD K H F b n A B kvs ks → k ∈ ks → ∃ l, valV kvs (Sum.inr k) = some (.ref l) ∧ Wy K H F b n A B k l
  | _, _, .nil, h => by cases h
  | _, _, .cons (k := j) (l := l) a t, h => by
    by_cases e : j = k
    · subst e
      exact ⟨l, valV_pos rfl, a⟩
    · obtain ⟨l', h1, h2⟩ := t.val ((List.mem_cons.mp h).resolve_left fun z => e z.symm)
      exact ⟨l', by rw [valV_neg (fun z => e (Sum.inr.inj z))]; exact h1, h2⟩
theorem WyD.none : ∀ {kvs : List (Key × V)} {ks : List Str}, WyD K H F b n A B kvs ks → k ∉ ks → valV kvs (Sum.inr k) = none
  | _, _, .nil, h => rfl
  | _, _, .cons (k := j) a t, h => by
    rw [valV_neg (fun z => h (by rw [← Sum.inr.inj z]; exact List.mem_cons_self))]
    exact t.none fun z => h (List.mem_cons_of_mem _ z)
theorem WyD.put {kvs : List (Key × V)} {ks : List Str} (h : WyD K H F b n A B kvs ks) (hk : k ∉ ks) (w : Wy K H F b n A B k l) : WyD K H F b n A B (putK kvs (Sum.inr k) (.ref l)) (ks ++ [k]) := by
  rw [putK_new fun p hp z => ?_]
  · exact h.append (.cons w .nil)
  · have : p.1 ∈ ks.map (Sum.inr (α := Int)) := by rw [← h.keys]; exact List.mem_map.mpr ⟨p, hp, rfl⟩
    rw [z] at this
    obtain ⟨m, hm, e⟩ := List.mem_map.mp this
    exact hk (by rw [← Sum.inr.inj e]; exact hm)
/-- heads with their walks -/
inductive HdAll (K : PySem.W.Frag) (H : Hp) (F : Addr → Prop) (b : Bk) (n : Str) (A B : Nat) : List V → List Str → Prop
  | nil : HdAll K H F b n A B [] []
  | cons {k : Str} {t l : Addr} {vs : List V} {ks : List Str} : SqT K H t [.str k, .ref l] → Wy K H F b n A B k l → HdAll K H F b n A B vs ks → HdAll K H F b n A B (.ref t :: vs) (k :: ks)
theorem HdAll.sb (e : SB ps H H') (hn : ∀ p ∈ ps, ¬ F p ∨ ∀ us, H p ≠ some (.lst us)) : ∀ {vs : List V} {ks : List Str}, HdAll K H F b n A B vs ks → HdAll K H' F b n A B vs ks
  | _, _, .nil => .nil
  | _, _, .cons a w t => .cons (e.sqT a) (w.sb e hn) (HdAll.sb e hn t)
theorem HdAll.imp (hA : A' ≤ A) (hB : B ≤ B') (hF : ∀ l us, H l = some (.lst us) → F l → F' l) : ∀ {vs : List V} {ks : List Str}, HdAll K H F b n A B vs ks → HdAll K H F' b n A' B' vs ks
  | _, _, .nil => .nil
  | _, _, .cons a w t => .cons a (w.imp hA hB hF) (HdAll.imp hA hB hF t)
theorem HdAll.append : ∀ {vs ws : List V} {ks js : List Str}, HdAll K H F b n A B vs ks → HdAll K H F b n A B ws js → HdAll K H F b n A B (vs ++ ws) (ks ++ js)
  | _, _, _, _, .nil, h => h
  | _, _, _, _, .cons a w t, h => .cons a w (t.append h)
theorem HdAll.length : ∀ {vs : List V} {ks : List Str}, HdAll K H F b n A B vs ks → vs.length = ks.length
  | _, _, .nil => rfl
  | _, _, .cons _ _ t => congrArg (· + 1) t.length
theorem HdAll.get : ∀ {vs : List V} {ks : List Str} {i : Nat} {v : V}, HdAll K H F b n A B vs ks → vs[i]? = some v → ∃ k t l, ks[i]? = some k ∧ v = .ref t ∧ SqT K H t [.str k, .ref l] ∧ Wy K H F b n A B k l
  | _, _, _, _, .nil, e => by simp at e
  | _, _, 0, _, .cons a w t, e => by
    obtain rfl := Option.some.inj e
    exact ⟨_, _, _, rfl, rfl, a, w⟩
  | _, _, i + 1, _, .cons a w t, e => t.get (i := i) e
theorem Wlk.known (ok : b.Ok) {k0 : Kd} (e : b.get n = some k0) {p : List Sx} (w : Wlk b n p k) : ∃ kd, b.get k = some kd := by
  cases w with
  | nil => exact ⟨k0, e⟩
  | @step p m kd s w e1 hs =>
    have h1 := adj_names ok (step_adj e1 hs)
    obtain ⟨kk, h2, h3⟩ := List.mem_map.mp h1
    exact ⟨kk, by rw [← h3]; exact Bk.get_self ok.nd h2⟩
/-- within a round of ways_from: gs are the kinds newly found, with their heads in G -/
structure WSt (K : PySem.W.Frag) (H H2 : Hp) (b : Bk) (n : Str) (Wd Fa G : Addr) (vs : List V) (hs ks gs : List Str) : Prop where
  sb : SB [] H H2
  wd : ∃ kvs, H2 Wd = some (.dK kvs) ∧ WyD K H2 (fun l => H l = none ∧ l ≠ G) b n 1 (ks.length + 1) kvs (ks ++ gs)
  g : ∃ ws, H2 G = some (.lst ws) ∧ HdAll K H2 (fun l => H l = none ∧ l ≠ G) b n 1 (ks.length + 1) ws gs
  fa : H2 Fa = some (.lst vs)
  hd : HdAll K H2 (fun l => H l = none ∧ l ≠ G) b n 0 ks.length vs hs
  nd : (ks ++ gs).Nodup
  rc : ∀ x ∈ ks ++ gs, Rch b n x
theorem WSt.keep {H2 H3 : Hp} {Wd Fa G : Addr} {vs : List V} {hs ks gs : List Str} (h : WSt K H H2 b n Wd Fa G vs hs ks gs) (s : SB [] H2 H3) : WSt K H H3 b n Wd Fa G vs hs ks gs := by
  obtain ⟨h1, ⟨kvs, h2, h3⟩, ⟨ws, h4, h5⟩, h6, h7, h8, h9⟩ := h
  have z : ∀ p ∈ ([] : List Addr), ¬ (fun l => H l = none ∧ l ≠ G) p ∨ ∀ us, H2 p ≠ some (.lst us) := fun _ y => nomatch y
  exact ⟨h1.trans s, ⟨kvs, s.keep _ _ h2 List.not_mem_nil, h3.sb s z⟩, ⟨ws, s.keep _ _ h4 List.not_mem_nil, h5.sb s z⟩, s.keep _ _ h6 List.not_mem_nil, h7.sb s z, h8, h9⟩
/-- a kind more -/
theorem WSt.add {H2 : Hp} {Wd Fa G a T : Addr} {vs ws : List V} {hs ks gs : List Str} {kvs : List (Key × V)} {k : Str} (h : WSt K H H2 b n Wd Fa G vs hs ks gs) (nW : H Wd = none) (nG : H G = none) (FG : Fa ≠ G)
    (hW : H2 Wd = some (.dK kvs)) (hk : k ∉ ks ++ gs) (r : Rch b n k) (w : Wy K H2 (fun l => H l = none ∧ l ≠ G) b n 1 (ks.length + 1) k a) (hT : upd H2 Wd (.dK (putK kvs (Sum.inr k) (.ref a))) T = none)
    (hG : upd (upd H2 Wd (.dK (putK kvs (Sum.inr k) (.ref a)))) T (.tup [.str k, .ref a]) G = some (.lst ws)) :
    WSt K H (upd (upd (upd H2 Wd (.dK (putK kvs (Sum.inr k) (.ref a)))) T (.tup [.str k, .ref a])) G (.lst (ws ++ [.ref T]))) b n Wd Fa G vs hs ks (gs ++ [k]) := by
  obtain ⟨h1, ⟨kvs', h2, h3⟩, ⟨ws', h4, h5⟩, h6, h7, h8, h9⟩ := h
  rw [hW] at h2
  injection h2 with h2
  injection h2 with h2
  subst h2
  have t1 : SB [Wd] H2 (upd H2 Wd (.dK (putK kvs (Sum.inr k) (.ref a)))) := SB.setD hW (by simp) _
  have t2 : SB [Wd] _ (upd (upd H2 Wd (.dK (putK kvs (Sum.inr k) (.ref a)))) T (.tup [.str k, .ref a])) := SB.new hT _
  have t12 := t1.trans t2
  have WG : Wd ≠ G := fun z => by rw [z, h4] at hW; cases hW
  have WF : Wd ≠ Fa := fun z => by rw [z, h6] at hW; cases hW
  have zW : ∀ p ∈ [Wd], ¬ (fun l => H l = none ∧ l ≠ G) p ∨ ∀ us, H2 p ≠ some (.lst us) := fun p hp => .inr fun us => by rw [List.mem_singleton.mp hp, hW]; exact fun y => nomatch y
  have eG := t12.keep _ _ h4 (by simpa using fun z => WG z.symm)
  rw [hG] at eG
  injection eG with eG
  injection eG with eG
  subst eG
  have hT2 : upd (upd H2 Wd (.dK (putK kvs (Sum.inr k) (.ref a)))) T (.tup [.str k, .ref a]) T = some (.tup [.str k, .ref a]) := upd_same
  have hW2 : upd (upd H2 Wd (.dK (putK kvs (Sum.inr k) (.ref a)))) T (.tup [.str k, .ref a]) Wd = some (.dK (putK kvs (Sum.inr k) (.ref a))) := by
    rw [upd_ne (fun z => by rw [← z, upd_same] at hT; cases hT), upd_same]
  have f6 := t12.keep _ _ h6 (by simpa using fun z => WF z.symm)
  have g3 := (h3.put hk w).sb t12 zW
  have g5 := h5.sb t12 zW
  have g7 := h7.sb t12 zW
  have gw := w.sb t12 zW
  have s12 : SB [] H (upd (upd H2 Wd (.dK (putK kvs (Sum.inr k) (.ref a)))) T (.tup [.str k, .ref a])) := ((h1.nil (ps := [Wd])).trans t12).drop nW
  generalize upd (upd H2 Wd (.dK (putK kvs (Sum.inr k) (.ref a)))) T (.tup [.str k, .ref a]) = H4 at *
  have t3 : SB [G] H4 (upd H4 G (.lst (ws ++ [.ref T]))) := SB.set hG (by simp) _
  have zG : ∀ p ∈ [G], ¬ (fun l => H l = none ∧ l ≠ G) p ∨ ∀ us, H4 p ≠ some (.lst us) := fun p hp => .inl fun y => y.2 (List.mem_singleton.mp hp)
  have e0 : ks ++ (gs ++ [k]) = ks ++ gs ++ [k] := by rw [List.append_assoc]
  refine ⟨((s12.nil (ps := [G])).trans t3).drop nG, ⟨_, t3.keep _ _ hW2 (by simpa using WG), by rw [e0]; exact g3.sb t3 zG⟩, ⟨_, upd_same, (g5.sb t3 zG).append (.cons (t3.sqT (SqT.of hT2)) (gw.sb t3 zG) .nil)⟩, t3.keep _ _ f6 (by simpa using FG), g7.sb t3 zG, ?_, ?_⟩
  · rw [e0]
    exact List.nodup_append.mpr ⟨h8, by simp, fun x hx y hy e => by rw [List.mem_singleton.mp hy] at e; rw [e] at hx; exact hk hx⟩
  · rw [e0]
    intro x hx
    rcases List.mem_append.mp hx with hx | hx
    · exact h9 x hx
    · rw [List.mem_singleton.mp hx]; exact r
theorem rch_closed {ks : List Str} (h : ∀ x, x = n ∨ x ∈ ks → ∀ y ∈ adj b x, y ∈ ks) (r : Rch b n k) : k ∈ ks := by
  induction r with
  | one e => exact h n (.inl rfl) _ e
  | step _ e ih => exact h _ (.inr ih) _ e
end
def spWays (K : PySem.W.Frag) (C N : Addr) : Sp := fun vs H Q E => ∃ (v : V) (b : Bk) (n : Str), vs = [v, .str n] ∧ BkA K C H v b ∧ b.Ok ∧
  kindOr N b n H E fun _ => ∀ (d : Addr) (kvs : List (Key × V)) (ks : List Str) (H' : Hp), SB [] H H' → H d = none → H' d = some (.dK kvs) → WyD K H' (fun l => H l = none) b n 1 9 kvs ks → ks.Nodup → (∀ x, x ∈ ks ↔ Rch b n x) → Q (.ref d) H'
def spRound (K : PySem.W.Frag) (C N : Addr) : Sp := fun vs H Q E => ∃ (v : V) (b : Bk) (n : Str), vs = [v, .str n] ∧ BkA K C H v b ∧ b.Ok ∧
  kindOr N b n H E fun _ => (EndK b n → ∀ H', SB [] H H' → Q .non H') ∧ (¬ EndK b n → ∀ (t l1 l2 : Addr) (m : Str) (H' : Hp), SB [] H H' → H t = none → SqT K H' t [.ref l1, .ref l2] → l1 ≠ l2 → Wy K H' (fun l => H l = none) b n 0 9 m l1 → Wy K H' (fun l => H l = none) b m 1 9 m l2 → Q (.ref t) H')
end FT
namespace FT
open PySem PySem.W PySem.Spec PyProof.Rows L2
theorem Rd.sb {H H' : Hp} {d : Addr} {kvs : List (Key × V)} (h : L2.Rd H d (.dK kvs)) (s : SB [] H H') : L2.Rd H' d (.dK kvs) := by
  rcases h with h | ⟨o, h⟩
  · exact .inl (s.keep _ _ h List.not_mem_nil)
  · exact .inr ⟨o, s.frzs _ _ _ h⟩
end FT
namespace FT
open PySem PySem.W PySem.Spec PyProof.Rows L2
theorem filt_step (f : Str → Bool) {ss : List Str} {j : Nat} {x : Str} (e : ss[j]? = some x) : ((ss.take (j + 1)).filter f).map V.str = ((ss.take j).filter f).map V.str ++ (if f x = true then [V.str x] else []) := by
  rw [List.take_add_one, e, List.filter_append, List.map_append]
  congr 1
  by_cases z : f x = true
  · simp [z]
  · simp [z]
variable {K : PySem.W.Frag} {H H' : Hp}
mutual
theorem Dp_tp (e : ∀ a xs, SqT K H a xs → SqT K H' a xs) : ∀ (d : PyData) (v : V), noList d = true → Dp K H v d → Dp K H' v d
  | .none, _, _, h => by cases h; exact .non
  | .bool b, _, _, h => by cases h; exact .bl b
  | .int i, _, _, h => by cases h; exact .int i
  | .str x, _, _, h => by cases h; exact .str x
  | .list ds, _, n, _ => by simp [noList] at n
  | .dict ds, _, n, _ => by simp [noList] at n
  | .tuple ds, _, n, h => by
    cases h with
    | tup hs ha => exact .tup (e _ _ hs) (DpAll_tp e ds _ (by simpa [noList] using n) ha)
theorem DpAll_tp (e : ∀ a xs, SqT K H a xs → SqT K H' a xs) : ∀ (ds : List PyData) (vs : List V), noLists ds = true → DpAll K H vs ds → DpAll K H' vs ds
  | [], _, _, h => by cases h; exact .nil
  | d :: ds, _, n, h => by
    cases h with
    | cons h1 h2 =>
      simp [noLists] at n
      exact .cons (Dp_tp e d _ n.1 h1) (DpAll_tp e ds _ n.2 h2)
end
theorem Bears.tp {β : Type} {enc : β → PyData} (e : ∀ a xs, SqT K H a xs → SqT K H' a xs) (hn : ∀ b, noList (enc b) = true) : ∀ {xs : List V} {bs : List β}, Bears K H enc xs bs → Bears K H' enc xs bs
  | _, _, .nil => .nil
  | _, _, .cons a b => .cons (Dp_tp e _ _ (hn _) a) (Bears.tp e hn b)
theorem sqT_dic {D : Addr} {od : Obj} {kvs : List (Key × V)} {u : HO} (h : H D = some (.frz od (.dK kvs))) (a : Addr) (xs : List V) (s : SqT K H a xs) : SqT K (upd H D u) a xs := by
  rcases s with (s | ⟨o, s⟩) | s
  · exact .inl (.inl (by rw [upd_ne (fun z => by rw [z, h] at s; cases s)]; exact s))
  · exact .inl (.inr ⟨o, by rw [upd_ne (fun z => by rw [z, h] at s; cases s)]; exact s⟩)
  · exact .inr s
theorem Wy.dic {F : Addr → Prop} {b : Bk} {n k : Str} {A B : Nat} {l D : Addr} {od : Obj} {kvs : List (Key × V)} {u : HO} (h : H D = some (.frz od (.dK kvs))) : Wy K H F b n A B k l → Wy K (upd H D u) F b n A B k l := by
  rintro ⟨us, q, h1, h2, h3, h4, h5, h6⟩
  exact ⟨us, q, by rw [upd_ne (fun z => by rw [z, h] at h1; cases h1)]; exact h1, h2.tp (sqT_dic h) Sx.noList_st, h3, h4, h5, h6⟩
end FT
namespace FT
open PySem PySem.W PySem.Spec PyProof.Rows L2
theorem sumE_cons {γ : Type} [DecidableEq γ] (p : γ × Int) (r : List (γ × Int)) (x : γ) : sumE (p :: r) x = (if p.1 = x then p.2 else 0) + sumE r x := rfl
namespace Gr
def woL (t : Tr) (m : Int) : List (Tr × Int) → List (Tr × Int)
  | [] => []
  | p :: r => if p.1 ≠ t then p :: woL t m r else if m < p.2 then (p.1, p.2 - m) :: woL t m r else woL t m r
theorem woL_mem {t : Tr} {m : Int} (hm : 0 ≤ m) : ∀ {bs : List (Tr × Int)} {p : Tr × Int}, p ∈ woL t m bs → ∃ q ∈ bs, q.1 = p.1 ∧ p.2 ≤ q.2 ∧ (1 ≤ q.2 → 1 ≤ p.2)
  | [], _, h => nomatch h
  | q :: r, p, h => by
    rw [woL] at h
    split at h
    · rcases List.mem_cons.mp h with e | h
      · exact ⟨q, by simp, by rw [e], by rw [e]; exact Int.le_refl _, by rw [e]; exact id⟩
      · obtain ⟨q', h1, h2⟩ := woL_mem hm h; exact ⟨q', by simp [h1], h2⟩
    · split at h
      · rcases List.mem_cons.mp h with e | h
        · exact ⟨q, by simp, by rw [e], by rw [e]; show q.2 - m ≤ q.2; omega, by rw [e]; show _ → 1 ≤ q.2 - m; omega⟩
        · obtain ⟨q', h1, h2⟩ := woL_mem hm h; exact ⟨q', by simp [h1], h2⟩
      · obtain ⟨q', h1, h2⟩ := woL_mem hm h; exact ⟨q', by simp [h1], h2⟩
theorem woL_key {t : Tr} {m : Int} : ∀ {bs : List (Tr × Int)} {p : Tr × Int}, p ∈ woL t m bs → ∃ q ∈ bs, q.1 = p.1
  | [], _, h => nomatch h
  | q :: r, p, h => by
    rw [woL] at h
    split at h
    · rcases List.mem_cons.mp h with e | h
      · exact ⟨q, by simp, by rw [e]⟩
      · obtain ⟨q', h1, h2⟩ := woL_key h; exact ⟨q', by simp [h1], h2⟩
    · split at h
      · rcases List.mem_cons.mp h with e | h
        · exact ⟨q, by simp, by rw [e]⟩
        · obtain ⟨q', h1, h2⟩ := woL_key h; exact ⟨q', by simp [h1], h2⟩
      · obtain ⟨q', h1, h2⟩ := woL_key h; exact ⟨q', by simp [h1], h2⟩
theorem woL_pair {R : Tr → Tr → Prop} {t : Tr} {m : Int} : ∀ {bs : List (Tr × Int)}, bs.Pairwise (fun p q => R p.1 q.1) → (woL t m bs).Pairwise (fun p q => R p.1 q.1)
  | [], _ => .nil
  | p :: r, h => by
    obtain ⟨h1, h2⟩ := List.pairwise_cons.mp h
    have ih := woL_pair (t := t) (m := m) h2
    have hk : ∀ q ∈ woL t m r, R p.1 q.1 := fun q hq => by
      obtain ⟨q', hq', e⟩ := woL_key hq
      rw [← e]; exact h1 q' hq'
    rw [woL]
    split
    · exact List.pairwise_cons.mpr ⟨hk, ih⟩
    · split
      · exact List.pairwise_cons.mpr ⟨hk, ih⟩
      · exact ih
theorem woL_tot (t : Tr) (m : Int) : ∀ bs : List (Tr × Int), tot (woL t m bs) ≤ tot bs
  | [] => Nat.le_refl _
  | p :: r => by
    have ih := woL_tot t m r
    rw [woL]
    split
    · simp only [tot]; omega
    · split
      · simp only [tot]; omega
      · simp only [tot]; omega
theorem woL_len (t : Tr) (m : Int) : ∀ bs : List (Tr × Int), (woL t m bs).length ≤ bs.length
  | [] => Nat.le_refl _
  | p :: r => by
    have ih := woL_len t m r
    rw [woL]
    split
    · simp only [List.length_cons]; omega
    · split
      · simp only [List.length_cons]; omega
      · simp only [List.length_cons]; omega
/-- without so many of a tree -/
def wo (g : Gr) (t : Tr) (m : Int) : Gr := ofPs (woL t m g.ps)
theorem wo_ps (g : Gr) (t : Tr) (m : Int) : (wo g t m).ps = woL t m g.ps := ps_ofPs _
variable {C D E : Int} {g k : Gr}
theorem wo_ok (h : g.Ok C) {t : Tr} {m : Int} (hm : 0 ≤ m) : (wo g t m).Ok C := by
  obtain ⟨h1, h2⟩ := ok_iff.mp h
  refine ok_ps.mpr ⟨fun p hp => ?_, woL_pair (R := fun a b => dataLt (tEnc a) (tEnc b) = true) h2⟩
  obtain ⟨q, hq, e, l, o⟩ := woL_mem hm hp
  obtain ⟨a, b, c, d⟩ := h1 q hq
  rw [← e]
  exact ⟨a, b, o c, by omega⟩
theorem wo_parts (g : Gr) (t : Tr) (m : Int) : (wo g t m).parts ≤ g.parts := by
  rw [wo, parts_ofPs, ← tot_ps g]; exact woL_tot _ _ _
theorem wo_len (g : Gr) (t : Tr) (m : Int) : (wo g t m).ps.length ≤ g.ps.length := by rw [wo_ps]; exact woL_len _ _ _
theorem wo_deep (g : Gr) (t : Tr) (m : Int) : (wo g t m).deep ≤ g.deep := by
  refine deep_le fun p hp => ?_
  rw [wo_ps] at hp
  obtain ⟨q, hq, e⟩ := woL_key hp
  rw [← e]; exact mem_deep g q hq
/-- the place of a tree among the trees of a grove -/
def pos (g : Gr) (t : Tr) : Nat := (g.ps.map (·.1)).idxOf t
/-- one kind of tree, so many -/
def one (t : Tr) (m : Int) : Gr := .cons t.1 t.2 m .nil
end Gr
end FT
namespace FT
open PySem PySem.W PySem.Spec PyProof.Rows L2
def Wd (d : PyData) : Prop := d.canLay0 = true ∧ d.depth ≤ 190
theorem Wd.of {d : PyData} (h : SeqAt.shaped d = true) : Wd d := ⟨SeqAt.canLay_of_shaped h, by have := SeqAt.depth_of_shaped h; omega⟩
theorem Gr.wd {C : Int} {g : Gr} (h : g.Ok C) (hd : g.deep ≤ 63) : Wd g.enc := ⟨by simp [Gr.enc, PyData.canLay0, Gr.lays h], by have := g.enc_depth; omega⟩
end FT
namespace FT
open PySem PySem.W PySem.Spec PyProof.Rows L2
theorem Wh.int {K : PySem.W.Frag} {H : Hp} {v : V} {n : Int} (h : Wh K H v (some n)) : v = .int n := by
  rcases h with ⟨i, rfl, e⟩ | ⟨e, _⟩
  · rw [Option.some.inj e]
  · cases e
end FT
namespace FT
open PySem PySem.W PySem.Spec PyProof.Rows L2
/-- taken away one by one, if there is enough -/
def Gr.exc (g : Gr) : List (Tr × Int) → Option Gr
  | [] => some g
  | p :: r => if Gr.S g p.1 < p.2 then none else Gr.exc (Gr.wo g p.1 p.2) r
namespace Gr
variable {C F : Int} {g : Gr} {b : Bk} {n : Int}
theorem exc_ok : ∀ {ps : List (Tr × Int)} {g l : Gr}, g.Ok C → (∀ p ∈ ps, 0 ≤ p.2) → exc g ps = some l → l.Ok C ∧ l.parts ≤ g.parts ∧ l.deep ≤ g.deep ∧ l.ps.length ≤ g.ps.length
  | [], g, l, ho, _, h => by rw [← Option.some.inj h]; exact ⟨ho, Nat.le_refl _, Nat.le_refl _, Nat.le_refl _⟩
  | p :: r, g, l, ho, hp, h => by
    rw [exc] at h
    split at h
    · cases h
    · have h0 := hp p (by simp)
      obtain ⟨a1, a2, a3, a4⟩ := exc_ok (wo_ok ho h0) (fun q hq => hp q (by simp [hq])) h
      have := wo_parts g p.1 p.2
      have := wo_deep g p.1 p.2
      have := wo_len g p.1 p.2
      exact ⟨a1, by omega, by omega, by omega⟩
end Gr
end FT
namespace FT
open PySem PySem.W PySem.Spec PyProof.Rows L2
theorem nilI {σ : L2.St} {H : Hp} {Q : List V → Hp → Prop} (h : Q [] H) : tNil σ H Q := h
end FT
namespace FT
open PySem PySem.W PySem.Spec PyProof.Rows L2
inductive RowAll (K : PySem.W.Frag) (H : Hp) : List (Key × V) → Bk → Prop
  | nil : RowAll K H [] []
  | cons {l : Addr} {zs : List V} {k : Kd} {kvs : List (Key × V)} {b : Bk} : H l = some (.lst zs) → Bears K H Ru.enc zs k.rs → RowAll K H kvs b → RowAll K H ((Sum.inr k.n, .ref l) :: kvs) (k :: b)
section
variable {K : PySem.W.Frag} {H H' : Hp}
theorem RowAll.sb {ps : List Addr} (e : SB ps H H') : ∀ {kvs : List (Key × V)} {b : Bk}, RowAll K H kvs b → (∀ p ∈ kvs, ∀ q ∈ ps, p.2 ≠ .ref q) → RowAll K H' kvs b
  | _, _, .nil, _ => .nil
  | _, _, .cons h1 h2 h3, n => .cons (e.keep _ _ h1 fun z => n _ (List.mem_cons_self ..) _ z rfl) (h2.sb e Ru.noList_enc) (RowAll.sb e h3 fun p hp => n p (List.mem_cons_of_mem _ hp))
theorem RowAll.append : ∀ {kvs kws : List (Key × V)} {b c : Bk}, RowAll K H kvs b → RowAll K H kws c → RowAll K H (kvs ++ kws) (b ++ c)
  | _, _, _, _, .nil, h => h
  | _, _, _, _, .cons h1 h2 h3, h => .cons h1 h2 (RowAll.append h3 h)
theorem RowAll.ne {q : Addr} (hq : H q = none) : ∀ {kvs : List (Key × V)} {b : Bk}, RowAll K H kvs b → ∀ p ∈ kvs, p.2 ≠ .ref q
  | _, _, .nil, _, hp => nomatch hp
  | _, _, .cons h1 _ h3, p, hp => by
    rcases List.mem_cons.mp hp with e | hp
    · rw [e]; intro z; rw [V.ref.inj z] at h1; rw [hq] at h1; cases h1
    · exact RowAll.ne hq h3 p hp
theorem RowAll.length : ∀ {kvs : List (Key × V)} {b : Bk}, RowAll K H kvs b → kvs.length = b.length
  | _, _, .nil => rfl
  | _, _, .cons _ _ h => by rw [List.length_cons, List.length_cons, RowAll.length h]
theorem RowAll.keys : ∀ {kvs : List (Key × V)} {b : Bk}, RowAll K H kvs b → kvs.map (·.1) = b.names.map Sum.inr
  | _, _, .nil => rfl
  | _, _, .cons _ _ h => by simp only [List.map_cons, RowAll.keys h]
theorem RowAll.val {n : Str} {k : Kd} : ∀ {kvs : List (Key × V)} {b : Bk}, RowAll K H kvs b → b.get n = some k → ∃ l zs, valV kvs (Sum.inr n) = some (.ref l) ∧ H l = some (.lst zs) ∧ Bears K H Ru.enc zs k.rs
  | _, _, .nil, e => nomatch e
  | _, _, .cons (l := l) (zs := zs) (k := k') h1 h2 h3, e => by
    unfold Bk.get at e
    rw [List.find?_cons] at e
    by_cases z : k'.n = n
    · rw [decide_eq_true z] at e
      have e := Option.some.inj e
      subst e
      exact ⟨l, zs, by rw [valV, List.find?_cons, decide_eq_true (by rw [z])]; rfl, h1, h2⟩
    · rw [decide_eq_false z] at e
      obtain ⟨l', zs', a, b', c⟩ := RowAll.val h3 e
      exact ⟨l', zs', by rw [valV, List.find?_cons, decide_eq_false (fun y => z (Sum.inr.inj y))]; exact a, b', c⟩
end
theorem Wlk.snoc {b : Bk} {n : Str} {p : List Sx} {s : Sx} {k : Str} (h : Wlk b n (p ++ [s]) k) : ∃ m kd, Wlk b n p m ∧ b.get m = some kd ∧ s ∈ kd.steps ∧ k = s.k := by
  generalize e : p ++ [s] = l at h
  cases h with
  | nil => exact absurd e (by simp)
  | step w eg hs =>
    obtain ⟨e1, e2⟩ := List.append_inj' e rfl
    have e2 := (List.cons.inj e2).1
    subst e1 e2
    exact ⟨_, _, w, eg, hs, rfl⟩
theorem Wlk.of_nil {b : Bk} {n k : Str} (h : Wlk b n [] k) : k = n := by
  generalize e : ([] : List Sx) = l at h
  cases h with
  | nil => rfl
  | step _ _ _ => exact absurd e (by simp)
theorem Wlk.det {b : Bk} {n : Str} : ∀ {p : List Sx} {k j : Str}, Wlk b n p k → Wlk b n p j → k = j := by
  intro p k j h g
  rcases List.eq_nil_or_concat p with rfl | ⟨q, s, rfl⟩
  · rw [h.of_nil, g.of_nil]
  · rw [List.concat_eq_append] at h g
    obtain ⟨_, _, _, _, _, e1⟩ := h.snoc
    obtain ⟨_, _, _, _, _, e2⟩ := g.snoc
    rw [e1, e2]
theorem Wlk.at {b : Bk} {n : Str} : ∀ {p : List Sx} {k : Str} {j : Nat} {s : Sx}, Wlk b n p k → p[j]? = some s → ∀ m, Wlk b n (p.take j) m → ∃ kd, b.get m = some kd ∧ s ∈ kd.steps := by
  intro p k j s h
  induction h with
  | nil => intro e; exact nomatch e
  | @step p m' kd s' w eg hs ih =>
    intro e m wm
    by_cases hj : j < p.length
    · rw [List.getElem?_append_left hj] at e
      rw [List.take_append_of_le_length (by omega)] at wm
      exact ih e m wm
    · rw [List.getElem?_append_right (by omega)] at e
      have hj2 : j = p.length := by
        obtain ⟨h1, _⟩ := List.getElem?_eq_some_iff.mp e
        simp only [List.length_cons, List.length_nil] at h1
        omega
      subst hj2
      rw [List.take_left] at wm
      rw [Nat.sub_self] at e
      have e := Option.some.inj e
      subst e
      have := wm.det w
      subst this
      exact ⟨kd, eg, hs⟩
end FT
namespace FT
open PySem PySem.W PySem.Spec PyProof.Rows L2
section
variable {K : PySem.W.Frag} {H H' : Hp} {d : Addr} {f : Str → Int} {L : Nat}
def kvI (p : Str × Int) : Key × V := (Sum.inr p.1, .int p.2)
def DN (H : Hp) (d : Addr) (f : Str → Int) (L : Nat) : Prop := ∃ l : List (Str × Int), H d = some (.dK (l.map kvI)) ∧ (l.map (·.1)).Nodup ∧ l.length ≤ L ∧ ∀ x, sumE l x = f x
def putI (l : List (Str × Int)) (k : Str) (v : Int) : List (Str × Int) := if k ∈ l.map (·.1) then l.map (fun p => if p.1 = k then (p.1, v) else p) else l ++ [(k, v)]
theorem sumE_key : ∀ (l : List (Str × Int)) {k : Str}, k ∉ l.map (·.1) → sumE l k = 0
  | [], _, _ => rfl
  | p :: r, k, h => by
    rw [List.map_cons, List.mem_cons, not_or] at h
    rw [sumE_cons, if_neg fun z => h.1 z.symm, sumE_key r h.2]; rfl
theorem valI : ∀ (l : List (Str × Int)), (l.map (·.1)).Nodup → ∀ k, (valV (l.map kvI) (Sum.inr k)).getD (.int 0) = .int (sumE l k)
  | [], _, _ => rfl
  | p :: r, h, k => by
    rw [List.map_cons, List.nodup_cons] at h
    rw [List.map_cons, sumE_cons]
    by_cases e : p.1 = k
    · rw [valV_pos (by rw [kvI, e]), if_pos e, sumE_key r (by rw [← e]; exact h.1)]
      show V.int p.2 = _
      rw [Int.add_zero]
    · rw [valV_neg (by rw [kvI]; exact fun z => e (Sum.inr.inj z)), if_neg e, Int.zero_add]
      exact valI r h.2 k
theorem putI_kv (l : List (Str × Int)) (k : Str) (v : Int) : (putI l k v).map kvI = putK (l.map kvI) (Sum.inr k) (.int v) := by
  unfold putI putK
  have e : ((l.map kvI).any fun kv => decide (kv.1 = Sum.inr k)) = true ↔ k ∈ l.map (·.1) := by
    rw [List.any_eq_true]
    constructor
    · rintro ⟨q, hq, e⟩
      obtain ⟨p, hp, rfl⟩ := List.mem_map.mp hq
      exact List.mem_map.mpr ⟨p, hp, Sum.inr.inj (of_decide_eq_true e)⟩
    · intro h
      obtain ⟨p, hp, e⟩ := List.mem_map.mp h
      exact ⟨kvI p, List.mem_map.mpr ⟨p, hp, rfl⟩, decide_eq_true (by rw [kvI, e])⟩
  by_cases h : k ∈ l.map (·.1)
  · rw [if_pos h, if_pos (e.mpr h), List.map_map, List.map_map]
    refine List.map_congr_left fun p _ => ?_
    show kvI (if p.1 = k then (p.1, v) else p) = if (kvI p).1 = Sum.inr k then _ else _
    by_cases z : p.1 = k
    · rw [if_pos z, if_pos (by rw [kvI, z])]; rfl
    · rw [if_neg z, if_neg (by rw [kvI]; exact fun y => z (Sum.inr.inj y))]
  · rw [if_neg h, if_neg fun z => h (e.mp z), List.map_append]; rfl
theorem putI_keys (l : List (Str × Int)) (k : Str) (v : Int) : (putI l k v).map (·.1) = if k ∈ l.map (·.1) then l.map (·.1) else l.map (·.1) ++ [k] := by
  unfold putI
  by_cases h : k ∈ l.map (·.1)
  · rw [if_pos h, if_pos h, List.map_map]
    refine List.map_congr_left fun p _ => ?_
    show (if p.1 = k then (p.1, v) else p).1 = p.1
    split <;> rfl
  · rw [if_neg h, if_neg h, List.map_append]; rfl
theorem putI_nodup {l : List (Str × Int)} (h : (l.map (·.1)).Nodup) (k : Str) (v : Int) : ((putI l k v).map (·.1)).Nodup := by
  rw [putI_keys]
  split
  · exact h
  · rename_i z
    exact List.nodup_append.mpr ⟨h, by simp, fun a ha b hb => by rw [List.mem_singleton.mp hb]; exact fun e => z (e ▸ ha)⟩
theorem putI_len (l : List (Str × Int)) (k : Str) (v : Int) : (putI l k v).length ≤ l.length + 1 := by
  unfold putI; split <;> simp
theorem putI_sum {l : List (Str × Int)} (h : (l.map (·.1)).Nodup) (k : Str) (v : Int) (x : Str) : sumE (putI l k v) x = if x = k then v else sumE l x := by
  unfold putI
  by_cases hk : k ∈ l.map (·.1)
  · rw [if_pos hk]
    induction l with
    | nil => cases hk
    | cons p r ih =>
      rw [List.map_cons, List.nodup_cons] at h
      rw [List.map_cons, sumE_cons, sumE_cons]
      by_cases e : p.1 = k
      · have hr : k ∉ r.map (·.1) := by rw [← e]; exact h.1
        have er : (r.map fun p => if p.1 = k then (p.1, v) else p) = r := by
          rw [List.map_congr_left (g := id) fun q hq => ?_, List.map_id]
          rw [if_neg fun z => hr (List.mem_map.mpr ⟨q, hq, z⟩)]; rfl
        rw [if_pos e, er]
        show (if p.1 = x then v else 0) + _ = _
        by_cases hx : x = k
        · rw [if_pos hx, if_pos (by rw [e, hx]), hx, sumE_key r hr, Int.add_zero]
        · rw [if_neg hx, if_neg (by rw [e]; exact fun z => hx z.symm), if_neg (by rw [e]; exact fun z => hx z.symm)]
      · rw [if_neg e]
        have hkr : k ∈ r.map (·.1) := by
          rcases List.mem_cons.mp hk with z | z
          · exact absurd z.symm e
          · exact z
        rw [ih h.2 hkr]
        by_cases hx : x = k
        · rw [if_pos hx, if_pos hx, if_neg (by rw [hx]; exact e), Int.zero_add]
        · rw [if_neg hx, if_neg hx]
  · rw [if_neg hk, sumE_append, sumE_cons]
    by_cases hx : x = k
    · rw [if_pos hx, hx, sumE_key l hk, if_pos rfl, Int.zero_add]; exact Int.add_zero _
    · rw [if_neg hx, if_neg fun z => hx z.symm, Int.zero_add]; exact Int.add_zero _
theorem DN.get (h : DN H d f L) (k : Str) : ∃ o, DGet H d (.str k) o ∧ o.getD (.int 0) = .int (f k) := by
  obtain ⟨l, e, nd, _, s⟩ := h
  exact ⟨_, DGet.k (k := Sum.inr k) e, by rw [valI l nd, s]⟩
theorem DN.put (h : DN H d f L) (hL : L < sizeLine) (k : Str) (v : Int) : ∃ H', DPut H d (.str k) (.int v) H' ∧ SB [d] H H' ∧ DN H' d (fun x => if x = k then v else f x) (L + 1) := by
  obtain ⟨l, e, nd, ll, s⟩ := h
  refine ⟨_, .inl ⟨_, Sum.inr k, e, rfl, by rw [List.length_map]; omega, rfl⟩, SB.setD e (by simp) _, putI l k v, ?_, putI_nodup nd k v, ?_, fun x => ?_⟩
  · rw [upd_same, putI_kv]
  · have := putI_len l k v; omega
  · rw [putI_sum nd, s]
theorem DN.sb {ps : List Addr} (h : DN H d f L) (s : SB ps H H') (hd : d ∉ ps) : DN H' d f L := by
  obtain ⟨l, e, r⟩ := h
  exact ⟨l, s.keep _ _ e hd, r⟩
theorem DN.at (h : DN H d f L) : ∃ kvs, H d = some (.dK kvs) := by obtain ⟨l, e, _⟩ := h; exact ⟨_, e⟩
theorem DN.ext {g : Str → Int} {M : Nat} (h : DN H d f L) (e : ∀ x, f x = g x) (hl : L ≤ M) : DN H d g M := by
  obtain ⟨l, a, b, c, s⟩ := h
  exact ⟨l, a, b, by omega, fun x => by rw [s, e]⟩
theorem DN.new {ps : List Addr} (hd : H d = none) : DN (upd H d (.dK [])) d (fun _ => 0) 0 := ⟨[], upd_same, by simp, Nat.le_refl _, fun _ => rfl⟩
end
theorem DN.upd {H : Hp} {d a : Addr} {f : Str → Int} {L : Nat} (h : DN H d f L) (n : d ≠ a) (o : HO) : DN (upd H a o) d f L := by
  obtain ⟨l, e, r⟩ := h
  exact ⟨l, by rw [upd_ne n]; exact e, r⟩
end FT
namespace FT
open PySem PySem.W PySem.Spec PyProof.Rows L2
section
variable {prog : Program} {w : World} {A : Around} {E : Value → Shared → Prop} {st : Shared} {K : PySem.W.Frag} {e D : Addr} {oe : Obj} {dd : Option Obj}
theorem look_cls (C : ExcC K D) : PySem.W.findObj K D dd "__class__" = some (.bind (.builtin "getset_descriptor.__get__") (.builtin "object.__class__")) := by
  obtain ⟨cd, hcd, _⟩ := PySem.W.any_some C.hd
  simp only [PySem.W.findObj, hcd, C.ha, C.hn, C.ht, Option.bind_some]
theorem cls_exc {Q : Option Value → Shared → Prop} (C : ExcC K D) (X : K.In st.heap) (I : PySem.W.InstAt st.heap e oe D dd) (q : Q (some (.ref D)) { st with toks := st.toks + 1 }) : wpAny (model prog w) A (getAttr? (.ref e) "__class__") Q E st := by
  have kf := look_cls (dd := dd) C
  obtain ⟨hp, gn, dc, tk, ows⟩ := st
  have K0 := I.type (M := model prog w)
  have K1 := PySem.W.looks_findIn (M := model prog w) X C.hg
  have K2 := PySem.W.looks_findIn (M := model prog w) X C.hk
  have K3 := PySem.W.looks_find (M := model prog w) X I kf
  have kb : Looks (model prog w) hp (isInstance (.ref e) (.type "BaseException")) true := K0.andThen (PySem.W.looks_subIn X C.hs)
  have z2 : (Value.builtin "BaseException.__getattribute__" == Value.builtin "object.__getattribute__") = false := by decide +kernel
  have z1 : (onTheHeap (Value.ref D) && Value.builtin "BaseException.__getattribute__" == Value.builtin "object.__getattribute__") = false := by rw [z2, Bool.and_false]
  unfold getAttr? getAttrBy? getAttrBy
  refine wpAny_bind (wpAny_mkText (wpAny_bind (wpAny_attempt (wpAny_holding (wpAny_bind (K0.at (wpAny_bind (K1.at ?gb))))))))
  case gb =>
  show wpAny _ _ (if (onTheHeap (Value.ref D) && Value.builtin "BaseException.__getattribute__" == Value.builtin "object.__getattribute__") = true then _ else _) _ _ _
  rw [z1, if_neg Bool.false_ne_true]
  unfold getAttrByItsOwn hookBefore
  refine wpAny_bind ?gc
  case gc =>
  rw [if_pos (show onTheHeap (Value.ref D) = true from rfl)]
  refine K2.at (wpAny_bind (wpAny_attempt (wpAny_holding ?gd)))
  case gd =>
  unfold callGetattribute
  rw [show (false && onTheHeap (Value.builtin "BaseException.__getattribute__")) = false from rfl, if_neg Bool.false_ne_true]
  unfold boundAndCalled
  rw [PySem.F.excAttr_ValueError.ga.bind (.ref e)]
  refine wpAny_bind (wpAny_pure ?ge)
  case ge =>
  show wpAny _ _ (call (.builtin "BaseException.__getattribute__") [.ref e, .str "__class__" tk]) _ _ _
  refine wpAny_call (codeAny_call_builtin PySem.F.excAttr_ValueError.ga.plain PySem.F.entry_bexc_ga ?gf)
  case gf =>
  refine @check_slot (model prog w) _ _ ⟨hp, gn, dc, tk + 1, ows⟩ "BaseException.__getattribute__" "BaseException" "__getattribute__" (.ref e) [.str "__class__" tk] [] _ (by decide +kernel) (by decide +kernel) kb (PySem.F.args_bexc_ga (.ref e) (.str "__class__" tk)) ?gg
  case gg =>
  unfold Builtin.«object.__getattribute__»
  refine wpAny_bind (wpAny_of_eq (a := ((Value.ref e : Value), [Value.str "__class__" tk])) (by first | rfl | (simp only [slotArgs]; rfl)) ?gh)
  case gh =>
  refine wpAny_bind (wpAny_pure (wpAny_bind (K0.at (wpAny_bind (K3.at ?gi)))))
  case gi =>
  show wpAny _ _ (holding [Value.builtin "object.__class__"] (call (.builtin "getset_descriptor.__get__") [.builtin "object.__class__", .ref e, .ref D]) >>= ret) _ _ _
  refine wpAny_bind (wpAny_holding (wpAny_call (PySem.W.class_get (s := ⟨hp, gn, dc, tk + 1, ows⟩) (ox := oe) (od := dd) X I C.hm ?gj)))
  case gj =>
  refine wpAny_pure ?gk
  case gk =>
  show wpAny _ _ (handedOut (.ref D)) _ _ _
  rw [handedOut_of (v := .ref D) rfl]
  first
    | exact wpAny_pure (wpAny_pure q)
    | exact wpAny_pure q
    | exact wpAny_pure (wpAny_bind (wpAny_pure (wpAny_pure q)))
theorem kit_exc (C : ExcC K D) : PySem.W.KitX K (.ref e) (.ref D) (fun h => PySem.W.InstAt h e oe D dd) where
  ty := fun _ _ _ I => I.type
  it := fun M h X _ => by
    obtain ⟨cd, hcd, _⟩ := PySem.W.any_some C.hd
    unfold PySem.W.clsIn at hcd
    split at hcd
    · next ho => exact fun A' Q' E' s' k q => by unfold isType loadHead; exact wpAny_bind (wpAny_loadPart (k _ _ (X _ _ ho)) (wpAny_pure q))
    · cases hcd
  ne := fun h tp dd' its n sl X htp => Bool.eq_false_iff.mpr fun q => by
    obtain ⟨cd, hcd, _⟩ := PySem.W.any_some C.hd
    cases Value.ref.inj (beq_iff_eq.mp q)
    unfold PySem.W.clsIn at hcd
    split at hcd
    · next ho => exact absurd ((X _ _ ho).symm.trans htp) (fun z => by cases z)
    · cases hcd
  ca := fun X I k => cls_exc C X I k
end
/-- no dict, or one that stands -/
def ExD (H : Hp) (d : Option Addr) : Prop := d = none ∨ ∃ dd fs, d = some dd ∧ H dd = some (.xd fs)
theorem ExD.sb {H H' : Hp} {d : Option Addr} (h : ExD H d) (s : SB [] H H') : ExD H' d := by
  rcases h with h | ⟨dd, fs, h, g⟩
  · exact .inl h
  · exact .inr ⟨dd, fs, h, s.keep _ _ g List.not_mem_nil⟩
/-- isinstance(e, c), e what the clause holds -/
def rIsEg (K : PySem.W.Frag) (a : Addr) (cls : Value) (d : Option Addr) : List V → Hp → VK → Prop := fun xs H Q => ∃ (D : Addr) (c : V) (cv : Value) (b : Bool), cls = .ref D ∧ ExcC K D ∧ ExD H d ∧ xs = [.ref a, c] ∧ (∀ u, RelV c u → u = cv) ∧ PySem.W.kitOne K (.ref D) cv = some b ∧ Q (.bl b) H
/-- isinstance(e, (c1, c2, ..)) -/
def rIsEgT (K : PySem.W.Frag) (a : Addr) (cls : Value) (d : Option Addr) : List V → Hp → VK → Prop := fun xs H Q => ∃ (D tp : Addr) (cs : List V) (ws : List Value) (b : Bool), cls = .ref D ∧ ExcC K D ∧ ExD H d ∧ xs = [.ref a, .ref tp] ∧ H tp = some (.tup cs) ∧ Paired ClsV cs ws ∧ PySem.W.kitAny K (.ref D) ws = some b ∧ Q (.bl b) H
/-- e.f, f a field of what the clause holds -/
def tXfg (K : PySem.W.Frag) (a : Addr) (cls : Value) (d : Option Addr) (f : Str) (te : TE) : TE := fun σ H Q => te σ H fun x H1 => ∃ (C dd : Addr) (fs : List (Str × V)) (v : V), x = .ref a ∧ cls = .ref C ∧ ExcC K C ∧ PySem.W.findIn K (.ref C) f = some none ∧ d = some dd ∧ H1 dd = some (.xd fs) ∧ fs.lookup f = some v ∧ Q v H1
section
variable {X : Cx} {a : Addr} {oe : Obj} {cls : Value} {d : Option Addr}
theorem inst_e {D : Addr} {pins : List (Addr × Obj)} {σ : L2.St} {H : Hp} {s : Shared} (hm : (a, oe) ∈ X.pn) (hz : Zc (.ref D) d oe) (hf : ∃ vs, oe.data = .fields vs) (I : Inv X pins σ H s) (hd : ExD H d) : ∃ dd, PySem.W.InstAt s.heap a oe D dd := by
  obtain ⟨h, _⟩ := I.pin (a, oe) (List.mem_append.mpr (.inl hm))
  obtain ⟨vs, hv⟩ := hf
  obtain ⟨h1, h2⟩ := hz
  have nc : PySem.W.notCls oe = true := by unfold PySem.W.notCls; rw [hv]
  rcases hd with e | ⟨dd, fs, e, g⟩
  · exact ⟨none, h, h1, nc, by rw [h2, e]; trivial⟩
  · obtain ⟨mA, hns, _⟩ := (show ObjOk X.prog X.w H s.heap dd (.xd fs) from I.hok dd _ g)
    obtain ⟨od, ho, _⟩ := lookIn_ns hns
    exact ⟨some od, h, h1, nc, by rw [h2, e]; exact ho⟩
theorem call_isEg (hm : (a, oe) ∈ X.pn) (hz : Zc cls d oe) (hf : ∃ vs, oe.data = .fields vs) : CallR X (.builtin "isinstance") (rIsEg X.K a cls d) := by
  intro pins s σ H xs us Q I r h
  obtain ⟨D, c, cv, b, ec, C, hd, rfl, hcv, e, q⟩ := h
  subst ec
  obtain ⟨u1, u2, rfl, r1, r2⟩ := vals2 r
  cases (show u1 = Value.ref a from r1)
  cases hcv _ r2
  obtain ⟨dd, J⟩ := inst_e hm hz hf I hd
  exact PySem.W.kia_one (kit_exc C) I.kIn J e (fun z => nomatch z) fun tk => ⟨.bl b, H, I.kept (t' := tk) fun _ _ z => z, rfl, q⟩
theorem call_isEgT (hm : (a, oe) ∈ X.pn) (hz : Zc cls d oe) (hf : ∃ vs, oe.data = .fields vs) : CallR X (.builtin "isinstance") (rIsEgT X.K a cls d) := by
  intro pins s σ H xs us Q I r h
  obtain ⟨D, tp, cs, ws, b, ec, C, hd, rfl, hT, k, e, q⟩ := h
  subst ec
  obtain ⟨u1, u2, rfl, r1, r2⟩ := vals2 r
  cases (show u2 = Value.ref tp from r2)
  cases (show u1 = Value.ref a from r1)
  obtain ⟨_, its, rv, o, h1, h2, n, h3⟩ := (show ObjOk X.prog X.w H s.heap tp (.tup cs) from I.hok tp _ hT)
  have e3 := ClsV.all k rv
  subst e3
  obtain ⟨oc, od, dt, sl⟩ := o
  simp only at h2 h3
  subst h2 h3
  obtain ⟨dd, J⟩ := inst_e hm hz hf I hd
  exact PySem.W.kia_tup (kit_exc C) I.kIn J h1 e (fun z => nomatch z) fun tk => ⟨.bl b, H, I.kept (t' := tk) fun _ _ z => z, rfl, q⟩
theorem pe_xfg {e : Expr} {te : TE} {pos : Pos} {n : Str} (hm : (a, oe) ∈ X.pn) (hz : Zc cls d oe) (hf : ∃ vs, oe.data = .fields vs) (he : PE X e te) (hb : attributeBase e n X.env (eval e X.env) = eval e X.env := by rfl) : PE X (.Attribute e n pos) (tXfg X.K a cls d n te) := by
  refine ⟨fun pins st σ H Q I h => attr_of hb (thn (he.run pins st σ H _ I h) fun u s1 hh => ?_)⟩
  obtain ⟨x, H1, J1, rx, C, dd, fs, v, ex, ec, T, hno, ed, hx, l, q⟩ := hh
  subst ex ec ed
  cases (show u = Value.ref a from rx)
  obtain ⟨ga, _⟩ := J1.pin (a, oe) (List.mem_append.mpr (.inl hm))
  obtain ⟨mA, hns, hr⟩ := (show ObjOk X.prog X.w H1 s1.heap dd (.xd fs) from J1.hok dd _ hx)
  obtain ⟨od, ho, hl⟩ := lookIn_ns hns
  obtain ⟨w, hw, rw'⟩ := RelO.some_of (v := v) (o := mA n) (by rw [← l]; exact hr n)
  obtain ⟨vs, hv⟩ := hf
  have nc : PySem.W.notCls oe = true := by unfold PySem.W.notCls; rw [hv]
  have ins : PySem.W.InstAt s1.heap a oe C (some od) := ⟨ga, hz.1, nc, by rw [hz.2]; exact ho⟩
  exact HandSPX.exc_get J1.kIn ins T.hg T.hk T.hs (PySem.W.findObj_own T.hd hno rfl (by rw [hl, hw])) (handed_of rw') ⟨v, H1, J1.tok _, rw', q⟩
end
structure ErrsM (K : PySem.W.Frag) (mg : Str → Option Value) (c : Str → Addr) (caught names kinds : List Str) : Prop where
  glo : ∀ n ∈ names, mg n = some (.ref (c n))
  FellError : mg "FellError" = some (.ref (c "FellError"))
  ve : mg "ValueError" = none
  exc : ∀ n ∈ caught, ExcC K (c n)
  exm : ∀ n ∈ caught, PySem.W.exmOne K (.ref (c n)) (.ref (c "FellError")) = some true
  kve : ∀ n ∈ caught, PySem.W.kitOne K (.ref (c n)) (.type "ValueError") = some true
  kit : ∀ n ∈ caught, ∀ m ∈ names, PySem.W.kitOne K (.ref (c n)) (.ref (c m)) = some (decide (n = m))
  nok : ∀ n ∈ kinds, PySem.W.findIn K (.ref (c n)) "kind" = some none
theorem ErrsM.any {K : PySem.W.Frag} {mg : Str → Option Value} {c : Str → Addr} {caught names kinds : List Str} (T : ErrsM K mg c caught names kinds) {n : Str} (hn : n ∈ caught) : ∀ {ms : List Str}, (∀ m ∈ ms, m ∈ names) → PySem.W.kitAny K (.ref (c n)) (ms.map fun m => .ref (c m)) = some (decide (n ∈ ms))
  | [], _ => by simp [PySem.W.kitAny]
  | m :: r, h => by
    have e := T.kit n hn m (h m List.mem_cons_self)
    have e2 := T.any hn (ms := r) fun x hx => h x (List.mem_cons_of_mem _ hx)
    rw [List.map_cons, PySem.W.kitAny, e]
    by_cases z : n = m
    · simp [z]
    · simp [z, e2]
theorem ErrsM.no {K : PySem.W.Frag} {mg : Str → Option Value} {c : Str → Addr} {caught names kinds : List Str} (T : ErrsM K mg c caught names kinds) {n : Str} (hn : n ∈ caught) {ms : List Str} (h : ∀ m ∈ ms, m ∈ names) (k : n ∉ ms) : PySem.W.kitAny K (.ref (c n)) (ms.map fun m => .ref (c m)) = some false := (T.any hn h).trans (by rw [decide_eq_false k])
theorem ErrsM.is {K : PySem.W.Frag} {mg : Str → Option Value} {c : Str → Addr} {caught names kinds : List Str} (T : ErrsM K mg c caught names kinds) {n : Str} (hn : n ∈ caught) (h : n ∈ names) : PySem.W.kitOne K (.ref (c n)) (.ref (c n)) = some true := (T.kit n hn n h).trans (by rw [decide_eq_true rfl])
def ermB (K : PySem.W.Frag) (c : Str → Addr) (caught names : List Str) : Bool := caught.all fun n => excCB K (c n) && (decide (PySem.W.exmOne K (.ref (c n)) (.ref (c "FellError")) = some true) && (decide (PySem.W.kitOne K (.ref (c n)) (.type "ValueError") = some true) && names.all fun m => decide (PySem.W.kitOne K (.ref (c n)) (.ref (c m)) = some (decide (n = m)))))
theorem ermB_ok {K : PySem.W.Frag} {mg : Str → Option Value} {c : Str → Addr} {caught names kinds : List Str} (h : ermB K c caught names = true) (g : ∀ n ∈ names, mg n = some (.ref (c n))) (f : mg "FellError" = some (.ref (c "FellError"))) (v : mg "ValueError" = none) (k : ∀ n ∈ kinds, PySem.W.findIn K (.ref (c n)) "kind" = some none) : ErrsM K mg c caught names kinds := by
  have hh : ∀ n ∈ caught, excCB K (c n) = true ∧ PySem.W.exmOne K (.ref (c n)) (.ref (c "FellError")) = some true ∧ PySem.W.kitOne K (.ref (c n)) (.type "ValueError") = some true ∧ ∀ m ∈ names, PySem.W.kitOne K (.ref (c n)) (.ref (c m)) = some (decide (n = m)) := fun n hn => by
    have := List.all_eq_true.mp h n hn
    simp only [Bool.and_eq_true, decide_eq_true_eq, List.all_eq_true] at this
    exact this
  exact ⟨g, f, v, fun n hn => excCB_ok (hh n hn).1, fun n hn => (hh n hn).2.1, fun n hn => (hh n hn).2.2.1, fun n hn => (hh n hn).2.2.2, k⟩
theorem paired_refs {c : Str → Addr} : ∀ ms : List Str, Paired ClsV (ms.map fun m => V.ref (c m)) (ms.map fun m => Value.ref (c m))
  | [] => .nil
  | _ :: r => .cons (.own _) (paired_refs r)
theorem _root_.L2.Room.sui {j k : Nat} {A : Around} {v : Option Value} (r : Room k A) (h : j ≤ k) : L2H.RoomH j (A.mark v) := by
  have q := r.mono h
  exact ⟨q.dp, q.un⟩
structure FnP (P : Program) (w : World) (K : PySem.W.Frag) (mg : Str → Option Value) (base : Heap) (k : Nat) (f : Addr) (fd : FuncData) (ps : List Str) (sp : Addr → Obj → Sp) : Prop where
  len : ∀ a oe vs H Q E, sp a oe vs H Q E → vs.length = ps.length
  run : ∀ (A : Around) (outer : List Env) (s : Shared) (H : Hp) (args : Args) (us : List Value) (vs : List V) (Q : VK) (E : XK) (a : Addr) (oe : Obj), L2H.RoomH k A → L2H.PinOk outer H s (a, oe) → Env0 P w K mg base A outer s H → BindsTo s fd args (ps.zip us) → Vals vs us → sp a oe vs H Q E → codeAny (model P w) A (.call (.ref f) args) (CR CX0 outer P w H s Q E) s
abbrev cxE (P : Program) (w : World) (K : PySem.W.Frag) (mg : Str → Option Value) (base : Heap) (N : List Str) (qual : Str) (st : Stmt) (f : Addr) (cdv : Value) (A : Around) (outer : List Env) (s : Shared) (H : Hp) (E : XK) (a : Addr) (oe : Obj) : Cx := (L2H.cxH CX0 P w K mg base N qual (defScope st) f cdv A outer s H E (a, oe)).nox
theorem okP {P : Program} {w : World} {K : PySem.W.Frag} {mg : Str → Option Value} {base : Heap} {x qual : Str} {st : Stmt} {f : Addr} {fd : FuncData} {N ps : List Str} {k : Nat} {sp : Addr → Obj → Sp} (F : Fun K x qual st f fd) (S : FnScope N ps (defScope st)) (len : ∀ a oe vs H Q E, sp a oe vs H Q E → vs.length = ps.length)
    (body : ∀ (cdv : Value) (A : Around) (outer : List Env) (s : Shared) (H : Hp) (vs : List V) (Q : VK) (E : XK) (a : Addr) (oe : Obj), L2H.RoomH k (A.deeper (envOfC qual (defScope st) s.heap.objs.size f cdv)) → sp a oe vs H Q E → ∃ t, PSs (cxE P w K mg base N qual st f cdv A outer s H E a oe) (defBody st) t ∧ t { nx := fun _ H' => Q .non H', rt := Q } (start N vs) H) : FnP P w K mg base (k + 1) f fd ps sp := by
  obtain ⟨oc, od, kV, doc, pm, an, cdv, ct, osl, rfl, lk, hcd⟩ := F.ex
  refine ⟨len, fun A outer s H args us vs Q E a oe room pin e0 bd rel hsp => ?_⟩
  have inK : K.In s.heap := e0.mod.kin.keeps fun b o e => (e0.bs b o e).1
  have noL : s.heap.NoLimit := e0.mod.nolimit.keeps fun b o e => (e0.bs b o e).1
  have kinds : ∀ y ∈ ps.zip us, (defScope st).names.lookup y.1 = some .local ∨ ((defScope st).names.lookup y.1 = some .cell ∧ ((cellsFrom (s.heap.objs.size + 1) (defScope st).names []).lookup y.1).isSome = true) := by
    rintro ⟨n, v⟩ hy
    exact (S.par n (List.of_mem_zip hy).1).imp id fun q => ⟨q, PySem.W.cellsFrom_some _ _ _ (.inl q)⟩
  refine codeAny_call_function room.depth (inK _ _ lk) rfl S.co S.gen rfl (PySem.W.codeRec_of inK hcd) (bd _ _ _ _ (wpAny_newFunctionEnv_cells S.kind kinds ?_))
  rintro env rfl s1 ic
  obtain ⟨t, ht, ht2⟩ := body cdv A outer s H vs Q E a oe (room.deeper _) hsp
  refine ⟨noL.keeps ic.toInCall.keep, codeAny_func (wpAny_mono (ht.nox.run [] s1 (start N vs) H _ (L2H.inv_startH (CX := CX0) (E := E) S pin e0 (len _ _ _ _ _ _ hsp) rel ic) ht2) ?_ fun e s' z => z)⟩
  intro fl s' hs
  match fl, hs with
  | .ret u, ⟨v, σ', H', J, rv, q⟩ => exact ⟨v, H', J.os, J.bare, J.base, J.hok, rv, q⟩
  | .next, ⟨σ', H', J, q⟩ => exact ⟨.non, H', J.os, J.bare, J.base, J.hok, rfl, q⟩
  | .brk, ⟨_, _, _, q⟩ => exact q.elim
  | .cont, ⟨_, _, _, q⟩ => exact q.elim
structure GotP (P : Program) (w : World) (K : PySem.W.Frag) (mg : Str → Option Value) (base : Heap) (x : Str) (ps : List Str) (k : Nat) (sp : Addr → Obj → Sp) : Prop where
  ex : ∃ (f : Addr) (fd : FuncData), FnP P w K mg base k f fd ps sp ∧ PySem.W.keepIn K (.ref f) = true ∧ Binds K fd ps [] ∧ mg x = some (.ref f)
def tCallP (sp : Addr → Obj → Sp) (a : Addr) (cls : Value) (d : Option Addr) (t : TA) : TE := fun σ H Q => t σ H fun vs H1 => ∀ oe, Zc cls d oe → (∃ fs, oe.data = .fields fs) → sp a oe vs H1 Q E0
section
variable {X : Cx} {a : Addr} {oe : Obj} {cls : Value} {d : Option Addr} {x : Str} {ps : List Str} {k : Nat} {sp : Addr → Obj → Sp} {e : Expr} {es : List Expr} {t : TA} {p pos : Pos}
theorem pe_gotP (G : GotP X.prog X.w X.K X.mg X.base x ps k sp) (hr : L2H.RoomH k X.A) (hg : Gl X x) (hm : (a, oe) ∈ X.pn) (hz : Zc cls d oe) (hf : ∃ vs, oe.data = .fields vs) (ha : PA X (e :: es) t) (hdb : (x == ("__debug__" : Str)) = false := by decide) (he : starEach (e :: es) X.env = (false, eval e X.env) :: starEach es X.env := by rfl) (hpl : (backTo pos (starEach es X.env)).any (·.1) = false := by rfl) :
    PE X (.Call (.Name x p) (e :: es) [] pos) (tCallP sp a cls d t) := by
  obtain ⟨f, fd, F, h2, hb, h4⟩ := G.ex
  refine ⟨fun pins s σ H Q I h => wpAny_Call_Name_kw (ld_glob I hg h4 ?_ hdb)⟩
  refine PySem.W.callWith_K (h₀ := X.base) I.ok.mod.kin h2 (thn (ha.run pos pins s σ H _ I h) fun us s1 ⟨vs, H1, J, r, q⟩ => ⟨J.kIn, ?_⟩) he hpl
  have q1 := q oe hz hf
  have P1 := J.pin (a, oe) (List.mem_append.mpr (.inl hm))
  have hl : (us ++ []).length = ps.length := by rw [List.append_nil, ← r.length]; exact F.len _ _ _ _ _ _ q1
  have b := hb s1 us J.kIn hl
  rw [List.append_nil] at b
  refine wpAny_call (codeAny_mono (F.run X.A X.stack s1 H1 ⟨us, []⟩ us vs Q E0 a oe hr ⟨P1.1, P1.2.1, fun z => (List.mem_cons.mp (J.stkSub a z)).elim P1.2.2.1 P1.2.2.2.1, P1.2.2.2.2⟩ J.env0 b r q1) ?_)
  intro z s' hq
  match z, hq with
  | .error e, hq => exact (show False from hq).elim
  | .ok (.ret u), hq => exact J.after hq
  | .ok .next, hq => exact hq.elim
  | .ok .brk, hq => exact hq.elim
  | .ok .cont, hq => exact hq.elim
end
end FT
namespace FT
open PySem PySem.W PySem.Spec PyProof.Rows L2
theorem abc_index : ∀ i : Fin 26, Builtin.Str.occurrences abc ⟨#[97 + i.val]⟩ 0 abc.length 1 = [i.val] := by decide +kernel
/-- what is caught is none of the others -/
def spOthers (K : PySem.W.Frag) (c : Str → Addr) (caught : List Str) : Addr → Obj → Sp := fun a oe vs H Q _ => ∃ (n : Str) (d : Option Addr), vs = [.ref a] ∧ Zc (.ref (c n)) d oe ∧ (∃ fs, oe.data = .fields fs) ∧ n ∈ caught ∧ ExD H d ∧ ∀ H', SB [] H H' → Q (.bl false) H'
/-- a name that the book has not is refused, whatever is asked -/
def spAsked23 (K : PySem.W.Frag) (C N : Addr) : Sp := fun vs H Q E => ∃ (v : V) (b : Bk) (n : Str) (i : Int), vs = [v, .str n, .int i] ∧ BkA K C H v b ∧ b.Ok ∧ b.get n = none ∧ ∀ (d : Addr) (H' : Hp), SB [] H H' → H d = none → H' d = some (.xd [("kind", .str n)]) → E (.ref N) (some d) H'
def spRef23 (K : PySem.W.Frag) (C : Addr) : Sp := fun vs H Q _ => ∃ (v : V) (b : Bk) (n : Str) (i : Int), vs = [v, .str n, .int i] ∧ BkA K C H v b ∧ b.Ok ∧ b.get n = none ∧ ∀ H', SB [] H H' → Q (.bl true) H'
def spStrangers (K : PySem.W.Frag) : Sp := fun vs H Q _ => ∃ (l : Addr) (ns : List Str) (k : Nat), vs = [.ref l, .int (k : Int)] ∧ H l = some (.lst (ns.map V.str)) ∧ ns ≠ [] ∧ ns.length ≤ 8 ∧ (∀ n ∈ ns, NameOk n) ∧ ∀ (D : Addr) (ss : List Str) (H' : Hp), SB [] H H' → H D = none → H' D = some (.lst (ss.map V.str)) → ss ≠ [] → ss.length ≤ 20 → (∀ s ∈ ss, s ∉ ns ∧ s.length ≤ 1000) → Q (.ref D) H'
def spWord23 (K : PySem.W.Frag) : Sp := fun vs H Q _ => ∃ z : Str, vs = [.str z] ∧ z.length ≤ 1000 ∧ ∀ H', SB [] H H' → Q (.bl (decide (NameOk z))) H'
theorem cutS_len (z : Str) (lo hi : Option Int) : (cutS z lo hi).length ≤ z.length := by
  show (((z.cps.toList.drop _).take _).toArray).size ≤ z.cps.size
  rw [List.size_toArray, List.length_take, List.length_drop, Array.length_toList]
  omega
theorem last_sign {z : Str} (h : NameOk z) : ∃ j : Nat, j < 26 ∧ atI z.cps.toList (-1) = some (97 + j) := by
  obtain ⟨h1, h8, hc⟩ := h
  have hl : z.cps.toList.length - 1 < z.cps.toList.length := by omega
  have e := List.getElem?_eq_getElem hl
  have m := hc _ (List.getElem_mem hl)
  refine ⟨z.cps.toList[z.cps.toList.length - 1] - 97, by omega, ?_⟩
  rw [atI_end (v := z.cps.toList[z.cps.toList.length - 1]) e]
  congr 1
  omega
end FT
namespace FT
open PySem PySem.W PySem.Spec PyProof.Rows L2
def top (i : Nat) : Stmt := PySem.Challenge.pw_felltimber_k23_no_such_kind.main.body.getD i (.Pass ⟨0, 0, 0, 0⟩)
abbrev s_is_whole : Stmt := top 3
abbrev s_is_many : Stmt := top 4
abbrev s_is_name : Stmt := top 5
abbrev s_is_rising : Stmt := top 6
abbrev s_run_of : Stmt := top 7
abbrev s_is_tree : Stmt := top 30
abbrev s_is_grove : Stmt := top 31
abbrev s_are_grove_pairs : Stmt := top 32
abbrev s_pairs_within : Stmt := top 33
abbrev s_check_kind : Stmt := top 40
abbrev s_are_kinds : Stmt := top 41
abbrev s_is_kind : Stmt := top 42
abbrev s_is_rule : Stmt := top 43
abbrev s_is_rule_of : Stmt := top 44
abbrev s_tree_at : Stmt := top 46
abbrev s_all_places : Stmt := top 47
abbrev s_steps_of : Stmt := top 49
abbrev s_steps_in : Stmt := top 50
abbrev s_leads : Stmt := top 51
abbrev s_ways_from : Stmt := top 52
abbrev s_way_round : Stmt := top 53
abbrev s__law_cell_at : Stmt := top 55
abbrev s__law_purse : Stmt := top 56
abbrev s__law_take : Stmt := top 57
abbrev s__law_words : Stmt := top 58
abbrev s__law_heap : Stmt := top 59
abbrev s__law_way : Stmt := top 60
abbrev s__law_kinds : Stmt := top 61
abbrev s__law_of_others : Stmt := top 62
abbrev s__law_strangers : Stmt := top 63
abbrev s__law_is_word : Stmt := top 64
abbrev s__law_asked : Stmt := top 65
abbrev s__law_refused : Stmt := top 66
abbrev s__law_told : Stmt := top 67
abbrev s_law : Stmt := top 68
abbrev s_NoKind___init__ : Stmt := inClass (top 15) 0
abbrev s_Endless___init__ : Stmt := inClass (top 21) 0
abbrev s_Book___init__ : Stmt := inClass (top 39) 0
abbrev s_Book_names : Stmt := inClass (top 39) 1
abbrev s_Book_spreads : Stmt := inClass (top 39) 2
abbrev s_Book_rules : Stmt := inClass (top 39) 3
abbrev eC : List Str := ["NoKind"]
abbrev eN : List Str := ["NoLadder", "NoRest", "NoGrove", "NoPlace", "NoBook", "NoKind", "NoRule", "NoNumber", "TooGreat", "NoRise", "NoFall", "Endless", "NotEndless", "NoWorths", "NoDrop", "NoReach", "TooLong", "NoRow", "NoName"]
abbrev eK : List Str := ["NoKind"]
end FT
namespace FT
open PySem PySem.W PySem.Spec PyProof.Rows L2
section
variable {P : Program} {w : World} {K : PySem.W.Frag} {mg : Str → Option Value} {base : Heap} {f : Addr} {fd : FuncData} {ps : List Addr}
theorem sc_is_whole : FnScope ["thing"] ["thing"] (defScope s_is_whole) := ⟨rfl, rfl, rfl, by decide +kernel, rfl, by decide +kernel, by decide +kernel⟩
theorem ok_is_whole (B : BI mg) (F : Fun K "is_whole" "is_whole" s_is_whole f fd) : FnOk P w K mg base CX0 1 f fd ["thing"] (spWhole K) := by
  refine F.ok sc_is_whole (fun vs H Q E h => ?_) (fun cdv A outer s H vs Q E hr h => ?_)
  · obtain ⟨v, n, b1, b2, rfl, _⟩ := h
    rfl
  obtain ⟨v, n, b1, b2, rfl, ty, k1, k2, q⟩ := h
  refine ⟨_, pss_one (ps_ret (pe_and (pe_isi B (pv 0) B.int boot_int) (pe_one (pe_not (pe_isi B (pv 0) B.bool boot_bool))))), ?_⟩
  refine ⟨_, rfl, _, _, n, b1, rfl, ty, k1, b1, rfl, ?_⟩
  cases b1 with
  | false => exact iteF q
  | true =>
    refine iteT ⟨_, rfl, _, _, n, b2, rfl, ty, k2 rfl, b2, rfl, ?_⟩
    exact q
end
end FT
namespace FT
open PySem PySem.W PySem.Spec PyProof.Rows L2
section
variable {P : Program} {w : World} {K : PySem.W.Frag} {mg : Str → Option Value} {base : Heap} {f : Addr} {fd : FuncData} {ps : List Addr}
theorem sc_is_many : FnScope ["thing"] ["thing"] (defScope s_is_many) := ⟨rfl, rfl, rfl, by decide +kernel, rfl, by decide +kernel, by decide +kernel⟩
theorem ok_is_many {ps : List Addr} (B : BI mg) (G : Got P w K mg base "is_whole" ["thing"] 1 (spWhole K)) (F : Fun K "is_many" "is_many" s_is_many f fd) : FnOk P w K mg base CX0 2 f fd ["thing"] (spMany K ps) := by
  refine F.ok sc_is_many (fun vs H Q E h => ?_) (fun cdv A outer s H vs Q E hr h => ?_)
  · obtain ⟨v, d, rfl, _⟩ := h
    rfl
  obtain ⟨v, d, rfl, th, q⟩ := h
  refine ⟨_, pss_one (ps_ret (pe_and (pe_got G hr rfl (pa_cons (pv 0) pa_nil)) (pe_one (pe_cmpR op_ge (pv 0) pe_int (nomark _))))), ?_⟩
  obtain ⟨n, b1, b2, ty, k1, k2, y1, y2⟩ := th.whole
  refine ⟨_, rfl, v, n, b1, b2, rfl, ty, k1, k2, b1 && !b2, rfl, ?_⟩
  cases e : (b1 && !b2) with
  | false =>
    refine iteF ?_
    rw [y2 e] at q
    exact q
  | true =>
    obtain ⟨i, rfl, rfl⟩ := y1 e
    exact iteT ⟨_, rfl, _, _, rfl, rfl, q⟩
end
end FT
namespace FT
open PySem PySem.W PySem.Spec PyProof.Rows L2
section
variable {P : Program} {w : World} {K : PySem.W.Frag} {mg : Str → Option Value} {base : Heap} {f : Addr} {fd : FuncData}
theorem sc_is_name : FnScope ["thing"] ["thing"] (defScope s_is_name) := ⟨rfl, rfl, rfl, by decide +kernel, rfl, by decide +kernel, by decide +kernel⟩
theorem ok_is_name (B : BI mg) (L : ∃ t, mg "LETTERS" = some (.str abc t)) (N : ∃ t, mg "LONGEST_NAME" = some (.int 8 t)) (G : Got P w K mg base "run_of" ["text", "at", "signs"] 1 (spRunOf K)) (F : Fun K "is_name" "is_name" s_is_name f fd) : FnOk P w K mg base CX0 2 f fd ["thing"] (spName K) := by
  refine F.ok sc_is_name (fun vs H Q E h => ?_) (fun cdv A outer s H vs Q E hr h => ?_)
  · obtain ⟨v, d, rfl, _⟩ := h
    rfl
  obtain ⟨v, d, rfl, th, q⟩ := h
  obtain ⟨tl, hL⟩ := L
  obtain ⟨tn, hN⟩ := N
  refine ⟨_, pss_cons (ps_if (PW.pt (pw_or (pt_not (pt_val (pe_isi B (pv 0) B.str boot_str))) (pw_or1 (pt_not (pt_chain op_le op_le pe_int (pe_callB call_len_str rfl B.len PySem.boot_len (pa_cons (pv 0) pa_nil)) (pe_glob (v := .int 8) rfl hN ⟨_, rfl⟩)))))) (pss_one (ps_ret pe_bl)) pss_nil)
    (pss_one (ps_ret (pe_cmpR op_eq (pe_got G hr rfl (pa_cons (pv 0) (pa_cons pe_int (pa_cons (pe_glob (v := .str abc) rfl hL ⟨_, rfl⟩) pa_nil)))) (pv 0) (nomark _)))), ?_⟩
  obtain ⟨n1, b, ty, kb, y1, y2⟩ := th.txt
  refine ⟨_, rfl, _, _, n1, b, rfl, ty, kb, b, rfl, ?_⟩
  cases b with
  | false =>
    refine iteT (iteT ?_)
    have e : nameD d = false := by
      cases d with
      | str z => exact absurd rfl (y2 rfl z)
      | _ => simp [nameD]
    have := q H SB.refl
    rw [e] at this
    exact this
  | true =>
  refine iteF ?_
  obtain ⟨z, rfl, rfl, hz⟩ := y1 rfl
  have hzl : z.length ≤ sizeLine := by have := sizeLine_eq; omega
  refine ⟨_, rfl, z, rfl, hzl, _, _, rfl, rfl, _, rfl, ?_⟩
  by_cases h1 : 1 ≤ z.length
  · rw [show decide ((1 : Int) ≤ (z.length : Int)) = true from decide_eq_true (by omega)]
    refine iteT ⟨_, _, rfl, rfl, _, rfl, ?_⟩
    by_cases h8 : z.length ≤ 8
    · rw [show decide ((z.length : Int) ≤ 8) = true from decide_eq_true (by omega)]
      refine iteF ?_
      refine ⟨_, rfl, z, abc, 0, rfl, by omega, Nat.zero_le _, fun e _ he hin hout => ?_⟩
      refine ⟨_, rfl, rfl, ?_⟩
      have := q H SB.refl
      rw [← run_name h1 h8 he hin hout] at this
      exact this
    · rw [show decide ((z.length : Int) ≤ 8) = false from decide_eq_false (by omega)]
      have := q H SB.refl
      rw [name_out fun h => h8 h.2] at this
      exact iteT this
  · rw [show decide ((1 : Int) ≤ (z.length : Int)) = false from decide_eq_false (by omega)]
    have := q H SB.refl
    rw [name_out fun h => h1 h.1] at this
    exact iteF ⟨_, rfl, iteT this⟩
end
end FT
namespace FT
open PySem PySem.W PySem.Spec PyProof.Rows L2
section
variable {P : Program} {w : World} {K : PySem.W.Frag} {mg : Str → Option Value} {base : Heap} {f : Addr} {fd : FuncData} {ps : List Addr}
theorem sc_is_rising : FnScope N_rising ["things"] (defScope s_is_rising) := ⟨rfl, rfl, rfl, by decide +kernel, rfl, by decide +kernel, by decide +kernel⟩
theorem ok_is_rising (B : BI mg) (F : Fun K "is_rising" "is_rising" s_is_rising f fd) : FnOk P w K mg base CX0 1 f fd ["things"] (spRising K) := by
  refine F.ok sc_is_rising (fun vs H Q E h => ?_) (fun cdv A outer s H vs Q E hr h => ?_)
  · obtain ⟨v, n, b1, rfl, _⟩ := h
    rfl
  obtain ⟨a, xs, ds, rfl, hS, hDp, hok, hal, hz, q⟩ := h
  have hu : A.units + 200 < cLine := by have := hr.un; show A.units + 200 < cLine; have h3 : (A.deeper (envOfC "is_rising" (defScope s_is_rising) s.heap.objs.size f cdv)).units = A.units + 3 := rfl; omega
  refine ⟨_, pss_one (ps_ret (pe_callB (cr_all rfl) rfl B.all boot_all (pa_cons
    (pe_lc (own := [("low", 1), ("high", 2)]) (g := gTup K 2 (gCons (gName 1) (gCons (gName 2) gNil))) (tt := tYes) (te := tOp (rLtD K) (tVar 1) (tVar 2)) rfl sc_is_rising.nd
      (pi_zip rfl B.zip (pa_cons (pv 0) (pa_cons (pe_slice sl_list (pv 0) (po_some pe_int) po_none) pa_nil)))
      (blkOk_by (N := N_rising) (sc := defScope s_is_rising) (by decide +kernel))
      (fun _ _ _ _ _ => pg_tup rfl (pgs_cons (pg_name (i := 1) sc_is_rising.nd rfl (.inl rfl)) (pgs_cons (pg_name (i := 2) sc_is_rising.nd rfl (.inl rfl)) pgs_nil)))
      (fun _ _ _ _ _ => pts_nil)
      (fun _ _ _ _ _ => pe_cmpR (op_ltD (by have := hu; show A.units + 3 + 100 < cLine; omega)) (pv 1) (pv 2) (nomark _))) pa_nil))), ?_⟩
  refine ⟨_, rfl, _, rfl, 1, rfl, a, xs, rfl, hS, fun p hp => ?_⟩
  rw [cut1]
  have e1 : SB [] H (upd H p (.lst (xs.drop 1))) := SB.new hp _
  refine ⟨a, p, xs, xs.drop 1, rfl, e1.sqL List.not_mem_nil hS, SqL.of upd_same, fun D hD => ?_⟩
  have hpD : p ≠ D := fun z => by subst z; rw [upd_same] at hD; cases hD
  have dl : ds.length = xs.length := (DpAll.length hDp).symm
  refine lc_it (walk_zip (n := min xs.length (xs.drop 1).length) rfl) (fun i H2 => SB [D] (upd H p (.lst (xs.drop 1))) H2 ∧ H2 D = some (.lst (((ltsD ds).take i).map V.bl))) ⟨SB.new hD _, upd_same⟩ (fun i H2 hi h2 => ?_) (fun i x H2 H' hi h2 y => ?_) (fun H2 h2 => ?_)
  · obtain ⟨h2, h3⟩ := h2
    have h4 := h2.drop hD
    exact ⟨(e1.trans h4).sqL List.not_mem_nil hS, h4.sqL List.not_mem_nil (SqL.of upd_same)⟩
  · obtain ⟨h2, h3⟩ := h2
    have h4 := e1.trans (h2.drop hD)
    obtain ⟨T, x1, y1, rfl, hT, rfl, ex, ey⟩ := y
    have ey : (xs.drop 1)[i]? = some y1 := ey
    rw [List.getElem?_drop, Nat.add_comm] at ey
    obtain ⟨d, ed, hd⟩ := DpAll.get hDp ex
    obtain ⟨d', ed', hd'⟩ := DpAll.get (i := i + 1) hDp ey
    have e5 : SB [] H (upd H2 T (.tup [x1, y1])) := h4.trans (SB.new hT _)
    have m1 := List.mem_of_getElem? ed
    have m2 := List.mem_of_getElem? ed'
    have hTD : D ≠ T := fun z => by subst z; rw [h3] at hT; cases hT
    refine ⟨T, _, rfl, SqT.of upd_same, rfl, _, _, rfl, _, _, rfl, rfl, rfl, ?_⟩
    refine ⟨_, rfl, _, rfl, d, d', Dp_sb e5 _ _ (hok d m1).1 hd, Dp_sb e5 _ _ (hok d' m2).1 hd', hal d m1 d' m2, (hok d m1).2.1, (hok d m1).2.2, _, by rw [upd_ne hTD]; exact h3, ?_, ?_⟩
    · have := ltsD_length ds
      rw [List.length_map, List.length_take]
      exact small1000 (by omega)
    · refine ⟨(h2.trans (SB.new hT _)).trans (SB.set (by rw [upd_ne hTD]; exact h3) (by simp) _), ?_⟩
      rw [upd_same, List.take_add_one, ltsD_get ds i d d' ed ed']
      simp
  · obtain ⟨h2, h3⟩ := h2
    have h4 := e1.trans (h2.drop hD)
    have e6 : (ltsD ds).take (min xs.length (xs.drop 1).length) = ltsD ds := by
      apply List.take_of_length_le
      rw [ltsD_length, List.length_drop]
      omega
    rw [e6] at h3
    exact ⟨D, _, rfl, SqL.of h3, q _ h4⟩
end
end FT
namespace FT
open PySem PySem.W PySem.Spec PyProof.Rows L2
section
variable {P : Program} {w : World} {K : PySem.W.Frag} {mg : Str → Option Value} {base : Heap} {f : Addr} {fd : FuncData}
theorem sc_run_of : FnScope ["text", "at", "signs", "end"] ["text", "at", "signs"] (defScope s_run_of) := ⟨rfl, rfl, rfl, by decide +kernel, rfl, by decide +kernel, by decide +kernel⟩
theorem ok_run_of (B : BI mg) (F : Fun K "run_of" "run_of" s_run_of f fd) : FnOk P w K mg base CX0 1 f fd ["text", "at", "signs"] (spRunOf K) := by
  refine F.ok sc_run_of (fun vs H Q E h => ?_) (fun cdv A outer s H vs Q E hr h => ?_)
  · obtain ⟨z, y, k, rfl, _⟩ := h
    rfl
  obtain ⟨z, y, k, rfl, hz, hk, q⟩ := h
  refine ⟨_, pss_cons (ps_set (i := 3) sc_run_of.nd rfl (.inl rfl) (pv 1))
    (pss_cons (ps_while PassesOwn.never (PW.pt (pw_and (pt_cmpR op_lt (pv 3) (pe_callB call_len_str rfl B.len PySem.boot_len (pa_cons (pv 0) pa_nil)) (nomark _)) (pw_and1 (pt_cmpR op_in_sign (pe_ix ix_str (pv 0) (pv 3) (fun _ _ => rfl)) (pv 2) (by rfl)))))
      (pss_one (ps_aug (i := 3) sc_run_of.nd rfl (.inl rfl) pe_int ip_add)))
    (pss_one (ps_ret (pe_slice sl_str (pv 0) (po_some (pv 1)) (po_some (pv 3)))))), ?_⟩
  have hzl : z.length ≤ sizeLine := by have := sizeLine_eq; omega
  have hl := len_cps z
  refine ⟨_, rfl, ?_⟩
  refine ⟨fun mm σ H2 => ∃ e : Nat, mm = z.length - e ∧ H2 = H ∧ σ = [some (.str z), some (.int (k : Int)), some (.str y), some (.int (e : Int))] ∧ k ≤ e ∧ e ≤ z.length ∧ (∀ j c, k ≤ j → j < e → z.cps.toList[j]? = some c → c ∈ y.cps.toList), ⟨_, k, rfl, rfl, rfl, Nat.le_refl _, hk, fun j c h1 h2 _ => by omega⟩, fun mm σ H2 h2 => ?_⟩
  obtain ⟨e, rfl, rfl, rfl, ke, el, hin⟩ := h2
  refine ⟨_, rfl, _, rfl, z, rfl, hzl, _, _, rfl, rfl, _, rfl, ?_⟩
  have fin : (∀ c, z.cps.toList[e]? = some c → c ∉ y.cps.toList) → Q (.str (cutS z (some (k : Int)) (some (e : Int)))) H2 := fun ho => q e ke el hin ho
  by_cases hlt : e < z.length
  · rw [show decide ((e : Int) < (z.length : Int)) = true from decide_eq_true (by omega)]
    refine iteT ?_
    obtain ⟨c, hc⟩ : ∃ c, z.cps.toList[e]? = some c := ⟨_, List.getElem?_eq_getElem (by omega)⟩
    refine ⟨_, rfl, _, rfl, z, _, c, rfl, rfl, hzl, atI_natN hc, _, rfl, c, y, rfl, rfl, _, rfl, ?_⟩
    by_cases hm : c ∈ y.cps.toList
    · rw [decide_eq_true hm]
      refine iteT ?_
      refine ⟨_, fun σ' H' z => z, ?_⟩
      refine ⟨_, rfl, _, _, rfl, rfl, z.length - (e + 1), by omega, e + 1, rfl, rfl, rfl, by omega, by omega, fun j c' h1 h2 h3 => ?_⟩
      rcases Nat.lt_or_ge j e with h | h
      · exact hin j c' h1 h h3
      · have : j = e := by omega
        subst this
        rw [hc] at h3; cases h3; exact hm
    · rw [decide_eq_false hm]
      refine iteF ?_
      refine ⟨_, rfl, _, rfl, _, rfl, _, rfl, _, rfl, z, rfl, hzl, fin fun c' h' => ?_⟩
      rw [hc] at h'; cases h'; exact hm
  · rw [show decide ((e : Int) < (z.length : Int)) = false from decide_eq_false (by omega)]
    refine iteF (iteF ?_)
    refine ⟨_, rfl, _, rfl, _, rfl, _, rfl, _, rfl, z, rfl, hzl, fin fun c' h' => ?_⟩
    have := (List.getElem?_eq_some_iff.mp h').1
    omega
end
end FT
namespace FT
open PySem PySem.W PySem.Spec PyProof.Rows L2
section
variable {P : Program} {w : World} {K : PySem.W.Frag} {mg : Str → Option Value} {base : Heap} {f : Addr} {fd : FuncData}
theorem sc_is_tree : FnScope ["thing"] ["thing"] (defScope s_is_tree) := ⟨rfl, rfl, rfl, by decide +kernel, rfl, by decide +kernel, by decide +kernel⟩
theorem none_is_tree {ps : List Str} {k : Nat} : FnOk P w K mg base CX0 k f fd ps (spIsTree K 0) := none_sp fun vs H Q E ⟨v, d, _, _, h, _⟩ => by omega
theorem ok_is_tree {n : Nat} (B : BI mg) (GN : Got P w K mg base "is_name" ["thing"] 2 (spName K)) (G : Got P w K mg base "is_grove" ["thing"] (n + 3) (spIsGrove K n)) (F : Fun K "is_tree" "is_tree" s_is_tree f fd) :
    FnOk P w K mg base CX0 (n + 4) f fd ["thing"] (spIsTree K (n + 1)) := by
  refine F.ok sc_is_tree (fun vs H Q E h => ?_) (fun cdv A outer s H vs Q E hr h => ?_)
  · obtain ⟨v, l, rfl, _⟩ := h
    rfl
  obtain ⟨v, d, rfl, th, hd, h80, hw, q⟩ := h
  refine ⟨_, pss_one (ps_ret (pe_and (pe_isi B (pv 0) B.tuple boot_tuple) (pe_and (pe_cmpR op_eq (pe_callB call_len_seq rfl B.len PySem.boot_len (pa_cons (pv 0) pa_nil)) pe_int (nomark _))
    (pe_and (pe_got GN (hr.mono (by omega)) rfl (pa_cons (pe_ix ix_tup (pv 0) pe_int (fun _ _ => rfl)) pa_nil)) (pe_one (pe_got G hr rfl (pa_cons (pe_ix ix_tup (pv 0) pe_int (fun _ _ => rfl)) pa_nil))))))), ?_⟩
  obtain ⟨n1, b, ty, kb, y1, y2⟩ := th.ty
  refine ⟨_, rfl, _, _, n1, b, rfl, ty, kb, b, rfl, ?_⟩
  cases b with
  | false =>
    refine iteF ?_
    have e : treeD d = false := by
      cases d with
      | tuple ds => exact absurd rfl (y2 rfl ds)
      | _ => simp [treeD]
    have := q H SB.refl
    rw [e] at this
    exact this
  | true =>
  refine iteT ?_
  obtain ⟨a, xs, ds, rfl, rfl, hs, ha⟩ := y1 rfl
  refine ⟨_, rfl, a, xs, rfl, .inr hs, rfl, _, rfl, ?_⟩
  have hl := TgAll.length ha
  refine ite2 (fun c => ?_) (fun c => ?_)
  · have c' : V.int (xs.length : Nat) = V.int 2 := of_decide_eq_true c
    injection c' with c'
    have c2 : xs.length = 2 := by omega
    cases ha with
    | nil => simp at c2
    | cons t1 ta =>
      cases ta with
      | nil => simp at c2
      | cons t2 ta =>
        cases ta with
        | cons t3 ta => simp at c2
        | nil =>
          rename_i v1 d1 v2 d2
          have q1 : d2.depth < PyData.depth (.tuple [d1, d2]) := by simp only [PyData.depth, PyData.depthAll]; omega
          have q2 : wide d2 ≤ wide (.tuple [d1, d2]) := by simp only [wide, wides]; omega
          refine ⟨_, rfl, a, _, _, _, rfl, rfl, hs, atI_nat (j := 0) rfl, v1, d1, rfl, t1, fun H1 h1 => ?_⟩
          refine ⟨_, rfl, ?_⟩
          cases e1 : nameD d1 with
          | false =>
            refine iteF ?_
            have := q H1 h1
            have e : treeD (.tuple [d1, d2]) = false := by simp [treeD, trD2, e1]
            rw [e] at this
            exact this
          | true =>
            refine iteT ?_
            refine ⟨_, rfl, a, _, _, _, rfl, rfl, h1.sqT hs, atI_nat (j := 1) rfl, v2, d2, rfl, Tg_sb h1 t2, by omega, by omega, by omega, fun H2 h2 => ?_⟩
            have := q H2 (h1.trans h2)
            have e : treeD (.tuple [d1, d2]) = groveD d2 := by simp [treeD, trD2, trD3, e1]
            rw [e] at this
            exact this
  · have c' : ¬ V.int (xs.length : Nat) = V.int 2 := of_decide_eq_false (Bool.eq_false_iff.mpr c)
    have c2 : ¬ xs.length = 2 := fun z => c' (by rw [z]; rfl)
    have e : treeD (.tuple ds) = false := by
      cases e : treeD (.tuple ds) with
      | false => rfl
      | true =>
        obtain ⟨t, e2⟩ := treeD_tr _ e
        injection e2 with e2
        rw [e2] at hl
        exact absurd hl c2
    have := q H SB.refl
    rw [e] at this
    exact this
end
end FT
namespace FT
open PySem PySem.W PySem.Spec PyProof.Rows L2
section
variable {P : Program} {w : World} {K : PySem.W.Frag} {mg : Str → Option Value} {base : Heap} {f : Addr} {fd : FuncData}
abbrev N_is_grove : List Str := ["thing", "pair"]
theorem sc_is_grove : FnScope N_is_grove ["thing"] (defScope s_is_grove) := ⟨rfl, rfl, rfl, by decide +kernel, rfl, by decide +kernel, by decide +kernel⟩
theorem none_is_grove {ps : List Str} {k : Nat} : FnOk P w K mg base CX0 k f fd ps (spIsGrove K 0) := none_sp fun vs H Q E ⟨v, d, _, _, h, _⟩ => by omega
theorem exp0_pEnc (bs : List (Tr × Int)) : (bs.map Gr.pEnc).map exp0 = bs.map fun p => Gr.tEnc p.1 := by rw [List.map_map]; rfl
theorem noLists_trs : ∀ bs : List (Tr × Int), noLists (bs.map fun p => Gr.tEnc p.1) = true
  | [] => by simp [noLists]
  | p :: r => by rw [List.map_cons, noLists, noLists_trs r, Gr.noList_tEnc]; rfl
theorem ok_is_grove {n : Nat} (B : BI mg) (GR : Got P w K mg base "is_rising" ["things"] 1 (spRising K)) (G : Got P w K mg base "are_grove_pairs" ["things"] (n + 3) (spPairsQ K true n)) (F : Fun K "is_grove" "is_grove" s_is_grove f fd) :
    FnOk P w K mg base CX0 (n + 4) f fd ["thing"] (spIsGrove K (n + 1)) := by
  refine F.ok sc_is_grove (fun vs H Q E h => ?_) (fun cdv A outer s H vs Q E hr h => ?_)
  · obtain ⟨v, l, rfl, _⟩ := h
    rfl
  obtain ⟨v, d, rfl, th, hd, h80, hw, q⟩ := h
  refine ⟨_, pss_cons (ps_if (PW.pt (pw_or (pt_not (pt_val (pe_isi B (pv 0) B.tuple boot_tuple))) (pw_or1 (pt_not (pt_val (pe_got G hr rfl (pa_cons (pv 0) pa_nil))))))) (pss_one (ps_ret pe_bl)) pss_nil)
    (pss_one (ps_ret (pe_got GR (hr.mono (by omega)) rfl (pa_cons (pe_lc (own := [("pair", 1)]) (g := gName 1) (tt := tYes) (te := tOp (rIxT K) (tVar 1) (tC (.int 0))) rfl sc_is_grove.nd
      (pi_tup (pv 0))
      (blkOk_by (N := N_is_grove) (sc := defScope s_is_grove) (by decide +kernel))
      (fun _ _ _ _ _ => pg_name (i := 1) sc_is_grove.nd rfl (.inl rfl))
      (fun _ _ _ _ _ => pts_nil)
      (fun _ _ _ _ _ => pe_ix ix_tup (pv 1) pe_int (fun _ _ => rfl))) pa_nil)))), ?_⟩
  obtain ⟨n1, b, ty, kb, y1, y2⟩ := th.ty
  refine ⟨_, rfl, _, _, n1, b, rfl, ty, kb, b, rfl, ?_⟩
  cases b with
  | false =>
    refine iteT (iteT ?_)
    have e : groveD d = false := by
      cases d with
      | tuple ds => exact absurd rfl (y2 rfl ds)
      | _ => simp [groveD]
    have := q H SB.refl
    rw [e] at this
    exact this
  | true =>
  refine iteF ?_
  obtain ⟨a, xs, ds, rfl, rfl, hs, ha⟩ := y1 rfl
  have hl := TgAll.length ha
  have m3 : PyData.depth (.tuple ds) = PyData.depthAll ds + 1 := by simp [PyData.depth]
  refine ⟨_, rfl, a, xs, ds, rfl, by simpa using hs, ha, by omega, by omega, hw, fun H2 h2 => ⟨_, rfl, ?_⟩⟩
  cases e1 : grPs ds with
  | false =>
    refine iteT ?_
    have := q H2 h2
    rw [groveD, e1] at this
    exact this
  | true =>
    refine iteF ?_
    obtain ⟨g, rfl⟩ := grPs_enc ds e1
    have hga : GA K H (.ref a) g := Dp.tup hs (Tg_ga g ha)
    obtain ⟨a', xs', e', hs', hb⟩ := GA_bears (hga.sb h2)
    cases e'
    have hlen := hb.length
    have gl : g.encs.length = g.ps.length := by rw [Gr.encs_ps, List.length_map]
    rw [wide_tuple] at hw
    refine ⟨_, rfl, a, rfl, ⟨xs', hs'⟩, fun D hD => ?_⟩
    refine lc_it (walk_tup (xs := xs')) (fun i H3 => SB [D] H2 H3 ∧ ∃ acc, H3 D = some (.lst acc) ∧ DpAll K H3 acc ((g.ps.take i).map fun p => Gr.tEnc p.1)) ⟨SB.new hD _, [], upd_same, .nil⟩ (fun i H3 hi h3 => (h3.1.drop hD).sqT hs') (fun i x H3 H' hi h3 y => ?_) (fun H3 h3 => ?_)
    · obtain ⟨h3, acc, h4, h5⟩ := h3
      obtain ⟨rfl, ex⟩ := y
      obtain ⟨p, ep, hpd⟩ := hb.get ex
      obtain ⟨ad, bd, ux, rfl, hsx, hst, hdx, hdt⟩ := PA_parts hpd
      have h6 := h3.drop hD
      have hla2 := DpAll.length h5
      refine ⟨rfl, ?_⟩
      refine ⟨_, rfl, ad, _, _, _, rfl, rfl, h6.sqT hsx, atI_nat (j := 0) rfl, acc, h4, ?_, ?_⟩
      · rw [hla2, List.length_map, List.length_take]
        exact small1000 (by omega)
      · have h7 := SB.set (ps := [D]) h4 (by simp) (.lst (acc ++ [.ref bd]))
        refine ⟨h3.trans h7, _, upd_same, ?_⟩
        rw [List.take_add_one, ep, List.map_append]
        exact DpAll.append (DpAll_sb h7 _ _ (noLists_trs _) h5) (.cons (Dp_sb h7 _ _ (Gr.noList_tEnc _) (Dp_sb h6 _ _ (Gr.noList_tEnc _) hdt)) .nil)
    · obtain ⟨h3', acc, h4, h5⟩ := h3
      rw [hlen, List.take_length] at h5
      have h6 := h3'.drop hD
      have hla2 := DpAll.length h5
      refine ⟨D, acc, g.ps.map fun p => Gr.tEnc p.1, rfl, SqL.of h4, h5, ?_, ?_, ?_, fun H9 h9 => ?_⟩
      · intro d hd'
        obtain ⟨p1, m1, rfl⟩ := List.mem_map.mp hd'
        have hd2 : (Gr.pEnc p1).depth ≤ PyData.depthAll g.encs := PyData.depth_le_depthAll _ _ (by rw [Gr.encs_ps]; exact List.mem_map_of_mem m1)
        have hd3 : (Gr.tEnc p1.1).depth < (Gr.pEnc p1).depth := by
          show _ < (PyData.tuple [Gr.tEnc p1.1, .int p1.2]).depth
          simp only [PyData.depth, PyData.depthAll]; omega
        exact ⟨Gr.noList_tEnc _, (fun z : Gr.tEnc p1.1 = .none => by simp [Gr.tEnc] at z), by omega⟩
      · intro d hd' d2 hd2
        obtain ⟨p1, _, rfl⟩ := List.mem_map.mp hd'
        obtain ⟨p2, _, rfl⟩ := List.mem_map.mp hd2
        exact Orderly.al (enc := Gr.tEnc) _ _
      · rw [hla2, List.length_map]; omega
      · have := q H9 ((h2.trans h6).trans h9)
        rw [groveD, e1, Bool.true_and, Gr.encs_ps, exp0_pEnc] at this
        exact this
end
end FT
namespace FT
open PySem PySem.W PySem.Spec PyProof.Rows L2
section
variable {P : Program} {w : World} {K : PySem.W.Frag} {mg : Str → Option Value} {base : Heap} {f : Addr} {fd : FuncData}
abbrev N_are_pairs : List Str := ["things", "thing"]
theorem sc_are_grove_pairs : FnScope N_are_pairs ["things"] (defScope s_are_grove_pairs) := ⟨rfl, rfl, rfl, by decide +kernel, rfl, by decide +kernel, by decide +kernel⟩
theorem none_are_grove_pairs {ps : List Str} {tp : Bool} {k : Nat} : FnOk P w K mg base CX0 k f fd ps (spPairsQ K tp 0) := none_sp fun vs H Q E ⟨a, xs, ds, _, _, _, h, _⟩ => by omega
theorem grPs_all : ∀ ds : List PyData, grPs ds = ds.all grP
  | [] => by rw [grPs]; rfl
  | d :: ds => by rw [grPs, grPs_all ds]; rfl
theorem ok_are_grove_pairs {n : Nat} (B : BI mg) (GM : Got P w K mg base "is_many" ["thing"] 2 (spMany K [])) (G : Got P w K mg base "is_tree" ["thing"] (n + 3) (spIsTree K n)) (F : Fun K "are_grove_pairs" "are_grove_pairs" s_are_grove_pairs f fd) :
    FnOk P w K mg base CX0 (n + 4) f fd ["things"] (spPairsQ K true (n + 1)) := by
  refine F.ok sc_are_grove_pairs (fun vs H Q E h => ?_) (fun cdv A outer s H vs Q E hr h => ?_)
  · obtain ⟨a, xs, ds, rfl, _⟩ := h
    rfl
  obtain ⟨a, xs, ds, rfl, hs, ha, hd, h79, hw, q⟩ := h
  refine ⟨_, pss_cons (ps_for PassesOwn.never rfl (pi_tup (pv 0)) (pg_name (i := 1) sc_are_grove_pairs.nd rfl (.inl rfl))
      (pss_cons (ps_if (PW.pt (pw_or (pt_not (pt_val (pe_isi B (pv 1) B.tuple boot_tuple))) (pw_or1 (pt_cmpR op_ne (pe_callB call_len_seq rfl B.len PySem.boot_len (pa_cons (pv 1) pa_nil)) pe_int (nomark _))))) (pss_one (ps_ret pe_bl)) pss_nil)
      (pss_one (ps_if (PW.pt (pw_or (pt_not (pt_val (pe_got G hr rfl (pa_cons (pe_ix ix_tup (pv 1) pe_int (fun _ _ => rfl)) pa_nil)))) (pw_or1 (pt_not (pt_val (pe_got GM (hr.mono (by omega)) rfl (pa_cons (pe_ix ix_tup (pv 1) pe_int (fun _ _ => rfl)) pa_nil))))))) (pss_one (ps_ret pe_bl)) pss_nil))))
    (pss_one (ps_ret pe_bl)), ?_⟩
  have hs : SqT K H a xs := by simpa using hs
  have hl := TgAll.length ha
  rw [wide_tuple] at hw
  refine ⟨_, rfl, a, rfl, ⟨xs, hs⟩, ?_⟩
  refine for_tup (K := K) (a := a) (xs := xs) (fun i σ H2 => SB [] H H2 ∧ (∃ o, σ = [some (.ref a), o]) ∧ (ds.take i).all grP = true) ⟨SB.refl, ⟨none, rfl⟩, by simp⟩ (fun i σ H2 hi h2 => h2.1.sqT hs) (fun i x σ H2 hx h2 => ?_) (fun σ H2 h2 => ?_)
  · obtain ⟨h2, ⟨o, rfl⟩, h3⟩ := h2
    obtain ⟨dx, ex, tx⟩ := TgAll.get ha hx
    have mx := List.mem_of_getElem? ex
    have m1 := depthAll_get ex
    have m2 := wide_mem _ _ mx
    have no : grP dx = false → ∀ H', SB [] H2 H' → Q (.bl false) H' := fun e H' s' => by
      have := q H' (h2.trans s')
      have e2 : grPs ds = false := by
        rw [grPs_all, List.all_eq_false]
        exact ⟨dx, mx, by rw [e]; exact Bool.false_ne_true⟩
      rw [e2] at this
      exact this
    obtain ⟨n1, b, ty, kb, y1, y2⟩ := (Tg_sb h2 tx).ty
    refine ⟨_, rfl, _, _, n1, b, rfl, ty, kb, b, rfl, ?_⟩
    cases b with
    | false =>
      refine iteT (iteT (no ?_ _ SB.refl))
      cases dx with
      | tuple ds => exact absurd rfl (y2 rfl ds)
      | _ => simp [grP]
    | true =>
    refine iteF ?_
    obtain ⟨b1, ys, es, rfl, rfl, hs1, ha1⟩ := y1 rfl
    refine ⟨_, rfl, b1, ys, rfl, .inr hs1, rfl, _, rfl, ?_⟩
    have hl1 := TgAll.length ha1
    by_cases c2 : ys.length = 2
    · rw [show (!decide (V.int (ys.length : Nat) = V.int 2)) = false by rw [c2]; rfl]
      refine iteF ?_
      cases ha1 with
      | nil => simp at c2
      | cons t1 ta =>
        cases ta with
        | nil => simp at c2
        | cons t2 ta =>
          cases ta with
          | cons t3 ta => simp at c2
          | nil =>
            rename_i v1 d1 v2 d2
            have q1 : d1.depth < PyData.depth (.tuple [d1, d2]) := by simp only [PyData.depth, PyData.depthAll]; omega
            have q2 : wide d1 ≤ wide (.tuple [d1, d2]) := by simp only [wide, wides]; omega
            refine ⟨_, rfl, b1, _, _, _, rfl, rfl, hs1, atI_nat (j := 0) rfl, v1, d1, rfl, t1, by omega, by omega, by omega, fun H3 h3' => ?_⟩
            refine ⟨_, rfl, ?_⟩
            cases e1 : treeD d1 with
            | false => exact iteT (iteT (no (by simp [grP, grP2, e1]) _ h3'))
            | true =>
              refine iteF ?_
              refine ⟨_, rfl, b1, _, _, _, rfl, rfl, h3'.sqT hs1, atI_nat (j := 1) rfl, v2, strip d2, rfl, (Tg_sb h3' t2).th, _, rfl, ?_⟩
              rw [many_strip]
              have e : grP (.tuple [d1, d2]) = manyD d2 := by simp [grP, grP2, ladP3, e1]
              cases e2 : manyD d2 with
              | false => exact iteT (no (by rw [e, e2]) _ h3')
              | true =>
                refine iteF ⟨h2.trans h3', ⟨_, rfl⟩, ?_⟩
                rw [List.take_add_one, ex, List.all_append, h3]
                simp [e, e2]
    · rw [show (!decide (V.int (ys.length : Nat) = V.int 2)) = true by rw [decide_eq_false (fun z => by injection z with z; omega)]; rfl]
      refine iteT (no ?_ _ SB.refl)
      cases e : grP (.tuple es) with
      | false => rfl
      | true =>
        obtain ⟨t, i, e2, _⟩ := grP_enc _ e
        injection e2 with e2
        rw [e2] at hl1
        exact absurd hl1 c2
  · obtain ⟨h2, ⟨o, rfl⟩, h3⟩ := h2
    rw [hl, List.take_length, ← grPs_all] at h3
    have := q H2 h2
    rw [h3] at this
    exact this
theorem ok_are_grove_pairsL {n : Nat} (B : BI mg) (GM : Got P w K mg base "is_many" ["thing"] 2 (spMany K [])) (G : Got P w K mg base "is_tree" ["thing"] (n + 3) (spIsTree K n)) (F : Fun K "are_grove_pairs" "are_grove_pairs" s_are_grove_pairs f fd) :
    FnOk P w K mg base CX0 (n + 4) f fd ["things"] (spPairsQ K false (n + 1)) := by
  refine F.ok sc_are_grove_pairs (fun vs H Q E h => ?_) (fun cdv A outer s H vs Q E hr h => ?_)
  · obtain ⟨a, xs, ds, rfl, _⟩ := h
    rfl
  obtain ⟨a, xs, ds, rfl, hs, ha, hd, h79, hw, q⟩ := h
  refine ⟨_, pss_cons (ps_for PassesOwn.never rfl (pi_list (pv 0)) (pg_name (i := 1) sc_are_grove_pairs.nd rfl (.inl rfl))
      (pss_cons (ps_if (PW.pt (pw_or (pt_not (pt_val (pe_isi B (pv 1) B.tuple boot_tuple))) (pw_or1 (pt_cmpR op_ne (pe_callB call_len_seq rfl B.len PySem.boot_len (pa_cons (pv 1) pa_nil)) pe_int (nomark _))))) (pss_one (ps_ret pe_bl)) pss_nil)
      (pss_one (ps_if (PW.pt (pw_or (pt_not (pt_val (pe_got G hr rfl (pa_cons (pe_ix ix_tup (pv 1) pe_int (fun _ _ => rfl)) pa_nil)))) (pw_or1 (pt_not (pt_val (pe_got GM (hr.mono (by omega)) rfl (pa_cons (pe_ix ix_tup (pv 1) pe_int (fun _ _ => rfl)) pa_nil))))))) (pss_one (ps_ret pe_bl)) pss_nil))))
    (pss_one (ps_ret pe_bl)), ?_⟩
  have hs : SqL K H a xs := by simpa using hs
  have hl := TgAll.length ha
  rw [wide_tuple] at hw
  refine ⟨_, rfl, a, rfl, ⟨xs, hs⟩, ?_⟩
  refine for_list (K := K) (a := a) (xs := xs) (fun i σ H2 => SB [] H H2 ∧ (∃ o, σ = [some (.ref a), o]) ∧ (ds.take i).all grP = true) ⟨SB.refl, ⟨none, rfl⟩, by simp⟩ (fun i σ H2 hi h2 => h2.1.sqL List.not_mem_nil hs) (fun i x σ H2 hx h2 => ?_) (fun σ H2 h2 => ?_)
  · obtain ⟨h2, ⟨o, rfl⟩, h3⟩ := h2
    obtain ⟨dx, ex, tx⟩ := TgAll.get ha hx
    have mx := List.mem_of_getElem? ex
    have m1 := depthAll_get ex
    have m2 := wide_mem _ _ mx
    have no : grP dx = false → ∀ H', SB [] H2 H' → Q (.bl false) H' := fun e H' s' => by
      have := q H' (h2.trans s')
      have e2 : grPs ds = false := by
        rw [grPs_all, List.all_eq_false]
        exact ⟨dx, mx, by rw [e]; exact Bool.false_ne_true⟩
      rw [e2] at this
      exact this
    obtain ⟨n1, b, ty, kb, y1, y2⟩ := (Tg_sb h2 tx).ty
    refine ⟨_, rfl, _, _, n1, b, rfl, ty, kb, b, rfl, ?_⟩
    cases b with
    | false =>
      refine iteT (iteT (no ?_ _ SB.refl))
      cases dx with
      | tuple ds => exact absurd rfl (y2 rfl ds)
      | _ => simp [grP]
    | true =>
    refine iteF ?_
    obtain ⟨b1, ys, es, rfl, rfl, hs1, ha1⟩ := y1 rfl
    refine ⟨_, rfl, b1, ys, rfl, .inr hs1, rfl, _, rfl, ?_⟩
    have hl1 := TgAll.length ha1
    by_cases c2 : ys.length = 2
    · rw [show (!decide (V.int (ys.length : Nat) = V.int 2)) = false by rw [c2]; rfl]
      refine iteF ?_
      cases ha1 with
      | nil => simp at c2
      | cons t1 ta =>
        cases ta with
        | nil => simp at c2
        | cons t2 ta =>
          cases ta with
          | cons t3 ta => simp at c2
          | nil =>
            rename_i v1 d1 v2 d2
            have q1 : d1.depth < PyData.depth (.tuple [d1, d2]) := by simp only [PyData.depth, PyData.depthAll]; omega
            have q2 : wide d1 ≤ wide (.tuple [d1, d2]) := by simp only [wide, wides]; omega
            refine ⟨_, rfl, b1, _, _, _, rfl, rfl, hs1, atI_nat (j := 0) rfl, v1, d1, rfl, t1, by omega, by omega, by omega, fun H3 h3' => ?_⟩
            refine ⟨_, rfl, ?_⟩
            cases e1 : treeD d1 with
            | false => exact iteT (iteT (no (by simp [grP, grP2, e1]) _ h3'))
            | true =>
              refine iteF ?_
              refine ⟨_, rfl, b1, _, _, _, rfl, rfl, h3'.sqT hs1, atI_nat (j := 1) rfl, v2, strip d2, rfl, (Tg_sb h3' t2).th, _, rfl, ?_⟩
              rw [many_strip]
              have e : grP (.tuple [d1, d2]) = manyD d2 := by simp [grP, grP2, ladP3, e1]
              cases e2 : manyD d2 with
              | false => exact iteT (no (by rw [e, e2]) _ h3')
              | true =>
                refine iteF ⟨h2.trans h3', ⟨_, rfl⟩, ?_⟩
                rw [List.take_add_one, ex, List.all_append, h3]
                simp [e, e2]
    · rw [show (!decide (V.int (ys.length : Nat) = V.int 2)) = true by rw [decide_eq_false (fun z => by injection z with z; omega)]; rfl]
      refine iteT (no ?_ _ SB.refl)
      cases e : grP (.tuple es) with
      | false => rfl
      | true =>
        obtain ⟨t, i, e2, _⟩ := grP_enc _ e
        injection e2 with e2
        rw [e2] at hl1
        exact absurd hl1 c2
  · obtain ⟨h2, ⟨o, rfl⟩, h3⟩ := h2
    rw [hl, List.take_length, ← grPs_all] at h3
    have := q H2 h2
    rw [h3] at this
    exact this
end
end FT
namespace FT
open PySem PySem.W PySem.Spec PyProof.Rows L2
section
variable {P : Program} {w : World} {K : PySem.W.Frag} {mg : Str → Option Value} {base : Heap} {f : Addr} {fd : FuncData}
theorem sc_pairs_within : FnScope ["grove", "found", "pair"] ["grove"] (defScope s_pairs_within) := ⟨rfl, rfl, rfl, by decide +kernel, rfl, by decide +kernel, by decide +kernel⟩
theorem ok_pairs_within {n : Nat} (G : Got P w K mg base "pairs_within" ["grove"] n (spPairsW K n)) (F : Fun K "pairs_within" "pairs_within" s_pairs_within f fd) : FnOk P w K mg base CX0 (n + 1) f fd ["grove"] (spPairsW K (n + 1)) := by
  refine F.ok sc_pairs_within (fun vs H Q E h => ?_) (fun cdv A outer s H vs Q E hr h => ?_)
  · obtain ⟨v, g, rfl, _⟩ := h
    rfl
  obtain ⟨v, g, rfl, hg, hd, hp, q⟩ := h
  refine ⟨_, pss_cons (ps_set (i := 1) sc_pairs_within.nd rfl (.inl rfl) (pe_lst pa_nil))
    (pss_cons (ps_for PassesOwn.never rfl (pi_tup (pv 0)) (pg_name (i := 2) sc_pairs_within.nd rfl (.inl rfl))
      (pss_cons (ps_expr (pe_bm PySem.F.plainAttrs_list PySem.F.slot_list_append PySem.F.type_list_append mt_append (pv 1) (pa_cons (pv 2) pa_nil)))
      (pss_one (ps_expr (pe_bm PySem.F.plainAttrs_list PySem.F.slot_list_extend PySem.F.type_list_extend mt_extend (pv 1) (pa_cons (pe_got G hr rfl (pa_cons (pe_ix ix_tup (pe_ix ix_tup (pv 2) pe_int (fun _ _ => rfl)) pe_int (fun _ _ => rfl)) pa_nil)) pa_nil))))))
    (pss_one (ps_ret (pv 1)))), ?_⟩
  obtain ⟨a, xs, rfl, hs, hb⟩ := GA_bears hg
  have bl := hb.length
  have wl := g.within_length
  refine ⟨(by show 0 ≤ sizeLine; decide), fun D hD => ?_⟩
  refine ⟨_, rfl, a, rfl, ⟨xs, (SB.new (ps := []) hD _).sqT hs⟩, ?_⟩
  refine for_it (walk_tup (xs := xs)) (fun i σ H2 => SB [D] H H2 ∧ ∃ us o2, σ = [some (.ref a), some (.ref D), o2] ∧ H2 D = some (.lst us) ∧ Bears K H2 Gr.pEnc us ((g.ps.take i).flatMap fun p => p :: p.1.2.within)) ⟨SB.new hD _, [], none, rfl, upd_same, .nil⟩ (fun i σ H2 hi h2 => (h2.1.drop hD).sqT hs) (fun i x σ H2 H' hi h2 y => ?_) (fun σ H2 h2 => ?_)
  · obtain ⟨s2, us, o2, rfl, hD2, hb2⟩ := h2
    obtain ⟨rfl, ex⟩ := y
    obtain ⟨p, ep, hpd⟩ := hb.get ex
    have pm := List.mem_of_getElem? ep
    obtain ⟨ad, td, ux, rfl, hs2, hs3, hga, _⟩ := PA_parts hpd
    have s2' := s2.drop hD
    have ul := hb2.length
    have hsplit : (g.ps.take (i + 1)).flatMap (fun p => p :: p.1.2.within) = (g.ps.take i).flatMap (fun p => p :: p.1.2.within) ++ (p :: p.1.2.within) := by rw [List.take_add_one, ep]; simp
    have hle : ((g.ps.take i).flatMap (fun p => p :: p.1.2.within)).length + (p.1.2.within.length + 1) ≤ 200000 := by
      have h1 : g.within = (g.ps.take (i + 1)).flatMap (fun p => p :: p.1.2.within) ++ (g.ps.drop (i + 1)).flatMap (fun p => p :: p.1.2.within) := by rw [Gr.within_ps, ← List.flatMap_append, List.take_append_drop]
      have h2 := congrArg List.length h1
      rw [hsplit, List.length_append, List.length_append, List.length_cons, wl] at h2
      omega
    refine ⟨_, rfl, .inl ⟨rfl, _, SqL.of hD2⟩, _, rfl, D, us, _, rfl, rfl, hD2, small5 (by omega), ?_⟩
    have t3 := SB.set (ps := [D]) hD2 (by simp) (.lst (us ++ [.ref ad]))
    have hD3 : (upd H' D (.lst (us ++ [.ref ad]))) D = some (.lst (us ++ [.ref ad])) := upd_same
    have hb3 := Bears.append (hb2.sb t3 Gr.noList_pEnc) (.cons (Dp_sb (s2.trans t3) _ _ (Gr.noList_pEnc _) hpd) .nil)
    have s3 := s2.trans t3
    have s3' := s3.drop hD
    generalize hH3 : upd H' D (.lst (us ++ [.ref ad])) = H3 at t3 hD3 hb3 s3 s3'
    have pd := g.mem_deep p pm
    have pp := g.mem_parts p pm
    refine ⟨_, rfl, .inl ⟨rfl, _, SqL.of hD3⟩, _, rfl, ad, _, _, _, rfl, rfl, s3'.sqT hs2, atI_nat (j := 0) rfl, td, _, _, _, rfl, rfl, s3'.sqT hs3, atI_nat (j := 1) rfl, ux, p.1.2, rfl, hga.sb s3', by omega, by omega, fun D2 vs2 H4 s4 hDn hD4 hb4 => ?_⟩
    have hD4' := s4.keep _ _ hD3 List.not_mem_nil
    have vl := hb4.length
    refine ⟨D, D2, _, _, rfl, rfl, hD4', hD4, ?_, ?_⟩
    · rw [List.length_append, List.length_singleton]
      have : 1000000 ≤ sizeLine := by decide
      omega
    have t5 := SB.set (ps := [D]) hD4' (by simp) (.lst (us ++ [.ref ad] ++ vs2))
    refine ⟨(s3.trans s4.nil).trans t5, _, _, rfl, upd_same, ?_⟩
    rw [hsplit, show ((g.ps.take i).flatMap (fun p => p :: p.1.2.within) ++ (p :: p.1.2.within)) = (g.ps.take i).flatMap (fun p => p :: p.1.2.within) ++ [p] ++ p.1.2.within by simp]
    exact Bears.append ((hb3.sb s4 Gr.noList_pEnc).sb t5 Gr.noList_pEnc) (hb4.sb t5 Gr.noList_pEnc)
  · obtain ⟨s2, us, o2, rfl, hD2, hb2⟩ := h2
    rw [bl, List.take_length, ← Gr.within_ps] at hb2
    exact ⟨_, rfl, q D us H2 (s2.drop hD) hD hD2 hb2⟩
end
end FT
namespace FT
open PySem PySem.W PySem.Spec PyProof.Rows L2
section
variable {P : Program} {w : World} {K : PySem.W.Frag} {mg : Str → Option Value} {base : Heap} {f : Addr} {fd : FuncData}
abbrev N_check_kind : List Str := ["book", "name"]
theorem sc_check_kind : FnScope N_check_kind ["book", "name"] (defScope s_check_kind) := ⟨rfl, rfl, rfl, by decide +kernel, rfl, by decide +kernel, by decide +kernel⟩
theorem ok_check_kind {C_NoKind C_Book : Addr} (B : BI mg) (O_NoKind : OwnI P w K mg base "NoKind" C_NoKind 1) (G_Book_names : GotM P w K mg base C_Book "names" ["self"] (1) (spBNames K C_Book)) (F : Fun K "check_kind" "check_kind" s_check_kind f fd) : FnOk P w K mg base (L2.CX P w) (3) f fd ["book", "name"] (spCheckK K C_Book C_NoKind) := by
  refine F.okX sc_check_kind (fun vs H Q E h => ?_) (fun cdv A outer s H vs Q E hr h => ?_)
  · obtain ⟨v, b, n, rfl, _⟩ := h
    rfl
  obtain ⟨v, b, n, rfl, hb, hl, qk, qE⟩ := h
  have hun2 : A.units + 3 + 200 < cLine := by have := hr.un; have h3 : (A.deeper (envOfC "check_kind" (defScope s_check_kind) s.heap.objs.size f cdv)).units = A.units + 3 := rfl; omega
  refine ⟨_, pss_one (ps_if (pt_cmpR op_notIn_seq (pv 1) (pe_gotM0 G_Book_names (hr.mono (by omega)) (pv 0)) (by rfl)) (pss_one (ps_raise rfl (takes_of rfl rfl rfl rfl) (pmk_kind O_NoKind (hr.mono (by omega)) rfl (pv 1)))) pss_nil), ?_⟩
  obtain ⟨a, dx, d1, d2, rfl, h1⟩ := hb.at
  refine ⟨_, rfl, _, rfl, a, dx, _, rfl, h1, rfl, ?_⟩
  refine ⟨_, b, rfl, hb, hl, fun l H1 s1 hn hl1 => ?_⟩
  refine ⟨l, _, rfl, .inl (SqL.of hl1), rfl, flat_strs _, _, rfl, ?_⟩
  rw [inV_strs, Bk.get_isSome]
  cases e : b.get n with
  | some k => exact qk k e H1 s1
  | none => exact ⟨_, rfl, fun d hd => qE e d _ (s1.trans (SB.new hd _)) (s1.dom d hd) upd_same⟩
end
end FT
namespace FT
open PySem PySem.W PySem.Spec PyProof.Rows L2
section
variable {P : Program} {w : World} {K : PySem.W.Frag} {mg : Str → Option Value} {base : Heap} {f : Addr} {fd : FuncData}
abbrev N_are_kinds : List Str := ["things", "thing", "names", "rule"]
theorem sc_are_kinds : FnScope N_are_kinds ["things"] (defScope s_are_kinds) := ⟨rfl, rfl, rfl, by decide +kernel, rfl, by decide +kernel, by decide +kernel⟩
theorem ok_are_kinds (B : BI mg) (L_MOST_KINDS : ∃ t, mg "MOST_KINDS" = some (.int (8) t)) (G_is_kind : Got P w K mg base "is_kind" ["thing"] (86) (spIsKind K)) (G_is_rule_of : Got P w K mg base "is_rule_of" ["rule", "names"] (71) (spIsRuleOf K)) (F : Fun K "are_kinds" "are_kinds" s_are_kinds f fd) : FnOk P w K mg base CX0 (87) f fd ["things"] (spAreKinds K) := by
  refine F.ok sc_are_kinds (fun vs H Q E h => ?_) (fun cdv A outer s H vs Q E hr h => ?_)
  · obtain ⟨l, xs, ts, rfl, _⟩ := h
    rfl
  obtain ⟨l, xs, ts, rfl, hs, ha, hf, hl, q⟩ := h
  obtain ⟨tk_MOST_KINDS, h_MOST_KINDS⟩ := L_MOST_KINDS
  have hun2 : A.units + 3 + 200 < cLine := by have := hr.un; have h3 : (A.deeper (envOfC "are_kinds" (defScope s_are_kinds) s.heap.objs.size f cdv)).units = A.units + 3 := rfl; omega
  refine ⟨_, pss_cons (ps_if (pt_not (pt_chain op_le op_le pe_int (pe_callB call_len_seq rfl B.len PySem.boot_len (pa_cons (pv 0) pa_nil)) (pe_glob (v := .int (8)) rfl h_MOST_KINDS ⟨_, rfl⟩))) (pss_one (ps_ret pe_bl)) pss_nil)
    (pss_cons (ps_for PassesOwn.never rfl (pi_list (pv 0)) (pg_name (i := 1) sc_are_kinds.nd rfl (.inl rfl))
      (pss_one (ps_if (pt_not (pt_val (pe_got G_is_kind (hr.mono (by omega)) rfl (pa_cons (pv 1) pa_nil)))) (pss_one (ps_ret pe_bl)) pss_nil)))
    (pss_cons (ps_set (i := 2) sc_are_kinds.nd rfl (.inr rfl) (pe_lc (own := [("thing", 1)]) (g := (gName 1)) (tt := tYes) (te := (tOp (rIxT K) (tVar 1) (tC (.int 0)))) rfl sc_are_kinds.nd (pi_list (pv 0)) (blkOk_by (N := N_are_kinds) (sc := defScope s_are_kinds) (by decide +kernel)) (fun _ _ _ _ _ => (pg_name (i := 1) sc_are_kinds.nd rfl (.inl rfl))) (fun _ _ _ _ _ => pts_nil) (fun _ _ _ _ _ => (pe_ix ix_tup (pv 1) pe_int (fun _ _ => rfl)))))
    (pss_cons (ps_if (pt_cmpR op_ne (pe_lenSetS rfl B rfl rfl (pv 2)) (pe_callB call_len_seq rfl B.len PySem.boot_len (pa_cons (pv 2) pa_nil)) (nomark _)) (pss_one (ps_ret pe_bl)) pss_nil)
    (pss_one (ps_ret (pe_callB (cr_all rfl) rfl B.all boot_all (pa_cons (pe_lc2 (own := [("thing", 1), ("rule", 3)]) (vs1 := [3]) (wi1 := (iList K (tOp (rIxT K) (tVar 1) (tC (.int 2))))) (g := (gName 1)) (g1 := (gName 3)) (tt := tYes) (tt1 := tYes) (te := (tCall (spIsRuleOf K) [] E0 (tCons (tVar 3) (tCons (tVar 2) tNil)))) rfl sc_are_kinds.nd (pi_list (pv 0)) (blkOk_by (N := N_are_kinds) (sc := defScope s_are_kinds) (by decide +kernel)) (by simp) (fun _ _ _ _ _ => (pg_name (i := 1) sc_are_kinds.nd rfl (.inl rfl))) (fun _ _ _ _ _ => pts_nil) (fun _ _ _ _ _ => (pi_list (pe_ix ix_tup (pv 1) pe_int (fun _ _ => rfl)))) (fun _ _ _ _ _ => (pg_name (i := 3) sc_are_kinds.nd rfl (.inl rfl))) (fun _ _ _ _ _ => pts_nil) (fun _ _ _ _ _ => (pe_got G_is_rule_of (hr.mono (by omega)) rfl (pa_cons (pv 3) (pa_cons (pv 2) pa_nil))))) pa_nil))))))), ?_⟩
  have no : ¬ KTBk ts → ∀ H', SB [] H H' → Q (.bl false) H' := fun e H' s' => q false H' s' ⟨(fun z => nomatch z), fun z => absurd z e⟩
  have xlen := ha.length
  have szl := sizeLine_eq
  refine ⟨_, rfl, l, xs, rfl, .inl hs, _, _, rfl, rfl, _, rfl, ?_⟩
  refine ite2 (fun c => ?_) (fun c => ?_)
  · have c1 := of_decide_eq_true c
    refine ⟨_, _, rfl, rfl, _, rfl, ?_⟩
    cases c8 : decide (((xs.length : Nat) : Int) ≤ 8) with
    | false =>
      have c2 := of_decide_eq_false c8
      refine iteT (no ?_ _ SB.refl)
      rintro ⟨b, e, ok⟩
      have := ok.len
      rw [e, List.length_map] at xlen
      omega
    | true =>
    refine iteF ?_
    have c2 := of_decide_eq_true c8
    refine ⟨_, rfl, l, rfl, ⟨xs, hs⟩, ?_⟩
    refine for_list (K := K) (a := l) (xs := xs) (fun i σ H2 => SB [] H H2 ∧ (∃ o, σ = [some (.ref l), o, none, none]) ∧ ∀ t ∈ ts.take i, KTKd t) ⟨SB.refl, ⟨none, rfl⟩, by simp⟩ (fun i σ H2 hi h2 => h2.1.sqL List.not_mem_nil hs) (fun i x σ H2 hx h2 => ?_) (fun σ H2 h2 => ?_)
    · obtain ⟨h2, ⟨o, rfl⟩, h3⟩ := h2
      obtain ⟨t, et, ht⟩ := ha.get hx
      have mt := List.mem_of_getElem? et
      refine ⟨_, rfl, x, t, rfl, KTA_sb h2 ht, hf t mt, fun b H3 s3 hb => ?_⟩
      refine ⟨_, rfl, ?_⟩
      cases b with
      | false =>
        refine iteT (no ?_ _ (h2.trans s3))
        rintro ⟨bk, e, ok⟩
        rw [e] at mt
        obtain ⟨k, hk, rfl⟩ := List.mem_map.mp mt
        obtain ⟨o1, o2, o3⟩ := ok.kd k hk
        exact nomatch hb.mpr ⟨k, rfl, o1, o2, fun r hr => (o3 r hr).1⟩
      | true =>
        refine iteF ⟨h2.trans s3, ⟨_, rfl⟩, fun t' ht' => ?_⟩
        rw [List.take_add_one, et, Option.toList_some] at ht'
        rcases List.mem_append.mp ht' with h | h
        · exact h3 t' h
        · rw [List.mem_singleton.mp h]; exact hb.mp rfl
    · obtain ⟨h2, ⟨o, rfl⟩, h3⟩ := h2
      rw [xlen, List.take_length] at h3
      obtain ⟨bk, et, hk⟩ := KT_all h3
      subst et
      rw [List.length_map] at xlen
      have ha2 := (ha.sb h2).kd
      have hs2 := h2.sqL List.not_mem_nil hs
      refine ⟨_, rfl, l, rfl, ⟨xs, hs2⟩, fun D hD => ?_⟩
      refine lc_seq (walk_list (xs := xs)) hD (by omega) (fun i us _ => us = ((Bk.names bk).take i).map V.str) rfl (fun H6 s6 => s6.sqL List.not_mem_nil hs2) (fun _ _ _ _ _ h => h) (fun Pv i x H6 H' us hi s6 y hR hl6 fin _ => ?_) (fun us H6 s6 hD6 hR _ => ?_)
      · obtain ⟨rfl, ex⟩ := y
        obtain ⟨k, ek, t, r, zs, rfl, g1, g2, g3, _⟩ := ha2.get ex
        refine ⟨rfl, _, rfl, t, _, _, _, rfl, rfl, s6.sqT g1, atI_nat (j := 0) rfl, fin _ _ SB.refl ?_⟩
        rw [hR, List.take_add_one, List.getElem?_map, ek, Option.map_some, Option.toList_some, List.map_append]; rfl
      · rw [xlen, show (Bk.names bk).take bk.length = Bk.names bk by rw [List.take_of_length_le (by simp)]] at hR
        subst hR
        have s06 := h2.trans s6
        refine ⟨_, rfl, D, Bk.names bk, rfl, SqL.of hD6, by rw [List.length_map]; omega, ?_⟩
        refine ⟨_, rfl, D, _, rfl, .inl (SqL.of hD6), rfl, _, rfl, ?_⟩
        have hnd := met_len_nodup (Bk.names bk)
        rw [show (List.map V.str (Bk.names bk)).length = (Bk.names bk).length from List.length_map ..]
        by_cases nd : (Bk.names bk).Nodup
        · rw [hnd.mpr nd, show (!decide (V.int ((Bk.names bk).length : Nat) = V.int ((Bk.names bk).length : Nat))) = false by simp]
          refine iteF ?_
          have ha6 := ha2.sb s6 NoLst.nil
          have hs6 := s6.sqL List.not_mem_nil hs2
          refine ⟨_, rfl, l, rfl, ⟨xs, hs6⟩, fun E1 hE1 => ?_⟩
          have good : ∀ r : Ru, (∃ k ∈ bk, r ∈ k.rs) → RuOk r := fun r ⟨k, h1, h2⟩ => (hk k h1).2.2 r h2
          refine lcG (walk_list (xs := xs)) (fun i H2 => SB [E1] H6 H2 ∧ ∃ bs : List Bool, H2 E1 = some (.lst (bs.map V.bl)) ∧ bs = ((bk.take i).flatMap fun k => k.rs.map fun r => decide (∀ p ∈ Ru.within r, p.1.1 ∈ Bk.names bk))) ⟨SB.new hE1 _, [], upd_same, rfl⟩ (fun i H2 hi h2 => (h2.1.drop hE1).sqL List.not_mem_nil hs6) (fun i x H2 H' hi h2 y => ?_) (fun H2 h2 => ?_)
          · obtain ⟨s7, bs, hE7, hbs⟩ := h2
            obtain ⟨rfl, ex⟩ := y
            obtain ⟨k, ek, t, r, zs, rfl, g1, g2, g3, _⟩ := ha6.get ex
            have mk := List.mem_of_getElem? ek
            have zl := g3.length
            have r4 := (hk k mk).2.1
            have s7' := s7.drop hE1
            refine ⟨rfl, ?_⟩
            refine ⟨_, rfl, t, _, _, _, rfl, rfl, s7'.sqT g1, atI_nat (j := 2) rfl, r, rfl, ⟨zs, SqL.of (s7'.keep _ _ g2 List.not_mem_nil)⟩, ?_⟩
            have hsplit : ((bk.take (i + 1)).flatMap fun k => k.rs.map fun r => decide (∀ p ∈ Ru.within r, p.1.1 ∈ Bk.names bk)) = ((bk.take i).flatMap fun k => k.rs.map fun r => decide (∀ p ∈ Ru.within r, p.1.1 ∈ Bk.names bk)) ++ k.rs.map fun r => decide (∀ p ∈ Ru.within r, p.1.1 ∈ Bk.names bk) := by rw [List.take_add_one, ek]; simp
            have hlen : bs.length ≤ 4 * i := by
              rw [hbs]
              clear hbs hE7 s7 s7' hsplit ex ek
              induction i with
              | zero => simp
              | succ i ih =>
                rw [List.take_add_one, List.flatMap_append, List.length_append]
                have := ih (by omega)
                cases e : bk[i]? with
                | none => simp only [Option.toList_none, List.flatMap_nil, List.length_nil]; omega
                | some k2 =>
                  have := (hk k2 (List.mem_of_getElem? e)).2.1
                  simp only [Option.toList_some, List.flatMap_cons, List.flatMap_nil, List.append_nil, List.length_map]; omega
            refine lcG (walk_list (xs := zs)) (fun j H3 => SB [E1] H6 H3 ∧ ∃ bs2 : List Bool, H3 E1 = some (.lst (bs2.map V.bl)) ∧ bs2 = bs ++ ((k.rs.take j).map fun r => decide (∀ p ∈ Ru.within r, p.1.1 ∈ Bk.names bk))) ⟨s7, bs, hE7, by simp⟩ (fun j H3 hj h3 => (h3.1.drop hE1).sqL List.not_mem_nil (SqL.of g2)) (fun j x H3 H4 hj h3 y => ?_) (fun H3 h3 => ?_)
            · obtain ⟨s8, bs2, hE8, hbs2⟩ := h3
              obtain ⟨rfl, ex2⟩ := y
              obtain ⟨ru, er, hru⟩ := g3.get ex2
              have s8' := s8.drop hE1
              have mr := List.mem_of_getElem? er
              refine ⟨rfl, ?_⟩
              refine ⟨_, rfl, _, rfl, _, D, ru, Bk.names bk, rfl, Dp_sb s8' _ _ (Ru.noList_enc _) hru, (hk k mk).2.2 ru mr, SqL.of (s8'.keep _ _ hD6 List.not_mem_nil), by rw [List.length_map]; omega, fun H9 s9 => ?_⟩
              have hE9 := s9.keep _ _ hE8 List.not_mem_nil
              refine ⟨_, hE9, ?_, (s8.trans s9.nil).trans (SB.set hE9 (by simp) _), bs2 ++ [decide (∀ p ∈ Ru.within ru, p.1.1 ∈ Bk.names bk)], (by rw [upd_same, List.map_append]; rfl), ?_⟩
              · rw [List.length_map, hbs2, List.length_append, List.length_map, List.length_take]
                omega
              · rw [hbs2, List.take_add_one, er, Option.toList_some, List.map_append, ← List.append_assoc]
                exact rfl
            · obtain ⟨s8, bs2, hE8, hbs2⟩ := h3
              refine ⟨s8, bs2, hE8, ?_⟩
              rw [hsplit, hbs2, hbs, zl, List.take_length]
          · obtain ⟨s7, bs, hE7, hbs⟩ := h2
            rw [xlen, List.take_length] at hbs
            refine ⟨E1, bs, rfl, SqL.of hE7, q _ _ (s06.trans (s7.drop hE1)) ?_⟩
            rw [hbs]
            simp only [List.all_flatMap, List.all_map, List.all_eq_true, Function.comp, id_eq, decide_eq_true_eq]
            constructor
            · intro h
              exact ⟨bk, rfl, by omega, by omega, nd, fun k mk => ⟨(hk k mk).1, (hk k mk).2.1, fun r mr => ⟨(hk k mk).2.2 r mr, h k mk r mr⟩⟩⟩
            · rintro ⟨b2, e2, ok⟩ k mk r mr
              have e3 := kts_inj e2
              subst e3
              exact ((ok.kd k mk).2.2 r mr).2
        · rw [show (!decide (V.int ((met (Bk.names bk) (Bk.names bk).length).length : Nat) = V.int ((Bk.names bk).length : Nat))) = true by
            rw [decide_eq_false (fun z => by injection z with z; exact nd (hnd.mp (by omega)))]; rfl]
          refine iteT (no ?_ _ s06)
          rintro ⟨b2, e2, ok⟩
          have e3 := kts_inj e2
          subst e3
          exact nd ok.nd
  · have c1 := of_decide_eq_false (Bool.eq_false_iff.mpr c)
    refine ⟨_, rfl, ?_⟩
    refine iteT (no ?_ _ SB.refl)
    rintro ⟨b, e, ok⟩
    have := ok.pos
    rw [e, List.length_map] at xlen
    omega
end
end FT
namespace FT
open PySem PySem.W PySem.Spec PyProof.Rows L2
section
variable {P : Program} {w : World} {K : PySem.W.Frag} {mg : Str → Option Value} {base : Heap} {f : Addr} {fd : FuncData}
abbrev N_is_kind : List Str := ["thing", "name", "spreading", "rows", "row"]
theorem sc_is_kind : FnScope N_is_kind ["thing"] (defScope s_is_kind) := ⟨rfl, rfl, rfl, by decide +kernel, rfl, by decide +kernel, by decide +kernel⟩
theorem ok_is_kind (B : BI mg) (L_MOST_RULES : ∃ t, mg "MOST_RULES" = some (.int (4) t)) (G_is_name : Got P w K mg base "is_name" ["thing"] (2) (spName K)) (G_is_rule : Got P w K mg base "is_rule" ["thing"] (85) (spIsRule K)) (F : Fun K "is_kind" "is_kind" s_is_kind f fd) : FnOk P w K mg base CX0 (86) f fd ["thing"] (spIsKind K) := by
  refine F.ok sc_is_kind (fun vs H Q E h => ?_) (fun cdv A outer s H vs Q E hr h => ?_)
  · obtain ⟨v, t, rfl, _⟩ := h
    rfl
  obtain ⟨v, t, rfl, th, hf, q⟩ := h
  obtain ⟨tk_MOST_RULES, h_MOST_RULES⟩ := L_MOST_RULES
  have hun2 : A.units + 3 + 200 < cLine := by have := hr.un; have h3 : (A.deeper (envOfC "is_kind" (defScope s_is_kind) s.heap.objs.size f cdv)).units = A.units + 3 := rfl; omega
  refine ⟨_, pss_cons (ps_if (PW.pt (pw_or (pt_not (pt_val (pe_isi B (pv 0) B.tuple boot_tuple))) (pw_or1 (pt_cmpR op_ne (pe_callB call_len_seq rfl B.len PySem.boot_len (pa_cons (pv 0) pa_nil)) pe_int (nomark _))))) (pss_one (ps_ret pe_bl)) pss_nil)
    (pss_cons (ps_asg (pv 0) (pg_tup rfl (pgs_cons (pg_name (i := 1) sc_is_kind.nd rfl (.inl rfl)) (pgs_cons (pg_name (i := 2) sc_is_kind.nd rfl (.inl rfl)) (pgs_cons (pg_name (i := 3) sc_is_kind.nd rfl (.inl rfl)) pgs_nil)))))
    (pss_cons (ps_if (PW.pt (pw_or (pt_not (pt_val (pe_got G_is_name (hr.mono (by omega)) rfl (pa_cons (pv 1) pa_nil)))) (pw_or1 (pt_not (pt_val (pe_isi B (pv 2) B.bool boot_bool)))))) (pss_one (ps_ret pe_bl)) pss_nil)
    (pss_one (ps_ret (pe_and (pe_isi B (pv 3) B.list boot_list) (pe_and (pe_cmpR op_le (pe_callB call_len_seq rfl B.len PySem.boot_len (pa_cons (pv 3) pa_nil)) (pe_glob (v := .int (4)) rfl h_MOST_RULES ⟨_, rfl⟩) (nomark _)) (pe_one (pe_callB (cr_all rfl) rfl B.all boot_all (pa_cons (pe_lc (own := [("row", 4)]) (g := (gName 4)) (tt := tYes) (te := (tCall (spIsRule K) [] E0 (tCons (tVar 4) tNil))) rfl sc_is_kind.nd (pi_list (pv 3)) (blkOk_by (N := N_is_kind) (sc := defScope s_is_kind) (by decide +kernel)) (fun _ _ _ _ _ => (pg_name (i := 4) sc_is_kind.nd rfl (.inl rfl))) (fun _ _ _ _ _ => pts_nil) (fun _ _ _ _ _ => (pe_got G_is_rule (hr.mono (by omega)) rfl (pa_cons (pv 4) pa_nil)))) pa_nil))))))))), ?_⟩
  have no : ¬ KTKd t → ∀ H', SB [] H H' → Q (.bl false) H' := fun e H' s' => q false H' s' ⟨(fun z => nomatch z), fun z => absurd z e⟩
  cases t with
  | other =>
    have n0 : ¬ KTKd .other := by rintro ⟨k, e, _⟩; cases e
    obtain ⟨d, tg, hd⟩ := th
    obtain ⟨n1, b, ty, kb, y1, y2⟩ := tg.ty
    refine ⟨_, rfl, _, _, n1, b, rfl, ty, kb, b, rfl, ?_⟩
    cases b with
    | false => exact iteT (iteT (no n0 _ SB.refl))
    | true =>
    refine iteF ?_
    obtain ⟨a, xs, ds, rfl, rfl, hs, ha⟩ := y1 rfl
    refine ⟨_, rfl, a, xs, rfl, .inr hs, rfl, _, rfl, ?_⟩
    have hl := TgAll.length ha
    have h3 := hd ds rfl
    rw [show (!decide (V.int (xs.length : Nat) = V.int 3)) = true by rw [decide_eq_false (fun z => by injection z with z; omega)]; rfl]
    exact iteT (no n0 _ SB.refl)
  | three d w rs =>
    obtain ⟨a, x, y, z, rfl, hs, tx, ty, tz⟩ := th
    refine ⟨_, rfl, _, _, "tuple", true, rfl, SqT_ty hs, by decide +kernel, _, rfl, ?_⟩
    refine iteF ?_
    refine ⟨_, rfl, a, _, rfl, .inr hs, rfl, _, rfl, ?_⟩
    rw [show (!decide (V.int (([x, y, z] : List V).length : Nat) = V.int 3)) = false from rfl]
    refine iteF ?_
    refine ⟨_, rfl, a, _, rfl, hs, rfl, _, _, rfl, _, _, rfl, _, _, rfl, rfl, ?_⟩
    refine ⟨_, rfl, x, d, rfl, tx, fun H1 s1 => ?_⟩
    refine ⟨_, rfl, ?_⟩
    cases g1 : nameD d with
    | false =>
      refine iteT (iteT (no ?_ _ s1))
      rintro ⟨k, e, hk, _⟩
      injection e with e _ _
      rw [e, nameD_ok hk] at g1
      cases g1
    | true =>
    refine iteF ?_
    obtain ⟨nm, rfl, hnm⟩ := nameD_iff g1
    cases w with
    | none =>
      obtain ⟨n, ty, kb⟩ := ty
      refine ⟨_, rfl, _, _, n, false, rfl, TyX_sb s1 (fun _ _ => List.not_mem_nil) ty, kb, _, rfl, ?_⟩
      refine iteT (no ?_ _ s1)
      rintro ⟨k, e, _⟩
      injection e with _ e _
      cases e
    | some bb =>
    have ty : y = .bl bb := ty
    subst ty
    refine ⟨_, rfl, _, _, "bool", true, rfl, .base (.bl bb), by decide +kernel, _, rfl, ?_⟩
    refine iteF ?_
    cases rs with
    | none =>
      obtain ⟨n, ty, kb⟩ := tz
      refine ⟨_, rfl, _, _, n, false, rfl, TyX_sb s1 (fun _ _ => List.not_mem_nil) ty, kb, _, rfl, ?_⟩
      refine iteF (no ?_ _ s1)
      rintro ⟨k, e, _⟩
      injection e with _ _ e
      cases e
    | some ds =>
    obtain ⟨l, zs, rfl, hl, ha⟩ := tz
    obtain ⟨hd1, hd2⟩ := hf ds rfl
    refine ⟨_, rfl, _, _, "list", true, rfl, SqL_ty (s1.sqL List.not_mem_nil (SqL.of hl)), by decide +kernel, _, rfl, ?_⟩
    refine iteT ?_
    have hlen := TgAll.length ha
    refine ⟨_, rfl, l, _, rfl, .inl (s1.sqL List.not_mem_nil (SqL.of hl)), _, _, rfl, rfl, _, rfl, ?_⟩
    refine ite2 (fun c => ?_) (fun c => ?_)
    · have c1 := of_decide_eq_true c
      rw [hlen] at c1
      have szl := sizeLine_eq
      refine ⟨_, rfl, l, rfl, ⟨_, s1.sqL List.not_mem_nil (SqL.of hl)⟩, fun D hD => ?_⟩
      refine lc_seq (walk_list (xs := zs)) hD (by omega) (fun i us _ => ∃ bs : List Bool, us = bs.map V.bl ∧ bs.length = i ∧ ∀ j b, bs[j]? = some b → ∀ x, ds[j]? = some x → (b = true ↔ RuD x)) ⟨[], rfl, rfl, fun j b h => by rw [List.getElem?_nil] at h; cases h⟩ (fun H6 s6 => s6.sqL List.not_mem_nil (s1.sqL List.not_mem_nil (SqL.of hl))) (fun _ _ _ _ _ h => h) (fun Pv i x H6 H' us hi s6 y hR hl6 fin _ => ?_) (fun us H6 s6 hD6 hR _ => ?_)
      · obtain ⟨rfl, ex⟩ := y
        obtain ⟨p, ep, hp⟩ := TgAll.get ha ex
        obtain ⟨bs, rfl, hbl, hbs⟩ := hR
        refine ⟨rfl, _, rfl, x, p, rfl, Tg_sb (s1.trans s6) hp, hd2 _ (List.mem_of_getElem? ep), fun b H7 s7 hb => fin _ _ s7 ⟨bs ++ [b], by rw [List.map_append]; rfl, by rw [List.length_append, hbl]; rfl, fun j b' hj y hy => ?_⟩⟩
        by_cases hji : j < bs.length
        · rw [List.getElem?_append_left hji] at hj
          exact hbs j b' hj y hy
        · have hj' : j = bs.length := by
            have := (List.getElem?_eq_some_iff.mp hj).1
            rw [List.length_append, List.length_singleton] at this
            omega
          subst hj'
          rw [List.getElem?_append_right (Nat.le_refl _), Nat.sub_self] at hj
          cases hj
          rw [hbl, ep] at hy
          cases hy
          exact hb
      · obtain ⟨bs, rfl, hbl, hbs⟩ := hR
        refine ⟨D, bs, rfl, SqL.of hD6, q _ _ (s1.trans s6) ?_⟩
        have h1 : (bs.all id = true) ↔ ∀ x ∈ ds, RuD x := by
          rw [List.all_eq_true]
          constructor
          · intro h x hx
            obtain ⟨j, hj, e⟩ := List.getElem_of_mem hx
            have hjb : j < bs.length := by omega
            exact (hbs j bs[j] (List.getElem?_eq_getElem hjb) x (by rw [List.getElem?_eq_getElem hj, e])).mp (h _ (List.getElem_mem hjb))
          · intro h b hb
            obtain ⟨j, hj, e⟩ := List.getElem_of_mem hb
            have hjb : j < ds.length := by omega
            exact (hbs j b (by rw [List.getElem?_eq_getElem hj, e]) ds[j] (List.getElem?_eq_getElem hjb)).mpr (h _ (List.getElem_mem hjb))
        rw [h1]
        constructor
        · intro h
          obtain ⟨rr, e1, e2⟩ := RuD_all h
          exact ⟨⟨nm, bb, rr⟩, by rw [Kd.kt, e1], hnm, by rw [e1, List.length_map] at c1; show rr.length ≤ 4; omega, e2⟩
        · rintro ⟨k, e, _, _, hk⟩ x hx
          injection e with _ _ e
          injection e with e
          rw [e] at hx
          obtain ⟨r, hr, rfl⟩ := List.mem_map.mp hx
          exact ⟨r, rfl, hk r hr⟩
    · have c1 := of_decide_eq_false (Bool.eq_false_iff.mpr c)
      rw [hlen] at c1
      refine no ?_ _ s1
      rintro ⟨k, e, _, h4, _⟩
      injection e with _ _ e
      injection e with e
      rw [e, List.length_map] at c1
      omega
end
end FT
namespace FT
open PySem PySem.W PySem.Spec PyProof.Rows L2
section
variable {P : Program} {w : World} {K : PySem.W.Frag} {mg : Str → Option Value} {base : Heap} {f : Addr} {fd : FuncData}
abbrev N_is_rule : List Str := ["thing", "once", "each", "pairs", "tree", "many"]
theorem sc_is_rule : FnScope N_is_rule ["thing"] (defScope s_is_rule) := ⟨rfl, rfl, rfl, by decide +kernel, rfl, by decide +kernel, by decide +kernel⟩
theorem ok_is_rule (B : BI mg) (L_MOST_RULE_PARTS : ∃ t, mg "MOST_RULE_PARTS" = some (.int (4) t)) (L_MOST_MANY : ∃ t, mg "MOST_MANY" = some (.int (1000000000) t)) (G_is_grove : Got P w K mg base "is_grove" ["thing"] (84) (spIsGrove K 81)) (G_pairs_within : Got P w K mg base "pairs_within" ["grove"] (20) (spPairsW K 20)) (F : Fun K "is_rule" "is_rule" s_is_rule f fd) : FnOk P w K mg base CX0 (85) f fd ["thing"] (spIsRule K) := by
  refine F.ok sc_is_rule (fun vs H Q E h => ?_) (fun cdv A outer s H vs Q E hr h => ?_)
  · obtain ⟨v, d, rfl, _⟩ := h
    rfl
  obtain ⟨v, d, rfl, th, hf, q⟩ := h
  obtain ⟨tk_MOST_RULE_PARTS, h_MOST_RULE_PARTS⟩ := L_MOST_RULE_PARTS
  obtain ⟨tk_MOST_MANY, h_MOST_MANY⟩ := L_MOST_MANY
  have hun2 : A.units + 3 + 200 < cLine := by have := hr.un; have h3 : (A.deeper (envOfC "is_rule" (defScope s_is_rule) s.heap.objs.size f cdv)).units = A.units + 3 := rfl; omega
  refine ⟨_, pss_cons (ps_if (PW.pt (pw_or (pt_not (pt_val (pe_isi B (pv 0) B.tuple boot_tuple))) (pw_or1 (pt_cmpR op_ne (pe_callB call_len_seq rfl B.len PySem.boot_len (pa_cons (pv 0) pa_nil)) pe_int (nomark _))))) (pss_one (ps_ret pe_bl)) pss_nil)
    (pss_cons (ps_asg (pv 0) (pg_tup rfl (pgs_cons (pg_name (i := 1) sc_is_rule.nd rfl (.inl rfl)) (pgs_cons (pg_name (i := 2) sc_is_rule.nd rfl (.inl rfl)) pgs_nil))))
    (pss_cons (ps_if (PW.pt (pw_or (pt_not (pt_val (pe_got G_is_grove (hr.mono (by omega)) rfl (pa_cons (pv 1) pa_nil)))) (pw_or1 (pt_not (pt_val (pe_got G_is_grove (hr.mono (by omega)) rfl (pa_cons (pv 2) pa_nil))))))) (pss_one (ps_ret pe_bl)) pss_nil)
    (pss_cons (ps_set (i := 3) sc_is_rule.nd rfl (.inl rfl) (pe_op op_cat (pe_got G_pairs_within (hr.mono (by omega)) rfl (pa_cons (pv 1) pa_nil)) (pe_got G_pairs_within (hr.mono (by omega)) rfl (pa_cons (pv 2) pa_nil))))
    (pss_one (ps_ret (pe_and (pe_cmpR op_le (pe_callB call_len_seq rfl B.len PySem.boot_len (pa_cons (pv 3) pa_nil)) (pe_glob (v := .int (4)) rfl h_MOST_RULE_PARTS ⟨_, rfl⟩) (nomark _)) (pe_one (pe_callB (cr_all rfl) rfl B.all boot_all (pa_cons (pe_lc (own := [("tree", 4), ("many", 5)]) (g := (gTup K 2 (gCons (gName 4) (gCons (gName 5) gNil)))) (tt := tYes) (te := (tOp (rI0 fun i j => .bl (decide (i ≤ j))) (tVar 5) (tC (.int (1000000000))))) rfl sc_is_rule.nd (pi_list (pv 3)) (blkOk_by (N := N_is_rule) (sc := defScope s_is_rule) (by decide +kernel)) (fun _ _ _ _ _ => (pg_tup rfl (pgs_cons (pg_name (i := 4) sc_is_rule.nd rfl (.inl rfl)) (pgs_cons (pg_name (i := 5) sc_is_rule.nd rfl (.inl rfl)) pgs_nil)))) (fun _ _ _ _ _ => pts_nil) (fun _ _ _ _ _ => (pe_cmpR op_le (pv 5) (pe_glob (v := .int (1000000000)) rfl h_MOST_MANY ⟨_, rfl⟩) (nomark _)))) pa_nil))))))))), ?_⟩
  have no : ¬ RuD d → ∀ H', SB [] H H' → Q (.bl false) H' := fun e H' s' => q false H' s' ⟨(fun z => nomatch z), fun z => absurd z e⟩
  obtain ⟨n1, b, ty, kb, y1, y2⟩ := th.ty
  refine ⟨_, rfl, _, _, n1, b, rfl, ty, kb, b, rfl, ?_⟩
  cases b with
  | false =>
    refine iteT (iteT (no ?_ _ SB.refl))
    rintro ⟨r, e, _⟩
    exact y2 rfl _ e
  | true =>
  refine iteF ?_
  obtain ⟨a, xs, ds, rfl, rfl, hs, ha⟩ := y1 rfl
  refine ⟨_, rfl, a, xs, rfl, .inr hs, rfl, _, rfl, ?_⟩
  have hl := TgAll.length ha
  by_cases c2 : xs.length = 2
  · rw [show (!decide (V.int (xs.length : Nat) = V.int 2)) = false by rw [c2]; rfl]
    refine iteF ?_
    cases ha with
    | nil => simp at c2
    | cons t1 ta =>
      cases ta with
      | nil => simp at c2
      | cons t2 ta =>
        cases ta with
        | cons t3 ta => simp at c2
        | nil =>
          rename_i v1 d1 v2 d2
          obtain ⟨f1, f2, f3⟩ := hf
          have q1 : d1.depth < PyData.depth (.tuple [d1, d2]) ∧ d2.depth < PyData.depth (.tuple [d1, d2]) := by simp only [PyData.depth, PyData.depthAll]; omega
          have q2 : wide d1 ≤ wide (.tuple [d1, d2]) ∧ wide d2 ≤ wide (.tuple [d1, d2]) := by simp only [wide, wides]; omega
          refine ⟨_, rfl, a, _, rfl, hs, rfl, _, _, rfl, _, _, rfl, rfl, ?_⟩
          refine ⟨_, rfl, v1, d1, rfl, t1, by omega, by omega, by omega, fun H1 s1 => ?_⟩
          refine ⟨_, rfl, ?_⟩
          cases g1 : groveD d1 with
          | false =>
            refine iteT (iteT (no ?_ _ s1))
            intro z
            obtain ⟨g, k, e, z1, _⟩ := RuD_two z
            injection e with e
            injection e with e _
            rw [e, z1] at g1
            cases g1
          | true =>
          refine iteF ?_
          refine ⟨_, rfl, v2, d2, rfl, Tg_sb s1 t2, by omega, by omega, by omega, fun H2 s2 => ?_⟩
          have s02 := s1.trans s2
          refine ⟨_, rfl, ?_⟩
          cases g2 : groveD d2 with
          | false =>
            refine iteT (no ?_ _ s02)
            intro z
            obtain ⟨g, k, e, _, z1⟩ := RuD_two z
            injection e with e
            injection e with _ e
            injection e with e _
            rw [e, z1] at g2
            cases g2
          | true =>
          refine iteF ?_
          obtain ⟨u1, rfl⟩ := groveD_gr _ g1
          obtain ⟨u2, rfl⟩ := groveD_gr _ g2
          obtain ⟨w1, w2⟩ := f3 _ _ rfl u1 (.inl rfl)
          obtain ⟨w3, w4⟩ := f3 _ _ rfl u2 (.inr rfl)
          have ga1 : GA K H v1 u1 := by
            cases t1 with
            | tup h1 h2 => exact .tup h1 (Tg_ga u1 h2)
          have ga2 : GA K H v2 u2 := by
            cases t2 with
            | tup h1 h2 => exact .tup h1 (Tg_ga u2 h2)
          refine ⟨_, rfl, _, u1, rfl, ga1.sb s02, by omega, by omega, fun D1 us1 H3 s3 hn1 hD1 hb1 => ?_⟩
          refine ⟨_, rfl, _, u2, rfl, (ga2.sb s02).sb s3, by omega, by omega, fun D2 us2 H4 s4 hn2 hD2 hb2 => ?_⟩
          have l1 := hb1.length
          have l2 := hb2.length
          rw [Gr.within_length] at l1 l2
          have szl := sizeLine_eq
          refine ⟨D1, D2, us1, us2, rfl, rfl, s4.keep _ _ hD1 List.not_mem_nil, hD2, by omega, fun D3 hn3 => ?_⟩
          have t5 := SB.new (ps := []) hn3 (.lst (us1 ++ us2))
          have s05 := ((s02.trans s3).trans s4).trans t5
          have hD3 : upd H4 D3 (.lst (us1 ++ us2)) D3 = some (.lst (us1 ++ us2)) := upd_same
          have hb3 : Bears K (upd H4 D3 (.lst (us1 ++ us2))) Gr.pEnc (us1 ++ us2) (u1.within ++ u2.within) := Bears.append ((hb1.sb s4 Gr.noList_pEnc).sb t5 Gr.noList_pEnc) (hb2.sb t5 Gr.noList_pEnc)
          generalize upd H4 D3 (.lst (us1 ++ us2)) = H5 at t5 s05 hD3 hb3
          have iff1 := RuD_iff g1 g2
          refine ⟨_, rfl, D3, _, rfl, .inl (SqL.of hD3), _, _, rfl, rfl, _, rfl, ?_⟩
          refine ite2 (fun c => ?_) (fun c => ?_)
          · have c1 := of_decide_eq_true c
            rw [List.length_append, l1, l2] at c1
            have bl3 := hb3.length
            refine ⟨_, rfl, D3, rfl, ⟨_, SqL.of hD3⟩, fun D hD => ?_⟩
            refine lc_seq (walk_list (xs := us1 ++ us2)) hD (by rw [List.length_append]; omega) (fun i us _ => us = ((u1.within ++ u2.within).take i).map fun p => V.bl (decide (p.2 ≤ 1000000000))) rfl (fun H6 s6 => s6.sqL List.not_mem_nil (SqL.of hD3)) (fun _ _ _ _ _ h => h) (fun Pv i x H6 H' us hi s6 y hR hl6 fin _ => ?_) (fun us H6 s6 hD6 hR _ => ?_)
            · obtain ⟨rfl, ex⟩ := y
              obtain ⟨p, ep, hpd⟩ := hb3.get ex
              obtain ⟨ad, td, ux, rfl, hs2, hs3, hga, hdt⟩ := PA_parts hpd
              refine ⟨ad, _, rfl, s6.sqT hs2, rfl, _, _, rfl, _, _, rfl, rfl, rfl, ?_⟩
              refine ⟨_, rfl, _, _, rfl, rfl, fin _ _ SB.refl ?_⟩
              rw [hR, List.take_add_one, ep, Option.toList_some, List.map_append]; rfl
            · rw [bl3, List.take_length] at hR
              subst hR
              refine ⟨D, ((u1.within ++ u2.within).map fun p => decide (p.2 ≤ 1000000000)), rfl, SqL.of (by rw [List.map_map]; exact hD6), q _ _ (s05.trans s6) ?_⟩
              rw [iff1]
              simp only [List.all_map, List.all_eq_true, Function.comp, id_eq, decide_eq_true_eq]
              exact ⟨fun h => ⟨by omega, h⟩, fun h => h.2⟩
          · have c1 := of_decide_eq_false (Bool.eq_false_iff.mpr c)
            rw [List.length_append, l1, l2] at c1
            refine q false _ s05 ⟨(fun z => nomatch z), fun z => absurd (iff1.mp z).1 (by omega)⟩
  · rw [show (!decide (V.int (xs.length : Nat) = V.int 2)) = true by rw [decide_eq_false (fun z => by injection z with z; omega)]; rfl]
    refine iteT (no ?_ _ SB.refl)
    rintro ⟨r, e, _⟩
    have e' : PyData.tuple ds = .tuple [r.1.enc, r.2.enc] := e
    injection e' with e'
    rw [e'] at hl
    exact c2 hl
end
end FT
namespace FT
open PySem PySem.W PySem.Spec PyProof.Rows L2
section
variable {P : Program} {w : World} {K : PySem.W.Frag} {mg : Str → Option Value} {base : Heap} {f : Addr} {fd : FuncData}
abbrev N_is_rule_of : List Str := ["rule", "names", "once", "each", "tree", "many"]
theorem sc_is_rule_of : FnScope N_is_rule_of ["rule", "names"] (defScope s_is_rule_of) := ⟨rfl, rfl, rfl, by decide +kernel, rfl, by decide +kernel, by decide +kernel⟩
theorem ok_is_rule_of (B : BI mg) (G_pairs_within : Got P w K mg base "pairs_within" ["grove"] (20) (spPairsW K 20)) (F : Fun K "is_rule_of" "is_rule_of" s_is_rule_of f fd) : FnOk P w K mg base CX0 (71) f fd ["rule", "names"] (spIsRuleOf K) := by
  refine F.ok sc_is_rule_of (fun vs H Q E h => ?_) (fun cdv A outer s H vs Q E hr h => ?_)
  · obtain ⟨v, l, r, ns, rfl, _⟩ := h
    rfl
  obtain ⟨v, l, r, ns, rfl, hv, ho, hs, hn, q⟩ := h
  have hun2 : A.units + 3 + 200 < cLine := by have := hr.un; have h3 : (A.deeper (envOfC "is_rule_of" (defScope s_is_rule_of) s.heap.objs.size f cdv)).units = A.units + 3 := rfl; omega
  refine ⟨_, pss_cons (ps_asg (pv 0) (pg_tup rfl (pgs_cons (pg_name (i := 2) sc_is_rule_of.nd rfl (.inl rfl)) (pgs_cons (pg_name (i := 3) sc_is_rule_of.nd rfl (.inl rfl)) pgs_nil))))
    (pss_one (ps_ret (pe_callB (cr_all rfl) rfl B.all boot_all (pa_cons (pe_lc (own := [("tree", 4), ("many", 5)]) (g := (gTup K 2 (gCons (gName 4) (gCons (gName 5) gNil)))) (tt := tYes) (te := (tOp (rIn K false) (tOp (rIxT K) (tVar 4) (tC (.int 0))) (tVar 1))) rfl sc_is_rule_of.nd (pi_list (pe_op op_cat (pe_got G_pairs_within (hr.mono (by omega)) rfl (pa_cons (pv 2) pa_nil)) (pe_got G_pairs_within (hr.mono (by omega)) rfl (pa_cons (pv 3) pa_nil)))) (blkOk_by (N := N_is_rule_of) (sc := defScope s_is_rule_of) (by decide +kernel)) (fun _ _ _ _ _ => (pg_tup rfl (pgs_cons (pg_name (i := 4) sc_is_rule_of.nd rfl (.inl rfl)) (pgs_cons (pg_name (i := 5) sc_is_rule_of.nd rfl (.inl rfl)) pgs_nil)))) (fun _ _ _ _ _ => pts_nil) (fun _ _ _ _ _ => (pe_cmpR op_in_seq (pe_ix ix_tup (pv 4) pe_int (fun _ _ => rfl)) (pv 1) (by rfl)))) pa_nil)))), ?_⟩
  obtain ⟨ho1, ho2, ho3⟩ := ho
  cases (hv : Dp K H v (.tuple [r.1.enc, r.2.enc])) with
  | tup ht hd =>
  rename_i a xs
  cases hd with
  | cons g1 hd =>
  cases hd with
  | cons g2 hd =>
  cases hd
  have dp1 := (within_deep r.1)
  have dp2 := (within_deep r.2)
  refine ⟨_, rfl, a, _, rfl, ht, rfl, _, _, rfl, _, _, rfl, rfl, ?_⟩
  have ga1 : GA K H _ r.1 := g1
  have ga2 : GA K H _ r.2 := g2
  refine ⟨_, rfl, _, r.1, rfl, ga1, by omega, by omega, fun D1 us1 H3 s3 hn1 hD1 hb1 => ?_⟩
  refine ⟨_, rfl, _, r.2, rfl, ga2.sb s3, by omega, by omega, fun D2 us2 H4 s4 hn2 hD2 hb2 => ?_⟩
  have l1 := hb1.length
  have l2 := hb2.length
  rw [Gr.within_length] at l1 l2
  have szl := sizeLine_eq
  refine ⟨D1, D2, us1, us2, rfl, rfl, s4.keep _ _ hD1 List.not_mem_nil, hD2, by omega, fun D3 hn3 => ?_⟩
  have t5 := SB.new (ps := []) hn3 (.lst (us1 ++ us2))
  have s05 := (s3.trans s4).trans t5
  have hD3 : upd H4 D3 (.lst (us1 ++ us2)) D3 = some (.lst (us1 ++ us2)) := upd_same
  have hb3 : Bears K (upd H4 D3 (.lst (us1 ++ us2))) Gr.pEnc (us1 ++ us2) (r.1.within ++ r.2.within) := Bears.append ((hb1.sb s4 Gr.noList_pEnc).sb t5 Gr.noList_pEnc) (hb2.sb t5 Gr.noList_pEnc)
  generalize upd H4 D3 (.lst (us1 ++ us2)) = H5 at t5 s05 hD3 hb3
  have bl3 := hb3.length
  refine ⟨D3, rfl, ⟨_, SqL.of hD3⟩, fun D hD => ?_⟩
  refine lc_seq (walk_list (xs := us1 ++ us2)) hD (by rw [List.length_append]; omega) (fun i us _ => us = ((r.1.within ++ r.2.within).take i).map fun p => V.bl (decide (p.1.1 ∈ ns))) rfl (fun H6 s6 => s6.sqL List.not_mem_nil (SqL.of hD3)) (fun _ _ _ _ _ h => h) (fun Pv i x H6 H' us hi s6 y hR hl6 fin _ => ?_) (fun us H6 s6 hD6 hR _ => ?_)
  · obtain ⟨rfl, ex⟩ := y
    obtain ⟨p, ep, hpd⟩ := hb3.get ex
    obtain ⟨ad, td, ux, rfl, hs2, hs3, hga, hdt⟩ := PA_parts hpd
    refine ⟨ad, _, rfl, s6.sqT hs2, rfl, _, _, rfl, _, _, rfl, rfl, rfl, ?_⟩
    refine ⟨_, rfl, td, _, _, _, rfl, rfl, s6.sqT hs3, atI_nat (j := 0) rfl, _, rfl, l, _, rfl, .inl ((s05.trans s6).sqL List.not_mem_nil hs), rfl, flat_strs _, fin _ _ SB.refl ?_⟩
    rw [hR, List.take_add_one, ep, Option.toList_some, List.map_append, inV_strs]; rfl
  · rw [bl3, List.take_length] at hR
    subst hR
    refine ⟨D, ((r.1.within ++ r.2.within).map fun p => decide (p.1.1 ∈ ns)), rfl, SqL.of (by rw [List.map_map]; exact hD6), ?_⟩
    have := q _ (s05.trans s6)
    rw [show (List.map (fun p : Tr × Int => decide (p.1.1 ∈ ns)) (r.1.within ++ r.2.within)).all id = decide (∀ p ∈ Ru.within r, p.1.1 ∈ ns) by
      rw [Bool.eq_iff_iff]
      simp only [List.all_map, List.all_eq_true, Function.comp, id_eq, decide_eq_true_eq]
      exact Iff.rfl]
    exact this
end
end FT
namespace FT
open PySem PySem.W PySem.Spec PyProof.Rows L2
section
variable {P : Program} {w : World} {K : PySem.W.Frag} {mg : Str → Option Value} {base : Heap} {f : Addr} {fd : FuncData}
abbrev N_tree_at : List Str := ["grove", "place", "tree", "row", "at"]
theorem sc_tree_at : FnScope N_tree_at ["grove", "place"] (defScope s_tree_at) := ⟨rfl, rfl, rfl, by decide +kernel, rfl, by decide +kernel, by decide +kernel⟩
theorem ok_tree_at {C : Addr} (B : BI mg) (O : Own K mg "NoPlace" C) (GW : Got P w K mg base "is_whole" ["thing"] 1 (spWhole K)) (F : Fun K "tree_at" "tree_at" s_tree_at f fd) : FnOk P w K mg base (L2.CX P w) 2 f fd ["grove", "place"] (spTreeAt K C) := by
  refine F.okX sc_tree_at (fun vs H Q E h => ?_) (fun cdv A outer s H vs Q E hr h => ?_)
  · obtain ⟨v, g, a, xs, os, rfl, _⟩ := h
    rfl
  obtain ⟨v, g, a, xs, os, rfl, hv, hs, hw, q, qE⟩ := h
  refine ⟨_, pss_cons (ps_if (pt_not (pt_truth (pv 1) (by intro _; rfl))) (pss_one (ps_raise rfl (takes_of rfl rfl rfl rfl) (pmk_own PySem.F.excBase_ValueError O.q O.gC O.k (raises_own O.s O.t) rfl))) pss_nil)
    (pss_cons (ps_set (i := 2) sc_tree_at.nd rfl (.inl rfl) (pe_tup pa_nil))
    (pss_cons (ps_set (i := 3) sc_tree_at.nd rfl (.inl rfl) (pv 0))
    (pss_cons (ps_for (passes_of rfl) rfl (pi_tup (pv 1)) (pg_name (i := 4) sc_tree_at.nd rfl (.inl rfl))
      (pss_cons (ps_if (PW.pt (pw_or (pt_not (pt_val (pe_got GW hr rfl (pa_cons (pv 4) pa_nil)))) (pw_or1 (pt_not (pt_chain op_le op_lt pe_int (pv 4) (pe_callB call_len_seq rfl B.len PySem.boot_len (pa_cons (pv 3) pa_nil)))))))
        (pss_one (ps_raise rfl (takes_of rfl rfl rfl rfl) (pmk_own PySem.F.excBase_ValueError O.q O.gC O.k (raises_own O.s O.t) rfl))) pss_nil)
      (pss_cons (ps_set (i := 2) sc_tree_at.nd rfl (.inl rfl) (pe_ix ix_tup (pe_ix ix_tup (pv 3) (pv 4) (fun _ _ => rfl)) pe_int (fun _ _ => rfl)))
      (pss_one (ps_set (i := 3) sc_tree_at.nd rfl (.inl rfl) (pe_ix ix_tup (pv 2) pe_int (fun _ _ => rfl)))))))
    (pss_one (ps_ret (pv 2)))))), ?_⟩
  have wl := hw.length
  by_cases hnil : os = []
  · have x0 : xs = [] := by rw [hnil] at wl; exact List.length_eq_zero_iff.mp wl
    exact ⟨_, rfl, false, .inr (.inl ⟨xs, hs, by rw [x0]; rfl⟩), iteT (qE (.inl hnil) _ SB.refl)⟩
  have x1 : xs ≠ [] := fun z => hnil (by rw [z] at wl; exact List.length_eq_zero_iff.mp wl.symm)
  refine ⟨_, rfl, true, .inr (.inl ⟨xs, hs, by cases xs with | nil => exact absurd rfl x1 | cons _ _ => rfl⟩), iteF ?_⟩
  refine ⟨(by show 0 ≤ sizeLine; decide), fun e0 he0 => ?_⟩
  have t0 := SB.new (ps := []) he0 (.tup [])
  have hv0 := hv.sb t0
  have hs0 := t0.sqT hs
  have hw' : Whs K (upd H e0 (.tup [])) xs os := Whs.sb t0 hw
  generalize hH0 : upd H e0 (.tup []) = H0 at t0 hv0 hs0 hw'
  refine ⟨_, rfl, _, rfl, a, rfl, ⟨xs, hs0⟩, ?_⟩
  refine for_tup (K := K) (a := a) (xs := xs) (fun i σ H2 => H2 = H0 ∧ ∃ (tv rv : V) (t : Tr) (o4 : Option V), σ = [some v, some (.ref a), some tv, some rv, o4] ∧ lk ("", g) (os.take i) = some t ∧ GA K H0 rv t.2 ∧ (i = 0 ∨ Dp K H0 tv (Gr.tEnc t)))
    ⟨rfl, _, _, ("", g), none, rfl, rfl, hv0, .inl rfl⟩ (fun i σ H2 hi h2 => by rw [h2.1]; exact hs0) (fun i x σ H2 hx h2 => ?_) (fun σ H2 h2 => ?_)
  · obtain ⟨rfl, tv, rv, t, o4, rfl, hlk, hrv, _⟩ := h2
    obtain ⟨o, eo, hwx⟩ := hw'.get hx
    have bad : stp t.2 o = none → E (.ref C) none H2 := fun z => qE (.inr (lk_none hlk eo z)) _ t0
    rcases hwx with ⟨n, rfl, rfl⟩ | ⟨rfl, n, b1, b2, ty, k1, k2, k3⟩
    · refine ⟨_, rfl, _, "int", true, false, rfl, .base (.int n), by decide +kernel, fun _ => by decide +kernel, true, rfl, iteF ?_⟩
      obtain ⟨c, ys, rfl, hsc, hbc⟩ := GA_bears hrv
      have yl := hbc.length
      refine ⟨_, rfl, _, _, rfl, rfl, _, rfl, ?_⟩
      by_cases h0 : 0 ≤ n
      · rw [decide_eq_true h0]
        refine iteT ⟨_, rfl, c, ys, rfl, .inr hsc, _, _, rfl, rfl, _, rfl, ?_⟩
        obtain ⟨m, rfl⟩ : ∃ m : Nat, n = (m : Int) := ⟨n.toNat, by omega⟩
        by_cases h1 : m < ys.length
        · rw [show decide ((m : Int) < (ys.length : Nat)) = true from decide_eq_true (by omega)]
          refine iteF ?_
          obtain ⟨y, hy⟩ : ∃ y, ys[m]? = some y := ⟨_, List.getElem?_eq_getElem h1⟩
          obtain ⟨p, ep, hpd⟩ := hbc.get hy
          obtain ⟨ad, bd, ux, rfl, hsx, hst, hdx, hdt⟩ := PA_parts hpd
          refine ⟨_, rfl, _, rfl, c, ys, _, _, rfl, rfl, hsc, atI_nat hy, ad, _, _, _, rfl, rfl, hsx, atI_nat (j := 0) rfl, ?_⟩
          refine ⟨_, rfl, bd, _, _, _, rfl, rfl, hst, atI_nat (j := 1) rfl, ?_⟩
          have es : stp t.2 (some (m : Int)) = some p.1 := by
            show (if 0 ≤ (m : Int) then (t.2.ps[(m : Int).toNat]?).map (·.1) else none) = _
            rw [if_pos h0, Int.toNat_natCast, ep]; rfl
          exact ⟨rfl, _, _, p.1, _, rfl, lk_next hlk eo es, hdx, .inr hdt⟩
        · rw [show decide ((m : Int) < (ys.length : Nat)) = false from decide_eq_false (by omega)]
          refine iteT (bad ?_)
          show (if 0 ≤ (m : Int) then (t.2.ps[(m : Int).toNat]?).map (·.1) else none) = _
          rw [if_pos h0, Int.toNat_natCast, List.getElem?_eq_none (by omega)]; rfl
      · rw [decide_eq_false h0]
        refine iteF ⟨_, rfl, iteT (bad ?_)⟩
        show (if 0 ≤ n then (t.2.ps[n.toNat]?).map (·.1) else none) = _
        rw [if_neg h0]
    · refine ⟨_, rfl, _, n, b1, b2, rfl, ty, k1, k2, _, rfl, ?_⟩
      rw [k3]
      exact iteT (iteT (bad rfl))
  · obtain ⟨rfl, tv, rv, t, o4, rfl, hlk, hrv, h3⟩ := h2
    rw [wl, List.take_length] at hlk
    refine ⟨_, rfl, q t hnil hlk _ _ t0 ?_⟩
    rcases h3 with h3 | h3
    · exact absurd (List.length_eq_zero_iff.mp h3) x1
    · exact h3
end
end FT
namespace FT
open PySem PySem.W PySem.Spec PyProof.Rows L2
section
variable {P : Program} {w : World} {K : PySem.W.Frag} {mg : Str → Option Value} {base : Heap} {f : Addr} {fd : FuncData}
abbrev N_all_places : List Str := ["grove", "found", "at", "pair", "place"]
theorem sc_all_places : FnScope N_all_places ["grove"] (defScope s_all_places) := ⟨rfl, rfl, rfl, by decide +kernel, rfl, by decide +kernel, by decide +kernel⟩
theorem none_all_places {ps : List Str} {k : Nat} : FnOk P w K mg base CX0 k f fd ps (spAllP K 0) := none_sp fun vs H Q E ⟨v, g, _, _, h, _⟩ => by omega
theorem ok_all_places {n : Nat} (B : BI mg) (G_all_places : Got P w K mg base "all_places" ["grove"] (n) (spAllP K n)) (F : Fun K "all_places" "all_places" s_all_places f fd) : FnOk P w K mg base CX0 (n + 1) f fd ["grove"] (spAllP K (n + 1)) := by
  refine F.ok sc_all_places (fun vs H Q E h => ?_) (fun cdv A outer s H vs Q E hr h => ?_)
  · obtain ⟨v, g, rfl, _⟩ := h
    rfl
  obtain ⟨v, g, rfl, hv, hd, hd100, hp, q⟩ := h
  have hun2 : A.units + 3 + 200 < cLine := by have := hr.un; have h3 : (A.deeper (envOfC "all_places" (defScope s_all_places) s.heap.objs.size f cdv)).units = A.units + 3 := rfl; omega
  refine ⟨_, pss_cons (ps_set (i := 1) sc_all_places.nd rfl (.inl rfl) (pe_lst pa_nil))
    (pss_cons (ps_for PassesOwn.never rfl (pi_enumT rfl B.enumerate (pv 0)) (pg_tup rfl (pgs_cons (pg_name (i := 2) sc_all_places.nd rfl (.inr rfl)) (pgs_cons (pg_name (i := 3) sc_all_places.nd rfl (.inl rfl)) pgs_nil)))
      (pss_cons (ps_expr (pe_bm PySem.F.plainAttrs_list PySem.F.slot_list_append PySem.F.type_list_append mt_append (pv 1) (pa_cons (pe_tup (pa_cons (pv 2) pa_nil)) pa_nil)))
    (pss_one (ps_expr (pe_bm PySem.F.plainAttrs_list PySem.F.slot_list_extend PySem.F.type_list_extend mt_extend (pv 1) (pa_cons (pe_lc (own := [("place", 4)]) (g := (gName 4)) (tt := tYes) (te := (tOp (rCatB K) (tTup (tCons (tVar 2) tNil)) (tVar 4))) rfl sc_all_places.nd (pi_list (pe_got G_all_places (hr.mono (by omega)) rfl (pa_cons (pe_ix ix_tup (pe_ix ix_tup (pv 3) pe_int (fun _ _ => rfl)) pe_int (fun _ _ => rfl)) pa_nil))) (blkOk_by (N := N_all_places) (sc := defScope s_all_places) (by decide +kernel)) (fun _ _ _ _ _ => (pg_name (i := 4) sc_all_places.nd rfl (.inl rfl))) (fun _ _ _ _ _ => pts_nil) (fun _ _ _ _ _ => (pe_op op_catB (pe_tup (pa_cons (pv 2) pa_nil)) (pv 4)))) pa_nil))))))
    (pss_one (ps_ret (pv 1)))), ?_⟩
  obtain ⟨a, xs, rfl, hs, hb⟩ := GA_bears hv
  have bl := hb.length
  have lenb := g.ak_len 0
  refine ⟨(by show 0 ≤ sizeLine; decide), fun D hD => ?_⟩
  refine ⟨_, rfl, a, xs, rfl, (SB.new (ps := []) hD _).sqT hs, ?_⟩
  refine for_it (walk_enumT (xs := xs)) (fun i σ H2 => SB [D] H H2 ∧ ∃ us o2 o3, σ = [some (.ref a), some (.ref D), o2, o3, none] ∧ H2 D = some (.lst us) ∧ Bears K H2 plEnc us ((Gr.aks (g.ps.take i) 0).map (·.1))) ⟨SB.new hD _, [], none, none, rfl, upd_same, .nil⟩ (fun i σ H2 hi h2 => (h2.1.drop hD).sqT hs) (fun i x σ H2 H' hi h2 y => ?_) (fun σ H2 h2 => ?_)
  · obtain ⟨s2, us, o2, o3, rfl, hD2, hb2⟩ := h2
    obtain ⟨T, e1, e2, rfl, hT, rfl, ee1, ee2⟩ := y
    have he1 : e1 = .int (i : Nat) := (Option.some.inj ee1).symm
    subst he1
    obtain ⟨p, ep, hpd⟩ := hb.get ee2
    have pm := List.mem_of_getElem? ep
    obtain ⟨ad, td, ux, rfl, hs2, hs3, hga, _⟩ := PA_parts hpd
    have t3 := SB.new (ps := [D]) hT (.tup [.int (i : Nat), .ref ad])
    have hD3 : (upd H2 T (.tup [.int (i : Nat), .ref ad])) D = some (.lst us) := by rw [upd_ne (ne_of_none hD2 hT)]; exact hD2
    have hT3 : SqT K (upd H2 T (.tup [.int (i : Nat), .ref ad])) T [.int (i : Nat), .ref ad] := SqT.of upd_same
    have s3 := s2.trans t3
    have hb3 := hb2.sb t3 pl_noList
    generalize hH3 : upd H2 T (.tup [.int (i : Nat), .ref ad]) = H3 at t3 hD3 hT3 s3 hb3
    have ul := hb3.length
    rw [List.length_map] at ul
    have pd := g.mem_deep p pm
    have pp := g.mem_parts p pm
    have hsp : g.ak 0 = Gr.aks (g.ps.take i) 0 ++ Gr.akP p i ++ Gr.aks (g.ps.drop (i + 1)) (i + 1) := by
      rw [Gr.ak_ps]
      conv => lhs; rw [← List.take_append_drop (i + 1) g.ps]
      rw [Gr.aks_append, Gr.aks_take ep, List.length_take, Nat.min_eq_left (by omega), Nat.zero_add]
    have hlen := congrArg List.length hsp
    rw [List.length_append, List.length_append] at hlen
    have hP : (Gr.akP p i).length = 1 + p.1.2.parts := by
      unfold Gr.akP
      rw [List.length_cons, List.length_map, Gr.ak_len]; omega
    refine ⟨T, _, rfl, hT3, rfl, _, _, rfl, _, _, rfl, rfl, ?_⟩
    refine ⟨_, rfl, .inl ⟨rfl, _, SqL.of hD3⟩, _, rfl, (by show 1 ≤ sizeLine; decide), fun t ht => ?_⟩
    have t4 := SB.new (ps := [D]) ht (.tup [.int (i : Nat)])
    have hD4 : (upd H3 t (.tup [.int (i : Nat)])) D = some (.lst us) := by rw [upd_ne (ne_of_none hD3 ht)]; exact hD3
    refine ⟨D, us, _, rfl, rfl, hD4, small1000 (by omega), ?_⟩
    have t5 := SB.set (ps := [D]) hD4 (by simp) (.lst (us ++ [.ref t]))
    have hD5 : (upd (upd H3 t (.tup [.int (i : Nat)])) D (.lst (us ++ [.ref t]))) D = some (.lst (us ++ [.ref t])) := upd_same
    have hb5 := Bears.append ((hb3.sb t4 pl_noList).sb t5 pl_noList) (.cons (PL_of (p := [i]) (t5.sqT (SqT.of upd_same))) .nil)
    have s5 := (s3.trans t4).trans t5
    generalize hH5 : upd (upd H3 t (.tup [.int (i : Nat)])) D (.lst (us ++ [.ref t])) = H5 at t5 hD5 hb5 s5
    have s5' := s5.drop hD
    refine ⟨_, rfl, .inl ⟨rfl, _, SqL.of hD5⟩, ?_⟩
    refine ⟨_, rfl, ad, _, _, _, rfl, rfl, s5'.sqT hs2, atI_nat (j := 0) rfl, td, _, _, _, rfl, rfl, s5'.sqT hs3, atI_nat (j := 1) rfl, _, p.1.2, rfl, hga.sb s5', by omega, by omega, by omega, fun D2 vs2 H6 s6 nD2 hD6 hb6 => ?_⟩
    have hD6' := s6.keep _ _ hD5 List.not_mem_nil
    have vl := hb6.length
    rw [List.length_map] at vl
    have pal := p.1.2.ak_len 0
    refine ⟨D2, rfl, ⟨_, SqL.of hD6⟩, fun L hL => ?_⟩
    have DL : D ≠ L := ne_of_none hD6' hL
    refine lc_seq (walk_list (xs := vs2)) hL (by have := small1000 (n := vs2.length) (by omega); omega) (fun j ws H7 => Bears K H7 plEnc ws (((p.1.2.ak 0).take j).map fun x : Pl × Str => i :: x.1)) .nil (fun H7 s7 => s7.sqL List.not_mem_nil (SqL.of hD6)) (fun _ _ _ _ e h => h.sb e pl_noList) (fun Pv j z Hq H7 ws hj s7 yz hR hw fin _ => ?_) (fun ws H7 s7 hL7 hR hw => ?_)
    · obtain ⟨rfl, ez⟩ := yz
      obtain ⟨pl, epl, hpl⟩ := hb6.get ez
      rw [List.getElem?_map] at epl
      obtain ⟨x, ex, rfl⟩ := Option.map_eq_some_iff.mp epl
      obtain ⟨pa, rfl, hpa⟩ := PL_ints hpl
      have plong := p.1.2.ak_long 0 x (List.mem_of_getElem? ex)
      refine ⟨rfl, ?_⟩
      refine ⟨_, rfl, (by show 1 ≤ sizeLine; decide), fun t ht => ?_⟩
      have t8 := SB.new (ps := []) ht (.tup [.int (i : Nat)])
      refine ⟨_, rfl, t, pa, _, _, rfl, rfl, SqT.of upd_same, t8.sqT (s7.sqT hpa), ?_, fun c H8 s8 hc => ?_⟩
      · rw [List.length_map, List.length_singleton]
        have := small5 (n := 1 + x.1.length) (by omega)
        omega
      refine fin _ _ (t8.trans s8) ?_
      rw [List.take_add_one, ex, Option.toList_some, List.map_append]
      exact Bears.append ((hR.sb t8 pl_noList).sb s8 pl_noList) (.cons (PL_of (p := i :: x.1) hc) .nil)
    · rw [vl, List.take_length] at hR
      have wl := hR.length
      rw [List.length_map] at wl
      have hD7 := s7.keep _ _ hD6' List.not_mem_nil
      refine ⟨D, L, _, _, rfl, rfl, hD7, hL7, ?_, ?_⟩
      · rw [List.length_append, List.length_singleton]
        have := small5 (n := us.length + 1 + ws.length) (by omega)
        omega
      have t8 := SB.set (ps := [D]) hD7 (by simp) (.lst (us ++ [.ref t] ++ ws))
      refine ⟨((s5.trans s6.nil).trans s7.nil).trans t8, _, _, _, rfl, upd_same, ?_⟩
      rw [Gr.aks_take ep, List.map_append]
      show Bears _ _ _ _ (_ ++ ([i] :: ((p.1.2.ak 0).map fun x => (i :: x.1, x.2)).map (·.1)))
      rw [List.map_map, show ∀ A B : List Pl, A ++ [i] :: B = A ++ [[i]] ++ B from fun A B => by simp]
      exact Bears.append (((hb5.sb s6 pl_noList).sb s7 pl_noList).sb t8 pl_noList) (hR.sb t8 pl_noList)
  · obtain ⟨s2, us, o2, o3, rfl, hD2, hb2⟩ := h2
    rw [bl, List.take_length, ← Gr.ak_ps] at hb2
    exact ⟨_, rfl, q D us H2 (s2.drop hD) hD hD2 hb2⟩
end
end FT
namespace FT
open PySem PySem.W PySem.Spec PyProof.Rows L2
section
variable {P : Program} {w : World} {K : PySem.W.Frag} {mg : Str → Option Value} {base : Heap} {f : Addr} {fd : FuncData}
abbrev N_steps_of : List Str := ["book", "name", "found", "rule", "once", "each"]
theorem sc_steps_of : FnScope N_steps_of ["book", "name"] (defScope s_steps_of) := ⟨rfl, rfl, rfl, by decide +kernel, rfl, by decide +kernel, by decide +kernel⟩
theorem ok_steps_of {C_Book C_NoKind : Addr} (B : BI mg) (G_Book_rules : GotMX P w K mg base C_Book "rules" ["self", "name"] (4) (spBRules K C_Book C_NoKind)) (G_steps_in : Got P w K mg base "steps_in" ["name", "rule", "word", "grove"] (21) (spStepsIn K)) (F : Fun K "steps_of" "steps_of" s_steps_of f fd) : FnOk P w K mg base (L2.CX P w) (22) f fd ["book", "name"] (spStepsOf K C_Book C_NoKind) := by
  refine F.okX sc_steps_of (fun vs H Q E h => ?_) (fun cdv A outer s H vs Q E hr h => ?_)
  · obtain ⟨v, b, n, rfl, _⟩ := h
    rfl
  obtain ⟨v, b, n, rfl, hv, ok, qk, qE⟩ := h
  have hun2 : A.units + 3 + 200 < cLine := by have := hr.un; have h3 : (A.deeper (envOfC "steps_of" (defScope s_steps_of) s.heap.objs.size f cdv)).units = A.units + 3 := rfl; omega
  refine ⟨_, pss_cons (ps_set (i := 2) sc_steps_of.nd rfl (.inl rfl) (pe_lst pa_nil))
    (pss_cons (ps_for (passes_of rfl) rfl (pi_enumS rfl B.enumerate (pe_gotMS G_Book_rules (hr.mono (by omega)) (takes_of rfl rfl rfl rfl) (pv 0) (pa_cons (pv 1) pa_nil))) (pg_tup rfl (pgs_cons (pg_name (i := 3) sc_steps_of.nd rfl (.inl rfl)) (pgs_cons (pg_tup rfl (pgs_cons (pg_name (i := 4) sc_steps_of.nd rfl (.inl rfl)) (pgs_cons (pg_name (i := 5) sc_steps_of.nd rfl (.inl rfl)) pgs_nil))) pgs_nil)))
      (pss_cons (ps_expr (pe_bm PySem.F.plainAttrs_list PySem.F.slot_list_extend PySem.F.type_list_extend mt_extend (pv 2) (pa_cons (pe_got G_steps_in (hr.mono (by omega)) rfl (pa_cons (pv 1) (pa_cons (pv 3) (pa_cons pe_str (pa_cons (pv 4) pa_nil))))) pa_nil)))
    (pss_one (ps_expr (pe_bm PySem.F.plainAttrs_list PySem.F.slot_list_extend PySem.F.type_list_extend mt_extend (pv 2) (pa_cons (pe_got G_steps_in (hr.mono (by omega)) rfl (pa_cons (pv 1) (pa_cons (pv 3) (pa_cons pe_str (pa_cons (pv 5) pa_nil))))) pa_nil))))))
    (pss_one (ps_ret (pv 2)))), ?_⟩
  have szl := sizeLine_eq
  obtain ⟨va, vdx, vd1, vd2, rfl, hva⟩ := hv.at
  have b8 := ok.len
  have rok : ∀ k ∈ b, k.rs.length ≤ 1000 := fun k hk => by have := (ok.kd k hk).2.1; omega
  refine ⟨(by show 0 ≤ sizeLine; decide), fun D hD => ?_⟩
  have t1 := SB.new (ps := []) hD (.lst [])
  have hD1 : upd H D (.lst []) D = some (.lst []) := upd_same
  generalize upd H D (.lst []) = H1 at t1 hD1
  refine ⟨_, rfl, va, vdx, _, rfl, t1.keep _ _ hva List.not_mem_nil, rfl, _, rfl, _, b, n, rfl, hv.sb0 t1, by omega, rok, fun k eg ll us H2 s2 nll hll hbl => ?_, fun z d H' s' nd hd => qE z d H' (t1.trans s') (Classical.byContradiction fun y => by
    have := t1.dom d; exact y (t1.dom d nd)) hd⟩
  obtain ⟨hk, rfl⟩ := Bk.get_some eg
  obtain ⟨kn, r4, rr⟩ := ok.kd k hk
  have ul := hbl.length
  have lD : ll ≠ D := fun z => by rw [z, hD1] at nll; cases nll
  have zl : (k.rs.zipIdx 1).length = k.rs.length := List.length_zipIdx
  have stl := Kd.steps_len r4 fun r hr => (rr r hr).1
  refine ⟨ll, us, rfl, SqL.of hll, ?_⟩
  refine for_it (walk_enumS (xs := us)) (fun i σ H3 => SB [D] H2 H3 ∧ ∃ ws o3 o4 o5, σ = [some (.ref va), some (.str k.n), some (.ref D), o3, o4, o5] ∧ H3 D = some (.lst ws) ∧ Bears K H3 Sx.enc ws (((k.rs.zipIdx 1).take i).flatMap (stR k.n))) ⟨SB.refl, [], none, none, none, rfl, s2.keep _ _ hD1 List.not_mem_nil, .nil⟩ (fun i σ H3 hi h3 => h3.1.sqL (by simpa using lD) (SqL.of hll)) (fun i x σ H3 H' hi h3 y => ?_) (fun σ H3 h3 => ?_)
  · obtain ⟨s3, ws, o3, o4, o5, rfl, hD3, hb3⟩ := h3
    obtain ⟨T, e1, e2, rfl, hT, rfl, ee1, ee2⟩ := y
    have he1 : e1 = .int ((i + 1 : Nat) : Int) := (Option.some.inj ee1).symm
    subst he1
    obtain ⟨r, er, hr1⟩ := hbl.get ee2
    have hr2 := Dp_sb s3 _ _ (Ru.noList_enc r) hr1
    have ro := (rr r (List.mem_of_getElem? er)).1
    have ez : (k.rs.zipIdx 1)[i]? = some (r, i + 1) := by rw [List.getElem?_zipIdx, er, Nat.add_comm]; rfl
    have hsp : ((k.rs.zipIdx 1).take (i + 1)).flatMap (stR k.n) = ((k.rs.zipIdx 1).take i).flatMap (stR k.n) ++ stG k.n (i + 1) "once" r.1 ++ stG k.n (i + 1) "each" r.2 := by
      rw [List.take_add_one, ez, List.flatMap_append]
      simp [stR]
    have hlen : (((k.rs.zipIdx 1).take (i + 1)).flatMap (stR k.n)).length ≤ k.steps.length := by
      show _ ≤ ((k.rs.zipIdx 1).flatMap (stR k.n)).length
      conv => rhs; rw [← List.take_append_drop (i + 1) (k.rs.zipIdx 1), List.flatMap_append, List.length_append]
      omega
    rw [hsp, List.length_append, List.length_append, stG_len, stG_len] at hlen
    have wl := hb3.length
    cases (hr2 : Dp K H3 e2 (.tuple [r.1.enc, r.2.enc])) with
    | @tup ad us' _ hs' hda =>
    cases hda with
    | cons g1 hda =>
    cases hda with
    | cons g2 hda =>
    cases hda
    rename_i u1 u2
    have t4 := SB.new (ps := []) hT (.tup [.int ((i + 1 : Nat) : Int), .ref ad])
    have hT4 : SqT K (upd H3 T (.tup [.int ((i + 1 : Nat) : Int), .ref ad])) T [.int ((i + 1 : Nat) : Int), .ref ad] := SqT.of upd_same
    generalize upd H3 T (.tup [.int ((i + 1 : Nat) : Int), .ref ad]) = H4 at t4 hT4
    have hD4 := t4.keep _ _ hD3 List.not_mem_nil
    refine ⟨T, _, rfl, hT4, rfl, _, _, rfl, _, _, rfl, ⟨ad, _, rfl, t4.sqT hs', rfl, _, _, rfl, _, _, rfl, rfl, rfl, ?_⟩⟩
    have d1 := r.1.deep_parts
    have d2 := r.2.deep_parts
    refine ⟨_, rfl, .inl ⟨rfl, _, SqL.of hD4⟩, _, rfl, _, rfl, _, rfl, k.n, "once", i + 1, u1, r.1, rfl, GA.sb g1 t4, by omega, by omega, fun l1 v1 H5 s5 nl1 hl1 hb5 => ?_⟩
    have hD5 := s5.keep _ _ hD4 List.not_mem_nil
    have v1l := hb5.length
    rw [stG_len] at v1l
    refine ⟨D, l1, _, _, rfl, rfl, hD5, hl1, by omega, ?_⟩
    have t6 := SB.set (ps := [D]) hD5 (by simp) (.lst (ws ++ v1))
    have hb6 := Bears.append (((hb3.sb t4 Sx.noList_enc).sb s5 Sx.noList_enc).sb t6 Sx.noList_enc) (hb5.sb t6 Sx.noList_enc)
    have hD6 : upd H5 D (.lst (ws ++ v1)) D = some (.lst (ws ++ v1)) := upd_same
    have s6 := ((s3.trans t4.nil).trans s5.nil).trans t6
    have g2' := GA.sb (GA.sb g2 t4) s5
    have g2' := GA.sb g2' t6
    generalize upd H5 D (.lst (ws ++ v1)) = H6 at t6 hb6 hD6 s6 g2'
    refine ⟨_, rfl, .inl ⟨rfl, _, SqL.of hD6⟩, _, rfl, _, rfl, _, rfl, k.n, "each", i + 1, u2, r.2, rfl, g2', by omega, by omega, fun l2 v2 H7 s7 nl2 hl2 hb7 => ?_⟩
    have hD7 := s7.keep _ _ hD6 List.not_mem_nil
    have v2l := hb7.length
    rw [stG_len] at v2l
    refine ⟨D, l2, _, _, rfl, rfl, hD7, hl2, by rw [List.length_append]; omega, ?_⟩
    have t8 := SB.set (ps := [D]) hD7 (by simp) (.lst (ws ++ v1 ++ v2))
    refine ⟨(s6.trans s7.nil).trans t8, _, _, _, _, rfl, upd_same, ?_⟩
    rw [hsp]
    exact Bears.append ((hb6.sb s7 Sx.noList_enc).sb t8 Sx.noList_enc) (hb7.sb t8 Sx.noList_enc)
  · obtain ⟨s3, ws, o3, o4, o5, rfl, hD3, hb3⟩ := h3
    rw [ul, ← zl, List.take_length] at hb3
    exact ⟨_, rfl, qk k eg D ws H3 ((t1.trans s2).nil.trans s3 |>.drop hD) hD hD3 hb3⟩
end
end FT
namespace FT
open PySem PySem.W PySem.Spec PyProof.Rows L2
section
variable {P : Program} {w : World} {K : PySem.W.Frag} {mg : Str → Option Value} {base : Heap} {f : Addr} {fd : FuncData}
abbrev N_steps_in : List Str := ["name", "rule", "word", "grove", "place"]
theorem sc_steps_in : FnScope N_steps_in ["name", "rule", "word", "grove"] (defScope s_steps_in) := ⟨rfl, rfl, rfl, by decide +kernel, rfl, by decide +kernel, by decide +kernel⟩
theorem ok_steps_in {C_NoPlace : Addr} (B : BI mg) (G_all_places : Got P w K mg base "all_places" ["grove"] (20) (spAllP K 20)) (G_tree_at : GotX P w K mg base "tree_at" ["grove", "place"] (2) (spTreeAt K C_NoPlace)) (F : Fun K "steps_in" "steps_in" s_steps_in f fd) : FnOk P w K mg base CX0 (21) f fd ["name", "rule", "word", "grove"] (spStepsIn K) := by
  refine F.ok sc_steps_in (fun vs H Q E h => ?_) (fun cdv A outer s H vs Q E hr h => ?_)
  · obtain ⟨n, wd, i, v, g, rfl, _⟩ := h
    rfl
  obtain ⟨n, wd, i, v, g, rfl, hv, hd, hp, q⟩ := h
  have hun2 : A.units + 3 + 200 < cLine := by have := hr.un; have h3 : (A.deeper (envOfC "steps_in" (defScope s_steps_in) s.heap.objs.size f cdv)).units = A.units + 3 := rfl; omega
  refine ⟨_, pss_one (ps_ret (pe_lc (own := [("place", 4)]) (g := (gName 4)) (tt := tYes) (te := (tTup (tCons (tTup (tCons (tVar 0) (tCons (tVar 1) (tCons (tVar 2) (tCons (tVar 4) tNil))))) (tCons (tOp (rIxT K) (tCall (spTreeAt K C_NoPlace) [] E0 (tCons (tVar 3) (tCons (tVar 4) tNil))) (tC (.int 0))) tNil)))) rfl sc_steps_in.nd (pi_list (pe_got G_all_places (hr.mono (by omega)) rfl (pa_cons (pv 3) pa_nil))) (blkOk_by (N := N_steps_in) (sc := defScope s_steps_in) (by decide +kernel)) (fun _ _ _ _ _ => (pg_name (i := 4) sc_steps_in.nd rfl (.inl rfl))) (fun _ _ _ _ _ => pts_nil) (fun _ _ _ _ _ => (pe_tup (pa_cons (pe_tup (pa_cons (pv 0) (pa_cons (pv 1) (pa_cons (pv 2) (pa_cons (pv 4) pa_nil))))) (pa_cons (pe_ix ix_tup (pe_gotX G_tree_at (hr.mono (by omega)) rfl (pa_cons (pv 3) (pa_cons (pv 4) pa_nil))) pe_int (fun _ _ => rfl)) pa_nil)))))), ?_⟩
  have szl := sizeLine_eq
  have lenb := g.ak_len 0
  refine ⟨_, rfl, v, g, rfl, hv, hd, by omega, by omega, fun D us H1 s1 nD hD hb => ?_⟩
  have vl := hb.length
  rw [List.length_map] at vl
  refine ⟨D, rfl, ⟨_, SqL.of hD⟩, fun L hL => ?_⟩
  refine lc_seq (walk_list (xs := us)) hL (by omega) (fun j ws H2 => Bears K H2 Sx.enc ws (((g.ak 0).take j).map fun x : Pl × Str => ⟨n, i, wd, x.1, x.2⟩)) .nil (fun H2 s2 => s2.sqL List.not_mem_nil (SqL.of hD)) (fun _ _ _ _ e h => h.sb e Sx.noList_enc) (fun Pv j z Hq H2 ws hj s2 yz hR hw fin _ => ?_) (fun ws H2 s2 hL2 hR hw => ?_)
  · obtain ⟨rfl, ez⟩ := yz
    obtain ⟨pl, epl, hpl⟩ := hb.get ez
    rw [List.getElem?_map] at epl
    obtain ⟨x, ex, rfl⟩ := Option.map_eq_some_iff.mp epl
    obtain ⟨pa, rfl, hpa⟩ := PL_ints hpl
    obtain ⟨n1, t, e1, e2⟩ := g.ak_place x (List.mem_of_getElem? ex)
    refine ⟨rfl, ?_⟩
    refine ⟨_, rfl, _, rfl, _, rfl, _, rfl, (by show 4 ≤ sizeLine; decide), fun T hT => ?_⟩
    have t3 := SB.new (ps := []) hT (.tup [.str n, .int (i : Int), .str wd, .ref pa])
    have s3 := s2.trans t3
    have hT3 : SqT K (upd H2 T (.tup [.str n, .int (i : Int), .str wd, .ref pa])) T [.str n, .int (i : Int), .str wd, .ref pa] := SqT.of upd_same
    generalize upd H2 T (.tup [.str n, .int (i : Int), .str wd, .ref pa]) = H3 at t3 s3 hT3
    refine ⟨_, rfl, _, rfl, v, g, pa, _, plO x.1, rfl, hv.sb (s1.trans s3), s3.sqT hpa, Whs.pl K H3 x.1, fun t' _ et X H4 s4 hX => ?_, fun z => ?_⟩
    · obtain rfl : t' = t := Option.some.inj (et.symm.trans e1)
      cases (hX : Dp K H4 X (.tuple [.str t'.1, t'.2.enc])) with
      | tup hX1 hX2 =>
      cases hX2 with
      | cons k1 hX2 =>
      cases hX2 with
      | cons k2 hX2 =>
      cases hX2
      cases k1
      refine ⟨_, _, _, _, rfl, rfl, hX1, atI_nat (j := 0) rfl, (by show 2 ≤ sizeLine; decide), fun T2 hT2 => ?_⟩
      have t5 := SB.new (ps := []) hT2 (.tup [.ref T, .str t'.1])
      have s25 := (t3.trans s4).trans t5
      refine fin _ _ s25 ?_
      rw [List.take_add_one, ex, Option.toList_some, List.map_append]
      refine Bears.append (hR.sb s25 Sx.noList_enc) (.cons ?_ .nil)
      show Dp K _ _ (.tuple [.tuple [.str n, .int (i : Int), .str wd, plEnc x.1], .str x.2])
      rw [← e2]
      exact .tup (SqT.of upd_same) (.cons (.tup ((s4.trans t5).sqT hT3) (.cons (.str _) (.cons (.int _) (.cons (.str _) (.cons (Dp_sb (s2.trans s25) _ _ (pl_noList _) hpl) .nil))))) (.cons (.str _) .nil))
    · rcases z with z | z
      · exact absurd z n1
      · rw [e1] at z; cases z
  · rw [vl, List.take_length] at hR
    exact q L ws H2 (s1.trans s2) (s1.dom L hL) hL2 hR
end
end FT
namespace FT
open PySem PySem.W PySem.Spec PyProof.Rows L2
section
variable {P : Program} {w : World} {K : PySem.W.Frag} {mg : Str → Option Value} {base : Heap} {f : Addr} {fd : FuncData}
abbrev N_leads : List Str := ["book", "name", "step", "kind"]
theorem sc_leads : FnScope N_leads ["book", "name"] (defScope s_leads) := ⟨rfl, rfl, rfl, by decide +kernel, rfl, by decide +kernel, by decide +kernel⟩
theorem ok_leads {C_Book C_NoKind : Addr} (B : BI mg) (G_steps_of : GotX P w K mg base "steps_of" ["book", "name"] (22) (spStepsOf K C_Book C_NoKind)) (F : Fun K "leads" "leads" s_leads f fd) : FnOk P w K mg base (L2.CX P w) (23) f fd ["book", "name"] (spLeads K C_Book C_NoKind) := by
  refine F.okX sc_leads (fun vs H Q E h => ?_) (fun cdv A outer s H vs Q E hr h => ?_)
  · obtain ⟨v, b, n, rfl, _⟩ := h
    rfl
  obtain ⟨v, b, n, rfl, hv, ok, qk, qE⟩ := h
  have hun2 : A.units + 3 + 200 < cLine := by have := hr.un; have h3 : (A.deeper (envOfC "leads" (defScope s_leads) s.heap.objs.size f cdv)).units = A.units + 3 := rfl; omega
  refine ⟨_, pss_one (ps_ret (pe_callB (cr_sortedTx rfl) rfl B.sorted (by decide +kernel) (pa_cons (pe_scS (own := [("step", 2), ("kind", 3)]) (g := (gTup K 2 (gCons (gName 2) (gCons (gName 3) gNil)))) (tt := tYes) (te := (tVar 3)) rfl sc_leads.nd (pi_list (pe_gotS G_steps_of (hr.mono (by omega)) rfl (takes_of rfl rfl rfl rfl) (pa_cons (pv 0) (pa_cons (pv 1) pa_nil)))) (blkOk_by (N := N_leads) (sc := defScope s_leads) (by decide +kernel)) (fun _ _ _ _ _ => (pg_tup rfl (pgs_cons (pg_name (i := 2) sc_leads.nd rfl (.inl rfl)) (pgs_cons (pg_name (i := 3) sc_leads.nd rfl (.inl rfl)) pgs_nil)))) (fun _ _ _ _ _ => pts_nil) (fun _ _ _ _ _ => (pv 3))) pa_nil))), ?_⟩
  have scb : 1000 < scanBound := by decide +kernel
  refine ⟨_, rfl, _, rfl, v, b, n, rfl, hv, ok, fun k eg ll us H1 s1 nll hll hbl => ?_, fun z d H' s' nd hd => qE z d H' s' nd hd⟩
  obtain ⟨hk, rfl⟩ := Bk.get_some eg
  obtain ⟨kn, r4, rr⟩ := ok.kd k hk
  have stl := Kd.steps_len r4 fun r hr => (rr r hr).1
  have ul := hbl.length
  refine ⟨ll, rfl, ⟨_, SqL.of hll⟩, fun D nD => ?_⟩
  refine sc_seq (walk_list (xs := us)) nD (by omega) (fun i ss H2 => ss.Nodup ∧ ∀ x, x ∈ ss ↔ x ∈ (k.steps.take i).map Sx.k) ⟨List.nodup_nil, by simp⟩ (fun H2 s2 => s2.sqL List.not_mem_nil (SqL.of hll)) (fun _ _ _ _ _ h => h) (fun Pv i x Hq H2 ss hi s2 y hR hl fin _ => ?_) (fun ss H2 s2 hD2 hR hl => ?_)
  · obtain ⟨rfl, ey⟩ := y
    obtain ⟨st, es, hst⟩ := hbl.get ey
    cases (hst : Dp K H1 x (.tuple [st.st, .str st.k])) with
    | @tup ad us' _ hs' hda =>
    cases hda with
    | cons g1 hda =>
    cases hda with
    | cons g2 hda =>
    cases hda
    cases g2
    refine ⟨ad, _, rfl, s2.sqT hs', rfl, _, _, rfl, _, _, rfl, rfl, rfl, ?_⟩
    refine ⟨_, rfl, fin st.k _ SB.refl ⟨insS_nodup hR.1, fun x => ?_⟩⟩
    rw [insS_mem, hR.2, List.take_add_one, es, List.map_append, List.mem_append]
    simp [or_comm]
  · rw [ul, List.take_length, Kd.steps_kinds] at hR
    refine ⟨D, ss, rfl, hD2, by omega, fun ss' p pm srt np => ?_⟩
    have t3 := SB.new (ps := []) np (.lst (ss'.map V.str))
    exact qk k eg p ss' _ ((s1.trans s2).trans t3) ((s1.trans s2).dom _ np) upd_same (SrtOf.perm pm srt hR.1 hR.2)
end
end FT
namespace FT
open PySem PySem.W PySem.Spec PyProof.Rows L2
section
variable {P : Program} {w : World} {K : PySem.W.Frag} {mg : Str → Option Value} {base : Heap} {f : Addr} {fd : FuncData}
abbrev N_ways_from : List Str := ["book", "name", "ways", "heads", "further", "head", "way", "step", "kind"]
theorem sc_ways_from : FnScope N_ways_from ["book", "name"] (defScope s_ways_from) := ⟨rfl, rfl, rfl, by decide +kernel, rfl, by decide +kernel, by decide +kernel⟩
theorem ok_ways_from {C_Book C_NoKind : Addr} (B : BI mg) (G_steps_of : GotX P w K mg base "steps_of" ["book", "name"] (22) (spStepsOf K C_Book C_NoKind)) (F : Fun K "ways_from" "ways_from" s_ways_from f fd) : FnOk P w K mg base (L2.CX P w) (23) f fd ["book", "name"] (spWays K C_Book C_NoKind) := by
  refine F.okX sc_ways_from (fun vs H Q E h => ?_) (fun cdv A outer s H vs Q E hr h => ?_)
  · obtain ⟨v, b, n, rfl, _⟩ := h
    rfl
  obtain ⟨v, b, n, rfl, hv, ok, qk, qE⟩ := h
  have hun2 : A.units + 3 + 200 < cLine := by have := hr.un; have h3 : (A.deeper (envOfC "ways_from" (defScope s_ways_from) s.heap.objs.size f cdv)).units = A.units + 3 := rfl; omega
  refine ⟨_, pss_cons (ps_set (i := 2) sc_ways_from.nd rfl (.inl rfl) pe_dnewK)
    (pss_cons (ps_set (i := 3) sc_ways_from.nd rfl (.inl rfl) (pe_lst (pa_cons (pe_tup (pa_cons (pv 1) (pa_cons (pe_lst pa_nil) pa_nil))) pa_nil)))
    (pss_cons (ps_while (passes_of rfl) (pt_truth (pv 3) (by intro _; rfl)) (pss_cons (ps_set (i := 4) sc_ways_from.nd rfl (.inl rfl) (pe_lst pa_nil))
    (pss_cons (ps_for (passes_of rfl) rfl (pi_list (pv 3)) (pg_tup rfl (pgs_cons (pg_name (i := 5) sc_ways_from.nd rfl (.inl rfl)) (pgs_cons (pg_name (i := 6) sc_ways_from.nd rfl (.inl rfl)) pgs_nil)))
      (pss_one (ps_for (passes_of rfl) rfl (pi_list (pe_gotS G_steps_of (hr.mono (by omega)) rfl (takes_of rfl rfl rfl rfl) (pa_cons (pv 0) (pa_cons (pv 5) pa_nil)))) (pg_tup rfl (pgs_cons (pg_name (i := 7) sc_ways_from.nd rfl (.inl rfl)) (pgs_cons (pg_name (i := 8) sc_ways_from.nd rfl (.inl rfl)) pgs_nil)))
      (pss_one (ps_if (pt_cmp (pc_dnotin (by show A.units + 3 + 1 < cLine; omega) (pv 8) (pv 2))) (pss_cons (ps_dput (by show A.units + 3 + 1 < cLine; omega) (pv 2) (pv 8) (pe_op op_cat (pv 6) (pe_lst (pa_cons (pv 7) pa_nil))) rfl)
    (pss_one (ps_expr (pe_bm PySem.F.plainAttrs_list PySem.F.slot_list_append PySem.F.type_list_append mt_append (pv 4) (pa_cons (pe_tup (pa_cons (pv 8) (pa_cons (pe_dget (by show A.units + 3 + 1 < cLine; omega) (pv 2) (pv 8) (fun _ _ => rfl)) pa_nil))) pa_nil))))) pss_nil)))))
    (pss_one (ps_set (i := 3) sc_ways_from.nd rfl (.inl rfl) (pv 4))))))
    (pss_one (ps_ret (pv 2))))), ?_⟩
  have szl := sizeLine_eq
  have b8 := ok.len
  have nml : b.names.length = b.length := List.length_map ..
  intro Wd nWd
  have t1 := SB.new (ps := []) nWd (.dK [])
  have hW1 : upd H Wd (.dK []) Wd = some (.dK []) := upd_same
  generalize upd H Wd (.dK []) = H1 at t1 hW1
  refine ⟨_, rfl, by show 0 ≤ sizeLine; decide, fun L0 nL0 => ?_⟩
  have t2 := SB.new (ps := []) nL0 (.lst [])
  have hL2 : upd H1 L0 (.lst []) L0 = some (.lst []) := upd_same
  generalize upd H1 L0 (.lst []) = H2 at t2 hL2
  refine ⟨by show 2 ≤ sizeLine; decide, fun T0 nT0 => ?_⟩
  have t3 := SB.new (ps := []) nT0 (.tup [.str n, .ref L0])
  have hT3 : upd H2 T0 (.tup [.str n, .ref L0]) T0 = some (.tup [.str n, .ref L0]) := upd_same
  generalize upd H2 T0 (.tup [.str n, .ref L0]) = H3 at t3 hT3
  refine ⟨by show 1 ≤ sizeLine; decide, fun Fa nFa => ?_⟩
  have t4 := SB.new (ps := []) nFa (.lst [.ref T0])
  have hF4 : upd H3 Fa (.lst [.ref T0]) Fa = some (.lst [.ref T0]) := upd_same
  generalize upd H3 Fa (.lst [.ref T0]) = H4 at t4 hF4
  have t24 := (t2.trans t3).trans t4
  have t34 := t3.trans t4
  have s4 := t1.trans t24
  have hW4 := t24.keep _ _ hW1 List.not_mem_nil
  have hL4 := t34.keep _ _ hL2 List.not_mem_nil
  have hT4 := t4.sqT (SqT.of (K := K) hT3)
  cases eg : b.get n with
  | none =>
    refine nameI ⟨fun m σ H5 => m = 0 ∧ σ = [some v, some (.str n), some (.ref Wd), some (.ref Fa), none, none, none, none, none] ∧ H5 = H4, ⟨0, rfl, rfl, rfl⟩, fun m σ H5 hW => ?_⟩
    obtain ⟨rfl, rfl, rfl⟩ := hW
    refine ⟨_, rfl, _, .inl ⟨_, SqL.of hF4, rfl⟩, iteT ⟨fun _ _ => False, fun _ _ z => z.elim, ?_⟩⟩
    refine ⟨by show 0 ≤ sizeLine; decide, fun G nG => ?_⟩
    have t5 := SB.new (ps := []) nG (.lst [])
    generalize upd H5 G (.lst []) = H6 at t5
    have hF6 := t5.keep _ _ hF4 List.not_mem_nil
    refine ⟨_, rfl, Fa, rfl, ⟨_, SqL.of hF6⟩, ?_⟩
    refine for_it (walk_list (xs := [V.ref T0])) (fun i σ H7 => i = 0 ∧ σ = [some v, some (.str n), some (.ref Wd), some (.ref Fa), some (.ref G), none, none, none, none] ∧ H7 = H6) ⟨rfl, rfl, rfl⟩ (fun i σ H7 hi h7 => by rw [h7.2.2]; exact SqL.of hF6) (fun i x σ Hq H7 hi h7 y => ?_) (fun σ H7 h7 => ?_)
    · obtain ⟨rfl, rfl, rfl⟩ := h7
      obtain ⟨rfl, ey⟩ := y
      have ey : V.ref T0 = x := by simpa using ey
      subst ey
      refine ⟨T0, _, rfl, t5.sqT hT4, rfl, _, _, rfl, _, _, rfl, rfl, ?_⟩
      exact ⟨_, rfl, _, rfl, v, b, n, rfl, hv.sb0 (s4.trans t5), ok, fun k e => (by rw [eg] at e; cases e), fun _ d H8 s8 nd hd => qE eg d H8 ((s4.trans t5).trans s8) ((s4.trans t5).dom _ nd) hd⟩
    · obtain ⟨h, _⟩ := h7
      cases h
  | some k0 =>
    have qk := qk k0 eg
    refine nameI ⟨fun m σ H5 => ∃ (ks : List Str) (kvs : List (Key × V)) (hs : List Str) (vs : List V) (Fa : Addr) (o4 o5 o6 o7 o8 : Option V), m = 2 * (9 - ks.length) + (if vs = [] then 0 else 1) ∧ σ = [some v, some (.str n), some (.ref Wd), some (.ref Fa), o4, o5, o6, o7, o8] ∧ SB [] H H5 ∧ H5 Wd = some (.dK kvs) ∧ WyD K H5 (fun l => H l = none) b n 1 (ks.length + 1) kvs ks ∧ H5 Fa = some (.lst vs) ∧ HdAll K H5 (fun l => H l = none) b n 0 ks.length vs hs ∧ ks.Nodup ∧ (∀ x ∈ ks, Rch b n x) ∧ ∀ x, x = n ∨ x ∈ ks → x ∈ hs ∨ ∀ y ∈ adj b x, y ∈ ks,
      ⟨_, [], [], [n], [.ref T0], Fa, none, none, none, none, none, rfl, rfl, s4, hW4, .nil, hF4, .cons hT4 ⟨[], [], hL4, .nil, .nil, Nat.le_refl _, Nat.le_refl _, t1.dom _ nL0⟩ .nil, List.nodup_nil, by simp, (fun x hx => .inl (by simpa using hx))⟩, fun m σ H5 hW => ?_⟩
    clear hF4 hT4 hL4 hW4 s4 t24 t34 t4 t3 t2 t1 hT3 hL2 hW1 nL0 nT0 nFa
    obtain ⟨ks, kvs, hs, vs, Fa, o4, o5, o6, o7, o8, rfl, rfl, s5, hW5, wd5, hF5, hd5, nd, rc, cl⟩ := hW
    have ksl : ks.length ≤ 8 := by
      have := nd.length_le_of_subset (l₂ := b.names) fun x hx => (rc x hx).mem ok
      omega
    refine ⟨_, rfl, _, .inl ⟨_, SqL.of hF5, rfl⟩, ?_⟩
    by_cases evs : vs = []
    · subst evs
      cases hd5
      refine iteF ⟨_, rfl, qk Wd kvs ks H5 s5 nWd hW5 (wd5.imp (Nat.le_refl _) (by omega) fun _ _ _ h => h) nd fun x => ⟨rc x, fun r => rch_closed (fun x hx => (cl x hx).resolve_left (by simp)) r⟩⟩
    rw [show (!vs.isEmpty) = true by
      cases h : vs with
      | nil => exact absurd h evs
      | cons _ _ => rfl]
    refine iteT ⟨_, fun σ' H' h => h, ?_⟩
    refine ⟨by show 0 ≤ sizeLine; decide, fun G nG => ?_⟩
    have t6 := SB.new (ps := []) nG (.lst [])
    have hG6 : upd H5 G (.lst []) G = some (.lst []) := upd_same
    have Fim : ∀ l us, H5 l = some (.lst us) → H l = none → H l = none ∧ l ≠ G := fun l us h z => ⟨z, fun y => by rw [y, nG] at h; cases h⟩
    have w6 : WSt K H (upd H5 G (.lst [])) b n Wd Fa G vs hs ks [] := ⟨s5.trans t6, ⟨kvs, t6.keep _ _ hW5 List.not_mem_nil, by rw [List.append_nil]; exact (wd5.imp (Nat.le_refl _) (Nat.le_refl _) Fim).sb t6 (by simp)⟩, ⟨[], hG6, .nil⟩, t6.keep _ _ hF5 List.not_mem_nil, (hd5.imp (Nat.le_refl _) (Nat.le_refl _) Fim).sb t6 (by simp), by simpa using nd, by simpa using rc⟩
    have nG0 := s5.dom _ nG
    have FG : Fa ≠ G := ne_of_none hF5 nG
    generalize upd H5 G (.lst []) = H6 at t6 hG6 w6
    refine ⟨_, rfl, Fa, rfl, ⟨_, SqL.of w6.fa⟩, ?_⟩
    refine for_it (walk_list (xs := vs)) (fun i σ H7 => ∃ (gs : List Str) (o5 o6 o7 o8 : Option V), σ = [some v, some (.str n), some (.ref Wd), some (.ref Fa), some (.ref G), o5, o6, o7, o8] ∧ WSt K H H7 b n Wd Fa G vs hs ks gs ∧ ∀ h ∈ hs.take i, ∀ y ∈ adj b h, y ∈ ks ++ gs)
      ⟨[], _, _, _, _, rfl, w6, by simp⟩ (fun i σ H7 hi h7 => by obtain ⟨gs, _, _, _, _, _, h, _⟩ := h7; exact SqL.of h.fa) (fun i x σ Hq H7 hi h7 y => ?_) (fun σ H7 h7 => ?_)
    · obtain ⟨gs, o5, o6, o7, o8, rfl, w7, cl7⟩ := h7
      obtain ⟨rfl, ey⟩ := y
      obtain ⟨hk, t, l, eh, rfl, hst, wy⟩ := w7.hd.get ey
      obtain ⟨us, q, hl, hbq, wlk, _, ql, Fl⟩ := wy
      obtain ⟨kd, egk⟩ := wlk.known ok eg
      refine ⟨t, _, rfl, hst, rfl, _, _, rfl, _, _, rfl, rfl, ?_⟩
      refine ⟨_, rfl, _, rfl, v, b, hk, rfl, hv.sb0 w7.sb, ok, fun k' e' S ss H8 s8 nS hS hbs => ?_, fun z => by rw [egk] at z; cases z⟩
      rw [egk] at e'
      cases e'
      have w8 := w7.keep s8
      obtain ⟨kvs7, hW7, _⟩ := w7.wd
      obtain ⟨ws7, hG7, _⟩ := w7.g
      have SW : S ≠ Wd := fun z => by rw [z, hW7] at nS; cases nS
      have SG : S ≠ G := fun z => by rw [z, hG7] at nS; cases nS
      have lW : l ≠ Wd := fun z => by rw [z, hW7] at hl; cases hl
      have sl := hbs.length
      refine ⟨S, rfl, ⟨_, SqL.of hS⟩, ?_⟩
      refine for_it (walk_list (xs := ss)) (fun j σ H9 => ∃ (gs' : List Str) (o7 o8 : Option V), σ = [some v, some (.str n), some (.ref Wd), some (.ref Fa), some (.ref G), some (.str hk), some (.ref l), o7, o8] ∧ WSt K H H9 b n Wd Fa G vs hs ks gs' ∧ SB [Wd, G] H8 H9 ∧ (∀ x ∈ gs, x ∈ gs') ∧ ∀ s ∈ kd.steps.take j, s.k ∈ ks ++ gs')
        ⟨gs, o7, o8, rfl, w8, SB.refl, fun _ h => h, by simp⟩ (fun j σ H9 hj h9 => by obtain ⟨_, _, _, _, _, s, _⟩ := h9; exact s.sqL (by simp [SW, SG]) (SqL.of hS)) (fun j z σ Hq H9 hj h9 y9 => ?_) (fun σ H9 h9 => ?_)
      · obtain ⟨gs', o7, o8, rfl, w9, s9, sub, cl9⟩ := h9
        obtain ⟨rfl, ey9⟩ := y9
        obtain ⟨st, es, hst9⟩ := hbs.get ey9
        have stm := List.mem_of_getElem? es
        have nxt : ∀ gs2 : List Str, (∀ x ∈ gs', x ∈ gs2) → st.k ∈ ks ++ gs2 → ∀ s ∈ kd.steps.take (j + 1), s.k ∈ ks ++ gs2 := by
          intro gs2 h1 h2 s hs
          rw [List.take_add_one, es] at hs
          rcases List.mem_append.mp hs with hs | hs
          · rcases List.mem_append.mp (cl9 s hs) with h | h
            · exact List.mem_append_left _ h
            · exact List.mem_append_right _ (h1 _ h)
          · rw [show s = st by simpa using hs]; exact h2
        cases (hst9 : Dp K H8 z (.tuple [st.st, .str st.k])) with
        | @tup ad us' _ hs' hda =>
        cases hda with
        | cons g1 hda =>
        cases hda with
        | cons g2 hda =>
        cases hda
        cases g2
        rename_i u1
        refine ⟨ad, _, rfl, s9.sqT hs', rfl, _, _, rfl, _, _, rfl, rfl, ?_⟩
        obtain ⟨kvs9, hW9, wd9⟩ := w9.wd
        refine ⟨_, rfl, _, rfl, Wd, _, rfl, DGet.k (k := Sum.inr st.k) hW9, _, rfl, ?_⟩
        by_cases hin : st.k ∈ ks ++ gs'
        · obtain ⟨l', hv', _⟩ := wd9.val hin
          rw [hv']
          exact iteF ⟨gs', _, _, rfl, w9, s9, sub, nxt gs' (fun _ h => h) hin⟩
        rw [wd9.none hin]
        refine iteT ?_
        have hl9 := s9.keep _ _ (s8.keep _ _ hl List.not_mem_nil) (by simp [lW, Fl.2])
        have hb9 := (hbq.sb s8 Sx.noList_st).sb s9 Sx.noList_st
        have ul := hbq.length
        refine ⟨_, rfl, _, rfl, by show 1 ≤ sizeLine; decide, fun A1 nA1 => ?_⟩
        have t10 := SB.new (ps := []) nA1 (.lst [u1])
        have hA10 : upd H9 A1 (.lst [u1]) A1 = some (.lst [u1]) := upd_same
        generalize upd H9 A1 (.lst [u1]) = H10 at t10 hA10
        refine ⟨l, A1, _, _, rfl, rfl, t10.keep _ _ hl9 List.not_mem_nil, hA10, by simp only [List.length_cons, List.length_nil]; omega, fun A2 nA2 => ?_⟩
        have t11 := SB.new (ps := []) nA2 (.lst (us ++ [u1]))
        have hA11 : upd H10 A2 (.lst (us ++ [u1])) A2 = some (.lst (us ++ [u1])) := upd_same
        generalize upd H10 A2 (.lst (us ++ [u1])) = H11 at t11 hA11
        have s11 := t10.trans t11
        have w11 := w9.keep s11
        have hW11 := s11.keep _ _ hW9 List.not_mem_nil
        obtain ⟨ws9, hG9, hd9⟩ := w9.g
        have kl9 := wd9.length
        have gl9 := hd9.length
        have n8 : (ks ++ gs').length ≤ 8 := by
          have := w9.nd.length_le_of_subset (l₂ := b.names) fun x hx => (w9.rc x hx).mem ok
          omega
        have n8' := n8
        rw [List.length_append] at n8'
        have wnew : Wy K H11 (fun l => H l = none ∧ l ≠ G) b n 1 (ks.length + 1) st.k A2 := ⟨us ++ [u1], q ++ [st], hA11, ((hb9.sb s11 Sx.noList_st).append (.cons (Dp_sb s11 _ _ st.noList_st (Dp_sb s9 _ _ st.noList_st g1)) .nil)), .step wlk egk stm, by simp, by simp; omega, w9.sb.dom _ (t10.dom _ nA2), fun z => by rw [z] at nA2; rw [t10.keep _ _ hG9 List.not_mem_nil] at nA2; cases nA2⟩
        have rnew : Rch b n st.k := by
          obtain ⟨_, q', _, _, w', h1, _⟩ := wnew
          exact w'.rch fun z => by rw [z] at h1; simp at h1
        refine ⟨_, rfl, _, rfl, Wd, _, rfl, DPut.k (k := Sum.inr st.k) hW11 (by omega), ?_⟩
        have WG : Wd ≠ G := fun z => by rw [z, hG9] at hW9; cases hW9
        have hG12 : upd H11 Wd (.dK (putK kvs9 (Sum.inr st.k) (.ref A2))) G = some (.lst ws9) := by rw [upd_ne (fun z => WG z.symm)]; exact s11.keep _ _ hG9 List.not_mem_nil
        refine ⟨_, rfl, .inl ⟨rfl, _, SqL.of hG12⟩, _, rfl, _, rfl, _, rfl, Wd, .ref A2, rfl, getK upd_same (by rw [valV_put, if_pos rfl]), by show 2 ≤ sizeLine; decide, fun T nT => ?_⟩
        have hG13 : upd (upd H11 Wd (.dK (putK kvs9 (Sum.inr st.k) (.ref A2)))) T (.tup [.str st.k, .ref A2]) G = some (.lst ws9) := by rw [upd_ne (fun z => by rw [← z, hG12] at nT; cases nT)]; exact hG12
        refine ⟨G, _, _, rfl, rfl, hG13, by omega, ?_⟩
        have tw : SB [Wd, G] H11 (upd H11 Wd (.dK (putK kvs9 (Sum.inr st.k) (.ref A2)))) := SB.setD hW11 (by simp) _
        have tt : SB [Wd, G] (upd H11 Wd (.dK (putK kvs9 (Sum.inr st.k) (.ref A2)))) (upd (upd H11 Wd (.dK (putK kvs9 (Sum.inr st.k) (.ref A2)))) T (.tup [.str st.k, .ref A2])) := SB.new nT _
        have tg : SB [Wd, G] _ (upd (upd (upd H11 Wd (.dK (putK kvs9 (Sum.inr st.k) (.ref A2)))) T (.tup [.str st.k, .ref A2])) G (.lst (ws9 ++ [.ref T]))) := SB.set hG13 (by simp) _
        exact ⟨gs' ++ [st.k], _, _, rfl, w11.add nWd nG0 FG hW11 hin rnew wnew nT hG13, (((s9.trans s11.nil).trans tw).trans tt).trans tg, fun x hx => List.mem_append_left _ (sub x hx), nxt _ (fun x hx => List.mem_append_left _ hx) (by simp)⟩
      · obtain ⟨gs', o7, o8, rfl, w9, s9, sub, cl9⟩ := h9
        refine ⟨gs', _, _, _, _, rfl, w9, fun h hh y hy => ?_⟩
        rw [List.take_add_one, eh] at hh
        rcases List.mem_append.mp hh with hh | hh
        · rcases List.mem_append.mp (cl7 h hh y hy) with h | h
          · exact List.mem_append_left _ h
          · exact List.mem_append_right _ (sub _ h)
        · have : h = hk := by simpa using hh
          subst this
          rw [adj_get egk, ← Kd.steps_kinds] at hy
          obtain ⟨s, hs, rfl⟩ := List.mem_map.mp hy
          refine cl9 s ?_
          rw [sl, List.take_length]; exact hs
    · obtain ⟨gs, o5, o6, o7, o8, rfl, w7, cl7⟩ := h7
      obtain ⟨kvs7, hW7, wd7⟩ := w7.wd
      obtain ⟨ws7, hG7, hd7⟩ := w7.g
      have gl := hd7.length
      have n8 : (ks ++ gs).length ≤ 8 := by
        have := w7.nd.length_le_of_subset (l₂ := b.names) fun x hx => (w7.rc x hx).mem ok
        omega
      have la := List.length_append (as := ks) (bs := gs)
      refine ⟨_, rfl, 2 * (9 - (ks ++ gs).length) + (if ws7 = [] then 0 else 1), ?_, ks ++ gs, kvs7, gs, ws7, G, _, _, _, _, _, rfl, rfl, w7.sb, hW7, wd7.imp (Nat.le_refl _) (by omega) (fun l us h z => z.1), hG7, ?_, w7.nd, w7.rc, fun x hx => ?_⟩
      · rw [if_neg evs]
        by_cases z : ws7 = []
        · rw [if_pos z]; omega
        · rw [if_neg z]
          have : 0 < ws7.length := List.length_pos_iff.mpr z
          omega
      · by_cases z : gs = []
        · subst z
          cases hd7
          exact .nil
        · have : 0 < gs.length := List.length_pos_iff.mpr z
          exact hd7.imp (by omega) (by omega) (fun l us h z => z.1)
      · by_cases xg : x ∈ gs
        · exact .inl xg
        · refine .inr fun y hy => ?_
          have hx : x = n ∨ x ∈ ks := hx.imp_right fun h => (List.mem_append.mp h).resolve_right xg
          rcases cl x hx with h | h
          · refine cl7 x ?_ y hy
            rw [hd5.length, List.take_length]; exact h
          · exact List.mem_append_left _ (h y hy)
end
end FT
namespace FT
open PySem PySem.W PySem.Spec PyProof.Rows L2
section
variable {P : Program} {w : World} {K : PySem.W.Frag} {mg : Str → Option Value} {base : Heap} {f : Addr} {fd : FuncData}
abbrev N_way_round : List Str := ["book", "name", "ways", "kind", "around"]
theorem sc_way_round : FnScope N_way_round ["book", "name"] (defScope s_way_round) := ⟨rfl, rfl, rfl, by decide +kernel, rfl, by decide +kernel, by decide +kernel⟩
theorem ok_way_round {C_Book C_NoKind : Addr} (B : BI mg) (G_ways_from : GotX P w K mg base "ways_from" ["book", "name"] (23) (spWays K C_Book C_NoKind)) (F : Fun K "way_round" "way_round" s_way_round f fd) : FnOk P w K mg base (L2.CX P w) (24) f fd ["book", "name"] (spRound K C_Book C_NoKind) := by
  refine F.okX sc_way_round (fun vs H Q E h => ?_) (fun cdv A outer s H vs Q E hr h => ?_)
  · obtain ⟨v, b, n, rfl, _⟩ := h
    rfl
  obtain ⟨v, b, n, rfl, hv, ok, qk, qE⟩ := h
  have hun2 : A.units + 3 + 200 < cLine := by have := hr.un; have h3 : (A.deeper (envOfC "way_round" (defScope s_way_round) s.heap.objs.size f cdv)).units = A.units + 3 := rfl; omega
  refine ⟨_, pss_cons (ps_set (i := 2) sc_way_round.nd rfl (.inl rfl) (pe_gotS G_ways_from (hr.mono (by omega)) rfl (takes_of rfl rfl rfl rfl) (pa_cons (pv 0) (pa_cons (pv 1) pa_nil))))
    (pss_cons (ps_if (pt_cmp (pc_din (by show A.units + 3 + 1 < cLine; omega) (pv 1) (pv 2))) (pss_one (ps_ret (pe_tup (pa_cons (pe_lst pa_nil) (pa_cons (pe_dget (by show A.units + 3 + 1 < cLine; omega) (pv 2) (pv 1) (fun _ _ => rfl)) pa_nil))))) pss_nil)
    (pss_cons (ps_lock (ps_for (passes_of rfl) rfl (pi_keys (pv 2)) (pg_name (i := 3) sc_way_round.nd rfl (.inl rfl))
      (pss_cons (ps_set (i := 4) sc_way_round.nd rfl (.inl rfl) (pe_gotS G_ways_from (hr.mono (by omega)) rfl (takes_of rfl rfl rfl rfl) (pa_cons (pv 0) (pa_cons (pv 3) pa_nil))))
    (pss_one (ps_if (pt_cmp (pc_din (by show A.units + 3 + 1 < cLine; omega) (pv 3) (pv 4))) (pss_one (ps_ret (pe_tup (pa_cons (pe_dget (by show A.units + 3 + 1 < cLine; omega) (pv 2) (pv 3) (fun _ _ => rfl)) (pa_cons (pe_dget (by show A.units + 3 + 1 < cLine; omega) (pv 4) (pv 3) (fun _ _ => rfl)) pa_nil))))) pss_nil)))))
    (pss_one (ps_ret pe_non)))), ?_⟩
  have szl := sizeLine_eq
  have b8 := ok.len
  refine ⟨_, rfl, _, rfl, v, b, n, rfl, hv, ok, fun k0 eg D kvs ks H1 s1 nD hD wd nd rc => ?_, fun eg => qE eg⟩
  obtain ⟨q1, q2⟩ := qk k0 eg
  have hn : n ∈ b.names := by
    obtain ⟨h1, h2⟩ := Bk.get_some eg
    exact List.mem_map.mpr ⟨k0, h1, h2⟩
  refine ⟨_, rfl, _, rfl, D, _, rfl, DGet.k (k := Sum.inr n) hD, _, rfl, ?_⟩
  by_cases hin : n ∈ ks
  · obtain ⟨l, hvl, wy⟩ := wd.val hin
    rw [hvl]
    refine iteT ⟨by show 0 ≤ sizeLine; decide, fun L0 nL0 => ?_⟩
    have t2 := SB.new (ps := []) nL0 (.lst [])
    have hL2 : upd H1 L0 (.lst []) L0 = some (.lst []) := upd_same
    generalize upd H1 L0 (.lst []) = H2 at t2 hL2
    refine ⟨_, rfl, _, rfl, D, .ref l, rfl, getK (t2.keep _ _ hD List.not_mem_nil) hvl, by show 2 ≤ sizeLine; decide, fun T nT => ?_⟩
    have t3 := SB.new (ps := []) nT (.tup [.ref L0, .ref l])
    have s3 := (s1.trans t2).trans t3
    have ne : L0 ≠ l := fun z => by
      obtain ⟨_, _, h, _⟩ := wy
      rw [z, h] at nL0
      cases nL0
    exact q2 (fun z => z.noring ((rc n).mp hin)) T L0 l n _ s3 ((s1.trans t2).dom _ nT) (SqT.of upd_same) ne ⟨[], [], t3.keep _ _ hL2 List.not_mem_nil, .nil, .nil, Nat.le_refl _, by decide, s1.dom _ nL0⟩ ((wy.sb t2 (by simp)).sb t3 (by simp))
  rw [wd.none hin]
  refine iteF ?_
  refine ⟨D, _, hD, trivial, fun od => ?_⟩
  have hdL : upd H1 D (.frz od (.dK kvs)) D = some (.frz od (.dK kvs)) := upd_same
  have un : ∀ H', SB [] (upd H1 D (.frz od (.dK kvs))) H' → SB [] H1 (upd H' D (.dK kvs)) := fun H' s => s.unlock hD (fun _ z => nomatch z) (fun _ _ z => nomatch z)
  have dm : ∀ p, upd H1 D (.frz od (.dK kvs)) p = none → H1 p = none := fun p h => by
    have z : p ≠ D := fun z => by rw [z, upd_same] at h; cases h
    rwa [upd_ne z] at h
  have sL : SB [] H (upd H1 D (.frz od (.dK kvs))) := ((s1.nil (ps := [D])).trans (SB.setG hD (by simp) (fun _ z => nomatch z) (fun _ _ z => nomatch z) _)).drop nD
  have wdL := wd.sb (SB.setG (ps := [D]) hD (by simp) (fun _ z => nomatch z) (fun _ _ z => nomatch z) (.frz od (.dK kvs))) (fun p hp => .inr fun us z => by rw [List.mem_singleton.mp hp, hD] at z; cases z)
  have kk := wd.keys
  have kl := wd.length
  have kn8 : ks.length ≤ 8 := by
    have h1 := nd.length_le_of_subset (l₂ := b.names) fun x hx => ((rc x).mp hx).mem ok
    have : b.names.length = b.length := List.length_map ..
    omega
  generalize upd H1 D (.frz od (.dK kvs)) = HL at hdL un dm sL wdL
  refine ⟨_, rfl, D, od, rfl, .inl ⟨kvs, hdL, ?_⟩⟩
  refine for_it walk_keys (fun i σ H5 => ∃ (o3 o4 : Option V), σ = [some v, some (.str n), some (.ref D), o3, o4] ∧ SB [] HL H5 ∧ ∀ k ∈ ks.take i, ¬ Rch b k k) ⟨none, none, rfl, SB.refl, by simp⟩ (fun i σ H5 hi h5 => by obtain ⟨_, _, _, s, _⟩ := h5; exact s.frzs _ _ _ hdL) (fun i x σ Hq H5 hi h5 y => ?_) (fun σ H5 h5 => ?_)
  · obtain ⟨o3, o4, rfl, s5, no5⟩ := h5
    obtain ⟨rfl, k1, v1, ek, rfl⟩ := y
    have ek1 : (kvs.map (·.1))[i]? = some k1 := by rw [List.getElem?_map, ek]; rfl
    rw [kk, List.getElem?_map] at ek1
    obtain ⟨k, eks, rfl⟩ := Option.map_eq_some_iff.mp ek1
    have hk := List.mem_of_getElem? eks
    have rk := (rc k).mp hk
    obtain ⟨kd, egk⟩ := Bk.get_of (rk.mem ok)
    refine ⟨_, rfl, _, rfl, v, b, k, rfl, hv.sb0 (sL.trans s5), ok, fun _ _ A kws js H6 s6 nA hA wa nja rca => ?_, fun z => by rw [egk] at z; cases z⟩
    have s06 := s5.trans s6
    have hd6 := s06.frzs _ _ _ hdL
    refine ⟨_, rfl, _, rfl, A, _, rfl, DGet.k (k := Sum.inr k) hA, _, rfl, ?_⟩
    by_cases hj : k ∈ js
    · obtain ⟨l2, hv2, w2⟩ := wa.val hj
      obtain ⟨l1, hv1, w1⟩ := wdL.val hk
      rw [hv2]
      refine iteT ⟨_, rfl, _, rfl, D, .ref l1, rfl, getKR (.inr ⟨_, hd6⟩) hv1, _, rfl, _, rfl, A, .ref l2, rfl, getK hA hv2, by show 2 ≤ sizeLine; decide, fun T nT => ?_⟩
      have t7 := SB.new (ps := []) nT (.tup [.ref l1, .ref l2])
      have hT : SqT K (upd H6 T (.tup [.ref l1, .ref l2])) T [.ref l1, .ref l2] := SqT.of upd_same
      generalize upd H6 T (.tup [.ref l1, .ref l2]) = H7 at t7 hT
      have hd7 := t7.frzs _ _ _ hd6
      have s07 := s06.trans t7
      have ne : l1 ≠ l2 := fun z => by
        obtain ⟨_, _, h1, _⟩ := w1
        obtain ⟨_, _, _, _, _, _, _, n2⟩ := w2
        rw [z] at h1
        rw [s5.keep _ _ h1 List.not_mem_nil] at n2
        cases n2
      refine ⟨hd7, q2 (fun z => z.rch rk |>.noring ((rca k).mp hj)) T l1 l2 k _ (s1.trans (un _ s07)) ((sL.trans s06).dom _ nT) (sqT_dic hd7 _ _ hT) ne ?_ ?_⟩
      · exact Wy.dic hd7 ((w1.sb s07 (by simp)).imp (by omega) (Nat.le_refl _) fun _ _ _ h => h)
      · exact Wy.dic hd7 ((w2.imp (Nat.le_refl _) (Nat.le_refl _) fun l us _ h => (sL.trans s5).dom _ h).sb t7 (by simp))
    · rw [wa.none hj]
      refine iteF ⟨_, _, rfl, s06, fun x hx => ?_⟩
      rw [List.take_add_one, eks] at hx
      rcases List.mem_append.mp hx with hx | hx
      · exact no5 x hx
      · have e : x = k := by simpa using hx
        rw [e]
        exact fun z => hj ((rca k).mpr z)
  · obtain ⟨o3, o4, rfl, s5, no5⟩ := h5
    rw [kl, List.take_length] at no5
    refine ⟨s5.frzs _ _ _ hdL, q1 ?_ _ (s1.trans (un _ s5))⟩
    refine Classical.byContradiction fun z => ?_
    obtain ⟨r, h1, h2⟩ := ring_of ok hn z
    rcases h2 with e | h2
    · rw [e] at h1; exact hin ((rc n).mpr h1)
    · exact no5 r ((rc r).mpr h2) h1
end
end FT
namespace FT
open PySem PySem.W PySem.Spec PyProof.Rows L2
section
variable {P : Program} {w : World} {K : PySem.W.Frag} {mg : Str → Option Value} {base : Heap} {f : Addr} {fd : FuncData}
abbrev N__law_cell_at : List Str := ["_law_script", "_law_k"]
theorem sc__law_cell_at : FnScope N__law_cell_at ["_law_script", "_law_k"] (defScope s__law_cell_at) := ⟨rfl, rfl, rfl, by decide +kernel, rfl, by decide +kernel, by decide +kernel⟩
theorem ok__law_cell_at (B : BI mg) (F : Fun K "_law_cell_at" "_law_cell_at" s__law_cell_at f fd) : FnOk P w K mg base CX0 (1) f fd ["_law_script", "_law_k"] (spCellAt K) := by
  refine F.ok sc__law_cell_at (fun vs H Q E h => ?_) (fun cdv A outer s H vs Q E hr h => ?_)
  · obtain ⟨a, ns, k, rfl, _⟩ := h
    rfl
  obtain ⟨a, ns, k, rfl, hs, h63, hk, q⟩ := h
  have hun2 : A.units + 3 + 200 < cLine := by have := hr.un; have h3 : (A.deeper (envOfC "_law_cell_at" (defScope s__law_cell_at) s.heap.objs.size f cdv)).units = A.units + 3 := rfl; omega
  refine ⟨_, pss_cons (ps_if (pt_cmpR op_lt (pv 1) (pe_callB call_len_seq rfl B.len PySem.boot_len (pa_cons (pv 0) pa_nil)) (nomark _)) (pss_one (ps_ret (pe_ix ix_list (pv 0) (pv 1) (fun _ _ => rfl)))) pss_nil)
    (pss_one (ps_ret pe_int)), ?_⟩
  refine ⟨_, rfl, _, rfl, a, _, rfl, .inl hs, _, _, rfl, rfl, _, rfl, ?_⟩
  refine ite2 (fun z => ?_) (fun z => q 0)
  have z' : (k : Int) < ((ns.map V.int).length : Nat) := of_decide_eq_true z
  rw [List.length_map] at z'
  have hk2 : k < ns.length := by omega
  exact ⟨_, rfl, _, rfl, a, _, _, _, rfl, rfl, hs, atI_nat (j := k) (v := .int ns[k]) (by rw [List.getElem?_map, List.getElem?_eq_getElem hk2]; rfl), q _⟩
end
end FT
namespace FT
open PySem PySem.W PySem.Spec PyProof.Rows L2
section
variable {P : Program} {w : World} {K : PySem.W.Frag} {mg : Str → Option Value} {base : Heap} {f : Addr} {fd : FuncData}
abbrev N__law_purse : List Str := ["_law_script", "_law_k", "_law_cell", "_law_mixed"]
theorem sc__law_purse : FnScope N__law_purse ["_law_script", "_law_k"] (defScope s__law_purse) := ⟨rfl, rfl, rfl, by decide +kernel, rfl, by decide +kernel, by decide +kernel⟩
theorem ok__law_purse (B : BI mg) (G__law_cell_at : Got P w K mg base "_law_cell_at" ["_law_script", "_law_k"] (1) (spCellAt K)) (F : Fun K "_law_purse" "_law_purse" s__law_purse f fd) : FnOk P w K mg base CX0 (2) f fd ["_law_script", "_law_k"] (spPurseW K) := by
  refine F.ok sc__law_purse (fun vs H Q E h => ?_) (fun cdv A outer s H vs Q E hr h => ?_)
  · obtain ⟨a, ns, k, rfl, _⟩ := h
    rfl
  obtain ⟨a, ns, k, rfl, hs, h63, hk, q⟩ := h
  have hun2 : A.units + 3 + 200 < cLine := by have := hr.un; have h3 : (A.deeper (envOfC "_law_purse" (defScope s__law_purse) s.heap.objs.size f cdv)).units = A.units + 3 := rfl; omega
  refine ⟨_, pss_cons (ps_set (i := 2) sc__law_purse.nd rfl (.inl rfl) (pe_got G__law_cell_at (hr.mono (by omega)) rfl (pa_cons (pv 0) (pa_cons (pv 1) pa_nil))))
    (pss_cons (ps_set (i := 3) sc__law_purse.nd rfl (.inl rfl) (pe_op op_mod (pe_op op_add (pe_op op_add (pe_op op_mul (pe_op op_mod (pv 2) pe_int) pe_int) (pe_op op_mul (pe_op op_mul (pv 1) (pv 1)) pe_int)) pe_int) pe_int))
    (pss_cons (ps_if (pt_cmpR op_lt (pv 2) pe_int (nomark _)) (pss_one (ps_set (i := 2) sc__law_purse.nd rfl (.inl rfl) (pe_op op_sub (pe_op op_pow pe_int pe_int) (pv 2)))) pss_nil)
    (pss_cons (ps_if (pt_cmpR op_lt (pv 2) (pe_op op_pow pe_int pe_int) (nomark _)) (pss_one (ps_set (i := 2) sc__law_purse.nd rfl (.inl rfl) pe_int)) pss_nil)
    (pss_one (ps_ret (pe_lst (pa_cons (pe_op op_mod (pv 2) (pe_op op_powW (pe_op op_pow pe_int pe_int) pe_int)) (pa_cons (pv 3) pa_nil)))))))), ?_⟩
  refine ⟨_, rfl, _, rfl, a, ns, k, rfl, hs, h63, hk, fun c => ?_⟩
  have kk : (k : Int) * k ≤ 1000 * 1000 := Int.mul_le_mul (by omega) (by omega) (by omega) (by decide)
  have kk0 : 0 ≤ (k : Int) * k := Int.mul_nonneg (by omega) (by omega)
  refine ⟨_, rfl, _, _, rfl, rfl, (by show (0 : Int) < 2147483647; decide), _, _, rfl, rfl, .inr ⟨by decide, by decide⟩, _, rfl, _, rfl, _, _, rfl, rfl, .inl ⟨by omega, by omega⟩, _, _, rfl, rfl, .inr ⟨by decide, by decide⟩, _, _, rfl, rfl, _, _, rfl, rfl, _, _, rfl, rfl, (by show (0 : Int) < 2147483629; decide), ?_⟩
  have b1 := Int.emod_nonneg (c % 2147483647 * 48271 + (k : Int) * k * 7919 + 12345) (b := 2147483629) (by decide)
  have b2 := Int.emod_lt_of_pos (c % 2147483647 * 48271 + (k : Int) * k * 7919 + 12345) (b := 2147483629) (by decide)
  have fin : ∀ d : Int, tRet (tLst (tCons (tOp (rI (fun _ j => 0 < j) fun i j => .int (i % j)) (tVar 2) (tOp (rI CPowW fun i j => .int (i ^ j.toNat)) (tOp (rI CPow fun i j => .int (i ^ j.toNat)) (tC (.int 10)) (tC (.int 60))) (tC (.int 10)))) (tCons (tVar 3) tNil)))
      { nx := fun _ H' => Q .non H', rt := Q } [some (.ref a), some (.int (k : Int)), some (.int d), some (.int ((c % 2147483647 * 48271 + (k : Int) * k * 7919 + 12345) % 2147483629))] H := by
    intro d
    refine ⟨_, rfl, _, _, rfl, rfl, ⟨by decide, by decide, by decide⟩, _, _, rfl, rfl, ⟨by decide, by decide, by decide⟩, _, _, rfl, rfl, (by show (0 : Int) < (10 ^ 60) ^ 10; decide), _, rfl, (by show 2 ≤ sizeLine; decide), fun p hp => ?_⟩
    exact q p _ (SB.new hp _) hp ⟨_, _, upd_same, Int.emod_nonneg _ (by decide), b1, by omega⟩
  have mid : ∀ d : Int, tSeq (tIfS (tTest (tOp (rI0 fun i j => .bl (decide (i < j))) (tVar 2) (tOp (rI CPow fun i j => .int (i ^ j.toNat)) (tC (.int 10)) (tC (.int 18))))) (tAsg (tC (.int 0)) (gName 2)) tNext)
      (tRet (tLst (tCons (tOp (rI (fun _ j => 0 < j) fun i j => .int (i % j)) (tVar 2) (tOp (rI CPowW fun i j => .int (i ^ j.toNat)) (tOp (rI CPow fun i j => .int (i ^ j.toNat)) (tC (.int 10)) (tC (.int 60))) (tC (.int 10)))) (tCons (tVar 3) tNil))))
      { nx := fun _ H' => Q .non H', rt := Q } [some (.ref a), some (.int (k : Int)), some (.int d), some (.int ((c % 2147483647 * 48271 + (k : Int) * k * 7919 + 12345) % 2147483629))] H := by
    intro d
    refine ⟨_, rfl, _, _, rfl, rfl, ⟨by decide, by decide, by decide⟩, _, _, rfl, rfl, _, rfl, ?_⟩
    exact ite2 (fun _ => fin 0) (fun _ => fin d)
  refine ⟨_, rfl, _, _, rfl, rfl, _, rfl, ?_⟩
  refine ite2 (fun _ => ?_) (fun _ => mid c)
  exact ⟨_, _, rfl, rfl, ⟨by decide, by decide, by decide⟩, _, rfl, _, _, rfl, rfl, mid _⟩
end
end FT
namespace FT
open PySem PySem.W PySem.Spec PyProof.Rows L2
section
variable {P : Program} {w : World} {K : PySem.W.Frag} {mg : Str → Option Value} {base : Heap} {f : Addr} {fd : FuncData}
abbrev N__law_take : List Str := ["_law_purse_here", "_law_many", "_law_found"]
theorem sc__law_take : FnScope N__law_take ["_law_purse_here", "_law_many"] (defScope s__law_take) := ⟨rfl, rfl, rfl, by decide +kernel, rfl, by decide +kernel, by decide +kernel⟩
theorem ok__law_take (B : BI mg) (F : Fun K "_law_take" "_law_take" s__law_take f fd) : FnOk P w K mg base CX0 (1) f fd ["_law_purse_here", "_law_many"] (spTakeW) := by
  refine F.ok sc__law_take (fun vs H Q E h => ?_) (fun cdv A outer s H vs Q E hr h => ?_)
  · obtain ⟨p, m, rfl, _⟩ := h
    rfl
  obtain ⟨p, m, rfl, hp, hm, hm2, q⟩ := h
  have hun2 : A.units + 3 + 200 < cLine := by have := hr.un; have h3 : (A.deeper (envOfC "_law_take" (defScope s__law_take) s.heap.objs.size f cdv)).units = A.units + 3 := rfl; omega
  refine ⟨_, pss_cons (ps_if (pt_cmpR op_gt (pe_ix ix_list (pv 0) pe_int (fun _ _ => rfl)) pe_int (nomark _)) (pss_cons (ps_set (i := 2) sc__law_take.nd rfl (.inl rfl) (pe_op op_mod (pe_ix ix_list (pv 0) pe_int (fun _ _ => rfl)) (pv 1)))
    (pss_cons (ps_asg (pe_op op_fdivW (pe_ix ix_list (pv 0) pe_int (fun _ _ => rfl)) (pv 1)) (pg_sub (pv 0) pe_int set_list))
    (pss_one (ps_ret (pv 2))))) pss_nil)
    (pss_cons (ps_asg (pe_op op_mod (pe_op op_add (pe_op op_mul (pe_ix ix_list (pv 0) pe_int (fun _ _ => rfl)) pe_int) pe_int) pe_int) (pg_sub (pv 0) pe_int set_list))
    (pss_one (ps_ret (pe_op op_mod (pe_op op_mod (pe_op op_mulW (pe_ix ix_list (pv 0) pe_int (fun _ _ => rfl)) (pe_ix ix_list (pv 0) pe_int (fun _ _ => rfl))) pe_int) (pv 1))))), ?_⟩
  obtain ⟨x, y, hp, hx, hy, hy2⟩ := hp
  have hS : SqL K H p [.int x, .int y] := SqL.of hp
  refine ⟨_, rfl, p, _, _, _, rfl, rfl, hS, ix0, _, _, rfl, rfl, _, rfl, ?_⟩
  refine ite2 (fun c => ?_) (fun c => ?_)
  · refine ⟨_, rfl, p, _, _, _, rfl, rfl, hS, ix0, _, rfl, _, _, rfl, rfl, (by show (0 : Int) < m; omega), ?_⟩
    refine ⟨_, rfl, p, _, _, _, rfl, rfl, hS, ix0, _, rfl, _, _, rfl, rfl, wide_div (b := 250) (by omega) (by omega) (by decide) (by decide), ?_⟩
    refine ⟨_, rfl, p, _, _, _, rfl, rfl, hp, rfl, ?_⟩
    exact ⟨_, rfl, q _ _ (Int.emod_nonneg _ (by omega)) (Int.emod_lt_of_pos _ (by omega)) (SB.set hp (by simp) _) ⟨x / m, y, upd_same, Int.ediv_nonneg hx (by omega), hy, hy2⟩⟩
  · refine ⟨_, rfl, p, _, _, _, rfl, rfl, hS, ix1, _, _, rfl, rfl, .inr ⟨by decide, by decide⟩, _, _, rfl, rfl, _, _, rfl, rfl, (by show (0 : Int) < 2147483629; decide), ?_⟩
    refine ⟨_, rfl, p, _, _, _, rfl, rfl, hp, rfl, ?_⟩
    have b1 := Int.emod_nonneg (y * 69621 + 7) (b := 2147483629) (by decide)
    have b2 := Int.emod_lt_of_pos (y * 69621 + 7) (b := 2147483629) (by decide)
    obtain ⟨z, hz⟩ : ∃ z, z = (y * 69621 + 7) % 2147483629 := ⟨_, rfl⟩
    rw [← hz] at b1 b2
    have e0 : upd H p (.lst ([V.int x, V.int y].set (Int.toNat 1) (V.int ((y * 69621 + 7) % 2147483629)))) = upd H p (.lst [.int x, .int z]) := by rw [hz]; rfl
    refine cast (congrArg _ e0.symm) ?_
    have hp2 : (upd H p (.lst [.int x, .int z])) p = some (.lst [.int x, .int z]) := upd_same
    have hS2 : SqL K (upd H p (.lst [.int x, .int z])) p [.int x, .int z] := SqL.of hp2
    refine ⟨_, rfl, p, _, _, _, rfl, rfl, hS2, ix1, _, rfl, p, _, _, _, rfl, rfl, hS2, ix1, _, _, rfl, rfl, wide_mul (a := 64) (b := 64) (by omega) (by omega) (by decide) (by decide) (by decide), _, _, rfl, rfl, (by show (0 : Int) < 2147483587; decide), _, rfl, _, _, rfl, rfl, (by show (0 : Int) < m; omega), ?_⟩
    exact q _ _ (Int.emod_nonneg _ (by omega)) (Int.emod_lt_of_pos _ (by omega)) (SB.set hp (by simp) _) ⟨x, z, upd_same, hx, by omega, by omega⟩
end
end FT
namespace FT
open PySem PySem.W PySem.Spec PyProof.Rows L2
section
variable {P : Program} {w : World} {K : PySem.W.Frag} {mg : Str → Option Value} {base : Heap} {f : Addr} {fd : FuncData}
abbrev N__law_words : List Str := ["_law_purse_here", "_law_many", "_law_letters", "_law_way_here", "_law_found", "_law_k", "_law_sized", "_law_stem", "_law_start", "_law_at", "_law_begun", "_law_by", "_law_j"]
theorem sc__law_words : FnScope N__law_words ["_law_purse_here", "_law_many"] (defScope s__law_words) := ⟨rfl, rfl, rfl, by decide +kernel, rfl, by decide +kernel, by decide +kernel⟩
theorem ok__law_words (B : BI mg) (G__law_take : Got P w K mg base "_law_take" ["_law_purse_here", "_law_many"] (1) (spTakeW)) (F : Fun K "_law_words" "_law_words" s__law_words f fd) : FnOk P w K mg base CX0 (2) f fd ["_law_purse_here", "_law_many"] (spWords K) := by
  refine F.ok sc__law_words (fun vs H Q E h => ?_) (fun cdv A outer s H vs Q E hr h => ?_)
  · obtain ⟨p, m, rfl, _⟩ := h
    rfl
  obtain ⟨p, m, rfl, hp, m1, m8, q⟩ := h
  have hun2 : A.units + 3 + 200 < cLine := by have := hr.un; have h3 : (A.deeper (envOfC "_law_words" (defScope s__law_words) s.heap.objs.size f cdv)).units = A.units + 3 := rfl; omega
  refine ⟨_, pss_cons (ps_set (i := 2) sc__law_words.nd rfl (.inr rfl) pe_str)
    (pss_cons (ps_set (i := 3) sc__law_words.nd rfl (.inl rfl) (pe_got G__law_take (hr.mono (by omega)) rfl (pa_cons (pv 0) (pa_cons pe_int pa_nil))))
    (pss_cons (ps_set (i := 4) sc__law_words.nd rfl (.inl rfl) (pe_lst pa_nil))
    (pss_cons (ps_for PassesOwn.never rfl (pi_range1 rfl B.range (pa_cons (pe_op op_mul (pv 1) (pe_callTy call_int1 rfl B.int boot_int (pa_cons (pe_cmpR op_eq (pv 3) pe_int (nomark _)) pa_nil))) pa_nil)) (pg_name (i := 5) sc__law_words.nd rfl (.inl rfl))
      (pss_cons (ps_set (i := 6) sc__law_words.nd rfl (.inr rfl) (pe_op op_add pe_int (pe_got G__law_take (hr.mono (by omega)) rfl (pa_cons (pv 0) (pa_cons pe_int pa_nil)))))
    (pss_one (ps_expr (pe_bm PySem.F.plainAttrs_list PySem.F.slot_list_append PySem.F.type_list_append mt_append (pv 4) (pa_cons (pe_join pe_str (pe_lc (own := [("_law_j", 12)]) (g := (gName 12)) (tt := tYes) (te := (tOp rIxS (tVar 2) (tCall (spTakeW) [] E0 (tCons (tVar 0) (tCons (tC (.int 26)) tNil))))) rfl sc__law_words.nd (pi_range1 rfl B.range (pa_cons (pv 6) pa_nil)) (blkOk_by (N := N__law_words) (sc := defScope s__law_words) (by decide +kernel)) (fun _ _ _ _ _ => (pg_name (i := 12) sc__law_words.nd rfl (.inl rfl))) (fun _ _ _ _ _ => pts_nil) (fun _ _ _ _ _ => (pe_ix ix_str (pv 2) (pe_got G__law_take (hr.mono (by omega)) rfl (pa_cons (pv 0) (pa_cons pe_int pa_nil))) (fun _ _ => rfl))))) pa_nil))))))
    (pss_cons (ps_if (PW.pt (pw_and (pt_cmpR op_eq (pv 3) pe_int (nomark _)) (pw_and1 (pt_cmpR op_eq (pe_lenSetS rfl B rfl rfl (pv 4)) (pv 1) (nomark _))))) (pss_one (ps_ret (pv 4))) pss_nil)
    (pss_cons (ps_set (i := 7) sc__law_words.nd rfl (.inr rfl) (pe_join pe_str (pe_lc (own := [("_law_k", 5)]) (g := (gName 5)) (tt := tYes) (te := (tOp rIxS (tVar 2) (tCall (spTakeW) [] E0 (tCons (tVar 0) (tCons (tC (.int 26)) tNil))))) rfl sc__law_words.nd (pi_range1 rfl B.range (pa_cons pe_int pa_nil)) (blkOk_by (N := N__law_words) (sc := defScope s__law_words) (by decide +kernel)) (fun _ _ _ _ _ => (pg_name (i := 5) sc__law_words.nd rfl (.inl rfl))) (fun _ _ _ _ _ => pts_nil) (fun _ _ _ _ _ => (pe_ix ix_str (pv 2) (pe_got G__law_take (hr.mono (by omega)) rfl (pa_cons (pv 0) (pa_cons pe_int pa_nil))) (fun _ _ => rfl))))))
    (pss_cons (ps_if (pt_cmpR op_eq (pv 3) pe_int (nomark _)) (pss_cons (ps_set (i := 8) sc__law_words.nd rfl (.inr rfl) (pe_got G__law_take (hr.mono (by omega)) rfl (pa_cons (pv 0) (pa_cons pe_int pa_nil))))
    (pss_one (ps_ret (pe_lc (own := [("_law_k", 5)]) (g := (gName 5)) (tt := tYes) (te := (tSl rSlS (tVar 7) tNoPart (tPart (tOp (rI0 fun i j => .int (i + j)) (tC (.int 1)) (tOp (rI (fun _ j => 0 < j) fun i j => .int (i % j)) (tOp (rI0 fun i j => .int (i + j)) (tVar 8) (tVar 5)) (tC (.int 8))))))) rfl sc__law_words.nd (pi_range1 rfl B.range (pa_cons (pv 1) pa_nil)) (blkOk_by (N := N__law_words) (sc := defScope s__law_words) (by decide +kernel)) (fun _ _ _ _ _ => (pg_name (i := 5) sc__law_words.nd rfl (.inl rfl))) (fun _ _ _ _ _ => pts_nil) (fun _ _ _ _ _ => (pe_slice sl_str (pv 7) po_none (po_some (pe_op op_add pe_int (pe_op op_mod (pe_op op_add (pv 8) (pv 5)) pe_int))))))))) pss_nil)
    (pss_cons (ps_set (i := 6) sc__law_words.nd rfl (.inr rfl) (pe_got G__law_take (hr.mono (by omega)) rfl (pa_cons (pv 0) (pa_cons pe_int pa_nil))))
    (pss_cons (ps_set (i := 9) sc__law_words.nd rfl (.inr rfl) (pe_got G__law_take (hr.mono (by omega)) rfl (pa_cons (pv 0) (pa_cons (pe_op op_add (pv 6) pe_int) pa_nil))))
    (pss_cons (ps_set (i := 10) sc__law_words.nd rfl (.inr rfl) (pe_got G__law_take (hr.mono (by omega)) rfl (pa_cons (pv 0) (pa_cons pe_int pa_nil))))
    (pss_cons (ps_set (i := 11) sc__law_words.nd rfl (.inr rfl) (pe_op op_add pe_int (pe_op op_mul pe_int (pe_got G__law_take (hr.mono (by omega)) rfl (pa_cons (pv 0) (pa_cons pe_int pa_nil))))))
    (pss_one (ps_ret (pe_lc (own := [("_law_k", 5)]) (g := (gName 5)) (tt := tYes) (te := (tOp (fun x y H Q => ∃ i j, x = .str i ∧ y = .str j ∧ i.length + j.length ≤ sizeLine ∧ Q (.str (i ++ j)) H) (tOp (fun x y H Q => ∃ i j, x = .str i ∧ y = .str j ∧ i.length + j.length ≤ sizeLine ∧ Q (.str (i ++ j)) H) (tSl rSlS (tVar 7) tNoPart (tPart (tVar 9))) (tOp rIxS (tVar 2) (tOp (rI (fun _ j => 0 < j) fun i j => .int (i % j)) (tOp (rI0 fun i j => .int (i + j)) (tVar 10) (tOp (rI CMul fun i j => .int (i * j)) (tVar 11) (tVar 5))) (tC (.int 26))))) (tSl rSlS (tVar 7) (tPart (tVar 9)) (tPart (tVar 6))))) rfl sc__law_words.nd (pi_range1 rfl B.range (pa_cons (pv 1) pa_nil)) (blkOk_by (N := N__law_words) (sc := defScope s__law_words) (by decide +kernel)) (fun _ _ _ _ _ => (pg_name (i := 5) sc__law_words.nd rfl (.inl rfl))) (fun _ _ _ _ _ => pts_nil) (fun _ _ _ _ _ => (pe_op op_add_str (pe_op op_add_str (pe_slice sl_str (pv 7) po_none (po_some (pv 9))) (pe_ix ix_str (pv 2) (pe_op op_mod (pe_op op_add (pv 10) (pe_op op_mul (pv 11) (pv 5))) pe_int) (fun _ _ => rfl))) (pe_slice sl_str (pv 7) (po_some (pv 9)) (po_some (pv 6)))))))))))))))))), ?_⟩
  have szl := sizeLine_eq
  refine take_w (i := 0) rfl hp (by decide) (by decide) fun w0 H1 w00 w03 s1 hp1 => ?_
  refine ⟨(by show 0 ≤ sizeLine; decide), fun F hF => ?_⟩
  have pF : p ≠ F := hp1.ne hF
  refine ⟨_, rfl, _, rfl, rfl, .inr ⟨_, rfl, _, _, rfl, rfl, .inl ⟨by omega, by omega⟩, ?_⟩⟩
  obtain ⟨c, hc, hc0⟩ : ∃ c : Nat, (m : Int) * (if decide (V.int w0 = V.int 0) = true then (1 : Int) else 0) = (c : Int) ∧ (c = m ∧ w0 = 0 ∨ c = 0 ∧ w0 ≠ 0) := by
    by_cases h : w0 = 0
    · exact ⟨m, by simp [h], .inl ⟨rfl, h⟩⟩
    · exact ⟨0, by simp [h], .inr ⟨rfl, h⟩⟩
  refine ⟨_, rfl, by rw [hc]; omega, by rw [hc]; omega, ?_⟩
  rw [hc, Int.toNat_natCast]
  have t2 := SB.new (ps := []) hF (.lst [])
  have s2 : SB [p, F] H (upd H1 F (.lst [])) := (s1.mono (by simp)).trans (SB.new hF _)
  have nF : H F = none := s1.dom F hF
  refine for_it walk_range (fun i σ H2 => SB [p, F] H H2 ∧ PuW H2 p ∧ ∃ (zs : List Str) (o5 o6 : Option V), σ = [some (.ref p), some (.int (m : Int)), some (.str abc), some (.int w0), some (.ref F), o5, o6, none, none, none, none, none, none] ∧ H2 F = some (.lst (zs.map V.str)) ∧ zs.length = i ∧ ∀ z ∈ zs, NameOk z) ⟨s2, hp1.sb t2, [], none, none, rfl, upd_same, rfl, by simp⟩ (fun _ _ _ _ _ => trivial) (fun i x σ H2 H' hi h2 y => ?_) (fun σ H2 h2 => ?_)
  · obtain ⟨s3, hp3, zs, o5, o6, rfl, hF3, zl, zo⟩ := h2
    obtain ⟨rfl, rfl⟩ := y
    refine take_w (i := 0) rfl hp3 (by decide) (by decide) fun r4 H4 r40 r48 s4 hp4 => ?_
    obtain ⟨u, hu, hu1, hu8⟩ : ∃ u : Nat, 1 + r4 = (u : Int) ∧ 1 ≤ u ∧ u ≤ 8 := ⟨(1 + r4).toNat, by omega, by omega, by omega⟩
    refine ⟨_, _, rfl, rfl, ?_⟩
    have hF4 := s4.keep _ _ hF3 (by simpa using fun z : F = p => pF z.symm)
    refine ⟨_, rfl, .inl ⟨rfl, _, SqL.of hF4⟩, ?_⟩
    refine join_w (k := u) (by omega) (fun _ => rfl) (fun _ => rfl) (fun _ => rfl) (fun R hR => ⟨_, rfl, _, rfl, by show (-(2 ^ 62) : Int) ≤ 1 + r4; omega, by show 1 + r4 < 2 ^ 62; omega, by show R (Itr 0 (1 + r4).toNat) H4; rw [hu, Int.toNat_natCast]; exact hR⟩) hp4 (fun z H5 s5 hp5 hz => ?_)
    have hF5 := s5.keep _ _ hF4 (by simpa using fun z : F = p => pF z.symm)
    refine ⟨F, _, _, rfl, rfl, hF5, by rw [List.length_map]; omega, ?_⟩
    have t6 := SB.set (ps := [F]) hF5 (by simp) (.lst (zs.map V.str ++ [.str z]))
    refine ⟨((s3.trans (s4.mono (by simp))).trans (s5.mono (by simp))).trans (t6.mono (by simp)), hp5.keep t6 (by simpa using pF), zs ++ [z], _, _, rfl, by rw [upd_same, List.map_append]; rfl, by rw [List.length_append, zl]; rfl, fun y hy => ?_⟩
    rcases List.mem_append.mp hy with hy | hy
    · exact zo y hy
    · rw [List.mem_singleton.mp hy]; exact hz.name hu1 hu8
  obtain ⟨s3, hp3, zs, o5, o6, rfl, hF3, zl, zo⟩ := h2
  have s3' : SB [p] H H2 := s3.drop2 nF
  have mm := met_le zs zs.length
  by_cases good : w0 = 0 ∧ zs.Nodup
  · obtain ⟨g1, g2⟩ := good
    have cm : c = m := by omega
    refine ⟨_, rfl, rfl, _, rfl, ?_⟩
    rw [show decide (V.int w0 = V.int 0) = true from decide_eq_true (by rw [g1])]
    refine iteT ?_
    refine ⟨_, rfl, F, zs, rfl, SqL.of hF3, by omega, _, rfl, rfl, _, rfl, ?_⟩
    rw [(met_len_nodup zs).mpr g2, zl, cm, show decide (V.int (m : Int) = V.int (m : Int)) = true from decide_eq_true rfl]
    refine iteT ?_
    exact ⟨_, rfl, q F zs H2 s3' hp3 nF hF3 (by omega) zo g2⟩
  have key : ∀ R : Bool → Hp → Prop, R false H2 → tAnd (tTest (tOp rEq (tVar 3) (tC (.int 0)))) (tTest (tOp rEq (tLenSetS K (tVar 4)) (tVar 1))) [some (.ref p), some (.int (m : Int)), some (.str abc), some (.int w0), some (.ref F), o5, o6, none, none, none, none, none, none] H2 R := by
    intro R hR
    refine ⟨_, rfl, rfl, _, rfl, ?_⟩
    by_cases g1 : w0 = 0
    · rw [show decide (V.int w0 = V.int 0) = true from decide_eq_true (by rw [g1])]
      refine iteT ?_
      refine ⟨_, rfl, F, zs, rfl, SqL.of hF3, by omega, _, rfl, rfl, _, rfl, ?_⟩
      have : ¬ (met zs zs.length).length = m := fun e => good ⟨g1, (met_len_nodup zs).mp (by omega)⟩
      rw [show decide (V.int ((met zs zs.length).length : Nat) = V.int (m : Int)) = false from decide_eq_false (fun z => this (by injection z with z; omega))]
      exact hR
    · rw [show decide (V.int w0 = V.int 0) = false from decide_eq_false (fun z => g1 (by injection z))]
      exact iteF hR
  refine key _ (iteF ?_)
  refine nextI (seqI (asgI ?_))
  refine join_w (k := 8) (jP := 0) (jL := 2) (jV := 5) (wi := iRng1 (tCons (tC (.int 8)) tNil)) (σ := [some (.ref p), some (.int (m : Int)), some (.str abc), some (.int w0), some (.ref F), o5, o6, none, none, none, none, none, none]) (by omega) (fun _ => rfl) (fun _ => rfl) (fun _ => rfl) (fun R hR => ⟨_, rfl, by decide, by decide, hR⟩) hp3 (fun st H5 s5 hp5 hst => ?_)
  have s05 := s3'.trans s5
  have sl := hst.len
  refine ⟨_, rfl, rfl, _, rfl, ?_⟩
  by_cases g1 : w0 = 1
  · rw [show decide (V.int w0 = V.int 1) = true from decide_eq_true (by rw [g1])]
    refine iteT ?_
    refine take_w (i := 0) rfl hp5 (by decide) (by decide) fun r6 H6 r60 r68 s6 hp6 => ?_
    obtain ⟨u, rfl⟩ : ∃ u : Nat, r6 = (u : Int) := ⟨r6.toNat, by omega⟩
    refine ⟨_, rfl, _, rfl, by omega, by omega, fun D hD => ?_⟩
    rw [Int.toNat_natCast]
    refine lc_seq walk_range hD (by omega) (fun i us _ => us = ((List.range i).map fun k => cutS st none (some ((1 + (u + k) % 8 : Nat) : Int))).map V.str) rfl (fun _ _ => trivial) (fun _ _ _ _ _ h => h) (fun Pv i x H7 H' us hi s7 y hR hl fin _ => ?_) (fun us H7 s7 hD7 hR hl => ?_)
    · obtain ⟨rfl, rfl⟩ := y
      refine ⟨rfl, _, rfl, _, rfl, _, rfl, _, _, rfl, rfl, _, _, rfl, rfl, (by show (0 : Int) < 8; decide), _, _, rfl, rfl, _, rfl, st, rfl, by omega, fin _ _ SB.refl ?_⟩
      rw [hR, List.range_succ, List.map_append, List.map_append]
      simp
    · subst hR
      have key2 : ∀ i, i < m → Ltr (cutS st none (some ((1 + (u + i) % 8 : Nat) : Int))) (1 + (u + i) % 8) := fun i hi => by
        have := hst.take (1 + (u + i) % 8)
        rw [Nat.min_eq_left (by omega)] at this
        exact this
      refine q D _ H7 ((s05.trans s6).trans (s7.nil)) (hp6.sb s7) ((s05.trans s6).dom D hD) hD7 (by simp) (fun k hk => ?_) (nodup_range fun i j hi hj hn e => ?_)
      · obtain ⟨i, hi, rfl⟩ := List.mem_map.mp hk
        exact (key2 i (List.mem_range.mp hi)).name (by omega) (by omega)
      · have e1 := (key2 i hi).1
        rw [e, (key2 j hj).1] at e1
        omega
  rw [show decide (V.int w0 = V.int 1) = false from decide_eq_false (fun z => g1 (by injection z))]
  refine iteF ?_
  refine take_w (i := 0) rfl hp5 (by decide) (by decide) fun r6 H6 r60 r68 s6 hp6 => ?_
  obtain ⟨sz, rfl⟩ : ∃ u : Nat, r6 = (u : Int) := ⟨r6.toNat, by omega⟩
  refine ⟨_, rfl, _, rfl, _, _, rfl, rfl, p, _, rfl, hp6, by omega, by omega, fun r7 H7 r70 r78 s7 hp7 => ?_⟩
  obtain ⟨at_, rfl⟩ : ∃ u : Nat, r7 = (u : Int) := ⟨r7.toNat, by omega⟩
  refine take_w (i := 0) rfl hp7 (by decide) (by decide) fun r8 H8 r80 r88 s8 hp8 => ?_
  obtain ⟨bg, rfl⟩ : ∃ u : Nat, r8 = (u : Int) := ⟨r8.toNat, by omega⟩
  refine take_w (i := 0) rfl hp8 (by decide) (by decide) fun r9 H9 r90 r98 s9 hp9 => ?_
  obtain ⟨t, rfl⟩ : ∃ u : Nat, r9 = (u : Int) := ⟨r9.toNat, by omega⟩
  refine ⟨_, _, rfl, rfl, .inl ⟨by decide, by decide⟩, _, _, rfl, rfl, ?_⟩
  refine ⟨_, rfl, _, rfl, by omega, by omega, fun D hD => ?_⟩
  rw [Int.toNat_natCast]
  have hat : at_ ≤ sz := by omega
  refine lc_seq walk_range hD (by omega) (fun i us _ => us = ((List.range i).map fun k => cutS st none (some (at_ : Int)) ++ ⟨#[97 + (bg + (1 + 2 * t) * k) % 26]⟩ ++ cutS st (some (at_ : Int)) (some (sz : Int))).map V.str) rfl (fun _ _ => trivial) (fun _ _ _ _ _ h => h) (fun Pv i x Hx H' us hi sx y hR hl fin _ => ?_) (fun us Hx sx hDx hR hl => ?_)
  · obtain ⟨rfl, rfl⟩ := y
    have la := (hst.take at_).len
    have lb := (hst.cut at_ sz).len
    have e1 : ((bg : Int) + (1 + 2 * (t : Int)) * (0 + (i : Int))) % 26 = (((bg + (1 + 2 * t) * i) % 26 : Nat) : Int) := by
      rw [Int.zero_add]; push_cast; rfl
    refine ⟨rfl, _, rfl, _, rfl, _, rfl, st, rfl, by omega, _, rfl, _, rfl, _, rfl, _, rfl, _, _, rfl, rfl, .inl ⟨by show (-(2 ^ 64) : Int) < 1 + 2 * (t : Int); omega, by show 1 + 2 * (t : Int) < 2 ^ 64; omega⟩, _, _, rfl, rfl, _, _, rfl, rfl, (by show (0 : Int) < 26; decide), abc, _, 97 + (bg + (1 + 2 * t) * i) % 26, rfl, rfl, abc_len, ?_, ?_⟩
    · show atI abc.cps.toList (((bg : Int) + (1 + 2 * (t : Int)) * (0 + (i : Int))) % 26) = _
      rw [e1]
      exact atI_natN (abc_code _ (by omega))
    refine ⟨_, _, rfl, rfl, by rw [la]; show _ + 1 ≤ _; omega, ?_⟩
    refine ⟨_, rfl, _, rfl, _, rfl, _, rfl, _, rfl, st, rfl, by omega, _, _, rfl, rfl, ?_, fin _ _ SB.refl ?_⟩
    · have : (cutS st none (some (at_ : Int)) ++ (⟨#[97 + (bg + (1 + 2 * t) * i) % 26]⟩ : Str)).length = min at_ 8 + 1 := ((hst.take at_).append (Ltr.one (c := 97 + (bg + (1 + 2 * t) * i) % 26) (by omega))).len
      rw [this, lb]; omega
    rw [hR, List.range_succ, List.map_append, List.map_append]
    rfl
  · subst hR
    have key2 : ∀ i, Ltr (cutS st none (some (at_ : Int)) ++ (⟨#[97 + (bg + (1 + 2 * t) * i) % 26]⟩ : Str) ++ cutS st (some (at_ : Int)) (some (sz : Int))) (min at_ 8 + 1 + (min sz 8 - min at_ 8)) := fun i => ((hst.take at_).append (Ltr.one (by omega))).append (hst.cut at_ sz)
    refine q D _ Hx (((((s05.trans s6).trans s7).trans s8).trans s9).trans sx.nil) (hp9.sb sx) ((((((s05.trans s6).trans s7).trans s8).trans s9)).dom D hD) hDx (by simp) (fun k hk => ?_) (nodup_range fun i j hi hj hn e => ?_)
    · obtain ⟨i, hi, rfl⟩ := List.mem_map.mp hk
      exact (key2 i).name (by omega) (by omega)
    · have e1 := (hst.take at_).mid (c := 97 + (bg + (1 + 2 * t) * i) % 26) (b := cutS st (some (at_ : Int)) (some (sz : Int)))
      rw [e, (hst.take at_).mid (c := 97 + (bg + (1 + 2 * t) * j) % 26)] at e1
      injection e1 with e1
      exact hn (turn_inj (b := bg) (t := t) (by omega) (by omega) (by omega) (by omega))
end
end FT
namespace FT
open PySem PySem.W PySem.Spec PyProof.Rows L2
section
variable {P : Program} {w : World} {K : PySem.W.Frag} {mg : Str → Option Value} {base : Heap} {f : Addr} {fd : FuncData}
abbrev N__law_heap : List Str := ["_law_some", "_law_inside", "_law_found", "_law_at", "_law_tree", "_law_many", "_law_pair"]
theorem sc__law_heap : FnScope N__law_heap ["_law_some", "_law_inside"] (defScope s__law_heap) := ⟨rfl, rfl, rfl, by decide +kernel, rfl, by decide +kernel, by decide +kernel⟩
theorem none__law_heap {ps : List Str} {k : Nat} : FnOk P w K mg base CX0 k f fd ps (spHeap K 0) := none_sp fun vs H Q E ⟨a, xs, rs, i, _, _, _, _, _, h1, h2, _⟩ => by omega
theorem ok__law_heap {n : Nat} (B : BI mg) (G__law_heap : Got P w K mg base "_law_heap" ["_law_some", "_law_inside"] (n) (spHeap K n)) (F : Fun K "_law_heap" "_law_heap" s__law_heap f fd) : FnOk P w K mg base CX0 (n + 1) f fd ["_law_some", "_law_inside"] (spHeap K (n + 1)) := by
  refine F.ok sc__law_heap (fun vs H Q E h => ?_) (fun cdv A outer s H vs Q E hr h => ?_)
  · obtain ⟨a, xs, rs, i, rfl, _⟩ := h
    rfl
  obtain ⟨a, xs, rs, i, rfl, hs, hb, hl, hr4, hi1, hi2, hn, q⟩ := h
  have hun2 : A.units + 3 + 200 < cLine := by have := hr.un; have h3 : (A.deeper (envOfC "_law_heap" (defScope s__law_heap) s.heap.objs.size f cdv)).units = A.units + 3 := rfl; omega
  refine ⟨_, pss_cons (ps_set (i := 2) sc__law_heap.nd rfl (.inl rfl) (pe_lst pa_nil))
    (pss_cons (ps_for PassesOwn.never rfl (pi_range1 rfl B.range (pa_cons (pe_callB call_len_seq rfl B.len PySem.boot_len (pa_cons (pv 0) pa_nil)) pa_nil)) (pg_name (i := 3) sc__law_heap.nd rfl (.inl rfl))
      (pss_one (ps_if (pt_cmpR op_eq (pe_ix ix_tup (pe_ix ix_list (pv 0) (pv 3) (fun _ _ => rfl)) pe_int (fun _ _ => rfl)) (pv 1) (nomark _)) (pss_cons (ps_set (i := 4) sc__law_heap.nd rfl (.inr rfl) (pe_tup (pa_cons (pe_ix ix_tup (pe_ix ix_list (pv 0) (pv 3) (fun _ _ => rfl)) pe_int (fun _ _ => rfl)) (pa_cons (pe_got G__law_heap (hr.mono (by omega)) rfl (pa_cons (pv 0) (pa_cons (pe_op op_add (pv 3) pe_int) pa_nil))) pa_nil))))
    (pss_cons (ps_set (i := 5) sc__law_heap.nd rfl (.inl rfl) (pe_op op_add (pe_ix ix_tup (pe_ix ix_list (pv 0) (pv 3) (fun _ _ => rfl)) pe_int (fun _ _ => rfl)) (pe_callB (cr_sum rfl) rfl B.sum boot_sum (pa_cons (pe_lc (own := [("_law_pair", 6)]) (g := (gName 6)) (tt := (tTest (tOp (rEqD K) (tOp (rIxT K) (tVar 6) (tC (.int 0))) (tVar 4)))) (te := (tOp (rIxT K) (tVar 6) (tC (.int 1)))) rfl sc__law_heap.nd (pi_list (pv 2)) (blkOk_by (N := N__law_heap) (sc := defScope s__law_heap) (by decide +kernel)) (fun _ _ _ _ _ => (pg_name (i := 6) sc__law_heap.nd rfl (.inl rfl))) (fun _ _ _ _ _ => (pts_one (pt_cmpR (op_eqD (by show A.units + 3 + 64 < cLine; omega)) (pe_ix ix_tup (pv 6) pe_int (fun _ _ => rfl)) (pv 4) (nomark _)))) (fun _ _ _ _ _ => (pe_ix ix_tup (pv 6) pe_int (fun _ _ => rfl)))) pa_nil))))
    (pss_one (ps_set (i := 2) sc__law_heap.nd rfl (.inl rfl) (pe_op op_cat (pe_lc (own := [("_law_pair", 6)]) (g := (gName 6)) (tt := (tTest (tOp (rNeD K) (tOp (rIxT K) (tVar 6) (tC (.int 0))) (tVar 4)))) (te := (tVar 6)) rfl sc__law_heap.nd (pi_list (pv 2)) (blkOk_by (N := N__law_heap) (sc := defScope s__law_heap) (by decide +kernel)) (fun _ _ _ _ _ => (pg_name (i := 6) sc__law_heap.nd rfl (.inl rfl))) (fun _ _ _ _ _ => (pts_one (pt_cmpR (op_neD (by show A.units + 3 + 64 < cLine; omega)) (pe_ix ix_tup (pv 6) pe_int (fun _ _ => rfl)) (pv 4) (nomark _)))) (fun _ _ _ _ _ => (pv 6))) (pe_lst (pa_cons (pe_tup (pa_cons (pv 4) (pa_cons (pe_callB (call_min2 rfl) rfl B.min boot_min (pa_cons (pe_op op_pow pe_int pe_int) (pa_cons (pv 5) pa_nil))) pa_nil))) pa_nil))))))) pss_nil)))
    (pss_one (ps_ret (pe_callTy call_tuple_of rfl B.tuple boot_tuple (pa_cons (pe_callB (cr_sortedB Gr.pEnc (by show A.units + 3 + 110 < cLine; omega)) rfl B.sorted (by decide +kernel) (pa_cons (pv 2) pa_nil)) pa_nil))))), ?_⟩
  have szl := sizeLine_eq
  have xl := hb.length
  refine ⟨(by show 0 ≤ sizeLine; decide), fun F0 hF0 => ?_⟩
  have t0 := SB.new (ps := []) hF0 (.lst [])
  refine ⟨_, rfl, a, xs, rfl, .inl (t0.sqL List.not_mem_nil hs), _, rfl, by omega, by omega, ?_⟩
  rw [Int.toNat_natCast, xl]
  refine for_it walk_range (fun j σ H2 => SB [] H H2 ∧ ∃ (F : Addr) (ys : List V) (bs : List (Tr × Int)) (o3 o4 o5 : Option V), σ = [some (.ref a), some (.int (i : Int)), some (.ref F), o3, o4, o5, none] ∧ H2 F = some (.lst ys) ∧ Bears K H2 Gr.pEnc ys bs ∧
      (bs.map (·.1)).Nodup ∧ (∀ p ∈ bs, NameOk p.1.1 ∧ p.1.2.Ok 1000000001 ∧ 1 ≤ p.2 ∧ p.2 < 1000000001 ∧ p.1.2.deep ≤ n ∧ p.1.1 ∈ rs.map (·.2.1) ∧ ∀ q ∈ p.1.2.within, q.1.1 ∈ rs.map (·.2.1)) ∧ Gr.tot bs ≤ cntTo (rs.map (·.1)) (cnt (rs.map (·.1)) n) i j ∧ bs.length ≤ j)
    ⟨t0, F0, [], [], none, none, none, rfl, upd_same, .nil, by simp, by simp, by simp [Gr.tot], by simp⟩ (fun _ _ _ _ _ => trivial) (fun j x σ H2 H' hj h2 y => ?_) (fun σ H2 h2 => ?_)
  · obtain ⟨s2, F, ys, bs, o3, o4, o5, rfl, hF, hbs, nd, ok, ht, hbl⟩ := h2
    obtain ⟨rfl, rfl⟩ := y
    have rj : rs[j]? = some rs[j] := List.getElem?_eq_getElem hj
    generalize rs[j] = r at rj
    obtain ⟨rw1, rn, rm1, rm2⟩ := hr4 j r rj
    have xj : xs[j]? = some xs[j] := List.getElem?_eq_getElem (by omega)
    generalize xs[j] = xr at xj
    obtain ⟨r', er, hxr⟩ := hb.get xj
    rw [rj] at er
    cases er
    cases (hxr : Dp K H xr (.tuple [.int (r.1 : Int), .str r.2.1, .int r.2.2])) with
    | tup hxs hxd =>
    rename_i xa zs
    cases hxd with
    | cons d1 hxd =>
    cases hxd with
    | cons d2 hxd =>
    cases hxd with
    | cons d3 hxd =>
    cases hxd
    cases d1
    cases d2
    cases d3
    have hs2 := s2.sqL List.not_mem_nil hs
    have hx2 := s2.sqT hxs
    have e0 : ((0 : Int) + (j : Int)) = (j : Int) := by omega
    simp only [e0]
    refine ⟨_, rfl, _, rfl, a, _, _, _, rfl, rfl, hs2, atI_nat (j := j) xj, xa, _, _, _, rfl, rfl, hx2, atI_nat (j := 0) rfl, _, rfl, rfl, _, rfl, ?_⟩
    have gd : (rs.map (·.1)).getD j 0 = r.1 := by rw [List.getD_eq_getElem?_getD, List.getElem?_map, rj]; rfl
    by_cases hw : r.1 = i
    · rw [show decide (V.int (r.1 : Int) = V.int (i : Int)) = true from decide_eq_true (by rw [hw])]
      refine iteT ?_
      refine ⟨_, rfl, _, rfl, a, _, _, _, rfl, rfl, hs2, atI_nat (j := j) xj, xa, _, _, _, rfl, rfl, hx2, atI_nat (j := 1) rfl, ?_⟩
      refine ⟨_, rfl, _, rfl, _, _, rfl, rfl, a, xs, rs, j + 2, rfl, hs2, hb.sb s2 noList_rwE, hl, hr4, by omega, by omega, by omega, fun gv g H3 s3 hg gok gp gd' gw => ?_⟩
      refine ⟨by show 2 ≤ sizeLine; decide, fun T hT => ?_⟩
      have t4 := SB.new (ps := []) hT (.tup [.str r.2.1, gv])
      have s4 := (s2.trans s3).trans t4
      have s24 := s3.trans t4
      have dT : Dp K (upd H3 T (.tup [.str r.2.1, gv])) (.ref T) (Gr.tEnc (r.2.1, g)) := .tup (.inl (.inl upd_same)) (.cons (.str _) (.cons (hg.sb t4) .nil))
      generalize upd H3 T (.tup [.str r.2.1, gv]) = H4 at t4 s4 s24 dT
      have shT : SeqAt.shaped (Gr.tEnc (r.2.1, g)) = true := Gr.shaped_tEnc rn gok (by show g.deep ≤ 20; omega)
      have hF4 := s24.keep _ _ hF List.not_mem_nil
      have hbs4 := hbs.sb s24 Gr.noList_pEnc
      have yl := hbs.length
      refine ⟨_, rfl, _, rfl, a, _, _, _, rfl, rfl, s4.sqL List.not_mem_nil hs, atI_nat (j := j) xj, xa, _, _, _, rfl, rfl, s4.sqT hxs, atI_nat (j := 2) rfl, ?_⟩
      refine ⟨_, rfl, F, rfl, ⟨_, SqL.of hF4⟩, fun D hD => ?_⟩
      refine lc_seq (walk_list (xs := ys)) hD (by omega) (fun i us _ => ∃ ns : List Int, us = ns.map V.int ∧ ∀ x ∈ ns, 0 ≤ x) ⟨[], rfl, by simp⟩ (fun H6 s6 => s6.sqL List.not_mem_nil (SqL.of hF4)) (fun _ _ _ _ _ h => h) (fun Pv k x H6 H' us hk s6 y hR hl6 fin fin2 => ?_) (fun us H6 s6 hD6 hR _ => ?_)
      · obtain ⟨rfl, ex⟩ := y
        obtain ⟨p, ep, hpd⟩ := hbs4.get ex
        obtain ⟨p1, p2, p3, p4, p5, _⟩ := ok p (List.mem_of_getElem? ep)
        obtain ⟨ad, td, ux, rfl, hs2, hs3, hga, hdt⟩ := PA_parts hpd
        obtain ⟨ns, rfl, nn⟩ := hR
        refine ⟨rfl, _, rfl, ad, _, _, _, rfl, rfl, s6.sqT hs2, atI_nat (j := 0) rfl, _, rfl, _, _, Dp_sb s6 _ _ (Gr.noList_tEnc _) hdt, Dp_sb s6 _ _ (Gr.noList_tEnc _) dT, Gr.shaped_tEnc p1 p2 (by omega), shT, _, rfl, ?_⟩
        refine ite2 (fun _ => ?_) (fun _ => fin2 _ SB.refl ⟨ns, rfl, nn⟩)
        refine ⟨_, rfl, ad, _, _, _, rfl, rfl, s6.sqT hs2, atI_nat (j := 1) rfl, fin _ _ SB.refl ⟨ns ++ [p.2], by rw [List.map_append]; rfl, fun x hx => ?_⟩⟩
        rcases List.mem_append.mp hx with hx | hx
        · exact nn x hx
        · rw [List.mem_singleton.mp hx]; omega
      obtain ⟨ns, rfl, nn⟩ := hR
      have hsum : 0 ≤ ns.sum := sum_from0 nn
      refine ⟨D, ns, rfl, SqL.of hD6, _, _, rfl, rfl, ?_⟩
      generalize ns.sum = sm at hsum
      clear hD6 nn
      have hF6 := s6.keep _ _ hF4 List.not_mem_nil
      have hbs6 := hbs4.sb s6 Gr.noList_pEnc
      have dT6 := Dp_sb s6 _ _ (Gr.noList_tEnc _) dT
      refine ⟨_, rfl, F, rfl, ⟨_, SqL.of hF6⟩, fun D2 hD2 => ?_⟩
      refine lc_seq (walk_list (xs := ys)) hD2 (by omega) (fun i us H7 => Bears K H7 Gr.pEnc us ((bs.take i).filter fun p => decide (p.1 ≠ (r.2.1, g)))) .nil (fun H7 s7 => s7.sqL List.not_mem_nil (SqL.of hF6)) (fun _ _ _ _ e h => h.sb e Gr.noList_pEnc) (fun Pv k x H7 H' us hk s7 y hR hl7 fin fin2 => ?_) (fun us H7 s7 hD7 hR hl7 => ?_)
      · obtain ⟨rfl, ex⟩ := y
        obtain ⟨p, ep, hpd⟩ := hbs6.get ex
        obtain ⟨p1, p2, p3, p4, p5, _⟩ := ok p (List.mem_of_getElem? ep)
        obtain ⟨ad, td, ux, rfl, hs2, hs3, hga, hdt⟩ := PA_parts hpd
        refine ⟨rfl, _, rfl, ad, _, _, _, rfl, rfl, s7.sqT hs2, atI_nat (j := 0) rfl, _, rfl, _, _, Dp_sb s7 _ _ (Gr.noList_tEnc _) hdt, Dp_sb s7 _ _ (Gr.noList_tEnc _) dT6, Gr.shaped_tEnc p1 p2 (by omega), shT, _, rfl, ?_⟩
        rw [Orderly.eq (enc := Gr.tEnc) p.1 (r.2.1, g)]
        by_cases e : p.1 = (r.2.1, g)
        · rw [decide_eq_true e]
          refine iteF (fin2 _ SB.refl ?_)
          rw [List.take_add_one, ep, Option.toList_some, List.filter_append, List.filter_cons_of_neg (by simpa using e), List.filter_nil, List.append_nil]
          exact hR
        · rw [decide_eq_false e]
          refine iteT ⟨_, rfl, fin _ _ SB.refl ?_⟩
          rw [List.take_add_one, ep, Option.toList_some, List.filter_append, List.filter_cons_of_pos (by simpa using e), List.filter_nil]
          exact Bears.append hR (.cons (Dp_sb s7 _ _ (Gr.noList_pEnc _) hpd) .nil)
      rw [yl, List.take_length] at hR
      refine ⟨_, rfl, _, _, rfl, rfl, ⟨by decide, by decide, by decide⟩, _, rfl, _, _, rfl, ?_⟩
      obtain ⟨mn, hmn, mn1, mn2⟩ : ∃ mn : Int, (if r.2.2 + sm < (10 : Int) ^ (9 : Int).toNat then r.2.2 + sm else (10 : Int) ^ (9 : Int).toNat) = mn ∧ 1 ≤ mn ∧ mn < 1000000001 := by
        have e9 : (10 : Int) ^ (9 : Int).toNat = 1000000000 := by decide
        rw [e9]
        split
        · exact ⟨_, rfl, by omega, by omega⟩
        · exact ⟨_, rfl, by omega, by omega⟩
      simp only [hmn]
      refine ⟨by show 2 ≤ sizeLine; decide, fun P1 hP1 => ?_⟩
      have t8 := SB.new (ps := []) hP1 (.tup [.ref T, .int mn])
      have dP : Dp K (upd H7 P1 (.tup [.ref T, .int mn])) (.ref P1) (Gr.pEnc ((r.2.1, g), mn)) := .tup (.inl (.inl upd_same)) (.cons (Dp_sb (s7.trans t8) _ _ (Gr.noList_tEnc _) dT6) (.cons (.int _) .nil))
      generalize upd H7 P1 (.tup [.ref T, .int mn]) = H8 at t8 dP
      refine ⟨by show 1 ≤ sizeLine; decide, fun L1 hL1 => ?_⟩
      have t9 := SB.new (ps := []) hL1 (.lst [.ref P1])
      have ul := hR.length
      have fl : (bs.filter fun p => decide (p.1 ≠ (r.2.1, g))).length ≤ bs.length := List.length_filter_le ..
      refine ⟨D2, L1, us, _, rfl, rfl, t9.keep _ _ (t8.keep _ _ hD7 List.not_mem_nil) List.not_mem_nil, upd_same, by show us.length + 1 ≤ sizeLine; omega, fun F2 hF2 => ?_⟩
      have t10 := SB.new (ps := []) hF2 (.lst (us ++ [.ref P1]))
      have s810 := (t8.trans t9).trans t10
      refine ⟨((s4.trans s6).trans s7).trans s810, F2, _, _, _, _, _, rfl, upd_same, Bears.append (hR.sb s810 Gr.noList_pEnc) (.cons (Dp_sb (t9.trans t10) _ _ (Gr.noList_pEnc _) dP) .nil), ?_, ?_, ?_, ?_⟩
      · rw [List.map_append, List.nodup_append]
        refine ⟨(List.Sublist.map _ List.filter_sublist).nodup nd, by simp, fun x hx y hy e => ?_⟩
        obtain ⟨p, hp, rfl⟩ := List.mem_map.mp hx
        have h1 := (List.mem_filter.mp hp).2
        have h2 : y = (r.2.1, g) := by simpa using hy
        rw [h2] at e
        exact of_decide_eq_true h1 e
      · intro p hp
        rcases List.mem_append.mp hp with hp | hp
        · exact ok p (List.mem_filter.mp hp).1
        · rw [List.mem_singleton.mp hp]
          exact ⟨rn, gok, mn1, mn2, gd', List.mem_map.mpr ⟨r, List.mem_of_getElem? rj, rfl⟩, gw⟩
      · rw [Gr.tot_append, cntTo_succ, gd, if_pos hw]
        have := tot_filter (fun p => decide (p.1 ≠ (r.2.1, g))) bs
        have e1 : Gr.tot [((r.2.1, g), mn)] = 1 + g.parts := by simp [Gr.tot]
        omega
      · rw [List.length_append, List.length_singleton]; omega
    · rw [show decide (V.int (r.1 : Int) = V.int (i : Int)) = false from decide_eq_false (fun z => hw (by injection z with z; omega))]
      refine iteF ⟨s2, F, ys, bs, _, o4, o5, rfl, hF, hbs, nd, ok, ?_, by omega⟩
      rw [cntTo_succ]; omega
  · obtain ⟨s2, F, ys, bs, o3, o4, o5, rfl, hF, hbs, nd, ok, ht, hbl⟩ := h2
    refine ⟨_, rfl, F, ys, bs, rfl, .inl (SqL.of hF), hbs, Gr.pEnc_all _, Gr.pEnc_sortable _, by omega, fun p hp => ?_, fun D zs hD hz => ?_⟩
    · have := Gr.pEnc_depth p
      have := (ok p hp).2.2.2.2.1
      omega
    have t3 := SB.new (ps := []) hD (.lst zs)
    refine ⟨D, zs, rfl, .inl ⟨SqL.of upd_same, fun T hT => ?_⟩⟩
    have t4 := SB.new (ps := []) hT (.tup zs)
    have hz4 : Bears K _ Gr.pEnc zs (srtE Gr.pEnc bs) := (hz.sb t3 Gr.noList_pEnc).sb t4 Gr.noList_pEnc
    have g4 := Bears_ga (.inl (.inl upd_same)) hz4
    refine q _ _ _ ((s2.trans t3).trans t4) g4 (srt_ok nd fun p hp => ?_) ?_ ?_ ?_
    · obtain ⟨a1, a2, a3, a4, _⟩ := ok p hp
      exact ⟨a1, a2, a3, a4⟩
    · rw [Gr.parts_ofPs, Gr.tot_perm (srtE_perm bs)]
      rw [show (rs.length) = (rs.map (·.1)).length by simp] at ht
      exact ht
    · refine Gr.deep_le fun p hp => ?_
      rw [Gr.ps_ofPs] at hp
      have := (ok p ((srtE_perm bs).mem_iff.mp hp)).2.2.2.2.1
      omega
    · intro p hp
      rw [Gr.within_ps, Gr.ps_ofPs] at hp
      obtain ⟨p', hp', hp⟩ := List.mem_flatMap.mp hp
      obtain ⟨_, _, _, _, _, k1, k2⟩ := ok p' ((srtE_perm bs).mem_iff.mp hp')
      rcases List.mem_cons.mp hp with hp | hp
      · rw [hp]; exact k1
      · exact k2 p hp
end
end FT
namespace FT
open PySem PySem.W PySem.Spec PyProof.Rows L2
section
variable {P : Program} {w : World} {K : PySem.W.Frag} {mg : Str → Option Value} {base : Heap} {f : Addr} {fd : FuncData}
abbrev N__law_way : List Str := ["_law_purse_here", "_law_pool", "_law_some", "_law_k", "_law_where", "_law_kind", "_law_way_here", "_law_many"]
theorem sc__law_way : FnScope N__law_way ["_law_purse_here", "_law_pool"] (defScope s__law_way) := ⟨rfl, rfl, rfl, by decide +kernel, rfl, by decide +kernel, by decide +kernel⟩
theorem ok__law_way (B : BI mg) (G__law_take : Got P w K mg base "_law_take" ["_law_purse_here", "_law_many"] (1) (spTakeW)) (G__law_heap : Got P w K mg base "_law_heap" ["_law_some", "_law_inside"] (6) (spHeap K 6)) (F : Fun K "_law_way" "_law_way" s__law_way f fd) : FnOk P w K mg base CX0 (7) f fd ["_law_purse_here", "_law_pool"] (spWay K) := by
  refine F.ok sc__law_way (fun vs H Q E h => ?_) (fun cdv A outer s H vs Q E hr h => ?_)
  · obtain ⟨p, l, ks, rfl, _⟩ := h
    rfl
  obtain ⟨p, l, ks, rfl, hp, hs, lp, k8, kn, q⟩ := h
  have hun2 : A.units + 3 + 200 < cLine := by have := hr.un; have h3 : (A.deeper (envOfC "_law_way" (defScope s__law_way) s.heap.objs.size f cdv)).units = A.units + 3 := rfl; omega
  refine ⟨_, pss_cons (ps_set (i := 2) sc__law_way.nd rfl (.inl rfl) (pe_lst pa_nil))
    (pss_cons (ps_for PassesOwn.never rfl (pi_range1 rfl B.range (pa_cons (pe_op op_mul (pe_got G__law_take (hr.mono (by omega)) rfl (pa_cons (pv 0) (pa_cons pe_int pa_nil))) (pe_callTy call_int1 rfl B.int boot_int (pa_cons (pe_cmpR (op_neD (by show A.units + 3 + 64 < cLine; omega)) (pv 1) (pe_lst pa_nil) (nomark _)) pa_nil))) pa_nil)) (pg_name (i := 3) sc__law_way.nd rfl (.inl rfl))
      (pss_cons (ps_set (i := 4) sc__law_way.nd rfl (.inl rfl) (pe_got G__law_take (hr.mono (by omega)) rfl (pa_cons (pv 0) (pa_cons (pe_op op_add pe_int (pv 3)) pa_nil))))
    (pss_cons (ps_set (i := 5) sc__law_way.nd rfl (.inl rfl) (pe_ix ix_list (pv 1) (pe_got G__law_take (hr.mono (by omega)) rfl (pa_cons (pv 0) (pa_cons (pe_callB call_len_seq rfl B.len PySem.boot_len (pa_cons (pv 1) pa_nil)) pa_nil))) (fun _ _ => rfl)))
    (pss_cons (ps_set (i := 6) sc__law_way.nd rfl (.inl rfl) (pe_got G__law_take (hr.mono (by omega)) rfl (pa_cons (pv 0) (pa_cons pe_int pa_nil))))
    (pss_cons (ps_set (i := 7) sc__law_way.nd rfl (.inl rfl) pe_int)
    (pss_cons (ps_if (pt_cmpR op_gt (pv 6) pe_int (nomark _)) (pss_one (ps_set (i := 7) sc__law_way.nd rfl (.inl rfl) (pe_op op_add pe_int (pe_got G__law_take (hr.mono (by omega)) rfl (pa_cons (pv 0) (pa_cons (pe_ix ix_list (pe_lst (pa_cons pe_int (pa_cons (pe_op op_pow pe_int pe_int) pa_nil))) (pe_op op_sub (pv 6) pe_int) (fun _ _ => rfl)) pa_nil)))))) pss_nil)
    (pss_one (ps_expr (pe_bm PySem.F.plainAttrs_list PySem.F.slot_list_append PySem.F.type_list_append mt_append (pv 2) (pa_cons (pe_tup (pa_cons (pv 4) (pa_cons (pv 5) (pa_cons (pv 7) pa_nil)))) pa_nil))))))))))
    (pss_one (ps_ret (pe_tup (pa_cons (pe_got G__law_heap (hr.mono (by omega)) rfl (pa_cons (pv 2) (pa_cons pe_int pa_nil))) (pa_cons (pe_got G__law_heap (hr.mono (by omega)) rfl (pa_cons (pv 2) (pa_cons pe_int pa_nil))) pa_nil)))))), ?_⟩
  have szl := sizeLine_eq
  refine ⟨(by show 0 ≤ sizeLine; decide), fun F hF => ?_⟩
  have t0 := SB.new (ps := [p]) hF (.lst [])
  have pF : p ≠ F := hp.ne hF
  have hp0 := hp.new hF (o := .lst [])
  have hs0 := t0.sqL (K := K) (by simpa using lp) (SqL.of hs)
  refine take_w (i := 0) rfl hp0 (by decide) (by decide) fun r1 H1 r10 r15 s1 hp1 => ?_
  have hs1 := s1.sqL (by simpa using lp) hs0
  have s01 : SB [p] H H1 := t0.trans s1
  refine ⟨_, rfl, (by show 0 ≤ sizeLine; decide), fun e0 he0 => ?_⟩
  have t2 := SB.new (ps := []) he0 (.lst [])
  refine ⟨_, _, .lst (t2.sqL List.not_mem_nil hs1) (Dp_strs ks), .lst (SqL.of upd_same) .nil, names_shaped kn, by decide +kernel, .inr ⟨_, rfl, _, _, rfl, rfl, .inl ⟨by omega, by omega⟩, ?_⟩⟩
  rw [eqv_nil]
  have s02 := s01.trans (t2.nil (ps := [p]))
  have hp2 := hp1.sb t2
  have hs2 := t2.sqL List.not_mem_nil hs1
  have hF2 : upd H1 e0 (.lst []) F = some (.lst []) := t2.keep _ _ (s1.keep _ _ upd_same (by simpa using fun z : F = p => pF z.symm)) List.not_mem_nil
  generalize upd H1 e0 (.lst []) = H2 at t2 s02 hp2 hs2 hF2
  obtain ⟨c, hc, hc4, hck⟩ : ∃ c : Nat, r1 * (if (!decide (ks = [])) = true then (1 : Int) else 0) = (c : Int) ∧ c ≤ 4 ∧ (1 ≤ c → ks ≠ []) := by
    by_cases h : ks = []
    · exact ⟨0, by simp [h], by omega, by omega⟩
    · exact ⟨r1.toNat, by simp [h]; omega, by omega, fun _ => h⟩
  refine ⟨_, rfl, by rw [hc]; omega, by rw [hc]; omega, ?_⟩
  rw [hc, Int.toNat_natCast]
  have lF : l ≠ F := ne_of_none hs hF
  refine for_it walk_range (fun i σ H3 => SB [p, F] H2 H3 ∧ PuW H3 p ∧ ∃ (ys : List V) (rs : List (Nat × Str × Int)) (o3 o4 o5 o6 o7 : Option V), σ = [some (.ref p), some (.ref l), some (.ref F), o3, o4, o5, o6, o7] ∧ H3 F = some (.lst ys) ∧ Bears K H3 rwE ys rs ∧ rs.length = i ∧ ∀ k r, rs[k]? = some r → RowOk k r ∧ r.2.1 ∈ ks)
    ⟨SB.refl, hp2, [], [], none, none, none, none, none, rfl, hF2, .nil, rfl, fun k r h => by simp at h⟩ (fun _ _ _ _ _ => trivial) (fun i x σ H3 H' hi h2 y => ?_) (fun σ H3 h3 => ?_)
  · obtain ⟨s3, hp3, ys, rs, o3, o4, o5, o6, o7, rfl, hF3, hb3, rl, ro⟩ := h2
    obtain ⟨rfl, rfl⟩ := y
    have kne := hck (by omega)
    have kpos : 0 < ks.length := List.length_pos_iff.mpr kne
    have e0' : ((0 : Int) + (i : Int)) = (i : Int) := by omega
    simp only [e0']
    refine ⟨_, rfl, _, rfl, _, _, rfl, rfl, p, _, rfl, hp3, by omega, by omega, fun r4 H4 r40 r4m s4 hp4 => ?_⟩
    obtain ⟨wh, rfl⟩ : ∃ u : Nat, r4 = (u : Int) := ⟨r4.toNat, by omega⟩
    have hs3 := s3.sqL (by simp [lp, lF]) hs2
    have hs4 := s4.sqL (by simpa using lp) hs3
    refine ⟨_, rfl, _, rfl, _, rfl, l, _, rfl, .inl hs4, p, _, rfl, hp4, by rw [List.length_map]; omega, by rw [List.length_map]; omega, fun r5 H5 r50 r5m s5 hp5 => ?_⟩
    obtain ⟨kk, rfl⟩ : ∃ u : Nat, r5 = (u : Int) := ⟨r5.toNat, by omega⟩
    rw [List.length_map] at r5m
    have hk1 : kk < ks.length := by omega
    have hs5 := s5.sqL (by simpa using lp) hs4
    refine ⟨l, _, _, _, rfl, rfl, hs5, atI_nat (j := kk) (v := .str ks[kk]) (by rw [List.getElem?_map, List.getElem?_eq_getElem hk1]; rfl), ?_⟩
    refine take_w (i := 0) rfl hp5 (by decide) (by decide) fun r6 H6 r60 r63 s6 hp6 => ?_
    refine ⟨_, rfl, _, _, rfl, rfl, _, rfl, ?_⟩
    have s36 := (s4.trans s5).trans s6
    have s26 := s3.trans (s36.mono (qs := [p, F]) (by simp))
    have hF6 := s36.keep _ _ hF3 (by simpa using fun z : F = p => pF z.symm)
    have hb6 := hb3.sb s36 noList_rwE
    have yl := hb3.length
    have fin : ∀ (D : Ends) (mn : Int) (H7 : Hp), 1 ≤ mn → mn ≤ 1000000000 → SB [p] H6 H7 → PuW H7 p →
        (∀ (σ : L2.St) (H8 : Hp), (SB [p, F] H2 H8 ∧ PuW H8 p ∧ ∃ (ys : List V) (rs : List (Nat × Str × Int)) (o3 o4 o5 o6 o7 : Option V), σ = [some (.ref p), some (.ref l), some (.ref F), o3, o4, o5, o6, o7] ∧ H8 F = some (.lst ys) ∧ Bears K H8 rwE ys rs ∧ rs.length = i + 1 ∧ ∀ k r, rs[k]? = some r → RowOk k r ∧ r.2.1 ∈ ks) → D.nx σ H8) →
        tDrop (tBM K "list" rAppend (tVar 2) (tCons (tTup (tCons (tVar 4) (tCons (tVar 5) (tCons (tVar 7) tNil)))) tNil)) D [some (.ref p), some (.ref l), some (.ref F), some (.int (i : Int)), some (.int (wh : Int)), some (.str ks[kk]), some (.int r6), some (.int mn)] H7 := by
      intro D mn H7 m1 m2 s7 hp7 hD
      have hF7 := s7.keep _ _ hF6 (by simpa using fun z : F = p => pF z.symm)
      refine ⟨_, rfl, .inl ⟨rfl, _, SqL.of hF7⟩, _, rfl, _, rfl, _, rfl, by show 3 ≤ sizeLine; decide, fun T hT => ?_⟩
      have t8 := SB.new (ps := []) hT (.tup [.int (wh : Int), .str ks[kk], .int mn])
      have hF8 := t8.keep _ _ hF7 List.not_mem_nil
      have dT : Dp K (upd H7 T (.tup [.int (wh : Int), .str ks[kk], .int mn])) (.ref T) (rwE (wh, ks[kk], mn)) := .tup (.inl (.inl upd_same)) (.cons (.int _) (.cons (.str _) (.cons (.int _) .nil)))
      have hb8 := (hb6.sb s7 noList_rwE).sb t8 noList_rwE
      have hp8 := hp7.sb t8
      generalize upd H7 T (.tup [.int (wh : Int), .str ks[kk], .int mn]) = H8 at t8 hF8 dT hb8 hp8
      refine ⟨F, _, _, rfl, rfl, hF8, by omega, hD _ _ ?_⟩
      have t9 := SB.set (ps := [F]) hF8 (by simp) (.lst (ys ++ [.ref T]))
      refine ⟨((s26.trans (s7.mono (by simp))).trans t8.nil).trans (t9.mono (by simp)), hp8.keep t9 (by simpa using pF), _, rs ++ [(wh, ks[kk], mn)], _, _, _, _, _, rfl, upd_same, Bears.append (hb8.sb t9 noList_rwE) (.cons (Dp_sb t9 _ _ (noList_rwE _) dT) .nil), by simp [rl], fun k r hk => ?_⟩
      by_cases hkl : k < rs.length
      · rw [List.getElem?_append_left hkl] at hk
        exact ro k r hk
      · have hk2 := (List.getElem?_eq_some_iff.mp hk).1
        rw [List.length_append, List.length_singleton] at hk2
        have hk3 : k = rs.length := by omega
        subst hk3
        rw [List.getElem?_append_right (Nat.le_refl _), Nat.sub_self] at hk
        cases hk
        exact ⟨⟨by show wh < 2 + rs.length; omega, kn _ (List.getElem_mem hk1), m1, m2⟩, List.getElem_mem hk1⟩
    refine ite2 (fun c6 => ?_) (fun c6 => ?_)
    · have c6 := of_decide_eq_true c6
      have e9 : (10 : Int) ^ (9 : Int).toNat = 1000000000 := by decide
      refine ⟨_, rfl, _, _, rfl, rfl, ⟨by decide, by decide, by decide⟩, by show 2 ≤ sizeLine; decide, fun L hL => ?_⟩
      have t7 := SB.new (ps := []) hL (.lst [.int 9, .int ((10 : Int) ^ (9 : Int).toNat)])
      refine ⟨_, rfl, _, _, rfl, rfl, L, _, _, if r6 = 1 then .int 9 else .int 1000000000, rfl, rfl, SqL.of upd_same, ?_, p, if r6 = 1 then 9 else 1000000000, ?_, hp6.sb t7, ?_, ?_, fun r8 H8 r80 r8m s8 hp8 => ?_⟩
      · by_cases h1 : r6 = 1
        · rw [if_pos h1, h1]; exact atI_nat (j := 0) rfl
        · rw [if_neg h1, show r6 - 1 = ((1 : Nat) : Int) by omega]; exact atI_nat (j := 1) rfl
      · by_cases h1 : r6 = 1
        · rw [if_pos h1, if_pos h1]; rfl
        · rw [if_neg h1, if_neg h1]; rfl
      · split <;> omega
      · split <;> omega
      refine ⟨_, _, rfl, rfl, fin _ (1 + r8) H8 (by omega) ?_ ((t7.nil (ps := [p])).trans s8) hp8 (fun σ H9 h => h)⟩
      split at r8m <;> omega
    · exact fin _ 1 H6 (by omega) (by omega) SB.refl hp6 (fun σ H9 h => h)
  · obtain ⟨s3, hp3, ys, rs, o3, o4, o5, o6, o7, rfl, hF3, hb3, rl, ro⟩ := h3
    have s03 : SB [p] H H3 := (s02.mono (qs := [p, F]) (by simp)).trans s3 |>.drop2 hF
    have hrs : ∀ k r, rs[k]? = some r → RowOk k r := fun k r h => (ro k r h).1
    have hin : ∀ z, z ∈ rs.map (·.2.1) → z ∈ ks := fun z hz => by
      obtain ⟨r, hr, rfl⟩ := List.mem_map.mp hz
      obtain ⟨k, hk, e⟩ := List.getElem_of_mem hr
      exact (ro k r (by rw [List.getElem?_eq_getElem hk, e])).2
    refine ⟨_, rfl, F, ys, rs, 0, rfl, SqL.of hF3, hb3, by omega, hrs, by omega, by omega, by omega, fun v1 g1 H4 s4 hg1 ok1 pt1 dp1 in1 => ?_⟩
    refine ⟨_, rfl, F, ys, rs, 1, rfl, s4.sqL List.not_mem_nil (SqL.of hF3), hb3.sb s4 noList_rwE, by omega, hrs, by omega, by omega, by omega, fun v2 g2 H5 s5 hg2 ok2 pt2 dp2 in2 => ?_⟩
    refine ⟨by show 2 ≤ sizeLine; decide, fun T hT => ?_⟩
    have t6 := SB.new (ps := []) hT (.tup [v1, v2])
    have hc := cnt_all (ws := rs.map (·.1)) (by rw [List.length_map]; omega) (fun k w hk => by
      rw [List.getElem?_map] at hk
      cases e : rs[k]? with
      | none => rw [e] at hk; cases hk
      | some r => rw [e] at hk; cases hk; exact (hrs k r e).1)
    refine q _ (g1, g2) _ (s03.trans ((s4.trans s5).trans t6).nil) (hp3.sb ((s4.trans s5).trans t6)) (.tup (.inl (.inl upd_same)) (.cons ((hg1.sb s5).sb t6) (.cons (hg2.sb t6) .nil))) ⟨ok1, ok2, by show g1.parts + g2.parts ≤ 4; omega⟩ (fun x hx => ?_)
    rcases List.mem_append.mp hx with hx | hx
    · exact hin _ (in1 x hx)
    · exact hin _ (in2 x hx)
end
end FT
namespace FT
open PySem PySem.W PySem.Spec PyProof.Rows L2
section
variable {P : Program} {w : World} {K : PySem.W.Frag} {mg : Str → Option Value} {base : Heap} {f : Addr} {fd : FuncData}
abbrev N__law_kinds : List Str := ["_law_script", "_law_head", "_law_many", "_law_called", "_law_ranked", "_law_left", "_law_order", "_law_k", "_law_kinds_here", "_law_name", "_law_purse_here", "_law_pool", "_law_wide", "_law_j"]
theorem sc__law_kinds : FnScope N__law_kinds ["_law_script"] (defScope s__law_kinds) := ⟨rfl, rfl, rfl, by decide +kernel, rfl, by decide +kernel, by decide +kernel⟩
theorem ok__law_kinds (B : BI mg) (G__law_purse : Got P w K mg base "_law_purse" ["_law_script", "_law_k"] (2) (spPurseW K)) (G__law_take : Got P w K mg base "_law_take" ["_law_purse_here", "_law_many"] (1) (spTakeW)) (G__law_words : Got P w K mg base "_law_words" ["_law_purse_here", "_law_many"] (2) (spWords K)) (G__law_way : Got P w K mg base "_law_way" ["_law_purse_here", "_law_pool"] (7) (spWay K)) (F : Fun K "_law_kinds" "_law_kinds" s__law_kinds f fd) : FnOk P w K mg base CX0 (8) f fd ["_law_script"] (spKinds K) := by
  refine F.ok sc__law_kinds (fun vs H Q E h => ?_) (fun cdv A outer s H vs Q E hr h => ?_)
  · obtain ⟨a, ns, rfl, _⟩ := h
    rfl
  obtain ⟨a, ns, rfl, hs, nl, q⟩ := h
  have hun2 : A.units + 3 + 200 < cLine := by have := hr.un; have h3 : (A.deeper (envOfC "_law_kinds" (defScope s__law_kinds) s.heap.objs.size f cdv)).units = A.units + 3 := rfl; omega
  refine ⟨_, pss_cons (ps_set (i := 1) sc__law_kinds.nd rfl (.inl rfl) (pe_got G__law_purse (hr.mono (by omega)) rfl (pa_cons (pv 0) (pa_cons pe_int pa_nil))))
    (pss_cons (ps_set (i := 2) sc__law_kinds.nd rfl (.inl rfl) (pe_op op_add pe_int (pe_got G__law_take (hr.mono (by omega)) rfl (pa_cons (pv 1) (pa_cons pe_int pa_nil)))))
    (pss_cons (ps_set (i := 3) sc__law_kinds.nd rfl (.inl rfl) (pe_got G__law_words (hr.mono (by omega)) rfl (pa_cons (pe_got G__law_purse (hr.mono (by omega)) rfl (pa_cons (pv 0) (pa_cons pe_int pa_nil))) (pa_cons (pv 2) pa_nil))))
    (pss_cons (ps_set (i := 4) sc__law_kinds.nd rfl (.inl rfl) (pe_cmpR op_gt (pe_got G__law_take (hr.mono (by omega)) rfl (pa_cons (pv 1) (pa_cons pe_int pa_nil))) pe_int (nomark _)))
    (pss_cons (ps_set (i := 5) sc__law_kinds.nd rfl (.inl rfl) (pe_callTy call_list_of rfl B.list boot_list (pa_cons (pv 3) pa_nil)))
    (pss_cons (ps_set (i := 6) sc__law_kinds.nd rfl (.inl rfl) (pe_lst pa_nil))
    (pss_cons (ps_for PassesOwn.never rfl (pi_range1 rfl B.range (pa_cons (pv 2) pa_nil)) (pg_name (i := 7) sc__law_kinds.nd rfl (.inl rfl))
      (pss_one (ps_expr (pe_bm PySem.F.plainAttrs_list PySem.F.slot_list_append PySem.F.type_list_append mt_append (pv 6) (pa_cons (pe_bm PySem.F.plainAttrs_list PySem.F.slot_list_pop PySem.F.type_list_pop mt_popAt (pv 5) (pa_cons (pe_got G__law_take (hr.mono (by omega)) rfl (pa_cons (pv 1) (pa_cons (pe_callB call_len_seq rfl B.len PySem.boot_len (pa_cons (pv 5) pa_nil)) pa_nil))) pa_nil)) pa_nil)))))
    (pss_cons (ps_set (i := 8) sc__law_kinds.nd rfl (.inl rfl) (pe_lst pa_nil))
    (pss_cons (ps_for PassesOwn.never rfl (pi_enum rfl B.enumerate (pa_cons (pv 3) pa_nil)) (pg_tup rfl (pgs_cons (pg_name (i := 7) sc__law_kinds.nd rfl (.inl rfl)) (pgs_cons (pg_name (i := 9) sc__law_kinds.nd rfl (.inl rfl)) pgs_nil)))
      (pss_cons (ps_set (i := 10) sc__law_kinds.nd rfl (.inr rfl) (pe_got G__law_purse (hr.mono (by omega)) rfl (pa_cons (pv 0) (pa_cons (pe_op op_add pe_int (pv 7)) pa_nil))))
    (pss_cons (ps_set (i := 11) sc__law_kinds.nd rfl (.inr rfl) (pe_callTy call_list_of rfl B.list boot_list (pa_cons (pv 3) pa_nil)))
    (pss_cons (ps_if (pt_val (pv 4)) (pss_one (ps_set (i := 11) sc__law_kinds.nd rfl (.inr rfl) (pe_slice sl_list (pv 6) (po_some (pe_op op_add (pe_bm PySem.F.plainAttrs_list PySem.F.slot_list_index PySem.F.type_list_index mt_index (pv 6) (pa_cons (pv 9) pa_nil)) pe_int)) po_none))) pss_nil)
    (pss_cons (ps_set (i := 12) sc__law_kinds.nd rfl (.inl rfl) (pe_cmpR op_eq (pe_got G__law_take (hr.mono (by omega)) rfl (pa_cons (pv 10) (pa_cons pe_int pa_nil))) pe_int (nomark _)))
    (pss_one (ps_expr (pe_bm PySem.F.plainAttrs_list PySem.F.slot_list_append PySem.F.type_list_append mt_append (pv 8) (pa_cons (pe_tup (pa_cons (pv 9) (pa_cons (pv 12) (pa_cons (pe_lc (own := [("_law_j", 13)]) (g := (gName 13)) (tt := tYes) (te := (tCall (spWay K) [] E0 (tCons (tVar 10) (tCons (tVar 11) tNil)))) rfl sc__law_kinds.nd (pi_range1 rfl B.range (pa_cons (pe_got G__law_take (hr.mono (by omega)) rfl (pa_cons (pv 10) (pa_cons pe_int pa_nil))) pa_nil)) (blkOk_by (N := N__law_kinds) (sc := defScope s__law_kinds) (by decide +kernel)) (fun _ _ _ _ _ => (pg_name (i := 13) sc__law_kinds.nd rfl (.inl rfl))) (fun _ _ _ _ _ => pts_nil) (fun _ _ _ _ _ => (pe_got G__law_way (hr.mono (by omega)) rfl (pa_cons (pv 10) (pa_cons (pv 11) pa_nil))))) pa_nil)))) pa_nil)))))))))
    (pss_one (ps_ret (pv 8))))))))))), ?_⟩
  have szl := sizeLine_eq
  refine ⟨_, rfl, a, ns, 0, rfl, hs, nl, by omega, fun hd H1 s1 nh1 hp1 => ?_⟩
  refine take_w (i := 1) rfl hp1 (by decide) (by decide) fun r2 H2 r20 r28 s2 hp2 => ?_
  refine ⟨_, _, rfl, rfl, ?_⟩
  obtain ⟨m, hm, m1, m8⟩ : ∃ m : Nat, 1 + r2 = (m : Int) ∧ 1 ≤ m ∧ m ≤ 8 := ⟨(1 + r2).toNat, by omega, by omega, by omega⟩
  simp only [hm]
  have s02 : SB [] H H2 := ((s1.nil (ps := [hd])).trans s2).drop nh1
  refine ⟨_, rfl, a, ns, 1, rfl, s02.sqL List.not_mem_nil hs, nl, by omega, fun pw H3 s3 np3 hpw => ?_⟩
  refine ⟨_, rfl, pw, m, rfl, hpw, m1, m8, fun cl ks H4 s4 hpw4 ncl hcl kl kn knd => ?_⟩
  have s24 : SB [] H2 H4 := ((s3.nil (ps := [pw])).trans s4).drop np3
  have s04 := s02.trans s24
  have hp4 := hp2.sb s24
  have ncl0 : H cl = none := s02.dom _ (s3.dom _ ncl)
  have hdc : cl ≠ hd := fun z => (hp2.sb s3).ne ncl z.symm
  clear hpw hpw4 s3 s4 ncl
  refine take_w (i := 1) rfl hp4 (by decide) (by decide) fun r5 H5 r50 r53 s5 hp5 => ?_
  refine ⟨_, _, rfl, rfl, ?_⟩
  have hcl5 := s5.keep _ _ hcl (by simpa using hdc)
  have s05 : SB [] H H5 := ((s04.nil (ps := [hd])).trans s5).drop nh1
  refine ⟨_, rfl, cl, _, rfl, .inl (SqL.of hcl5), fun L hL => ?_⟩
  have t6 := SB.new (ps := []) hL (.lst (ks.map V.str))
  have hp6 := hp5.sb t6
  have hcl6 := t6.keep _ _ hcl5 List.not_mem_nil
  have hL6 : upd H5 L (.lst (ks.map V.str)) L = some (.lst (ks.map V.str)) := upd_same
  have hdL : hd ≠ L := hp5.ne hL
  have clL : cl ≠ L := ne_of_none hcl5 hL
  generalize upd H5 L (.lst (ks.map V.str)) = H6 at t6 hp6 hcl6 hL6
  refine ⟨(by show 0 ≤ sizeLine; decide), fun O hO => ?_⟩
  have t7 := SB.new (ps := []) hO (.lst [])
  have hp7 := hp6.sb t7
  have hcl7 := t7.keep _ _ hcl6 List.not_mem_nil
  have hL7 := t7.keep _ _ hL6 List.not_mem_nil
  have hO7 : upd H6 O (.lst []) O = some (.lst []) := upd_same
  have hdO : hd ≠ O := hp6.ne hO
  have clO : cl ≠ O := ne_of_none hcl6 hO
  have LO : L ≠ O := ne_of_none hL6 hO
  have nL0 : H L = none := s05.dom _ hL
  have nO0 : H O = none := s05.dom _ (t6.dom _ hO)
  have s07 := (s05.trans t6).trans t7
  generalize upd H6 O (.lst []) = H7 at t7 hp7 hcl7 hL7 hO7 s07
  refine ⟨_, rfl, _, rfl, by omega, by omega, ?_⟩
  rw [Int.toNat_natCast]
  refine for_it walk_range (fun i σ H2 => SB [hd, L, O] H7 H2 ∧ PuW H2 hd ∧ ∃ (ls os : List Str) (o7 : Option V), σ = [some (.ref a), some (.ref hd), some (.int (m : Int)), some (.ref cl), some (.bl (decide ((0 : Int) < r5))), some (.ref L), some (.ref O), o7, none, none, none, none, none, none] ∧ H2 L = some (.lst (ls.map V.str)) ∧ H2 O = some (.lst (os.map V.str)) ∧ os.length = i ∧ (os ++ ls).Perm ks)
    ⟨SB.refl, hp7, ks, [], none, rfl, hL7, hO7, rfl, List.Perm.refl _⟩ (fun _ _ _ _ _ => trivial) (fun i x σ H8 H' hi h2 y => ?_) (fun σ H8 h2 => ?_)
  · obtain ⟨s8, hp8, ls, os, o7, rfl, hL8, hO8, ol, pm⟩ := h2
    obtain ⟨rfl, rfl⟩ := y
    have pl := pm.length_eq
    rw [List.length_append, kl] at pl
    have lpos : 0 < ls.length := by omega
    refine ⟨_, rfl, .inl ⟨rfl, _, SqL.of hO8⟩, _, rfl, .inl ⟨rfl, _, SqL.of hL8⟩, _, rfl, _, rfl, L, _, rfl, .inl (SqL.of hL8), hd, _, rfl, hp8, by rw [List.length_map]; omega, by rw [List.length_map]; omega, fun r9 H9 r90 r9m s9 hp9 => ?_⟩
    rw [List.length_map] at r9m
    obtain ⟨u, rfl⟩ : ∃ u : Nat, r9 = (u : Int) := ⟨r9.toNat, by omega⟩
    have hu : u < ls.length := by omega
    have hL9 := s9.keep _ _ hL8 (by simpa using fun z : L = hd => hdL z.symm)
    have hO9 := s9.keep _ _ hO8 (by simpa using fun z : O = hd => hdO z.symm)
    have eu : ls[u]? = some ls[u] := List.getElem?_eq_getElem hu
    refine ⟨L, _, _, u, .str ls[u], rfl, rfl, hL9, by omega, by omega, ?_, by rw [List.getElem?_map, eu]; rfl, ?_⟩
    · rw [PySem.seqIndex_of (by omega) (by rw [List.length_map]; omega), Int.toNat_natCast]
    rw [erase_map]
    have t10 := SB.set (ps := [hd, L, O]) hL9 (by simp) (.lst ((ls.eraseIdx u).map V.str))
    have hp10 : PuW (upd H9 L (.lst ((ls.eraseIdx u).map V.str))) hd := hp9.keep (SB.set (ps := [L]) hL9 (by simp) _) (by simpa using hdL)
    have hO10 : upd H9 L (.lst ((ls.eraseIdx u).map V.str)) O = some (.lst (os.map V.str)) := by rw [upd_ne (fun z => LO z.symm)]; exact hO9
    have hL10 : upd H9 L (.lst ((ls.eraseIdx u).map V.str)) L = some (.lst ((ls.eraseIdx u).map V.str)) := upd_same
    generalize upd H9 L (.lst ((ls.eraseIdx u).map V.str)) = H10 at t10 hp10 hO10 hL10
    refine ⟨O, _, _, rfl, rfl, hO10, by rw [List.length_map]; omega, ?_⟩
    have t11 := SB.set (ps := [hd, L, O]) hO10 (by simp) (.lst (os.map V.str ++ [.str ls[u]]))
    refine ⟨((s8.trans (s9.mono (by simp))).trans t10).trans t11, hp10.keep (SB.set (ps := [O]) hO10 (by simp) _) (by simpa using hdO), ls.eraseIdx u, os ++ [ls[u]], _, rfl, by rw [upd_ne LO]; exact hL10, by rw [upd_same, List.map_append]; rfl, by rw [List.length_append, ol]; rfl, ?_⟩
    rw [List.append_assoc]
    exact (List.Perm.append_left os (idx_perm eu)).trans pm
  obtain ⟨s8, _, ls, os, o7, rfl, hL8, hO8, ol, pm⟩ := h2
  have pl := pm.length_eq
  rw [List.length_append, kl] at pl
  have ls0 : ls = [] := List.eq_nil_of_length_eq_zero (by omega)
  subst ls0
  rw [List.append_nil] at pm
  have s08 : SB [] H H8 := (((s07.nil (ps := [hd, L, O])).trans s8).drop nh1 |>.drop nL0).drop nO0
  have hcl8 := s8.keep _ _ hcl7 (by simp [hdc, clL, clO])
  clear s8 hL8 hp7 hcl7 hL7 hO7 s07 hp4 hp5 hp6
  refine ⟨(by show 0 ≤ sizeLine; decide), fun KL hKL => ?_⟩
  have t9 := SB.new (ps := []) hKL (.lst [])
  have s09 := s08.trans t9
  have nKL : H KL = none := s08.dom _ hKL
  have clK : cl ≠ KL := ne_of_none hcl8 hKL
  have OK : O ≠ KL := ne_of_none hO8 hKL
  have hcl9 := t9.keep _ _ hcl8 List.not_mem_nil
  have hO9 := t9.keep _ _ hO8 List.not_mem_nil
  have hK9 : upd H8 KL (.lst []) KL = some (.lst []) := upd_same
  generalize upd H8 KL (.lst []) = H9 at t9 s09 hcl9 hO9 hK9
  refine ⟨_, rfl, cl, _, rfl, SqL.of hcl9, ?_⟩
  refine for_it (walk_enum (K := K) (a := cl) (xs := ks.map V.str)) (fun i σ H2 => SB [KL] H9 H2 ∧ ∃ (xs : List V) (b : Bk) (o7 o9 o10 o11 o12 : Option V), σ = [some (.ref a), some (.ref hd), some (.int (m : Int)), some (.ref cl), some (.bl (decide ((0 : Int) < r5))), some (.ref L), some (.ref O), o7, some (.ref KL), o9, o10, o11, o12, none] ∧ H2 KL = some (.lst xs) ∧ KdAll K H2 [KL] xs b ∧ b.names = ks.take i ∧ ∀ k ∈ b, KdOk ks k)
    ⟨SB.refl, [], [], _, _, _, _, _, rfl, hK9, .nil, rfl, by simp⟩ (fun i σ H2 hi h2 => SqL.of (h2.1.keep _ _ hcl9 (by simpa using clK))) (fun i x σ H10 H' hi h2 y => ?_) (fun σ H10 h2 => ?_)
  · obtain ⟨s10, xs, b, o7, o9, o10, o11, o12, rfl, hK10, hb10, bn, bo⟩ := h2
    obtain ⟨T0, x1, y1, rfl, hT0, rfl, ex, ey⟩ := y
    have ex : some (V.int (i : Nat)) = some x1 := ex
    cases ex
    have ey : (ks.map V.str)[i]? = some y1 := ey
    rw [List.length_map] at hi
    rw [List.getElem?_map, List.getElem?_eq_getElem hi] at ey
    cases ey
    have enm : ks[i]? = some ks[i] := List.getElem?_eq_getElem hi
    generalize ks[i] = nm at enm
    have nmk : nm ∈ ks := List.mem_of_getElem? enm
    have t11 := SB.new (ps := []) hT0 (.tup [.int (i : Nat), .str nm])
    have hT11 : upd H10 T0 (.tup [.int (i : Nat), .str nm]) T0 = some (.tup [.int (i : Nat), .str nm]) := upd_same
    have s911 := s10.trans (t11.nil (ps := [KL]))
    have hK11 := t11.keep _ _ hK10 List.not_mem_nil
    have hb11 := hb10.sb t11 NoLst.nil
    have s011 : SB [] H (upd H10 T0 (.tup [.int (i : Nat), .str nm])) := ((s09.nil (ps := [KL])).trans s911).drop nKL
    generalize upd H10 T0 (.tup [.int (i : Nat), .str nm]) = H11 at t11 hT11 s911 hK11 hb11 s011
    refine ⟨T0, _, rfl, SqT.of hT11, rfl, _, _, rfl, _, _, rfl, rfl, ?_⟩
    refine ⟨_, rfl, _, rfl, _, _, rfl, rfl, a, ns, 2 + i, (by show [V.ref a, V.int (2 + (i : Int))] = [V.ref a, V.int ((2 + i : Nat) : Int)]; rw [Int.natCast_add]; rfl), s011.sqL List.not_mem_nil hs, nl, by omega, fun pp H12 s12 npp hp12 => ?_⟩
    have s912 := s911.trans (s12.nil (ps := [KL]))
    have hcl12 := s912.keep _ _ hcl9 (by simpa using clK)
    refine ⟨_, rfl, cl, _, rfl, .inl (SqL.of hcl12), fun P0 hP0 => ?_⟩
    have t13 := SB.new (ps := []) hP0 (.lst (ks.map V.str))
    have hP13 : upd H12 P0 (.lst (ks.map V.str)) P0 = some (.lst (ks.map V.str)) := upd_same
    have hp13 := hp12.sb t13
    have s913 := s912.trans (t13.nil (ps := [KL]))
    have hK13 := t13.keep _ _ (s12.keep _ _ hK11 List.not_mem_nil) List.not_mem_nil
    have hb13 := (hb11.sb s12 NoLst.nil).sb t13 NoLst.nil
    have hpP : pp ≠ P0 := hp12.ne hP0
    have npK : pp ≠ KL := fun z => by rw [z] at npp; rw [npp] at hK11; cases hK11
    have KP : KL ≠ P0 := ne_of_none (s12.keep _ _ hK11 List.not_mem_nil) hP0
    generalize upd H12 P0 (.lst (ks.map V.str)) = H13 at t13 hP13 hp13 s913 hK13 hb13
    have fin : ∀ (D : Ends) (Pl : Addr) (ps : List Str) (H14 : Hp), SB [] H13 H14 → H14 Pl = some (.lst (ps.map V.str)) → Pl ≠ pp → Pl ≠ KL → ps.length ≤ 8 → (∀ z ∈ ps, z ∈ ks) →
        (∀ (σ : L2.St) (H15 : Hp), (SB [KL] H9 H15 ∧ ∃ (xs : List V) (b : Bk) (o7 o9 o10 o11 o12 : Option V), σ = [some (.ref a), some (.ref hd), some (.int (m : Int)), some (.ref cl), some (.bl (decide ((0 : Int) < r5))), some (.ref L), some (.ref O), o7, some (.ref KL), o9, o10, o11, o12, none] ∧ H15 KL = some (.lst xs) ∧ KdAll K H15 [KL] xs b ∧ b.names = ks.take (i + 1) ∧ ∀ k ∈ b, KdOk ks k) → D.nx σ H15) →
        tSeq (tAsg (tOp rEq (tCall spTakeW [] E0 (tCons (tVar 10) (tCons (tC (.int 2)) tNil))) (tC (.int 1))) (gName 12))
          (tDrop (tBM K "list" rAppend (tVar 8) (tCons (tTup (tCons (tVar 9) (tCons (tVar 12) (tCons (tLc (iRng1 (tCons (tCall spTakeW [] E0 (tCons (tVar 10) (tCons (tC (.int 5)) tNil))) tNil)) (gName 13) tYes (tCall (spWay K) [] E0 (tCons (tVar 10) (tCons (tVar 11) tNil))) [13]) tNil)))) tNil))) D
          [some (.ref a), some (.ref hd), some (.int (m : Int)), some (.ref cl), some (.bl (decide ((0 : Int) < r5))), some (.ref L), some (.ref O), some (.int (i : Int)), some (.ref KL), some (.str nm), some (.ref pp), some (.ref Pl), o12, none] H14 := by
      intro D Pl ps H14 s14 hPl Plp PlK pl8 psk hD
      have hp14 := hp13.sb s14
      refine take_w (i := 10) rfl hp14 (by decide) (by decide) fun r15 H15 r150 r152 s15 hp15 => ?_
      refine ⟨rfl, ?_⟩
      generalize decide (V.int r15 = V.int 1) = wd
      have KLp : KL ∉ [pp] := by simpa using fun z : KL = pp => npK z.symm
      have hK15 : H15 KL = some (.lst xs) := s15.keep _ _ (s14.keep _ _ hK13 List.not_mem_nil) KLp
      refine ⟨_, rfl, .inl ⟨rfl, _, SqL.of hK15⟩, _, rfl, _, rfl, ?_⟩
      refine take_w (i := 10) rfl hp15 (by decide) (by decide) fun r16 H16 r160 r165 s16 hp16 => ?_
      refine ⟨_, rfl, by omega, by omega, fun D2 hD2 => ?_⟩
      obtain ⟨c, rfl⟩ : ∃ c : Nat, r16 = (c : Int) := ⟨r16.toNat, by omega⟩
      rw [Int.toNat_natCast]
      have hPl16 := s16.keep _ _ (s15.keep _ _ hPl (by simpa using Plp)) (by simpa using Plp)
      have hK16 := s16.keep _ _ hK15 KLp
      have ppD : pp ≠ D2 := hp16.ne hD2
      have PlD : Pl ≠ D2 := ne_of_none hPl16 hD2
      have KD : KL ≠ D2 := ne_of_none hK16 hD2
      refine lc_seqP walk_range [pp] hD2 hp16.some (by omega) (fun j us H2 => PuW H2 pp ∧ H2 Pl = some (.lst (ps.map V.str)) ∧ ∃ rs : List Ru, Bears K H2 Ru.enc us rs ∧ rs.length = j ∧ ∀ r ∈ rs, RuOk r ∧ ∀ q ∈ Ru.within r, q.1.1 ∈ ks)
        ⟨hp16, hPl16, [], .nil, rfl, by simp⟩ (fun _ _ => trivial) (fun j us H2 H3 e ⟨h1, h2, rs, h3, h4⟩ => ⟨h1.keep e (by simpa using ppD), e.keep _ _ h2 (by simpa using PlD), rs, h3.sb e Ru.noList_enc, h4⟩) (fun Pv j x H2 H17 us hj s17 y hR hu fin2 _ => ?_) (fun us H17 s17 hD17 hR hu => ?_)
      · obtain ⟨rfl, rfl⟩ := y
        obtain ⟨h1, h2, rs, h3, h4, h5⟩ := hR
        refine ⟨rfl, _, rfl, _, rfl, pp, Pl, ps, rfl, h1, h2, Plp, pl8, fun z hz => kn z (psk z hz), fun v r H18 s18 hp18 hv ok win => fin2 _ _ s18 ⟨hp18, s18.keep _ _ h2 (by simpa using Plp), rs ++ [r], (h3.sb s18 Ru.noList_enc).append (.cons hv .nil), by simp [h4], fun x hx => ?_⟩⟩
        rcases List.mem_append.mp hx with hx | hx
        · exact h5 x hx
        · rw [List.mem_singleton.mp hx]; exact ⟨ok, fun q hq => psk _ (win q hq)⟩
      obtain ⟨h1, h2, rs, h3, h4, h5⟩ := hR
      refine ⟨by show 3 ≤ sizeLine; decide, fun T hT => ?_⟩
      have t18 := SB.new (ps := []) hT (.tup [.str nm, .bl wd, .ref D2])
      have hT18 : SqT K (upd H17 T (.tup [.str nm, .bl wd, .ref D2])) T [.str nm, .bl wd, .ref D2] := SqT.of upd_same
      generalize upd H17 T (.tup [.str nm, .bl wd, .ref D2]) = H18 at t18 hT18
      have s1318 : SB [pp] H13 H18 := ((((s14.nil (ps := [pp])).trans s15).trans s16).trans s17).trans t18.nil
      have s1118 : SB [] H11 H18 := (((s12.trans t13).nil (ps := [pp])).trans s1318).drop npp
      have hK18 := s1318.keep _ _ hK13 KLp
      have t19 := SB.set (ps := [KL]) hK18 (by simp) (.lst (xs ++ [.ref T]))
      have xl := hb11.length
      have bl : b.length ≤ i := by
        have : (Bk.names b).length = (ks.take i).length := by rw [bn]
        rw [List.length_map, List.length_take] at this
        omega
      refine ⟨KL, _, _, rfl, rfl, hK18, by omega, hD _ _ ⟨(s911.trans (s1118.nil (ps := [KL]))).trans t19, xs ++ [.ref T], b ++ [⟨nm, wd, rs⟩], _, _, _, _, _, rfl, upd_same, ?_, ?_, ?_⟩⟩
      · exact ((hb11.sb s1118 NoLst.nil).sb t19 NoLst.self).append (.cons ⟨T, D2, us, rfl, t19.sqT hT18, t19.keep _ _ (t18.keep _ _ hD17 List.not_mem_nil) (by simpa using fun z : D2 = KL => KD z.symm), (h3.sb t18 Ru.noList_enc).sb t19 Ru.noList_enc, by simpa using fun z : D2 = KL => KD z.symm⟩ .nil)
      · rw [Bk.names, List.map_append, List.take_add_one, enm]
        show Bk.names b ++ [nm] = _
        rw [bn]; rfl
      · intro k hk
        rcases List.mem_append.mp hk with hk | hk
        · exact bo k hk
        · rw [List.mem_singleton.mp hk]
          exact ⟨kn nm nmk, by show rs.length ≤ 4; omega, h5⟩
    refine ⟨_, rfl, _, rfl, ?_⟩
    refine ite2 (fun _ => ?_) (fun _ => ?_)
    · have hO13 := s913.keep _ _ hO9 (by simpa using OK)
      obtain ⟨j, ej, hfirst⟩ := first_at (pm.mem_iff.mpr nmk)
      refine ⟨_, rfl, _, rfl, .inl ⟨rfl, _, SqL.of hO13⟩, _, rfl, O, _, _, j, .str nm, rfl, rfl, SqL.of hO13, rfl, flat_strs _, by rw [List.getElem?_map, ej]; rfl, by simp [eqV], fun m z' hm hz' => ?_, ?_⟩
      · rw [List.getElem?_map] at hz'
        cases e : os[m]? with
        | none => rw [e] at hz'; cases hz'
        | some z =>
          rw [e] at hz'
          cases hz'
          show (z == nm) = false
          exact beq_eq_false_iff_ne.mpr (hfirst m z hm e)
      refine ⟨_, _, rfl, rfl, _, rfl, O, _, rfl, SqL.of hO13, fun P1 hP1 => ?_⟩
      have e1 : cutV (os.map V.str) (some ((j : Int) + 1)) none = (os.drop (j + 1)).map V.str := by
        rw [← cutDropS]; rfl
      rw [e1]
      have hp1 : pp ≠ P1 := hp13.ne hP1
      have hk1 : KL ≠ P1 := ne_of_none hK13 hP1
      exact fin _ P1 (os.drop (j + 1)) _ (SB.new hP1 _) upd_same (fun z => hp1 z.symm) (fun z => hk1 z.symm) (by rw [List.length_drop]; omega) (fun z hz => pm.mem_iff.mp (List.mem_of_mem_drop hz)) (fun σ H h => h)
    · exact fin _ P0 ks H13 SB.refl hP13 (fun z => hpP z.symm) (fun z => KP z.symm) (by omega) (fun z hz => hz) (fun σ H h => h)
  · obtain ⟨s10, xs, b, o7, o9, o10, o11, o12, rfl, hK10, hb10, bn, bo⟩ := h2
    rw [List.length_map, List.take_length] at bn
    have bl : b.length = ks.length := by rw [← bn]; simp
    exact ⟨_, rfl, q KL xs b H10 (((s09.nil (ps := [KL])).trans s10).drop nKL) nKL hK10 hb10 ⟨by omega, by omega, by rw [bn]; exact knd, by rw [bn]; exact bo⟩⟩
end
end FT
namespace FT
open PySem PySem.W PySem.Spec PyProof.Rows L2
section
variable {P : Program} {w : World} {K : PySem.W.Frag} {mg : Str → Option Value} {base : Heap} {f : Addr} {fd : FuncData}
theorem sc_NoKind___init__ : FnScope ["self", "kind"] ["self", "kind"] (defScope s_NoKind___init__) := ⟨rfl, rfl, rfl, by decide +kernel, rfl, by decide +kernel, by decide +kernel⟩
theorem ok_NoKind___init__ {C : Addr} (F : Fun K "__init__" "NoKind.__init__" s_NoKind___init__ f fd) : FnOk P w K mg base CX0 1 f fd ["self", "kind"] (spKindI K C) := by
  refine F.ok sc_NoKind___init__ (fun vs H Q E h => ?_) (fun cdv A outer s H vs Q E hr h => ?_)
  · obtain ⟨a, y, rfl, _⟩ := h
    rfl
  obtain ⟨a, y, rfl, T, no, ha, q⟩ := h
  refine ⟨_, pss_one (ps_ost (pv 0) (pv 1)), ?_⟩
  exact ⟨_, rfl, _, rfl, a, C, rfl, T, no, .inl ⟨ha, q⟩⟩
end
end FT
namespace FT
open PySem PySem.W PySem.Spec PyProof.Rows L2
section
variable {P : Program} {w : World} {K : PySem.W.Frag} {mg : Str → Option Value} {base : Heap} {f : Addr} {fd : FuncData}
abbrev N_Book___init__ : List Str := ["self", "kinds", "name", "spreading", "rows"]
theorem sc_Book___init__ : FnScope N_Book___init__ ["self", "kinds"] (defScope s_Book___init__) := ⟨rfl, rfl, rfl, by decide +kernel, rfl, by decide +kernel, by decide +kernel⟩
theorem ok_Book___init__ {C_NoBook C_Book : Addr} (B : BI mg) (O_NoBook : Own K mg "NoBook" C_NoBook) (T_Book : ClsF K C_Book ["spread_by_name", "rows_by_name"]) (G_are_kinds : Got P w K mg base "are_kinds" ["things"] (87) (spAreKinds K)) (F : Fun K "__init__" "Book.__init__" s_Book___init__ f fd) : FnOk P w K mg base (L2.CX P w) (88) f fd ["self", "kinds"] (spBInit K C_Book C_NoBook) := by
  refine F.okX sc_Book___init__ (fun vs H Q E h => ?_) (fun cdv A outer s H vs Q E hr h => ?_)
  · obtain ⟨x, dx, l, xs, ts, rfl, _⟩ := h
    rfl
  obtain ⟨x, dx, l, xs, ts, rfl, hx, hdx, hs, ha, hf, hl, q, qE⟩ := h
  have hun2 : A.units + 3 + 200 < cLine := by have := hr.un; have h3 : (A.deeper (envOfC "Book.__init__" (defScope s_Book___init__) s.heap.objs.size f cdv)).units = A.units + 3 := rfl; omega
  refine ⟨_, pss_cons (ps_if (pt_not (pt_val (pe_got G_are_kinds (hr.mono (by omega)) rfl (pa_cons (pv 1) pa_nil)))) (pss_one (ps_raise rfl (takes_of rfl rfl rfl rfl) (pmk_own PySem.F.excBase_ValueError O_NoBook.q O_NoBook.gC O_NoBook.k (raises_own O_NoBook.s O_NoBook.t) rfl))) pss_nil)
    (pss_cons (ps_fld (pv 0) (pe_dc (own := [("name", 2), ("spreading", 3), ("rows", 4)]) (g := (gTup K 3 (gCons (gName 2) (gCons (gName 3) (gCons (gName 4) gNil))))) (tt := tYes) (tk := (tVar 2)) (tv := (tVar 3)) rfl sc_Book___init__.nd (pi_list (pv 1)) (blkOk_by (N := N_Book___init__) (sc := defScope s_Book___init__) (by decide +kernel)) (fun _ _ _ _ _ => (pg_tup rfl (pgs_cons (pg_name (i := 2) sc_Book___init__.nd rfl (.inl rfl)) (pgs_cons (pg_name (i := 3) sc_Book___init__.nd rfl (.inl rfl)) (pgs_cons (pg_name (i := 4) sc_Book___init__.nd rfl (.inl rfl)) pgs_nil))))) (fun _ _ _ _ _ => pts_nil) (fun _ _ _ _ _ => (pv 2)) (fun _ _ _ _ _ => (pv 3))) rfl)
    (pss_one (ps_fld (pv 0) (pe_dc (own := [("name", 2), ("spreading", 3), ("rows", 4)]) (g := (gTup K 3 (gCons (gName 2) (gCons (gName 3) (gCons (gName 4) gNil))))) (tt := tYes) (tk := (tVar 2)) (tv := (tCB (fun xs H Q => ∃ p ys, xs = [.ref p] ∧ ((SqL K H p ys ∧ ∀ l, H l = none → Q (.ref l) (upd H l (.tup ys))) ∨ (SqT K H p ys ∧ Q (.ref p) H))) (tCons (tVar 4) tNil))) rfl sc_Book___init__.nd (pi_list (pv 1)) (blkOk_by (N := N_Book___init__) (sc := defScope s_Book___init__) (by decide +kernel)) (fun _ _ _ _ _ => (pg_tup rfl (pgs_cons (pg_name (i := 2) sc_Book___init__.nd rfl (.inl rfl)) (pgs_cons (pg_name (i := 3) sc_Book___init__.nd rfl (.inl rfl)) (pgs_cons (pg_name (i := 4) sc_Book___init__.nd rfl (.inl rfl)) pgs_nil))))) (fun _ _ _ _ _ => pts_nil) (fun _ _ _ _ _ => (pv 2)) (fun _ _ _ _ _ => (pe_callTy call_tuple_of rfl B.tuple boot_tuple (pa_cons (pv 4) pa_nil)))) rfl))), ?_⟩
  refine ⟨_, rfl, l, xs, ts, rfl, SqL.of hs, ha, hf, hl, fun b H1 s1 hb => ?_⟩
  refine ⟨_, rfl, ?_⟩
  cases b with
  | false => exact iteT (qE (fun z => nomatch (hb.mpr z)) H1 s1)
  | true =>
  refine iteF ?_
  obtain ⟨bk, et, ok⟩ := hb.mp rfl
  subst et
  have q2 := q bk rfl ok
  have ha1 := (ha.sb s1).kd
  have hs1 := s1.keep _ _ hs List.not_mem_nil
  have hx1 := s1.keep _ _ hx List.not_mem_nil
  have xlen := ha1.length
  have szl := sizeLine_eq
  have b8 := ok.len
  have hlx : l ≠ x := ne_of hs hx (fun z => nomatch z)
  refine ⟨_, rfl, l, rfl, ⟨_, SqL.of hs1⟩, fun D hD => ?_⟩
  refine dc_seq (walk_list (xs := xs)) hD (by omega) (fun i kvs _ => kvs = Bk.spKV (bk.take i)) rfl (fun H2 s2 => s2.sqL List.not_mem_nil (SqL.of hs1)) (fun _ _ _ _ _ h => h) (fun Pv i y H2 H' kvs hi s2 yy hR hl2 fin _ => ?_) (fun kvs H2 s2 hD2 hR _ => ?_)
  · obtain ⟨rfl, ey⟩ := yy
    obtain ⟨k, ek, t, r, zs, rfl, h1, h2, h3, _⟩ := ha1.get ey
    refine ⟨t, _, rfl, s2.sqT h1, rfl, _, _, rfl, _, _, rfl, _, _, rfl, rfl, rfl, ?_⟩
    refine ⟨_, rfl, _, rfl, fin (Sum.inr k.n) _ _ SB.refl ?_⟩
    rw [hR, putK_new, List.take_add_one, ek, Option.toList_some, Bk.spKV, Bk.spKV, List.map_append]
    · rfl
    · intro p hp e
      obtain ⟨j, hj, rfl⟩ := List.mem_map.mp hp
      injection e with e
      exact Bk.nodup_at ok.nd ek j hj e
  · rw [xlen, List.take_length] at hR
    subst hR
    have hx2 := s2.keep _ _ hx1 List.not_mem_nil
    have hl2 := s2.keep _ _ hs1 List.not_mem_nil
    have ha2 := ha1.sb s2 NoLst.nil
    refine ⟨_, rfl, x, _, dx, _, rfl, hx2, T_Book.c, T_Book.no _ (by simp), by decide, ?_⟩
    have e1 : putF (Str.ofString "spread_by_name") (V.ref D) [] = [(Str.ofString "spread_by_name", V.ref D)] := rfl
    rw [e1]
    have t3 : SB [x] H2 (upd H2 x (.ins C_Book dx [(Str.ofString "spread_by_name", V.ref D)])) := SB.setG hx2 (by simp) (fun _ z => nomatch z) (fun _ _ z => nomatch z) _
    have nl3 : NoLst H2 [] [x] := fun p hp => .inr fun xs z => by rw [List.mem_singleton.mp hp, hx2] at z; cases z
    have ha3 := ha2.sb t3 nl3
    have hl3 := t3.keep _ _ hl2 (by simpa using hlx)
    have hx3 : upd H2 x (.ins C_Book dx [(Str.ofString "spread_by_name", V.ref D)]) x = some (.ins C_Book dx [(Str.ofString "spread_by_name", V.ref D)]) := upd_same
    have hD3 := t3.keep _ _ hD2 (by simpa using ne_of hD2 hx2 (fun z => nomatch z))
    have s03 := ((s1.trans s2).nil (ps := [x])).trans t3
    generalize upd H2 x (.ins C_Book dx [(Str.ofString "spread_by_name", V.ref D)]) = H3 at t3 ha3 hl3 hx3 hD3 s03
    refine ⟨_, rfl, l, rfl, ⟨_, SqL.of hl3⟩, fun D2 hn2 => ?_⟩
    refine dc_seq (walk_list (xs := xs)) hn2 (by omega) (fun i kvs H4 => ∃ us, kvs = Bk.rowKV (bk.take i) us ∧ Bears K H4 Kd.rowE us (bk.take i)) ⟨[], rfl, .nil⟩ (fun H4 s4 => s4.sqL List.not_mem_nil (SqL.of hl3)) (fun i us H4 H5 s5 ⟨us', e, hb⟩ => ⟨us', e, hb.sb s5 Kd.noList_rowE⟩) (fun Pv i y H4 H' kvs hi s4 yy hR hl4 fin _ => ?_) (fun kvs H4 s4 hD4 hR _ => ?_)
    · obtain ⟨rfl, ey⟩ := yy
      obtain ⟨us, rfl, hb⟩ := hR
      obtain ⟨k, ek, t, r, zs, rfl, h1, h2, h3, _⟩ := ha3.get ey
      refine ⟨t, _, rfl, s4.sqT h1, rfl, _, _, rfl, _, _, rfl, _, _, rfl, rfl, rfl, ?_⟩
      refine ⟨_, rfl, _, rfl, r, zs, rfl, .inl ⟨SqL.of (s4.keep _ _ h2 List.not_mem_nil), fun p hp => ?_⟩⟩
      have t5 := SB.new (ps := []) hp (.tup zs)
      refine fin (Sum.inr k.n) _ _ t5 ⟨us ++ [.ref p], ?_, ?_⟩
      · rw [putK_new, List.take_add_one, ek, Option.toList_some, Bk.rowKV, Bk.rowKV, List.zipWith_append hb.length.symm]
        · rfl
        · intro p hp e
          obtain ⟨j, hj, e2⟩ := rowKV_mem hp
          rw [e2] at e
          injection e with e
          exact Bk.nodup_at ok.nd ek j hj e
      · rw [List.take_add_one, ek, Option.toList_some]
        exact Bears.append (hb.sb t5 Kd.noList_rowE) (.cons (.tup (.inl (.inl upd_same)) (Bears.dp ((h3.sb s4 Ru.noList_enc).sb t5 Ru.noList_enc))) .nil)
    · rw [xlen, List.take_length] at hR
      obtain ⟨us, rfl, hb⟩ := hR
      have hx4 := s4.keep _ _ hx3 List.not_mem_nil
      refine ⟨_, rfl, x, _, dx, _, rfl, hx4, T_Book.c, T_Book.no _ (by simp), by simp, ?_⟩
      have t5 : SB [x] H4 (upd H4 x (.ins C_Book dx (bkF D D2))) := SB.setG hx4 (by simp) (fun _ z => nomatch z) (fun _ _ z => nomatch z) _
      refine q2 _ ((s03.trans s4.nil).trans t5) ⟨x, dx, D, D2, us, rfl, upd_same, ?_, ?_, hb.sb t5 Kd.noList_rowE⟩
      · exact t5.keep _ _ (s4.keep _ _ hD3 List.not_mem_nil) (by simpa using ne_of (s4.keep _ _ hD3 List.not_mem_nil) hx4 (fun z => nomatch z))
      · exact t5.keep _ _ hD4 (by simpa using ne_of hD4 hx4 (fun z => nomatch z))
end
end FT
namespace FT
open PySem PySem.W PySem.Spec PyProof.Rows L2
section
variable {P : Program} {w : World} {K : PySem.W.Frag} {mg : Str → Option Value} {base : Heap} {f : Addr} {fd : FuncData}
abbrev N_Book_names : List Str := ["self"]
theorem sc_Book_names : FnScope N_Book_names ["self"] (defScope s_Book_names) := ⟨rfl, rfl, rfl, by decide +kernel, rfl, by decide +kernel, by decide +kernel⟩
theorem ok_Book_names {C_Book : Addr} (B : BI mg) (T_Book : ClsF K C_Book ["spread_by_name", "rows_by_name"]) (F : Fun K "names" "Book.names" s_Book_names f fd) : FnOk P w K mg base CX0 (1) f fd ["self"] (spBNames K C_Book) := by
  refine F.ok sc_Book_names (fun vs H Q E h => ?_) (fun cdv A outer s H vs Q E hr h => ?_)
  · obtain ⟨v, b, rfl, _⟩ := h
    rfl
  obtain ⟨v, b, rfl, hb, hl, q⟩ := h
  have hun2 : A.units + 3 + 200 < cLine := by have := hr.un; have h3 : (A.deeper (envOfC "Book.names" (defScope s_Book_names) s.heap.objs.size f cdv)).units = A.units + 3 := rfl; omega
  refine ⟨_, pss_one (ps_ret (pe_callTy (call_listD rfl) rfl B.list boot_list (pa_cons (pe_fld (pv 0) rfl) pa_nil))), ?_⟩
  obtain ⟨a, dx, d1, d2, us, rfl, h1, h2, h3, h4⟩ := hb
  refine ⟨_, rfl, a, _, dx, _, _, rfl, h1, T_Book.c, T_Book.no _ (by simp), rfl, d1, _, rfl, .inl h2, fun p hp => ?_⟩
  exact q p _ (SB.new hp _) hp (by rw [upd_same, Bk.spKV, List.map_map, List.map_map]; rfl)
end
end FT
namespace FT
open PySem PySem.W PySem.Spec PyProof.Rows L2
section
variable {P : Program} {w : World} {K : PySem.W.Frag} {mg : Str → Option Value} {base : Heap} {f : Addr} {fd : FuncData}
abbrev N_Book_spreads : List Str := ["self", "name"]
theorem sc_Book_spreads : FnScope N_Book_spreads ["self", "name"] (defScope s_Book_spreads) := ⟨rfl, rfl, rfl, by decide +kernel, rfl, by decide +kernel, by decide +kernel⟩
theorem ok_Book_spreads {C_Book C_NoKind : Addr} (B : BI mg) (T_Book : ClsF K C_Book ["spread_by_name", "rows_by_name"]) (G_check_kind : GotX P w K mg base "check_kind" ["book", "name"] (3) (spCheckK K C_Book C_NoKind)) (F : Fun K "spreads" "Book.spreads" s_Book_spreads f fd) : FnOk P w K mg base (L2.CX P w) (4) f fd ["self", "name"] (spBSpreads K C_Book C_NoKind) := by
  refine F.okX sc_Book_spreads (fun vs H Q E h => ?_) (fun cdv A outer s H vs Q E hr h => ?_)
  · obtain ⟨v, b, n, rfl, _⟩ := h
    rfl
  obtain ⟨v, b, n, rfl, hb, hl, qk, qE⟩ := h
  have hun2 : A.units + 3 + 200 < cLine := by have := hr.un; have h3 : (A.deeper (envOfC "Book.spreads" (defScope s_Book_spreads) s.heap.objs.size f cdv)).units = A.units + 3 := rfl; omega
  refine ⟨_, pss_cons (ps_expr (pe_gotS G_check_kind (hr.mono (by omega)) rfl (takes_of rfl rfl rfl rfl) (pa_cons (pv 0) (pa_cons (pv 1) pa_nil))))
    (pss_one (ps_ret (pe_dget (by show A.units + 3 + 1 < cLine; omega) (pe_fld (pv 0) rfl) (pv 1) (fun _ _ => rfl)))), ?_⟩
  refine ⟨_, rfl, _, rfl, _, b, n, rfl, hb, hl, fun k e H1 s1 => ?_, qE⟩
  obtain ⟨a, dx, d1, d2, us, rfl, h1, h2, h3, h4⟩ := hb.sb0 s1
  refine ⟨_, rfl, a, _, dx, _, _, rfl, h1, T_Book.c, T_Book.no _ (by simp), rfl, _, rfl, d1, V.bl k.w, rfl, getK h2 (by rw [Bk.spKV_val, e]; rfl), qk k e H1 s1⟩
end
end FT
namespace FT
open PySem PySem.W PySem.Spec PyProof.Rows L2
section
variable {P : Program} {w : World} {K : PySem.W.Frag} {mg : Str → Option Value} {base : Heap} {f : Addr} {fd : FuncData}
abbrev N_Book_rules : List Str := ["self", "name"]
theorem sc_Book_rules : FnScope N_Book_rules ["self", "name"] (defScope s_Book_rules) := ⟨rfl, rfl, rfl, by decide +kernel, rfl, by decide +kernel, by decide +kernel⟩
theorem ok_Book_rules {C_Book C_NoKind : Addr} (B : BI mg) (T_Book : ClsF K C_Book ["spread_by_name", "rows_by_name"]) (G_check_kind : GotX P w K mg base "check_kind" ["book", "name"] (3) (spCheckK K C_Book C_NoKind)) (F : Fun K "rules" "Book.rules" s_Book_rules f fd) : FnOk P w K mg base (L2.CX P w) (4) f fd ["self", "name"] (spBRules K C_Book C_NoKind) := by
  refine F.okX sc_Book_rules (fun vs H Q E h => ?_) (fun cdv A outer s H vs Q E hr h => ?_)
  · obtain ⟨v, b, n, rfl, _⟩ := h
    rfl
  obtain ⟨v, b, n, rfl, hb, hl, hr4, qk, qE⟩ := h
  have hun2 : A.units + 3 + 200 < cLine := by have := hr.un; have h3 : (A.deeper (envOfC "Book.rules" (defScope s_Book_rules) s.heap.objs.size f cdv)).units = A.units + 3 := rfl; omega
  refine ⟨_, pss_cons (ps_expr (pe_gotS G_check_kind (hr.mono (by omega)) rfl (takes_of rfl rfl rfl rfl) (pa_cons (pv 0) (pa_cons (pv 1) pa_nil))))
    (pss_one (ps_ret (pe_callTy call_list_of rfl B.list boot_list (pa_cons (pe_dget (by show A.units + 3 + 1 < cLine; omega) (pe_fld (pv 0) rfl) (pv 1) (fun _ _ => rfl)) pa_nil)))), ?_⟩
  refine ⟨_, rfl, _, rfl, _, b, n, rfl, hb, hl, fun k e H1 s1 => ?_, qE⟩
  obtain ⟨a, dx, d1, d2, us, rfl, h1, h2, h3, h4⟩ := hb.sb0 s1
  obtain ⟨u, hv, hu⟩ := Bk.rowKV_val n h4 e
  refine ⟨_, rfl, a, _, dx, _, _, rfl, h1, T_Book.c, T_Book.no _ (by simp), rfl, _, rfl, d2, u, rfl, getK h3 hv, ?_⟩
  cases hu with
  | tup ht hd => exact ⟨_, _, rfl, .inr ht, fun l hl => qk k e l _ _ (s1.trans (SB.new hl _)) (s1.dom l hl) upd_same ((Bears.of hd).sb (SB.new (ps := []) hl _) Ru.noList_enc)⟩
end
end FT
namespace FT
open PySem PySem.W PySem.Spec PyProof.Rows L2
section
variable {P : Program} {w : World} {K : PySem.W.Frag} {mg : Str → Option Value} {base : Heap} {f : Addr} {fd : FuncData}
abbrev N__law_of_others : List Str := ["_law_error", "_law_one", "_law_other"]
theorem sc__law_of_others : FnScope N__law_of_others ["_law_error"] (defScope s__law_of_others) := ⟨rfl, rfl, rfl, by decide +kernel, rfl, by decide +kernel, by decide +kernel⟩
theorem ok__law_of_others {c : Str → Addr} (B : BI mg) (T : ErrsM K mg c eC eN eK) (F : Fun K "_law_of_others" "_law_of_others" s__law_of_others f fd) : FnP P w K mg base (1) f fd ["_law_error"] (spOthers K c eC) := by
  refine okP F sc__law_of_others (fun a oe vs H Q E h => ?_) (fun cdv A outer s H vs Q E a oe hr h => ?_)
  · obtain ⟨n, d, rfl, hz, hf, _⟩ := h
    rfl
  obtain ⟨n, d, rfl, hz, hf, hn, hd, q⟩ := h
  have hun2 : A.units + 3 + 200 < cLine := by have := hr.un; have h3 : (A.deeper (envOfC "_law_of_others" (defScope s__law_of_others) s.heap.objs.size f cdv)).units = A.units + 3 := rfl; omega
  refine ⟨_, pss_cons (ps_set (i := 1) sc__law_of_others.nd rfl (.inl rfl) (pe_callB (call_isEgT (.head _) hz hf) rfl B.isinstance boot_isinstance (pa_cons (pv 0) (pa_cons (pe_tup (pa_cons (pe_glob (v := .ref (c "NoLadder")) rfl (T.glo "NoLadder" (.head _)) rfl) (pa_cons (pe_glob (v := .ref (c "NoRest")) rfl (T.glo "NoRest" (.tail _ (.head _))) rfl) (pa_cons (pe_glob (v := .ref (c "NoGrove")) rfl (T.glo "NoGrove" (.tail _ (.tail _ (.head _)))) rfl) (pa_cons (pe_glob (v := .ref (c "NoPlace")) rfl (T.glo "NoPlace" (.tail _ (.tail _ (.tail _ (.head _))))) rfl) (pa_cons (pe_glob (v := .ref (c "NoRule")) rfl (T.glo "NoRule" (.tail _ (.tail _ (.tail _ (.tail _ (.tail _ (.tail _ (.head _)))))))) rfl) (pa_cons (pe_glob (v := .ref (c "NoNumber")) rfl (T.glo "NoNumber" (.tail _ (.tail _ (.tail _ (.tail _ (.tail _ (.tail _ (.tail _ (.head _))))))))) rfl) (pa_cons (pe_glob (v := .ref (c "TooGreat")) rfl (T.glo "TooGreat" (.tail _ (.tail _ (.tail _ (.tail _ (.tail _ (.tail _ (.tail _ (.tail _ (.head _)))))))))) rfl) (pa_cons (pe_glob (v := .ref (c "NoRise")) rfl (T.glo "NoRise" (.tail _ (.tail _ (.tail _ (.tail _ (.tail _ (.tail _ (.tail _ (.tail _ (.tail _ (.head _))))))))))) rfl) (pa_cons (pe_glob (v := .ref (c "NoFall")) rfl (T.glo "NoFall" (.tail _ (.tail _ (.tail _ (.tail _ (.tail _ (.tail _ (.tail _ (.tail _ (.tail _ (.tail _ (.head _)))))))))))) rfl) pa_nil)))))))))) pa_nil))))
    (pss_cons (ps_set (i := 2) sc__law_of_others.nd rfl (.inl rfl) (pe_callB (call_isEgT (.head _) hz hf) rfl B.isinstance boot_isinstance (pa_cons (pv 0) (pa_cons (pe_tup (pa_cons (pe_glob (v := .ref (c "NotEndless")) rfl (T.glo "NotEndless" (.tail _ (.tail _ (.tail _ (.tail _ (.tail _ (.tail _ (.tail _ (.tail _ (.tail _ (.tail _ (.tail _ (.tail _ (.head _)))))))))))))) rfl) (pa_cons (pe_glob (v := .ref (c "NoWorths")) rfl (T.glo "NoWorths" (.tail _ (.tail _ (.tail _ (.tail _ (.tail _ (.tail _ (.tail _ (.tail _ (.tail _ (.tail _ (.tail _ (.tail _ (.tail _ (.head _))))))))))))))) rfl) (pa_cons (pe_glob (v := .ref (c "NoDrop")) rfl (T.glo "NoDrop" (.tail _ (.tail _ (.tail _ (.tail _ (.tail _ (.tail _ (.tail _ (.tail _ (.tail _ (.tail _ (.tail _ (.tail _ (.tail _ (.tail _ (.head _)))))))))))))))) rfl) (pa_cons (pe_glob (v := .ref (c "NoReach")) rfl (T.glo "NoReach" (.tail _ (.tail _ (.tail _ (.tail _ (.tail _ (.tail _ (.tail _ (.tail _ (.tail _ (.tail _ (.tail _ (.tail _ (.tail _ (.tail _ (.tail _ (.head _))))))))))))))))) rfl) (pa_cons (pe_glob (v := .ref (c "TooLong")) rfl (T.glo "TooLong" (.tail _ (.tail _ (.tail _ (.tail _ (.tail _ (.tail _ (.tail _ (.tail _ (.tail _ (.tail _ (.tail _ (.tail _ (.tail _ (.tail _ (.tail _ (.tail _ (.head _)))))))))))))))))) rfl) (pa_cons (pe_glob (v := .ref (c "NoRow")) rfl (T.glo "NoRow" (.tail _ (.tail _ (.tail _ (.tail _ (.tail _ (.tail _ (.tail _ (.tail _ (.tail _ (.tail _ (.tail _ (.tail _ (.tail _ (.tail _ (.tail _ (.tail _ (.tail _ (.head _))))))))))))))))))) rfl) (pa_cons (pe_glob (v := .ref (c "NoName")) rfl (T.glo "NoName" (.tail _ (.tail _ (.tail _ (.tail _ (.tail _ (.tail _ (.tail _ (.tail _ (.tail _ (.tail _ (.tail _ (.tail _ (.tail _ (.tail _ (.tail _ (.tail _ (.tail _ (.tail _ (.head _)))))))))))))))))))) rfl) pa_nil)))))))) pa_nil))))
    (pss_one (ps_ret (pe_or (pv 1) (pe_or (pv 2) (pe_one (pe_callB (call_isEgT (.head _) hz hf) rfl B.isinstance boot_isinstance (pa_cons (pv 0) (pa_cons (pe_tup (pa_cons (pe_glob (v := .ref (c "Endless")) rfl (T.glo "Endless" (.tail _ (.tail _ (.tail _ (.tail _ (.tail _ (.tail _ (.tail _ (.tail _ (.tail _ (.tail _ (.tail _ (.head _))))))))))))) rfl) (pa_cons (pe_glob (v := .ref (c "NoBook")) rfl (T.glo "NoBook" (.tail _ (.tail _ (.tail _ (.tail _ (.head _)))))) rfl) pa_nil))) pa_nil))))))))), ?_⟩
  obtain rfl := List.mem_singleton.mp hn
  refine ⟨_, rfl, by show 9 ≤ sizeLine; decide, fun t1 ht1 => ?_⟩
  refine ⟨_, t1, _, _, _, rfl, T.exc _ hn, hd.sb (SB.new ht1 _), rfl, upd_same, paired_refs ["NoLadder", "NoRest", "NoGrove", "NoPlace", "NoRule", "NoNumber", "TooGreat", "NoRise", "NoFall"], T.no hn (ms := ["NoLadder", "NoRest", "NoGrove", "NoPlace", "NoRule", "NoNumber", "TooGreat", "NoRise", "NoFall"]) (by decide +kernel) (by decide +kernel), ?_⟩
  refine ⟨_, rfl, by show 7 ≤ sizeLine; decide, fun t2 ht2 => ?_⟩
  refine ⟨_, t2, _, _, _, rfl, T.exc _ hn, (hd.sb (SB.new ht1 _)).sb (SB.new ht2 _), rfl, upd_same, paired_refs ["NotEndless", "NoWorths", "NoDrop", "NoReach", "TooLong", "NoRow", "NoName"], T.no hn (ms := ["NotEndless", "NoWorths", "NoDrop", "NoReach", "TooLong", "NoRow", "NoName"]) (by decide +kernel) (by decide +kernel), ?_⟩
  refine ⟨_, rfl, _, rfl, iteF ⟨_, rfl, _, rfl, iteF ?_⟩⟩
  refine ⟨_, rfl, by show 2 ≤ sizeLine; decide, fun t3 ht3 => ?_⟩
  refine ⟨_, t3, _, _, _, rfl, T.exc _ hn, ((hd.sb (SB.new ht1 _)).sb (SB.new ht2 _)).sb (SB.new ht3 _), rfl, upd_same, paired_refs ["Endless", "NoBook"], T.no hn (ms := ["Endless", "NoBook"]) (by decide +kernel) (by decide +kernel), ?_⟩
  exact q _ (((SB.new ht1 _).trans (SB.new ht2 _)).trans (SB.new ht3 _))
abbrev N__law_asked : List Str := ["_law_book", "_law_name", "_law_door"]
theorem sc__law_asked : FnScope N__law_asked ["_law_book", "_law_name", "_law_door"] (defScope s__law_asked) := ⟨rfl, rfl, rfl, by decide +kernel, rfl, by decide +kernel, by decide +kernel⟩
theorem ok__law_asked {C_Book C_NoKind : Addr} (B : BI mg) (G_Book_spreads : GotMX P w K mg base C_Book "spreads" ["self", "name"] (4) (spBSpreads K C_Book C_NoKind)) (G_Book_rules : GotMX P w K mg base C_Book "rules" ["self", "name"] (4) (spBRules K C_Book C_NoKind)) (G_leads : GotX P w K mg base "leads" ["book", "name"] (23) (spLeads K C_Book C_NoKind)) (G_way_round : GotX P w K mg base "way_round" ["book", "name"] (24) (spRound K C_Book C_NoKind)) (F : Fun K "_law_asked" "_law_asked" s__law_asked f fd) : FnOk P w K mg base (L2.CX P w) (30) f fd ["_law_book", "_law_name", "_law_door"] (spAsked23 K C_Book C_NoKind) := by
  refine F.okX sc__law_asked (fun vs H Q E h => ?_) (fun cdv A outer s H vs Q E hr h => ?_)
  · obtain ⟨v, b, n, i, rfl, _⟩ := h
    rfl
  obtain ⟨v, b, n, i, rfl, hv, ok, hn, q⟩ := h
  have hun2 : A.units + 3 + 200 < cLine := by have := hr.un; have h3 : (A.deeper (envOfC "_law_asked" (defScope s__law_asked) s.heap.objs.size f cdv)).units = A.units + 3 := rfl; omega
  refine ⟨_, pss_cons (ps_if (pt_cmpR op_eq (pv 2) pe_int (nomark _)) (pss_one (ps_ret (pe_gotMS G_Book_spreads (hr.mono (by omega)) (takes_of rfl rfl rfl rfl) (pv 0) (pa_cons (pv 1) pa_nil)))) pss_nil)
    (pss_cons (ps_if (pt_cmpR op_eq (pv 2) pe_int (nomark _)) (pss_one (ps_ret (pe_gotMS G_Book_rules (hr.mono (by omega)) (takes_of rfl rfl rfl rfl) (pv 0) (pa_cons (pv 1) pa_nil)))) pss_nil)
    (pss_cons (ps_if (pt_cmpR op_eq (pv 2) pe_int (nomark _)) (pss_one (ps_ret (pe_gotS G_leads (hr.mono (by omega)) rfl (takes_of rfl rfl rfl rfl) (pa_cons (pv 0) (pa_cons (pv 1) pa_nil))))) pss_nil)
    (pss_one (ps_ret (pe_gotS G_way_round (hr.mono (by omega)) rfl (takes_of rfl rfl rfl rfl) (pa_cons (pv 0) (pa_cons (pv 1) pa_nil))))))), ?_⟩
  obtain ⟨va, vdx, vd1, vd2, rfl, hva⟩ := hv.at
  have b8 := ok.len
  have r8 : ∀ k ∈ b, k.rs.length ≤ 1000 := fun k hk => Nat.le_trans (ok.kd k hk).2.1 (by omega)
  have nk : ∀ {p : Kd → Prop} (k : Kd), b.get n = some k → p k := fun k e => by rw [hn] at e; cases e
  refine ⟨_, rfl, rfl, _, rfl, ?_⟩
  by_cases h0 : i = 0
  · subst h0
    refine iteT ⟨_, rfl, va, vdx, _, rfl, hva, rfl, _, rfl, ?_⟩
    refine nilI ?_
    exact ⟨.ref va, b, n, rfl, hv, by omega, nk, fun _ d H' s nd hd => q d H' s nd hd⟩
  rw [show decide (V.int i = V.int 0) = false from decide_eq_false fun z => h0 (V.int.inj z)]
  refine iteF (nextI ⟨_, rfl, rfl, _, rfl, ?_⟩)
  by_cases h1 : i = 1
  · subst h1
    refine iteT ⟨_, rfl, va, vdx, _, rfl, hva, rfl, _, rfl, ?_⟩
    refine nilI ?_
    exact ⟨.ref va, b, n, rfl, hv, by omega, r8, nk, fun _ d H' s nd hd => q d H' s nd hd⟩
  rw [show decide (V.int i = V.int 1) = false from decide_eq_false fun z => h1 (V.int.inj z)]
  refine iteF (nextI ⟨_, rfl, rfl, _, rfl, ?_⟩)
  by_cases h2 : i = 2
  · subst h2
    exact iteT ⟨_, rfl, _, rfl, .ref va, b, n, rfl, hv, ok, nk, fun _ d H' s nd hd => q d H' s nd hd⟩
  rw [show decide (V.int i = V.int 2) = false from decide_eq_false fun z => h2 (V.int.inj z)]
  exact iteF (nextI ⟨_, rfl, _, rfl, .ref va, b, n, rfl, hv, ok, nk, fun _ d H' s nd hd => q d H' s nd hd⟩)
abbrev N__law_refused : List Str := ["_law_book", "_law_name", "_law_door", "_law_own", "_law_error"]
theorem sc__law_refused : FnScope N__law_refused ["_law_book", "_law_name", "_law_door"] (defScope s__law_refused) := ⟨rfl, rfl, rfl, by decide +kernel, rfl, by decide +kernel, by decide +kernel⟩
theorem ok__law_refused {C_Book : Addr} {c : Str → Addr} (B : BI mg) (T : ErrsM K mg c eC eN eK) (G__law_asked : GotX P w K mg base "_law_asked" ["_law_book", "_law_name", "_law_door"] (30) (spAsked23 K C_Book (c "NoKind"))) (G__law_of_others : GotP P w K mg base "_law_of_others" ["_law_error"] (1) (spOthers K c eC)) (F : Fun K "_law_refused" "_law_refused" s__law_refused f fd) : FnOk P w K mg base CX0 (31) f fd ["_law_book", "_law_name", "_law_door"] (spRef23 K C_Book) := by
  refine F.ok sc__law_refused (fun vs H Q E h => ?_) (fun cdv A outer s H vs Q E hr h => ?_)
  · obtain ⟨v, b, n, i, rfl, _⟩ := h
    rfl
  obtain ⟨v, b, n, i, rfl, hv, ok, hn, q⟩ := h
  have hun2 : A.units + 3 + 200 < cLine := by have := hr.un; have h3 : (A.deeper (envOfC "_law_refused" (defScope s__law_refused) s.heap.objs.size f cdv)).units = A.units + 3 := rfl; omega
  refine ⟨_, pss_cons (ps_set (i := 3) sc__law_refused.nd rfl (.inl rfl) pe_non)
    (pss_cons (ps_try_as (i := 4) (tb := fun W => tDrop (tCallS (spAsked23 K C_Book (c "NoKind")) (WE W) (tCons (tVar 0) (tCons (tVar 1) (tCons (tVar 2) tNil))))) (ts := fun a cls d => (tSeq (tAsg (tLst (tCons (tCB (rIsEg K a cls d) (tCons (tVar 4) (tCons (tC (.ref (c "NoKind"))) tNil))) (tCons (tCB (rIsEg K a cls d) (tCons (tVar 4) (tCons (tC (.ty "ValueError")) tNil))) (tCons (tCallP (spOthers K c eC) a cls d (tCons (tVar 4) tNil)) tNil)))) (gName 3)) (tIfS (tTest (tOp (rEqD K) (tVar 3) (tLst (tCons (tC (.bl true)) (tCons (tC (.bl true)) (tCons (tC (.bl false)) tNil)))))) (tDrop (tBM K "list" rAppend (tVar 3) (tCons (tAndV (tCB (rIsiN K) (tCons (tXfg K a cls d "kind" (tVar 4)) (tCons (tC (.ty "str")) tNil))) (tOp rEq (tXfg K a cls d "kind" (tVar 4)) (tVar 1))) tNil))) tNext))) (Wout := fun _ _ _ _ => False) rfl rfl sc__law_refused.nd rfl rfl ⟨rfl, by decide, Or.inl T.FellError⟩ takes0
      (fun W pn xe tk _ => pss_one (ps_expr (by exact (pe_gotS G__law_asked (hr.mono (by omega)) rfl tk (pa_cons (pv 0) (pa_cons (pv 1) (pa_cons (pv 2) pa_nil)))))))
      (fun a oe cls d pn hz hf => by exact (pss_cons (ps_set (i := 3) sc__law_refused.nd rfl (.inl rfl) (pe_lst (pa_cons (pe_callB (call_isEg (.head _) hz hf) rfl B.isinstance boot_isinstance (pa_cons (pv 4) (pa_cons (pe_glob (v := .ref (c "NoKind")) rfl (T.glo "NoKind" (.tail _ (.tail _ (.tail _ (.tail _ (.tail _ (.head _))))))) rfl) pa_nil))) (pa_cons (pe_callB (call_isEg (.head _) hz hf) rfl B.isinstance boot_isinstance (pa_cons (pv 4) (pa_cons (pe_ty (T' := "ValueError") rfl T.ve rfl) pa_nil))) (pa_cons (pe_gotP G__law_of_others (hr.sui (by omega)) rfl (.head _) hz hf (pa_cons (pv 4) pa_nil)) pa_nil)))))
    (pss_one (ps_if (pt_cmpR (op_eqD (by show A.units + 3 + 64 < cLine; omega)) (pv 3) (pe_lst (pa_cons pe_bl (pa_cons pe_bl (pa_cons pe_bl pa_nil)))) (nomark _)) (pss_one (ps_expr (pe_bm PySem.F.plainAttrs_list PySem.F.slot_list_append PySem.F.type_list_append mt_append (pv 3) (pa_cons (pe_and (pe_isi B (pe_xfg (.head _) hz hf (pv 4)) B.str boot_str) (pe_one (pe_cmpR op_eq (pe_xfg (.head _) hz hf (pv 4)) (pv 1) (nomark _)))) pa_nil)))) pss_nil)))))
    (pss_one (ps_ret (pe_cmpR (op_eqD (by show A.units + 3 + 64 < cLine; omega)) (pv 3) (pe_lst (pa_cons pe_bl (pa_cons pe_bl (pa_cons pe_bl (pa_cons pe_bl pa_nil))))) (nomark _))))), ?_⟩
  refine ⟨_, rfl, _, rfl, _, rfl, v, b, n, i, rfl, hv, ok, hn, fun d H1 s1 nd hd => ?_⟩
  refine ⟨true, T.exm _ (.head _), fun _ x hx => ?_, fun z => nomatch z⟩
  refine ⟨_, rfl, _, _, _, true, rfl, T.exc _ (.head _), .inr ⟨d, _, rfl, hd⟩, rfl, fun u r => r, T.is (.head _) (by decide +kernel), ?_⟩
  refine ⟨_, rfl, _, _, _, true, rfl, T.exc _ (.head _), .inr ⟨d, _, rfl, hd⟩, rfl, fun u r => r, T.kve _ (.head _), ?_⟩
  refine ⟨_, rfl, fun oe hz hf => ⟨"NoKind", some d, rfl, hz, hf, .head _, .inr ⟨d, _, rfl, hd⟩, fun H2 s2 => ?_⟩⟩
  refine ⟨by show 3 ≤ sizeLine; decide, fun L nL => ?_⟩
  have t3 := SB.new (ps := []) nL (.lst [.bl true, .bl true, .bl false])
  have hL : upd H2 L (.lst [.bl true, .bl true, .bl false]) L = some (.lst [.bl true, .bl true, .bl false]) := upd_same
  have hd3 := (s2.trans t3).keep _ _ hd List.not_mem_nil
  have s03 := (s1.trans s2).trans t3
  have nL0 := (s1.trans s2).dom _ nL
  generalize upd H2 L (.lst [.bl true, .bl true, .bl false]) = H3 at t3 hL hd3 s03
  refine ⟨_, rfl, by show 3 ≤ sizeLine; decide, fun M nM => ?_⟩
  have t4 := SB.new (ps := []) nM (.lst [.bl true, .bl true, .bl false])
  have hL4 := t4.keep _ _ hL List.not_mem_nil
  refine ⟨.list [.bool true, .bool true, .bool false], .list [.bool true, .bool true, .bool false], Dp.lst (SqL.of hL4) (.cons (.bl _) (.cons (.bl _) (.cons (.bl _) .nil))), Dp.lst (SqL.of upd_same) (.cons (.bl _) (.cons (.bl _) (.cons (.bl _) .nil))), by decide +kernel, by decide +kernel, ?_⟩
  rw [show PyData.eqv (.list [.bool true, .bool true, .bool false]) (.list [.bool true, .bool true, .bool false]) = true by decide +kernel]
  refine ⟨_, rfl, iteT ?_⟩
  have hd4 := t4.keep _ _ hd3 List.not_mem_nil
  have s04 := s03.trans t4
  generalize upd H3 M (.lst [.bl true, .bl true, .bl false]) = H4 at t4 hL4 hd4 s04
  refine ⟨_, rfl, .inl ⟨rfl, _, SqL.of hL4⟩, ?_⟩
  refine ⟨_, rfl, _, d, _, .str n, rfl, rfl, T.exc _ (.head _), T.nok _ (.head _), rfl, hd4, rfl, ?_⟩
  refine ⟨_, _, "str", true, rfl, .base (.str _), by decide +kernel, _, rfl, iteT ?_⟩
  refine ⟨_, rfl, _, d, _, .str n, rfl, rfl, T.exc _ (.head _), T.nok _ (.head _), rfl, hd4, rfl, _, rfl, rfl, ?_⟩
  rw [decide_eq_true rfl]
  refine ⟨L, _, _, rfl, rfl, hL4, by show 3 < sizeLine; decide, ?_⟩
  have t5 := SB.set (ps := [L]) hL4 (by simp) (.lst ([.bl true, .bl true, .bl false] ++ [V.bl true]))
  have hL5 : upd H4 L (.lst ([.bl true, .bl true, .bl false] ++ [V.bl true])) L = some (.lst [.bl true, .bl true, .bl false, .bl true]) := upd_same
  have s05 : SB [L] H _ := s04.nil.trans t5
  generalize upd H4 L (.lst ([.bl true, .bl true, .bl false] ++ [V.bl true])) = H5 at t5 hL5 s05
  refine ⟨_, rfl, by show 4 ≤ sizeLine; decide, fun N nN => ?_⟩
  have t6 := SB.new (ps := []) nN (.lst [.bl true, .bl true, .bl false, .bl true])
  refine ⟨.list [.bool true, .bool true, .bool false, .bool true], .list [.bool true, .bool true, .bool false, .bool true], Dp.lst (SqL.of (t6.keep _ _ hL5 List.not_mem_nil)) (.cons (.bl _) (.cons (.bl _) (.cons (.bl _) (.cons (.bl _) .nil)))), Dp.lst (SqL.of upd_same) (.cons (.bl _) (.cons (.bl _) (.cons (.bl _) (.cons (.bl _) .nil)))), by decide +kernel, by decide +kernel, ?_⟩
  exact q _ ((s05.trans t6.nil).drop nL0)
abbrev N__law_strangers : List Str := ["_law_called", "_law_at", "_law_letters", "_law_name", "_law_found", "_law_one"]
theorem sc__law_strangers : FnScope N__law_strangers ["_law_called", "_law_at"] (defScope s__law_strangers) := ⟨rfl, rfl, rfl, by decide +kernel, rfl, by decide +kernel, by decide +kernel⟩
theorem ok__law_strangers (B : BI mg) (F : Fun K "_law_strangers" "_law_strangers" s__law_strangers f fd) : FnOk P w K mg base CX0 (1) f fd ["_law_called", "_law_at"] (spStrangers K) := by
  refine F.ok sc__law_strangers (fun vs H Q E h => ?_) (fun cdv A outer s H vs Q E hr h => ?_)
  · obtain ⟨l, ns, k, rfl, _⟩ := h
    rfl
  obtain ⟨l, ns, k, rfl, hl, ne, n8, hn, q⟩ := h
  have hun2 : A.units + 3 + 200 < cLine := by have := hr.un; have h3 : (A.deeper (envOfC "_law_strangers" (defScope s__law_strangers) s.heap.objs.size f cdv)).units = A.units + 3 := rfl; omega
  refine ⟨_, pss_cons (ps_set (i := 2) sc__law_strangers.nd rfl (.inl rfl) pe_str)
    (pss_cons (ps_set (i := 3) sc__law_strangers.nd rfl (.inl rfl) (pe_ix ix_list (pv 0) (pe_op op_mod (pv 1) (pe_callB call_len_seq rfl B.len PySem.boot_len (pa_cons (pv 0) pa_nil))) (fun _ _ => rfl)))
    (pss_cons (ps_set (i := 4) sc__law_strangers.nd rfl (.inl rfl) (pe_lst (pa_cons pe_str (pa_cons pe_str (pa_cons (pe_op op_add_str (pv 3) pe_str) (pa_cons (pe_op op_add_str pe_str (pv 3)) (pa_cons (pe_op op_add_str (pe_op op_add_str (pv 3) pe_str) (pv 3)) (pa_cons (pe_slice sl_str (pv 3) po_none (po_some (pe_un un_neg pe_int))) (pa_cons (pe_slice sl_str (pv 3) (po_some pe_int) po_none) (pa_cons pe_str (pa_cons pe_str (pa_cons (pe_op op_add_str (pe_op op_add_str (pv 3) pe_str) (pv 3)) (pa_cons pe_str (pa_cons pe_str (pa_cons (pe_upper (pv 3)) pa_nil)))))))))))))))
    (pss_cons (ps_expr (pe_bm PySem.F.plainAttrs_list PySem.F.slot_list_append PySem.F.type_list_append mt_append (pv 4) (pa_cons (pe_op op_add_str (pe_slice sl_str (pv 3) po_none (po_some (pe_un un_neg pe_int))) (pe_ix ix_str (pv 2) (pe_op op_mod (pe_op op_add (pe_m1 PySem.F.slot_str_index PySem.F.type_str_index mt_sindex (pv 2) (pe_ix ix_str (pv 3) (pe_un un_neg pe_int) (fun _ _ => rfl))) pe_int) pe_int) (fun _ _ => rfl))) pa_nil)))
    (pss_one (ps_ret (pe_lc (own := [("_law_one", 5)]) (g := (gName 5)) (tt := (tTest (tOp (rIn K true) (tVar 5) (tVar 0)))) (te := (tVar 5)) rfl sc__law_strangers.nd (pi_list (pv 4)) (blkOk_by (N := N__law_strangers) (sc := defScope s__law_strangers) (by decide +kernel)) (fun _ _ _ _ _ => (pg_name (i := 5) sc__law_strangers.nd rfl (.inl rfl))) (fun _ _ _ _ _ => (pts_one (pt_cmpR op_notIn_seq (pv 5) (pv 0) (by rfl)))) (fun _ _ _ _ _ => (pv 5)))))))), ?_⟩
  have szl := sizeLine_eq
  have hpos : 0 < ns.length := List.length_pos_iff.mpr ne
  have hlt : k % ns.length < ns.length := Nat.mod_lt _ hpos
  obtain ⟨z, ez⟩ : ∃ z, ns[k % ns.length]? = some z := ⟨_, List.getElem?_eq_getElem hlt⟩
  have zok := hn z (List.mem_of_getElem? ez)
  have z8 : z.length ≤ 8 := zok.2.1
  have hat : atI (ns.map V.str) ((k : Int) % ((ns.map V.str).length : Nat)) = some (.str z) := by
    rw [List.length_map, ← Int.natCast_emod]
    exact atI_nat (by rw [List.getElem?_map, ez]; rfl)
  refine ⟨_, rfl, _, rfl, _, rfl, l, _, rfl, .inl (SqL.of hl), _, _, rfl, rfl, by rw [List.length_map]; omega, l, _, _, _, rfl, rfl, SqL.of hl, hat, ?_⟩
  have c1 := cutS_len z none (some (-1))
  have c2 := cutS_len z (some 1) none
  have c3 := PyProof.Rows.len_upper z
  refine ⟨_, rfl, _, _, rfl, rfl, by show z.length + 1 ≤ _; omega, _, rfl, _, _, rfl, rfl, by show 1 + z.length ≤ _; omega, _, rfl, _, _, rfl, rfl, by show z.length + 1 ≤ _; omega, _, rfl, _, _, rfl, rfl, by rw [app_len]; show z.length + 1 + _ ≤ _; omega, ?_⟩
  refine ⟨_, rfl, 1, rfl, _, rfl, _, rfl, by omega, _, rfl, _, rfl, _, rfl, by omega, ?_⟩
  refine ⟨_, rfl, _, _, rfl, rfl, by show z.length + 2 ≤ _; omega, _, rfl, _, _, rfl, rfl, by rw [app_len]; show z.length + 2 + _ ≤ _; omega, ?_⟩
  refine ⟨_, rfl, ⟨_, rfl⟩, _, rfl, rfl, by omega, by show 13 ≤ sizeLine; decide, fun F nF => ?_⟩
  have hx : ∃ j : Nat, j < 26 ∧ atI z.cps.toList (-1) = some (97 + j) := last_sign zok
  obtain ⟨j, hj, hlast⟩ := hx
  obtain ⟨cc, ecc, _⟩ := abc_at ((j + 1) % 26) (Nat.mod_lt _ (by decide))
  have hcc : atI abc.cps.toList ((((j : Nat) : Int) + 1) % 26) = some cc := by
    rw [show (((j : Nat) : Int) + 1) % 26 = (((j + 1) % 26 : Nat) : Int) by omega]
    exact atI_natN ecc
  obtain ⟨fs, efs⟩ : ∃ fs : List Str, fs = [Str.ofString "", Str.ofString " ", z ++ Str.ofString " ", Str.ofString " " ++ z, z ++ Str.ofString "s" ++ z, cutS z none (some (-1)), cutS z (some 1) none, Str.ofString "A", Str.ofString "a1", z ++ Str.ofString ", " ++ z, Str.ofString "-", Str.ofString "once", Txt.upper z] := ⟨_, rfl⟩
  have fl : fs.length = 13 := by rw [efs]; rfl
  have tF := SB.new (ps := []) nF (.lst (fs.map V.str))
  have hF : upd H F (.lst (fs.map V.str)) F = some (.lst (fs.map V.str)) := upd_same
  have fall : ∀ s ∈ fs, s.length ≤ 1000 := by
    rw [efs]
    intro s hs
    simp only [List.mem_cons, List.not_mem_nil, or_false] at hs
    rcases hs with e | e | e | e | e | e | e | e | e | e | e | e | e <;> rw [e]
    · decide +kernel
    · decide +kernel
    · rw [app_len]; show z.length + 1 ≤ _; omega
    · rw [app_len]; show 1 + z.length ≤ _; omega
    · rw [app_len, app_len]; show z.length + 1 + _ ≤ _; omega
    · omega
    · omega
    · decide +kernel
    · decide +kernel
    · rw [app_len, app_len]; show z.length + 2 + _ ≤ _; omega
    · decide +kernel
    · decide +kernel
    · omega
  have fe : Str.ofString "" ∈ fs := by rw [efs]; exact List.mem_cons_self
  have eF : upd H F (.lst [.str "", .str " ", .str (z ++ " "), .str (" " ++ z), .str (z ++ "s" ++ z), .str (cutS z none (some (-1))), .str (cutS z (some 1) none), .str "A", .str "a1", .str (z ++ ", " ++ z), .str "-", .str "once", .str (Txt.upper z)]) = upd H F (.lst (fs.map V.str)) := by rw [efs]; rfl
  show gName 4 (.ref F) _ (upd H F (.lst [.str "", .str " ", .str (z ++ " "), .str (" " ++ z), .str (z ++ "s" ++ z), .str (cutS z none (some (-1))), .str (cutS z (some 1) none), .str "A", .str "a1", .str (z ++ ", " ++ z), .str "-", .str "once", .str (Txt.upper z)])) _
  rw [eF]
  generalize upd H F (.lst (fs.map V.str)) = H1 at tF hF
  refine nameI ⟨_, rfl, .inl ⟨rfl, _, SqL.of hF⟩, ?_⟩
  refine ⟨_, rfl, 1, rfl, _, rfl, _, rfl, by omega, _, rfl, _, rfl, ⟨_, rfl⟩, _, rfl, 1, rfl, _, _, _, rfl, rfl, by omega, hlast, _, _, j, [], rfl, rfl, abc_index ⟨j, hj⟩, _, _, rfl, rfl, _, _, rfl, rfl, by show (0 : Int) < 26; decide, _, _, cc, rfl, rfl, abc_len, hcc, _, _, rfl, rfl, by show (cutS z none (some (-1))).length + 1 ≤ _; omega, ?_⟩
  refine ⟨F, _, _, rfl, rfl, hF, by rw [List.length_map]; omega, ?_⟩
  have t2 := SB.set (ps := [F]) hF (by simp) (.lst (fs.map V.str ++ [V.str (cutS z none (some (-1)) ++ ⟨#[cc]⟩)]))
  have hF2 : upd H1 F (.lst (fs.map V.str ++ [V.str (cutS z none (some (-1)) ++ ⟨#[cc]⟩)])) F = some (.lst ((fs ++ [cutS z none (some (-1)) ++ ⟨#[cc]⟩]).map V.str)) := by rw [upd_same, List.map_append]; rfl
  have s2 : SB [] H _ := (tF.nil.trans t2).drop nF
  have ll : (cutS z none (some (-1)) ++ ⟨#[cc]⟩ : Str).length ≤ 1000 := by rw [app_len]; show (cutS z none (some (-1))).length + 1 ≤ _; omega
  generalize upd H1 F (.lst (fs.map V.str ++ [V.str (cutS z none (some (-1)) ++ ⟨#[cc]⟩)])) = H2 at t2 hF2 s2
  generalize cutS z none (some (-1)) ++ ⟨#[cc]⟩ = y0 at hF2 ll
  have hl2 := s2.keep _ _ hl List.not_mem_nil
  refine ⟨_, rfl, F, rfl, ⟨_, SqL.of hF2⟩, fun D nD => ?_⟩
  refine lc_seqQ (walk_list (xs := (fs ++ [y0]).map V.str)) [] nD (by simp) (by rw [List.length_map, List.length_append, List.length_singleton]; omega) (fun i us _ => us = (((fs ++ [y0]).take i).filter fun s => decide (s ∉ ns)).map V.str) rfl (fun H3 s3 => s3.sqL List.not_mem_nil (SqL.of hF2)) (fun _ _ _ _ _ h => h) (fun Pv i x Hq H3 us hi s3 y hR hu hE3 fin skip => ?_) (fun us H3 s3 hD3 hR hul => ?_)
  · obtain ⟨rfl, ex⟩ := y
    rw [List.getElem?_map] at ex
    obtain ⟨s, es, rfl⟩ := Option.map_eq_some_iff.mp ex
    have hst := filt_step (fun s => decide (s ∉ ns)) es
    refine ⟨rfl, _, rfl, _, rfl, l, _, rfl, .inl (SqL.of (s3.keep _ _ hl2 List.not_mem_nil)), rfl, flat_strs _, _, rfl, ?_⟩
    rw [if_pos rfl, inV_strs]
    by_cases h1 : s ∈ ns
    · rw [decide_eq_true h1]
      refine iteF (skip _ SB.refl ?_)
      rw [hst, if_neg (fun z => (of_decide_eq_true z : s ∉ ns) h1), hR, List.append_nil]
    · rw [decide_eq_false h1]
      refine iteT ⟨_, rfl, fin _ _ SB.refl ?_⟩
      rw [hst, if_pos (decide_eq_true h1), hR]
  · rw [List.length_map, List.take_length] at hR
    subst hR
    refine q D _ H3 (s2.trans s3) (s2.dom _ nD) hD3 (fun e => ?_) (Nat.le_trans (List.length_filter_le _ _) (by rw [List.length_append, List.length_singleton]; omega)) (fun s hs => ?_)
    · have m : Str.ofString "" ∈ (fs ++ [y0]).filter fun s => decide (s ∉ ns) := List.mem_filter.mpr ⟨List.mem_append_left _ fe, decide_eq_true fun z => by have := (hn _ z).1; revert this; decide +kernel⟩
      rw [e] at m; cases m
    · obtain ⟨m, h⟩ := List.mem_filter.mp hs
      refine ⟨of_decide_eq_true h, ?_⟩
      rcases List.mem_append.mp m with m | m
      · exact fall s m
      · rw [List.mem_singleton.mp m]; exact ll
abbrev N__law_is_word : List Str := ["_law_one", "_law_sign"]
theorem sc__law_is_word : FnScope N__law_is_word ["_law_one"] (defScope s__law_is_word) := ⟨rfl, rfl, rfl, by decide +kernel, rfl, by decide +kernel, by decide +kernel⟩
theorem ok__law_is_word (B : BI mg) (F : Fun K "_law_is_word" "_law_is_word" s__law_is_word f fd) : FnOk P w K mg base CX0 (1) f fd ["_law_one"] (spWord23 K) := by
  refine F.ok sc__law_is_word (fun vs H Q E h => ?_) (fun cdv A outer s H vs Q E hr h => ?_)
  · obtain ⟨z, rfl, _⟩ := h
    rfl
  obtain ⟨z, rfl, hz, q⟩ := h
  have hun2 : A.units + 3 + 200 < cLine := by have := hr.un; have h3 : (A.deeper (envOfC "_law_is_word" (defScope s__law_is_word) s.heap.objs.size f cdv)).units = A.units + 3 := rfl; omega
  refine ⟨_, pss_one (ps_ret (pe_and (pe_chain op_le op_le pe_int (pe_callB call_len_str rfl B.len PySem.boot_len (pa_cons (pv 0) pa_nil)) pe_int) (pe_one (pe_callB (cr_all rfl) rfl B.all boot_all (pa_cons (pe_lc (own := [("_law_sign", 1)]) (g := (gName 1)) (tt := tYes) (te := (tOp (fun x y H Q => ∃ (c : Nat) (z : Str), x = .str ⟨#[c]⟩ ∧ y = .str z ∧ Q (.bl (decide (c ∈ z.cps.toList))) H) (tVar 1) (tC (.str "abcdefghijklmnopqrstuvwxyz")))) rfl sc__law_is_word.nd (pi_str (pv 0)) (blkOk_by (N := N__law_is_word) (sc := defScope s__law_is_word) (by decide +kernel)) (fun _ _ _ _ _ => (pg_name (i := 1) sc__law_is_word.nd rfl (.inl rfl))) (fun _ _ _ _ _ => pts_nil) (fun _ _ _ _ _ => (pe_cmpR op_in_sign (pv 1) pe_str (by rfl)))) pa_nil))))), ?_⟩
  have szl := sizeLine_eq
  have zl : z.length ≤ sizeLine := by omega
  have lc : z.cps.toList.length = z.length := len_cps z
  have no : ¬ (1 ≤ z.length ∧ z.length ≤ 8) → decide (NameOk z) = false := fun h => decide_eq_false fun e => h ⟨by rw [← lc]; exact e.1, by rw [← lc]; exact e.2.1⟩
  refine ⟨_, rfl, z, rfl, zl, _, _, rfl, rfl, _, rfl, ?_⟩
  by_cases h1 : 1 ≤ z.length
  · rw [show decide ((1 : Int) ≤ (z.length : Nat)) = true from decide_eq_true (by omega)]
    refine iteT ⟨_, _, rfl, rfl, _, rfl, ?_⟩
    by_cases h8 : z.length ≤ 8
    · rw [show decide (((z.length : Nat) : Int) ≤ 8) = true from decide_eq_true (by omega)]
      refine iteT ⟨_, rfl, z, rfl, fun D nD => ?_⟩
      refine lc_seq (walk_str (z := z)) nD (by show z.length < _; omega) (fun i us _ => us = ((z.cps.toList.take i).map fun c => decide (c ∈ abc.cps.toList)).map V.bl) rfl (fun _ _ => trivial) (fun _ _ _ _ _ h => h) (fun Pv i x Hq H3 us hi s3 y hR hu fin skip => ?_) (fun us H3 s3 hD3 hR hul => ?_)
      · obtain ⟨rfl, cc, ec, rfl⟩ := y
        refine ⟨rfl, _, rfl, cc, _, rfl, rfl, fin _ _ SB.refl ?_⟩
        have ec' : z.cps.toList[i]? = some cc := by rw [Array.getElem?_toList]; exact ec
        rw [hR, List.take_add_one, ec']
        simp
      · rw [show z.cps.size = z.cps.toList.length by simp, List.take_length] at hR
        refine ⟨D, _, rfl, SqL.of (hR ▸ hD3), ?_⟩
        rw [show (z.cps.toList.map fun c => decide (c ∈ abc.cps.toList)).all id = decide (NameOk z) by
          rw [List.all_map]
          by_cases h : NameOk z
          · rw [decide_eq_true h]
            exact List.all_eq_true.mpr fun c hc => decide_eq_true ((mem_abc c).mpr (h.2.2 c hc))
          · rw [decide_eq_false h]
            refine Bool.eq_false_iff.mpr fun e => h ⟨by omega, by omega, fun c hc => (mem_abc c).mp (of_decide_eq_true (List.all_eq_true.mp e c hc))⟩]
        exact q _ s3
    · rw [show decide (((z.length : Nat) : Int) ≤ 8) = false from decide_eq_false (by omega)]
      rw [no (by omega)] at q
      exact iteF (q _ SB.refl)
  · rw [show decide ((1 : Int) ≤ (z.length : Nat)) = false from decide_eq_false (by omega)]
    rw [no (by omega)] at q
    exact iteF ⟨_, rfl, iteF (q _ SB.refl)⟩
abbrev N__law_told : List Str := ["_law_book", "_law_kinds_here", "_law_kind"]
theorem sc__law_told : FnScope N__law_told ["_law_book", "_law_kinds_here"] (defScope s__law_told) := ⟨rfl, rfl, rfl, by decide +kernel, rfl, by decide +kernel, by decide +kernel⟩
theorem ok__law_told {C_Book C_NoKind : Addr} (B : BI mg) (G_Book_names : GotM P w K mg base C_Book "names" ["self"] (1) (spBNames K C_Book)) (G_Book_spreads : GotMX P w K mg base C_Book "spreads" ["self", "name"] (4) (spBSpreads K C_Book C_NoKind)) (G_Book_rules : GotMX P w K mg base C_Book "rules" ["self", "name"] (4) (spBRules K C_Book C_NoKind)) (F : Fun K "_law_told" "_law_told" s__law_told f fd) : FnOk P w K mg base CX0 (40) f fd ["_law_book", "_law_kinds_here"] (spGood24 K C_Book) := by
  refine F.ok sc__law_told (fun vs H Q E h => ?_) (fun cdv A outer s H vs Q E hr h => ?_)
  · obtain ⟨v, b, l, xs, rfl, _⟩ := h
    rfl
  obtain ⟨v, b, l, xs, rfl, hv, hl, ha, ok, q⟩ := h
  have hun2 : A.units + 3 + 200 < cLine := by have := hr.un; have h3 : (A.deeper (envOfC "_law_told" (defScope s__law_told) s.heap.objs.size f cdv)).units = A.units + 3 := rfl; omega
  refine ⟨_, pss_cons (ps_if (pt_cmpR (op_neD (by show A.units + 3 + 64 < cLine; omega)) (pe_gotM0 G_Book_names (hr.mono (by omega)) (pv 0)) (pe_lc (own := [("_law_kind", 2)]) (g := (gName 2)) (tt := tYes) (te := (tOp (rIxT K) (tVar 2) (tC (.int 0)))) rfl sc__law_told.nd (pi_list (pv 1)) (blkOk_by (N := N__law_told) (sc := defScope s__law_told) (by decide +kernel)) (fun _ _ _ _ _ => (pg_name (i := 2) sc__law_told.nd rfl (.inl rfl))) (fun _ _ _ _ _ => pts_nil) (fun _ _ _ _ _ => (pe_ix ix_tup (pv 2) pe_int (fun _ _ => rfl)))) (nomark _)) (pss_one (ps_ret pe_bl)) pss_nil)
    (pss_one (ps_ret (pe_callB (cr_all rfl) rfl B.all boot_all (pa_cons (pe_lc (own := [("_law_kind", 2)]) (g := (gName 2)) (tt := tYes) (te := (tAndV (tOp rEq (tMethZ C_Book "spreads" (spBSpreads K C_Book C_NoKind) (fun _ => E0) (tVar 0) (tCons (tOp (rIxT K) (tVar 2) (tC (.int 0))) tNil)) (tOp (rIxT K) (tVar 2) (tC (.int 1)))) (tOp (rEqD K) (tMethZ C_Book "rules" (spBRules K C_Book C_NoKind) (fun _ => E0) (tVar 0) (tCons (tOp (rIxT K) (tVar 2) (tC (.int 0))) tNil)) (tOp (rIxT K) (tVar 2) (tC (.int 2)))))) rfl sc__law_told.nd (pi_list (pv 1)) (blkOk_by (N := N__law_told) (sc := defScope s__law_told) (by decide +kernel)) (fun _ _ _ _ _ => (pg_name (i := 2) sc__law_told.nd rfl (.inl rfl))) (fun _ _ _ _ _ => pts_nil) (fun _ _ _ _ _ => (pe_and (pe_cmpR op_eq (pe_gotMX G_Book_spreads (hr.mono (by omega)) (pv 0) (pa_cons (pe_ix ix_tup (pv 2) pe_int (fun _ _ => rfl)) pa_nil)) (pe_ix ix_tup (pv 2) pe_int (fun _ _ => rfl)) (nomark _)) (pe_one (pe_cmpR (op_eqD (by show A.units + 3 + 64 < cLine; omega)) (pe_gotMX G_Book_rules (hr.mono (by omega)) (pv 0) (pa_cons (pe_ix ix_tup (pv 2) pe_int (fun _ _ => rfl)) pa_nil)) (pe_ix ix_tup (pv 2) pe_int (fun _ _ => rfl)) (nomark _)))))) pa_nil)))), ?_⟩
  have szl := sizeLine_eq
  have b8 := ok.len
  have xl := ha.length
  have nml : b.names.length = b.length := List.length_map ..
  have r8 : ∀ k ∈ b, k.rs.length ≤ 1000 := fun k hk => Nat.le_trans (ok.kd k hk).2.1 (by omega)
  obtain ⟨va, vdx, vd1, vd2, rfl, hva⟩ := hv.at
  refine ⟨_, rfl, va, vdx, _, rfl, hva, rfl, _, b, rfl, hv, by omega, fun cl H1 s1 ncl hcl => ?_⟩
  have hl1 := s1.keep _ _ hl List.not_mem_nil
  have ha1 := ha.sb s1 NoLst.nil
  refine ⟨_, rfl, l, rfl, ⟨_, SqL.of hl1⟩, fun D nD => ?_⟩
  refine lc_seqQ (walk_list (xs := xs)) [] nD (by simp) (by omega) (fun i us _ => us = (b.names.take i).map V.str) rfl (fun H3 s3 => s3.sqL List.not_mem_nil (SqL.of hl1)) (fun _ _ _ _ _ h => h) (fun Pv i x Hq H3 us hi s3 y hR hu' hE3 fin skip => ?_) (fun us H2 s2 hD2 hR hul => ?_)
  · obtain ⟨rfl, ex⟩ := y
    obtain ⟨kd, ekd, kt, kl, kzs, rfl, hkt, _⟩ := ha1.get ex
    refine ⟨rfl, _, rfl, kt, _, _, _, rfl, rfl, s3.sqT hkt, atI_nat (j := 0) rfl, fin _ _ SB.refl ?_⟩
    rw [hR, List.take_add_one, List.map_append, show b.names[i]? = some kd.n by rw [List.getElem?_map, ekd]; rfl]
    rfl
  subst hR
  rw [xl, ← nml, List.take_length] at hD2
  have s02 := s1.trans s2
  refine ⟨.list (b.names.map .str), .list (b.names.map .str), .lst (SqL.of (s2.keep _ _ hcl List.not_mem_nil)) (Dp_strs _), .lst (SqL.of hD2) (Dp_strs _), names_shaped ok.names, names_shaped ok.names, ?_⟩
  rw [plain_eqv (strs_pl ok.names)]
  refine ⟨_, rfl, iteF (nextI ?_)⟩
  have hl2 := s02.keep _ _ hl List.not_mem_nil
  have ha2 := ha.sb s02 NoLst.nil
  refine ⟨_, rfl, l, rfl, ⟨_, SqL.of hl2⟩, fun E0 nE => ?_⟩
  refine lc_seqQ (walk_list (xs := xs)) [] nE (by simp) (by omega) (fun i us _ => us = (List.replicate i true).map V.bl) rfl (fun H3 s3 => s3.sqL List.not_mem_nil (SqL.of hl2)) (fun _ _ _ _ _ h => h) (fun Pv i x Hq H3 us hi s3 y hR hu' hE3 fin skip => ?_) (fun us H4 s4 hD4 hR hul => ?_)
  · obtain ⟨rfl, ex⟩ := y
    obtain ⟨kd, ekd, kt, kl, kzs, rfl, hkt, hkl, hkb, _⟩ := ha2.get ex
    have km := List.mem_of_getElem? ekd
    have eg := Bk.get_self ok.nd km
    have s03 := s02.trans s3
    have hkt3 := s3.sqT hkt
    refine ⟨rfl, _, rfl, va, vdx, _, rfl, s03.keep _ _ hva List.not_mem_nil, rfl, _, rfl, kt, _, _, _, rfl, rfl, hkt3, atI_nat (j := 0) rfl, .ref va, b, kd.n, rfl, hv.sb0 s03, by omega, fun k' e' H5 s5 => ?_, fun z => by rw [eg] at z; cases z⟩
    have e := eg.symm.trans e'
    cases e
    have hkt5 := s5.sqT hkt3
    have s05 := s03.trans s5
    refine ⟨_, rfl, kt, _, _, _, rfl, rfl, hkt5, atI_nat (j := 1) rfl, rfl, ?_⟩
    rw [decide_eq_true rfl]
    refine ⟨_, rfl, iteT ?_⟩
    refine ⟨_, rfl, va, vdx, _, rfl, s05.keep _ _ hva List.not_mem_nil, rfl, _, rfl, kt, _, _, _, rfl, rfl, hkt5, atI_nat (j := 0) rfl, .ref va, b, kd.n, rfl, hv.sb0 s05, by omega, r8, fun k' e' L us' H6 s6 nL hL hBs => ?_, fun z => by rw [eg] at z; cases z⟩
    have e := eg.symm.trans e'
    cases e
    have s36 := (s3.trans s5).trans s6
    have rr := (ok.kd kd km).2.2
    have rok : ∀ r ∈ kd.rs, RuOk r := fun r hr => (rr r hr).1
    have rdp : PyData.depthAll (kd.rs.map Ru.enc) ≤ 60 := depths_le fun d hd => by
      obtain ⟨r, hr, rfl⟩ := List.mem_map.mp hd
      exact Nat.le_trans (ru_depth (rok r hr)) (by decide)
    refine ⟨_, rfl, kt, _, _, _, rfl, rfl, s6.sqT hkt5, atI_nat (j := 2) rfl, .list (kd.rs.map Ru.enc), .list (kd.rs.map Ru.enc), .lst (SqL.of hL) (Bears_dp hBs), .lst (SqL.of (s36.keep _ _ hkl List.not_mem_nil)) (Bears_dp (hkb.sb s36 Ru.noList_enc)), plain_shaped (plSs_rus rok) rdp, plain_shaped (plSs_rus rok) rdp, ?_⟩
    rw [plain_eqv (plSs_rus rok)]
    refine fin _ _ (s5.trans s6) ?_
    rw [hR, List.replicate_succ']
    simp
  · subst hR
    refine ⟨E0, _, rfl, SqL.of hD4, ?_⟩
    rw [show (List.replicate xs.length true).all id = true by simp]
    exact q _ (s02.trans s4)
abbrev N_law : List Str := ["_law_script", "_law_kinds_here", "_law_called", "_law_book", "_law_purse_here", "_law_some", "_law_stranger", "_law_fit", "_law_way_here", "_law_others", "_law_other", "_law_kind", "_law_name", "_law_wide", "_law_ways", "_law_door", "_law_one"]
theorem sc_law : FnScope N_law ["_law_script"] (defScope s_law) := ⟨rfl, rfl, rfl, by decide +kernel, rfl, by decide +kernel, by decide +kernel⟩
theorem ok_law {C_Book C_NoBook C_NoKind : Addr} (B : BI mg) (G__law_kinds : Got P w K mg base "_law_kinds" ["_law_script"] (8) (spKinds K)) (G_Book___init__ : GotI P w K mg base "Book" C_Book ["self", "kinds"] (88) (spBInit K C_Book C_NoBook)) (G__law_purse : Got P w K mg base "_law_purse" ["_law_script", "_law_k"] (2) (spPurseW K)) (G__law_strangers : Got P w K mg base "_law_strangers" ["_law_called", "_law_at"] (1) (spStrangers K)) (G__law_take : Got P w K mg base "_law_take" ["_law_purse_here", "_law_many"] (1) (spTakeW)) (G__law_refused : Got P w K mg base "_law_refused" ["_law_book", "_law_name", "_law_door"] (31) (spRef23 K C_Book)) (G__law_is_word : Got P w K mg base "_law_is_word" ["_law_one"] (1) (spWord23 K)) (G_Book_spreads : GotMX P w K mg base C_Book "spreads" ["self", "name"] (4) (spBSpreads K C_Book C_NoKind)) (G_Book_rules : GotMX P w K mg base C_Book "rules" ["self", "name"] (4) (spBRules K C_Book C_NoKind)) (G_leads : GotX P w K mg base "leads" ["book", "name"] (23) (spLeads K C_Book C_NoKind)) (G_way_round : GotX P w K mg base "way_round" ["book", "name"] (24) (spRound K C_Book C_NoKind)) (G__law_told : Got P w K mg base "_law_told" ["_law_book", "_law_kinds_here"] (40) (spGood24 K C_Book)) (F : Fun K "law" "law" s_law f fd) : FnOk P w K mg base CX0 (96) f fd ["_law_script"] (spLaw K) := by
  refine F.ok sc_law (fun vs H Q E h => ?_) (fun cdv A outer s H vs Q E hr h => ?_)
  · obtain ⟨a, ns, rfl, _⟩ := h
    rfl
  obtain ⟨a, ns, rfl, hs, nl, q⟩ := h
  have hun2 : A.units + 3 + 200 < cLine := by have := hr.un; have h3 : (A.deeper (envOfC "law" (defScope s_law) s.heap.objs.size f cdv)).units = A.units + 3 := rfl; omega
  refine ⟨_, pss_cons (ps_set (i := 1) sc_law.nd rfl (.inl rfl) (pe_got G__law_kinds (hr.mono (by omega)) rfl (pa_cons (pv 0) pa_nil)))
    (pss_cons (ps_setLc (i := 2) (own := [("_law_kind", 11)]) (g := (gName 11)) (tt := tYes) (te := (tOp (rIxT K) (tVar 11) (tC (.int 0)))) rfl sc_law.nd rfl rfl (sw_true rfl rfl rfl (by decide +kernel)) (pi_list (pv 1)) (blkOk_by (N := N_law) (sc := defScope s_law) (by decide +kernel)) (fun _ _ _ _ _ => (pg_name (i := 11) sc_law.nd rfl (.inl rfl))) (fun _ _ _ _ _ => pts_nil) (fun _ _ _ _ _ => (pe_ix ix_tup (pv 11) pe_int (fun _ _ => rfl))))
    (pss_cons (ps_set (i := 3) sc_law.nd rfl (.inr rfl) (pe_gotI G_Book___init__ (hr.mono (by omega)) rfl (pa_cons (pe_lc (own := [("_law_name", 12), ("_law_wide", 13), ("_law_ways", 14)]) (g := (gTup K 3 (gCons (gName 12) (gCons (gName 13) (gCons (gName 14) gNil))))) (tt := tYes) (te := (tTup (tCons (tVar 12) (tCons (tVar 13) (tCons (tCB (fun xs H Q => ∃ p ys, xs = [.ref p] ∧ (SqL K H p ys ∨ SqT K H p ys) ∧ ∀ l, H l = none → Q (.ref l) (upd H l (.lst ys))) (tCons (tVar 14) tNil)) tNil))))) rfl sc_law.nd (pi_list (pv 1)) (blkOk_by (N := N_law) (sc := defScope s_law) (by decide +kernel)) (fun _ _ _ _ _ => (pg_tup rfl (pgs_cons (pg_name (i := 12) sc_law.nd rfl (.inl rfl)) (pgs_cons (pg_name (i := 13) sc_law.nd rfl (.inl rfl)) (pgs_cons (pg_name (i := 14) sc_law.nd rfl (.inl rfl)) pgs_nil))))) (fun _ _ _ _ _ => pts_nil) (fun _ _ _ _ _ => (pe_tup (pa_cons (pv 12) (pa_cons (pv 13) (pa_cons (pe_callTy call_list_of rfl B.list boot_list (pa_cons (pv 14) pa_nil)) pa_nil)))))) pa_nil)))
    (pss_cons (ps_set (i := 4) sc_law.nd rfl (.inl rfl) (pe_got G__law_purse (hr.mono (by omega)) rfl (pa_cons (pv 0) (pa_cons pe_int pa_nil))))
    (pss_cons (ps_set (i := 5) sc_law.nd rfl (.inr rfl) (pe_got G__law_strangers (hr.mono (by omega)) rfl (pa_cons (pv 2) (pa_cons (pe_got G__law_take (hr.mono (by omega)) rfl (pa_cons (pv 4) (pa_cons pe_int pa_nil))) pa_nil))))
    (pss_cons (ps_for PassesOwn.never rfl (pi_list (pv 5)) (pg_name (i := 6) sc_law.nd rfl (.inr rfl))
      (pss_one (ps_if (pt_not (pt_val (pe_callB (cr_all rfl) rfl B.all boot_all (pa_cons (pe_lc (own := [("_law_door", 15)]) (g := (gName 15)) (tt := tYes) (te := (tCall (spRef23 K C_Book) [] E0 (tCons (tVar 3) (tCons (tVar 6) (tCons (tVar 15) tNil))))) rfl sc_law.nd (pi_range1 rfl B.range (pa_cons pe_int pa_nil)) (blkOk_by (N := N_law) (sc := defScope s_law) (by decide +kernel)) (fun _ _ _ _ _ => (pg_name (i := 15) sc_law.nd rfl (.inl rfl))) (fun _ _ _ _ _ => pts_nil) (fun _ _ _ _ _ => (pe_got G__law_refused (hr.mono (by omega)) rfl (pa_cons (pv 3) (pa_cons (pv 6) (pa_cons (pv 15) pa_nil)))))) pa_nil)))) (pss_one (ps_ret pe_bl)) pss_nil)))
    (pss_cons (ps_for PassesOwn.never rfl (pi_list (pe_lc (own := [("_law_one", 16)]) (g := (gName 16)) (tt := (tB (tCall (spWord23 K) [] E0 (tCons (tVar 16) tNil)))) (te := (tVar 16)) rfl sc_law.nd (pi_list (pv 5)) (blkOk_by (N := N_law) (sc := defScope s_law) (by decide +kernel)) (fun _ _ _ _ _ => (pg_name (i := 16) sc_law.nd rfl (.inl rfl))) (fun _ _ _ _ _ => (pts_one (pt_val (pe_got G__law_is_word (hr.mono (by omega)) rfl (pa_cons (pv 16) pa_nil))))) (fun _ _ _ _ _ => (pv 16)))) (pg_name (i := 7) sc_law.nd rfl (.inl rfl))
      (pss_cons (ps_set (i := 8) sc_law.nd rfl (.inl rfl) (pe_tup (pa_cons (pe_tup pa_nil) (pa_cons (pe_tup (pa_cons (pe_tup (pa_cons (pe_tup (pa_cons (pv 7) (pa_cons (pe_tup pa_nil) pa_nil))) (pa_cons pe_int pa_nil))) pa_nil)) pa_nil))))
    (pss_cons (ps_setLc (i := 9) (own := [("_law_name", 12), ("_law_wide", 13), ("_law_ways", 14)]) (g := (gTup K 3 (gCons (gName 12) (gCons (gName 13) (gCons (gName 14) gNil))))) (tt := tYes) (te := (tTup (tCons (tVar 12) (tCons (tVar 13) (tCons (tLst tNil) tNil))))) rfl sc_law.nd rfl rfl (sw_true rfl rfl rfl (by decide +kernel)) (pi_list (pe_slice sl_list (pv 1) (po_some pe_int) po_none)) (blkOk_by (N := N_law) (sc := defScope s_law) (by decide +kernel)) (fun _ _ _ _ _ => (pg_tup rfl (pgs_cons (pg_name (i := 12) sc_law.nd rfl (.inl rfl)) (pgs_cons (pg_name (i := 13) sc_law.nd rfl (.inl rfl)) (pgs_cons (pg_name (i := 14) sc_law.nd rfl (.inl rfl)) pgs_nil))))) (fun _ _ _ _ _ => pts_nil) (fun _ _ _ _ _ => (pe_tup (pa_cons (pv 12) (pa_cons (pv 13) (pa_cons (pe_lst pa_nil) pa_nil))))))
    (pss_cons (ps_set (i := 10) sc_law.nd rfl (.inl rfl) (pe_gotI G_Book___init__ (hr.mono (by omega)) rfl (pa_cons (pe_op op_cat (pv 9) (pe_lst (pa_cons (pe_tup (pa_cons (pv 7) (pa_cons pe_bl (pa_cons (pe_lst (pa_cons (pv 8) pa_nil)) pa_nil)))) pa_nil))) pa_nil)))
    (pss_cons (ps_if (PW.pt (pw_or (pt_cmpR op_isnot_bl (pe_gotMX G_Book_spreads (hr.mono (by omega)) (pv 10) (pa_cons (pv 7) pa_nil)) pe_bl (nomark _)) (pw_or (pt_cmpR (op_neD (by show A.units + 3 + 64 < cLine; omega)) (pe_gotMX G_Book_rules (hr.mono (by omega)) (pv 10) (pa_cons (pv 7) pa_nil)) (pe_lst (pa_cons (pv 8) pa_nil)) (nomark _)) (pw_or1 (pt_cmpR (op_neD (by show A.units + 3 + 64 < cLine; omega)) (pe_gotX G_leads (hr.mono (by omega)) rfl (pa_cons (pv 10) (pa_cons (pv 7) pa_nil))) (pe_lst (pa_cons (pv 7) pa_nil)) (nomark _)))))) (pss_one (ps_ret pe_bl)) pss_nil)
    (pss_one (ps_if (PW.pt (pw_or (pt_cmpR op_isN (pe_gotX G_way_round (hr.mono (by omega)) rfl (pa_cons (pv 10) (pa_cons (pv 7) pa_nil))) pe_non (nomark _)) (pw_or1 (pt_not (pt_val (pe_got G__law_refused (hr.mono (by omega)) rfl (pa_cons (pv 10) (pa_cons (pe_ix ix_list (pv 2) pe_int (fun _ _ => rfl)) (pa_cons (pe_op op_mod (pe_callB call_len_str rfl B.len PySem.boot_len (pa_cons (pv 7) pa_nil)) pe_int) pa_nil))))))))) (pss_one (ps_ret pe_bl)) pss_nil)))))))
    (pss_one (ps_ret (pe_and (pe_got G__law_told (hr.mono (by omega)) rfl (pa_cons (pv 3) (pa_cons (pv 1) pa_nil))) (pe_one (pe_callB (cr_all rfl) rfl B.all boot_all (pa_cons (pe_lc (own := [("_law_door", 15)]) (g := (gName 15)) (tt := tYes) (te := (tCall (spRef23 K C_Book) [] E0 (tCons (tVar 3) (tCons (tOp (rIxL K) (tVar 5) (tC (.int 0))) (tCons (tVar 15) tNil))))) rfl sc_law.nd (pi_range1 rfl B.range (pa_cons pe_int pa_nil)) (blkOk_by (N := N_law) (sc := defScope s_law) (by decide +kernel)) (fun _ _ _ _ _ => (pg_name (i := 15) sc_law.nd rfl (.inl rfl))) (fun _ _ _ _ _ => pts_nil) (fun _ _ _ _ _ => (pe_got G__law_refused (hr.mono (by omega)) rfl (pa_cons (pv 3) (pa_cons (pe_ix ix_list (pv 5) pe_int (fun _ _ => rfl)) (pa_cons (pv 15) pa_nil)))))) pa_nil)))))))))))), ?_⟩
  have szl := sizeLine_eq
  refine ⟨_, rfl, a, ns, rfl, hs, nl, fun kh xs b H1 s1 nkh hkh hb0 ok => ?_⟩
  have b8 := ok.len
  have b1 := ok.pos
  have hb := hb0.less (bad' := []) (by simp)
  have xl := hb.length
  have nml : b.names.length = b.length := List.length_map ..
  refine ⟨_, rfl, kh, rfl, ⟨_, SqL.of hkh⟩, fun C nC => ?_⟩
  refine lc_seqQ (walk_list (xs := xs)) [] nC (by simp) (by omega) (fun i us _ => us = (b.names.take i).map V.str) rfl (fun H3 s3 => s3.sqL List.not_mem_nil (SqL.of hkh)) (fun _ _ _ _ _ h => h) (fun Pv i x Hq H3 us hi s3 y hR hu' hE3 fin skip => ?_) (fun us H2 s2 hC2 hR hul => ?_)
  · obtain ⟨rfl, ex⟩ := y
    obtain ⟨kd, ekd, kt, kl, kzs, rfl, hkt, _⟩ := hb.get ex
    refine ⟨rfl, _, rfl, kt, _, _, _, rfl, rfl, s3.sqT hkt, atI_nat (j := 0) rfl, fin _ _ SB.refl ?_⟩
    rw [hR, List.take_add_one, List.map_append, show b.names[i]? = some kd.n by rw [List.getElem?_map, ekd]; rfl]
    rfl
  subst hR
  rw [xl, ← nml, List.take_length] at hC2
  have hkh2 := s2.keep _ _ hkh List.not_mem_nil
  have hb2 := hb.sb s2 NoLst.nil
  refine nameI (seqI (asgI (copy_make (i := 1) rfl (fun _ _ _ => rfl) (fun _ _ _ => rfl) (fun _ _ _ => rfl) (fun _ _ _ => rfl) hkh2 hb2 ok fun y H3 s3 ny hy => ?_)))
  have s03 := (s1.trans s2).trans s3
  refine nameI ⟨_, rfl, a, ns, 10, rfl, s03.sqL List.not_mem_nil hs, nl, by omega, fun p H4 s4 np hp => ?_⟩
  have hC4 := (s3.trans s4).keep _ _ hC2 List.not_mem_nil
  refine ⟨_, rfl, _, rfl, p, 8, rfl, hp, by decide, by decide, fun r H5 r0 r8 s5 hp5 => ?_⟩
  have s35 : SB [] H3 H5 := (s4.nil.trans s5).drop np
  have hC5 := (s3.trans s35).keep _ _ hC2 List.not_mem_nil
  have nne : b.names ≠ [] := List.length_pos_iff.mp (by omega)
  refine ⟨C, b.names, r.toNat, (by show [V.ref C, V.int r] = _; rw [Int.toNat_of_nonneg r0]), hC5, nne, by omega, ok.names, fun D ss H6 s6 nD hD sne sl hss => ?_⟩
  have hbk6 := (hy.sb0 s35).sb0 s6
  have s36 := s35.trans s6
  have s06 := s03.trans s36
  have hkh6 := (s3.trans s36).keep _ _ hkh2 List.not_mem_nil
  have hb6 := hb2.sb (s3.trans s36) NoLst.nil
  have hC6 := s6.keep _ _ hC5 List.not_mem_nil
  have gno : ∀ s ∈ ss, b.get s = none := fun s hs => by
    cases e : b.get s with
    | none => rfl
    | some k => obtain ⟨km, ekn⟩ := Bk.get_some e; exact absurd (List.mem_map.mpr ⟨k, km, ekn⟩) (hss s hs).1
  clear s1 s2 s3 s4 s5 s35 s36 s03 hp hp5 np hC2 hC4 hC5 hkh hkh2 hb hb2 hb0 nD
  refine nameI ⟨_, rfl, D, rfl, ⟨_, SqL.of hD⟩, ?_⟩
  refine for_it (walk_list (xs := ss.map V.str)) (fun i σ H7 => SB [] H6 H7 ∧ ∃ o6 : Option V, σ = [some (.ref a), some (.ref kh), some (.ref C), some (.ref y), some (.ref p), some (.ref D), o6, none, none, none, none, none, none, none, none, none, none]) ⟨SB.refl, _, rfl⟩ (fun i σ H7 hi h => by obtain ⟨s, _⟩ := h; exact SqL.of (s.keep _ _ hD List.not_mem_nil)) (fun i x σ H7 H8 hi h yy => ?_) (fun σ H7 h => ?_)
  · obtain ⟨s7, o6, rfl⟩ := h
    obtain ⟨rfl, ex⟩ := yy
    rw [List.getElem?_map] at ex
    obtain ⟨z, ez, rfl⟩ := Option.map_eq_some_iff.mp ex
    have zm := List.mem_of_getElem? ez
    refine ⟨_, rfl, by decide, by decide, fun E0 nE => ?_⟩
    refine lc_seqQ (walk_range (lo := 0) (n := 4)) [] nE (by simp) (by omega) (fun i us _ => us = (List.replicate i true).map V.bl) rfl (fun _ _ => trivial) (fun _ _ _ _ _ h => h) (fun Pv i x Hq H9 us hi s9 y' hR hu' hE3 fin skip => ?_) (fun us H9 s9 hE9 hR hul => ?_)
    · obtain ⟨rfl, rfl⟩ := y'
      refine ⟨rfl, _, rfl, _, rfl, _, rfl, .ref y, b, z, _, rfl, (hbk6.sb0 s7).sb0 s9, ok, gno z zm, fun H10 s10 => fin _ _ s10 ?_⟩
      rw [hR, List.replicate_succ']
      simp
    · subst hR
      refine ⟨E0, _, rfl, SqL.of hE9, ?_⟩
      rw [show (List.replicate 4 true).all id = true from rfl]
      exact ⟨_, rfl, iteF ⟨s7.trans s9, _, rfl⟩⟩
  obtain ⟨s7, o6, rfl⟩ := h
  have hD7 := s7.keep _ _ hD List.not_mem_nil
  refine ⟨_, rfl, D, rfl, ⟨_, SqL.of hD7⟩, fun G nG => ?_⟩
  refine lc_seqQ (walk_list (xs := ss.map V.str)) [] nG (by simp) (by rw [List.length_map]; omega) (fun i us _ => us = ((ss.take i).filter fun s => decide (NameOk s)).map V.str) rfl (fun H3 s3 => s3.sqL List.not_mem_nil (SqL.of hD7)) (fun _ _ _ _ _ h => h) (fun Pv i x Hq H3 us hi s3 yy hR hu hE3 fin skip => ?_) (fun us H8 s8 hG8 hR hul => ?_)
  · obtain ⟨rfl, ex⟩ := yy
    rw [List.getElem?_map] at ex
    obtain ⟨z, ez, rfl⟩ := Option.map_eq_some_iff.mp ex
    have hst := filt_step (fun s => decide (NameOk s)) ez
    refine ⟨rfl, _, rfl, z, rfl, (hss z (List.mem_of_getElem? ez)).2, fun H9 s9 => ⟨_, rfl, ?_⟩⟩
    by_cases h1 : NameOk z
    · rw [decide_eq_true h1]
      refine iteT ⟨_, rfl, fin _ _ s9 ?_⟩
      rw [hst, if_pos (decide_eq_true h1), hR]
    · rw [decide_eq_false h1]
      refine iteF (skip _ s9 ?_)
      rw [hst, if_neg (fun z => h1 (of_decide_eq_true z)), hR, List.append_nil]
  rw [List.length_map, List.take_length] at hR
  subst hR
  have hfm : ∀ s ∈ ss.filter (fun s => decide (NameOk s)), s ∈ ss ∧ NameOk s := fun s hs => by
    obtain ⟨m, h⟩ := List.mem_filter.mp hs
    exact ⟨m, of_decide_eq_true h⟩
  have s68 := s7.trans s8
  generalize ss.filter (fun s => decide (NameOk s)) = ff at hG8 hfm
  refine ⟨G, rfl, ⟨_, SqL.of hG8⟩, ?_⟩
  refine for_it (walk_list (xs := ff.map V.str)) (fun i σ H9 => SB [] H8 H9 ∧ ∃ o6 o7 o8 o9 o10 : Option V, σ = [some (.ref a), some (.ref kh), some (.ref C), some (.ref y), some (.ref p), some (.ref D), o6, o7, o8, o9, o10, none, none, none, none, none, none]) ⟨SB.refl, _, _, _, _, _, rfl⟩ (fun i σ H7 hi h => by obtain ⟨s, _⟩ := h; exact SqL.of (s.keep _ _ hG8 List.not_mem_nil)) (fun i x σ H9' H9 hi h yy => ?_) (fun σ H9 h => ?_)
  · obtain ⟨s9, o6, o7, o8, o9, o10, rfl⟩ := h
    obtain ⟨rfl, ex⟩ := yy
    rw [List.getElem?_map] at ex
    obtain ⟨z, ez, rfl⟩ := Option.map_eq_some_iff.mp ex
    obtain ⟨zm, zok⟩ := hfm z (List.mem_of_getElem? ez)
    have s69 := s68.trans s9
    refine ⟨by show 0 ≤ sizeLine; decide, fun t0 n0 => ?_⟩
    have e0 := SB.new (ps := []) n0 (.tup [])
    have h0 : SqT K (upd H9 t0 (.tup [])) t0 [] := SqT.of upd_same
    generalize upd H9 t0 (.tup []) = G0 at e0 h0
    refine ⟨_, rfl, by show 0 ≤ sizeLine; decide, fun t1 n1 => ?_⟩
    have e1 := SB.new (ps := []) n1 (.tup [])
    have h1 : SqT K (upd G0 t1 (.tup [])) t1 [] := SqT.of upd_same
    generalize upd G0 t1 (.tup []) = G1 at e1 h1
    refine ⟨by show 2 ≤ sizeLine; decide, fun t2 n2 => ?_⟩
    have e2 := SB.new (ps := []) n2 (.tup [.str z, .ref t1])
    have h2 : SqT K (upd G1 t2 (.tup [.str z, .ref t1])) t2 [.str z, .ref t1] := SqT.of upd_same
    generalize upd G1 t2 (.tup [.str z, .ref t1]) = G2 at e2 h2
    refine ⟨by show 2 ≤ sizeLine; decide, fun t3 n3 => ?_⟩
    have e3 := SB.new (ps := []) n3 (.tup [.ref t2, .int 2])
    have h3 : SqT K (upd G2 t3 (.tup [.ref t2, .int 2])) t3 [.ref t2, .int 2] := SqT.of upd_same
    generalize upd G2 t3 (.tup [.ref t2, .int 2]) = G3 at e3 h3
    refine ⟨by show 1 ≤ sizeLine; decide, fun t4 n4 => ?_⟩
    have e4 := SB.new (ps := []) n4 (.tup [.ref t3])
    have h4 : SqT K (upd G3 t4 (.tup [.ref t3])) t4 [.ref t3] := SqT.of upd_same
    generalize upd G3 t4 (.tup [.ref t3]) = G4 at e4 h4
    refine ⟨by show 2 ≤ sizeLine; decide, fun t5 n5 => ?_⟩
    have e5 := SB.new (ps := []) n5 (.tup [.ref t0, .ref t4])
    have h5 : SqT K (upd G4 t5 (.tup [.ref t0, .ref t4])) t5 [.ref t0, .ref t4] := SqT.of upd_same
    generalize upd G4 t5 (.tup [.ref t0, .ref t4]) = G5 at e5 h5
    have e25 := ((e2.trans e3).trans e4).trans e5
    have hway : Dp K G5 (.ref t5) (Ru.enc (.nil, .cons z .nil 2 .nil)) := .tup h5 (.cons (.tup ((e1.trans e25).sqT h0) .nil) (.cons (.tup (e5.sqT h4) (.cons (.tup ((e4.trans e5).sqT h3) (.cons (.tup (((e3.trans e4).trans e5).sqT h2) (.cons (.str _) (.cons (.tup (e25.sqT h1) .nil) .nil))) (.cons (.int _) .nil))) .nil)) .nil))
    have e05 := (e0.trans e1).trans e25
    have s65 := s69.trans e05
    obtain ⟨b2, eb2⟩ : ∃ b2 : Bk, b2 = (b.drop 1).map (fun k : Kd => (⟨k.n, k.w, []⟩ : Kd)) ++ [⟨z, true, [(.nil, .cons z .nil 2 .nil)]⟩] := ⟨_, rfl⟩
    have nm2 : b2.names = b.names.drop 1 ++ [z] := by
      rw [eb2]
      show List.map _ (_ ++ _) = _
      rw [List.map_append, List.map_map, ← List.map_drop]
      rfl
    have znew : z ∉ b.names := (hss z zm).1
    have bl2 : b2.length = b.length := by rw [eb2, List.length_append, List.length_map, List.length_drop, List.length_singleton]; omega
    have rok1 : RuOk (.nil, .cons z .nil 2 .nil) := ⟨trivial, ⟨zok, trivial, by decide, by decide, trivial, fun p hp => nomatch hp⟩, by show 0 + (1 + 0 + 0) ≤ 4; omega⟩
    have ok2 : b2.Ok := ⟨by omega, by omega, by
      rw [nm2]
      refine List.nodup_append.mpr ⟨(List.drop_sublist 1 _).nodup ok.nd, by simp, fun x hx w hw => ?_⟩
      rw [List.mem_singleton.mp hw]
      exact fun e => znew (e ▸ List.mem_of_mem_drop hx), fun k hk => by
      rw [eb2] at hk
      rcases List.mem_append.mp hk with hk | hk
      · obtain ⟨k0, hk0, rfl⟩ := List.mem_map.mp hk
        exact ⟨(ok.kd k0 (List.mem_of_mem_drop hk0)).1, Nat.zero_le _, fun r hr => nomatch hr⟩
      · rw [List.mem_singleton.mp hk]
        refine ⟨zok, by show 1 ≤ 4; decide, fun r hr => ?_⟩
        rw [List.mem_singleton.mp hr]
        refine ⟨rok1, fun q hq => ?_⟩
        have : q = ((z, .nil), 2) := List.mem_singleton.mp hq
        rw [this, nm2]
        simp⟩
    have get2 : b2.get z = some ⟨z, true, [(.nil, .cons z .nil 2 .nil)]⟩ := Bk.get_self (k := ⟨z, true, [(.nil, .cons z .nil 2 .nil)]⟩) ok2.nd (by rw [eb2]; exact List.mem_append_right _ List.mem_cons_self)
    have hkh5 := s65.keep _ _ hkh6 List.not_mem_nil
    have hb5 := hb6.sb s65 NoLst.nil
    refine ⟨_, rfl, _, rfl, kh, xs, rfl, SqL.of hkh5, fun cc ncc => ?_⟩
    have e6 := SB.new (ps := []) ncc (.lst (cutV xs (some 1) none))
    have hcc : upd G5 cc (.lst (cutV xs (some 1) none)) cc = some (.lst (xs.drop 1)) := by rw [upd_same, cut1]
    generalize upd G5 cc (.lst (cutV xs (some 1) none)) = G6 at e6 hcc
    have hb56 := hb5.sb e6 NoLst.nil
    refine ⟨cc, rfl, ⟨_, SqL.of hcc⟩, fun O nO => ?_⟩
    refine lc_seqQ (walk_list (xs := xs.drop 1)) [] nO (by simp) (by rw [List.length_drop]; omega) (fun i us H2 => KdAll K H2 [O] us (((b.drop 1).take i).map (fun k : Kd => (⟨k.n, k.w, []⟩ : Kd)))) .nil (fun H3 s3 => s3.sqL List.not_mem_nil (SqL.of hcc)) (fun i us H2 H3 s3 h => h.sb s3 NoLst.self) (fun Pv i x Hq H3 us hi s3 yy hR hu hE3 fin skip => ?_) (fun us H7 s7' hO7 hR hul => ?_)
    · obtain ⟨rfl, ex'⟩ := yy
      rw [List.getElem?_drop] at ex'
      obtain ⟨kd, ekd, kt, kl, kzs, rfl, hkt, hkl, hkb, _⟩ := hb56.get ex'
      refine ⟨kt, _, rfl, s3.sqT hkt, rfl, _, _, rfl, _, _, rfl, _, _, rfl, rfl, rfl, _, rfl, _, rfl, by show 0 ≤ sizeLine; decide, fun em nem => ?_⟩
      have u1 := SB.new (ps := []) nem (.lst [])
      refine ⟨by show 3 ≤ sizeLine; decide, fun T nT => ?_⟩
      have u2 := SB.new (ps := []) nT (.tup [.str kd.n, .bl kd.w, .ref em])
      refine fin _ _ (u1.trans u2) ?_
      have emO : em ≠ O := fun z => by rw [z] at nem; rw [nem] at hE3; cases hE3
      rw [List.take_add_one, List.getElem?_drop, ekd, List.map_append]
      exact (hR.sb (u1.trans u2) NoLst.nil).append (.cons ⟨T, em, [], rfl, SqT.of upd_same, u2.keep _ _ upd_same List.not_mem_nil, .nil, by simpa using emO⟩ .nil)
    rw [List.length_drop, xl, ← List.length_drop, List.take_length] at hR
    have e56 := e6.trans s7'
    have hway7 := Dp_sb e56 _ _ (Ru.noList_enc _) hway
    refine nameI (seqI (asgI (makeI ?_)))
    refine ⟨_, rfl, _, rfl, _, rfl, by show 1 ≤ sizeLine; decide, fun w1 nw1 => ?_⟩
    have u1 := SB.new (ps := []) nw1 (.lst [.ref t5])
    have hw1 : upd H7 w1 (.lst [.ref t5]) w1 = some (.lst [.ref t5]) := upd_same
    generalize upd H7 w1 (.lst [.ref t5]) = I1 at u1 hw1
    refine ⟨by show 3 ≤ sizeLine; decide, fun w2 nw2 => ?_⟩
    have u2 := SB.new (ps := []) nw2 (.tup [.str z, .bl true, .ref w1])
    have hw2 : SqT K (upd I1 w2 (.tup [.str z, .bl true, .ref w1])) w2 [.str z, .bl true, .ref w1] := SqT.of upd_same
    generalize upd I1 w2 (.tup [.str z, .bl true, .ref w1]) = I2 at u2 hw2
    refine ⟨by show 1 ≤ sizeLine; decide, fun w3 nw3 => ?_⟩
    have u3 := SB.new (ps := []) nw3 (.lst [.ref w2])
    have hw3 : upd I2 w3 (.lst [.ref w2]) w3 = some (.lst [.ref w2]) := upd_same
    generalize upd I2 w3 (.lst [.ref w2]) = I3 at u3 hw3
    have u13 := (u1.trans u2).trans u3
    have ol := hR.length
    refine ⟨O, w3, _, _, rfl, rfl, u13.keep _ _ hO7 List.not_mem_nil, hw3, by rw [List.length_map, List.length_drop] at ol; show us.length + 1 ≤ sizeLine; omega, fun w4 nw4 => ?_⟩
    have u4 := SB.new (ps := []) nw4 (.lst (us ++ [.ref w2]))
    have hw4 : upd I3 w4 (.lst (us ++ [.ref w2])) w4 = some (.lst (us ++ [.ref w2])) := upd_same
    generalize upd I3 w4 (.lst (us ++ [.ref w2])) = I4 at u4 hw4
    have u14 := u13.trans u4
    have hall : KdAll K I4 [] (us ++ [.ref w2]) b2 := by
      rw [eb2]
      exact ((hR.less (bad' := []) (by simp)).sb u14 NoLst.nil).append (.cons ⟨w2, w1, [.ref t5], rfl, (u3.trans u4).sqT hw2, ((u2.trans u3).trans u4).keep _ _ hw1 List.not_mem_nil, .cons (Dp_sb u14 _ _ (Ru.noList_enc _) hway7) .nil, List.not_mem_nil⟩ .nil)
    refine nilI ?_
    refine make_core (C := C_Book) (B := C_NoBook) (Q := fun v H' => gName 10 v _ H' _) hw4 hall ok2 (fun y2 I5 v5 ny2 hy2 => ?_)
    have a65 := ((s65.trans e56).trans u14).trans v5
    have a75 := (u14.trans v5)
    obtain ⟨va2, vdx2, vd1, vd2, ey2, hva2⟩ := hy2.at
    cases ey2
    have hway5 : Dp K I5 (.ref t5) (Ru.enc (.nil, .cons z .nil 2 .nil)) := Dp_sb a75 _ _ (Ru.noList_enc _) hway7
    refine ⟨_, rfl, y2, vdx2, _, rfl, hva2, rfl, _, rfl, .ref y2, b2, z, rfl, hy2, by omega, fun k' e' I6 v6 => ?_, fun e => by rw [get2] at e; cases e⟩
    have e := get2.symm.trans e'
    cases e
    refine ⟨_, _, rfl, rfl, _, rfl, ?_⟩
    rw [show (!decide (true = true)) = false from rfl]
    refine iteF ?_
    refine ⟨_, rfl, y2, vdx2, _, rfl, v6.keep _ _ hva2 List.not_mem_nil, rfl, _, rfl, .ref y2, b2, z, rfl, hy2.sb0 v6, by omega, fun k hk => Nat.le_trans (ok2.kd k hk).2.1 (by omega), fun k' e' L ls I7 v7 nL hL hBs => ?_, fun e => by rw [get2] at e; cases e⟩
    have e := get2.symm.trans e'
    cases e
    have v57 := v6.trans v7
    refine ⟨_, rfl, by show 1 ≤ sizeLine; decide, fun M nM => ?_⟩
    have v8 := SB.new (ps := []) nM (.lst [.ref t5])
    have hp1 : plSs ([(Gr.nil, Gr.cons z .nil 2 .nil)].map Ru.enc) = true := plSs_rus (rs := [(.nil, .cons z .nil 2 .nil)]) fun r hr => by rw [List.mem_singleton.mp hr]; exact rok1
    have hp2 : PyData.depthAll ([(Gr.nil, Gr.cons z .nil 2 .nil)].map Ru.enc) ≤ 60 := depths_le fun d hd => by
      obtain ⟨r, hr, rfl⟩ := List.mem_map.mp hd
      rw [List.mem_singleton.mp hr]
      exact Nat.le_trans (ru_depth rok1) (by decide)
    refine ⟨.list ([(Gr.nil, Gr.cons z .nil 2 .nil)].map Ru.enc), .list ([(Gr.nil, Gr.cons z .nil 2 .nil)].map Ru.enc), .lst (SqL.of (v8.keep _ _ hL List.not_mem_nil)) (Bears_dp (hBs.sb v8 Ru.noList_enc)), .lst (SqL.of upd_same) (.cons (Dp_sb (v57.trans v8) _ _ (Ru.noList_enc _) hway5) .nil), plain_shaped hp1 hp2, plain_shaped hp1 hp2, ?_⟩
    rw [plain_eqv hp1]
    refine ⟨_, rfl, iteF ?_⟩
    have v58 := v57.trans v8
    generalize upd I7 M (.lst [.ref t5]) = I8 at v8 v58
    refine ⟨_, rfl, _, rfl, .ref y2, b2, z, rfl, hy2.sb0 v58, ok2, fun k' e' L2' ss2 I9 v9 nL2 hL2 hso => ?_, fun e => by rw [get2] at e; cases e⟩
    have e := get2.symm.trans e'
    cases e
    have eone : ss2 = [z] := hso.same ⟨rfl, by simp, fun x => by simp [ledR, Ru.within, Gr.within]⟩
    subst eone
    refine ⟨_, rfl, by show 1 ≤ sizeLine; decide, fun M2 nM2 => ?_⟩
    have v10 := SB.new (ps := []) nM2 (.lst [.str z])
    have z1 : ∀ x ∈ [z], NameOk x := fun x hx => by rw [List.mem_singleton.mp hx]; exact zok
    refine ⟨.list ([z].map .str), .list ([z].map .str), .lst (SqL.of (v10.keep _ _ hL2 List.not_mem_nil)) (Dp_strs _), .lst (SqL.of upd_same) (Dp_strs [z]), names_shaped z1, names_shaped z1, ?_⟩
    rw [plain_eqv (strs_pl z1)]
    refine ⟨_, rfl, iteF (nextI ?_)⟩
    have v510 := (v58.trans v9).trans v10
    generalize upd I9 M2 (.lst [.str z]) = I10 at v10 v510
    have hring : ¬ EndK b2 z := fun h => h.noring (.one (by rw [adj_get get2]; simp [ledR, Ru.within, Gr.within]))
    refine ⟨_, rfl, _, rfl, .ref y2, b2, z, rfl, hy2.sb0 v510, ok2, fun k' e' => ⟨fun h => absurd h hring, fun _ tt l1 l2 m I11 v11 ntt hTT _ _ _ => ?_⟩, fun e => by rw [get2] at e; cases e⟩
    refine ⟨rfl, _, rfl, ?_⟩
    rw [show decide (V.ref tt = V.non) = false from decide_eq_false fun z => by cases z]
    refine iteF ?_
    have v511 := v510.trans v11
    have a611 := a65.trans v511
    obtain ⟨n0, en0⟩ : ∃ n0, b.names[0]? = some n0 := ⟨_, List.getElem?_eq_getElem (by omega)⟩
    have hat0 : atI (b.names.map V.str) 0 = some (.str n0) := atI_nat (j := 0) (by rw [List.getElem?_map, en0]; rfl)
    have gn0 : b2.get n0 = none := by
      cases e : b2.get n0 with
      | none => rfl
      | some k =>
        obtain ⟨km, ekn⟩ := Bk.get_some e
        have m : n0 ∈ b2.names := List.mem_map.mpr ⟨k, km, ekn⟩
        rw [nm2] at m
        rcases List.mem_append.mp m with m | m
        · exfalso
          cases hbn : b.names with
          | nil => rw [hbn] at en0; cases en0
          | cons w r =>
            have nd := ok.nd
            rw [hbn] at nd m en0
            cases en0
            exact (List.nodup_cons.mp nd).1 m
        · rw [List.mem_singleton.mp m] at en0
          exact absurd (List.mem_of_getElem? en0) znew
    refine ⟨_, rfl, _, rfl, C, _, _, _, rfl, rfl, SqL.of (a611.keep _ _ hC6 List.not_mem_nil), hat0, _, rfl, z, rfl, by have := (hss z zm).2; omega, _, _, rfl, rfl, by show (0 : Int) < 4; decide, .ref y2, b2, n0, _, rfl, hy2.sb0 v511, ok2, gn0, fun I12 v12 => ?_⟩
    exact ⟨_, rfl, iteF ⟨s9.trans (e05.trans (e56.trans (a75.trans (v511.trans v12)))), _, _, _, _, _, rfl⟩⟩
  obtain ⟨s9, o6, o7, o8, o9, o10, rfl⟩ := h
  have s69 := s68.trans s9
  refine ⟨_, rfl, _, rfl, _, b, kh, xs, rfl, hbk6.sb0 s69, s69.keep _ _ hkh6 List.not_mem_nil, hb6.sb s69 NoLst.nil, ok, fun H10 s10 => ⟨_, rfl, iteT ?_⟩⟩
  have s610 := s69.trans s10
  obtain ⟨z, ez⟩ : ∃ z, ss[0]? = some z := ⟨_, List.getElem?_eq_getElem (List.length_pos_iff.mpr sne)⟩
  have hat : atI (ss.map V.str) 0 = some (.str z) := atI_nat (j := 0) (by rw [List.getElem?_map, ez]; rfl)
  refine ⟨_, rfl, by decide, by decide, fun E0 nE => ?_⟩
  refine lc_seqQ (walk_range (lo := 0) (n := 4)) [] nE (by simp) (by omega) (fun i us _ => us = (List.replicate i true).map V.bl) rfl (fun _ _ => trivial) (fun _ _ _ _ _ h => h) (fun Pv i x Hq H11 us hi s11 y' hR hu' hE3 fin skip => ?_) (fun us H11 s11 hE11 hR hul => ?_)
  · obtain ⟨rfl, rfl⟩ := y'
    have s611 := s610.trans s11
    refine ⟨rfl, _, rfl, _, rfl, D, _, _, _, rfl, rfl, SqL.of (s611.keep _ _ hD List.not_mem_nil), hat, _, rfl, .ref y, b, z, _, rfl, hbk6.sb0 s611, ok, gno z (List.mem_of_getElem? ez), fun H12 s12 => fin _ _ s12 ?_⟩
    rw [hR, List.replicate_succ']
    simp
  · subst hR
    refine ⟨E0, _, rfl, SqL.of hE11, ?_⟩
    rw [show (List.replicate 4 true).all id = true from rfl]
    exact q _
end
end FT
namespace FT
open PySem PySem.W PySem.Spec PyProof.Rows L2
def d_is_whole : He.DefD := ⟨("is_whole", none), "is_whole", "is_whole", defArgs s_is_whole, defBody s_is_whole, defScope s_is_whole, [], []⟩
def d_is_many : He.DefD := ⟨("is_many", none), "is_many", "is_many", defArgs s_is_many, defBody s_is_many, defScope s_is_many, [], []⟩
def d_is_name : He.DefD := ⟨("is_name", none), "is_name", "is_name", defArgs s_is_name, defBody s_is_name, defScope s_is_name, [], []⟩
def d_is_rising : He.DefD := ⟨("is_rising", none), "is_rising", "is_rising", defArgs s_is_rising, defBody s_is_rising, defScope s_is_rising, [], []⟩
def d_run_of : He.DefD := ⟨("run_of", none), "run_of", "run_of", defArgs s_run_of, defBody s_run_of, defScope s_run_of, [], []⟩
def d_is_tree : He.DefD := ⟨("is_tree", none), "is_tree", "is_tree", defArgs s_is_tree, defBody s_is_tree, defScope s_is_tree, [], []⟩
def d_is_grove : He.DefD := ⟨("is_grove", none), "is_grove", "is_grove", defArgs s_is_grove, defBody s_is_grove, defScope s_is_grove, [], []⟩
def d_are_grove_pairs : He.DefD := ⟨("are_grove_pairs", none), "are_grove_pairs", "are_grove_pairs", defArgs s_are_grove_pairs, defBody s_are_grove_pairs, defScope s_are_grove_pairs, [], []⟩
def d_pairs_within : He.DefD := ⟨("pairs_within", none), "pairs_within", "pairs_within", defArgs s_pairs_within, defBody s_pairs_within, defScope s_pairs_within, [], []⟩
def d_check_kind : He.DefD := ⟨("check_kind", none), "check_kind", "check_kind", defArgs s_check_kind, defBody s_check_kind, defScope s_check_kind, [], []⟩
def d_are_kinds : He.DefD := ⟨("are_kinds", none), "are_kinds", "are_kinds", defArgs s_are_kinds, defBody s_are_kinds, defScope s_are_kinds, [], []⟩
def d_is_kind : He.DefD := ⟨("is_kind", none), "is_kind", "is_kind", defArgs s_is_kind, defBody s_is_kind, defScope s_is_kind, [], []⟩
def d_is_rule : He.DefD := ⟨("is_rule", none), "is_rule", "is_rule", defArgs s_is_rule, defBody s_is_rule, defScope s_is_rule, [], []⟩
def d_is_rule_of : He.DefD := ⟨("is_rule_of", none), "is_rule_of", "is_rule_of", defArgs s_is_rule_of, defBody s_is_rule_of, defScope s_is_rule_of, [], []⟩
def d_tree_at : He.DefD := ⟨("tree_at", none), "tree_at", "tree_at", defArgs s_tree_at, defBody s_tree_at, defScope s_tree_at, [], []⟩
def d_all_places : He.DefD := ⟨("all_places", none), "all_places", "all_places", defArgs s_all_places, defBody s_all_places, defScope s_all_places, [], []⟩
def d_steps_of : He.DefD := ⟨("steps_of", none), "steps_of", "steps_of", defArgs s_steps_of, defBody s_steps_of, defScope s_steps_of, [], []⟩
def d_steps_in : He.DefD := ⟨("steps_in", none), "steps_in", "steps_in", defArgs s_steps_in, defBody s_steps_in, defScope s_steps_in, [], []⟩
def d_leads : He.DefD := ⟨("leads", none), "leads", "leads", defArgs s_leads, defBody s_leads, defScope s_leads, [], []⟩
def d_ways_from : He.DefD := ⟨("ways_from", none), "ways_from", "ways_from", defArgs s_ways_from, defBody s_ways_from, defScope s_ways_from, [], []⟩
def d_way_round : He.DefD := ⟨("way_round", none), "way_round", "way_round", defArgs s_way_round, defBody s_way_round, defScope s_way_round, [], []⟩
def d__law_cell_at : He.DefD := ⟨("_law_cell_at", none), "_law_cell_at", "_law_cell_at", defArgs s__law_cell_at, defBody s__law_cell_at, defScope s__law_cell_at, [], []⟩
def d__law_purse : He.DefD := ⟨("_law_purse", none), "_law_purse", "_law_purse", defArgs s__law_purse, defBody s__law_purse, defScope s__law_purse, [], []⟩
def d__law_take : He.DefD := ⟨("_law_take", none), "_law_take", "_law_take", defArgs s__law_take, defBody s__law_take, defScope s__law_take, [], []⟩
def d__law_words : He.DefD := ⟨("_law_words", none), "_law_words", "_law_words", defArgs s__law_words, defBody s__law_words, defScope s__law_words, [], []⟩
def d__law_heap : He.DefD := ⟨("_law_heap", none), "_law_heap", "_law_heap", defArgs s__law_heap, defBody s__law_heap, defScope s__law_heap, [], []⟩
def d__law_way : He.DefD := ⟨("_law_way", none), "_law_way", "_law_way", defArgs s__law_way, defBody s__law_way, defScope s__law_way, [], []⟩
def d__law_kinds : He.DefD := ⟨("_law_kinds", none), "_law_kinds", "_law_kinds", defArgs s__law_kinds, defBody s__law_kinds, defScope s__law_kinds, [], []⟩
def d__law_of_others : He.DefD := ⟨("_law_of_others", none), "_law_of_others", "_law_of_others", defArgs s__law_of_others, defBody s__law_of_others, defScope s__law_of_others, [], []⟩
def d__law_strangers : He.DefD := ⟨("_law_strangers", none), "_law_strangers", "_law_strangers", defArgs s__law_strangers, defBody s__law_strangers, defScope s__law_strangers, [], []⟩
def d__law_is_word : He.DefD := ⟨("_law_is_word", none), "_law_is_word", "_law_is_word", defArgs s__law_is_word, defBody s__law_is_word, defScope s__law_is_word, [], []⟩
def d__law_asked : He.DefD := ⟨("_law_asked", none), "_law_asked", "_law_asked", defArgs s__law_asked, defBody s__law_asked, defScope s__law_asked, [], []⟩
def d__law_refused : He.DefD := ⟨("_law_refused", none), "_law_refused", "_law_refused", defArgs s__law_refused, defBody s__law_refused, defScope s__law_refused, [], []⟩
def d__law_told : He.DefD := ⟨("_law_told", none), "_law_told", "_law_told", defArgs s__law_told, defBody s__law_told, defScope s__law_told, [], []⟩
def d_law : He.DefD := ⟨("law", none), "law", "law", defArgs s_law, defBody s_law, defScope s_law, [], []⟩
def d_NoKind___init__ : He.DefD := ⟨("NoKind", some "__init__"), "__init__", "NoKind.__init__", defArgs s_NoKind___init__, defBody s_NoKind___init__, defScope s_NoKind___init__, [], []⟩
def d_Endless___init__ : He.DefD := ⟨("Endless", some "__init__"), "__init__", "Endless.__init__", defArgs s_Endless___init__, defBody s_Endless___init__, defScope s_Endless___init__, [], []⟩
def d_Book___init__ : He.DefD := ⟨("Book", some "__init__"), "__init__", "Book.__init__", defArgs s_Book___init__, defBody s_Book___init__, defScope s_Book___init__, [], []⟩
def d_Book_names : He.DefD := ⟨("Book", some "names"), "names", "Book.names", defArgs s_Book_names, defBody s_Book_names, defScope s_Book_names, [], []⟩
def d_Book_spreads : He.DefD := ⟨("Book", some "spreads"), "spreads", "Book.spreads", defArgs s_Book_spreads, defBody s_Book_spreads, defScope s_Book_spreads, [], []⟩
def d_Book_rules : He.DefD := ⟨("Book", some "rules"), "rules", "Book.rules", defArgs s_Book_rules, defBody s_Book_rules, defScope s_Book_rules, [], []⟩
def fn : List He.DefD := [d_is_whole, d_is_many, d_is_name, d_is_rising, d_run_of, d_is_tree, d_is_grove, d_are_grove_pairs, d_pairs_within, d_check_kind, d_are_kinds, d_is_kind, d_is_rule, d_is_rule_of, d_tree_at, d_all_places, d_steps_of, d_steps_in, d_leads, d_ways_from, d_way_round, d__law_cell_at, d__law_purse, d__law_take, d__law_words, d__law_heap, d__law_way, d__law_kinds, d__law_of_others, d__law_strangers, d__law_is_word, d__law_asked, d__law_refused, d__law_told, d_law, d_NoKind___init__, d_Endless___init__, d_Book___init__, d_Book_names, d_Book_spreads, d_Book_rules]
def fa : List He.Fa := [.glo "is_whole", .glo "is_many", .glo "is_name", .glo "is_rising", .glo "run_of", .glo "is_tree", .glo "is_grove", .glo "are_grove_pairs", .glo "pairs_within", .glo "check_kind", .glo "are_kinds", .glo "is_kind", .glo "is_rule", .glo "is_rule_of", .glo "tree_at", .glo "all_places", .glo "steps_of", .glo "steps_in", .glo "leads", .glo "ways_from", .glo "way_round", .glo "_law_cell_at", .glo "_law_purse", .glo "_law_take", .glo "_law_words", .glo "_law_heap", .glo "_law_way", .glo "_law_kinds", .glo "_law_of_others", .glo "_law_strangers", .glo "_law_is_word", .glo "_law_asked", .glo "_law_refused", .glo "_law_told", .glo "law", .free "len", .free "isinstance", .free "int", .free "bool", .free "str", .free "tuple", .free "list", .free "all", .free "zip", .free "sum", .free "max", .free "range", .free "enumerate", .free "abs", .free "sorted", .free "min", .free "reversed", .free "any", .free "set", .free "dict", .free "repr", .glo "FellError", .free "ValueError", .glo "NoLadder", .glo "NoRest", .glo "NoGrove", .glo "NoPlace", .glo "NoBook", .glo "NoKind", .glo "NoRule", .glo "NoNumber", .glo "TooGreat", .glo "NoRise", .glo "NoFall", .glo "Endless", .glo "NotEndless", .glo "NoWorths", .glo "NoDrop", .glo "NoReach", .glo "TooLong", .glo "NoRow", .glo "NoName", .noat "NoKind" "kind", .str "LETTERS" "abcdefghijklmnopqrstuvwxyz", .int "LONGEST_NAME" (8), .int "MOST_KINDS" (8), .int "MOST_RULES" (4), .int "MOST_RULE_PARTS" (4), .int "MOST_MANY" (1000000000), .exc "NoBook", .exc "NoPlace", .meth "NoKind" "__init__", .meth "Endless" "__init__", .noat "Endless" "kind", .glo "Book", .cls "Book", .noat "Book" "spread_by_name", .noat "Book" "rows_by_name", .mkr "Book", .meth "Book" "names", .meth "Book" "spreads", .meth "Book" "rules"]
def exOk (K : PySem.W.Frag) : Bool := oexCB K (He.ga K "NoKind") && (oexCB K (He.ga K "Endless") && (ermB K (He.ga K) eC eN))
abbrev R : PySem.W.OpenRow := PySem.W.OpenLaw.row PySem.Challenge.rw_felltimber_k23_no_such_kind
abbrev hk : PySem.W.Hook := hookE 6 fa fn exOk
def ob (s : PySem.W.SharedT) : AlE := obsE 6 fa fn exOk (HandSHeadRun.getT s)
theorem ob_eq (s : PySem.W.SharedT) : ob s = hk.obs s.abs := obsE_eq (HandSHeadRun.getT_eq s)
def loose : List PySem.Str := (["is_whole", "is_many", "is_name", "is_rising", "run_of", "FellError", "NoLadder", "NoRest", "NoGrove", "NoPlace", "NoBook", "NoKind"] : List PySem.Str) ++ (["NoRule", "NoNumber", "TooGreat", "NoRise", "NoFall", "Endless", "NotEndless", "NoWorths", "NoDrop", "NoReach", "TooLong", "NoRow"] : List PySem.Str) ++ (["NoName", "is_tree", "is_grove", "are_grove_pairs", "pairs_within", "Book", "check_kind", "are_kinds", "is_kind", "is_rule", "is_rule_of", "tree_at"] : List PySem.Str) ++ (["all_places", "steps_of", "steps_in", "leads", "ways_from", "way_round", "_law_cell_at", "_law_purse", "_law_take", "_law_words", "_law_heap", "_law_way"] : List PySem.Str) ++ (["_law_kinds", "_law_of_others", "_law_strangers", "_law_is_word", "_law_asked", "_law_refused", "_law_told", "LETTERS", "LONGEST_NAME", "MOST_KINDS", "MOST_MANY", "MOST_RULES"] : List PySem.Str) ++ (["MOST_RULE_PARTS"] : List PySem.Str)
theorem run (w : World) : HandSHeadRun.RunEq R (PySem.W.view R.prog [68]) hk ob 6000 loose w := by
  intro os
  kernel_rfl
theorem facts {P : Program} {w : World} {K : PySem.W.Frag} {h : Heap} {mg : Str → Option Value} {f : Addr} (X : K.In h) (G : h.Ns mainGlobals mg) (hfa : mg ("law" : Str) = some (.ref f)) (c : He.SaysD fa fn K) (cx : exOk K = true) :
    ∃ fd : FuncData, (∀ (s : Shared) (v : Value), BindsTo s fd ⟨[v], []⟩ [("_law_script", v)]) ∧ ∀ base : Heap, K.In base → base.Ns mainGlobals mg → FnOk P w K mg base CX0 96 f fd ["_law_script"] (spLaw K) := by
  obtain ⟨fd_is_whole, D_is_whole⟩ := c.def_ 0 (d := d_is_whole) rfl
  have F_is_whole : Fun K "is_whole" "is_whole" s_is_whole _ fd_is_whole := He5.fun_of D_is_whole
  have m_is_whole := He.glo_ok X G (c.fact 0 (f := .glo "is_whole") rfl)
  have b_is_whole := F_is_whole.binds (ps := ["thing"]) fun _ _ _ _ _ _ us hl => match us, hl with | [_], _ => rfl
  obtain ⟨fd_is_many, D_is_many⟩ := c.def_ 1 (d := d_is_many) rfl
  have F_is_many : Fun K "is_many" "is_many" s_is_many _ fd_is_many := He5.fun_of D_is_many
  have m_is_many := He.glo_ok X G (c.fact 1 (f := .glo "is_many") rfl)
  have b_is_many := F_is_many.binds (ps := ["thing"]) fun _ _ _ _ _ _ us hl => match us, hl with | [_], _ => rfl
  obtain ⟨fd_is_name, D_is_name⟩ := c.def_ 2 (d := d_is_name) rfl
  have F_is_name : Fun K "is_name" "is_name" s_is_name _ fd_is_name := He5.fun_of D_is_name
  have m_is_name := He.glo_ok X G (c.fact 2 (f := .glo "is_name") rfl)
  have b_is_name := F_is_name.binds (ps := ["thing"]) fun _ _ _ _ _ _ us hl => match us, hl with | [_], _ => rfl
  obtain ⟨fd_is_rising, D_is_rising⟩ := c.def_ 3 (d := d_is_rising) rfl
  have F_is_rising : Fun K "is_rising" "is_rising" s_is_rising _ fd_is_rising := He5.fun_of D_is_rising
  have m_is_rising := He.glo_ok X G (c.fact 3 (f := .glo "is_rising") rfl)
  have b_is_rising := F_is_rising.binds (ps := ["things"]) fun _ _ _ _ _ _ us hl => match us, hl with | [_], _ => rfl
  obtain ⟨fd_run_of, D_run_of⟩ := c.def_ 4 (d := d_run_of) rfl
  have F_run_of : Fun K "run_of" "run_of" s_run_of _ fd_run_of := He5.fun_of D_run_of
  have m_run_of := He.glo_ok X G (c.fact 4 (f := .glo "run_of") rfl)
  have b_run_of := F_run_of.binds (ps := ["text", "at", "signs"]) fun _ _ _ _ _ _ us hl => match us, hl with | [_, _, _], _ => rfl
  obtain ⟨fd_is_tree, D_is_tree⟩ := c.def_ 5 (d := d_is_tree) rfl
  have F_is_tree : Fun K "is_tree" "is_tree" s_is_tree _ fd_is_tree := He5.fun_of D_is_tree
  have m_is_tree := He.glo_ok X G (c.fact 5 (f := .glo "is_tree") rfl)
  have b_is_tree := F_is_tree.binds (ps := ["thing"]) fun _ _ _ _ _ _ us hl => match us, hl with | [_], _ => rfl
  obtain ⟨fd_is_grove, D_is_grove⟩ := c.def_ 6 (d := d_is_grove) rfl
  have F_is_grove : Fun K "is_grove" "is_grove" s_is_grove _ fd_is_grove := He5.fun_of D_is_grove
  have m_is_grove := He.glo_ok X G (c.fact 6 (f := .glo "is_grove") rfl)
  have b_is_grove := F_is_grove.binds (ps := ["thing"]) fun _ _ _ _ _ _ us hl => match us, hl with | [_], _ => rfl
  obtain ⟨fd_are_grove_pairs, D_are_grove_pairs⟩ := c.def_ 7 (d := d_are_grove_pairs) rfl
  have F_are_grove_pairs : Fun K "are_grove_pairs" "are_grove_pairs" s_are_grove_pairs _ fd_are_grove_pairs := He5.fun_of D_are_grove_pairs
  have m_are_grove_pairs := He.glo_ok X G (c.fact 7 (f := .glo "are_grove_pairs") rfl)
  have b_are_grove_pairs := F_are_grove_pairs.binds (ps := ["things"]) fun _ _ _ _ _ _ us hl => match us, hl with | [_], _ => rfl
  obtain ⟨fd_pairs_within, D_pairs_within⟩ := c.def_ 8 (d := d_pairs_within) rfl
  have F_pairs_within : Fun K "pairs_within" "pairs_within" s_pairs_within _ fd_pairs_within := He5.fun_of D_pairs_within
  have m_pairs_within := He.glo_ok X G (c.fact 8 (f := .glo "pairs_within") rfl)
  have b_pairs_within := F_pairs_within.binds (ps := ["grove"]) fun _ _ _ _ _ _ us hl => match us, hl with | [_], _ => rfl
  obtain ⟨fd_check_kind, D_check_kind⟩ := c.def_ 9 (d := d_check_kind) rfl
  have F_check_kind : Fun K "check_kind" "check_kind" s_check_kind _ fd_check_kind := He5.fun_of D_check_kind
  have m_check_kind := He.glo_ok X G (c.fact 9 (f := .glo "check_kind") rfl)
  have b_check_kind := F_check_kind.binds (ps := ["book", "name"]) fun _ _ _ _ _ _ us hl => match us, hl with | [_, _], _ => rfl
  obtain ⟨fd_are_kinds, D_are_kinds⟩ := c.def_ 10 (d := d_are_kinds) rfl
  have F_are_kinds : Fun K "are_kinds" "are_kinds" s_are_kinds _ fd_are_kinds := He5.fun_of D_are_kinds
  have m_are_kinds := He.glo_ok X G (c.fact 10 (f := .glo "are_kinds") rfl)
  have b_are_kinds := F_are_kinds.binds (ps := ["things"]) fun _ _ _ _ _ _ us hl => match us, hl with | [_], _ => rfl
  obtain ⟨fd_is_kind, D_is_kind⟩ := c.def_ 11 (d := d_is_kind) rfl
  have F_is_kind : Fun K "is_kind" "is_kind" s_is_kind _ fd_is_kind := He5.fun_of D_is_kind
  have m_is_kind := He.glo_ok X G (c.fact 11 (f := .glo "is_kind") rfl)
  have b_is_kind := F_is_kind.binds (ps := ["thing"]) fun _ _ _ _ _ _ us hl => match us, hl with | [_], _ => rfl
  obtain ⟨fd_is_rule, D_is_rule⟩ := c.def_ 12 (d := d_is_rule) rfl
  have F_is_rule : Fun K "is_rule" "is_rule" s_is_rule _ fd_is_rule := He5.fun_of D_is_rule
  have m_is_rule := He.glo_ok X G (c.fact 12 (f := .glo "is_rule") rfl)
  have b_is_rule := F_is_rule.binds (ps := ["thing"]) fun _ _ _ _ _ _ us hl => match us, hl with | [_], _ => rfl
  obtain ⟨fd_is_rule_of, D_is_rule_of⟩ := c.def_ 13 (d := d_is_rule_of) rfl
  have F_is_rule_of : Fun K "is_rule_of" "is_rule_of" s_is_rule_of _ fd_is_rule_of := He5.fun_of D_is_rule_of
  have m_is_rule_of := He.glo_ok X G (c.fact 13 (f := .glo "is_rule_of") rfl)
  have b_is_rule_of := F_is_rule_of.binds (ps := ["rule", "names"]) fun _ _ _ _ _ _ us hl => match us, hl with | [_, _], _ => rfl
  obtain ⟨fd_tree_at, D_tree_at⟩ := c.def_ 14 (d := d_tree_at) rfl
  have F_tree_at : Fun K "tree_at" "tree_at" s_tree_at _ fd_tree_at := He5.fun_of D_tree_at
  have m_tree_at := He.glo_ok X G (c.fact 14 (f := .glo "tree_at") rfl)
  have b_tree_at := F_tree_at.binds (ps := ["grove", "place"]) fun _ _ _ _ _ _ us hl => match us, hl with | [_, _], _ => rfl
  obtain ⟨fd_all_places, D_all_places⟩ := c.def_ 15 (d := d_all_places) rfl
  have F_all_places : Fun K "all_places" "all_places" s_all_places _ fd_all_places := He5.fun_of D_all_places
  have m_all_places := He.glo_ok X G (c.fact 15 (f := .glo "all_places") rfl)
  have b_all_places := F_all_places.binds (ps := ["grove"]) fun _ _ _ _ _ _ us hl => match us, hl with | [_], _ => rfl
  obtain ⟨fd_steps_of, D_steps_of⟩ := c.def_ 16 (d := d_steps_of) rfl
  have F_steps_of : Fun K "steps_of" "steps_of" s_steps_of _ fd_steps_of := He5.fun_of D_steps_of
  have m_steps_of := He.glo_ok X G (c.fact 16 (f := .glo "steps_of") rfl)
  have b_steps_of := F_steps_of.binds (ps := ["book", "name"]) fun _ _ _ _ _ _ us hl => match us, hl with | [_, _], _ => rfl
  obtain ⟨fd_steps_in, D_steps_in⟩ := c.def_ 17 (d := d_steps_in) rfl
  have F_steps_in : Fun K "steps_in" "steps_in" s_steps_in _ fd_steps_in := He5.fun_of D_steps_in
  have m_steps_in := He.glo_ok X G (c.fact 17 (f := .glo "steps_in") rfl)
  have b_steps_in := F_steps_in.binds (ps := ["name", "rule", "word", "grove"]) fun _ _ _ _ _ _ us hl => match us, hl with | [_, _, _, _], _ => rfl
  obtain ⟨fd_leads, D_leads⟩ := c.def_ 18 (d := d_leads) rfl
  have F_leads : Fun K "leads" "leads" s_leads _ fd_leads := He5.fun_of D_leads
  have m_leads := He.glo_ok X G (c.fact 18 (f := .glo "leads") rfl)
  have b_leads := F_leads.binds (ps := ["book", "name"]) fun _ _ _ _ _ _ us hl => match us, hl with | [_, _], _ => rfl
  obtain ⟨fd_ways_from, D_ways_from⟩ := c.def_ 19 (d := d_ways_from) rfl
  have F_ways_from : Fun K "ways_from" "ways_from" s_ways_from _ fd_ways_from := He5.fun_of D_ways_from
  have m_ways_from := He.glo_ok X G (c.fact 19 (f := .glo "ways_from") rfl)
  have b_ways_from := F_ways_from.binds (ps := ["book", "name"]) fun _ _ _ _ _ _ us hl => match us, hl with | [_, _], _ => rfl
  obtain ⟨fd_way_round, D_way_round⟩ := c.def_ 20 (d := d_way_round) rfl
  have F_way_round : Fun K "way_round" "way_round" s_way_round _ fd_way_round := He5.fun_of D_way_round
  have m_way_round := He.glo_ok X G (c.fact 20 (f := .glo "way_round") rfl)
  have b_way_round := F_way_round.binds (ps := ["book", "name"]) fun _ _ _ _ _ _ us hl => match us, hl with | [_, _], _ => rfl
  obtain ⟨fd__law_cell_at, D__law_cell_at⟩ := c.def_ 21 (d := d__law_cell_at) rfl
  have F__law_cell_at : Fun K "_law_cell_at" "_law_cell_at" s__law_cell_at _ fd__law_cell_at := He5.fun_of D__law_cell_at
  have m__law_cell_at := He.glo_ok X G (c.fact 21 (f := .glo "_law_cell_at") rfl)
  have b__law_cell_at := F__law_cell_at.binds (ps := ["_law_script", "_law_k"]) fun _ _ _ _ _ _ us hl => match us, hl with | [_, _], _ => rfl
  obtain ⟨fd__law_purse, D__law_purse⟩ := c.def_ 22 (d := d__law_purse) rfl
  have F__law_purse : Fun K "_law_purse" "_law_purse" s__law_purse _ fd__law_purse := He5.fun_of D__law_purse
  have m__law_purse := He.glo_ok X G (c.fact 22 (f := .glo "_law_purse") rfl)
  have b__law_purse := F__law_purse.binds (ps := ["_law_script", "_law_k"]) fun _ _ _ _ _ _ us hl => match us, hl with | [_, _], _ => rfl
  obtain ⟨fd__law_take, D__law_take⟩ := c.def_ 23 (d := d__law_take) rfl
  have F__law_take : Fun K "_law_take" "_law_take" s__law_take _ fd__law_take := He5.fun_of D__law_take
  have m__law_take := He.glo_ok X G (c.fact 23 (f := .glo "_law_take") rfl)
  have b__law_take := F__law_take.binds (ps := ["_law_purse_here", "_law_many"]) fun _ _ _ _ _ _ us hl => match us, hl with | [_, _], _ => rfl
  obtain ⟨fd__law_words, D__law_words⟩ := c.def_ 24 (d := d__law_words) rfl
  have F__law_words : Fun K "_law_words" "_law_words" s__law_words _ fd__law_words := He5.fun_of D__law_words
  have m__law_words := He.glo_ok X G (c.fact 24 (f := .glo "_law_words") rfl)
  have b__law_words := F__law_words.binds (ps := ["_law_purse_here", "_law_many"]) fun _ _ _ _ _ _ us hl => match us, hl with | [_, _], _ => rfl
  obtain ⟨fd__law_heap, D__law_heap⟩ := c.def_ 25 (d := d__law_heap) rfl
  have F__law_heap : Fun K "_law_heap" "_law_heap" s__law_heap _ fd__law_heap := He5.fun_of D__law_heap
  have m__law_heap := He.glo_ok X G (c.fact 25 (f := .glo "_law_heap") rfl)
  have b__law_heap := F__law_heap.binds (ps := ["_law_some", "_law_inside"]) fun _ _ _ _ _ _ us hl => match us, hl with | [_, _], _ => rfl
  obtain ⟨fd__law_way, D__law_way⟩ := c.def_ 26 (d := d__law_way) rfl
  have F__law_way : Fun K "_law_way" "_law_way" s__law_way _ fd__law_way := He5.fun_of D__law_way
  have m__law_way := He.glo_ok X G (c.fact 26 (f := .glo "_law_way") rfl)
  have b__law_way := F__law_way.binds (ps := ["_law_purse_here", "_law_pool"]) fun _ _ _ _ _ _ us hl => match us, hl with | [_, _], _ => rfl
  obtain ⟨fd__law_kinds, D__law_kinds⟩ := c.def_ 27 (d := d__law_kinds) rfl
  have F__law_kinds : Fun K "_law_kinds" "_law_kinds" s__law_kinds _ fd__law_kinds := He5.fun_of D__law_kinds
  have m__law_kinds := He.glo_ok X G (c.fact 27 (f := .glo "_law_kinds") rfl)
  have b__law_kinds := F__law_kinds.binds (ps := ["_law_script"]) fun _ _ _ _ _ _ us hl => match us, hl with | [_], _ => rfl
  obtain ⟨fd__law_of_others, D__law_of_others⟩ := c.def_ 28 (d := d__law_of_others) rfl
  have F__law_of_others : Fun K "_law_of_others" "_law_of_others" s__law_of_others _ fd__law_of_others := He5.fun_of D__law_of_others
  have m__law_of_others := He.glo_ok X G (c.fact 28 (f := .glo "_law_of_others") rfl)
  have b__law_of_others := F__law_of_others.binds (ps := ["_law_error"]) fun _ _ _ _ _ _ us hl => match us, hl with | [_], _ => rfl
  obtain ⟨fd__law_strangers, D__law_strangers⟩ := c.def_ 29 (d := d__law_strangers) rfl
  have F__law_strangers : Fun K "_law_strangers" "_law_strangers" s__law_strangers _ fd__law_strangers := He5.fun_of D__law_strangers
  have m__law_strangers := He.glo_ok X G (c.fact 29 (f := .glo "_law_strangers") rfl)
  have b__law_strangers := F__law_strangers.binds (ps := ["_law_called", "_law_at"]) fun _ _ _ _ _ _ us hl => match us, hl with | [_, _], _ => rfl
  obtain ⟨fd__law_is_word, D__law_is_word⟩ := c.def_ 30 (d := d__law_is_word) rfl
  have F__law_is_word : Fun K "_law_is_word" "_law_is_word" s__law_is_word _ fd__law_is_word := He5.fun_of D__law_is_word
  have m__law_is_word := He.glo_ok X G (c.fact 30 (f := .glo "_law_is_word") rfl)
  have b__law_is_word := F__law_is_word.binds (ps := ["_law_one"]) fun _ _ _ _ _ _ us hl => match us, hl with | [_], _ => rfl
  obtain ⟨fd__law_asked, D__law_asked⟩ := c.def_ 31 (d := d__law_asked) rfl
  have F__law_asked : Fun K "_law_asked" "_law_asked" s__law_asked _ fd__law_asked := He5.fun_of D__law_asked
  have m__law_asked := He.glo_ok X G (c.fact 31 (f := .glo "_law_asked") rfl)
  have b__law_asked := F__law_asked.binds (ps := ["_law_book", "_law_name", "_law_door"]) fun _ _ _ _ _ _ us hl => match us, hl with | [_, _, _], _ => rfl
  obtain ⟨fd__law_refused, D__law_refused⟩ := c.def_ 32 (d := d__law_refused) rfl
  have F__law_refused : Fun K "_law_refused" "_law_refused" s__law_refused _ fd__law_refused := He5.fun_of D__law_refused
  have m__law_refused := He.glo_ok X G (c.fact 32 (f := .glo "_law_refused") rfl)
  have b__law_refused := F__law_refused.binds (ps := ["_law_book", "_law_name", "_law_door"]) fun _ _ _ _ _ _ us hl => match us, hl with | [_, _, _], _ => rfl
  obtain ⟨fd__law_told, D__law_told⟩ := c.def_ 33 (d := d__law_told) rfl
  have F__law_told : Fun K "_law_told" "_law_told" s__law_told _ fd__law_told := He5.fun_of D__law_told
  have m__law_told := He.glo_ok X G (c.fact 33 (f := .glo "_law_told") rfl)
  have b__law_told := F__law_told.binds (ps := ["_law_book", "_law_kinds_here"]) fun _ _ _ _ _ _ us hl => match us, hl with | [_, _], _ => rfl
  obtain ⟨fd_law, D_law⟩ := c.def_ 34 (d := d_law) rfl
  have F_law : Fun K "law" "law" s_law _ fd_law := He5.fun_of D_law
  have m_law := He.glo_ok X G (c.fact 34 (f := .glo "law") rfl)
  obtain ⟨fd_NoKind___init__, D_NoKind___init__⟩ := c.def_ 35 (d := d_NoKind___init__) rfl
  have F_NoKind___init__ : Fun K "__init__" "NoKind.__init__" s_NoKind___init__ _ fd_NoKind___init__ := He5.fun_of D_NoKind___init__
  have b_NoKind___init__ := F_NoKind___init__.binds (ps := ["self", "kind"]) fun _ _ _ _ _ _ us hl => match us, hl with | [_, _], _ => rfl
  obtain ⟨fd_Endless___init__, D_Endless___init__⟩ := c.def_ 36 (d := d_Endless___init__) rfl
  have F_Endless___init__ : Fun K "__init__" "Endless.__init__" s_Endless___init__ _ fd_Endless___init__ := He5.fun_of D_Endless___init__
  have b_Endless___init__ := F_Endless___init__.binds (ps := ["self", "kind"]) fun _ _ _ _ _ _ us hl => match us, hl with | [_, _], _ => rfl
  obtain ⟨fd_Book___init__, D_Book___init__⟩ := c.def_ 37 (d := d_Book___init__) rfl
  have F_Book___init__ : Fun K "__init__" "Book.__init__" s_Book___init__ _ fd_Book___init__ := He5.fun_of D_Book___init__
  have b_Book___init__ := F_Book___init__.binds (ps := ["self", "kinds"]) fun _ _ _ _ _ _ us hl => match us, hl with | [_, _], _ => rfl
  obtain ⟨fd_Book_names, D_Book_names⟩ := c.def_ 38 (d := d_Book_names) rfl
  have F_Book_names : Fun K "names" "Book.names" s_Book_names _ fd_Book_names := He5.fun_of D_Book_names
  have b_Book_names := F_Book_names.binds (ps := ["self"]) fun _ _ _ _ _ _ us hl => match us, hl with | [_], _ => rfl
  obtain ⟨fd_Book_spreads, D_Book_spreads⟩ := c.def_ 39 (d := d_Book_spreads) rfl
  have F_Book_spreads : Fun K "spreads" "Book.spreads" s_Book_spreads _ fd_Book_spreads := He5.fun_of D_Book_spreads
  have b_Book_spreads := F_Book_spreads.binds (ps := ["self", "name"]) fun _ _ _ _ _ _ us hl => match us, hl with | [_, _], _ => rfl
  obtain ⟨fd_Book_rules, D_Book_rules⟩ := c.def_ 40 (d := d_Book_rules) rfl
  have F_Book_rules : Fun K "rules" "Book.rules" s_Book_rules _ fd_Book_rules := He5.fun_of D_Book_rules
  have b_Book_rules := F_Book_rules.binds (ps := ["self", "name"]) fun _ _ _ _ _ _ us hl => match us, hl with | [_, _], _ => rfl
  have B : BI mg := ⟨He.free_ok X G (c.fact 35 (f := .free "len") rfl), He.free_ok X G (c.fact 36 (f := .free "isinstance") rfl), He.free_ok X G (c.fact 37 (f := .free "int") rfl), He.free_ok X G (c.fact 38 (f := .free "bool") rfl), He.free_ok X G (c.fact 39 (f := .free "str") rfl), He.free_ok X G (c.fact 40 (f := .free "tuple") rfl), He.free_ok X G (c.fact 41 (f := .free "list") rfl), He.free_ok X G (c.fact 42 (f := .free "all") rfl), He.free_ok X G (c.fact 43 (f := .free "zip") rfl), He.free_ok X G (c.fact 44 (f := .free "sum") rfl), He.free_ok X G (c.fact 45 (f := .free "max") rfl), He.free_ok X G (c.fact 46 (f := .free "range") rfl), He.free_ok X G (c.fact 47 (f := .free "enumerate") rfl), He.free_ok X G (c.fact 48 (f := .free "abs") rfl), He.free_ok X G (c.fact 49 (f := .free "sorted") rfl), He.free_ok X G (c.fact 50 (f := .free "min") rfl), He.free_ok X G (c.fact 51 (f := .free "reversed") rfl), He.free_ok X G (c.fact 52 (f := .free "any") rfl), He.free_ok X G (c.fact 53 (f := .free "set") rfl), He.free_ok X G (c.fact 54 (f := .free "dict") rfl), He.free_ok X G (c.fact 55 (f := .free "repr") rfl)⟩
  obtain ⟨xk_NoKind, cx⟩ := He.ba cx
  obtain ⟨xk_Endless, cx⟩ := He.ba cx
  have T : ErrsM K mg (He.ga K) eC eN eK := ermB_ok cx (fun n hn => by
      rcases List.mem_cons.mp hn with e | hn
      · rw [e]; exact He.glo_ok X G (c.fact 58 (f := .glo "NoLadder") rfl)
      rcases List.mem_cons.mp hn with e | hn
      · rw [e]; exact He.glo_ok X G (c.fact 59 (f := .glo "NoRest") rfl)
      rcases List.mem_cons.mp hn with e | hn
      · rw [e]; exact He.glo_ok X G (c.fact 60 (f := .glo "NoGrove") rfl)
      rcases List.mem_cons.mp hn with e | hn
      · rw [e]; exact He.glo_ok X G (c.fact 61 (f := .glo "NoPlace") rfl)
      rcases List.mem_cons.mp hn with e | hn
      · rw [e]; exact He.glo_ok X G (c.fact 62 (f := .glo "NoBook") rfl)
      rcases List.mem_cons.mp hn with e | hn
      · rw [e]; exact He.glo_ok X G (c.fact 63 (f := .glo "NoKind") rfl)
      rcases List.mem_cons.mp hn with e | hn
      · rw [e]; exact He.glo_ok X G (c.fact 64 (f := .glo "NoRule") rfl)
      rcases List.mem_cons.mp hn with e | hn
      · rw [e]; exact He.glo_ok X G (c.fact 65 (f := .glo "NoNumber") rfl)
      rcases List.mem_cons.mp hn with e | hn
      · rw [e]; exact He.glo_ok X G (c.fact 66 (f := .glo "TooGreat") rfl)
      rcases List.mem_cons.mp hn with e | hn
      · rw [e]; exact He.glo_ok X G (c.fact 67 (f := .glo "NoRise") rfl)
      rcases List.mem_cons.mp hn with e | hn
      · rw [e]; exact He.glo_ok X G (c.fact 68 (f := .glo "NoFall") rfl)
      rcases List.mem_cons.mp hn with e | hn
      · rw [e]; exact He.glo_ok X G (c.fact 69 (f := .glo "Endless") rfl)
      rcases List.mem_cons.mp hn with e | hn
      · rw [e]; exact He.glo_ok X G (c.fact 70 (f := .glo "NotEndless") rfl)
      rcases List.mem_cons.mp hn with e | hn
      · rw [e]; exact He.glo_ok X G (c.fact 71 (f := .glo "NoWorths") rfl)
      rcases List.mem_cons.mp hn with e | hn
      · rw [e]; exact He.glo_ok X G (c.fact 72 (f := .glo "NoDrop") rfl)
      rcases List.mem_cons.mp hn with e | hn
      · rw [e]; exact He.glo_ok X G (c.fact 73 (f := .glo "NoReach") rfl)
      rcases List.mem_cons.mp hn with e | hn
      · rw [e]; exact He.glo_ok X G (c.fact 74 (f := .glo "TooLong") rfl)
      rcases List.mem_cons.mp hn with e | hn
      · rw [e]; exact He.glo_ok X G (c.fact 75 (f := .glo "NoRow") rfl)
      rcases List.mem_cons.mp hn with e | hn
      · rw [e]; exact He.glo_ok X G (c.fact 76 (f := .glo "NoName") rfl)
      exact nomatch hn) (He.glo_ok X G (c.fact 56 (f := .glo "FellError") rfl)) (He.free_ok X G (c.fact 57 (f := .free "ValueError") rfl)) (fun n hn => by
      rcases List.mem_cons.mp hn with e | hn
      · rw [e]; exact He.noat_ok (c.fact 77 (f := .noat "NoKind" "kind") rfl)
      exact nomatch hn)
  have L_LETTERS := He.str_ok X G (c.fact 78 (f := .str "LETTERS" "abcdefghijklmnopqrstuvwxyz") rfl)
  have L_LONGEST_NAME := He.int_ok X G (c.fact 79 (f := .int "LONGEST_NAME" (8)) rfl)
  have L_MOST_KINDS := He.int_ok X G (c.fact 80 (f := .int "MOST_KINDS" (8)) rfl)
  have L_MOST_RULES := He.int_ok X G (c.fact 81 (f := .int "MOST_RULES" (4)) rfl)
  have L_MOST_RULE_PARTS := He.int_ok X G (c.fact 82 (f := .int "MOST_RULE_PARTS" (4)) rfl)
  have L_MOST_MANY := He.int_ok X G (c.fact 83 (f := .int "MOST_MANY" (1000000000)) rfl)
  have O_NoBook : Own K mg "NoBook" (He.ga K "NoBook") := by
    obtain ⟨y1, y2, y3, y4⟩ := He.exc_ok (c.fact 84 (f := .exc "NoBook") rfl)
    exact ⟨He.glo_ok X G (c.fact 62 (f := .glo "NoBook") rfl), y1, y2, y3, y4⟩
  have O_NoPlace : Own K mg "NoPlace" (He.ga K "NoPlace") := by
    obtain ⟨y1, y2, y3, y4⟩ := He.exc_ok (c.fact 85 (f := .exc "NoPlace") rfl)
    exact ⟨He.glo_ok X G (c.fact 61 (f := .glo "NoPlace") rfl), y1, y2, y3, y4⟩
  have m_NoKind := He.glo_ok X G (c.fact 63 (f := .glo "NoKind") rfl)
  have h_NoKind := He.meth_ok (c.fact 86 (f := .meth "NoKind" "__init__") rfl)
  have n_NoKind := He.noat_ok (c.fact 77 (f := .noat "NoKind" "kind") rfl)
  have m_Endless := He.glo_ok X G (c.fact 69 (f := .glo "Endless") rfl)
  have h_Endless := He.meth_ok (c.fact 87 (f := .meth "Endless" "__init__") rfl)
  have n_Endless := He.noat_ok (c.fact 88 (f := .noat "Endless" "kind") rfl)
  have m_Book := He.glo_ok X G (c.fact 89 (f := .glo "Book") rfl)
  have c_Book := He.cls_ok (c.fact 90 (f := .cls "Book") rfl)
  have T_Book : ClsF K (He.ga K "Book") ["spread_by_name", "rows_by_name"] := ⟨c_Book, fun f hf => by
      rcases List.mem_cons.mp hf with e | hf
      · rw [e]; exact He.noat_ok (c.fact 91 (f := .noat "Book" "spread_by_name") rfl)
      rcases List.mem_cons.mp hf with e | hf
      · rw [e]; exact He.noat_ok (c.fact 92 (f := .noat "Book" "rows_by_name") rfl)
      exact nomatch hf⟩
  have h_Book___init__ := He.mkr_ok (c.fact 93 (f := .mkr "Book") rfl)
  have h_Book_names := He.meth_ok (c.fact 94 (f := .meth "Book" "names") rfl)
  have h_Book_spreads := He.meth_ok (c.fact 95 (f := .meth "Book" "spreads") rfl)
  have h_Book_rules := He.meth_ok (c.fact 96 (f := .meth "Book" "rules") rfl)
  have e := hfa.symm.trans m_law
  cases e
  have b := FunD.bindsA (ps := ["_law_script"]) D_law fun _ _ _ _ _ _ us hl => match us, hl with | [_], _ => rfl
  refine ⟨fd_law, fun s v => b s [v] rfl, fun base _ _ => ?_⟩
  have g_is_whole : Got P w K mg base "is_whole" ["thing"] 1 (spWhole K) := ⟨_, _, ok_is_whole B F_is_whole, F_is_whole.kp, b_is_whole, m_is_whole⟩
  have g_is_many : Got P w K mg base "is_many" ["thing"] 2 (spMany K []) := ⟨_, _, ok_is_many B g_is_whole F_is_many, F_is_many.kp, b_is_many, m_is_many⟩
  have g_is_rising : Got P w K mg base "is_rising" ["things"] 1 (spRising K) := ⟨_, _, ok_is_rising B F_is_rising, F_is_rising.kp, b_is_rising, m_is_rising⟩
  have g_run_of : Got P w K mg base "run_of" ["text", "at", "signs"] 1 (spRunOf K) := ⟨_, _, ok_run_of B F_run_of, F_run_of.kp, b_run_of, m_run_of⟩
  have g_is_name : Got P w K mg base "is_name" ["thing"] 2 (spName K) := ⟨_, _, ok_is_name B L_LETTERS L_LONGEST_NAME g_run_of F_is_name, F_is_name.kp, b_is_name, m_is_name⟩
  have r_grove : ∀ n, Got P w K mg base "is_tree" ["thing"] (n + 3) (spIsTree K n) ∧ Got P w K mg base "is_grove" ["thing"] (n + 3) (spIsGrove K n) ∧ Got P w K mg base "are_grove_pairs" ["things"] (n + 3) (spPairsQ K true n) := by
    intro n
    induction n with
    | zero => exact ⟨⟨_, _, none_is_tree, F_is_tree.kp, b_is_tree, m_is_tree⟩, ⟨_, _, none_is_grove, F_is_grove.kp, b_is_grove, m_is_grove⟩, ⟨_, _, none_are_grove_pairs, F_are_grove_pairs.kp, b_are_grove_pairs, m_are_grove_pairs⟩⟩
    | succ n ih => exact ⟨⟨_, _, ok_is_tree B g_is_name ih.2.1 F_is_tree, F_is_tree.kp, b_is_tree, m_is_tree⟩, ⟨_, _, ok_is_grove B g_is_rising ih.2.2 F_is_grove, F_is_grove.kp, b_is_grove, m_is_grove⟩, ⟨_, _, ok_are_grove_pairs B g_is_many ih.1 F_are_grove_pairs, F_are_grove_pairs.kp, b_are_grove_pairs, m_are_grove_pairs⟩⟩
  have g_is_tree : Got P w K mg base "is_tree" ["thing"] 84 (spIsTree K 81) := (r_grove 81).1
  have g_is_grove : Got P w K mg base "is_grove" ["thing"] 84 (spIsGrove K 81) := (r_grove 81).2.1
  have gL_are_grove_pairs : Got P w K mg base "are_grove_pairs" ["things"] 63 (spPairsQ K false 60) := ⟨_, _, ok_are_grove_pairsL B g_is_many (r_grove 59).1 F_are_grove_pairs, F_are_grove_pairs.kp, b_are_grove_pairs, m_are_grove_pairs⟩
  have r_pairs_within : ∀ n, Got P w K mg base "pairs_within" ["grove"] (n) (spPairsW K n) := by
    intro n
    induction n with
    | zero => exact ⟨_, _, none_pairs_within, F_pairs_within.kp, b_pairs_within, m_pairs_within⟩
    | succ n ih => exact ⟨_, _, ok_pairs_within ih F_pairs_within, F_pairs_within.kp, b_pairs_within, m_pairs_within⟩
  have g_pairs_within := r_pairs_within 20
  have g_tree_at : GotX P w K mg base "tree_at" ["grove", "place"] 2 (spTreeAt K (He.ga K "NoPlace")) := ⟨_, _, ok_tree_at B O_NoPlace g_is_whole F_tree_at, F_tree_at.kp, b_tree_at, m_tree_at⟩
  have O_NoKind : OwnI P w K mg base "NoKind" (He.ga K "NoKind") 1 := ⟨m_NoKind, oexCB_ok xk_NoKind, n_NoKind, ⟨_, _, h_NoKind.at_, beq_iff_eq.mp h_NoKind.fn, ok_NoKind___init__ F_NoKind___init__, b_NoKind___init__⟩⟩
  have g_Book_names : GotM P w K mg base (He.ga K "Book") "names" ["self"] (1) (spBNames K (He.ga K "Book")) := ⟨_, _, ok_Book_names B T_Book F_Book_names, h_Book_names, b_Book_names, c_Book⟩
  have g_check_kind : GotX P w K mg base "check_kind" ["book", "name"] (3) (spCheckK K (He.ga K "Book") (He.ga K "NoKind")) := ⟨_, _, ok_check_kind B O_NoKind g_Book_names F_check_kind, F_check_kind.kp, b_check_kind, m_check_kind⟩
  have g_is_rule : Got P w K mg base "is_rule" ["thing"] (85) (spIsRule K) := ⟨_, _, ok_is_rule B L_MOST_RULE_PARTS L_MOST_MANY g_is_grove g_pairs_within F_is_rule, F_is_rule.kp, b_is_rule, m_is_rule⟩
  have g_is_kind : Got P w K mg base "is_kind" ["thing"] (86) (spIsKind K) := ⟨_, _, ok_is_kind B L_MOST_RULES g_is_name g_is_rule F_is_kind, F_is_kind.kp, b_is_kind, m_is_kind⟩
  have g_is_rule_of : Got P w K mg base "is_rule_of" ["rule", "names"] (71) (spIsRuleOf K) := ⟨_, _, ok_is_rule_of B g_pairs_within F_is_rule_of, F_is_rule_of.kp, b_is_rule_of, m_is_rule_of⟩
  have g_are_kinds : Got P w K mg base "are_kinds" ["things"] (87) (spAreKinds K) := ⟨_, _, ok_are_kinds B L_MOST_KINDS g_is_kind g_is_rule_of F_are_kinds, F_are_kinds.kp, b_are_kinds, m_are_kinds⟩
  have r_all_places : ∀ n, Got P w K mg base "all_places" ["grove"] (n) (spAllP K n) := by
    intro n
    induction n with
    | zero => exact ⟨_, _, none_all_places, F_all_places.kp, b_all_places, m_all_places⟩
    | succ n ih => exact ⟨_, _, ok_all_places B ih F_all_places, F_all_places.kp, b_all_places, m_all_places⟩
  have g_all_places : Got P w K mg base "all_places" ["grove"] (20) (spAllP K 20) := r_all_places 20
  have g_Book_rules : GotMX P w K mg base (He.ga K "Book") "rules" ["self", "name"] (4) (spBRules K (He.ga K "Book") (He.ga K "NoKind")) := ⟨_, _, ok_Book_rules B T_Book g_check_kind F_Book_rules, h_Book_rules, b_Book_rules, c_Book⟩
  have g_steps_in : Got P w K mg base "steps_in" ["name", "rule", "word", "grove"] (21) (spStepsIn K) := ⟨_, _, ok_steps_in B g_all_places g_tree_at F_steps_in, F_steps_in.kp, b_steps_in, m_steps_in⟩
  have g_steps_of : GotX P w K mg base "steps_of" ["book", "name"] (22) (spStepsOf K (He.ga K "Book") (He.ga K "NoKind")) := ⟨_, _, ok_steps_of B g_Book_rules g_steps_in F_steps_of, F_steps_of.kp, b_steps_of, m_steps_of⟩
  have g_leads : GotX P w K mg base "leads" ["book", "name"] (23) (spLeads K (He.ga K "Book") (He.ga K "NoKind")) := ⟨_, _, ok_leads B g_steps_of F_leads, F_leads.kp, b_leads, m_leads⟩
  have g_ways_from : GotX P w K mg base "ways_from" ["book", "name"] (23) (spWays K (He.ga K "Book") (He.ga K "NoKind")) := ⟨_, _, ok_ways_from B g_steps_of F_ways_from, F_ways_from.kp, b_ways_from, m_ways_from⟩
  have g_way_round : GotX P w K mg base "way_round" ["book", "name"] (24) (spRound K (He.ga K "Book") (He.ga K "NoKind")) := ⟨_, _, ok_way_round B g_ways_from F_way_round, F_way_round.kp, b_way_round, m_way_round⟩
  have g__law_cell_at : Got P w K mg base "_law_cell_at" ["_law_script", "_law_k"] (1) (spCellAt K) := ⟨_, _, ok__law_cell_at B F__law_cell_at, F__law_cell_at.kp, b__law_cell_at, m__law_cell_at⟩
  have g__law_purse : Got P w K mg base "_law_purse" ["_law_script", "_law_k"] (2) (spPurseW K) := ⟨_, _, ok__law_purse B g__law_cell_at F__law_purse, F__law_purse.kp, b__law_purse, m__law_purse⟩
  have g__law_take : Got P w K mg base "_law_take" ["_law_purse_here", "_law_many"] (1) (spTakeW) := ⟨_, _, ok__law_take B F__law_take, F__law_take.kp, b__law_take, m__law_take⟩
  have g__law_words : Got P w K mg base "_law_words" ["_law_purse_here", "_law_many"] (2) (spWords K) := ⟨_, _, ok__law_words B g__law_take F__law_words, F__law_words.kp, b__law_words, m__law_words⟩
  have r__law_heap : ∀ n, Got P w K mg base "_law_heap" ["_law_some", "_law_inside"] (n) (spHeap K n) := by
    intro n
    induction n with
    | zero => exact ⟨_, _, none__law_heap, F__law_heap.kp, b__law_heap, m__law_heap⟩
    | succ n ih => exact ⟨_, _, ok__law_heap B ih F__law_heap, F__law_heap.kp, b__law_heap, m__law_heap⟩
  have g__law_heap : Got P w K mg base "_law_heap" ["_law_some", "_law_inside"] (6) (spHeap K 6) := r__law_heap 6
  have g__law_way : Got P w K mg base "_law_way" ["_law_purse_here", "_law_pool"] (7) (spWay K) := ⟨_, _, ok__law_way B g__law_take g__law_heap F__law_way, F__law_way.kp, b__law_way, m__law_way⟩
  have g__law_kinds : Got P w K mg base "_law_kinds" ["_law_script"] (8) (spKinds K) := ⟨_, _, ok__law_kinds B g__law_purse g__law_take g__law_words g__law_way F__law_kinds, F__law_kinds.kp, b__law_kinds, m__law_kinds⟩
  have g__law_of_others : GotP P w K mg base "_law_of_others" ["_law_error"] (1) (spOthers K (He.ga K) eC) := ⟨_, _, ok__law_of_others B T F__law_of_others, F__law_of_others.kp, b__law_of_others, m__law_of_others⟩
  have g__law_strangers : Got P w K mg base "_law_strangers" ["_law_called", "_law_at"] (1) (spStrangers K) := ⟨_, _, ok__law_strangers B F__law_strangers, F__law_strangers.kp, b__law_strangers, m__law_strangers⟩
  have g__law_is_word : Got P w K mg base "_law_is_word" ["_law_one"] (1) (spWord23 K) := ⟨_, _, ok__law_is_word B F__law_is_word, F__law_is_word.kp, b__law_is_word, m__law_is_word⟩
  have g_Book_spreads : GotMX P w K mg base (He.ga K "Book") "spreads" ["self", "name"] (4) (spBSpreads K (He.ga K "Book") (He.ga K "NoKind")) := ⟨_, _, ok_Book_spreads B T_Book g_check_kind F_Book_spreads, h_Book_spreads, b_Book_spreads, c_Book⟩
  have g__law_asked : GotX P w K mg base "_law_asked" ["_law_book", "_law_name", "_law_door"] (30) (spAsked23 K (He.ga K "Book") (He.ga K "NoKind")) := ⟨_, _, ok__law_asked B g_Book_spreads g_Book_rules g_leads g_way_round F__law_asked, F__law_asked.kp, b__law_asked, m__law_asked⟩
  have g__law_refused : Got P w K mg base "_law_refused" ["_law_book", "_law_name", "_law_door"] (31) (spRef23 K (He.ga K "Book")) := ⟨_, _, ok__law_refused B T g__law_asked g__law_of_others F__law_refused, F__law_refused.kp, b__law_refused, m__law_refused⟩
  have g__law_told : Got P w K mg base "_law_told" ["_law_book", "_law_kinds_here"] (40) (spGood24 K (He.ga K "Book")) := ⟨_, _, ok__law_told B g_Book_names g_Book_spreads g_Book_rules F__law_told, F__law_told.kp, b__law_told, m__law_told⟩
  have g_Book___init__ : GotI P w K mg base "Book" (He.ga K "Book") ["self", "kinds"] (88) (spBInit K (He.ga K "Book") (He.ga K "NoBook")) := ⟨_, _, ok_Book___init__ B O_NoBook T_Book g_are_kinds F_Book___init__, h_Book___init__, b_Book___init__, m_Book⟩
  exact ok_law B g__law_kinds g_Book___init__ g__law_purse g__law_strangers g__law_take g__law_refused g__law_is_word g_Book_spreads g_Book_rules g_leads g_way_round g__law_told F_law
end FT
open PySem PySem.W PySem.Calls PyProof.Rows
set_option maxRecDepth 100000 in
set_option maxHeartbeats 0 in
theorem PySem.Challenge.cw_felltimber_k23_no_such_kind_holds : PySem.Challenge.rw_felltimber_k23_no_such_kind.Holds := by
  w_on; o_law
  refine HandSHeadRun.head_any (r := OpenLaw.row PySem.Challenge.rw_felltimber_k23_no_such_kind) (q := view (OpenLaw.row PySem.Challenge.rw_felltimber_k23_no_such_kind).prog [68]) (H := FT.hk) (ob := FT.ob) (M := 6000) (loose := FT.loose) (d := HandSHeadRun.topDef (OpenLaw.row PySem.Challenge.rw_felltimber_k23_no_such_kind).prog 68) (kwd := []) FT.ob_eq
    (by kernel_rfl) (fun s => by kernel_rfl) FT.run (by kernel_rfl) (by kernel_rfl) (by kernel_rfl) (by rfl) (by first | assumption | decide +kernel) (by decide +kernel) ⟨rfl, rfl, rfl, rfl, rfl, by decide +kernel⟩ ?hw ?hc
  case hw => w_witness2
  case hc =>
    refine L2.walk_ofE (l := PySem.Challenge.rw_felltimber_k23_no_such_kind) (n := 63) (k := 96) (x := "_law_script") (CX := L2.CX0) rfl (by decide) (by kernel_rfl) ⟨rfl, by decide, by decide⟩ ?F (fun _ _ _ _ z => z)
    intro w mg fa h Y G hmg0
    obtain ⟨K, KX, c, cx⟩ := Y
    have hmg : mg ("law" : PySem.Str) = some (.ref fa) := by
      have e : (HandSHeadRun.topDef (OpenLaw.row PySem.Challenge.rw_felltimber_k23_no_such_kind).prog 68).name = ("law" : PySem.Str) := by kernel_rfl
      rw [← e]
      exact hmg0
    obtain ⟨fd, hb, hF⟩ := FT.facts (P := (PySem.Challenge.rw_felltimber_k23_no_such_kind).prog) (w := w) KX G hmg c cx
    exact ⟨K, fd, FT.spLaw K, KX, hb, fun H a ns hl _ hS => ⟨a, ns, rfl, hS, hl, fun _ => rfl⟩, hF⟩
