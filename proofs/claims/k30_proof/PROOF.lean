import PyProof.Rows.All
import Wide.All
import OpenK.AllK
import Wide.FinOn
import KE.KStateDown
import KE.SortData
import HandS.ForMost
import HandS.More
import HandS.Walk
import HandS.Zip
import HandS.Style
import HandS.TupAny
import HandS.IsInst
import HandS.Wide
import HandS.Flow
import HandS.WordsExc
import HandS.Defaults
import HandS.Head0
import HandS.Head1
import HandS.Head2
import HandS.HeadEnd
import HandS.HeadHook1
import HandS.HeadHook2
import HandS.HeadNt
import KE.DataCmp
import HandS.SortKw
import PyProof.TupleOfSeq
import HandS.NoneIn
import HandS.ExcIs
import HandS.RevRange
import KE.GoesEnum
import KE.DataAny
import HandS.Conv
import HandS.SortInts
import HandS.FStr
import HandS.Strs
import HandS.TupSets
import HandS.DictComp
import HandS.ExcInit
import HandS.SetKeys
import HandS.SetTxt0
import HandS.SetBool
import HandS.SetFor
import KE.GoesEnumKw
import PyProof.Rows.CallKwBuiltin
import PySem.Challenge.RW_felltimber_k30_choices_told
set_option Elab.async false
set_option linter.all false
set_option maxRecDepth 100000
set_option maxHeartbeats 4000000
namespace FT
open PySem PySem.W PySem.Spec PyProof.Rows L2

/-! ## heaps: what stays but for the places ps -/
structure SB (ps : List Addr) (H H' : Hp) : Prop where
  keep : ∀ b o, H b = some o → b ∉ ps → H' b = some o
  tups : ∀ b xs, H b = some (.tup xs) → H' b = some (.tup xs)
  frzs : ∀ b o u, H b = some (.frz o u) → H' b = some (.frz o u)
  dom : ∀ b, H' b = none → H b = none
section
variable {K : PySem.W.Frag} {ps qs : List Addr} {H H' H1 H2 : Hp} {a p : Addr} {xs : List V}
theorem SB.refl : SB ps H H := ⟨fun _ _ h _ => h, fun _ _ h => h, fun _ _ _ h => h, fun _ h => h⟩
theorem SB.trans (a : SB ps H H1) (b : SB ps H1 H2) : SB ps H H2 :=
  ⟨fun c o h n => b.keep c o (a.keep c o h n) n, fun c x h => b.tups c x (a.tups c x h), fun c o u h => b.frzs c o u (a.frzs c o u h), fun c h => a.dom c (b.dom c h)⟩
theorem SB.mono (h : SB ps H H') (hs : ∀ b ∈ ps, b ∈ qs) : SB qs H H' := ⟨fun c o e n => h.keep c o e fun z => n (hs c z), h.tups, h.frzs, h.dom⟩
theorem SB.nil (h : SB [] H H') : SB ps H H' := h.mono fun _ z => absurd z (List.not_mem_nil)
theorem SB.of_same (e : Same H H') : SB ps H H' := ⟨fun b o h _ => e b o h, fun b x h => e b _ h, fun b o u h => e b _ h, fun b h => e.free h⟩
theorem SB.same (h : SB [] H H') : Same H H' := fun b o e => h.keep b o e List.not_mem_nil
theorem SB.new (h : H p = none) (o : HO) : SB ps H (upd H p o) := by
  refine ⟨fun b u e _ => ?_, fun b u e => ?_, fun b v u e => ?_, fun b e => ?_⟩
  · rw [upd_ne (ne_of_none e h)]; exact e
  · rw [upd_ne (ne_of_none e h)]; exact e
  · rw [upd_ne (ne_of_none e h)]; exact e
  · by_cases q : b = p
    · subst q; exact h
    · rw [upd_ne q] at e; exact e
theorem SB.set (h : H p = some (.lst xs)) (hp : p ∈ ps) (o : HO) : SB ps H (upd H p o) := by
  refine ⟨fun b u e n => ?_, fun b u e => ?_, fun b v u e => ?_, fun b e => ?_⟩
  · rw [upd_ne (fun (z : b = p) => n (by rw [z]; exact hp))]; exact e
  · rw [upd_ne (fun (z : b = p) => by subst z; rw [h] at e; cases e)]; exact e
  · rw [upd_ne (fun (z : b = p) => by subst z; rw [h] at e; cases e)]; exact e
  · by_cases q : b = p
    · subst q; rw [upd_same] at e; cases e
    · rw [upd_ne q] at e; exact e
theorem SB.drop (h : SB (p :: ps) H H') (n : H p = none) : SB ps H H' := by
  refine ⟨fun b o e m => h.keep b o e fun z => ?_, h.tups, h.frzs, h.dom⟩
  rcases List.mem_cons.mp z with z | z
  · subst z; rw [n] at e; cases e
  · exact m z
theorem SB.sqT (e : SB ps H H') (h : SqT K H a xs) : SqT K H' a xs := by
  rcases h with (h | ⟨o, h⟩) | h
  · exact .inl (.inl (e.tups _ _ h))
  · exact .inl (.inr ⟨o, e.frzs _ _ _ h⟩)
  · exact .inr h
theorem SB.sqL (e : SB ps H H') (n : a ∉ ps) (h : SqL K H a xs) : SqL K H' a xs := by
  rcases h with (h | ⟨o, h⟩) | h
  · exact .inl (.inl (e.keep _ _ h n))
  · exact .inl (.inr ⟨o, e.frzs _ _ _ h⟩)
  · exact .inr h
theorem SB.ne (e : SB ps H H') {b : Addr} {o : HO} (h : H b = some o) {q : Addr} (n : H' q = none) : b ≠ q := fun z => by
  subst z; rw [e.dom b n] at h; cases h
end

/-! ## ladders -/
inductive Lad where
  | nil
  | cons (e : Lad) (m : Int) (r : Lad)
  deriving DecidableEq
namespace Lad
def encs : Lad → List PyData
  | .nil => []
  | .cons e m r => .tuple [.tuple e.encs, .int m] :: r.encs
def enc (l : Lad) : PyData := .tuple l.encs
def parts : Lad → Nat
  | .nil => 0
  | .cons e _ r => 1 + e.parts + r.parts
def deep : Lad → Nat
  | .nil => 0
  | .cons e _ r => max (1 + e.deep) r.deep
def len : Lad → Nat
  | .nil => 0
  | .cons _ _ r => 1 + r.len
theorem encs_length : ∀ l : Lad, l.encs.length = l.len
  | .nil => rfl
  | .cons e m r => by show r.encs.length + 1 = 1 + r.len; rw [encs_length r, Nat.add_comm]
theorem len_parts : ∀ l : Lad, l.len ≤ l.parts
  | .nil => Nat.le_refl _
  | .cons e m r => by have := len_parts r; show 1 + r.len ≤ 1 + e.parts + r.parts; omega
theorem alikes : ∀ l k : Lad, alikeAll l.encs k.encs = true
  | .nil, _ => by simp [encs, alikeAll]
  | .cons e m r, .nil => by simp [encs, alikeAll]
  | .cons e m r, .cons e' m' r' => by
    have h1 := alikes e e'
    have h2 := alikes r r'
    simp [encs, alikeAll, alike, h1, h2]
theorem alike_enc (l k : Lad) : alike l.enc k.enc = true := by
  show alike (.tuple l.encs) (.tuple k.encs) = true
  rw [alike]; exact alikes l k
theorem encs_depth : ∀ l : Lad, PyData.depthAll l.encs ≤ 2 * l.deep
  | .nil => by simp [encs, PyData.depthAll, deep]
  | .cons e m r => by
    have h1 := encs_depth e
    have h2 := encs_depth r
    simp only [encs, PyData.depthAll, PyData.depth, deep]
    omega
theorem enc_depth (l : Lad) : l.enc.depth ≤ 2 * l.deep + 1 := by
  have := encs_depth l
  simp only [enc, PyData.depth]
  omega
theorem enc_ne (l : Lad) : l.enc ≠ .none := fun h => nomatch h
end Lad

/-! ## x < y of data -/
def rLtD (K : PySem.W.Frag) : R2 := fun x y H Q => ∃ d e, Dp K H x d ∧ Dp K H y e ∧ alike d e = true ∧ d ≠ .none ∧ d.depth ≤ 100 ∧ Q (.bl (dataLt d e)) H
section
variable {X : Cx}
theorem op_ltD (hu : X.A.units + 100 < cLine) : OpR X (compareOp .Lt) (rLtD X.K) := by
  intro pins s σ H x y v u Q I rx ry h
  obtain ⟨d, e, hd, he, al, hn, hdp, q⟩ := h
  obtain ⟨as, r1⟩ := Dp.reads I d x v hd rx
  obtain ⟨bs, r2⟩ := Dp.reads I e y u he ry
  exact rcLt_alike d e X.A s v u as bs r1 r2 al hn (by have := Nat.min_le_left d.depth e.depth; omega) X.prog X.w X.xe _ ⟨.bl _, H, I, rfl, q⟩
end

/-! ## data of tuples stays -/
mutual
def noList : PyData → Bool
  | .list _ => false
  | .dict _ => false
  | .tuple ds => noLists ds
  | _ => true
def noLists : List PyData → Bool
  | [] => true
  | d :: ds => noList d && noLists ds
end
section
variable {K : PySem.W.Frag} {ps : List Addr} {H H' : Hp}
mutual
theorem Dp_sb (e : SB ps H H') : ∀ (d : PyData) (v : V), noList d = true → Dp K H v d → Dp K H' v d
  | .none, _, _, h => by cases h; exact .non
  | .bool b, _, _, h => by cases h; exact .bl b
  | .int i, _, _, h => by cases h; exact .int i
  | .str x, _, _, h => by cases h; exact .str x
  | .list ds, _, n, _ => by simp [noList] at n
  | .dict ds, _, n, _ => by simp [noList] at n
  | .tuple ds, _, n, h => by
    cases h with
    | tup hs ha => exact .tup (e.sqT hs) (DpAll_sb e ds _ (by simpa [noList] using n) ha)
theorem DpAll_sb (e : SB ps H H') : ∀ (ds : List PyData) (vs : List V), noLists ds = true → DpAll K H vs ds → DpAll K H' vs ds
  | [], _, _, h => by cases h; exact .nil
  | d :: ds, _, n, h => by
    cases h with
    | cons h1 h2 =>
      simp [noLists] at n
      exact .cons (Dp_sb e d _ n.1 h1) (DpAll_sb e ds _ n.2 h2)
end
end
theorem Lad.noLists_encs : ∀ l : Lad, noLists l.encs = true
  | .nil => by simp [Lad.encs, noLists]
  | .cons e m r => by simp [Lad.encs, noLists, noList, Lad.noLists_encs e, Lad.noLists_encs r]
theorem Lad.noList_enc (l : Lad) : noList l.enc = true := by simp [Lad.enc, noList, Lad.noLists_encs l]

/-- at v stands the ladder l -/
def LA (K : PySem.W.Frag) (H : Hp) (v : V) (l : Lad) : Prop := Dp K H v l.enc
section
variable {K : PySem.W.Frag} {ps : List Addr} {H H' : Hp} {v : V} {l : Lad}
theorem LA.sb (h : LA K H v l) (e : SB ps H H') : LA K H' v l := Dp_sb e _ _ l.noList_enc h
theorem LA.tup (h : LA K H v l) : ∃ a xs, v = .ref a ∧ SqT K H a xs ∧ DpAll K H xs l.encs := by
  have h' : Dp K H v (.tuple l.encs) := h
  cases h' with
  | tup hs ha => exact ⟨_, _, rfl, hs, ha⟩
theorem DpAll.length : ∀ {vs : List V} {ds : List PyData}, DpAll K H vs ds → vs.length = ds.length
  | _, _, .nil => rfl
  | _, _, .cons _ t => by rw [List.length_cons, List.length_cons, DpAll.length t]
theorem DpAll.get : ∀ {vs : List V} {ds : List PyData} {i : Nat} {v : V}, DpAll K H vs ds → vs[i]? = some v → ∃ d, ds[i]? = some d ∧ Dp K H v d
  | _, _, _, _, .nil, e => by simp at e
  | _, _, 0, _, .cons h t, e => by simp at e; subst e; exact ⟨_, rfl, h⟩
  | _, _, i + 1, v, .cons h t, e => by
    obtain ⟨d, h1, h2⟩ := DpAll.get (i := i) (v := v) t (by simpa using e)
    exact ⟨d, by simpa using h1, h2⟩
end
end FT
namespace FT
open PySem PySem.W PySem.Spec PyProof.Rows L2

/-! ## built-in names that the module has not -/
structure BI (mg : Str → Option Value) : Prop where
  len : mg "len" = none
  isinstance : mg "isinstance" = none
  int : mg "int" = none
  bool : mg "bool" = none
  str : mg "str" = none
  tuple : mg "tuple" = none
  list : mg "list" = none
  all : mg "all" = none
  zip : mg "zip" = none
  sum : mg "sum" = none
  max : mg "max" = none
  range : mg "range" = none
  enumerate : mg "enumerate" = none
  abs : mg "abs" = none
  sorted : mg "sorted" = none
  min : mg "min" = none
  reversed : mg "reversed" = none
  any : mg "any" = none
  set : mg "set" = none
  dict : mg "dict" = none
  repr : mg "repr" = none

/-! ## a def of the module, with its promise -/
structure Got (P : Program) (w : World) (K : PySem.W.Frag) (mg : Str → Option Value) (base : Heap) (x : Str) (ps : List Str) (k : Nat) (sp : Sp) : Prop where
  ex : ∃ (f : Addr) (fd : FuncData), FnOk P w K mg base CX0 k f fd ps sp ∧ PySem.W.keepIn K (.ref f) = true ∧ Binds K fd ps [] ∧ mg x = some (.ref f)
section
variable {X : Cx} {x : Str} {ps : List Str} {k : Nat} {sp : Sp} {e : Expr} {es : List Expr} {t : TA} {p pos : Pos}
theorem pe_got (G : Got X.prog X.w X.K X.mg X.base x ps k sp) (hr : Room k X.A) (hg : Gl X x) (ha : PA X (e :: es) t) (hdb : (x == ("__debug__" : Str)) = false := by decide) (he : starEach (e :: es) X.env = (false, eval e X.env) :: starEach es X.env := by rfl) (hpl : (backTo pos (starEach es X.env)).any (·.1) = false := by rfl) :
    PE X (.Call (.Name x p) (e :: es) [] pos) (tCall sp [] E0 t) := by
  obtain ⟨f, fd, h1, h2, h3, h4⟩ := G.ex
  exact pe_call h1 hr hg h4 h2 h3 .nil pass0 ha hdb he hpl
end

/-! ## isinstance(x, T), T a built-in class -/
def rIsiN (K : PySem.W.Frag) : List V → Hp → VK → Prop := fun xs H Q => ∃ (x : V) (T n : String) (b : Bool), xs = [x, .ty T] ∧ TyX K H x (.type n) ∧ kitB n T = some b ∧ Q (.bl b) H
section
variable {X : Cx}
theorem call_isiN : CallR X (.builtin "isinstance") (rIsiN X.K) := by
  intro pins s σ H xs us Q I r h
  obtain ⟨x, T, n, b, rfl, ty, e, q⟩ := h
  exact call_isi pins s σ H _ us Q I r ⟨x, .ty T, .type n, .type T, b, rfl, .ty T, ty, kit_ty e, q⟩
theorem pe_ty {T : Str} {T' : String} {pos : Pos} (hg : Gl X T) (hm : X.mg T = none) (hv : bootBuiltins T = some (.type T')) (hn : T ≠ "__name__" := by decide) (hd : (T == ("__debug__" : Str)) = false := by decide) : PE X (.Name T pos) (tC (.ty T')) := pe_bltn hg hm hv rfl hn hd
theorem pe_isi {e : Expr} {te : TE} {T : Str} {T' : String} {p p2 pos : Pos} (B : BI X.mg) (he : PE X e te) (hm : X.mg T = none) (hv : bootBuiltins T = some (.type T')) (hg : Gl X "isinstance" := by rfl) (hg2 : Gl X T := by rfl) (hn : T ≠ "__name__" := by decide) (hd : (T == ("__debug__" : Str)) = false := by decide)
   (hs : starEach [e, .Name T p2] X.env = (false, eval e X.env) :: starEach [.Name T p2] X.env := by rfl) (hpl : (backTo pos (starEach [.Name T p2] X.env)).any (·.1) = false := by rfl) :
    PE X (.Call (.Name "isinstance" p) [e, .Name T p2] [] pos) (tCB (rIsiN X.K) (tCons te (tCons (tC (.ty T')) tNil))) :=
  pe_callB call_isiN hg B.isinstance boot_isinstance (pa_cons he (pa_cons (pe_ty hg2 hm hv hn hd) pa_nil) hs) (by decide) (by decide) hs hpl
end

/-! ## things of any kind: tuples, whole numbers, others -/
mutual
inductive Th (K : PySem.W.Frag) (ps : List Addr) (H : Hp) : V → PyData → Prop
  | int (i : Int) : Th K ps H (.int i) (.int i)
  | tup {a : Addr} {xs : List V} {ds : List PyData} : SqT K H a xs → ThAll K ps H xs ds → Th K ps H (.ref a) (.tuple ds)
  | oth {v : V} {n : String} : TyX K H v (.type n) → kitB n "tuple" = some false → (kitB n "int" = some false ∨ n = "bool") → (∀ a, v = .ref a → a ∉ ps) → Th K ps H v .none
inductive ThAll (K : PySem.W.Frag) (ps : List Addr) (H : Hp) : List V → List PyData → Prop
  | nil : ThAll K ps H [] []
  | cons {v : V} {vs : List V} {d : PyData} {ds : List PyData} : Th K ps H v d → ThAll K ps H vs ds → ThAll K ps H (v :: vs) (d :: ds)
end
def manyD : PyData → Bool
  | .int i => decide (1 ≤ i)
  | _ => false
section
variable {K : PySem.W.Frag} {ps : List Addr} {H H' : Hp}
theorem SqT_ty {a : Addr} {xs : List V} (h : SqT K H a xs) : TyX K H (.ref a) (.type "tuple") := by
  rcases h with (h | ⟨o, h⟩) | ⟨o, its, n, h, c, _⟩
  · exact .base (.tup h)
  · exact .fTuple h
  · exact .kTuple h c
theorem Th.ty {v : V} {d : PyData} (h : Th K ps H v d) : ∃ n b, TyX K H v (.type n) ∧ kitB n "tuple" = some b ∧ (b = true → ∃ a xs ds, v = .ref a ∧ d = .tuple ds ∧ SqT K H a xs ∧ ThAll K ps H xs ds) ∧ (b = false → (∃ i, d = .int i) ∨ d = .none) := by
  cases h with
  | int i => exact ⟨"int", false, .base (.int i), by decide +kernel, fun z => (nomatch z), fun _ => .inl ⟨i, rfl⟩⟩
  | tup hs ha => exact ⟨"tuple", true, (SqT_ty hs), by decide +kernel, fun _ => ⟨_, _, _, rfl, rfl, hs, ha⟩, fun z => (nomatch z)⟩
  | oth ty k1 k2 _ => exact ⟨_, false, ty, k1, fun z => (nomatch z), fun _ => .inr rfl⟩
theorem Th.whole {v : V} {d : PyData} (h : Th K ps H v d) : ∃ n b1 b2, TyX K H v (.type n) ∧ kitB n "int" = some b1 ∧ (b1 = true → kitB n "bool" = some b2) ∧ ((b1 && !b2) = true → ∃ i, v = .int i ∧ d = .int i) ∧ ((b1 && !b2) = false → manyD d = false) := by
  cases h with
  | int i => exact ⟨"int", true, false, .base (.int i), by decide +kernel, fun _ => by decide +kernel, fun _ => ⟨i, rfl, rfl⟩, fun z => (nomatch z)⟩
  | tup hs ha => exact ⟨"tuple", false, false, (SqT_ty hs), by decide +kernel, fun z => (nomatch z), fun z => (nomatch z), fun _ => rfl⟩
  | @oth v n ty k1 k2 _ =>
    rcases k2 with k2 | k2
    · exact ⟨n, false, false, ty, k2, fun z => (nomatch z), fun z => (nomatch z), fun _ => rfl⟩
    · subst k2
      exact ⟨"bool", true, true, ty, by decide +kernel, fun _ => by decide +kernel, fun z => (nomatch z), fun _ => rfl⟩
theorem ThAll.length : ∀ {vs : List V} {ds : List PyData}, ThAll K ps H vs ds → vs.length = ds.length
  | _, _, .nil => rfl
  | _, _, .cons _ t => by rw [List.length_cons, List.length_cons, ThAll.length t]
theorem ThAll.get : ∀ {vs : List V} {ds : List PyData} {i : Nat} {v : V}, ThAll K ps H vs ds → vs[i]? = some v → ∃ d, ds[i]? = some d ∧ Th K ps H v d
  | _, _, _, _, .nil, e => by simp at e
  | _, _, 0, _, .cons h t, e => by simp at e; subst e; exact ⟨_, rfl, h⟩
  | _, _, i + 1, v, .cons h t, e => by
    obtain ⟨d, h1, h2⟩ := ThAll.get (i := i) (v := v) t (by simpa using e)
    exact ⟨d, by simpa using h1, h2⟩
theorem TyX_sb {v : V} {n : String} (e : SB ps H H') (hn : ∀ a, v = .ref a → a ∉ ps) (h : TyX K H v (.type n)) : TyX K H' v (.type n) := by
  cases h with
  | base h =>
    cases h with
    | non => exact .base .non
    | bl x => exact .base (.bl x)
    | int i => exact .base (.int i)
    | str x => exact .base (.str x)
    | flt x => exact .base (.flt x)
    | lst h => exact .base (.lst (e.keep _ _ h (hn _ rfl)))
    | frz h => exact .base (.frz (e.frzs _ _ _ h))
    | tup h => exact .base (.tup (e.tups _ _ h))
    | dK h => exact .base (.dK (e.keep _ _ h (hn _ rfl)))
    | dT h => exact .base (.dT (e.keep _ _ h (hn _ rfl)))
  | byt b => exact .byt b
  | set h => exact .set (e.keep _ _ h (hn _ rfl))
  | kList h c => exact .kList h c
  | kTuple h c => exact .kTuple h c
  | kDict h c => exact .kDict h c
  | fTuple h => exact .fTuple (e.frzs _ _ _ h)
  | fDict h => exact .fDict (e.frzs _ _ _ h)
mutual
theorem Th_sb (e : SB ps H H') : ∀ {v : V} {d : PyData}, Th K ps H v d → Th K ps H' v d
  | _, _, .int i => .int i
  | _, _, .tup hs ha => .tup (e.sqT hs) (ThAll_sb e ha)
  | _, _, .oth ty k1 k2 hn => .oth (TyX_sb e hn ty) k1 k2 hn
theorem ThAll_sb (e : SB ps H H') : ∀ {vs : List V} {ds : List PyData}, ThAll K ps H vs ds → ThAll K ps H' vs ds
  | _, _, .nil => .nil
  | _, _, .cons h t => .cons (Th_sb e h) (ThAll_sb e t)
end
/-- a ladder is a thing -/
theorem LA_th : ∀ (l : Lad) {v : V}, LA K H v l → Th K ps H v l.enc := by
  intro l
  have key : ∀ (l : Lad) {vs : List V}, DpAll K H vs l.encs → ThAll K ps H vs l.encs := by
    intro l
    induction l with
    | nil => intro vs h; cases h; exact .nil
    | cons e m r ihe ihr =>
      intro vs h
      cases h with
      | cons h1 h2 =>
        refine .cons ?_ (ihr h2)
        cases h1 with
        | tup hs ha =>
          refine .tup hs ?_
          cases ha with
          | cons a1 a2 =>
            cases a2 with
            | cons b1 b2 =>
              cases b2
              cases b1
              cases a1 with
              | tup hs2 ha2 => exact .cons (.tup hs2 (ihe ha2)) (.cons (.int m) .nil)
  intro v h
  obtain ⟨a, xs, rfl, hs, ha⟩ := h.tup
  exact .tup hs (key l ha)
end
end FT
namespace FT
open PySem PySem.W PySem.Spec PyProof.Rows L2
/-- the values vs bear the data bs -/
inductive Bears (K : PySem.W.Frag) (H : Hp) {β : Type} (enc : β → PyData) : List V → List β → Prop
  | nil : Bears K H enc [] []
  | cons {v : V} {vs : List V} {b : β} {bs : List β} : Dp K H v (enc b) → Bears K H enc vs bs → Bears K H enc (v :: vs) (b :: bs)
section
variable {K : PySem.W.Frag} {H H' : Hp} {β : Type} {enc : β → PyData} {ps : List Addr}
theorem Bears.length : ∀ {vs : List V} {bs : List β}, Bears K H enc vs bs → vs.length = bs.length
  | _, _, .nil => rfl
  | _, _, .cons _ t => by rw [List.length_cons, List.length_cons, Bears.length t]
theorem Bears.dp : ∀ {vs : List V} {bs : List β}, Bears K H enc vs bs → DpAll K H vs (bs.map enc)
  | _, _, .nil => .nil
  | _, _, .cons h t => .cons h (Bears.dp t)
theorem Bears.of : ∀ {vs : List V} {bs : List β}, DpAll K H vs (bs.map enc) → Bears K H enc vs bs
  | [], [], _ => .nil
  | _ :: _, [], h => by cases h
  | [], _ :: _, h => by cases h
  | v :: vs, b :: bs, h => by
    cases h with
    | cons h1 h2 => exact .cons h1 (Bears.of h2)
theorem Bears.get : ∀ {vs : List V} {bs : List β} {i : Nat} {v : V}, Bears K H enc vs bs → vs[i]? = some v → ∃ b, bs[i]? = some b ∧ Dp K H v (enc b)
  | _, _, _, _, .nil, e => by simp at e
  | _, _, 0, _, .cons h t, e => by simp at e; subst e; exact ⟨_, rfl, h⟩
  | _, _, i + 1, v, .cons h t, e => by
    obtain ⟨d, h1, h2⟩ := Bears.get (i := i) (v := v) t (by simpa using e)
    exact ⟨d, by simpa using h1, h2⟩
theorem Bears.append : ∀ {xs ys : List V} {bs cs : List β}, Bears K H enc xs bs → Bears K H enc ys cs → Bears K H enc (xs ++ ys) (bs ++ cs)
  | _, _, _, _, .nil, h => h
  | _, _, _, _, .cons a b, h => .cons a (Bears.append b h)
theorem Bears.reverse : ∀ {xs : List V} {bs : List β}, Bears K H enc xs bs → Bears K H enc xs.reverse bs.reverse
  | _, _, .nil => .nil
  | _, _, .cons a b => by
    rw [List.reverse_cons, List.reverse_cons]
    exact Bears.append (Bears.reverse b) (.cons a .nil)
theorem Bears.sb (e : SB ps H H') (hn : ∀ b, noList (enc b) = true) : ∀ {xs : List V} {bs : List β}, Bears K H enc xs bs → Bears K H' enc xs bs
  | _, _, .nil => .nil
  | _, _, .cons a b => .cons (Dp_sb e _ _ (hn _) a) (Bears.sb e hn b)
theorem Bears.take (n : Nat) : ∀ {xs : List V} {bs : List β}, Bears K H enc xs bs → Bears K H enc (xs.take n) (bs.take n) := by
  induction n with
  | zero => intro xs bs h; rw [List.take_zero, List.take_zero]; exact .nil
  | succ n ih =>
    intro xs bs h
    cases h with
    | nil => exact .nil
    | cons a b => exact .cons a (ih b)
theorem Bears.drop (n : Nat) : ∀ {xs : List V} {bs : List β}, Bears K H enc xs bs → Bears K H enc (xs.drop n) (bs.drop n) := by
  induction n with
  | zero => intro xs bs h; exact h
  | succ n ih =>
    intro xs bs h
    cases h with
    | nil => exact .nil
    | cons a b => exact ih b
end
section
variable {X : Cx} {pins : List (Addr × Obj)} {σ : L2.St} {H : Hp} {s : Shared} {β : Type} {enc : β → PyData}
theorem each_of (I : Inv X pins σ H s) : ∀ {vs : List V} {us : List Value} {bs : List β}, Bears X.K H enc vs bs → Vals vs us →
    EachIs (fun u b => ∃ v, RelV v u ∧ Dp X.K H v (enc b)) us bs ∧ EachIs (fun u b => ∃ as, Reads s.heap u (enc b) as) us bs
  | _, _, _, .nil, .nil => ⟨.nil, .nil⟩
  | _, _, _, .cons h t, .cons r u => by
    obtain ⟨h1, h2⟩ := each_of I t u
    exact ⟨.cons ⟨_, r, h⟩ h1, .cons (Dp.reads I _ _ _ h r) h2⟩
theorem of_each {K : PySem.W.Frag} : ∀ {us : List Value} {bs : List β}, EachIs (fun u b => ∃ v, RelV v u ∧ Dp K H v (enc b)) us bs → ∃ vs, Vals vs us ∧ Bears K H enc vs bs
  | _, _, .nil => ⟨[], .nil, .nil⟩
  | _, _, .cons ⟨v, r, h⟩ t => by
    obtain ⟨vs, h1, h2⟩ := of_each t
    exact ⟨v :: vs, .cons r h1, .cons h h2⟩
end
/-- sorted(xs), xs a list of data that are alike -/
def rSortedD (K : PySem.W.Frag) {β : Type} (enc : β → PyData) : List V → Hp → VK → Prop := fun vs H Q => ∃ (a : Addr) (xs : List V) (bs : List β), vs = [V.ref a] ∧ SqL K H a xs ∧ Bears K H enc xs bs ∧ AllAlike (bs.map enc) ∧ Sortable (bs.map enc) ∧ bs.length ≤ 10000 ∧ (∀ b ∈ bs, (enc b).depth ≤ 100) ∧
  ∀ (p : Addr) (ys : List V), H p = none → Bears K H enc ys (bs.mergeSort (dataLe false enc)) → Q (.ref p) (upd H p (.lst ys))
section
variable {X : Cx}
theorem cr_sortedD {β : Type} (enc : β → PyData) (hu : X.A.units + 110 < cLine) : CallR X (.builtin "sorted") (rSortedD X.K enc) := by
  intro pins s σ H vs us Q I r h
  obtain ⟨a, xs, bs, rfl, hs, hb, hal, hsr, hl, hd, q⟩ := h
  obtain ⟨its, rv, hli, _⟩ := I.list hs
  rw [Vals.ref1 r]
  obtain ⟨e1, e2⟩ := each_of I hb rv
  refine sorted_data (vs := its) (bs := bs) (enc := enc) (R := fun u b => ∃ v, RelV v u ∧ Dp X.K H v (enc b)) hli.isList e1 e2 hal hsr (by rw [sizeLine_eq]; omega) (fun b m => by have := hd b m; omega) fun out ho h1 => ?_
  obtain ⟨ys, h2, h3⟩ := of_each h1
  obtain ⟨ep, he'⟩ := PyProof.Rows.sortedAll_at s.heap its out.toArray
  have hlen : ys.length ≤ sizeLine := by rw [h2.length, ho, sizeLine_eq]; omega
  refine ⟨.ref _, upd H (s.heap.objs.size + 1) (.lst ys), I.laid (t' := s.toks) (fun _ _ => PyProof.Rows.sortedAll_old) (Nat.le_succ _) ⟨hlen, out, ep, h2, ?_⟩, rfl, q _ ys (I.hok.fresh (Nat.le_succ _)) h3⟩
  exact he'
end
end FT
namespace FT
open PySem PySem.W PySem.Spec PyProof.Rows L2
section
variable {P : Program} {w : World} {K : PySem.W.Frag} {mg : Str → Option Value} {base : Heap} {f : Addr} {fd : FuncData}
def spWhole (K : PySem.W.Frag) : Sp := fun vs H Q _ => ∃ (v : V) (n : String) (b1 b2 : Bool), vs = [v] ∧ TyX K H v (.type n) ∧ kitB n "int" = some b1 ∧ (b1 = true → kitB n "bool" = some b2) ∧ Q (.bl (b1 && !b2)) H
def spMany (K : PySem.W.Frag) (ps : List Addr) : Sp := fun vs H Q _ => ∃ (v : V) (d : PyData), vs = [v] ∧ Th K ps H v d ∧ Q (.bl (manyD d)) H
end
def ltsD : List PyData → List Bool
  | [] => []
  | [_] => []
  | a :: b :: r => dataLt a b :: ltsD (b :: r)
def risingD (ds : List PyData) : Bool := (ltsD ds).all id
theorem ltsD_length : ∀ ds : List PyData, (ltsD ds).length = ds.length - 1
  | [] => rfl
  | [_] => rfl
  | a :: b :: r => by
    have h := ltsD_length (b :: r)
    show (ltsD (b :: r)).length + 1 = _
    rw [h]; simp
theorem ltsD_get : ∀ (ds : List PyData) (i : Nat) (d e : PyData), ds[i]? = some d → ds[i + 1]? = some e → (ltsD ds)[i]? = some (dataLt d e)
  | [], _, _, _, h, _ => by simp at h
  | [_], _, _, _, _, h => by simp at h
  | a :: b :: r, 0, d, e, h1, h2 => by simp at h1 h2; subst h1 h2; rfl
  | a :: b :: r, i + 1, d, e, h1, h2 => by
    have := ltsD_get (b :: r) i d e (by simpa using h1) (by simpa using h2)
    simpa [ltsD] using this
theorem cut1 (xs : List V) : cutV xs (some 1) none = xs.drop 1 := by
  unfold cutV
  have h1 : HT.sIx xs.length 0 (some 1) = min 1 xs.length := HT.sIx_nat xs.length 0 1
  have h2 : HT.sIx xs.length xs.length none = xs.length := rfl
  rw [h1, h2]
  cases xs with
  | nil => rfl
  | cons x r =>
    have : min 1 (x :: r).length = 1 := by simp
    rw [this]
    simp
section
variable {P : Program} {w : World} {K : PySem.W.Frag} {mg : Str → Option Value} {base : Heap} {f : Addr} {fd : FuncData}
def OkD (d : PyData) : Prop := noList d = true ∧ d ≠ .none ∧ d.depth ≤ 100
def spRising (K : PySem.W.Frag) : Sp := fun vs H Q _ => ∃ (a : Addr) (xs : List V) (ds : List PyData), vs = [.ref a] ∧ SqL K H a xs ∧ DpAll K H xs ds ∧ (∀ d ∈ ds, OkD d) ∧ AllAlike ds ∧ xs.length ≤ 1000 ∧
  ∀ H', SB [] H H' → Q (.bl (risingD ds)) H'
abbrev N_rising : List Str := ["things", "low", "high"]
end
def Lad.num (i : Int) : Lad := if i = 0 then .nil else .cons .nil i .nil
def Lad.lt (l k : Lad) : Bool := dataLt l.enc k.enc
section
variable {P : Program} {w : World} {K : PySem.W.Frag} {mg : Str → Option Value} {base : Heap} {f : Addr} {fd : FuncData}
theorem LA_nil {H : Hp} {p : Addr} (h : SqT K H p []) : LA K H (.ref p) .nil := Dp.tup h .nil
theorem LA_one {H : Hp} {p q : Addr} {u : V} {e : Lad} {m : Int} (h : SqT K H p [.ref q]) (h2 : SqT K H q [u, .int m]) (h3 : LA K H u e) : LA K H (.ref p) (.cons e m .nil) :=
  Dp.tup h (.cons (.tup h2 (.cons h3 (.cons (.int m) .nil))) .nil)
def spNumber (K : PySem.W.Frag) : Sp := fun vs H Q _ => ∃ i : Int, vs = [.int i] ∧ ∀ v H', SB [] H H' → LA K H' v (Lad.num i) → Q v H'
def spLess (K : PySem.W.Frag) : Sp := fun vs H Q _ => ∃ (v u : V) (l k : Lad), vs = [v, u] ∧ LA K H v l ∧ LA K H u k ∧ l.deep ≤ 45 ∧ Q (.bl (l.lt k)) H
end
namespace Lad
def ps : Lad → List (Lad × Int)
  | .nil => []
  | .cons e m r => (e, m) :: r.ps
def ofPs : List (Lad × Int) → Lad
  | [] => .nil
  | (e, m) :: r => .cons e m (ofPs r)
def pEnc (p : Lad × Int) : PyData := .tuple [p.1.enc, .int p.2]
theorem ofPs_ps : ∀ l : Lad, ofPs l.ps = l
  | .nil => rfl
  | .cons e m r => by show cons e m (ofPs r.ps) = _; rw [ofPs_ps r]
theorem ps_ofPs : ∀ l : List (Lad × Int), (ofPs l).ps = l
  | [] => rfl
  | (e, m) :: r => by show (e, m) :: (ofPs r).ps = _; rw [ps_ofPs r]
theorem encs_ps : ∀ l : Lad, l.encs = l.ps.map pEnc
  | .nil => rfl
  | .cons e m r => by show _ :: r.encs = pEnc (e, m) :: r.ps.map pEnc; rw [encs_ps r]; rfl
theorem ps_length (l : Lad) : l.ps.length = l.len := by rw [← encs_length, encs_ps, List.length_map]
theorem parts_ps : ∀ l : Lad, (l.parts : Int) = (l.ps.map fun p => (1 : Int) + (p.1.parts : Int)).sum
  | .nil => rfl
  | .cons e m r => by
    have h := parts_ps r
    show ((1 + e.parts + r.parts : Nat) : Int) = (1 + (e.parts : Int)) + (r.ps.map fun p => (1 : Int) + (p.1.parts : Int)).sum
    rw [← h]; omega
theorem mem_parts : ∀ (l : Lad) (p : Lad × Int), p ∈ l.ps → p.1.parts < l.parts
  | .nil, _, h => by simp [ps] at h
  | .cons e m r, p, h => by
    rcases List.mem_cons.mp h with h | h
    · subst h; show e.parts < 1 + e.parts + r.parts; omega
    · have := mem_parts r p h; show p.1.parts < 1 + e.parts + r.parts; omega
theorem mem_deep : ∀ (l : Lad) (p : Lad × Int), p ∈ l.ps → p.1.deep < l.deep
  | .nil, _, h => by simp [ps] at h
  | .cons e m r, p, h => by
    rcases List.mem_cons.mp h with h | h
    · subst h; show e.deep < max (1 + e.deep) r.deep; omega
    · have := mem_deep r p h; show p.1.deep < max (1 + e.deep) r.deep; omega
theorem deep_max : ∀ (l : Lad) (m : Int), m ∈ l.ps.map (fun p => (p.1.deep : Int)) → (∀ y ∈ l.ps.map (fun p => (p.1.deep : Int)), y ≤ m) → 1 + m = (l.deep : Int)
  | .nil, _, h, _ => by simp [ps] at h
  | .cons e k r, m, h, hm => by
    have h1 : (e.deep : Int) ≤ m := hm _ (List.mem_cons_self ..)
    have h2 : ∀ y ∈ r.ps.map (fun p => (p.1.deep : Int)), y ≤ m := fun y hy => hm y (List.mem_cons_of_mem _ hy)
    rcases List.mem_cons.mp h with h | h
    · have h' : m = (e.deep : Int) := h
      have hr : (r.deep : Int) ≤ 1 + m := by
        cases r with
        | nil => show (0 : Int) ≤ 1 + m; omega
        | cons e2 k2 r2 =>
          -- some item is the greatest
          have key : ∀ (l : Lad), (∀ y ∈ l.ps.map (fun p => (p.1.deep : Int)), y ≤ m) → (l.deep : Int) ≤ 1 + m := by
            intro l
            induction l with
            | nil => intro _; show (0 : Int) ≤ 1 + m; omega
            | cons e k r _ ih =>
              intro hh
              have a1 := ih fun y hy => hh y (List.mem_cons_of_mem _ hy)
              have a2 : (e.deep : Int) ≤ m := hh _ (List.mem_cons_self ..)
              show ((max (1 + e.deep) r.deep : Nat) : Int) ≤ 1 + m
              omega
          exact key _ h2
      show 1 + m = ((max (1 + e.deep) r.deep : Nat) : Int)
      omega
    · have := deep_max r m h h2
      show 1 + m = ((max (1 + e.deep) r.deep : Nat) : Int)
      omega
end Lad
section
variable {P : Program} {w : World} {K : PySem.W.Frag} {mg : Str → Option Value} {base : Heap} {f : Addr} {fd : FuncData}
theorem LA_pair {H : Hp} {v : V} {p : Lad × Int} (h : Dp K H v (Lad.pEnc p)) : ∃ a u, v = .ref a ∧ SqT K H a [u, .int p.2] ∧ LA K H u p.1 := by
  have h' : Dp K H v (.tuple [p.1.enc, .int p.2]) := h
  cases h' with
  | tup hs ha =>
    cases ha with
    | cons a1 a2 =>
      cases a2 with
      | cons b1 b2 =>
        cases b2
        cases b1
        exact ⟨_, _, rfl, hs, a1⟩
theorem LA_items {H : Hp} {v : V} {l : Lad} (h : LA K H v l) : ∃ a xs, v = .ref a ∧ SqT K H a xs ∧ xs.length = l.ps.length ∧ ∀ (i : Nat) (x : V), xs[i]? = some x → ∃ (p : Lad × Int) (b : Addr) (u : V), l.ps[i]? = some p ∧ p ∈ l.ps ∧ x = .ref b ∧ SqT K H b [u, .int p.2] ∧ LA K H u p.1 := by
  obtain ⟨a, xs, rfl, hs, ha⟩ := h.tup
  refine ⟨a, xs, rfl, hs, ?_, fun i x hx => ?_⟩
  · rw [DpAll.length ha, Lad.encs_ps, List.length_map]
  obtain ⟨d, e, hd⟩ := DpAll.get ha hx
  rw [Lad.encs_ps, List.getElem?_map] at e
  cases e2 : l.ps[i]? with
  | none => rw [e2] at e; cases e
  | some p =>
    rw [e2] at e
    have e3 : Lad.pEnc p = d := Option.some.inj e
    subst e3
    obtain ⟨b, u, rfl, h1, h2⟩ := LA_pair hd
    exact ⟨p, b, u, rfl, List.mem_of_getElem? e2, rfl, h1, h2⟩
abbrev gPair (K : PySem.W.Frag) : TG := gTup K 2 (gCons (gName 1) (gCons (gName 2) gNil))
abbrev rPlus : R2 := rI0 fun i j => .int (i + j)
def spParts (K : PySem.W.Frag) (n : Nat) : Sp := fun vs H Q _ => ∃ (v : V) (l : Lad), vs = [v] ∧ LA K H v l ∧ l.deep < n ∧ l.parts ≤ 1000 ∧ ∀ H', SB [] H H' → Q (.int l.parts) H'
abbrev N_parts : List Str := ["ladder", "exponent", "many"]
def spDeep (K : PySem.W.Frag) (n : Nat) : Sp := fun vs H Q _ => ∃ (v : V) (l : Lad), vs = [v] ∧ LA K H v l ∧ l.deep < n ∧ l.parts ≤ 1000 ∧ ∀ H', SB [] H H' → Q (.int l.deep) H'
end
def exp0 : PyData → PyData
  | .tuple (e :: _) => e
  | _ => .none
mutual
def ladD : PyData → Bool
  | .tuple ds => ladPs ds && risingD (ds.map exp0).reverse
  | _ => false
def ladPs : List PyData → Bool
  | [] => true
  | d :: ds => ladP d && ladPs ds
def ladP : PyData → Bool
  | .tuple ds => ladP2 ds
  | _ => false
def ladP2 : List PyData → Bool
  | [] => false
  | e :: r => ladD e && ladP3 r
def ladP3 : List PyData → Bool
  | [] => false
  | m :: r => manyD m && r.isEmpty
end
theorem ladP_iff {d : PyData} : ladP d = true ↔ ∃ e i, d = .tuple [e, .int i] ∧ ladD e = true ∧ (1 : Int) ≤ i := by
  constructor
  · intro h
    cases d with
    | tuple ds =>
      rw [ladP] at h
      cases ds with
      | nil => simp [ladP2] at h
      | cons e r =>
        simp only [ladP2, Bool.and_eq_true] at h
        obtain ⟨h1, h2⟩ := h
        cases r with
        | nil => simp [ladP3] at h2
        | cons m r =>
          simp only [ladP3, Bool.and_eq_true] at h2
          obtain ⟨h2, h3⟩ := h2
          cases r with
          | cons _ _ => simp at h3
          | nil =>
            cases m with
            | int i => exact ⟨e, i, rfl, h1, of_decide_eq_true h2⟩
            | _ => simp [manyD] at h2
    | _ => simp [ladP] at h
  · rintro ⟨e, i, rfl, h1, h2⟩
    simp [ladP, ladP2, ladP3, manyD, h1, h2]
theorem ladPs_lad (IH : ∀ d, ladD d = true → ∃ l : Lad, d = l.enc) : True := trivial
mutual
theorem ladD_lad : ∀ d : PyData, ladD d = true → ∃ l : Lad, d = l.enc
  | .tuple ds, h => by
    rw [ladD, Bool.and_eq_true] at h
    obtain ⟨l, e⟩ := ladPs_enc ds h.1
    exact ⟨l, by rw [e]; rfl⟩
  | .none, h => by simp [ladD] at h
  | .bool _, h => by simp [ladD] at h
  | .int _, h => by simp [ladD] at h
  | .str _, h => by simp [ladD] at h
  | .list _, h => by simp [ladD] at h
  | .dict _, h => by simp [ladD] at h
theorem ladPs_enc : ∀ ds : List PyData, ladPs ds = true → ∃ l : Lad, ds = l.encs
  | [], _ => ⟨.nil, rfl⟩
  | d :: ds, h => by
    rw [ladPs, Bool.and_eq_true] at h
    obtain ⟨r, er⟩ := ladPs_enc ds h.2
    obtain ⟨e, i, ed, he⟩ := ladP_enc d h.1
    exact ⟨.cons e i r, by rw [er, ed]; rfl⟩
theorem ladP_enc : ∀ d : PyData, ladP d = true → ∃ (e : Lad) (i : Int), d = .tuple [e.enc, .int i] ∧ (1 : Int) ≤ i
  | .tuple ds, h => by
    rw [ladP] at h
    obtain ⟨e, i, ed, he⟩ := ladP2_enc ds h
    exact ⟨e, i, by rw [ed], he⟩
  | .none, h => by simp [ladP] at h
  | .bool _, h => by simp [ladP] at h
  | .int _, h => by simp [ladP] at h
  | .str _, h => by simp [ladP] at h
  | .list _, h => by simp [ladP] at h
  | .dict _, h => by simp [ladP] at h
theorem ladP2_enc : ∀ ds : List PyData, ladP2 ds = true → ∃ (e : Lad) (i : Int), ds = [e.enc, .int i] ∧ (1 : Int) ≤ i
  | [], h => by simp [ladP2] at h
  | d :: r, h => by
    rw [ladP2, Bool.and_eq_true] at h
    obtain ⟨l, el⟩ := ladD_lad d h.1
    have h2 := h.2
    match r, h2 with
    | [], h2 => simp [ladP3] at h2
    | .int i :: [], h2 =>
      simp [ladP3, manyD] at h2
      exact ⟨l, i, by rw [el], h2⟩
    | .int i :: _ :: _, h2 => simp [ladP3] at h2
    | .none :: _, h2 => simp [ladP3, manyD] at h2
    | .bool _ :: _, h2 => simp [ladP3, manyD] at h2
    | .str _ :: _, h2 => simp [ladP3, manyD] at h2
    | .list _ :: _, h2 => simp [ladP3, manyD] at h2
    | .dict _ :: _, h2 => simp [ladP3, manyD] at h2
    | .tuple _ :: _, h2 => simp [ladP3, manyD] at h2
end
/-- a thing that is a ladder's datum is a ladder -/
theorem Th_la {K : PySem.W.Frag} {ps : List Addr} {H : Hp} : ∀ (l : Lad) {v : V}, Th K ps H v l.enc → LA K H v l := by
  have key : ∀ (l : Lad) {vs : List V}, ThAll K ps H vs l.encs → DpAll K H vs l.encs := by
    intro l
    induction l with
    | nil => intro vs h; cases h; exact .nil
    | cons e m r ihe ihr =>
      intro vs h
      cases h with
      | cons h1 h2 =>
        refine .cons ?_ (ihr h2)
        cases h1 with
        | tup hs ha =>
          refine .tup hs ?_
          cases ha with
          | cons a1 a2 =>
            cases a2 with
            | cons b1 b2 =>
              cases b2
              cases b1
              cases a1 with
              | tup hs2 ha2 => exact .cons (.tup hs2 (ihe ha2)) (.cons (.int m) .nil)
  intro l v h
  have h' : Th K ps H v (.tuple l.encs) := h
  cases h' with
  | tup hs ha => exact Dp.tup hs (key l ha)
theorem depthAll_get {ds : List PyData} {i : Nat} {d : PyData} (h : ds[i]? = some d) : d.depth ≤ PyData.depthAll ds := PyData.depth_le_depthAll ds d (List.mem_of_getElem? h)
theorem ladPs_all : ∀ ds : List PyData, ladPs ds = ds.all ladP
  | [] => by simp [ladPs]
  | d :: ds => by rw [ladPs, ladPs_all ds]; rfl
section
variable {P : Program} {w : World} {K : PySem.W.Frag} {mg : Str → Option Value} {base : Heap} {f : Addr} {fd : FuncData} {ps : List Addr}
mutual
def wide : PyData → Nat
  | .tuple ds => max ds.length (wides ds)
  | _ => 0
def wides : List PyData → Nat
  | [] => 0
  | d :: ds => max (wide d) (wides ds)
end
theorem wide_mem : ∀ (ds : List PyData) (d : PyData), d ∈ ds → wide d ≤ wides ds
  | [], _, h => by simp at h
  | e :: ds, d, h => by
    rw [wides]
    rcases List.mem_cons.mp h with h | h
    · subst h; omega
    · have := wide_mem ds d h; omega
theorem wide_tuple (ds : List PyData) : wide (.tuple ds) = max ds.length (wides ds) := by rw [wide]
def spLadder (K : PySem.W.Frag) (ps : List Addr) (n : Nat) : Sp := fun vs H Q _ => ∃ (v : V) (d : PyData), vs = [v] ∧ Th K ps H v d ∧ d.depth < n ∧ d.depth ≤ 80 ∧ wide d ≤ 1000 ∧ ∀ H', SB [] H H' → Q (.bl (ladD d)) H'
def spLadPair (K : PySem.W.Frag) (ps : List Addr) (n : Nat) : Sp := fun vs H Q _ => ∃ (v : V) (d : PyData), vs = [v] ∧ Th K ps H v d ∧ d.depth < n ∧ d.depth ≤ 80 ∧ wide d ≤ 1000 ∧ ∀ H', SB [] H H' → Q (.bl (ladP d)) H'
end
section
variable {K : PySem.W.Frag} {H : Hp}
theorem DpAll.append : ∀ {xs ys : List V} {ds es : List PyData}, DpAll K H xs ds → DpAll K H ys es → DpAll K H (xs ++ ys) (ds ++ es)
  | _, _, _, _, .nil, h => h
  | _, _, _, _, .cons a b, h => .cons a (DpAll.append b h)
theorem DpAll.reverse : ∀ {xs : List V} {ds : List PyData}, DpAll K H xs ds → DpAll K H xs.reverse ds.reverse
  | _, _, .nil => .nil
  | _, _, .cons a b => by
    rw [List.reverse_cons, List.reverse_cons]
    exact DpAll.append (DpAll.reverse b) (.cons a .nil)
theorem noLists_encl : ∀ l : List (Lad × Int), noLists (l.map fun p => p.1.enc) = true
  | [] => by simp [noLists]
  | p :: l => by simp [noLists, noLists_encl l, Lad.noList_enc]
theorem depth_mem {l : Lad} {p : Lad × Int} (h : p ∈ l.ps) : p.1.enc.depth < l.enc.depth := by
  have h1 : Lad.pEnc p ∈ l.encs := by rw [Lad.encs_ps]; exact List.mem_map_of_mem h
  have h2 := PyData.depth_le_depthAll _ _ h1
  have h3 : p.1.enc.depth < (Lad.pEnc p).depth := by simp only [Lad.pEnc, PyData.depth, PyData.depthAll]; omega
  show _ < PyData.depth (.tuple l.encs)
  simp only [PyData.depth]
  omega
end
section
variable {P : Program} {w : World} {K : PySem.W.Frag} {mg : Str → Option Value} {base : Heap} {f : Addr} {fd : FuncData} {ps : List Addr}
abbrev N_ladder : List Str := ["thing", "pair"]
end
/-- a purse -/
def Pu (H : Hp) (p : Addr) : Prop := ∃ x y : Int, H p = some (.lst [.int x, .int y]) ∧ 0 ≤ x ∧ 0 ≤ y ∧ y < 2147483629
section
variable {P : Program} {w : World} {K : PySem.W.Frag} {mg : Str → Option Value} {base : Heap} {f : Addr} {fd : FuncData}
def spAt (K : PySem.W.Frag) : Sp := fun vs H Q _ => ∃ (a : Addr) (ns : List Int) (k : Nat), vs = [.ref a, .int (k : Int)] ∧ SqL K H a (ns.map V.int) ∧ ∀ i : Int, Q (.int i) H
def spPurse : Sp := fun vs H Q _ => ∃ c s : Int, vs = [.int c, .int s] ∧ 0 ≤ s ∧ s ≤ 1000 ∧ ∀ p H', SB [] H H' → H p = none → Pu H' p → Q (.ref p) H'
abbrev N_purse : List Str := ["_law_cell", "_law_salt", "_law_digits"]
def spDraw : Sp := fun vs H Q _ => ∃ (p : Addr) (m : Int), vs = [.ref p, .int m] ∧ Pu H p ∧ 1 ≤ m ∧ m < 2 ^ 100 ∧ ∀ r H', 0 ≤ r → r < m → SB [p] H H' → Pu H' p → Q (.int r) H'
abbrev N_draw : List Str := ["_law_purse_here", "_law_many_here", "_law_found", "_law_mixed"]
theorem ix0 {x y : V} : atI [x, y] 0 = some x := rfl
theorem ix1 {x y : V} : atI [x, y] 1 = some y := rfl
end
section
variable {P : Program} {w : World} {K : PySem.W.Frag} {mg : Str → Option Value} {base : Heap} {f : Addr} {fd : FuncData}
abbrev GDraw (P : Program) (w : World) (K : PySem.W.Frag) (mg : Str → Option Value) (base : Heap) : Prop := Got P w K mg base "_law_draw" ["_law_purse_here", "_law_many_here"] 1 spDraw
def spLMany : Sp := fun vs H Q _ => ∃ (p : Addr), vs = [.ref p] ∧ Pu H p ∧ ∀ m H', 1 ≤ m → m < 10 ^ 60 → SB [p] H H' → Pu H' p → Q (.int m) H'
abbrev N_many : List Str := ["_law_purse_here", "_law_way", "_law_found", "_law_turn"]
def spTruth : Sp := fun vs H Q _ => ∃ b : Bool, vs = [.bl b, .bl b] ∧ Q (.bl true) H
end
mutual
def plainD : PyData → Bool
  | .int _ => true
  | .tuple ds => plainDs ds
  | _ => false
def plainDs : List PyData → Bool
  | [] => true
  | d :: ds => plainD d && plainDs ds
end
theorem plainDs_mem : ∀ (ds : List PyData) (d : PyData), plainDs ds = true → d ∈ ds → plainD d = true
  | [], _, _, h => by simp at h
  | e :: ds, d, hp, h => by
    rw [plainDs, Bool.and_eq_true] at hp
    rcases List.mem_cons.mp h with h | h
    · subst h; exact hp.1
    · exact plainDs_mem ds d hp.2 h
mutual
theorem plain_noList : ∀ d : PyData, plainD d = true → noList d = true
  | .int _, _ => by simp [noList]
  | .tuple ds, h => by rw [plainD] at h; rw [noList]; exact plain_noLists ds h
  | .none, h => by simp [plainD] at h
  | .bool _, h => by simp [plainD] at h
  | .str _, h => by simp [plainD] at h
  | .list _, h => by simp [plainD] at h
  | .dict _, h => by simp [plainD] at h
theorem plain_noLists : ∀ ds : List PyData, plainDs ds = true → noLists ds = true
  | [], _ => by simp [noLists]
  | d :: ds, h => by
    rw [plainDs, Bool.and_eq_true] at h
    rw [noLists, plain_noList d h.1, plain_noLists ds h.2]; rfl
end
theorem Lad.plains : ∀ l : Lad, plainDs l.encs = true
  | .nil => by simp [Lad.encs, plainDs]
  | .cons e m r => by simp [Lad.encs, plainDs, plainD, Lad.plains e, Lad.plains r]
theorem Lad.plain (l : Lad) : plainD l.enc = true := by rw [Lad.enc, plainD]; exact l.plains
theorem Lad.wides_encs : ∀ l : Lad, l.len ≤ l.parts ∧ wides l.encs ≤ max 2 l.parts
  | .nil => by simp [Lad.encs, wides, Lad.len, Lad.parts]
  | .cons e m r => by
    have h1 := Lad.wides_encs e
    have h2 := Lad.wides_encs r
    have h3 : e.encs.length = e.len := e.encs_length
    refine ⟨by show 1 + r.len ≤ 1 + e.parts + r.parts; omega, ?_⟩
    simp only [Lad.encs, wides, wide, Lad.parts, List.length_cons, List.length_nil]
    omega
theorem Lad.wide_enc (l : Lad) : wide l.enc ≤ max 2 l.parts := by
  have h1 := l.wides_encs
  have h3 := l.encs_length
  rw [Lad.enc, wide_tuple]
  omega
section
variable {K : PySem.W.Frag} {a b : Addr} {xs ys : List V}
theorem walk_zipT {n : Nat} (hn : n = min xs.length ys.length) : Walk (RZ.ItzT K a b) n (fun H => SqT K H a xs ∧ SqT K H b ys) (YPair (fun i => xs[i]?) (fun i => ys[i]?)) := by
  subst hn
  refine ⟨fun i H hi h => ?_, fun H h => ?_, fun i H x H' hi h y => ?_⟩
  · have h1 : i < xs.length := by omega
    have h2 : i < ys.length := by omega
    exact ⟨xs, ys, xs[i], ys[i], h.1, h.2, List.getElem?_eq_getElem h1, List.getElem?_eq_getElem h2⟩
  · exact ⟨xs, ys, h.1, h.2, by omega⟩
  · obtain ⟨T, x1, y1, e1, e2, e3, e4, e5⟩ := y
    exact ⟨T, x1, y1, e1, e2, e3, e4 xs h.1, e5 ys h.2⟩
end
section
variable {P : Program} {w : World} {K : PySem.W.Frag} {mg : Str → Option Value} {base : Heap} {f : Addr} {fd : FuncData}
def spAlike (K : PySem.W.Frag) (n : Nat) : Sp := fun vs H Q _ => ∃ (v u : V) (d : PyData), vs = [v, u] ∧ Dp K H v d ∧ Dp K H u d ∧ plainD d = true ∧ d.depth < n ∧ wide d ≤ 1000 ∧ ∀ H', SB [] H H' → Q (.bl true) H'
end
theorem ib (m m' : Int) : (m == m') = decide (m = m') := by by_cases h : m = m' <;> simp [h]
theorem Lad.eqvs : ∀ l k : Lad, PyData.eqvAll l.encs k.encs = decide (l = k)
  | .nil, .nil => by simp [encs, PyData.eqvAll]
  | .nil, .cons _ _ _ => by simp [encs, PyData.eqvAll]
  | .cons _ _ _, .nil => by simp [encs, PyData.eqvAll]
  | .cons e m r, .cons e' m' r' => by
    have h1 := Lad.eqvs e e'
    have h2 := Lad.eqvs r r'
    simp [encs, PyData.eqvAll, PyData.eqv, h1, h2, Bool.and_assoc, ib]
theorem Lad.eqv_enc (l k : Lad) : PyData.eqv l.enc k.enc = decide (l = k) := by
  rw [Lad.enc, Lad.enc, PyData.eqv]; exact Lad.eqvs l k
theorem Lad.lt_nil_nil : Lad.lt .nil .nil = false := by decide +kernel
theorem Lad.lt_nil_cons (e : Lad) (m : Int) (r : Lad) : Lad.lt .nil (.cons e m r) = true := by
  unfold Lad.lt Lad.enc
  rw [dataLt_tuple, Lad.encs, Lad.encs, toks_all_cons, show keyToksAll [] = [.inl 0] by simp [keyToksAll], lex_atom (by simp), lex_one]
  decide +kernel
theorem Lad.lt_cons_nil (e : Lad) (m : Int) (r : Lad) : Lad.lt (.cons e m r) .nil = false := by
  unfold Lad.lt Lad.enc
  rw [dataLt_tuple, Lad.encs, Lad.encs, toks_all_cons, show keyToksAll [] = [.inl 0] by simp [keyToksAll], lex_atom (by simp), lex_one]
  decide +kernel
theorem Lad.lt_cons (e e' : Lad) (m m' : Int) (r r' : Lad) : Lad.lt (.cons e m r) (.cons e' m' r') = if e = e' then (if m = m' then r.lt r' else decide (m < m')) else e.lt e' := by
  have al : alike (.tuple [e.enc, .int m]) (.tuple [e'.enc, .int m']) = true := by simp [alike, alikeAll, e.alike_enc e']
  have h1 : Lad.lt (.cons e m r) (.cons e' m' r') = if PyData.eqv (.tuple [e.enc, .int m]) (.tuple [e'.enc, .int m']) = true then r.lt r' else dataLt (.tuple [e.enc, .int m]) (.tuple [e'.enc, .int m']) := by
    unfold Lad.lt
    rw [show (Lad.cons e m r).enc = .tuple (.tuple [e.enc, .int m] :: r.encs) from rfl, show (Lad.cons e' m' r').enc = .tuple (.tuple [e'.enc, .int m'] :: r'.encs) from rfl, dataLt_tuple, dataLt_cons al]
    rw [show dataLt r.enc r'.enc = PyProof.Rows.lexLt itemOrd (keyToksAll r.encs) (keyToksAll r'.encs) from dataLt_tuple _ _]
  have h2 : PyData.eqv (.tuple [e.enc, .int m]) (.tuple [e'.enc, .int m']) = (decide (e = e') && decide (m = m')) := by
    simp [PyData.eqv, PyData.eqvAll, Lad.eqv_enc, ib]
  rw [h1, h2, dataLt_pair (e.alike_enc e') (by simp [alike]), Lad.eqv_enc]
  by_cases he : e = e'
  · by_cases hm : m = m'
    · simp [he, hm]
    · simp [he, hm, PyData.eqv, dataLt_int]
  · simp [he, Lad.lt]
namespace Lad
theorem lt_irrefl : ∀ l : Lad, l.lt l = false
  | .nil => lt_nil_nil
  | .cons e m r => by rw [lt_cons, if_pos rfl, if_pos rfl]; exact lt_irrefl r
theorem lt_nil_r : ∀ l : Lad, l.lt .nil = false
  | .nil => lt_nil_nil
  | .cons e m r => lt_cons_nil e m r
theorem lt_ne {l k : Lad} (h : l.lt k = true) : l ≠ k := fun z => by subst z; rw [lt_irrefl] at h; cases h
theorem lt_tri : ∀ l k : Lad, l ≠ k → l.lt k = false → k.lt l = true
  | .nil, .nil, h, _ => absurd rfl h
  | .nil, .cons e m r, _, h => by rw [lt_nil_cons] at h; cases h
  | .cons e m r, .nil, _, _ => lt_nil_cons e m r
  | .cons e m r, .cons e' m' r', hne, h => by
    rw [lt_cons] at h ⊢
    by_cases he : e = e'
    · subst he
      rw [if_pos rfl] at h ⊢
      by_cases hm : m = m'
      · subst hm
        rw [if_pos rfl] at h ⊢
        exact lt_tri r r' (fun z => hne (by rw [z])) h
      · rw [if_neg hm] at h
        rw [if_neg (fun z => hm z.symm)]
        have := of_decide_eq_false h
        exact decide_eq_true (by omega)
    · rw [if_neg he] at h
      rw [if_neg (fun z => he z.symm)]
      exact lt_tri e e' he h
theorem lt_trans : ∀ l k j : Lad, l.lt k = true → k.lt j = true → l.lt j = true
  | _, _, .nil, _, h => by rw [lt_nil_r] at h; cases h
  | _, .nil, .cons _ _ _, h, _ => by rw [lt_nil_r] at h; cases h
  | .nil, .cons _ _ _, .cons e m r, _, _ => lt_nil_cons e m r
  | .cons e m r, .cons e' m' r', .cons e'' m'' r'', h1, h2 => by
    rw [lt_cons] at h1 h2 ⊢
    by_cases he : e = e'
    · subst he
      rw [if_pos rfl] at h1
      by_cases he2 : e = e''
      · subst he2
        rw [if_pos rfl] at h2 ⊢
        by_cases hm : m = m'
        · subst hm
          rw [if_pos rfl] at h1
          by_cases hm2 : m = m''
          · subst hm2
            rw [if_pos rfl] at h2 ⊢
            exact lt_trans r r' r'' h1 h2
          · rw [if_neg hm2] at h2 ⊢
            exact h2
        · rw [if_neg hm] at h1
          have a1 := of_decide_eq_true h1
          by_cases hm2 : m' = m''
          · subst hm2
            rw [if_neg hm]
            exact h1
          · rw [if_neg hm2] at h2
            have a2 := of_decide_eq_true h2
            rw [if_neg (by omega)]
            exact decide_eq_true (by omega)
      · rw [if_neg he2] at h2 ⊢
        exact h2
    · rw [if_neg he] at h1
      by_cases he2 : e' = e''
      · subst he2
        rw [if_neg he]
        exact h1
      · rw [if_neg he2] at h2
        have h3 := lt_trans e e' e'' h1 h2
        rw [if_neg (lt_ne h3)]
        exact h3
theorem lt_asymm {l k : Lad} (h : l.lt k = true) : k.lt l = false := by
  cases e : k.lt l with
  | false => rfl
  | true =>
    have := lt_trans l k l h e
    rw [lt_irrefl] at this
    cases this
/-- a right ladder: numbers from 1 to below B, exponents falling, at each depth -/
def Ok (B : Int) : Lad → Prop
  | .nil => True
  | .cons e m r => e.Ok B ∧ 1 ≤ m ∧ m < B ∧ r.Ok B ∧ ∀ p ∈ r.ps, p.1.lt e = true
theorem Ok.mono {B C : Int} (h : B ≤ C) : ∀ {l : Lad}, l.Ok B → l.Ok C
  | .nil, _ => trivial
  | .cons e m r, ⟨h1, h2, h3, h4, h5⟩ => ⟨Ok.mono h h1, h2, by omega, Ok.mono h h4, h5⟩
theorem ok_ps {B : Int} : ∀ {ps : List (Lad × Int)}, (ofPs ps).Ok B ↔ (∀ p ∈ ps, p.1.Ok B ∧ 1 ≤ p.2 ∧ p.2 < B) ∧ ps.Pairwise (fun p q => q.1.lt p.1 = true)
  | [] => by simp [ofPs, Ok]
  | (e, m) :: r => by
    have ih := ok_ps (B := B) (ps := r)
    show (e.Ok B ∧ 1 ≤ m ∧ m < B ∧ (ofPs r).Ok B ∧ ∀ p ∈ (ofPs r).ps, p.1.lt e = true) ↔ _
    rw [ps_ofPs, List.pairwise_cons, ih]
    constructor
    · rintro ⟨h1, h2, h3, ⟨h4, h5⟩, h6⟩
      refine ⟨fun p hp => ?_, h6, h5⟩
      rcases List.mem_cons.mp hp with hp | hp
      · subst hp; exact ⟨h1, h2, h3⟩
      · exact h4 p hp
    · rintro ⟨h1, h2, h3⟩
      have h4 := h1 (e, m) (List.mem_cons_self ..)
      exact ⟨h4.1, h4.2.1, h4.2.2, ⟨fun p hp => h1 p (List.mem_cons_of_mem _ hp), h3⟩, h2⟩
theorem ok_iff {B : Int} {l : Lad} : l.Ok B ↔ (∀ p ∈ l.ps, p.1.Ok B ∧ 1 ≤ p.2 ∧ p.2 < B) ∧ l.ps.Pairwise (fun p q => q.1.lt p.1 = true) := by
  have := ok_ps (B := B) (ps := l.ps)
  rw [ofPs_ps] at this
  exact this
end Lad
theorem cutInts (ns : List Int) (lo hi : Option Int) : ∃ ms : List Int, cutV (ns.map V.int) lo hi = ms.map V.int ∧ ms.length ≤ ns.length := by
  refine ⟨(ns.drop (HT.sIx (ns.map V.int).length 0 lo)).take (HT.sIx (ns.map V.int).length (ns.map V.int).length hi - HT.sIx (ns.map V.int).length 0 lo), ?_, ?_⟩
  · unfold cutV
    rw [List.map_take, List.map_drop]
  · rw [List.length_take, List.length_drop]; omega
section
variable {P : Program} {w : World} {K : PySem.W.Frag} {mg : Str → Option Value} {base : Heap} {f : Addr} {fd : FuncData}
abbrev GLMany (P : Program) (w : World) (K : PySem.W.Frag) (mg : Str → Option Value) (base : Heap) : Prop := Got P w K mg base "_law_many" ["_law_purse_here"] 2 spLMany
end
theorem Pu.sb {H H' : Hp} {p : Addr} (h : Pu H p) (e : SB [] H H') : Pu H' p := by
  obtain ⟨x, y, h1, h2⟩ := h
  exact ⟨x, y, e.keep _ _ h1 List.not_mem_nil, h2⟩
section
variable {P : Program} {w : World} {K : PySem.W.Frag} {mg : Str → Option Value} {base : Heap} {f : Addr} {fd : FuncData}
def spLaw (K : PySem.W.Frag) : Sp := fun vs H Q _ => ∃ (a : Addr) (ns : List Int), vs = [.ref a] ∧ SqL K H a (ns.map V.int) ∧ ns.length ≤ 63 ∧ ∀ H', Q (.bl true) H'
end
section
variable {P : Program} {w : World} {K : PySem.W.Frag} {mg : Str → Option Value} {base : Heap} {f : Addr} {fd : FuncData}
theorem none_sp {ps : List Str} {k : Nat} {sp : Sp} (no : ∀ vs H Q E, ¬ sp vs H Q E) : FnOk P w K mg base CX0 k f fd ps sp :=
  ⟨fun vs H Q E h => absurd h (no vs H Q E), fun A outer s H args us vs Q E _ _ _ _ h => absurd h (no vs H Q E)⟩
theorem none_parts {ps : List Str} {k : Nat} : FnOk P w K mg base CX0 k f fd ps (spParts K 0) := none_sp fun vs H Q E ⟨v, l, _, _, h, _⟩ => by omega
theorem none_deep {ps : List Str} {k : Nat} : FnOk P w K mg base CX0 k f fd ps (spDeep K 0) := none_sp fun vs H Q E ⟨v, l, _, _, h, _⟩ => by omega
theorem none__law_alike {ps : List Str} {k : Nat} : FnOk P w K mg base CX0 k f fd ps (spAlike K 0) := none_sp fun vs H Q E ⟨v, u, d, _, _, _, _, h, _⟩ => by omega
theorem none_is_ladder {ps : List Str} {qs : List Addr} {k : Nat} : FnOk P w K mg base CX0 k f fd ps (spLadder K qs 0) := none_sp fun vs H Q E ⟨v, d, _, _, h, _⟩ => by omega
theorem none_is_ladder_pair {ps : List Str} {qs : List Addr} {k : Nat} : FnOk P w K mg base CX0 k f fd ps (spLadPair K qs 0) := none_sp fun vs H Q E ⟨v, d, _, _, h, _⟩ => by omega
theorem fun_ofD {x : Str} {st : Stmt} (D : FunD K x x (defArgs st) (defBody st) (defScope st) [] [] f fd) : Fun K x x st f fd := He5.fun_of D
end

end FT
namespace FT
open PySem PySem.W PySem.Spec PyProof.Rows L2
namespace Lad
theorem lays : ∀ l : Lad, PyData.canLayAll0 l.encs = true
  | .nil => by simp [encs, PyData.canLayAll0]
  | .cons e m r => by simp [encs, PyData.canLayAll0, PyData.canLay0, lays e, lays r]
theorem shaped_enc {l : Lad} (h : l.deep ≤ 31) : SeqAt.shaped l.enc = true := by
  have := l.enc_depth
  unfold SeqAt.shaped
  rw [show l.enc.canLay0 = true by rw [enc, PyData.canLay0]; exact lays l]
  simp; omega
theorem pEnc_alike (p q : Lad × Int) : alike (pEnc p) (pEnc q) = true := by simp [pEnc, alike, alikeAll, p.1.alike_enc q.1]
theorem pEnc_noList (p : Lad × Int) : noList (pEnc p) = true := by simp [pEnc, noList, noLists, Lad.noList_enc]
theorem pEnc_depth (p : Lad × Int) : (pEnc p).depth ≤ 2 * p.1.deep + 2 := by
  have := p.1.enc_depth
  simp only [pEnc, PyData.depth, PyData.depthAll]; omega
theorem pEnc_all (bs : List (Lad × Int)) : AllAlike (bs.map pEnc) := AllAlike.of pEnc_alike
theorem pEnc_sortable (bs : List (Lad × Int)) : Sortable (bs.map pEnc) := Sortable.tuples fun b => ⟨_, _, rfl⟩
theorem pLt (p q : Lad × Int) : dataLt (pEnc p) (pEnc q) = if p.1 = q.1 then decide (p.2 < q.2) else p.1.lt q.1 := by
  unfold pEnc
  rw [dataLt_pair (p.1.alike_enc q.1) (by simp [alike]), Lad.eqv_enc]
  by_cases h : p.1 = q.1
  · rw [if_pos (by simp [h]), if_pos h, dataLt_int]
    by_cases h2 : p.2 = q.2
    · simp [PyData.eqv, h2]
    · simp [PyData.eqv, h2]
  · rw [if_neg (by simp [h]), if_neg h]; rfl
/-- the parts of pairs -/
def tot : List (Lad × Int) → Nat
  | [] => 0
  | p :: r => 1 + p.1.parts + tot r
theorem parts_ofPs : ∀ bs : List (Lad × Int), (ofPs bs).parts = tot bs
  | [] => rfl
  | (e, m) :: r => by show 1 + e.parts + (ofPs r).parts = 1 + e.parts + tot r; rw [parts_ofPs r]
theorem tot_append : ∀ bs cs : List (Lad × Int), tot (bs ++ cs) = tot bs + tot cs
  | [], cs => by simp [tot]
  | p :: r, cs => by show 1 + p.1.parts + tot (r ++ cs) = _; rw [tot_append r cs, tot]; omega
theorem tot_filter (f : Lad × Int → Bool) : ∀ bs : List (Lad × Int), tot (bs.filter f) ≤ tot bs
  | [] => by simp [tot]
  | p :: r => by
    have := tot_filter f r
    rw [List.filter_cons]
    split
    · show 1 + p.1.parts + tot (r.filter f) ≤ 1 + p.1.parts + tot r; omega
    · show tot (r.filter f) ≤ 1 + p.1.parts + tot r; omega
theorem tot_perm {bs cs : List (Lad × Int)} (h : bs.Perm cs) : tot bs = tot cs := by
  induction h with
  | nil => rfl
  | cons x _ ih => simp only [tot]; omega
  | swap x y l => simp only [tot]; omega
  | trans _ _ h1 h2 => omega
theorem len_ofPs (bs : List (Lad × Int)) : (ofPs bs).len = bs.length := by rw [← ps_length, ps_ofPs]
theorem len_le_tot : ∀ bs : List (Lad × Int), bs.length ≤ tot bs
  | [] => Nat.le_refl _
  | p :: r => by have := len_le_tot r; show r.length + 1 ≤ 1 + p.1.parts + tot r; omega
theorem deep_ofPs {n : Nat} : ∀ {bs : List (Lad × Int)}, (∀ b ∈ bs, b.1.deep < n) → (ofPs bs).deep ≤ n
  | [], _ => Nat.zero_le _
  | (e, m) :: r, h => by
    have h1 := deep_ofPs (bs := r) fun b hb => h b (List.mem_cons_of_mem _ hb)
    have h2 : e.deep < n := h (e, m) (List.mem_cons_self ..)
    show max (1 + e.deep) (ofPs r).deep ≤ n
    omega
abbrev srt (bs : List (Lad × Int)) : List (Lad × Int) := bs.mergeSort (dataLe false pEnc)
theorem srt_perm (bs : List (Lad × Int)) : (srt bs).Perm bs := List.mergeSort_perm _ _
theorem srt_le (bs : List (Lad × Int)) : (srt bs).Pairwise (fun a b => dataLt (pEnc b) (pEnc a) = false) := by
  have h := sort_pairwise (le := dataLe false pEnc) (sortLe_total _ _ _) bs
  refine h.imp fun {a b} hab => ?_
  have h2 : (!dataLt (pEnc b) (pEnc a)) = true := hab
  simpa using h2
theorem srt_desc {bs : List (Lad × Int)} (hn : (bs.map (·.1)).Nodup) : (srt bs).reverse.Pairwise (fun p q => q.1.lt p.1 = true) := by
  rw [List.pairwise_reverse]
  have h1 := srt_le bs
  have h2 : ((srt bs).map (·.1)).Nodup := ((srt_perm bs).map _).nodup_iff.mpr hn
  have h3 : (srt bs).Pairwise (fun a b => a.1 ≠ b.1) := List.pairwise_map.mp h2
  refine (h1.and h3).imp fun {a b} hab => ?_
  obtain ⟨x, y⟩ := hab
  rw [pLt, if_neg (fun z => y z.symm)] at x
  exact lt_tri b.1 a.1 (fun z => y z.symm) x
end Lad
theorem Bears_la {K : PySem.W.Frag} {H : Hp} {a : Addr} {xs : List V} {bs : List (Lad × Int)} (h : SqT K H a xs) (hb : Bears K H Lad.pEnc xs bs) : LA K H (.ref a) (Lad.ofPs bs) := by
  refine Dp.tup h ?_
  rw [Lad.encs_ps, Lad.ps_ofPs]
  exact hb.dp
theorem LA_bears {K : PySem.W.Frag} {H : Hp} {v : V} {l : Lad} (h : LA K H v l) : ∃ a xs, v = .ref a ∧ SqT K H a xs ∧ Bears K H Lad.pEnc xs l.ps := by
  obtain ⟨a, xs, rfl, hs, ha⟩ := h.tup
  rw [Lad.encs_ps] at ha
  exact ⟨a, xs, rfl, hs, Bears.of ha⟩
/-- a drawn ladder -/
def spLGen (K : PySem.W.Frag) (n : Nat) : Sp := fun vs H Q _ => ∃ (p : Addr) (u : Int) (q : Addr) (m : Int), vs = [.ref p, .int u, .ref q] ∧ Pu H p ∧ H q = some (.lst [.int m]) ∧ p ≠ q ∧ 1 ≤ u ∧ u ≤ n ∧ u ≤ 12 ∧ 0 ≤ m ∧ m ≤ 60 ∧
  ∀ (v : V) (l : Lad) (H' : Hp) (m' : Int), SB [p, q] H H' → Pu H' p → H' q = some (.lst [.int m']) → 0 ≤ m' → (l.parts : Int) + m' ≤ m → l.Ok (10 ^ 60) → (l.deep : Int) ≤ u → LA K H' v l → Q v H'
end FT
namespace FT
open PySem PySem.W PySem.Spec PyProof.Rows L2
/-! ## x > y of data; tuples put together and cut, whatever object comes -/
def rGtD (K : PySem.W.Frag) : R2 := fun x y H Q => ∃ d e, Dp K H x d ∧ Dp K H y e ∧ alike d e = true ∧ d ≠ .none ∧ d.depth ≤ 100 ∧ Q (.bl (dataLt e d)) H
def rCatB (K : PySem.W.Frag) : R2 := fun x y H Q => ∃ a b xs ys, x = .ref a ∧ y = .ref b ∧ SqT K H a xs ∧ SqT K H b ys ∧ xs.length + ys.length ≤ 10000 ∧ ∀ c H', SB [] H H' → SqT K H' c (xs ++ ys) → Q (.ref c) H'
def rSlB (K : PySem.W.Frag) : V → Option Int → Option Int → Hp → VK → Prop := fun x lo hi H Q => ∃ a xs, x = .ref a ∧ SqT K H a xs ∧ ∀ c H', SB [] H H' → SqT K H' c (cutV xs lo hi) → Q (.ref c) H'
section
variable {X : Cx}
theorem op_gtD (hu : X.A.units + 100 < cLine) : OpR X (compareOp .Gt) (rGtD X.K) := by
  intro pins s σ H x y v u Q I rx ry h
  obtain ⟨d, e, hd, he, al, hn, hdp, q⟩ := h
  obtain ⟨as, r1⟩ := Dp.reads I d x v hd rx
  obtain ⟨bs, r2⟩ := Dp.reads I e y u he ry
  exact gt_data r1 r2 al hn (by have := Nat.min_le_left d.depth e.depth; omega) ⟨.bl _, H, I, rfl, q⟩
theorem op_catB : OpR X (binaryOp .Add) (rCatB X.K) := by
  intro pins s σ H x y v u Q I rx ry h
  obtain ⟨a, b, xs, ys, rfl, rfl, ha, hb, hz, q⟩ := h
  refine op_catA pins s σ H _ _ v u Q I rx ry ⟨a, b, xs, ys, rfl, rfl, ha, hb, by rw [sizeLine_eq]; omega, fun e => ?_, fun e1 e2 => ?_, fun e1 e2 p hp => ?_⟩
  · subst e; exact q b H SB.refl hb
  · subst e2; exact q a H SB.refl (by rw [List.append_nil]; exact ha)
  · exact q p _ (SB.new hp _) (SqT.of upd_same)
theorem sl_tupB : SlR X (rSlB X.K) := by
  intro pins s σ H x v vl vu lo hi sl Q I rx hs pl pu h
  obtain ⟨a, xs, rfl, hx, q⟩ := h
  refine sl_tupA pins s σ H _ v vl vu lo hi sl Q I rx hs pl pu ⟨a, xs, rfl, hx, fun e => ?_, fun e p hp => ?_⟩
  · refine q a H SB.refl ?_
    have : cutV xs lo hi = xs := by
      unfold cutV
      rw [e.1, e.2]
      simp
    rw [this]; exact hx
  · exact q p _ (SB.new hp _) (SqT.of upd_same)
end
theorem cutTake (xs : List V) (k : Nat) : cutV xs none (some (k : Int)) = xs.take k := by
  unfold cutV
  have h1 : HT.sIx xs.length 0 none = 0 := rfl
  have h2 : HT.sIx xs.length xs.length (some (k : Int)) = min k xs.length := HT.sIx_nat xs.length xs.length k
  rw [h1, h2]
  simp
theorem cutDrop (xs : List V) (k : Nat) : cutV xs (some (k : Int)) none = xs.drop k := by
  unfold cutV
  have h1 : HT.sIx xs.length 0 (some (k : Int)) = min k xs.length := HT.sIx_nat xs.length 0 k
  have h2 : HT.sIx xs.length xs.length none = xs.length := rfl
  rw [h1, h2]
  by_cases h : k ≤ xs.length
  · rw [Nat.min_eq_left h, List.take_of_length_le (by rw [List.length_drop]; omega)]
  · rw [Nat.min_eq_right (by omega), List.drop_eq_nil_of_le (Nat.le_refl _), List.drop_eq_nil_of_le (by omega)]
    simp
namespace Lad
def sumAt (ps : List (Lad × Int)) (e : Lad) : Int := ((ps.filter fun p => decide (p.1 = e)).map (·.2)).sum
/-- the second behind the first -/
def bhd (l k : Lad) : Lad := match k.ps with
  | [] => l
  | (e, m) :: r => ofPs (l.ps.filter (fun p => e.lt p.1) ++ (e, sumAt l.ps e + m) :: r)
theorem bhd_nil (l : Lad) : bhd l .nil = l := rfl
theorem bhd_cons (l e : Lad) (m : Int) (r : Lad) : bhd l (.cons e m r) = ofPs (l.ps.filter (fun p => e.lt p.1) ++ (e, sumAt l.ps e + m) :: r.ps) := rfl
theorem deep_le_of_mem {n : Nat} {l : Lad} (h : ∀ p ∈ l.ps, p.1.deep < n) : l.deep ≤ n := by
  have := deep_ofPs (n := n) (bs := l.ps) h
  rw [ofPs_ps] at this
  exact this
theorem take_tot (k : Nat) : ∀ bs : List (Lad × Int), tot (bs.take k) ≤ tot bs := by
  induction k with
  | zero => intro bs; simp [tot]
  | succ k ih =>
    intro bs
    cases bs with
    | nil => simp [tot]
    | cons p r => have := ih r; simp only [List.take_succ_cons, tot]; omega
end Lad
/-! ## promises -/
def spNear (K : PySem.W.Frag) : Sp := fun vs H Q _ => ∃ (p : Addr) (v u : V) (l k : Lad), vs = [.ref p, v, u] ∧ Pu H p ∧ LA K H v l ∧ LA K H u k ∧ l.Ok (10 ^ 60) ∧ k.Ok (10 ^ 60) ∧ l.parts ≤ 200 ∧ k.parts ≤ 200 ∧ l.deep ≤ 12 ∧ k.deep ≤ 12 ∧
  ∀ (x : V) (j : Lad) (H' : Hp), SB [p] H H' → Pu H' p → LA K H' x j → j.Ok (10 ^ 60) → j.parts ≤ l.parts + k.parts → j.deep ≤ 12 → Q x H'
def spManyAt (K : PySem.W.Frag) : Sp := fun vs H Q _ => ∃ (v u : V) (l e : Lad), vs = [v, u] ∧ LA K H v l ∧ LA K H u e ∧ l.deep ≤ 30 ∧ e.deep ≤ 30 ∧ l.parts ≤ 1000 ∧ ∀ H', SB [] H H' → Q (.int (Lad.sumAt l.ps e)) H'
def spBehind (K : PySem.W.Frag) : Sp := fun vs H Q _ => ∃ (v u : V) (l k : Lad), vs = [v, u] ∧ LA K H v l ∧ LA K H u k ∧ l.deep ≤ 30 ∧ k.deep ≤ 30 ∧ l.parts ≤ 900 ∧ k.parts ≤ 900 ∧ ∀ (x : V) (H' : Hp), SB [] H H' → LA K H' x (l.bhd k) → Q x H'
/-- two drawn ladders, of n parts at most each, the other one perhaps near the one -/
def spSome (K : PySem.W.Frag) (n : Nat) : Sp := fun vs H Q _ => ∃ (p : Addr), vs = [.ref p] ∧ Pu H p ∧
  ∀ (a : Addr) (x y : V) (l k : Lad) (H' : Hp), SB [p] H H' → Pu H' p → SqT K H' a [x, y] → LA K H' x l → LA K H' y k → l.Ok (10 ^ 60) → k.Ok (10 ^ 60) → l.parts ≤ n → k.parts ≤ 2 * n → l.deep ≤ 12 → k.deep ≤ 12 → Q (.ref a) H'
end FT
namespace FT
open PySem PySem.W PySem.Spec PyProof.Rows L2
namespace Lad
theorem split_at {l : Lad} {k : Nat} {e : Lad} {m : Int} (h : l.ps[k]? = some (e, m)) : l.ps = l.ps.take k ++ (e, m) :: l.ps.drop (k + 1) := by
  have hk : k < l.ps.length := (List.getElem?_eq_some_iff.mp h).1
  have he : l.ps[k] = (e, m) := (List.getElem?_eq_some_iff.mp h).2
  have h2 := List.take_append_drop k l.ps
  rw [List.drop_eq_getElem_cons hk, he] at h2
  exact h2.symm
theorem nearA {B : Int} {l o : Lad} {k : Nat} {e : Lad} {m mn : Int} (hl : l.Ok B) (ho : o.Ok B) (h : l.ps[k]? = some (e, m)) (h1 : 1 ≤ mn) (h2 : mn < B) :
    (ofPs (l.ps.take k ++ (e, mn) :: o.ps.filter (fun p => p.1.lt e))).Ok B ∧ (ofPs (l.ps.take k ++ (e, mn) :: o.ps.filter (fun p => p.1.lt e))).parts ≤ l.parts + o.parts := by
  have hs := split_at h
  obtain ⟨a1, a2⟩ := ok_iff.mp hl
  obtain ⟨b1, b2⟩ := ok_iff.mp ho
  have ae : e.Ok B := (a1 (e, m) (List.mem_of_getElem? h)).1
  rw [hs, List.pairwise_append, List.pairwise_cons] at a2
  obtain ⟨c1, ⟨c2, c3⟩, c4⟩ := a2
  constructor
  · rw [ok_ps]
    constructor
    · intro p hp
      rcases List.mem_append.mp hp with hp | hp
      · exact a1 p (List.mem_of_mem_take hp)
      · rcases List.mem_cons.mp hp with hp | hp
        · subst hp; exact ⟨ae, h1, h2⟩
        · exact b1 p (List.mem_filter.mp hp).1
    · rw [List.pairwise_append, List.pairwise_cons]
      refine ⟨c1, ⟨fun p hp => (List.mem_filter.mp hp).2, b2.sublist List.filter_sublist⟩, fun a ha b hb => ?_⟩
      have q := c4 a ha (e, m) (List.mem_cons_self ..)
      rcases List.mem_cons.mp hb with hb | hb
      · subst hb; exact q
      · exact lt_trans _ _ _ (List.mem_filter.mp hb).2 q
  · have p1 : l.parts = tot l.ps := by rw [← parts_ofPs, ofPs_ps]
    have p2 : o.parts = tot o.ps := by rw [← parts_ofPs, ofPs_ps]
    have p3 := tot_filter (fun p => p.1.lt e) o.ps
    have p4 : tot l.ps = tot (l.ps.take k) + (1 + e.parts + tot (l.ps.drop (k + 1))) := by
      conv => lhs; rw [hs]
      rw [tot_append]; rfl
    rw [parts_ofPs, tot_append]
    simp only [tot]
    omega
theorem nearB {B : Int} {l o : Lad} {k : Nat} {e : Lad} {m : Int} (hl : l.Ok B) (ho : o.Ok B) (h : l.ps[k]? = some (e, m)) :
    (ofPs (l.ps.take (k + 1) ++ o.ps.filter (fun p => p.1.lt e))).Ok B ∧ (ofPs (l.ps.take (k + 1) ++ o.ps.filter (fun p => p.1.lt e))).parts ≤ l.parts + o.parts := by
  obtain ⟨h1, h2⟩ := (ok_iff.mp hl).1 (e, m) (List.mem_of_getElem? h) |>.2
  have := nearA (mn := m) hl ho h h1 h2
  have e1 : l.ps.take (k + 1) ++ o.ps.filter (fun p => p.1.lt e) = l.ps.take k ++ (e, m) :: o.ps.filter (fun p => p.1.lt e) := by
    rw [List.take_add_one, h]
    simp
  rw [e1]
  exact this
theorem deep_parts_mem {l : Lad} {n : Nat} (h : l.deep ≤ n) : ∀ p ∈ l.ps, p.1.deep < n := fun p hp => Nat.lt_of_lt_of_le (mem_deep l p hp) h
end Lad
end FT
namespace FT
open PySem PySem.W PySem.Spec PyProof.Rows L2
theorem Pu.new {H : Hp} {p q : Addr} (h : Pu H p) (n : H q = none) {o : HO} : Pu (upd H q o) p := by
  obtain ⟨x, y, h1, h2⟩ := h
  exact ⟨x, y, by rw [upd_ne (ne_of_none h1 n)]; exact h1, h2⟩
theorem Pu.ne {H : Hp} {p q : Addr} (h : Pu H p) (n : H q = none) : p ≠ q := by
  obtain ⟨x, y, h1, h2⟩ := h
  exact ne_of_none h1 n
theorem SB.drop2 {p q : Addr} {H H' : Hp} (h : SB [p, q] H H') (n : H q = none) : SB [p] H H' := by
  refine ⟨fun b o e m => h.keep b o e fun z => ?_, h.tups, h.frzs, h.dom⟩
  have z' : b = p ∨ b = q := by simpa using z
  rcases z' with z | z
  · exact m (by simp [z])
  · subst z; rw [n] at e; cases e
section
variable {K : PySem.W.Frag} {H : Hp} {p : Addr} {Q : VK} {σ : L2.St} {i : Nat} {a b c d n : Int}
abbrev tFour (K : PySem.W.Frag) (i : Nat) (a b c d : Int) : TE := tOp (rIxL K) (tLst (tCons (tC (.int a)) (tCons (tC (.int b)) (tCons (tC (.int c)) (tCons (tC (.int d)) tNil))))) (tCall spDraw [] E0 (tCons (tVar i) (tCons (tC (.int 4)) tNil)))
/-- [a, b, c, d][_law_draw(purse, 4)] -/
theorem four_draw (hσ : σ[i]? = some (some (.ref p))) (hp : Pu H p) (k : ∀ (z : Int) (H' : Hp), (z = a ∨ z = b ∨ z = c ∨ z = d) → SB [p] H H' → Pu H' p → Q (.int z) H') : tFour K i a b c d σ H Q := by
  refine ⟨by show 4 ≤ sizeLine; decide, fun l hl => ?_⟩
  refine ⟨_, hσ, p, 4, rfl, hp.new hl, by decide, by decide, fun r H3 r0 r4 s3 p3 => ?_⟩
  have hl3 : H3 l = some (.lst [.int a, .int b, .int c, .int d]) := s3.keep _ _ upd_same (by simpa using fun z : l = p => hp.ne hl z.symm)
  have s1 : SB [p] H H3 := (SB.new hl _).trans s3
  have hr4 : r = 0 ∨ r = 1 ∨ r = 2 ∨ r = 3 := by omega
  rcases hr4 with h | h | h | h <;> subst h
  · exact ⟨l, _, _, .int a, rfl, rfl, SqL.of hl3, rfl, k a H3 (.inl rfl) s1 p3⟩
  · exact ⟨l, _, _, .int b, rfl, rfl, SqL.of hl3, rfl, k b H3 (.inr (.inl rfl)) s1 p3⟩
  · exact ⟨l, _, _, .int c, rfl, rfl, SqL.of hl3, rfl, k c H3 (.inr (.inr (.inl rfl))) s1 p3⟩
  · exact ⟨l, _, _, .int d, rfl, rfl, SqL.of hl3, rfl, k d H3 (.inr (.inr (.inr rfl))) s1 p3⟩
/-- _law_ladder(purse, [a, b, c, d][_law_draw(purse, 4)], [n]) -/
theorem gen_ladder (hσ : σ[i]? = some (some (.ref p))) (hp : Pu H p) (hu : ∀ z, (z = a ∨ z = b ∨ z = c ∨ z = d) → 1 ≤ z ∧ z ≤ 12) (n0 : 0 ≤ n) (n6 : n ≤ 60)
    (k : ∀ (v : V) (l : Lad) (H' : Hp), SB [p] H H' → Pu H' p → (l.parts : Int) ≤ n → l.Ok (10 ^ 60) → l.deep ≤ 12 → LA K H' v l → Q v H') :
    tCall (spLGen K 12) [] E0 (tCons (tVar i) (tCons (tFour K i a b c d) (tCons (tLst (tCons (tC (.int n)) tNil)) tNil))) σ H Q := by
  refine ⟨_, hσ, four_draw hσ hp fun u H1 hz s1 p1 => ?_⟩
  obtain ⟨u1, u12⟩ := hu u hz
  refine ⟨by show 1 ≤ sizeLine; decide, fun q hq => ?_⟩
  refine ⟨p, u, q, n, rfl, p1.new hq, upd_same, p1.ne hq, u1, u12, u12, n0, n6, fun v l H3 m3 s3 p3 q3 m30 hlp hlo hld hla3 => ?_⟩
  have s2 : SB [p, q] H1 H3 := (SB.new hq _).trans s3
  exact k v l H3 (s1.trans (s2.drop2 hq)) p3 (by omega) hlo (by omega) hla3
end
end FT
namespace FT
open PySem PySem.W PySem.Spec PyProof.Rows L2
abbrev iCells (K : PySem.W.Frag) (hi : Int) : TI := iEnum K (tCons (tOp rCat (tLst (tCons (tCall (spAt K) [] E0 (tCons (tVar 0) (tCons (tC (.int 0)) tNil))) tNil)) (tSl (rSlL K) (tVar 0) (tPart (tC (.int 1))) (tPart (tC (.int hi))))) tNil)
/-- for k, cell in enumerate([_law_at(script, 0)] + script[1:hi]) -/
theorem law_for {K : PySem.W.Frag} {H : Hp} {a : Addr} {ns : List Int} {σ : L2.St} {tb : TS} {D : Ends} {hi : Int} (hσ : σ[0]? = some (some (.ref a))) (hs : SqL K H a (ns.map V.int)) (h63 : ns.length ≤ 63) (Pv : L2.St → Hp → Prop)
    (h0 : ∀ H3, SB [] H H3 → Pv σ H3) (mono : ∀ σ H2 H3, SB [] H2 H3 → Pv σ H2 → Pv σ H3)
    (step : ∀ (H3 : Hp), SB [] H H3 → ∀ (i : Nat) (c : Int) (σ : L2.St) (H2 : Hp), i < 64 → SB [] H3 H2 → Pv σ H2 → tb { D with nx := fun σ' H' => SB [] H3 H' ∧ Pv σ' H', ct := fun σ' H' => SB [] H3 H' ∧ Pv σ' H', bk := D.nx } ((σ.set 1 (some (.int (i : Nat)))).set 2 (some (.int c))) H2)
    (done : ∀ σ H2, SB [] H H2 → Pv σ H2 → D.nx σ H2) : tFor (iCells K hi) (gTup K 2 (gCons (gName 1) (gCons (gName 2) gNil))) tb D σ H := by
  refine ⟨_, hσ, a, ns, 0, rfl, hs, fun c0 => ?_⟩
  refine ⟨(by show 1 ≤ sizeLine; decide), fun l1 hl1 => ?_⟩
  have e1 := SB.new (ps := []) hl1 (.lst [.int c0])
  refine ⟨_, hσ, 1, rfl, hi, rfl, a, _, rfl, e1.sqL List.not_mem_nil hs, fun l2 hl2 => ?_⟩
  obtain ⟨ms, em, hml⟩ := cutInts ns (some 1) (some hi)
  rw [em]
  have e2 := SB.new (ps := []) hl2 (.lst (ms.map V.int))
  refine ⟨l1, l2, _, _, rfl, rfl, e2.keep _ _ upd_same List.not_mem_nil, upd_same, ?_, fun l3 hl3 => ?_⟩
  · rw [List.length_map, List.length_singleton, sizeLine_eq]; omega
  have e3 := SB.new (ps := []) hl3 (.lst ([V.int c0] ++ ms.map V.int))
  have ea : ([V.int c0] ++ ms.map V.int : List V) = (c0 :: ms).map V.int := rfl
  refine ⟨l3, _, rfl, SqL.of upd_same, ?_⟩
  rw [ea]
  rw [ea] at e3
  have e4 := (e1.trans e2).trans e3
  have hl3' : (upd (upd (upd H l1 (.lst [.int c0])) l2 (.lst (ms.map V.int))) l3 (.lst ((c0 :: ms).map V.int))) l3 = some (.lst ((c0 :: ms).map V.int)) := upd_same
  generalize hH3 : upd (upd (upd H l1 (.lst [.int c0])) l2 (.lst (ms.map V.int))) l3 (.lst ((c0 :: ms).map V.int)) = H3 at e4 hl3'
  have n64 : (c0 :: ms).length ≤ 64 := by rw [List.length_cons]; omega
  refine for_it (walk_enum (K := K) (a := l3) (xs := (c0 :: ms).map V.int)) (fun i σ H2 => SB [] H3 H2 ∧ Pv σ H2) ⟨SB.refl, h0 H3 e4⟩ (fun i σ H2 hi h2 => h2.1.sqL List.not_mem_nil (SqL.of hl3')) (fun i x σ H2 H' hi' h2 y => ?_) (fun σ H2 h2 => done σ H2 (e4.trans h2.1) h2.2)
  obtain ⟨s2, pv⟩ := h2
  obtain ⟨T, x1, y1, rfl, hT, rfl, ex, ey⟩ := y
  have ex : some (V.int (i : Nat)) = some x1 := ex
  cases ex
  have ey : ((c0 :: ms).map V.int)[i]? = some y1 := ey
  rw [List.getElem?_map] at ey
  rw [List.length_map] at hi'
  obtain ⟨c, rfl⟩ : ∃ c : Int, y1 = .int c := by
    cases e : (c0 :: ms)[i]? with
    | none => rw [e] at ey; cases ey
    | some c => rw [e] at ey; exact ⟨c, (Option.some.inj ey).symm⟩
  have s3 := SB.new (ps := []) hT (.tup [.int (i : Nat), .int c])
  exact ⟨T, _, rfl, SqT.of upd_same, rfl, _, _, rfl, _, _, rfl, rfl, step H3 e4 i c σ _ (by omega) (s2.trans s3) (mono _ _ _ s3 pv)⟩
theorem Lad.enc_width {l : Lad} {n : Nat} (h : l.parts ≤ n) (h2 : 2 ≤ n) : wide l.enc ≤ n := by have := l.wide_enc; omega
theorem Lad.enc_lt {l : Lad} {n : Nat} (h : 2 * l.deep + 1 < n) : l.enc.depth < n := by have := l.enc_depth; omega
/-- what _law_alike asks of two ladders that are one -/
theorem alike_la {K : PySem.W.Frag} {H : Hp} {v u : V} {l : Lad} {Q : VK} {n : Nat} (hv : LA K H v l) (hu : LA K H u l) (hd : 2 * l.deep + 1 < n) (hp : l.parts ≤ 1000) (q : ∀ H', SB [] H H' → Q (.bl true) H') : spAlike K n [v, u] H Q E0 :=
  ⟨v, u, l.enc, rfl, hv, hu, l.plain, by have := l.enc_depth; omega, Lad.enc_width hp (by decide), q⟩
namespace Lad
theorem bhd_parts (l k : Lad) : (bhd l k).parts ≤ l.parts + k.parts := by
  cases k with
  | nil => rw [bhd_nil]; omega
  | cons e m r =>
    rw [bhd_cons, parts_ofPs, tot_append]
    have h1 : l.parts = tot l.ps := by rw [← parts_ofPs, ofPs_ps]
    have h2 := tot_filter (fun p => e.lt p.1) l.ps
    have h3 : r.parts = tot r.ps := by rw [← parts_ofPs, ofPs_ps]
    simp only [tot, Lad.parts]
    omega
theorem bhd_deep {n : Nat} {l k : Lad} (hl : l.deep ≤ n) (hk : k.deep ≤ n) : (bhd l k).deep ≤ n := by
  cases k with
  | nil => rw [bhd_nil]; exact hl
  | cons e m r =>
    rw [bhd_cons]
    refine deep_ofPs fun b hb => ?_
    rcases List.mem_append.mp hb with hb | hb
    · exact deep_parts_mem hl b (List.mem_filter.mp hb).1
    · rcases List.mem_cons.mp hb with hb | hb
      · subst hb; exact deep_parts_mem hk (e, m) (List.mem_cons_self ..)
      · exact deep_parts_mem hk b (List.mem_cons_of_mem _ hb)
theorem nil_bhd (k : Lad) : bhd .nil k = k := by
  cases k with
  | nil => rfl
  | cons e m r =>
    rw [bhd_cons]
    show ofPs ([] ++ (e, sumAt [] e + m) :: r.ps) = _
    have : sumAt [] e + m = m := by simp [sumAt]
    rw [this]
    show cons e m (ofPs r.ps) = _
    rw [ofPs_ps]
end Lad
section
variable {P : Program} {w : World} {K : PySem.W.Frag} {mg : Str → Option Value} {base : Heap} {f : Addr} {fd : FuncData}
theorem none__law_ladder {ps : List Str} {k : Nat} : FnOk P w K mg base CX0 k f fd ps (spLGen K 0) := none_sp fun vs H Q E ⟨p, u, q, m, _, _, _, _, h1, h2, _⟩ => by omega
end
end FT
namespace FT
open PySem PySem.W PySem.Spec PyProof.Rows L2
namespace Lad
theorem lt_ps (p q : Lad × Int) (r s : List (Lad × Int)) : (ofPs (p :: r)).lt (ofPs (q :: s)) = if p.1 = q.1 then (if p.2 = q.2 then (ofPs r).lt (ofPs s) else decide (p.2 < q.2)) else p.1.lt q.1 := lt_cons _ _ _ _ _ _
theorem lt_drop {l o : Lad} {k : Nat} {p q : Lad × Int} (hp : l.ps[k]? = some p) (hq : o.ps[k]? = some q) : (ofPs (l.ps.drop k)).lt (ofPs (o.ps.drop k)) = if p.1 = q.1 then (if p.2 = q.2 then (ofPs (l.ps.drop (k + 1))).lt (ofPs (o.ps.drop (k + 1))) else decide (p.2 < q.2)) else p.1.lt q.1 := by
  have h1 : k < l.ps.length := (List.getElem?_eq_some_iff.mp hp).1
  have h2 : k < o.ps.length := (List.getElem?_eq_some_iff.mp hq).1
  have e1 : l.ps[k] = p := (List.getElem?_eq_some_iff.mp hp).2
  have e2 : o.ps[k] = q := (List.getElem?_eq_some_iff.mp hq).2
  rw [List.drop_eq_getElem_cons h1, List.drop_eq_getElem_cons h2, e1, e2, lt_ps]
theorem lt_end {l o : Lad} {k : Nat} (hk : k ≤ l.ps.length) (hk2 : k ≤ o.ps.length) (h : ¬ (k < l.ps.length ∧ k < o.ps.length)) : (ofPs (l.ps.drop k)).lt (ofPs (o.ps.drop k)) = (decide (k = l.ps.length) && decide (k < o.ps.length)) := by
  by_cases h1 : k = l.ps.length
  · rw [List.drop_eq_nil_of_le (show l.ps.length ≤ k by omega)]
    by_cases h2 : k < o.ps.length
    · rw [List.drop_eq_getElem_cons h2]
      show Lad.lt .nil (.cons _ _ _) = _
      rw [lt_nil_cons]; simp [h1]; omega
    · rw [List.drop_eq_nil_of_le (by omega)]
      show Lad.lt .nil .nil = _
      rw [lt_nil_nil]; simp; intro _; omega
  · have h2 : ¬ k < o.ps.length := by omega
    rw [List.drop_eq_nil_of_le (as := o.ps) (by omega)]
    show Lad.lt _ .nil = _
    rw [lt_nil_r]; simp [h1]
end Lad
def spLLess (K : PySem.W.Frag) (n : Nat) : Sp := fun vs H Q _ => ∃ (v u : V) (l k : Lad), vs = [v, u] ∧ LA K H v l ∧ LA K H u k ∧ l.deep < n ∧ l.deep ≤ 30 ∧ k.deep ≤ 30 ∧ ∀ H', SB [] H H' → Q (.bl (l.lt k)) H'
/-- a list of ladders -/
abbrev Lads (K : PySem.W.Frag) (H : Hp) (xs : List V) (ls : List Lad) : Prop := Bears K H Lad.enc xs ls
theorem Bears.at {K : PySem.W.Frag} {H : Hp} {β : Type} {enc : β → PyData} : ∀ {vs : List V} {bs : List β} {i : Nat} {b : β}, Bears K H enc vs bs → bs[i]? = some b → ∃ v, vs[i]? = some v ∧ Dp K H v (enc b)
  | _, _, _, _, .nil, e => by simp at e
  | _, _, 0, _, .cons h t, e => by simp at e; subst e; exact ⟨_, rfl, h⟩
  | _, _, i + 1, b, .cons h t, e => by
    obtain ⟨d, h1, h2⟩ := Bears.at (i := i) (b := b) t (by simpa using e)
    exact ⟨d, by simpa using h1, h2⟩
theorem Bears.set {K : PySem.W.Frag} {H : Hp} {β : Type} {enc : β → PyData} {v : V} {b : β} (hv : Dp K H v (enc b)) : ∀ {vs : List V} {bs : List β} (i : Nat), Bears K H enc vs bs → Bears K H enc (vs.set i v) (bs.set i b)
  | _, _, _, .nil => .nil
  | _, _, 0, .cons h t => .cons hv t
  | _, _, i + 1, .cons h t => .cons h (Bears.set hv i t)
def spPutIn (K : PySem.W.Frag) : Sp := fun vs H Q _ => ∃ (a : Addr) (xs : List V) (v : V) (ls : List Lad) (l : Lad), vs = [.ref a, v] ∧ H a = some (.lst xs) ∧ Lads K H xs ls ∧ LA K H v l ∧ ls.length ≤ 1000 ∧ (∀ k ∈ ls, k.deep ≤ 30) ∧ l.deep ≤ 30 ∧ ls.Pairwise (fun a b => b.lt a = false) ∧
  ∀ (b : Addr) (ys : List V) (ks : List Lad) (H' : Hp), SB [] H H' → H' b = some (.lst ys) → Lads K H' ys ks → ks.Perm (l :: ls) → ks.Pairwise (fun a b => b.lt a = false) → Q (.ref b) H'
namespace Lad
theorem le_trans {a b c : Lad} (h1 : b.lt a = false) (h2 : c.lt b = false) : c.lt a = false := by
  cases e : c.lt a with
  | false => rfl
  | true =>
    by_cases hab : a = b
    · subst hab; rw [e] at h2; cases h2
    · have h3 : a.lt b = true := lt_tri b a (fun z => hab z.symm) h1
      have h4 := lt_trans c a b e h3
      rw [h4] at h2; cases h2
theorem le_of_lt {a b : Lad} (h : a.lt b = true) : b.lt a = false := lt_asymm h
/-- put in at the first place where it is not less -/
theorem put_in {ls : List Lad} {l : Lad} {k : Nat} (hs : ls.Pairwise (fun a b => b.lt a = false)) (h1 : ∀ a ∈ ls.take k, a.lt l = true) (h2 : ∀ a, ls[k]? = some a → a.lt l = false) : (ls.take k ++ [l] ++ ls.drop k).Pairwise (fun a b => b.lt a = false) := by
  have hs2 := hs
  rw [← List.take_append_drop k ls, List.pairwise_append] at hs2
  obtain ⟨a1, a2, a3⟩ := hs2
  have key : ∀ b ∈ ls.drop k, b.lt l = false := by
    intro b hb
    cases e : ls.drop k with
    | nil => rw [e] at hb; cases hb
    | cons x r =>
      have hx : ls[k]? = some x := by
        have : (ls.drop k)[0]? = some x := by rw [e]; rfl
        rw [List.getElem?_drop] at this
        simpa using this
      rw [e] at hb a2
      rcases List.mem_cons.mp hb with hb | hb
      · subst hb; exact h2 _ hx
      · exact le_trans (h2 x hx) ((List.pairwise_cons.mp a2).1 b hb)
  rw [List.append_assoc, List.pairwise_append]
  refine ⟨a1, ?_, fun a ha b hb => ?_⟩
  · show (l :: ls.drop k).Pairwise _
    rw [List.pairwise_cons]
    exact ⟨key, a2⟩
  · have hb' : b = l ∨ b ∈ ls.drop k := by simpa using hb
    rcases hb' with hb' | hb'
    · subst hb'; exact le_of_lt (h1 a ha)
    · exact a3 a ha b hb'
theorem put_perm (ls : List Lad) (l : Lad) (k : Nat) : (ls.take k ++ [l] ++ ls.drop k).Perm (l :: ls) := by
  have h := (List.perm_middle (a := l) (l₁ := ls.take k) (l₂ := ls.drop k))
  rw [List.append_assoc]
  refine List.Perm.trans h ?_
  rw [List.take_append_drop]
end Lad
section
variable {P : Program} {w : World} {K : PySem.W.Frag} {mg : Str → Option Value} {base : Heap} {f : Addr} {fd : FuncData}
theorem none__law_less {ps : List Str} {k : Nat} : FnOk P w K mg base CX0 k f fd ps (spLLess K 0) := none_sp fun vs H Q E ⟨v, u, l, k, _, _, _, h, _⟩ => by omega
end
end FT
namespace FT
open PySem PySem.W PySem.Spec PyProof.Rows L2
/-- for k, cell in enumerate([_law_at(script, 0)] + script[1:hi]), with lists at ps that are changed in it -/
theorem law_forP {K : PySem.W.Frag} {H : Hp} {a : Addr} {ns : List Int} {σ : L2.St} {tb : TS} {D : Ends} {hi : Int} (ps : List Addr) (hps : ∀ q ∈ ps, H q ≠ none) (hσ : σ[0]? = some (some (.ref a))) (hs : SqL K H a (ns.map V.int)) (h63 : ns.length ≤ 63) (Pv : Nat → L2.St → Hp → Prop)
    (h0 : ∀ H3, SB [] H H3 → Pv 0 σ H3) (mono : ∀ i σ H2 H3, SB [] H2 H3 → Pv i σ H2 → Pv i σ H3)
    (step : ∀ (H3 : Hp), SB [] H H3 → ∀ (i : Nat) (c : Int) (σ : L2.St) (H2 : Hp), i < 64 → SB ps H3 H2 → Pv i σ H2 → tb { D with nx := fun σ' H' => SB ps H3 H' ∧ Pv (i + 1) σ' H', ct := fun σ' H' => SB ps H3 H' ∧ Pv (i + 1) σ' H', bk := D.nx } ((σ.set 1 (some (.int (i : Nat)))).set 2 (some (.int c))) H2)
    (done : ∀ n σ H2, 1 ≤ n → n ≤ 64 → SB ps H H2 → Pv n σ H2 → D.nx σ H2) : tFor (iCells K hi) (gTup K 2 (gCons (gName 1) (gCons (gName 2) gNil))) tb D σ H := by
  refine ⟨_, hσ, a, ns, 0, rfl, hs, fun c0 => ?_⟩
  refine ⟨(by show 1 ≤ sizeLine; decide), fun l1 hl1 => ?_⟩
  have e1 := SB.new (ps := []) hl1 (.lst [.int c0])
  refine ⟨_, hσ, 1, rfl, hi, rfl, a, _, rfl, e1.sqL List.not_mem_nil hs, fun l2 hl2 => ?_⟩
  obtain ⟨ms, em, hml⟩ := cutInts ns (some 1) (some hi)
  rw [em]
  have e2 := SB.new (ps := []) hl2 (.lst (ms.map V.int))
  refine ⟨l1, l2, _, _, rfl, rfl, e2.keep _ _ upd_same List.not_mem_nil, upd_same, ?_, fun l3 hl3 => ?_⟩
  · rw [List.length_map, List.length_singleton, sizeLine_eq]; omega
  have hl3ps : l3 ∉ ps := fun z => hps l3 z (e1.dom _ (e2.dom _ hl3))
  have e3 := SB.new (ps := []) hl3 (.lst ([V.int c0] ++ ms.map V.int))
  have ea : ([V.int c0] ++ ms.map V.int : List V) = (c0 :: ms).map V.int := rfl
  refine ⟨l3, _, rfl, SqL.of upd_same, ?_⟩
  rw [ea]
  rw [ea] at e3
  have e4 := (e1.trans e2).trans e3
  have hl3' : (upd (upd (upd H l1 (.lst [.int c0])) l2 (.lst (ms.map V.int))) l3 (.lst ((c0 :: ms).map V.int))) l3 = some (.lst ((c0 :: ms).map V.int)) := upd_same
  generalize hH3 : upd (upd (upd H l1 (.lst [.int c0])) l2 (.lst (ms.map V.int))) l3 (.lst ((c0 :: ms).map V.int)) = H3 at e4 hl3'
  have n64 : (c0 :: ms).length ≤ 64 := by rw [List.length_cons]; omega
  refine for_it (walk_enum (K := K) (a := l3) (xs := (c0 :: ms).map V.int)) (fun i σ H2 => SB ps H3 H2 ∧ Pv i σ H2) ⟨SB.refl, h0 H3 e4⟩ (fun i σ H2 hi h2 => h2.1.sqL hl3ps (SqL.of hl3')) (fun i x σ H2 H' hi' h2 y => ?_) (fun σ H2 h2 => done _ σ H2 (by rw [List.length_map, List.length_cons]; omega) (by rw [List.length_map]; exact n64) (e4.nil.trans h2.1) h2.2)
  obtain ⟨s2, pv⟩ := h2
  obtain ⟨T, x1, y1, rfl, hT, rfl, ex, ey⟩ := y
  have ex : some (V.int (i : Nat)) = some x1 := ex
  cases ex
  have ey : ((c0 :: ms).map V.int)[i]? = some y1 := ey
  rw [List.getElem?_map] at ey
  rw [List.length_map] at hi'
  obtain ⟨c, rfl⟩ : ∃ c : Int, y1 = .int c := by
    cases e : (c0 :: ms)[i]? with
    | none => rw [e] at ey; cases ey
    | some c => rw [e] at ey; exact ⟨c, (Option.some.inj ey).symm⟩
  have s3 := SB.new (ps := []) hT (.tup [.int (i : Nat), .int c])
  exact ⟨T, _, rfl, SqT.of upd_same, rfl, _, _, rfl, _, _, rfl, rfl, step H3 e4 i c σ _ (by omega) (s2.trans s3.nil) (mono _ _ _ _ s3 pv)⟩
theorem SB.dropl {p : Addr} {qs : List Addr} {H H' : Hp} (h : SB (p :: qs) H H') (n : H p = none) : SB qs H H' := h.drop n
end FT
namespace FT
open PySem PySem.W PySem.Spec PyProof.Rows L2
section
variable {prog : Program} {w : World} {A : Around} {E : Value → Shared → Prop} {s : Shared} {β : Type} {vs : List Value} {bs : List β} {enc : β → PyData} {R : Value → β → Prop}
/-- sorted(t, ..), t a tuple of data that are alike -/
theorem sorted_tupK {t : Addr} {kw : List (Str × Value)} {b : Bool} {Q : Value → Shared → Prop} (hkw : ∀ a, Builtin.«list.sort» ⟨[.ref a], kw⟩ = Builtin.«list.sort» ⟨[.ref a], [(Str.ofString "reverse", .bool b)]⟩) (ha1 : argsOk "sorted" ⟨[.ref t], kw⟩) (ha2 : ∀ x, argsOk "list.sort" ⟨[.ref x], kw⟩)
    (ht : IsTup s.heap t vs.toArray) (e : EachIs R vs bs) (er : EachIs (fun v b => ∃ as, Reads s.heap v (enc b) as) vs bs) (hal : AllAlike (bs.map enc)) (hk : Sortable (bs.map enc)) (hL : bs.length ≤ sizeLine)
    (hu : ∀ b, b ∈ bs → A.units + 2 + (enc b).depth < cLine)
    (h : ∀ (out : List Value) (h' h2 : Heap) (n : Nat), (∀ b o, s.heap.get? b = some o → h'.get? b = some o) → (∀ b o, h'.get? b = some o → h2.get? b = some o) → h2.get? h'.objs.size = some (seqObj "list" out.toArray n) → out.length = bs.length → EachIs R out (bs.mergeSort (dataLe b enc)) → Q (.ref h'.objs.size) { s with heap := h2 }) :
    wpAny (model prog w) A (call (.builtin "sorted") [.ref t] kw) Q E s := by
  have hlen : vs.length ≤ sizeLine := by rw [e.length]; exact hL
  obtain ⟨o, ho, hc, n0, hd⟩ := id ht
  refine call_function_entry_kw kind_sorted plain_sorted entry_sorted ha1 ?_
  unfold Builtin.«sorted»
  refine wpAny_bind (m := checkCount "sorted" 1 1 _) (wpAny_pure ?_)
  refine wpAny_bind (wpAny_collect_seq t (.inr rfl) ho hc hd (fun h' hk' => ?_) (by rw [List.size_toArray]; exact hlen))
  refine wpAny_bind (wpAny_newList ?_ hlen)
  show wpAny _ _ _ _ _ { s with heap := h'.push (seqObj "list" vs.toArray 0) }
  have hat : (h'.push (seqObj "list" vs.toArray 0)).get? h'.objs.size = some (seqObj "list" vs.toArray 0) := Heap.get?_push_size _ rfl
  refine wpAny_bind (wpAny_holding (wpAny_call_entry_kw slot_list_sort ⟨_, hat, rfl⟩ entry_list_sort ?body (ha2 _)))
  case body =>
    rw [hkw]
    have old : ∀ b o, h'.get? b = some o → (sortingHeap (h'.push (seqObj "list" vs.toArray 0)) h'.objs.size vs).get? b = some o := fun b o q => sortingHeap_old (Nat.ne_of_lt (Heap.lt_size q)) (Heap.get?_push_of_some _ q)
    have er' : EachIs (fun v b => ∃ as, Reads (sortingHeap (h'.push (seqObj "list" vs.toArray 0)) h'.objs.size vs) v (enc b) as) vs bs := er.mono fun _ _ ⟨as, r⟩ => ⟨as, PyProof.Rows.Reads.keeps (fun b o q => old b o (hk' b o q)) r⟩
    refine list_sort_rev_vals (s := { s with heap := h'.push (seqObj "list" vs.toArray 0) }) (κ := dataKind (sortingHeap (h'.push (seqObj "list" vs.toArray 0)) h'.objs.size vs) (bs.map enc)) hat (SortsAt.data (s := { s with heap := sortingHeap (h'.push (seqObj "list" vs.toArray 0)) h'.objs.size vs }) (each_map (R := fun v d => ∃ as, Reads (sortingHeap (h'.push (seqObj "list" vs.toArray 0)) h'.objs.size vs) v d as) enc er') hal hk (bound_map hu)) hlen ?_
    refine ⟨_, rfl, wpAny_pure ⟨_, rfl, ?_⟩⟩
    obtain ⟨n2, hn2⟩ := sortedHeap_at (out := (sortVals (dataKind (sortingHeap (h'.push (seqObj "list" vs.toArray 0)) h'.objs.size vs) (bs.map enc)) b vs vs).toArray) hat
    refine h _ h' _ n2 hk' (fun b o q => ?_) hn2 (by rw [sortVals_length b rfl]; exact e.length) (sortVals_data b e er' hal)
    rw [sortedHeap_old (Nat.ne_of_lt (Heap.lt_size q)) (by rw [size_push']; exact Nat.lt_succ_of_lt (Heap.lt_size q))]
    exact Heap.get?_push_of_some _ q
end
/-- sorted(t), sorted(t, reverse=b) -/
def rSortedT (K : PySem.W.Frag) {β : Type} (enc : β → PyData) (b : Bool) (vs : List V) (H : Hp) (Q : VK) : Prop := ∃ (a : Addr) (xs : List V) (bs : List β), vs = [V.ref a] ∧ SqT K H a xs ∧ Bears K H enc xs bs ∧ AllAlike (bs.map enc) ∧ Sortable (bs.map enc) ∧ bs.length ≤ 10000 ∧ (∀ b ∈ bs, (enc b).depth ≤ 100) ∧
  ∀ (p : Addr) (ys : List V), H p = none → Bears K H enc ys (bs.mergeSort (dataLe b enc)) → Q (.ref p) (upd H p (.lst ys))
section
variable {X : Cx}
theorem sortedT_run {β : Type} {enc : β → PyData} {b : Bool} {kw : List (Str × Value)} (hu : X.A.units + 110 < cLine) (hkw : ∀ a, Builtin.«list.sort» ⟨[.ref a], kw⟩ = Builtin.«list.sort» ⟨[.ref a], [(Str.ofString "reverse", .bool b)]⟩) (ha1 : ∀ t, argsOk "sorted" ⟨[.ref t], kw⟩) (ha2 : ∀ x, argsOk "list.sort" ⟨[.ref x], kw⟩)
    {pins : List (Addr × Obj)} {s : Shared} {σ : L2.St} {H : Hp} {vs : List V} {us : List Value} {Q : VK} (I : Inv X pins σ H s) (r : Vals vs us) (h : rSortedT X.K enc b vs H Q) : wpAny (model X.prog X.w) X.A (call (.builtin "sorted") us kw) (EP X pins σ Q) X.xe s := by
  obtain ⟨a, xs, bs, rfl, hs, hb, hal, hsr, hl, hd, q⟩ := h
  obtain ⟨its, rv, hli, _⟩ := I.tuple hs
  rw [Vals.ref1 r]
  obtain ⟨e1, e2⟩ := each_of I hb rv
  refine sorted_tupK (vs := its) (bs := bs) (enc := enc) (R := fun u b => ∃ v, RelV v u ∧ Dp X.K H v (enc b)) hkw (ha1 _) ha2 hli e1 e2 hal hsr (by rw [sizeLine_eq]; omega) (fun b m => by have := hd b m; omega) fun out h' h2 n k1 k2 hat ho h1 => ?_
  obtain ⟨ys, g2, g3⟩ := of_each h1
  have I' : Inv X pins σ H { s with heap := h' } := I.kept (t' := s.toks) k1
  have hlen : ys.length ≤ sizeLine := by rw [g2.length, ho, sizeLine_eq]; omega
  exact ⟨.ref _, upd H h'.objs.size (.lst ys), I'.laid (t' := s.toks) (fun b o e => k2 b o e) (Nat.le_refl _) ⟨hlen, out, n, g2, hat⟩, rfl, q _ ys (I'.hok.fresh (Nat.le_refl _)) g3⟩
theorem cr_sortedT {β : Type} (enc : β → PyData) (hu : X.A.units + 110 < cLine) : CallR X (.builtin "sorted") (rSortedT X.K enc false) := by
  intro pins s σ H vs us Q I r h
  exact sortedT_run (kw := []) hu plain_is_rev (fun _ => args_sorted1 _) (fun _ => args_list_sort _) I r h
theorem cr_sortedTR {β : Type} (enc : β → PyData) {b : Bool} (hu : X.A.units + 110 < cLine) : CallRK X (.builtin "sorted") [Str.ofString "reverse"] (fun vs zs H Q => zs = [.bl b] ∧ rSortedT X.K enc b vs H Q) := by
  intro pins s σ H vs zs us ws Q I r rz h
  obtain ⟨rfl, h⟩ := h
  obtain ⟨w1, rfl, e1⟩ := vals1 rz
  obtain rfl : w1 = Value.bool b := e1
  exact sortedT_run hu (fun _ => rfl) (fun _ => args_sorted_rev _ _) (fun _ => args_list_sort_rev _ _) I r h
end
end FT
namespace FT
open PySem PySem.W PySem.Spec PyProof.Rows L2
/-! ## like ones put together -/
section
variable {γ : Type} [DecidableEq γ]
def pairE (enc : γ → PyData) (p : γ × Int) : PyData := .tuple [enc p.1, .int p.2]
def jstep (acc : List (γ × Int)) (p : γ × Int) : List (γ × Int) := match acc.getLast? with
  | some q => if q.1 = p.1 then acc.dropLast ++ [(p.1, q.2 + p.2)] else acc ++ [p]
  | none => [p]
def jn (bs : List (γ × Int)) : List (γ × Int) := bs.foldl jstep []
theorem jstep_nil (p : γ × Int) : jstep [] p = [p] := rfl
theorem jstep_snoc (acc : List (γ × Int)) (q p : γ × Int) : jstep (acc ++ [q]) p = if q.1 = p.1 then acc ++ [(p.1, q.2 + p.2)] else acc ++ [q] ++ [p] := by
  unfold jstep
  rw [List.getLast?_append]
  simp
theorem jstep_length (acc : List (γ × Int)) (p : γ × Int) : (jstep acc p).length ≤ acc.length + 1 := by
  rcases List.eq_nil_or_concat acc with h | ⟨a, q, h⟩
  · subst h; simp [jstep]
  · subst h
    rw [List.concat_eq_append, jstep_snoc]
    split <;> simp
theorem jn_take (bs : List (γ × Int)) (i : Nat) (p : γ × Int) (h : bs[i]? = some p) : jn (bs.take (i + 1)) = jstep (jn (bs.take i)) p := by
  unfold jn
  rw [List.take_add_one, h, List.foldl_append]
  rfl
theorem jn_length (bs : List (γ × Int)) : (jn bs).length ≤ bs.length := by
  have key : ∀ (bs acc : List (γ × Int)), (bs.foldl jstep acc).length ≤ acc.length + bs.length := by
    intro bs
    induction bs with
    | nil => intro acc; simp
    | cons p r ih =>
      intro acc
      have h1 := ih (jstep acc p)
      have h2 := jstep_length acc p
      show (r.foldl jstep (jstep acc p)).length ≤ _
      rw [List.length_cons]
      omega
  have := key bs []
  simpa [jn] using this
theorem jn_keys (bs : List (γ × Int)) : ∀ p ∈ jn bs, ∃ q ∈ bs, q.1 = p.1 := by
  have key : ∀ (bs acc : List (γ × Int)), ∀ p ∈ bs.foldl jstep acc, (∃ q ∈ acc, q.1 = p.1) ∨ ∃ q ∈ bs, q.1 = p.1 := by
    intro bs
    induction bs with
    | nil => intro acc p hp; exact .inl ⟨p, hp, rfl⟩
    | cons x r ih =>
      intro acc p hp
      rcases ih (jstep acc x) p hp with ⟨q, hq, e⟩ | ⟨q, hq, e⟩
      · rcases List.eq_nil_or_concat acc with h | ⟨a, z, h⟩
        · subst h
          rw [jstep_nil] at hq
          have : q = x := by simpa using hq
          subst this
          exact .inr ⟨q, List.mem_cons_self .., e⟩
        · subst h
          rw [List.concat_eq_append] at hq ⊢
          rw [jstep_snoc] at hq
          by_cases hz : z.1 = x.1
          · rw [if_pos hz] at hq
            rcases List.mem_append.mp hq with hq | hq
            · exact .inl ⟨q, List.mem_append_left _ hq, e⟩
            · have : q = (x.1, z.2 + x.2) := by simpa using hq
              subst this
              exact .inr ⟨x, List.mem_cons_self .., e⟩
          · rw [if_neg hz] at hq
            rcases List.mem_append.mp hq with hq | hq
            · exact .inl ⟨q, hq, e⟩
            · have : q = x := by simpa using hq
              subst this
              exact .inr ⟨q, List.mem_cons_self .., e⟩
      · exact .inr ⟨q, List.mem_cons_of_mem _ hq, e⟩
  intro p hp
  rcases key bs [] p hp with ⟨q, hq, _⟩ | h
  · cases hq
  · exact h
/-- unlike neighbours stay as they are -/
theorem jn_id {bs : List (γ × Int)} (h : bs.Pairwise (fun a b => a.1 ≠ b.1)) : jn bs = bs := by
  have key : ∀ (bs acc : List (γ × Int)), (acc ++ bs).Pairwise (fun a b => a.1 ≠ b.1) → bs.foldl jstep acc = acc ++ bs := by
    intro bs
    induction bs with
    | nil => intro acc _; simp
    | cons x r ih =>
      intro acc hp
      have e : jstep acc x = acc ++ [x] := by
        rcases List.eq_nil_or_concat acc with h | ⟨a, z, h⟩
        · subst h; rfl
        · subst h
          rw [List.concat_eq_append] at hp ⊢
          rw [jstep_snoc, if_neg]
          have h2 := (List.pairwise_append.mp hp).2.2 z (by simp) x (List.mem_cons_self ..)
          exact h2
      show r.foldl jstep (jstep acc x) = _
      rw [e, ih]
      · simp
      · simpa using hp
  have := key bs [] (by simpa using h)
  simpa [jn] using this
end
/-- pairs (thing, many), joined; things of γ by enc -/
def spJoined (K : PySem.W.Frag) {γ : Type} [DecidableEq γ] (enc : γ → PyData) : Sp := fun vs H Q _ => ∃ (a : Addr) (xs : List V) (bs : List (γ × Int)), vs = [.ref a] ∧ SqL K H a xs ∧ Bears K H (pairE enc) xs bs ∧ bs.length ≤ 1000 ∧ (∀ b ∈ bs, SeqAt.shaped (enc b.1) = true) ∧
  ∀ (c : Addr) (ys : List V) (H' : Hp), SB [] H H' → SqT K H' c ys → Bears K H' (pairE enc) ys (jn bs) → Q (.ref c) H'
theorem pair_at {K : PySem.W.Frag} {H : Hp} {γ : Type} {enc : γ → PyData} {v : V} {p : γ × Int} (h : Dp K H v (pairE enc p)) : ∃ a u, v = .ref a ∧ SqT K H a [u, .int p.2] ∧ Dp K H u (enc p.1) := by
  have h' : Dp K H v (.tuple [enc p.1, .int p.2]) := h
  cases h' with
  | tup hs ha =>
    cases ha with
    | cons a1 a2 =>
      cases a2 with
      | cons b1 b2 =>
        cases b2
        cases b1
        exact ⟨_, _, rfl, hs, a1⟩
theorem pairE_noList {γ : Type} {enc : γ → PyData} (hn : ∀ g, noList (enc g) = true) (p : γ × Int) : noList (pairE enc p) = true := by simp [pairE, noList, noLists, hn]
theorem pair_mk {K : PySem.W.Frag} {H : Hp} {γ : Type} {enc : γ → PyData} {a : Addr} {u : V} {g : γ} {m : Int} (h : SqT K H a [u, .int m]) (h2 : Dp K H u (enc g)) : Dp K H (.ref a) (pairE enc (g, m)) := Dp.tup h (.cons h2 (.cons (.int m) .nil))
theorem Bears.snoc {K : PySem.W.Frag} {H : Hp} {β : Type} {enc : β → PyData} {vs : List V} {bs : List β} {b : β} (h : Bears K H enc vs (bs ++ [b])) : ∃ us u, vs = us ++ [u] ∧ Bears K H enc us bs ∧ Dp K H u (enc b) := by
  induction bs generalizing vs with
  | nil =>
    cases h with
    | cons h1 h2 => cases h2; exact ⟨[], _, rfl, .nil, h1⟩
  | cons c r ih =>
    cases h with
    | cons h1 h2 =>
      obtain ⟨us, u, e, h3, h4⟩ := ih h2
      exact ⟨_ :: us, u, by rw [e]; rfl, .cons h1 h3, h4⟩
theorem at_last {xs : List V} {x : V} : atI (xs ++ [x]) (-1) = some x := by
  unfold atI ixN
  rw [if_neg (by decide), if_pos (by rw [List.length_append, List.length_singleton]; omega)]
  simp only [List.length_append, List.length_singleton, Option.bind_some]
  have : ((-1 : Int) + ((xs.length + 1 : Nat) : Int)).toNat = xs.length := by omega
  rw [this]
  simp
theorem ixN_last {xs : List V} {x : V} : ixN (xs ++ [x]).length (-1) = some xs.length := by
  unfold ixN
  rw [if_neg (by decide), if_pos (by rw [List.length_append, List.length_singleton]; omega), List.length_append, List.length_singleton]
  congr 1; omega
theorem set_last {xs : List V} {x y : V} : (xs ++ [x]).set xs.length y = xs ++ [y] := by simp
namespace Lad
theorem anti {a b : Lad × Int} (h1 : dataLt (pEnc a) (pEnc b) = false) (h2 : dataLt (pEnc b) (pEnc a) = false) : a = b := by
  rw [pLt] at h1 h2
  by_cases h : a.1 = b.1
  · rw [if_pos h] at h1
    rw [if_pos h.symm] at h2
    have e1 := of_decide_eq_false h1
    have e2 := of_decide_eq_false h2
    exact Prod.ext h (by omega)
  · rw [if_neg h] at h1
    rw [if_neg (fun z : b.1 = a.1 => h z.symm), lt_tri _ _ h h1] at h2
    cases h2
abbrev dsc (bs : List (Lad × Int)) : List (Lad × Int) := bs.mergeSort (dataLe true pEnc)
theorem dsc_perm (bs : List (Lad × Int)) : (dsc bs).Perm bs := List.mergeSort_perm _ _
theorem dsc_le (bs : List (Lad × Int)) : (dsc bs).Pairwise (fun a b => dataLt (pEnc a) (pEnc b) = false) := by
  have h := sort_pairwise (le := dataLe true pEnc) (sortLe_total _ _ _) bs
  refine h.imp fun {a b} hab => ?_
  have h2 : (!dataLt (pEnc a) (pEnc b)) = true := hab
  simpa using h2
/-- two falling arrangements of the same are one -/
theorem falls_one : ∀ {as bs : List (Lad × Int)}, as.Perm bs → as.Pairwise (fun a b => dataLt (pEnc a) (pEnc b) = false) → bs.Pairwise (fun a b => dataLt (pEnc a) (pEnc b) = false) → as = bs
  | [], bs, h, _, _ => (List.nil_perm.mp h).symm
  | a :: as, [], h, _, _ => by have := h.length_eq; simp at this
  | a :: as, b :: bs, h, h1, h2 => by
    have hab : a = b := by
      have ha : a ∈ b :: bs := h.mem_iff.mp (List.mem_cons_self ..)
      have hb : b ∈ a :: as := h.mem_iff.mpr (List.mem_cons_self ..)
      rcases List.mem_cons.mp ha with ha | ha
      · exact ha
      · rcases List.mem_cons.mp hb with hb | hb
        · exact hb.symm
        · exact anti ((List.pairwise_cons.mp h1).1 b hb) ((List.pairwise_cons.mp h2).1 a ha)
    subst hab
    rw [falls_one (List.Perm.cons_inv h) (List.pairwise_cons.mp h1).2 (List.pairwise_cons.mp h2).2]
theorem dsc_of {cs bs : List (Lad × Int)} (hp : cs.Perm bs) (hs : cs.Pairwise (fun a b => dataLt (pEnc a) (pEnc b) = false)) : cs = dsc bs := falls_one (hp.trans (dsc_perm bs).symm) hs (dsc_le bs)
theorem srt_dsc (bs : List (Lad × Int)) : (srt bs).reverse = dsc bs := dsc_of ((List.reverse_perm _).trans (srt_perm bs)) (by rw [List.pairwise_reverse]; exact srt_le bs)
theorem dsc_swap (as bs : List (Lad × Int)) : dsc (as ++ bs) = dsc (bs ++ as) := dsc_of ((dsc_perm _).trans List.perm_append_comm) (dsc_le _)
/-- both together -/
def bth (l k : Lad) : Lad := ofPs (jn (dsc (l.ps ++ k.ps)))
theorem bth_comm (l k : Lad) : bth l k = bth k l := by unfold bth; rw [dsc_swap]
theorem ok_falls {B : Int} {l : Lad} (h : l.Ok B) : l.ps.Pairwise (fun a b => dataLt (pEnc a) (pEnc b) = false) ∧ l.ps.Pairwise (fun a b => a.1 ≠ b.1) := by
  have h2 := (ok_iff.mp h).2
  constructor
  · refine h2.imp fun {a b} hab => ?_
    rw [pLt, if_neg (fun z : a.1 = b.1 => lt_ne hab z.symm)]
    exact lt_asymm hab
  · exact h2.imp fun {a b} hab (z : a.1 = b.1) => lt_ne hab z.symm
theorem bth_nil {B : Int} {l : Lad} (h : l.Ok B) : bth l .nil = l := by
  unfold bth
  rw [show l.ps ++ (Lad.nil).ps = l.ps by simp [ps], ← dsc_of (List.Perm.refl _) (ok_falls h).1, jn_id (ok_falls h).2, ofPs_ps]
theorem tot_jstep (acc : List (Lad × Int)) (p : Lad × Int) : tot (jstep acc p) ≤ tot acc + (1 + p.1.parts) := by
  rcases List.eq_nil_or_concat acc with h | ⟨a, z, h⟩
  · subst h; simp [jstep_nil, tot]
  · subst h
    rw [List.concat_eq_append, jstep_snoc]
    by_cases hz : z.1 = p.1
    · rw [if_pos hz, tot_append, tot_append]; simp only [tot]; rw [hz]; omega
    · rw [if_neg hz, tot_append, tot_append]; simp only [tot]; omega
theorem tot_jn (bs : List (Lad × Int)) : tot (jn bs) ≤ tot bs := by
  have key : ∀ (bs acc : List (Lad × Int)), tot (bs.foldl jstep acc) ≤ tot acc + tot bs := by
    intro bs
    induction bs with
    | nil => intro acc; simp [tot]
    | cons x r ih =>
      intro acc
      have h1 := ih (jstep acc x)
      have h2 := tot_jstep acc x
      show tot (r.foldl jstep (jstep acc x)) ≤ tot acc + (1 + x.1.parts + tot r)
      omega
  have := key bs []
  simpa [jn, tot] using this
theorem bth_parts (l k : Lad) : (bth l k).parts ≤ l.parts + k.parts := by
  unfold bth
  rw [parts_ofPs]
  have h1 := tot_jn (dsc (l.ps ++ k.ps))
  rw [tot_perm (dsc_perm _), tot_append] at h1
  have h2 : l.parts = tot l.ps := by rw [← parts_ofPs, ofPs_ps]
  have h3 : k.parts = tot k.ps := by rw [← parts_ofPs, ofPs_ps]
  omega
theorem bth_deep {n : Nat} {l k : Lad} (hl : l.deep ≤ n) (hk : k.deep ≤ n) : (bth l k).deep ≤ n := by
  unfold bth
  refine deep_ofPs fun b hb => ?_
  obtain ⟨q, hq, e⟩ := jn_keys _ b hb
  rw [← e]
  rcases List.mem_append.mp ((dsc_perm _).mem_iff.mp hq) with h | h
  · exact deep_parts_mem hl q h
  · exact deep_parts_mem hk q h
/-- so many of it -/
def tms (l : Lad) (m : Int) : Lad := if m = 0 then .nil else ofPs (l.ps.map fun p => (p.1, p.2 * m))
theorem tot_map (f : Int → Int) : ∀ bs : List (Lad × Int), tot (bs.map fun p => (p.1, f p.2)) = tot bs
  | [] => rfl
  | p :: r => by show 1 + p.1.parts + tot _ = 1 + p.1.parts + tot r; rw [tot_map f r]
theorem tms_parts (l : Lad) (m : Int) : (tms l m).parts ≤ l.parts := by
  unfold tms
  split
  · exact Nat.zero_le _
  · rw [parts_ofPs, tot_map (fun x => x * m), ← parts_ofPs, ofPs_ps]; exact Nat.le_refl _
theorem tms_deep {n : Nat} {l : Lad} (m : Int) (h : l.deep ≤ n) : (tms l m).deep ≤ n := by
  unfold tms
  split
  · exact Nat.zero_le _
  · refine deep_ofPs fun b hb => ?_
    obtain ⟨p, hp, rfl⟩ := List.mem_map.mp hb
    exact deep_parts_mem h p hp
end Lad
theorem Lad.shaped_rows {bs : List (Lad × Int)} (h : ∀ b ∈ bs, b.1.deep ≤ 24) : SeqAt.shaped (.list (bs.map Lad.pEnc)) = true := by
  have h1 : PyData.canLayAll0 (bs.map Lad.pEnc) = true := by
    induction bs with
    | nil => simp [PyData.canLayAll0]
    | cons b r ih =>
      have := ih fun c hc => h c (List.mem_cons_of_mem _ hc)
      rw [List.map_cons, PyData.canLayAll0, this]
      simp [Lad.pEnc, PyData.canLay0, PyData.canLayAll0, Lad.enc, Lad.lays]
  have h2 : PyData.depthAll (bs.map Lad.pEnc) ≤ 50 := by
    induction bs with
    | nil => simp [PyData.depthAll]
    | cons b r ih =>
      have e1 := ih (fun c hc => h c (List.mem_cons_of_mem _ hc)) (by rw [List.map_cons, PyData.canLayAll0, Bool.and_eq_true] at h1; exact h1.2)
      have e2 := h b (List.mem_cons_self ..)
      have e3 := Lad.pEnc_depth b
      rw [List.map_cons, PyData.depthAll]
      omega
  have h3 : (PyData.list (bs.map Lad.pEnc)).depth = PyData.depthAll (bs.map Lad.pEnc) + 1 := by simp [PyData.depth]
  unfold SeqAt.shaped
  rw [PyData.canLay0, h1, Bool.true_and]
  exact decide_eq_true (by omega)
/-! ## promises -/
def spBoth (K : PySem.W.Frag) : Sp := fun vs H Q _ => ∃ (v u : V) (l k : Lad), vs = [v, u] ∧ LA K H v l ∧ LA K H u k ∧ l.deep ≤ 25 ∧ k.deep ≤ 25 ∧ l.parts ≤ 400 ∧ k.parts ≤ 400 ∧ ∀ (x : V) (H' : Hp), SB [] H H' → LA K H' x (l.bth k) → Q x H'
/-- so many of a ladder, its numbers and how many below 2 ^ 9000 -/
def spManyOf (K : PySem.W.Frag) : Sp := fun vs H Q _ => ∃ (v : V) (l : Lad) (m : Int), vs = [v, .int m] ∧ LA K H v l ∧ l.parts ≤ 900 ∧ (∀ p ∈ l.ps, 0 ≤ p.2 ∧ p.2 < 2 ^ 400) ∧ 0 ≤ m ∧ m < 2 ^ 400 ∧ ∀ (x : V) (H' : Hp), SB [] H H' → LA K H' x (l.tms m) → Q x H'
end FT
namespace FT
open PySem PySem.W PySem.Spec PyProof.Rows L2 HT
section
variable {prog : Program} {w : World} {A : Around} {E : Value → Shared → Prop} {s : Shared}
theorem adjust_rev (n : Nat) : Builtin.Slice.sliceAdjust none none (-1) (n : Int) = ((n : Int) - 1, -1) := by
  unfold Builtin.Slice.sliceAdjust
  simp
theorem places_rev (n : Nat) : Builtin.Slice.slicePlaces ((n : Int) - 1) (-1) (-1) = n := by
  unfold Builtin.Slice.slicePlaces
  have h1 : ¬ ((-1 : Int) > 0) := by decide
  simp only [h1, if_false]
  by_cases h : (n : Int) - 1 > -1
  · rw [if_pos h, show (- -1 : Int) = 1 by decide, Int.ediv_one]; omega
  · rw [if_neg h]; omega
theorem pick_rev (xs : Array Value) : ((List.range xs.size).filterMap fun (m : Nat) => xs[((xs.size : Int) - 1 + (m : Int) * (-1)).toNat]?).toArray = xs.toList.reverse.toArray := by
  have e : ∀ l : List Nat, (∀ m ∈ l, m < xs.size) → (l.filterMap fun (m : Nat) => xs[((xs.size : Int) - 1 + (m : Int) * (-1)).toNat]?) = l.filterMap fun m => xs[xs.size - 1 - m]? := by
    intro l hl
    induction l with
    | nil => rfl
    | cons a r ih =>
      have h1 := hl a (List.mem_cons_self ..)
      have h2 : ((xs.size : Int) - 1 + (a : Int) * (-1)).toNat = xs.size - 1 - a := by omega
      rw [List.filterMap_cons, List.filterMap_cons, h2, ih fun m hm => hl m (List.mem_cons_of_mem _ hm)]
  rw [e _ fun m hm => List.mem_range.mp hm]
  have h := krv_all xs
  have h2 : (List.range xs.size).filterMap (fun m => xs[xs.size - 1 - m]?) = ((List.range xs.size).map fun k => xs.size - 1 - k).filterMap (xs[·]?) := by
    rw [List.filterMap_map]; rfl
  rw [h2, krv_range, List.filterMap_reverse, h]
theorem sliceApplied_rev {sl : Addr} {vl vu vs : Value} {n : Nat} {Q : Int × Int × Nat → Shared → Prop} (hs : s.heap.IsSliceOf sl vl vu vs) (pl : IsPart vl none) (pu : IsPart vu none) (ps : IsPart vs (some (-1)))
    (h : Q ((n : Int) - 1, -1, n) s) : wpAny (model prog w) A (Builtin.Slice.sliceApplied (.ref sl) (pure (n : Int))) Q E s := by
  obtain ⟨os, hos, hcs, hds⟩ := id hs
  unfold Builtin.Slice.sliceApplied Builtin.Slice.sliceFields
  refine wpAny_bind (wpAny_bind (wpAny_field hos hds (x := vl) rfl (wpAny_bind (wpAny_field hos hds (x := vu) rfl (wpAny_bind (wpAny_field hos hds (x := vs) rfl (wpAny_pure ?_)))))))
  refine wpAny_bind (slicePart_ ps ?_)
  show wpAny _ _ (if ((-1 : Int) == 0) = true then _ else _) _ _ s
  rw [if_neg (by decide)]
  refine wpAny_bind (slicePart_ pl (wpAny_bind (slicePart_ pu (wpAny_bind (wpAny_pure ?_)))))
  show wpAny _ _ (match Builtin.Slice.sliceAdjust none none (-1) (n : Int) with | (lo, hi) => pure (lo, (-1 : Int), Builtin.Slice.slicePlaces lo hi (-1))) _ _ s
  rw [adjust_rev n]
  show wpAny _ _ (pure ((n : Int) - 1, (-1 : Int), Builtin.Slice.slicePlaces ((n : Int) - 1) (-1) (-1))) _ _ s
  rw [places_rev]
  exact wpAny_pure h
theorem getItem_tuple_rev {t sl : Addr} {items : Array Value} {vl vu vs : Value} {Q : Value → Shared → Prop} (ht : IsTup s.heap t items) (hs : s.heap.IsSliceOf sl vl vu vs) (pl : IsPart vl none) (pu : IsPart vu none) (ps : IsPart vs (some (-1)))
    (h : Q (.ref s.heap.objs.size) { s with heap := s.heap.push { cls := .type "tuple", data := .seq items.toList.reverse.toArray } })
    (hsz : items.size ≤ sizeLine) : wpAny (model prog w) A (getItem (.ref t) (.ref sl)) Q E s := by
  have htake : sizeOk (.seq items.toList.reverse.toArray) := by
    show items.toList.reverse.toArray.size ≤ sizeLine
    rw [List.size_toArray, List.length_reverse, Array.length_toList]
    exact hsz
  obtain ⟨os, hos, hcs, hds⟩ := id hs
  have hTs : s.TypeIs (.ref sl) "slice" := ⟨os, hos, hcs⟩
  unfold getItem
  try with_reducible refine wpAny_holding ?_
  first | refine wpAny_bind (wpAny_pure ?_) | skip
  refine wpAny_bind (wpAny_sequenceKey ht.typeIs (by decide) ?_)
  refine wpAny_bind (wpAny_callSpecial?_slot (name := Str.ofString "__getitem__") ht.typeIs PyProof.Rows.slot_tuple_getitem
    (wpAny_call_entry PyProof.Rows.slot_tuple_getitem ht.typeIs entry_tuple_getitem ?_ (args_tuple_getitem _ _)))
  show wpAny _ _ (Builtin.Tuple.tupleItemsOf (.ref t) >>= _) _ _ s
  refine wpAny_bind (tupleItemsOf_ ht ?_)
  refine wpAny_bind (wpAny_typeOf hTs ?_)
  rw [if_pos (by decide)]
  refine wpAny_bind (sliceApplied_rev hs pl pu ps ?_)
  have hno : ¬ ((((items.size : Int) - 1) == 0 && (-1 : Int) == 1 && items.size == items.size) = true) := by
    intro q
    rw [Bool.and_eq_true, Bool.and_eq_true] at q
    exact absurd q.1.2 (by decide)
  show wpAny _ _ (if (((items.size : Int) - 1) == 0 && (-1 : Int) == 1 && items.size == items.size) = true then _ else _) _ _ s
  rw [if_neg hno, pick_rev]
  first
    | exact wpAny_bind (m := Builtin.Tuple.tupleExact _) (wpAny_newObj_type (wpAny_pure ⟨_, rfl, wpAny_pure h⟩) htake)
    | exact wpAny_bind (m := Builtin.Tuple.tupleExact _) (wpAny_newObj_type (wpAny_bind (wpAny_pure (wpAny_pure ⟨_, rfl, wpAny_pure h⟩))) htake)
    | exact wpAny_bind (wpAny_bind (m := Builtin.Tuple.tupleExact _) (wpAny_newObj_type (wpAny_pure (wpAny_pure ⟨_, rfl, wpAny_pure h⟩)) htake))
    | exact wpAny_bind (wpAny_bind (m := Builtin.Tuple.tupleExact _) (wpAny_newObj_type (wpAny_pure ⟨_, rfl, wpAny_pure h⟩) htake))
end
def tRevT (K : PySem.W.Frag) (te : TE) : TE := fun σ H Q => te σ H fun x H1 => ∃ a xs, x = .ref a ∧ SqT K H1 a xs ∧ ∀ p, H1 p = none → Q (.ref p) (upd H1 p (.tup xs.reverse))
section
variable {X : Cx}
/-- t[::-1], t a tuple -/
theorem pe_revT {e : Expr} {te : TE} {k : Nat} {p1 p2 p3 pos : Pos} (he : PE X e te) : PE X (.Subscript e (.Slice none none (some (.UnaryOp .USub (.Constant (.int 1) k p1) p2)) p3) pos) (tRevT X.K te) := by
  refine ⟨fun pins s σ H Q I h => ?_⟩
  refine Subscript_ (thn (he.run pins s σ H _ I h) fun v s1 ⟨x, H1, I1, r1, q1⟩ => ?_)
  obtain ⟨a, xs, ex, hx, q⟩ := q1
  subst ex
  cases r1
  have hst : PO X (some (.UnaryOp .USub (.Constant (.int 1) k p1) p2)) (tPart (tUn (rU fun i => .int (-i)) (tC (.int 1)))) := po_some (pe_un un_neg pe_int)
  refine wpAny_Slice (thn (po_none.run pins s1 σ H1 (fun o H2 => o = none ∧ H2 = H1) I1 ⟨rfl, rfl⟩) fun vl s2 ⟨l, H2, I2, pl, el, e2⟩ => ?_)
  subst el e2
  refine thn (po_none.run pins s2 σ H2 (fun o H3 => o = none ∧ H3 = H2) I2 ⟨rfl, rfl⟩) fun vu s3 ⟨u, H3, I3, pu, eu, e3⟩ => ?_
  subst eu e3
  refine thn (hst.run pins s3 σ H3 (fun o H4 => o = some (-1) ∧ H4 = H3) I3 ⟨1, rfl, -1, rfl, rfl, rfl⟩) fun vs s4 ⟨o, H4, I4, ps, eo, e4⟩ => ?_
  subst eo e4
  have I5 : Inv X pins σ H4 { s4 with heap := s4.heap.push { cls := .type "slice", data := .fields #[vl, vu, vs] } } := I4.kept (t' := s4.toks) fun b ob q => Heap.get?_push_of_some _ q
  obtain ⟨its, r, ht, hz⟩ := I5.tuple hx
  have hlen := r.length
  show wpAny (model X.prog X.w) X.A (subscriptTail e (.Slice none none (some (.UnaryOp .USub (.Constant (.int 1) k p1) p2)) p3) (.ref a) (.ref s4.heap.objs.size)) (EP X pins σ Q) X.xe { s4 with heap := s4.heap.push { cls := .type "slice", data := .fields #[vl, vu, vs] } }
  refine tail_any (ops := [.ref a, .ref s4.heap.objs.size]) ht.typeIs (PyProof.Rows.slot_tuple_getitem.lookup) ?_ (by with_unfolding_all rfl)
  refine getItem_tuple_rev ht (Heap.IsSliceOf.new _ vl vu vs) pl pu ps ?_ (by rw [List.size_toArray]; omega)
  refine ⟨.ref _, _, I5.laid (t' := s4.toks) (o := .tup xs.reverse) (fun b ob q => Heap.get?_push_of_some _ q) (Nat.le_refl _) ?_, rfl, q _ (I5.hok.fresh (Nat.le_refl _))⟩
  exact ⟨by rw [List.length_reverse]; exact hz, its.reverse, r.reverse, IsTup.new _ _⟩
end
end FT
namespace FT
open PySem PySem.W PySem.Spec PyProof.Rows L2
def gtsD : List PyData → List Bool
  | [] => []
  | [_] => []
  | a :: b :: r => dataLt b a :: gtsD (b :: r)
theorem gtsD_length : ∀ ds : List PyData, (gtsD ds).length = ds.length - 1
  | [] => rfl
  | [_] => rfl
  | a :: b :: r => by
    have h := gtsD_length (b :: r)
    show (gtsD (b :: r)).length + 1 = _
    rw [h]; simp
theorem gtsD_get : ∀ (ds : List PyData) (i : Nat) (d e : PyData), ds[i]? = some d → ds[i + 1]? = some e → (gtsD ds)[i]? = some (dataLt e d)
  | [], _, _, _, h, _ => by simp at h
  | [_], _, _, _, _, h => by simp at h
  | a :: b :: r, 0, d, e, h1, h2 => by simp at h1 h2; subst h1 h2; rfl
  | a :: b :: r, i + 1, d, e, h1, h2 => by
    have := gtsD_get (b :: r) i d e (by simpa using h1) (by simpa using h2)
    simpa [gtsD] using this
theorem ltsD_snoc : ∀ (l : List PyData) (y x : PyData), ltsD (l ++ [y] ++ [x]) = ltsD (l ++ [y]) ++ [dataLt y x]
  | [], y, x => rfl
  | [a], y, x => rfl
  | a :: b :: r, y, x => by
    have h := ltsD_snoc (b :: r) y x
    show dataLt a b :: ltsD (b :: r ++ [y] ++ [x]) = dataLt a b :: (ltsD (b :: r ++ [y]) ++ [dataLt y x])
    rw [h]
theorem ltsD_rev : ∀ ds : List PyData, ltsD ds.reverse = (gtsD ds).reverse
  | [] => rfl
  | [_] => rfl
  | a :: b :: r => by
    have h := ltsD_rev (b :: r)
    rw [List.reverse_cons, List.reverse_cons, ltsD_snoc, ← List.reverse_cons, h]
    show _ = (dataLt b a :: gtsD (b :: r)).reverse
    rw [List.reverse_cons]
theorem rising_rev (ds : List PyData) : risingD ds.reverse = (gtsD ds).all id := by
  unfold risingD
  rw [ltsD_rev]
  simp
theorem Th.weak {K : PySem.W.Frag} {ps : List Addr} {H : Hp} : ∀ {v : V} {d : PyData}, Th K ps H v d → Th K [] H v d := by
  intro v d h
  have key : ∀ (n : Nat) (d : PyData) (v : V), sizeOf d < n → Th K ps H v d → Th K [] H v d := by
    intro n
    induction n with
    | zero => intro d v hn; omega
    | succ n ih =>
      intro d v hn h
      cases h with
      | int i => exact .int i
      | oth ty k1 k2 hn => exact .oth ty k1 k2 (fun _ _ => List.not_mem_nil)
      | @tup a xs ds hs ha =>
        refine .tup hs ?_
        have hl : ∀ (xs : List V) (ds : List PyData), sizeOf ds < n + 1 → ThAll K ps H xs ds → ThAll K [] H xs ds := by
          intro xs
          induction xs with
          | nil => intro ds _ h; cases h; exact .nil
          | cons x r ihr =>
            intro ds hd h
            cases h with
            | @cons _ _ d1 dr h1 h2 =>
              have e : sizeOf (d1 :: dr) = 1 + sizeOf d1 + sizeOf dr := by simp
              exact .cons (ih d1 x (by omega) h1) (ihr dr (by omega) h2)
        have e : sizeOf (PyData.tuple ds) = 1 + sizeOf ds := by simp
        exact hl xs ds (by omega) ha
  exact key (sizeOf d + 1) d v (by omega) h
theorem ThAll.append {K : PySem.W.Frag} {ps : List Addr} {H : Hp} : ∀ {xs ys : List V} {ds es : List PyData}, ThAll K ps H xs ds → ThAll K ps H ys es → ThAll K ps H (xs ++ ys) (ds ++ es)
  | _, _, _, _, .nil, h => h
  | _, _, _, _, .cons a b, h => .cons a (ThAll.append b h)
theorem ThAll.reverse {K : PySem.W.Frag} {ps : List Addr} {H : Hp} : ∀ {xs : List V} {ds : List PyData}, ThAll K ps H xs ds → ThAll K ps H xs.reverse ds.reverse
  | _, _, .nil => .nil
  | _, _, .cons a b => by
    rw [List.reverse_cons, List.reverse_cons]
    exact ThAll.append (ThAll.reverse b) (.cons a .nil)
theorem ThAll.take {K : PySem.W.Frag} {ps : List Addr} {H : Hp} (n : Nat) : ∀ {xs : List V} {ds : List PyData}, ThAll K ps H xs ds → ThAll K ps H (xs.take n) (ds.take n) := by
  induction n with
  | zero => intro xs ds h; rw [List.take_zero, List.take_zero]; exact .nil
  | succ n ih =>
    intro xs ds h
    cases h with
    | nil => exact .nil
    | cons a b => exact .cons a (ih b)
theorem ThAll.drop {K : PySem.W.Frag} {ps : List Addr} {H : Hp} (n : Nat) : ∀ {xs : List V} {ds : List PyData}, ThAll K ps H xs ds → ThAll K ps H (xs.drop n) (ds.drop n) := by
  induction n with
  | zero => intro xs ds h; exact h
  | succ n ih =>
    intro xs ds h
    cases h with
    | nil => exact .nil
    | cons a b => exact ih b
theorem LA_ths {K : PySem.W.Frag} {ps : List Addr} {H : Hp} {v : V} {l : Lad} (h : LA K H v l) : ∃ a xs, v = .ref a ∧ SqT K H a xs ∧ ThAll K ps H xs l.encs := by
  have t : Th K ps H v (.tuple l.encs) := LA_th l h
  cases t with
  | tup hs ha => exact ⟨_, _, rfl, hs, ha⟩
/-- how far a thing goes: depth and width -/
def Fits (n m : Nat) (d : PyData) : Prop := d.depth ≤ n ∧ wide d ≤ m
theorem fits_tuple {n m : Nat} {ds : List PyData} (h : ∀ d ∈ ds, Fits n m d) (hl : ds.length ≤ m) : Fits (n + 1) m (.tuple ds) := by
  have h1 : PyData.depthAll ds ≤ n := by
    induction ds with
    | nil => simp [PyData.depthAll]
    | cons d r ih =>
      have e1 := (h d (List.mem_cons_self ..)).1
      have e2 := ih (fun c hc => h c (List.mem_cons_of_mem _ hc)) (by rw [List.length_cons] at hl; omega)
      rw [PyData.depthAll]; omega
  have h2 : wides ds ≤ m := by
    induction ds with
    | nil => simp [wides]
    | cons d r ih =>
      have e1 := (h d (List.mem_cons_self ..)).2
      have e2 := ih (fun c hc => h c (List.mem_cons_of_mem _ hc)) (by rw [List.length_cons] at hl; omega) (by rw [PyData.depthAll] at h1; omega)
      rw [wides]; omega
  refine ⟨by simp only [PyData.depth]; omega, by rw [wide_tuple]; omega⟩
theorem Fits.mono {n m n' m' : Nat} {d : PyData} (h : Fits n m d) (h1 : n ≤ n') (h2 : m ≤ m') : Fits n' m' d := ⟨Nat.le_trans h.1 h1, Nat.le_trans h.2 h2⟩
theorem fits_none (n m : Nat) : Fits n m .none := ⟨by simp [PyData.depth], by simp [wide]⟩
theorem fits_int (n m : Nat) (i : Int) : Fits n m (.int i) := ⟨by simp [PyData.depth], by simp [wide]⟩
theorem Lad.fits {l : Lad} {n m : Nat} (h1 : l.deep ≤ n) (h2 : l.parts ≤ m) (h3 : 2 ≤ m) : Fits (2 * n + 1) m l.enc := ⟨by have := l.enc_depth; omega, Lad.enc_width h2 h3⟩
theorem Lad.fits_mem {l : Lad} {n m : Nat} (h1 : l.deep ≤ n) (h2 : l.parts ≤ m) (h3 : 2 ≤ m) : ∀ d ∈ l.encs, Fits (2 * n) m d := by
  have h := Lad.fits h1 h2 h3
  intro d hd
  have e1 := PyData.depth_le_depthAll _ _ hd
  have e2 := wide_mem _ _ hd
  have h' : Fits (2 * n + 1) m (.tuple l.encs) := h
  refine ⟨?_, ?_⟩
  · have := h'.1; simp only [PyData.depth] at this; omega
  · have := h'.2; rw [wide_tuple] at this; omega
theorem ladD_ok : ∀ {B : Int} {l : Lad}, l.Ok B → ladD l.enc = true := by
  intro B l
  induction l with
  | nil => intro _; decide +kernel
  | cons e m r ihe ihr =>
    intro h
    obtain ⟨h1, h2, h3, h4, h5⟩ := h
    have a1 := ihe h1
    have a2 := ihr h4
    rw [Lad.enc, ladD, Bool.and_eq_true] at a2
    have hp : ladP (.tuple [.tuple e.encs, .int m]) = true := by
      have a1' : ladD (.tuple e.encs) = true := a1
      simp [ladP, ladP2, ladP3, manyD, a1', h2]
    rw [Lad.enc, ladD, Lad.encs, ladPs, hp, a2.1, Bool.true_and, Bool.true_and]
    rw [rising_rev]
    have a3 := a2.2
    rw [rising_rev] at a3
    cases r with
    | nil => rfl
    | cons e2 m2 r2 =>
      have hlt : e2.lt e = true := h5 (e2, m2) (List.mem_cons_self ..)
      show (dataLt (.tuple e2.encs) (.tuple e.encs) :: gtsD _).all id = true
      rw [List.all_cons]
      have hlt' : dataLt (.tuple e2.encs) (.tuple e.encs) = true := hlt
      rw [show id (dataLt (PyData.tuple e2.encs) (PyData.tuple e.encs)) = true from hlt', Bool.true_and]
      exact a3
abbrev spLadX (K : PySem.W.Frag) (n : Nat) : Sp := spLadder K [] n
section
variable {P : Program} {w : World} {K : PySem.W.Frag} {mg : Str → Option Value} {base : Heap} {f : Addr} {fd : FuncData}
theorem none__law_is_ladder {ps : List Str} {k : Nat} : FnOk P w K mg base CX0 k f fd ps (spLadX K 0) := none_is_ladder
end
end FT
namespace FT
open PySem PySem.W PySem.Spec PyProof.Rows L2
namespace Lad
/-! ## ladders by their numbers at each exponent -/
theorem sumAt_nil (x : Lad) : sumAt [] x = 0 := rfl
theorem sumAt_cons (e : Lad) (m : Int) (r : List (Lad × Int)) (x : Lad) : sumAt ((e, m) :: r) x = (if e = x then m else 0) + sumAt r x := by
  unfold sumAt
  rw [List.filter_cons]
  by_cases h : e = x
  · simp [h]
  · simp [h]
theorem sumAt_append (as bs : List (Lad × Int)) (x : Lad) : sumAt (as ++ bs) x = sumAt as x + sumAt bs x := by
  unfold sumAt
  rw [List.filter_append, List.map_append, List.sum_append]
theorem sumAt_zero {bs : List (Lad × Int)} {x : Lad} (h : ∀ p ∈ bs, p.1 ≠ x) : sumAt bs x = 0 := by
  unfold sumAt
  have : bs.filter (fun p => decide (p.1 = x)) = [] := by
    rw [List.filter_eq_nil_iff]
    intro p hp
    simpa using h p hp
  rw [this]; rfl
theorem sumAt_perm {as bs : List (Lad × Int)} (h : as.Perm bs) (x : Lad) : sumAt as x = sumAt bs x := by
  induction h with
  | nil => rfl
  | cons p _ ih => obtain ⟨e, m⟩ := p; rw [sumAt_cons, sumAt_cons, ih]
  | swap p q l => obtain ⟨e, m⟩ := p; obtain ⟨e', m'⟩ := q; rw [sumAt_cons, sumAt_cons, sumAt_cons, sumAt_cons]; omega
  | trans _ _ h1 h2 => omega
theorem sumAt_jstep (acc : List (Lad × Int)) (p : Lad × Int) (x : Lad) : sumAt (jstep acc p) x = sumAt acc x + (if p.1 = x then p.2 else 0) := by
  obtain ⟨e, m⟩ := p
  rcases List.eq_nil_or_concat acc with h | ⟨a, z, h⟩
  · subst h; rw [jstep_nil, sumAt_cons, sumAt_nil]; show (if e = x then m else 0) + 0 = 0 + (if e = x then m else 0); omega
  · subst h
    obtain ⟨e', m'⟩ := z
    rw [List.concat_eq_append, jstep_snoc]
    by_cases hz : e' = e
    · rw [if_pos hz, sumAt_append, sumAt_append, sumAt_cons, sumAt_cons, sumAt_nil]
      subst hz
      by_cases hx : e' = x
      · simp only [if_pos hx]; omega
      · simp only [if_neg hx]; omega
    · rw [if_neg hz, sumAt_append, sumAt_append, sumAt_cons, sumAt_cons, sumAt_nil]; show _ = _ + (if e = x then m else 0); omega
theorem sumAt_jn (bs : List (Lad × Int)) (x : Lad) : sumAt (jn bs) x = sumAt bs x := by
  have key : ∀ (bs acc : List (Lad × Int)), sumAt (bs.foldl jstep acc) x = sumAt acc x + sumAt bs x := by
    intro bs
    induction bs with
    | nil => intro acc; show sumAt acc x = _; rw [sumAt_nil]; omega
    | cons p r ih =>
      intro acc
      obtain ⟨e, m⟩ := p
      show sumAt (r.foldl jstep (jstep acc (e, m))) x = _
      rw [ih, sumAt_jstep, sumAt_cons]
      show _ + (if e = x then m else 0) + _ = _
      omega
  have := key bs []
  rw [sumAt_nil] at this
  unfold jn
  omega
theorem sumAt_map (f : Int → Int) (hf : f 0 = 0) (hadd : ∀ a b, f (a + b) = f a + f b) : ∀ (bs : List (Lad × Int)) (x : Lad), sumAt (bs.map fun p => (p.1, f p.2)) x = f (sumAt bs x)
  | [], x => by show sumAt [] x = _; rw [sumAt_nil, hf]
  | (e, m) :: r, x => by
    show sumAt ((e, f m) :: r.map _) x = _
    rw [sumAt_cons, sumAt_cons, sumAt_map f hf hadd r x, hadd]
    by_cases h : e = x
    · rw [if_pos h, if_pos h]
    · rw [if_neg h, if_neg h, hf]
/-- the many at an exponent -/
abbrev S (l : Lad) (x : Lad) : Int := sumAt l.ps x
section
variable {B C : Int}
theorem S_top {e : Lad} {m : Int} {r : Lad} (h : (Lad.cons e m r).Ok B) : S (.cons e m r) e = m := by
  show sumAt ((e, m) :: r.ps) e = m
  rw [sumAt_cons, if_pos rfl, sumAt_zero fun p hp => lt_ne (h.2.2.2.2 p hp)]
  omega
theorem S_above {e : Lad} {m : Int} {r x : Lad} (h : (Lad.cons e m r).Ok B) (hx : e.lt x = true) : S (.cons e m r) x = 0 := by
  show sumAt ((e, m) :: r.ps) x = 0
  rw [sumAt_cons, if_neg (lt_ne hx), sumAt_zero fun p hp => lt_ne (lt_trans _ _ _ (h.2.2.2.2 p hp) hx)]
  rfl
theorem S_mem {l : Lad} (h : l.Ok B) {p : Lad × Int} (hp : p ∈ l.ps) : S l p.1 = p.2 := by
  induction l with
  | nil => cases hp
  | cons e m r _ ih =>
    rcases List.mem_cons.mp hp with hp | hp
    · subst hp; exact S_top h
    · show sumAt ((e, m) :: r.ps) p.1 = p.2
      rw [sumAt_cons, if_neg (fun z => lt_ne (h.2.2.2.2 p hp) z.symm)]
      have := ih h.2.2.2.1 hp
      show 0 + S r p.1 = _
      omega
theorem S_none {l x : Lad} (h : ∀ p ∈ l.ps, p.1 ≠ x) : S l x = 0 := sumAt_zero h
theorem S_cases {l : Lad} (h : l.Ok B) (x : Lad) : (S l x = 0 ∧ ∀ p ∈ l.ps, p.1 ≠ x) ∨ (∃ m, (x, m) ∈ l.ps ∧ S l x = m ∧ 1 ≤ m ∧ m < B) := by
  by_cases hx : ∃ p ∈ l.ps, p.1 = x
  · obtain ⟨p, hp, rfl⟩ := hx
    have := (ok_iff.mp h).1 p hp
    exact .inr ⟨p.2, hp, S_mem h hp, this.2⟩
  · have hx' : ∀ p ∈ l.ps, p.1 ≠ x := fun p hp z => hx ⟨p, hp, z⟩
    exact .inl ⟨S_none hx', hx'⟩
theorem S_nonneg {l : Lad} (h : l.Ok B) (x : Lad) : 0 ≤ S l x := by
  rcases S_cases h x with h1 | ⟨m, _, h1, h2, _⟩ <;> omega
/-- less by the first exponent, from above, at which they differ -/
def LT' (l k : Lad) : Prop := ∃ x, S l x < S k x ∧ ∀ y, x.lt y = true → S l y = S k y
theorem lt_of {l k : Lad} : ∀ (_ : l.Ok B) (_ : k.Ok C), l.lt k = true → LT' l k := by
  induction l generalizing k with
  | nil =>
    intro hl hk h
    cases k with
    | nil => rw [lt_nil_nil] at h; cases h
    | cons e m r =>
      refine ⟨e, ?_, fun y hy => ?_⟩
      · rw [S_top hk]; show sumAt [] e < m; rw [sumAt_nil]; have := hk.2.1; omega
      · rw [S_above hk hy]; rfl
  | cons e m r _ ih =>
    intro hl hk h
    cases k with
    | nil => rw [lt_cons_nil] at h; cases h
    | cons e' m' r' =>
      rw [lt_cons] at h
      by_cases he : e = e'
      · subst he
        rw [if_pos rfl] at h
        by_cases hm : m = m'
        · subst hm
          rw [if_pos rfl] at h
          obtain ⟨x, h1, h2⟩ := ih hl.2.2.2.1 hk.2.2.2.1 h
          refine ⟨x, ?_, fun y hy => ?_⟩
          · show sumAt ((e, m) :: r.ps) x < sumAt ((e, m) :: r'.ps) x
            rw [sumAt_cons, sumAt_cons]
            have : sumAt r.ps x < sumAt r'.ps x := h1
            omega
          · show sumAt ((e, m) :: r.ps) y = sumAt ((e, m) :: r'.ps) y
            rw [sumAt_cons, sumAt_cons]
            have : sumAt r.ps y = sumAt r'.ps y := h2 y hy
            omega
        · rw [if_neg hm] at h
          exact ⟨e, by rw [S_top hl, S_top hk]; exact of_decide_eq_true h, fun y hy => by rw [S_above hl hy, S_above hk hy]⟩
      · rw [if_neg he] at h
        refine ⟨e', ?_, fun y hy => ?_⟩
        · rw [S_above hl h, S_top hk]; have := hk.2.1; omega
        · rw [S_above hl (lt_trans _ _ _ h hy), S_above hk hy]
theorem LT'.asymm {l k : Lad} (h : LT' l k) (h2 : LT' k l) : False := by
  obtain ⟨x, a1, a2⟩ := h
  obtain ⟨y, b1, b2⟩ := h2
  by_cases e : x = y
  · subst e; omega
  · cases hxy : x.lt y with
    | true => have := a2 y hxy; omega
    | false => have := b2 x (lt_tri x y e hxy); omega
theorem lt_iff {l k : Lad} (hl : l.Ok B) (hk : k.Ok C) : l.lt k = true ↔ LT' l k := by
  constructor
  · exact lt_of hl hk
  · intro h
    cases e : l.lt k with
    | true => rfl
    | false =>
      by_cases hlk : l = k
      · subst hlk; obtain ⟨x, h1, _⟩ := h; omega
      · exact (LT'.asymm h (lt_of hk hl (lt_tri l k hlk e))).elim
theorem le_iff {l k : Lad} (hl : l.Ok B) (hk : k.Ok C) (h : ¬ LT' l k) : l.lt k = false := by
  cases e : l.lt k with
  | false => rfl
  | true => exact (h (lt_of hl hk e)).elim
/-- two right ladders with the same numbers are one -/
theorem ext {l k : Lad} (hl : l.Ok B) (hk : k.Ok C) (h : ∀ x, S l x = S k x) : l = k := by
  by_cases e : l = k
  · exact e
  · cases hlk : l.lt k with
    | true => obtain ⟨x, h1, _⟩ := lt_of hl hk hlk; have := h x; omega
    | false => obtain ⟨x, h1, _⟩ := lt_of hk hl (lt_tri l k e hlk); have := h x; omega
/-! ## both together -/
theorem jn_desc {bs : List (Lad × Int)} (h : bs.Pairwise (fun a b => a.1.lt b.1 = false)) : (jn bs).Pairwise (fun p q => q.1.lt p.1 = true) := by
  have key : ∀ (bs acc : List (Lad × Int)), acc.Pairwise (fun p q => q.1.lt p.1 = true) → (∀ a ∈ acc, ∀ b ∈ bs, a.1.lt b.1 = false) → bs.Pairwise (fun a b => a.1.lt b.1 = false) → (bs.foldl jstep acc).Pairwise (fun p q => q.1.lt p.1 = true) := by
    intro bs
    induction bs with
    | nil => intro acc h _ _; exact h
    | cons p r ih =>
      intro acc h1 h2 h3
      obtain ⟨h31, h32⟩ := List.pairwise_cons.mp h3
      refine ih (jstep acc p) ?_ ?_ h32
      · rcases List.eq_nil_or_concat acc with h | ⟨a, z, h⟩
        · subst h; rw [jstep_nil]; exact List.pairwise_singleton _ _
        · subst h
          rw [List.concat_eq_append] at h1 h2 ⊢
          rw [jstep_snoc]
          obtain ⟨a1, _, a3⟩ := List.pairwise_append.mp h1
          by_cases hz : z.1 = p.1
          · rw [if_pos hz, List.pairwise_append]
            refine ⟨a1, List.pairwise_singleton _ _, fun x hx y hy => ?_⟩
            have hy' : y = (p.1, z.2 + p.2) := by simpa using hy
            subst hy'
            show p.1.lt x.1 = true
            rw [← hz]; exact a3 x hx z (by simp)
          · rw [if_neg hz, List.pairwise_append]
            refine ⟨h1, List.pairwise_singleton _ _, fun x hx y hy => ?_⟩
            have hy' : y = p := by simpa using hy
            subst hy'
            have hzp : y.1.lt z.1 = true := lt_tri _ _ hz (h2 z (by simp) y (List.mem_cons_self ..))
            rcases List.mem_append.mp hx with hx | hx
            · exact lt_trans _ _ _ hzp (a3 x hx z (by simp))
            · have hx' : x = z := by simpa using hx
              subst hx'; exact hzp
      · intro a ha b hb
        have hpb := h31 b hb
        rcases List.eq_nil_or_concat acc with h | ⟨c, z, h⟩
        · subst h
          rw [jstep_nil] at ha
          have : a = p := by simpa using ha
          subst this; exact hpb
        · subst h
          rw [List.concat_eq_append] at ha h2
          rw [jstep_snoc] at ha
          by_cases hz : z.1 = p.1
          · rw [if_pos hz] at ha
            rcases List.mem_append.mp ha with ha | ha
            · exact h2 a (List.mem_append_left _ ha) b (List.mem_cons_of_mem _ hb)
            · have : a = (p.1, z.2 + p.2) := by simpa using ha
              subst this; exact hpb
          · rw [if_neg hz] at ha
            rcases List.mem_append.mp ha with ha | ha
            · exact h2 a ha b (List.mem_cons_of_mem _ hb)
            · have : a = p := by simpa using ha
              subst this; exact hpb
  exact key bs [] List.Pairwise.nil (by simp) h
theorem dsc_keys (bs : List (Lad × Int)) : (dsc bs).Pairwise (fun a b => a.1.lt b.1 = false) := by
  refine (dsc_le bs).imp fun {a b} hab => ?_
  rw [pLt] at hab
  by_cases h : a.1 = b.1
  · rw [h]; exact lt_irrefl _
  · rw [if_neg h] at hab; exact hab
theorem S_bth (l k x : Lad) : S (bth l k) x = S l x + S k x := by
  show sumAt (ofPs (jn (dsc (l.ps ++ k.ps)))).ps x = _
  rw [ps_ofPs, sumAt_jn, sumAt_perm (dsc_perm _), sumAt_append]
theorem ok_pos {l : Lad} (h : l.Ok B) (hB : 0 ≤ B) (x : Lad) : S l x ≤ B := by
  rcases S_cases h x with h1 | ⟨m, _, h1, h2, h3⟩ <;> omega
theorem bth_ok {l k : Lad} (hl : l.Ok B) (hk : k.Ok C) (hB : 1 ≤ B) (hC : 1 ≤ C) : (bth l k).Ok (B + C) := by
  have hd : (jn (dsc (l.ps ++ k.ps))).Pairwise (fun p q => q.1.lt p.1 = true) := jn_desc (dsc_keys _)
  show (ofPs (jn (dsc (l.ps ++ k.ps)))).Ok (B + C)
  rw [ok_ps]
  refine ⟨fun p hp => ?_, hd⟩
  have hs : sumAt (jn (dsc (l.ps ++ k.ps))) p.1 = p.2 := by
    have hnd : ∀ (bs : List (Lad × Int)), bs.Pairwise (fun p q => q.1.lt p.1 = true) → ∀ p ∈ bs, sumAt bs p.1 = p.2 := by
      intro bs
      induction bs with
      | nil => intro _ p hp; cases hp
      | cons q r ih =>
        intro hpw p hp
        obtain ⟨e, m⟩ := q
        obtain ⟨h1, h2⟩ := List.pairwise_cons.mp hpw
        rw [sumAt_cons]
        rcases List.mem_cons.mp hp with hp | hp
        · subst hp
          rw [if_pos rfl, sumAt_zero fun q hq => lt_ne (h1 q hq)]
          omega
        · rw [if_neg (fun z => lt_ne (h1 p hp) z.symm), ih h2 p hp]
          omega
    exact hnd _ hd p hp
  have hs2 : p.2 = S l p.1 + S k p.1 := by
    rw [← hs, sumAt_jn, sumAt_perm (dsc_perm _), sumAt_append]
  obtain ⟨q, hq, eq⟩ := jn_keys _ p hp
  have hq' := (dsc_perm _).mem_iff.mp hq
  have n1 := S_nonneg hl p.1
  have n2 := S_nonneg hk p.1
  have hlt : S l p.1 < B := by rcases S_cases hl p.1 with h1 | ⟨m, _, h1, h2, h3⟩ <;> omega
  have hkt : S k p.1 < C := by rcases S_cases hk p.1 with h1 | ⟨m, _, h1, h2, h3⟩ <;> omega
  have grow : ∀ (e : Lad), e.Ok B → e.Ok (B + C) := fun e h => h.mono (by omega)
  have grow2 : ∀ (e : Lad), e.Ok C → e.Ok (B + C) := fun e h => h.mono (by omega)
  rcases List.mem_append.mp hq' with hq2 | hq2
  · have o := (ok_iff.mp hl).1 q hq2
    have sm := S_mem hl hq2
    rw [eq] at sm o
    exact ⟨grow _ o.1, by omega, by omega⟩
  · have o := (ok_iff.mp hk).1 q hq2
    have sm := S_mem hk hq2
    rw [eq] at sm o
    exact ⟨grow2 _ o.1, by omega, by omega⟩
/-! ## one behind the other -/
/-- no exponent is above x -/
def cov (k x : Lad) : Bool := k.ps.all fun p => !x.lt p.1
theorem cov_iff {k : Lad} (hk : k.Ok B) (x : Lad) : cov k x = true ↔ ∀ y, x.lt y = true → S k y = 0 := by
  unfold cov
  rw [List.all_eq_true]
  constructor
  · intro h y hy
    refine S_none fun p hp z => ?_
    have := h p hp
    rw [z, hy] at this
    cases this
  · intro h p hp
    cases e : x.lt p.1 with
    | false => rfl
    | true =>
      have h1 := h p.1 e
      rw [S_mem hk hp] at h1
      have := (ok_iff.mp hk).1 p hp
      omega
theorem S_bhd {l k : Lad} (hk : k.Ok B) (x : Lad) : S (bhd l k) x = (if cov k x = true then S l x else 0) + S k x := by
  cases k with
  | nil =>
    rw [bhd_nil]
    show S l x = (if cov .nil x = true then S l x else 0) + sumAt [] x
    rw [sumAt_nil, if_pos (show cov .nil x = true from rfl)]; omega
  | cons e m r =>
    have hcov : cov (.cons e m r) x = !x.lt e := by
      unfold cov
      show (!x.lt e && r.ps.all fun p => !x.lt p.1) = _
      cases h : x.lt e with
      | true => rfl
      | false =>
        have : r.ps.all (fun p => !x.lt p.1) = true := by
          rw [List.all_eq_true]
          intro p hp
          rw [le_trans (le_of_lt (hk.2.2.2.2 p hp)) h]; rfl
        rw [this]; rfl
    rw [bhd_cons]
    show sumAt (ofPs _).ps x = _
    rw [ps_ofPs, sumAt_append, sumAt_cons, hcov]
    show sumAt (l.ps.filter fun p => e.lt p.1) x + ((if e = x then sumAt l.ps e + m else 0) + sumAt r.ps x) = (if (!x.lt e) = true then sumAt l.ps x else 0) + sumAt ((e, m) :: r.ps) x
    rw [sumAt_cons]
    have hf : sumAt (l.ps.filter fun p => e.lt p.1) x = if e.lt x = true then sumAt l.ps x else 0 := by
      unfold sumAt
      rw [List.filter_filter]
      by_cases h : e.lt x = true
      · rw [if_pos h]
        congr 2
        refine List.filter_congr fun p hp => ?_
        by_cases hp2 : p.1 = x
        · simp [hp2, h]
        · simp [hp2]
      · rw [if_neg h]
        have : l.ps.filter (fun p => decide (p.1 = x) && e.lt p.1) = [] := by
          rw [List.filter_eq_nil_iff]
          intro p hp hc
          rw [Bool.and_eq_true] at hc
          have h1 : p.1 = x := of_decide_eq_true hc.1
          rw [h1] at hc
          exact h hc.2
        rw [this]; rfl
    rw [hf]
    by_cases hx : e = x
    · subst hx
      rw [lt_irrefl]
      simp
      omega
    · cases h1 : e.lt x with
      | true =>
        rw [lt_asymm h1]
        simp [hx]
      | false =>
        rw [lt_tri e x hx h1]
        simp [hx]
theorem bhd_ok {l k : Lad} (hl : l.Ok B) (hk : k.Ok C) (hB : 1 ≤ B) (hC : 1 ≤ C) : (bhd l k).Ok (B + C) := by
  cases k with
  | nil => rw [bhd_nil]; exact hl.mono (by omega)
  | cons e m r =>
    rw [bhd_cons, ok_ps]
    obtain ⟨h1, h2, h3, h4, h5⟩ := hk
    obtain ⟨a1, a2⟩ := ok_iff.mp hl
    obtain ⟨b1, b2⟩ := ok_iff.mp h4
    have n1 := S_nonneg hl e
    have hlt : S l e < B := by rcases S_cases hl e with g1 | ⟨m, _, g1, g2, g3⟩ <;> omega
    constructor
    · intro p hp
      rcases List.mem_append.mp hp with hp | hp
      · have := a1 p (List.mem_filter.mp hp).1
        exact ⟨this.1.mono (by omega), this.2.1, by omega⟩
      · rcases List.mem_cons.mp hp with hp | hp
        · subst hp
          exact ⟨h1.mono (by omega), by show 1 ≤ S l e + m; omega, by show S l e + m < B + C; omega⟩
        · have := b1 p hp
          exact ⟨this.1.mono (by omega), this.2.1, by omega⟩
    · rw [List.pairwise_append, List.pairwise_cons]
      refine ⟨a2.sublist List.filter_sublist, ⟨h5, b2⟩, fun a ha b hb => ?_⟩
      have ha' := (List.mem_filter.mp ha).2
      rcases List.mem_cons.mp hb with hb | hb
      · subst hb; exact ha'
      · exact lt_trans _ _ _ (h5 b hb) ha'
theorem cov_bhd {l k : Lad} (hl : l.Ok B) (hk : k.Ok C) (hB : 1 ≤ B) (hC : 1 ≤ C) (x : Lad) : cov (bhd l k) x = (cov k x && cov l x) := by
  rw [Bool.eq_iff_iff, Bool.and_eq_true, cov_iff (bhd_ok hl hk hB hC), cov_iff hk, cov_iff hl]
  constructor
  · intro h
    have hkx : ∀ y, x.lt y = true → S k y = 0 := fun y hy => by
      have := h y hy
      rw [S_bhd hk] at this
      have n1 := S_nonneg hl y
      have n2 := S_nonneg hk y
      split at this <;> omega
    refine ⟨hkx, fun y hy => ?_⟩
    have := h y hy
    rw [S_bhd hk, if_pos ((cov_iff hk y).mpr fun z hz => hkx z (lt_trans _ _ _ hy hz)), hkx y hy] at this
    omega
  · rintro ⟨h1, h2⟩ y hy
    rw [S_bhd hk, h1 y hy]
    split
    · rw [h2 y hy]; rfl
    · rfl
theorem bhd_assoc {a b c : Lad} {D : Int} (ha : a.Ok B) (hb : b.Ok C) (hc : c.Ok D) (hB : 1 ≤ B) (hC : 1 ≤ C) (hD : 1 ≤ D) : bhd (bhd a b) c = bhd a (bhd b c) := by
  have o1 := bhd_ok ha hb hB hC
  have o2 := bhd_ok hb hc hC hD
  refine ext (bhd_ok o1 hc (by omega) hD) (bhd_ok ha o2 hB (by omega)) fun x => ?_
  rw [S_bhd hc, S_bhd hb, S_bhd o2, S_bhd hc, cov_bhd hb hc hC hD]
  cases cov c x <;> cases cov b x <;> simp <;> omega
theorem bth_assoc {a b c : Lad} {D : Int} (ha : a.Ok B) (hb : b.Ok C) (hc : c.Ok D) (hB : 1 ≤ B) (hC : 1 ≤ C) (hD : 1 ≤ D) : bth (bth a b) c = bth a (bth b c) := by
  have o1 := bth_ok ha hb hB hC
  have o2 := bth_ok hb hc hC hD
  refine ext (bth_ok o1 hc (by omega) hD) (bth_ok ha o2 hB (by omega)) fun x => ?_
  rw [S_bth, S_bth, S_bth, S_bth]; omega
theorem bth_ge_bhd {a b : Lad} (ha : a.Ok B) (hb : b.Ok C) (hB : 1 ≤ B) (hC : 1 ≤ C) : (bth a b).lt (bhd a b) = false := by
  refine le_iff (bth_ok ha hb hB hC) (bhd_ok ha hb hB hC) ?_
  rintro ⟨x, h1, _⟩
  rw [S_bth, S_bhd hb] at h1
  have := S_nonneg ha x
  split at h1 <;> omega
theorem cov_same {b c : Lad} (hb : b.Ok B) (hc : c.Ok C) {x : Lad} (h : ∀ y, x.lt y = true → S b y = S c y) : cov b x = cov c x := by
  rw [Bool.eq_iff_iff, cov_iff hb, cov_iff hc]
  exact ⟨fun g y hy => by rw [← h y hy]; exact g y hy, fun g y hy => by rw [h y hy]; exact g y hy⟩
theorem bhd_mono {a b c : Lad} {D : Int} (ha : a.Ok B) (hb : b.Ok C) (hc : c.Ok D) (hB : 1 ≤ B) (hC : 1 ≤ C) (hD : 1 ≤ D) (h : b.lt c = true) : (bhd a b).lt (bhd a c) = true := by
  rw [lt_iff (bhd_ok ha hb hB hC) (bhd_ok ha hc hB hD)]
  obtain ⟨x, h1, h2⟩ := lt_of hb hc h
  refine ⟨x, ?_, fun y hy => ?_⟩
  · rw [S_bhd hb, S_bhd hc, cov_same hb hc h2]; omega
  · rw [S_bhd hb, S_bhd hc, cov_same hb hc (x := y) (fun z hz => h2 z (lt_trans _ _ _ hy hz)), h2 y hy]
theorem bth_mono {a b c : Lad} {D : Int} (ha : a.Ok B) (hb : b.Ok C) (hc : c.Ok D) (hB : 1 ≤ B) (hC : 1 ≤ C) (hD : 1 ≤ D) (h : b.lt c = true) : (bth a b).lt (bth a c) = true := by
  rw [lt_iff (bth_ok ha hb hB hC) (bth_ok ha hc hB hD)]
  obtain ⟨x, h1, h2⟩ := lt_of hb hc h
  exact ⟨x, by rw [S_bth, S_bth]; omega, fun y hy => by rw [S_bth, S_bth, h2 y hy]⟩
theorem bhd_first {a b c : Lad} {D : Int} (ha : a.Ok B) (hb : b.Ok C) (hc : c.Ok D) (hB : 1 ≤ B) (hC : 1 ≤ C) (hD : 1 ≤ D) (h : b.lt c = true) : (bhd c a).lt (bhd b a) = false := by
  refine le_iff (bhd_ok hc ha hD hB) (bhd_ok hb ha hC hB) ?_
  rintro ⟨y, h1, h2⟩
  rw [S_bhd ha, S_bhd ha] at h1
  have hcov : cov a y = true := by
    cases e : cov a y with
    | true => rfl
    | false => rw [e] at h1; simp at h1
  rw [hcov] at h1
  refine LT'.asymm (lt_of hb hc h) ⟨y, by simpa using h1, fun z hz => ?_⟩
  have h3 := h2 z hz
  have hz' : cov a z = true := by
    rw [cov_iff ha] at hcov ⊢
    exact fun u hu => hcov u (lt_trans _ _ _ hz hu)
  rw [S_bhd ha, S_bhd ha, if_pos hz', if_pos hz'] at h3
  omega
/-! ## so many -/
theorem S_tms (l : Lad) (m : Int) (x : Lad) : S (tms l m) x = S l x * m := by
  unfold tms
  by_cases h : m = 0
  · rw [if_pos h, h]; show sumAt [] x = _; rw [sumAt_nil, Int.mul_zero]
  · rw [if_neg h]
    show sumAt (ofPs _).ps x = _
    rw [ps_ofPs]
    exact sumAt_map (fun a => a * m) (Int.zero_mul m) (fun a b => Int.add_mul a b m) l.ps x
theorem tms_ok {l : Lad} {m : Int} (hl : l.Ok B) (hm : 0 ≤ m) : (tms l m).Ok (B * m + B) := by
  unfold tms
  by_cases h : m = 0
  · rw [if_pos h]; trivial
  · rw [if_neg h, ok_ps]
    obtain ⟨a1, a2⟩ := ok_iff.mp hl
    constructor
    · intro p hp
      obtain ⟨q, hq, rfl⟩ := List.mem_map.mp hp
      obtain ⟨g1, g2, g3⟩ := a1 q hq
      have hB : 0 ≤ B := by omega
      have b1 : q.2 * m ≤ B * m := Int.mul_le_mul_of_nonneg_right (by omega) hm
      have b2 : 1 * 1 ≤ q.2 * m := Int.mul_le_mul g2 (by omega) (by omega) (by omega)
      have b3 : 0 ≤ B * m := Int.mul_nonneg hB hm
      exact ⟨g1.mono (by omega), by show 1 ≤ q.2 * m; omega, by show q.2 * m < B * m + B; omega⟩
    · rw [List.pairwise_map]
      exact a2
end
end Lad
end FT
namespace FT
open PySem PySem.W PySem.Spec PyProof.Rows L2
/-- a ladder as it is drawn -/
structure Fine (l : Lad) : Prop where
  ok : l.Ok (10 ^ 60)
  parts : l.parts ≤ 30
  deep : l.deep ≤ 12
section
variable {K : PySem.W.Frag} {H : Hp} {σ : L2.St} {Q : VK} {l k : Lad} {v u : V} {i j : Nat}
theorem beh_at (hi : σ[i]? = some (some v)) (hj : σ[j]? = some (some u)) (hv : LA K H v l) (hu : LA K H u k) (h1 : l.deep ≤ 30) (h2 : k.deep ≤ 30) (h3 : l.parts ≤ 900) (h4 : k.parts ≤ 900) (q : ∀ x H', SB [] H H' → LA K H' x (l.bhd k) → Q x H') :
    tCall (spBehind K) [] E0 (tCons (tVar i) (tCons (tVar j) tNil)) σ H Q := ⟨_, hi, _, hj, v, u, l, k, rfl, hv, hu, h1, h2, h3, h4, q⟩
theorem bth_at (hi : σ[i]? = some (some v)) (hj : σ[j]? = some (some u)) (hv : LA K H v l) (hu : LA K H u k) (h1 : l.deep ≤ 25) (h2 : k.deep ≤ 25) (h3 : l.parts ≤ 400) (h4 : k.parts ≤ 400) (q : ∀ x H', SB [] H H' → LA K H' x (l.bth k) → Q x H') :
    tCall (spBoth K) [] E0 (tCons (tVar i) (tCons (tVar j) tNil)) σ H Q := ⟨_, hi, _, hj, v, u, l, k, rfl, hv, hu, h1, h2, h3, h4, q⟩
theorem eqT (h : l = k) : PyData.eqv l.enc k.enc = true := by rw [Lad.eqv_enc]; exact decide_eq_true h
theorem neF (h : l = k) : (!PyData.eqv l.enc k.enc) = false := by rw [eqT h]; rfl
theorem eq_ats {a : Addr} {xs : List V} {m n : Int} (hi : σ[i]? = some (some (.ref a))) (hs : SqL K H a xs) (hx : atI xs m = some v) (hy : atI xs n = some u) (hv : LA K H v l) (hu : LA K H u k) (h1 : l.deep ≤ 31) (h2 : k.deep ≤ 31) (e : l = k) (q : Q (.bl true) H) :
    tOp (rEqD K) (tOp (rIxL K) (tVar i) (tC (.int m))) (tOp (rIxL K) (tVar i) (tC (.int n))) σ H Q := by
  refine ⟨_, hi, a, xs, m, v, rfl, rfl, hs, hx, _, hi, a, xs, n, u, rfl, rfl, hs, hy, l.enc, k.enc, hv, hu, Lad.shaped_enc h1, Lad.shaped_enc h2, ?_⟩
  rw [eqT e]; exact q
theorem lt_ats {a : Addr} {xs : List V} {m n : Int} {b : Bool} (hi : σ[i]? = some (some (.ref a))) (hs : SqL K H a xs) (hx : atI xs m = some v) (hy : atI xs n = some u) (hv : LA K H v l) (hu : LA K H u k) (h1 : l.deep ≤ 31) (e : l.lt k = b) (q : Q (.bl b) H) :
    tOp (rLtD K) (tOp (rIxL K) (tVar i) (tC (.int m))) (tOp (rIxL K) (tVar i) (tC (.int n))) σ H Q := by
  have hd := l.enc_depth
  refine ⟨_, hi, a, xs, m, v, rfl, rfl, hs, hx, _, hi, a, xs, n, u, rfl, rfl, hs, hy, l.enc, k.enc, hv, hu, l.alike_enc k, l.enc_ne, by omega, ?_⟩
  rw [show dataLt l.enc k.enc = b from e]; exact q
/-- all([_law_is_ladder(x) for x in some]) -/
theorem all_lads {a : Addr} {xs : List V} {ls : List Lad} {vs : List Nat} (hi : σ[i]? = some (some (.ref a))) (hs : H a = some (.lst xs)) (hb : Lads K H xs ls) (hn : xs.length ≤ 100)
    (ok : ∀ l ∈ ls, (∃ B, l.Ok B) ∧ l.deep ≤ 19 ∧ l.parts ≤ 900) (w1 : ∀ x : V, ((wipe σ vs).set j (some x))[j]? = some (some x)) (w2 : ∀ x : V, wipe ((wipe σ vs).set j (some x)) vs = wipe σ vs) (q : ∀ H', SB [] H H' → Q (.bl true) H') :
    tCB (rAll K) (tCons (tLc (iList K (tVar i)) (gName j) tYes (tCall (spLadX K 40) [] E0 (tCons (tVar j) tNil)) vs) tNil) σ H Q := by
  have xl := hb.length
  refine ⟨_, hi, a, rfl, ⟨xs, SqL.of hs⟩, fun D hD => ?_⟩
  have aD : a ≠ D := ne_of_none hs hD
  refine lc_it (walk_list (xs := xs)) (fun m H2 => SB [D] H H2 ∧ H2 D = some (.lst ((List.replicate m true).map V.bl))) ⟨SB.new hD _, upd_same⟩ (fun m H2 hm h2 => SqL.of ((h2.1.drop hD).keep _ _ hs List.not_mem_nil)) (fun m x H2 H' hm h2 y => ?_) (fun H2 h2 => ?_)
  · obtain ⟨s2, hD2⟩ := h2
    obtain ⟨rfl, ex⟩ := y
    have s2' := s2.drop hD
    obtain ⟨l, el, hl⟩ := hb.get ex
    obtain ⟨⟨B, lo⟩, ld, lp⟩ := ok l (List.mem_of_getElem? el)
    have ft := Lad.fits ld lp (by decide)
    have hl' : LA K H' x l := LA.sb hl s2'
    refine ⟨w2 x, ?_⟩
    refine ⟨_, w1 x, x, l.enc, rfl, LA_th l hl', by have := ft.1; omega, by have := ft.1; omega, by have := ft.2; omega, fun H3 s3 => ?_⟩
    rw [ladD_ok lo]
    have hD3 := s3.keep _ _ hD2 List.not_mem_nil
    refine ⟨_, hD3, ?_, (s2.trans s3.nil).trans (SB.set hD3 (by simp) _), ?_⟩
    · rw [List.length_map, List.length_replicate]; exact small1000 (by omega)
    · rw [upd_same, List.replicate_succ']
      simp
  · obtain ⟨s2, hD2⟩ := h2
    refine ⟨D, _, rfl, SqL.of hD2, ?_⟩
    have e : (List.replicate xs.length true).all id = true := by simp
    rw [e]
    exact q _ (s2.drop hD)
end
end FT
namespace FT
open PySem PySem.W PySem.Spec PyProof.Rows L2
namespace Lad
section
variable {B C : Int}
/-! ## what is left of a ladder behind another -/
def rst : Lad → Lad → Lad
  | .nil, k => k
  | .cons _ _ _, .nil => .nil
  | .cons e m r, .cons e' m' r' => if e = e' then (if m = m' then rst r r' else .cons e (m' - m) r') else .cons e' m' r'
theorem rst_nil (k : Lad) : rst .nil k = k := by unfold rst; rfl
theorem rst_cons (e e' : Lad) (m m' : Int) (r r' : Lad) : rst (.cons e m r) (.cons e' m' r') = if e = e' then (if m = m' then rst r r' else .cons e (m' - m) r') else .cons e' m' r' := by rw [rst]
theorem rst_self : ∀ l : Lad, rst l l = .nil
  | .nil => rst_nil _
  | .cons e m r => by rw [rst_cons, if_pos rfl, if_pos rfl]; exact rst_self r
theorem rst_parts : ∀ l k : Lad, (rst l k).parts ≤ k.parts
  | .nil, k => by rw [rst_nil]; exact Nat.le_refl _
  | .cons _ _ _, .nil => by rw [rst]; exact Nat.le_refl _
  | .cons e m r, .cons e' m' r' => by
    rw [rst_cons]
    have ih := rst_parts r r'
    by_cases he : e = e'
    · rw [if_pos he]
      by_cases hm : m = m'
      · rw [if_pos hm]; show _ ≤ 1 + e'.parts + r'.parts; omega
      · rw [if_neg hm, he]; exact Nat.le_refl _
    · rw [if_neg he]; exact Nat.le_refl _
theorem rst_deep : ∀ l k : Lad, (rst l k).deep ≤ k.deep
  | .nil, k => by rw [rst_nil]; exact Nat.le_refl _
  | .cons _ _ _, .nil => by rw [rst]; exact Nat.le_refl _
  | .cons e m r, .cons e' m' r' => by
    rw [rst_cons]
    have ih := rst_deep r r'
    by_cases he : e = e'
    · rw [if_pos he]
      by_cases hm : m = m'
      · rw [if_pos hm]; show _ ≤ max (1 + e'.deep) r'.deep; omega
      · rw [if_neg hm, he]; exact Nat.le_refl _
    · rw [if_neg he]; exact Nat.le_refl _
/-- the exponents of what is left are the other's -/
theorem rst_keys : ∀ l k : Lad, ∀ p ∈ (rst l k).ps, ∃ q ∈ k.ps, q.1 = p.1
  | .nil, k => by intro p hp; rw [rst_nil] at hp; exact ⟨p, hp, rfl⟩
  | .cons _ _ _, .nil => by intro p hp; rw [rst] at hp; cases hp
  | .cons e m r, .cons e' m' r' => by
    intro p hp
    rw [rst_cons] at hp
    by_cases he : e = e'
    · rw [if_pos he] at hp
      by_cases hm : m = m'
      · rw [if_pos hm] at hp
        obtain ⟨q, hq, e⟩ := rst_keys r r' p hp
        exact ⟨q, List.mem_cons_of_mem _ hq, e⟩
      · rw [if_neg hm] at hp
        rcases List.mem_cons.mp hp with h | h
        · subst h; exact ⟨(e', m'), List.mem_cons_self .., he.symm⟩
        · exact ⟨p, List.mem_cons_of_mem _ h, rfl⟩
    · rw [if_neg he] at hp; exact ⟨p, hp, rfl⟩
theorem not_lt_cons {e e' : Lad} {m m' : Int} {r r' : Lad} (h : Lad.lt (.cons e' m' r') (.cons e m r) = false) : (e = e' ∧ m = m' ∧ r'.lt r = false) ∨ (e = e' ∧ m < m') ∨ (e ≠ e' ∧ e.lt e' = true) := by
  rw [lt_cons] at h
  by_cases he : e' = e
  · rw [if_pos he] at h
    by_cases hm : m' = m
    · rw [if_pos hm] at h; exact .inl ⟨he.symm, hm.symm, h⟩
    · rw [if_neg hm] at h
      have := of_decide_eq_false h
      exact .inr (.inl ⟨he.symm, by omega⟩)
  · rw [if_neg he] at h
    exact .inr (.inr ⟨fun z => he z.symm, lt_tri _ _ he h⟩)
theorem rst_ok : ∀ {l k : Lad}, l.Ok B → k.Ok C → k.lt l = false → (rst l k).Ok C
  | .nil, k, _, hk, _ => by rw [rst_nil]; exact hk
  | .cons _ _ _, .nil, _, _, _ => by rw [rst]; trivial
  | .cons e m r, .cons e' m' r', hl, hk, h => by
    rw [rst_cons]
    obtain ⟨h1, h2, h3, h4, h5⟩ := hk
    rcases not_lt_cons h with ⟨he, hm, hr⟩ | ⟨he, hm⟩ | ⟨he, _⟩
    · rw [if_pos he, if_pos hm]; exact rst_ok hl.2.2.2.1 h4 hr
    · rw [if_pos he, if_neg (by omega)]
      subst he
      have := hl.2.1
      exact ⟨h1, by omega, by omega, h4, h5⟩
    · rw [if_neg he]; exact ⟨h1, h2, h3, h4, h5⟩
/-- below the first rung all goes behind the rest -/
theorem bhd_low {e : Lad} {m : Int} {r x : Lad} (h : ∀ p ∈ x.ps, p.1.lt e = true) : bhd (.cons e m r) x = .cons e m (bhd r x) := by
  cases x with
  | nil => rfl
  | cons e2 m2 r2 =>
    have h2 : e2.lt e = true := h (e2, m2) (List.mem_cons_self ..)
    rw [bhd_cons, bhd_cons]
    show ofPs (((e, m) :: r.ps).filter (fun p => e2.lt p.1) ++ (e2, sumAt ((e, m) :: r.ps) e2 + m2) :: r2.ps) = _
    rw [List.filter_cons, if_pos h2, sumAt_cons, if_neg (fun z => lt_ne h2 z.symm), Int.zero_add]
    rfl
theorem bhd_rst : ∀ {l k : Lad}, l.Ok B → k.Ok C → k.lt l = false → bhd l (rst l k) = k
  | .nil, k, _, _, _ => by rw [rst_nil, nil_bhd]
  | .cons e m r, .nil, _, _, h => by rw [lt_nil_cons] at h; cases h
  | .cons e m r, .cons e' m' r', hl, hk, h => by
    rw [rst_cons]
    obtain ⟨h1, h2, h3, h4, h5⟩ := hk
    obtain ⟨g1, g2, g3, g4, g5⟩ := hl
    rcases not_lt_cons h with ⟨he, hm, hr⟩ | ⟨he, hm⟩ | ⟨he, hlt⟩
    · rw [if_pos he, if_pos hm]
      subst he; subst hm
      rw [bhd_low, bhd_rst g4 h4 hr]
      intro p hp
      obtain ⟨q, hq, eq⟩ := rst_keys r r' p hp
      rw [← eq]; exact h5 q hq
    · rw [if_pos he, if_neg (by omega)]
      subst he
      rw [bhd_cons]
      show ofPs (((e, m) :: r.ps).filter (fun p => e.lt p.1) ++ (e, sumAt ((e, m) :: r.ps) e + (m' - m)) :: r'.ps) = _
      have hf : ((e, m) :: r.ps).filter (fun p => e.lt p.1) = [] := by
        rw [List.filter_eq_nil_iff]
        intro p hp
        rcases List.mem_cons.mp hp with hp | hp
        · subst hp; rw [lt_irrefl]; exact Bool.false_ne_true
        · rw [lt_asymm (g5 p hp)]; exact Bool.false_ne_true
      rw [hf, sumAt_cons, if_pos rfl, sumAt_zero fun p hp => lt_ne (g5 p hp)]
      show cons e (m + 0 + (m' - m)) (ofPs r'.ps) = _
      rw [ofPs_ps, show m + 0 + (m' - m) = m' by omega]
    · rw [if_neg he, bhd_cons]
      show ofPs (((e, m) :: r.ps).filter (fun p => e'.lt p.1) ++ (e', sumAt ((e, m) :: r.ps) e' + m') :: r'.ps) = _
      have hall : ∀ p ∈ (e, m) :: r.ps, p.1.lt e' = true := by
        intro p hp
        rcases List.mem_cons.mp hp with hp | hp
        · subst hp; exact hlt
        · exact lt_trans _ _ _ (g5 p hp) hlt
      have hf : ((e, m) :: r.ps).filter (fun p => e'.lt p.1) = [] := by
        rw [List.filter_eq_nil_iff]
        intro p hp
        rw [lt_asymm (hall p hp)]; exact Bool.false_ne_true
      rw [hf, sumAt_zero fun p hp => lt_ne (hall p hp), Int.zero_add]
      show cons e' m' (ofPs r'.ps) = _
      rw [ofPs_ps]
theorem nil_le (k : Lad) : k ≠ .nil → Lad.lt .nil k = true := by
  cases k with
  | nil => intro h; exact absurd rfl h
  | cons e m r => intro _; exact lt_nil_cons e m r
theorem bhd_ge {l k : Lad} (hl : l.Ok B) (hk : k.Ok C) (hB : 1 ≤ B) (hC : 1 ≤ C) : (bhd l k).lt l = false := by
  by_cases h : k = .nil
  · subst h; rw [bhd_nil]; exact lt_irrefl _
  · have := bhd_mono (a := l) (b := .nil) (c := k) (C := 1) hl trivial hk hB (by decide) hC (nil_le k h)
    rw [bhd_nil] at this
    exact lt_asymm this
theorem bhd_inj {l k j : Lad} {D : Int} (hl : l.Ok B) (hk : k.Ok C) (hj : j.Ok D) (hB : 1 ≤ B) (hC : 1 ≤ C) (hD : 1 ≤ D) (h : bhd l k = bhd l j) : k = j := by
  by_cases e : k = j
  · exact e
  · cases hlt : k.lt j with
    | true => exact absurd h (lt_ne (bhd_mono hl hk hj hB hC hD hlt))
    | false => exact absurd h.symm (lt_ne (bhd_mono hl hj hk hB hD hC (lt_tri _ _ e hlt)))
theorem rst_bhd {l k : Lad} (hl : l.Ok B) (hk : k.Ok C) (hB : 1 ≤ B) (hC : 1 ≤ C) : rst l (bhd l k) = k := by
  have o := bhd_ok hl hk hB hC
  have g := bhd_ge hl hk hB hC
  exact bhd_inj hl (rst_ok hl o g) hk hB (by omega) hC (bhd_rst hl o g)
theorem rst_drop {l o : Lad} {k : Nat} {p q : Lad × Int} (hp : l.ps[k]? = some p) (hq : o.ps[k]? = some q) : rst (ofPs (l.ps.drop k)) (ofPs (o.ps.drop k)) = if p.1 = q.1 then (if p.2 = q.2 then rst (ofPs (l.ps.drop (k + 1))) (ofPs (o.ps.drop (k + 1))) else .cons p.1 (q.2 - p.2) (ofPs (o.ps.drop (k + 1)))) else .cons q.1 q.2 (ofPs (o.ps.drop (k + 1))) := by
  have h1 : k < l.ps.length := (List.getElem?_eq_some_iff.mp hp).1
  have h2 : k < o.ps.length := (List.getElem?_eq_some_iff.mp hq).1
  have e1 : l.ps[k] = p := (List.getElem?_eq_some_iff.mp hp).2
  have e2 : o.ps[k] = q := (List.getElem?_eq_some_iff.mp hq).2
  rw [List.drop_eq_getElem_cons h1, List.drop_eq_getElem_cons h2, e1, e2]
  exact rst_cons _ _ _ _ _ _
theorem eqv_pEnc (p q : Lad × Int) : PyData.eqv (pEnc p) (pEnc q) = (decide (p.1 = q.1) && decide (p.2 = q.2)) := by
  simp [pEnc, PyData.eqv, PyData.eqvAll, Lad.eqv_enc, ib]
theorem shaped_pEnc {p : Lad × Int} (h : p.1.deep ≤ 29) : SeqAt.shaped (pEnc p) = true := by
  have h1 := pEnc_depth p
  have h2 := shaped_enc (l := p.1) (by omega)
  unfold SeqAt.shaped at h2 ⊢
  rw [Bool.and_eq_true] at h2 ⊢
  refine ⟨?_, by simp; omega⟩
  simp [pEnc, PyData.canLay0, PyData.canLayAll0, h2.1]
end
end Lad
/-- a class of errors of the program's own -/
structure Own (K : PySem.W.Frag) (mg : Str → Option Value) (x : Str) (C : Addr) : Prop where
  gC : mg x = some (.ref C)
  q : PySem.W.excIn K C He.veBase "ValueError.__new__" = true
  k : PySem.W.keepIn K (.ref C) = true
  s : PySem.W.subIn K (.ref C) (.type "BaseException") = some true
  t : PySem.W.typeIn K (.ref C) = some (.type "type")
/-- rest: what is left, or an error of the class at C -/
def spRest (K : PySem.W.Frag) (C : Addr) : Sp := fun vs H Q E => ∃ (v u : V) (l k : Lad), vs = [v, u] ∧ LA K H v l ∧ LA K H u k ∧ l.deep ≤ 24 ∧ k.deep ≤ 24 ∧ l.parts ≤ 900 ∧ k.parts ≤ 900 ∧
  (k.lt l = false → ∀ (x : V) (H' : Hp), SB [] H H' → LA K H' x (l.rst k) → Q x H') ∧ (k.lt l = true → E (.ref C) none H)
end FT
namespace FT
open PySem PySem.W PySem.Spec PyProof.Rows L2
/-- isinstance(e, c), e what the clause holds: of the class at D, without fields -/
def rIsEc (K : PySem.W.Frag) (D a : Addr) (cls : Value) (d : Option Addr) : List V → Hp → VK → Prop := fun xs H Q => cls = .ref D ∧ d = none ∧ rIsE K D a xs H Q
/-- isinstance(e, (c1, c2, ..)) -/
def rIsET (K : PySem.W.Frag) (D a : Addr) (cls : Value) (d : Option Addr) : List V → Hp → VK → Prop := fun xs H Q => cls = .ref D ∧ d = none ∧ ∃ (tp : Addr) (cs : List V) (ws : List Value) (b : Bool), xs = [.ref a, .ref tp] ∧ H tp = some (.tup cs) ∧ Paired ClsV cs ws ∧ PySem.W.kitAny K (.ref D) ws = some b ∧ Q (.bl b) H
section
variable {X : Cx} {a D : Addr} {oe : Obj} {cls : Value} {d : Option Addr} {pn : List (Addr × Obj)}
theorem call_isEc (C : ExcC X.K D) (hz : Zc cls d oe) (hf : ∃ vs, oe.data = .fields vs) : CallR (X.suite a ((a, oe) :: pn)) (.builtin "isinstance") (rIsEc X.K D a cls d) := by
  intro pins s σ H xs us Q I r h
  obtain ⟨e1, e2, h⟩ := h
  subst e1; subst e2
  exact call_isE C hz hf pins s σ H xs us Q I r h
theorem call_isET (C : ExcC X.K D) (hz : Zc cls d oe) (hf : ∃ vs, oe.data = .fields vs) : CallR (X.suite a ((a, oe) :: pn)) (.builtin "isinstance") (rIsET X.K D a cls d) := by
  intro pins s σ H xs us Q I r h
  obtain ⟨e1, e2, tp, cs, ws, b, rfl, hT, k, e, q⟩ := h
  subst e1; subst e2
  obtain ⟨u1, u2, rfl, r1, r2⟩ := vals2 r
  cases (show u2 = Value.ref tp from r2)
  cases (show u1 = Value.ref a from r1)
  obtain ⟨_, its, rv, o, h1, h2, n, h3⟩ := (show ObjOk X.prog X.w H s.heap tp (.tup cs) from I.hok tp _ hT)
  have e3 := ClsV.all k rv
  subst e3
  obtain ⟨oc, od, dt, sl⟩ := o
  simp only at h2 h3
  subst h2 h3
  obtain ⟨hget, _⟩ := I.pin (a, oe) (List.mem_append.mpr (.inl List.mem_cons_self))
  obtain ⟨vs, hv⟩ := hf
  have J : PySem.W.InstAt s.heap a oe D none := by
    obtain ⟨oc, od, oda, osl⟩ := oe
    obtain ⟨h1, h2⟩ := hz
    dsimp only at h1 h2 hv
    subst h1 h2 hv
    exact ⟨hget, rfl, rfl, trivial⟩
  exact PySem.W.kia_tup (PySem.W.handS_kitx_exc C.hg C.hk C.hs C.hd C.ha C.hn C.ht C.hm) I.kIn J h1 e (fun z => nomatch z) fun tk => ⟨.bl b, H, I.kept (t' := tk) fun _ _ z => z, rfl, q⟩
end
/-- as Got, for a def that may raise -/
structure GotX (P : Program) (w : World) (K : PySem.W.Frag) (mg : Str → Option Value) (base : Heap) (x : Str) (ps : List Str) (k : Nat) (sp : Sp) : Prop where
  ex : ∃ (f : Addr) (fd : FuncData), FnOk P w K mg base (L2.CX P w) k f fd ps sp ∧ PySem.W.keepIn K (.ref f) = true ∧ Binds K fd ps [] ∧ mg x = some (.ref f)
section
variable {X : Cx} {x : Str} {ps : List Str} {k : Nat} {sp : Sp} {e : Expr} {es : List Expr} {t : TA} {p pos : Pos}
theorem pe_gotX (G : GotX X.prog X.w X.K X.mg X.base x ps k sp) (hr : Room k X.A) (hg : Gl X x) (ha : PA X (e :: es) t) (hdb : (x == ("__debug__" : Str)) = false := by decide) (he : starEach (e :: es) X.env = (false, eval e X.env) :: starEach es X.env := by rfl) (hpl : (backTo pos (starEach es X.env)).any (·.1) = false := by rfl) :
    PE X (.Call (.Name x p) (e :: es) [] pos) (tCall sp [] E0 t) := by
  obtain ⟨f, fd, h1, h2, h3, h4⟩ := G.ex
  exact pe_call h1 hr hg h4 h2 h3 .nil passL ha hdb he hpl
theorem pe_gotS {W : WX} (G : GotX X.prog X.w X.K X.mg X.base x ps k sp) (hr : Room k X.A) (hg : Gl X x) (tk : Takes X W) (ha : PA X (e :: es) t) (hdb : (x == ("__debug__" : Str)) = false := by decide) (he : starEach (e :: es) X.env = (false, eval e X.env) :: starEach es X.env := by rfl) (hpl : (backTo pos (starEach es X.env)).any (·.1) = false := by rfl) :
    PE X (.Call (.Name x p) (e :: es) [] pos) (tCallS sp (WE W) t) := by
  obtain ⟨f, fd, h1, h2, h3, h4⟩ := G.ex
  exact pe_callS h1 hr hg h4 h2 h3 (fun σ => passAt tk σ) ha hdb he hpl
end
/-! ## the module's top, with more facts -/
abbrev AlE : Type := He.AlD × Bool
def obsE (n : Nat) (fa : List He.Fa) (fn : List He.DefD) (ex : PySem.W.Frag → Bool) (g : Addr → Option Obj) : AlE := (He.obsD fa fn (He.frG g (He.asD g n)), ex (He.frG g (He.asD g n)))
def hookE (n : Nat) (fa : List He.Fa) (fn : List He.DefD) (ex : PySem.W.Frag → Bool) : PySem.W.Hook where
  α := AlE
  obs := fun s => obsE n fa fn ex s.heap.get?
  val := fun _ => (He.valD fn, true)
  says := fun _ h => ∃ K : PySem.W.Frag, K.In h ∧ He.SaysD fa fn K ∧ ex K = true
  of := fun _ _ e => ⟨_, He.frG_in, congrArg (fun z : AlE => z.1) e, congrArg (fun z : AlE => z.2) e⟩
  keeps := fun _ _ _ ⟨K, hK, c⟩ k => ⟨K, PySem.W.Frag.In.keeps hK k, c⟩
theorem obsE_eq {n : Nat} {fa : List He.Fa} {fn : List He.DefD} {ex : PySem.W.Frag → Bool} {g : Addr → Option Obj} {s : Shared} (h : ∀ a, g a = s.heap.get? a) : obsE n fa fn ex g = (hookE n fa fn ex).obs s := by
  have e : g = s.heap.get? := funext h
  rw [e] <;> rfl
/-- what isinstance wants of an own class of errors, as a test -/
def excCB (K : PySem.W.Frag) (D : Addr) : Bool :=
  He.eqO (PySem.W.findIn K (.ref D) "__getattribute__") (some (some (.builtin "BaseException.__getattribute__"))) && (He.eqO (PySem.W.findIn K (.ref D) "__getattr__") (some none) && (decide (PySem.W.subIn K (.ref D) (.type "BaseException") = some true) && (PySem.W.hasDictIn K D && (He.eqO (PySem.W.findIn K (.ref D) "__class__") (some (some (.builtin "object.__class__"))) &&
  (He.eqO (PySem.W.specialIn K (.builtin "object.__class__") "__get__") (some (some (.builtin "getset_descriptor.__get__"))) && (decide (PySem.W.takesIn K (.builtin "object.__class__") = some true) && decide (PySem.W.mroIn K D (.type "object") = some true)))))))
theorem excCB_ok {K : PySem.W.Frag} {D : Addr} (h : excCB K D = true) : ExcC K D := by
  obtain ⟨h1, h⟩ := He.ba h
  obtain ⟨h2, h⟩ := He.ba h
  obtain ⟨h3, h⟩ := He.ba h
  obtain ⟨h4, h⟩ := He.ba h
  obtain ⟨h5, h⟩ := He.ba h
  obtain ⟨h6, h⟩ := He.ba h
  obtain ⟨h7, h8⟩ := He.ba h
  exact ⟨He.eqO_ok h1, He.eqO_ok h2, of_decide_eq_true h3, h4, He.eqO_ok h5, He.eqO_ok h6, of_decide_eq_true h7, of_decide_eq_true h8⟩
end FT
namespace FT
open PySem PySem.W PySem.Spec PyProof.Rows L2
/-! ## a comprehension's walk, whatever a turn does -/
section
variable {J : It} {n : Nat} {G : Hp → Prop} {Y : Nat → Hp → V → Hp → Prop}
theorem lcG (w : Walk J n G Y) {H0 : Hp} {Qd : Hp → Prop} {body : (Hp → Prop) → V → Hp → Prop} (Pv : Nat → Hp → Prop) (h0 : Pv 0 H0) (hG : ∀ i H, i ≤ n → Pv i H → G H)
    (hs : ∀ i x H H', i < n → Pv i H → Y i H x H' → body (Pv (i + 1)) x H') (hd : ∀ H, Pv n H → Qd H) :
    ∃ W : Nat → Nat → Hp → Prop, (∃ m, W 0 m H0) ∧ ∀ i m H, W i m H →
      (J.stop i H ∧ Qd H) ∨ (J.go i H ∧ ∃ Nx : Hp → Prop, (∀ H', Nx H' → ∃ m', m' < m ∧ W (i + 1) m' H') ∧ ∀ x H', J.yld i H x H' → body Nx x H') := by
  refine ⟨fun i m H => m = n - i ∧ i ≤ n ∧ Pv i H, ⟨n, by simp, Nat.zero_le _, h0⟩, ?_⟩
  rintro i m H ⟨rfl, hi, p⟩
  have q := hG i H hi p
  by_cases hlt : i < n
  · exact .inr ⟨w.goes i H hlt q, Pv (i + 1), fun H' p' => ⟨n - (i + 1), by omega, rfl, hlt, p'⟩, fun x H' y => hs i x H H' hlt p (w.yields i H x H' hlt q y)⟩
  · have e : i = n := by omega
    subst e
    exact .inl ⟨w.stops H q, hd H p⟩
end
section
variable {prog : Program} {w : World} {A : Around} {E : Value → Shared → Prop} {s : Shared} {β : Type} {vs : List Value} {bs : List β} {enc : β → PyData} {R : Value → β → Prop}
/-- sorted(t, ..), t a tuple of data that are alike -/
theorem sorted_lstK {t : Addr} {kw : List (Str × Value)} {b : Bool} {Q : Value → Shared → Prop} (hkw : ∀ a, Builtin.«list.sort» ⟨[.ref a], kw⟩ = Builtin.«list.sort» ⟨[.ref a], [(Str.ofString "reverse", .bool b)]⟩) (ha1 : argsOk "sorted" ⟨[.ref t], kw⟩) (ha2 : ∀ x, argsOk "list.sort" ⟨[.ref x], kw⟩)
    (ht : PlainL s.heap t vs.toArray) (e : EachIs R vs bs) (er : EachIs (fun v b => ∃ as, Reads s.heap v (enc b) as) vs bs) (hal : AllAlike (bs.map enc)) (hk : Sortable (bs.map enc)) (hL : bs.length ≤ sizeLine)
    (hu : ∀ b, b ∈ bs → A.units + 2 + (enc b).depth < cLine)
    (h : ∀ (out : List Value) (h' h2 : Heap) (n : Nat), (∀ b o, s.heap.get? b = some o → h'.get? b = some o) → (∀ b o, h'.get? b = some o → h2.get? b = some o) → h2.get? h'.objs.size = some (seqObj "list" out.toArray n) → out.length = bs.length → EachIs R out (bs.mergeSort (dataLe b enc)) → Q (.ref h'.objs.size) { s with heap := h2 }) :
    wpAny (model prog w) A (call (.builtin "sorted") [.ref t] kw) Q E s := by
  have hlen : vs.length ≤ sizeLine := by rw [e.length]; exact hL
  obtain ⟨o, n0, ho, hc, _, hd⟩ := id ht
  refine call_function_entry_kw kind_sorted plain_sorted entry_sorted ha1 ?_
  unfold Builtin.«sorted»
  refine wpAny_bind (m := checkCount "sorted" 1 1 _) (wpAny_pure ?_)
  refine wpAny_bind (wpAny_collect_seq t (.inl rfl) ho hc hd (fun h' hk' => ?_) (by rw [List.size_toArray]; exact hlen))
  refine wpAny_bind (wpAny_newList ?_ hlen)
  show wpAny _ _ _ _ _ { s with heap := h'.push (seqObj "list" vs.toArray 0) }
  have hat : (h'.push (seqObj "list" vs.toArray 0)).get? h'.objs.size = some (seqObj "list" vs.toArray 0) := Heap.get?_push_size _ rfl
  refine wpAny_bind (wpAny_holding (wpAny_call_entry_kw slot_list_sort ⟨_, hat, rfl⟩ entry_list_sort ?body (ha2 _)))
  case body =>
    rw [hkw]
    have old : ∀ b o, h'.get? b = some o → (sortingHeap (h'.push (seqObj "list" vs.toArray 0)) h'.objs.size vs).get? b = some o := fun b o q => sortingHeap_old (Nat.ne_of_lt (Heap.lt_size q)) (Heap.get?_push_of_some _ q)
    have er' : EachIs (fun v b => ∃ as, Reads (sortingHeap (h'.push (seqObj "list" vs.toArray 0)) h'.objs.size vs) v (enc b) as) vs bs := er.mono fun _ _ ⟨as, r⟩ => ⟨as, PyProof.Rows.Reads.keeps (fun b o q => old b o (hk' b o q)) r⟩
    refine list_sort_rev_vals (s := { s with heap := h'.push (seqObj "list" vs.toArray 0) }) (κ := dataKind (sortingHeap (h'.push (seqObj "list" vs.toArray 0)) h'.objs.size vs) (bs.map enc)) hat (SortsAt.data (s := { s with heap := sortingHeap (h'.push (seqObj "list" vs.toArray 0)) h'.objs.size vs }) (each_map (R := fun v d => ∃ as, Reads (sortingHeap (h'.push (seqObj "list" vs.toArray 0)) h'.objs.size vs) v d as) enc er') hal hk (bound_map hu)) hlen ?_
    refine ⟨_, rfl, wpAny_pure ⟨_, rfl, ?_⟩⟩
    obtain ⟨n2, hn2⟩ := sortedHeap_at (out := (sortVals (dataKind (sortingHeap (h'.push (seqObj "list" vs.toArray 0)) h'.objs.size vs) (bs.map enc)) b vs vs).toArray) hat
    refine h _ h' _ n2 hk' (fun b o q => ?_) hn2 (by rw [sortVals_length b rfl]; exact e.length) (sortVals_data b e er' hal)
    rw [sortedHeap_old (Nat.ne_of_lt (Heap.lt_size q)) (by rw [size_push']; exact Nat.lt_succ_of_lt (Heap.lt_size q))]
    exact Heap.get?_push_of_some _ q
end
/-- sorted(t), sorted(t, reverse=b) -/
def rSortedL (K : PySem.W.Frag) {β : Type} (enc : β → PyData) (b : Bool) (vs : List V) (H : Hp) (Q : VK) : Prop := ∃ (a : Addr) (xs : List V) (bs : List β), vs = [V.ref a] ∧ SqL K H a xs ∧ Bears K H enc xs bs ∧ AllAlike (bs.map enc) ∧ Sortable (bs.map enc) ∧ bs.length ≤ 10000 ∧ (∀ b ∈ bs, (enc b).depth ≤ 100) ∧
  ∀ (p : Addr) (ys : List V), H p = none → Bears K H enc ys (bs.mergeSort (dataLe b enc)) → Q (.ref p) (upd H p (.lst ys))
section
variable {X : Cx}
theorem sortedL_run {β : Type} {enc : β → PyData} {b : Bool} {kw : List (Str × Value)} (hu : X.A.units + 110 < cLine) (hkw : ∀ a, Builtin.«list.sort» ⟨[.ref a], kw⟩ = Builtin.«list.sort» ⟨[.ref a], [(Str.ofString "reverse", .bool b)]⟩) (ha1 : ∀ t, argsOk "sorted" ⟨[.ref t], kw⟩) (ha2 : ∀ x, argsOk "list.sort" ⟨[.ref x], kw⟩)
    {pins : List (Addr × Obj)} {s : Shared} {σ : L2.St} {H : Hp} {vs : List V} {us : List Value} {Q : VK} (I : Inv X pins σ H s) (r : Vals vs us) (h : rSortedL X.K enc b vs H Q) : wpAny (model X.prog X.w) X.A (call (.builtin "sorted") us kw) (EP X pins σ Q) X.xe s := by
  obtain ⟨a, xs, bs, rfl, hs, hb, hal, hsr, hl, hd, q⟩ := h
  obtain ⟨its, rv, hli, _⟩ := I.list hs
  rw [Vals.ref1 r]
  obtain ⟨e1, e2⟩ := each_of I hb rv
  refine sorted_lstK (vs := its) (bs := bs) (enc := enc) (R := fun u b => ∃ v, RelV v u ∧ Dp X.K H v (enc b)) hkw (ha1 _) ha2 hli e1 e2 hal hsr (by rw [sizeLine_eq]; omega) (fun b m => by have := hd b m; omega) fun out h' h2 n k1 k2 hat ho h1 => ?_
  obtain ⟨ys, g2, g3⟩ := of_each h1
  have I' : Inv X pins σ H { s with heap := h' } := I.kept (t' := s.toks) k1
  have hlen : ys.length ≤ sizeLine := by rw [g2.length, ho, sizeLine_eq]; omega
  exact ⟨.ref _, upd H h'.objs.size (.lst ys), I'.laid (t' := s.toks) (fun b o e => k2 b o e) (Nat.le_refl _) ⟨hlen, out, n, g2, hat⟩, rfl, q _ ys (I'.hok.fresh (Nat.le_refl _)) g3⟩
theorem cr_sortedL {β : Type} (enc : β → PyData) (hu : X.A.units + 110 < cLine) : CallR X (.builtin "sorted") (rSortedL X.K enc false) := by
  intro pins s σ H vs us Q I r h
  exact sortedL_run (kw := []) hu plain_is_rev (fun _ => args_sorted1 _) (fun _ => args_list_sort _) I r h
theorem cr_sortedLR {β : Type} (enc : β → PyData) {b : Bool} (hu : X.A.units + 110 < cLine) : CallRK X (.builtin "sorted") [Str.ofString "reverse"] (fun vs zs H Q => zs = [.bl b] ∧ rSortedL X.K enc b vs H Q) := by
  intro pins s σ H vs zs us ws Q I r rz h
  obtain ⟨rfl, h⟩ := h
  obtain ⟨w1, rfl, e1⟩ := vals1 rz
  obtain rfl : w1 = Value.bool b := e1
  exact sortedL_run hu (fun _ => rfl) (fun _ => args_sorted_rev _ _) (fun _ => args_list_sort_rev _ _) I r h
end
namespace Lad
/-- how many pairs two ladders begin with that are alike -/
def alh : Lad → Lad → Nat
  | .cons e m r, .cons e' m' r' => if e = e' ∧ m = m' then 1 + alh r r' else 0
  | _, _ => 0
theorem alh_cons (e e' : Lad) (m m' : Int) (r r' : Lad) : alh (.cons e m r) (.cons e' m' r') = if e = e' ∧ m = m' then 1 + alh r r' else 0 := by rw [alh]
theorem alh_nil_l (k : Lad) : alh .nil k = 0 := by cases k <;> rfl
theorem alh_nil_r (k : Lad) : alh k .nil = 0 := by cases k <;> rfl
theorem alh_drop {l o : Lad} {k : Nat} {p q : Lad × Int} (hp : l.ps[k]? = some p) (hq : o.ps[k]? = some q) : alh (ofPs (l.ps.drop k)) (ofPs (o.ps.drop k)) = if p.1 = q.1 ∧ p.2 = q.2 then 1 + alh (ofPs (l.ps.drop (k + 1))) (ofPs (o.ps.drop (k + 1))) else 0 := by
  have h1 : k < l.ps.length := (List.getElem?_eq_some_iff.mp hp).1
  have h2 : k < o.ps.length := (List.getElem?_eq_some_iff.mp hq).1
  have e1 : l.ps[k] = p := (List.getElem?_eq_some_iff.mp hp).2
  have e2 : o.ps[k] = q := (List.getElem?_eq_some_iff.mp hq).2
  rw [List.drop_eq_getElem_cons h1, List.drop_eq_getElem_cons h2, e1, e2]
  exact alh_cons _ _ _ _ _ _
theorem alh_end {l o : Lad} {k : Nat} (h : ¬ (k < l.ps.length ∧ k < o.ps.length)) : alh (ofPs (l.ps.drop k)) (ofPs (o.ps.drop k)) = 0 := by
  rcases Nat.lt_or_ge k l.ps.length with h1 | h1
  · rw [List.drop_eq_nil_of_le (show o.ps.length ≤ k by omega)]; exact alh_nil_r _
  · rw [List.drop_eq_nil_of_le h1]; exact alh_nil_l _
theorem alh_spec : ∀ l o : Lad, alh l o ≤ l.ps.length ∧ alh l o ≤ o.ps.length ∧ l.lt o = (ofPs (l.ps.drop (alh l o))).lt (ofPs (o.ps.drop (alh l o))) ∧ o.lt l = (ofPs (o.ps.drop (alh l o))).lt (ofPs (l.ps.drop (alh l o))) ∧ rst l o = rst (ofPs (l.ps.drop (alh l o))) (ofPs (o.ps.drop (alh l o))) ∧ (∀ p q, l.ps[alh l o]? = some p → o.ps[alh l o]? = some q → ¬ (p.1 = q.1 ∧ p.2 = q.2))
  | .nil, o => by
    rw [alh_nil_l]
    refine ⟨Nat.zero_le _, Nat.zero_le _, ?_, ?_, ?_, fun p q h => by simp [ps] at h⟩
    · rw [List.drop_zero, List.drop_zero, ofPs_ps, ofPs_ps]
    · rw [List.drop_zero, List.drop_zero, ofPs_ps, ofPs_ps]
    · rw [List.drop_zero, List.drop_zero, ofPs_ps, ofPs_ps]
  | .cons e m r, .nil => by
    rw [alh_nil_r]
    refine ⟨Nat.zero_le _, Nat.zero_le _, ?_, ?_, ?_, fun p q _ h => by simp [ps] at h⟩
    · rw [List.drop_zero, List.drop_zero, ofPs_ps, ofPs_ps]
    · rw [List.drop_zero, List.drop_zero, ofPs_ps, ofPs_ps]
    · rw [List.drop_zero, List.drop_zero, ofPs_ps, ofPs_ps]
  | .cons e m r, .cons e' m' r' => by
    rw [alh_cons]
    by_cases h : e = e' ∧ m = m'
    · rw [if_pos h]
      obtain ⟨rfl, rfl⟩ := h
      obtain ⟨h1, h2, h3, h4, h5, h6⟩ := alh_spec r r'
      have d1 : (Lad.cons e m r).ps.drop (1 + alh r r') = r.ps.drop (alh r r') := by rw [Nat.add_comm]; rfl
      have d2 : (Lad.cons e m r').ps.drop (1 + alh r r') = r'.ps.drop (alh r r') := by rw [Nat.add_comm]; rfl
      rw [d1, d2, ← h3, ← h4, ← h5]
      refine ⟨?_, ?_, ?_, ?_, ?_, ?_⟩
      · show _ ≤ r.ps.length + 1; omega
      · show _ ≤ r'.ps.length + 1; omega
      · rw [lt_cons, if_pos rfl, if_pos rfl]
      · rw [lt_cons, if_pos rfl, if_pos rfl]
      · rw [rst_cons, if_pos rfl, if_pos rfl]
      · rw [Nat.add_comm]; exact h6
    · rw [if_neg h]
      refine ⟨Nat.zero_le _, Nat.zero_le _, ?_, ?_, ?_, fun p q hp hq => ?_⟩
      · rw [List.drop_zero, List.drop_zero, ofPs_ps, ofPs_ps]
      · rw [List.drop_zero, List.drop_zero, ofPs_ps, ofPs_ps]
      · rw [List.drop_zero, List.drop_zero, ofPs_ps, ofPs_ps]
      · have e1 : (e, m) = p := Option.some.inj hp
        have e2 : (e', m') = q := Option.some.inj hq
        rw [← e1, ← e2]; exact h
/-- all of some ladders together -/
def bths (ls : List Lad) : Lad := ofPs (jn (dsc (ls.flatMap ps)))
theorem bths_two (l k : Lad) : bths [l, k] = bth l k := by simp [bths, bth, List.flatMap]
end Lad
/-- a ladder near another one, its numbers below C -/
def spNearB (K : PySem.W.Frag) : Sp := fun vs H Q _ => ∃ (C : Int) (p : Addr) (v u : V) (l k : Lad), vs = [.ref p, v, u] ∧ 10 ^ 60 ≤ C ∧ Pu H p ∧ LA K H v l ∧ LA K H u k ∧ l.Ok C ∧ k.Ok C ∧ l.parts ≤ 200 ∧ k.parts ≤ 200 ∧ l.deep ≤ 12 ∧ k.deep ≤ 12 ∧
  ∀ (x : V) (j : Lad) (H' : Hp), SB [p] H H' → Pu H' p → LA K H' x j → j.Ok C → j.parts ≤ l.parts + k.parts → j.deep ≤ 12 → Q x H'
theorem near_B {K : PySem.W.Frag} {vs : List V} {H : Hp} {Q : VK} {E : XK} (h : spNear K vs H Q E) : spNearB K vs H Q E := by
  obtain ⟨p, v, u, l, k, h1, h2⟩ := h
  exact ⟨10 ^ 60, p, v, u, l, k, h1, Int.le_refl _, h2⟩
theorem Got.imp {P : Program} {w : World} {K : PySem.W.Frag} {mg : Str → Option Value} {base : Heap} {x : Str} {ps : List Str} {k : Nat} {sp sp' : Sp} (G : Got P w K mg base x ps k sp) (h : ∀ vs H Q E, sp' vs H Q E → sp vs H Q E) : Got P w K mg base x ps k sp' := by
  obtain ⟨f, fd, h1, h2⟩ := G.ex
  exact ⟨f, fd, h1.imp h, h2⟩
def spAhead (K : PySem.W.Frag) : Sp := fun vs H Q _ => ∃ (v u : V) (l k : Lad), vs = [v, u] ∧ LA K H v l ∧ LA K H u k ∧ l.deep ≤ 29 ∧ k.deep ≤ 29 ∧ l.parts ≤ 1000 ∧ k.parts ≤ 1000 ∧ Q (.int (Lad.alh l k : Nat)) H
def spPower (K : PySem.W.Frag) : Sp := fun vs H Q _ => ∃ (v : V) (l : Lad), vs = [v] ∧ LA K H v l ∧ ∀ (x : V) (H' : Hp), SB [] H H' → LA K H' x (.cons l 1 .nil) → Q x H'
def spAllT (K : PySem.W.Frag) : Sp := fun vs H Q _ => ∃ (a : Addr) (xs : List V) (ls : List Lad), vs = [.ref a] ∧ SqL K H a xs ∧ Bears K H Lad.enc xs ls ∧ (∀ l ∈ ls, l.deep ≤ 25) ∧ (ls.flatMap Lad.ps).length ≤ 900 ∧ ∀ (x : V) (H' : Hp), SB [] H H' → LA K H' x (Lad.bths ls) → Q x H'
end FT
namespace FT
open PySem PySem.W PySem.Spec PyProof.Rows L2
namespace Lad
section
variable {B C D : Int}
abbrev uno : Lad := .cons .nil 1 .nil
theorem num_one : Lad.num 1 = uno := if_neg (by decide)
theorem uno_ok : uno.Ok 2 := ⟨trivial, by decide, by decide, trivial, by simp [ps]⟩
theorem S_uno (e x : Lad) : S (.cons e 1 .nil) x = if e = x then 1 else 0 := by
  show sumAt ((e, 1) :: []) x = _
  rw [sumAt_cons, sumAt_nil, Int.add_zero]
theorem S_suc (e x : Lad) : S (bhd e uno) x = S e x + if Lad.nil = x then 1 else 0 := by
  rw [S_bhd uno_ok, S_uno]
  have : cov uno x = true := by simp [cov, ps, lt_nil_r]
  rw [if_pos this]
theorem suc_lt {e : Lad} (he : e.Ok B) (hB : 1 ≤ B) : e.lt (bhd e uno) = true := by
  rw [lt_iff he (bhd_ok he uno_ok hB (by decide))]
  refine ⟨.nil, ?_, fun y hy => ?_⟩
  · rw [S_suc, if_pos rfl]; omega
  · rw [S_suc, if_neg (lt_ne hy), Int.add_zero]
theorem suc_least {e y : Lad} (he : e.Ok B) (hy : y.Ok C) (hB : 1 ≤ B) (h : e.lt y = true) : bhd e uno = y ∨ (bhd e uno).lt y = true := by
  have ho := bhd_ok he uno_ok hB (by decide)
  obtain ⟨x, hx, hup⟩ := (lt_iff he hy).mp h
  by_cases hn : x = .nil
  · subst hn
    have hz : ∀ z, Lad.nil ≠ z → S e z = S y z := fun z hz => hup z (nil_le z fun q => hz q.symm)
    by_cases hq : S e .nil + 1 = S y .nil
    · left
      refine ext ho hy fun z => ?_
      rw [S_suc]
      by_cases z0 : Lad.nil = z
      · subst z0; rw [if_pos rfl]; exact hq
      · rw [if_neg z0, Int.add_zero]; exact hz z z0
    · right
      rw [lt_iff ho hy]
      refine ⟨.nil, ?_, fun z hz' => ?_⟩
      · rw [S_suc, if_pos rfl]; omega
      · rw [S_suc, if_neg (lt_ne hz'), Int.add_zero]; exact hz z (lt_ne hz')
  · right
    rw [lt_iff ho hy]
    refine ⟨x, ?_, fun z hz => ?_⟩
    · rw [S_suc, if_neg (fun h => hn h.symm), Int.add_zero]; exact hx
    · have : Lad.nil ≠ z := fun h => by subst h; rw [lt_nil_r] at hz; cases hz
      rw [S_suc, if_neg this, Int.add_zero]; exact hup z hz
theorem sumAt_filter (e x : Lad) : ∀ bs : List (Lad × Int), sumAt (bs.filter fun p => e.lt p.1) x = if e.lt x = true then sumAt bs x else 0
  | [] => by simp [sumAt_nil]
  | (a, m) :: r => by
    have ih := sumAt_filter e x r
    rw [List.filter_cons]
    by_cases h : e.lt a = true
    · rw [if_pos h, sumAt_cons, sumAt_cons, ih]
      by_cases hx : e.lt x = true
      · rw [if_pos hx, if_pos hx]
      · have : a ≠ x := fun z => hx (z ▸ h)
        rw [if_neg hx, if_neg hx, if_neg this]; rfl
    · rw [if_neg h, ih, sumAt_cons]
      by_cases hx : e.lt x = true
      · have : a ≠ x := fun z => h (z ▸ hx)
        rw [if_pos hx, if_pos hx, if_neg this, Int.zero_add]
      · rw [if_neg hx, if_neg hx]
theorem filter_ok {l : Lad} (h : l.Ok B) (g : Lad × Int → Bool) : (ofPs (l.ps.filter g)).Ok B := by
  have := ok_iff.mp h
  rw [ok_ps]
  exact ⟨fun p hp => this.1 p (List.mem_filter.mp hp).1, this.2.filter _⟩
theorem filter_parts (l : Lad) (g : Lad × Int → Bool) : (ofPs (l.ps.filter g)).parts ≤ l.parts := by
  have h := tot_filter g l.ps
  rw [parts_ofPs]
  have h2 : tot l.ps = l.parts := by rw [← parts_ofPs, ofPs_ps]
  omega
theorem filter_deep {n : Nat} {l : Lad} (g : Lad × Int → Bool) (h : l.deep ≤ n) : (ofPs (l.ps.filter g)).deep ≤ n :=
  deep_ofPs fun b hb => Nat.lt_of_lt_of_le (mem_deep l b (List.mem_filter.mp hb).1) h
/-! ## above one ladder and each of another -/
def abv (l : Lad) : Lad → Lad
  | .nil => bth l uno
  | .cons e _ _ => bth (ofPs (l.ps.filter fun p => e.lt p.1)) (.cons (bhd e uno) 1 .nil)
theorem pow_ok {e : Lad} (h : e.Ok B) (hB : 2 ≤ B) : (Lad.cons e 1 .nil).Ok B := ⟨h, by decide, by omega, trivial, by simp [ps]⟩
theorem abv_ok {l k : Lad} (hl : l.Ok B) (hk : k.Ok C) (hB : 1 ≤ B) (hC : 1 ≤ C) : (abv l k).Ok (B + (C + 2)) := by
  cases k with
  | nil => exact (bth_ok hl uno_ok hB (by decide)).mono (by omega)
  | cons e m r => exact bth_ok (filter_ok hl _) (pow_ok (bhd_ok hk.1 uno_ok hC (by decide)) (by omega)) hB (by omega)
theorem abv_parts (l k : Lad) : (abv l k).parts ≤ l.parts + k.parts + 2 := by
  cases k with
  | nil => have := bth_parts l uno; show (bth l uno).parts ≤ _; have h1 : uno.parts = 1 := rfl; omega
  | cons e m r =>
    have h1 := bth_parts (ofPs (l.ps.filter fun p => e.lt p.1)) (.cons (bhd e uno) 1 .nil)
    have h2 := filter_parts l fun p => e.lt p.1
    have h3 := bhd_parts e uno
    have h4 : (Lad.cons (bhd e uno) 1 .nil).parts = 1 + (bhd e uno).parts + 0 := rfl
    have h5 : (Lad.cons e m r).parts = 1 + e.parts + r.parts := rfl
    have h6 : uno.parts = 1 := rfl
    show (bth _ _).parts ≤ _
    omega
theorem abv_deep {n : Nat} {l k : Lad} (hl : l.deep ≤ n) (hk : k.deep ≤ n) (hn : 2 ≤ n) : (abv l k).deep ≤ n := by
  cases k with
  | nil => exact bth_deep hl (by show 1 ≤ n; omega)
  | cons e m r =>
    refine bth_deep (filter_deep _ hl) ?_
    have h1 : 1 + e.deep ≤ n := Nat.le_trans (Nat.le_max_left _ _) hk
    have h2 := bhd_deep (n := n - 1) (l := e) (k := uno) (by omega) (by show 1 ≤ n - 1; omega)
    show max (1 + (bhd e uno).deep) 0 ≤ n
    omega
theorem S_abv (l e : Lad) (m : Int) (r x : Lad) : S (abv l (.cons e m r)) x = (if e.lt x = true then S l x else 0) + if bhd e uno = x then 1 else 0 := by
  show S (bth _ _) x = _
  rw [S_bth, S_uno]
  show sumAt (ofPs _).ps x + _ = _
  rw [ps_ofPs, sumAt_filter]
theorem btm_ok {l k : Lad} {n : Int} (hl : l.Ok B) (hk : k.Ok C) (hB : 1 ≤ B) (hC : 1 ≤ C) (hn : 0 ≤ n) : (bth l (tms k n)).Ok (B + (C * n + C)) := by
  have : 0 ≤ C * n := Int.mul_nonneg (by omega) hn
  exact bth_ok hl (tms_ok hk hn) hB (by omega)
theorem S_btm (l k x : Lad) (n : Int) : S (bth l (tms k n)) x = S l x + S k x * n := by rw [S_bth, S_tms]
theorem abv_gt {l k : Lad} {n : Int} (hl : l.Ok B) (hk : k.Ok C) (hB : 1 ≤ B) (hC : 1 ≤ C) (hn : 0 ≤ n) : (bth l (tms k n)).lt (abv l k) = true := by
  rw [lt_iff (btm_ok hl hk hB hC hn) (abv_ok hl hk hB hC)]
  cases k with
  | nil =>
    have e0 : ∀ x, S Lad.nil x = 0 := fun x => rfl
    refine ⟨.nil, ?_, fun y hy => ?_⟩
    · rw [S_btm]
      show _ < S (bth l uno) .nil
      rw [S_bth, S_uno, if_pos rfl, e0, Int.zero_mul]; omega
    · rw [S_btm]
      show _ = S (bth l uno) y
      rw [S_bth, S_uno, if_neg (lt_ne hy), e0, Int.zero_mul]
  | cons e m r =>
    have hes := suc_lt hk.1 hC
    refine ⟨bhd e uno, ?_, fun y hy => ?_⟩
    · rw [S_btm, S_abv, if_pos hes, if_pos rfl, S_above hk hes, Int.zero_mul]; omega
    · have hy2 := lt_trans _ _ _ hes hy
      rw [S_btm, S_abv, if_pos hy2, if_neg (lt_ne hy), S_above hk hy2, Int.zero_mul]
/-- so many are enough to reach a lesser ladder -/
def eno : Lad → Lad → Int
  | .nil, _ => 0
  | .cons e _ _, t => 1 + S t e
theorem eno_nonneg {k t : Lad} (ht : t.Ok D) : 0 ≤ eno k t := by
  cases k with
  | nil => exact Int.le_refl _
  | cons e m r => have := S_nonneg ht e; show 0 ≤ 1 + S t e; omega
theorem eno_le {k t : Lad} (ht : t.Ok D) (hD : 0 ≤ D) : eno k t ≤ 1 + D := by
  cases k with
  | nil => show (0 : Int) ≤ _; omega
  | cons e m r => have := ok_pos ht hD e; show 1 + S t e ≤ _; omega
theorem abv_least {l k t : Lad} (hl : l.Ok B) (hk : k.Ok C) (ht : t.Ok D) (hB : 1 ≤ B) (hC : 1 ≤ C) (h : t.lt (abv l k) = true) : (bth l (tms k (eno k t))).lt t = false := by
  cases k with
  | nil =>
    rw [show eno .nil t = 0 from rfl, show tms .nil 0 = .nil from if_pos rfl, bth_nil hl]
    cases hlt : l.lt t with
    | false => rfl
    | true =>
      exfalso
      have e : abv l .nil = bhd l uno := ext (bth_ok hl uno_ok hB (by decide)) (bhd_ok hl uno_ok hB (by decide)) fun x => by
        show S (bth l uno) x = _
        rw [S_bth, S_suc, S_uno]
      rw [e] at h
      rcases suc_least hl ht hB hlt with h1 | h1
      · rw [h1, lt_irrefl] at h; cases h
      · rw [lt_asymm h1] at h; cases h
  | cons e m r =>
    have he : e.Ok C := hk.1
    have hN := eno_nonneg (k := .cons e m r) ht
    have hU := btm_ok (n := eno (.cons e m r) t) hl hk hB hC hN
    have hes : e.lt (bhd e uno) = true := suc_lt he hC
    have Ua : ∀ y, e.lt y = true → S (bth l (tms (.cons e m r) (eno (.cons e m r) t))) y = S l y := fun y hy => by
      rw [S_btm, S_above hk hy, Int.zero_mul, Int.add_zero]
    refine le_iff hU ht fun hlt => ?_
    obtain ⟨x, hx, hup⟩ := (lt_iff ht (abv_ok hl hk hB hC)).mp h
    have up2 : ∀ y, (x = y ∨ x.lt y = true) → (bhd e uno).lt y = true → x.lt y = true → S t y = S (bth l (tms (.cons e m r) (eno (.cons e m r) t))) y := fun y _ hsy hxy => by
      have h2 := lt_trans _ _ _ hes hsy
      rw [hup y hxy, S_abv, if_pos h2, if_neg (lt_ne hsy), Int.add_zero, Ua y h2]
    by_cases hxs : bhd e uno = x
    · subst hxs
      rw [S_abv, if_pos hes, if_pos rfl] at hx
      by_cases hq : S t (bhd e uno) < S l (bhd e uno)
      · exact LT'.asymm hlt ⟨bhd e uno, by rw [Ua _ hes]; exact hq, fun y hy => up2 y (.inr hy) hy hy⟩
      · refine LT'.asymm hlt ⟨e, ?_, fun y hy => ?_⟩
        · rw [S_btm, S_top hk]
          have h1 := S_nonneg hl e
          have h2 := S_nonneg ht e
          have h3 := hk.2.1
          show S t e < S l e + m * (1 + S t e)
          have h4 : 1 * (1 + S t e) ≤ m * (1 + S t e) := Int.mul_le_mul_of_nonneg_right h3 (by omega)
          omega
        · by_cases hys : bhd e uno = y
          · subst hys
            rw [Ua _ hes]; omega
          · have okc : (∃ E, y.Ok E) → S t y = S (bth l (tms (.cons e m r) (eno (.cons e m r) t))) y := fun ⟨E, hyo⟩ => by
              rcases suc_least he hyo hC hy with h1 | h1
              · exact absurd h1 hys
              · exact up2 y (.inr h1) h1 h1
            rcases S_cases ht y with ⟨z, _⟩ | ⟨mm, hm, _⟩
            · rcases S_cases hl y with ⟨z2, _⟩ | ⟨mm, hm, _⟩
              · rw [Ua y hy, z, z2]
              · exact okc ⟨_, ((ok_iff.mp hl).1 _ hm).1⟩
            · exact okc ⟨_, ((ok_iff.mp ht).1 _ hm).1⟩
    · by_cases hsx : (bhd e uno).lt x = true
      · have hex := lt_trans _ _ _ hes hsx
        rw [S_abv, if_pos hex, if_neg hxs, Int.add_zero] at hx
        exact LT'.asymm hlt ⟨x, by rw [Ua x hex]; exact hx, fun y hy => up2 y (.inr hy) (lt_trans _ _ _ hsx hy) hy⟩
      · have hx0 := S_nonneg ht x
        rw [S_abv, if_neg hxs, Int.add_zero] at hx
        by_cases hex : e.lt x = true
        · rw [if_pos hex] at hx
          rcases S_cases hl x with ⟨z, _⟩ | ⟨mm, hm, _⟩
          · omega
          · rcases suc_least he ((ok_iff.mp hl).1 _ hm).1 hC hex with h1 | h1
            · exact hxs h1
            · exact hsx h1
        · rw [if_neg hex] at hx; omega
/-! ## the spread of a ladder over another one -/
def spd : Lad → Lad → Lad
  | .cons e m r, .nil => .cons e m r
  | .nil, .nil => .nil
  | .nil, k => k
  | .cons e _ _, k => .cons (bhd e k) 1 .nil
end
end Lad
def spSpread (K : PySem.W.Frag) : Sp := fun vs H Q _ => ∃ (v u : V) (e : Lad) (m : Int) (r k : Lad), vs = [v, u] ∧ LA K H v (.cons e m r) ∧ LA K H u k ∧ (Lad.cons e m r).deep ≤ 30 ∧ k.deep ≤ 30 ∧ (Lad.cons e m r).parts ≤ 900 ∧ k.parts ≤ 900 ∧ ∀ (x : V) (H' : Hp), SB [] H H' → LA K H' x (Lad.spd (.cons e m r) k) → Q x H'
def spAbove (K : PySem.W.Frag) : Sp := fun vs H Q _ => ∃ (v u : V) (l k : Lad), vs = [v, u] ∧ LA K H v l ∧ LA K H u k ∧ l.deep ≤ 24 ∧ k.deep ≤ 24 ∧ l.parts ≤ 390 ∧ k.parts ≤ 390 ∧ ∀ (x : V) (H' : Hp), SB [] H H' → LA K H' x (l.abv k) → Q x H'
end FT
namespace FT
open PySem PySem.W PySem.Spec PyProof.Rows L2
/-! ## the order of data that are alike -/
theorem dl_irrefl (x : PyData) : dataLt x x = false := lex_irrefl (O := itemOrd) _
theorem dl_trans {x y z : PyData} (h : dataLt x y = true) (h2 : dataLt y z = true) : dataLt x z = true := lex_trans (O := itemOrd) _ _ _ h h2
theorem dl_total {x y : PyData} (al : alike x y = true) (h : dataLt x y = false) (h2 : dataLt y x = false) : PyData.eqv x y = true := by
  have e : keyToks x = keyToks y := lex_total (O := itemOrd) _ _ h h2
  cases hq : PyData.eqv x y with
  | true => rfl
  | false =>
    have t := (toks_eqv x y al).2 hq [.inl 0] [.inl 1]
    rw [e] at t
    have t2 : PyProof.Rows.lexLt itemOrd (keyToks y ++ [.inl 0]) (keyToks y ++ [.inl 1]) = PyProof.Rows.lexLt itemOrd [.inl 0] [.inl 1] := lex_pre _ _ _
    have t3 : PyProof.Rows.lexLt itemOrd (keyToks y) (keyToks y) = false := lex_irrefl (O := itemOrd) _
    rw [t2, t3, lex_one] at t
    revert t
    decide
theorem dl_asymm {x y : PyData} (h : dataLt x y = true) : dataLt y x = false := by
  cases e : dataLt y x with
  | false => rfl
  | true => have := dl_trans h e; rw [dl_irrefl] at this; cases this
/-- things whose data are alike and like only where they are the same -/
class Orderly {γ : Type} [DecidableEq γ] (enc : γ → PyData) : Prop where
  al : ∀ a b, alike (enc a) (enc b) = true
  eq : ∀ a b, PyData.eqv (enc a) (enc b) = decide (a = b)
section
variable {γ : Type} [DecidableEq γ] {enc : γ → PyData} [O : Orderly enc]
theorem ol_tri {a b : γ} (hne : a ≠ b) (h : dataLt (enc a) (enc b) = false) : dataLt (enc b) (enc a) = true := by
  cases e : dataLt (enc b) (enc a) with
  | true => rfl
  | false =>
    have := dl_total (O.al a b) h e
    rw [O.eq] at this
    exact absurd (of_decide_eq_true this) hne
theorem ol_ne {a b : γ} (h : dataLt (enc a) (enc b) = true) : a ≠ b := fun z => by subst z; rw [dl_irrefl] at h; cases h
instance : Orderly (pairE enc) where
  al a b := by simp [pairE, alike, alikeAll, O.al a.1 b.1]
  eq a b := by
    simp only [pairE, PyData.eqv, PyData.eqvAll, O.eq, Bool.and_true, ib]
    by_cases h : a = b
    · subst h; simp
    · rw [decide_eq_false h]
      rw [Bool.and_eq_false_iff]
      by_cases h1 : a.1 = b.1
      · exact .inr (decide_eq_false fun h2 => h (Prod.ext h1 h2))
      · exact .inl (decide_eq_false h1)
theorem pairE_lt (p q : γ × Int) : dataLt (pairE enc p) (pairE enc q) = if p.1 = q.1 then decide (p.2 < q.2) else dataLt (enc p.1) (enc q.1) := by
  unfold pairE
  rw [dataLt_pair (O.al p.1 q.1) (by simp [alike]), O.eq]
  by_cases h : p.1 = q.1
  · rw [if_pos (by simp [h]), if_pos h, dataLt_int]
    by_cases h2 : p.2 = q.2
    · simp [PyData.eqv, h2]
    · simp [PyData.eqv, h2]
  · rw [if_neg (by simp [h]), if_neg h]
/-- in order -/
def srtE (enc : γ → PyData) (bs : List γ) : List γ := bs.mergeSort (dataLe false enc)
theorem srtE_perm (bs : List γ) : (srtE enc bs).Perm bs := List.mergeSort_perm _ _
theorem srtE_le (bs : List γ) : (srtE enc bs).Pairwise (fun a b => dataLt (enc b) (enc a) = false) := by
  have h := List.pairwise_mergeSort (le := dataLe false enc) (fun a b c h1 h2 => ?_) (fun a b => ?_) bs
  · refine h.imp fun {a b} hab => ?_
    rw [dataLe_eq] at hab
    simpa using hab
  · rw [dataLe_eq] at h1 h2 ⊢
    simp only [cond_false, Bool.not_eq_true'] at h1 h2 ⊢
    by_cases hab : a = b
    · subst hab; exact h2
    · by_cases hbc : b = c
      · subst hbc; exact h1
      · exact dl_asymm (dl_trans (ol_tri (fun z => hab z.symm) h1) (ol_tri (fun z => hbc z.symm) h2))
  · rw [dataLe_eq]
    simp only [cond_false]
    cases e : dataLt (enc b) (enc a) with
    | false => rfl
    | true => rw [dl_asymm e]; rfl
/-- two rows of the same things in order are the same -/
theorem rises_one : ∀ {as bs : List γ}, as.Perm bs → as.Pairwise (fun a b => dataLt (enc b) (enc a) = false) → bs.Pairwise (fun a b => dataLt (enc b) (enc a) = false) → as = bs
  | [], bs, h, _, _ => (List.Perm.nil_eq h)
  | a :: as, [], h, _, _ => absurd h.symm (List.not_perm_nil_cons _ _)
  | a :: as, b :: bs, h, h1, h2 => by
    have hab : a = b := by
      have ha : a ∈ b :: bs := h.mem_iff.mp (List.mem_cons_self ..)
      have hb : b ∈ a :: as := h.mem_iff.mpr (List.mem_cons_self ..)
      rcases List.mem_cons.mp ha with ha | ha
      · exact ha
      · rcases List.mem_cons.mp hb with hb | hb
        · exact hb.symm
        · have e1 := (List.pairwise_cons.mp h1).1 b hb
          have e2 := (List.pairwise_cons.mp h2).1 a ha
          by_cases hq : a = b
          · exact hq
          · exact absurd (ol_tri hq e2) (by rw [e1]; exact Bool.false_ne_true)
    subst hab
    rw [rises_one (List.Perm.cons_inv h) (List.pairwise_cons.mp h1).2 (List.pairwise_cons.mp h2).2]
theorem srtE_of {cs bs : List γ} (hp : cs.Perm bs) (hs : cs.Pairwise (fun a b => dataLt (enc b) (enc a) = false)) : cs = srtE enc bs := rises_one (hp.trans (srtE_perm bs).symm) hs (srtE_le bs)
theorem srtE_swap {as bs : List γ} (h : as.Perm bs) : srtE enc as = srtE enc bs := srtE_of ((srtE_perm as).trans h) (srtE_le as)
/-- how many of a thing -/
def sumE (ps : List (γ × Int)) (x : γ) : Int := match ps with
  | [] => 0
  | p :: r => (if p.1 = x then p.2 else 0) + sumE r x
theorem sumE_append (x : γ) : ∀ (as bs : List (γ × Int)), sumE (as ++ bs) x = sumE as x + sumE bs x
  | [], bs => by simp [sumE]
  | p :: r, bs => by show _ + sumE (r ++ bs) x = _; rw [sumE_append x r bs, sumE]; omega
theorem sumE_perm {as bs : List (γ × Int)} (h : as.Perm bs) (x : γ) : sumE as x = sumE bs x := by
  induction h with
  | nil => rfl
  | cons y _ ih => simp only [sumE]; omega
  | swap y z l => simp only [sumE]; omega
  | trans _ _ h1 h2 => omega
theorem sumE_jstep (acc : List (γ × Int)) (p : γ × Int) (x : γ) : sumE (jstep acc p) x = sumE acc x + (if p.1 = x then p.2 else 0) := by
  rcases List.eq_nil_or_concat acc with h | ⟨a, z, h⟩
  · subst h; rw [jstep_nil]; simp [sumE]
  · subst h
    rw [List.concat_eq_append, jstep_snoc]
    by_cases hz : z.1 = p.1
    · rw [if_pos hz, sumE_append, sumE_append]
      simp only [sumE, hz]
      by_cases hx : p.1 = x
      · simp only [if_pos hx]; omega
      · simp only [if_neg hx]; omega
    · rw [if_neg hz, sumE_append]; simp only [sumE]; omega
theorem sumE_jn (bs : List (γ × Int)) (x : γ) : sumE (jn bs) x = sumE bs x := by
  have key : ∀ (bs acc : List (γ × Int)), sumE (bs.foldl jstep acc) x = sumE acc x + sumE bs x := by
    intro bs
    induction bs with
    | nil => intro acc; simp [sumE]
    | cons p r ih =>
      intro acc
      show sumE (r.foldl jstep (jstep acc p)) x = _
      rw [ih, sumE_jstep, sumE]; omega
  have := key bs []
  simpa [jn, sumE] using this
/-- keys that do not fall rise strictly when like ones are put together -/
theorem jn_rise {bs : List (γ × Int)} (h : bs.Pairwise (fun a b => dataLt (enc b.1) (enc a.1) = false)) : (jn bs).Pairwise (fun p q => dataLt (enc p.1) (enc q.1) = true) := by
  have key : ∀ (bs acc : List (γ × Int)), acc.Pairwise (fun p q => dataLt (enc p.1) (enc q.1) = true) → (∀ a ∈ acc, ∀ b ∈ bs, dataLt (enc b.1) (enc a.1) = false) → bs.Pairwise (fun a b => dataLt (enc b.1) (enc a.1) = false) → (bs.foldl jstep acc).Pairwise (fun p q => dataLt (enc p.1) (enc q.1) = true) := by
    intro bs
    induction bs with
    | nil => intro acc h _ _; exact h
    | cons p r ih =>
      intro acc h1 h2 h3
      obtain ⟨h31, h32⟩ := List.pairwise_cons.mp h3
      refine ih (jstep acc p) ?_ ?_ h32
      · rcases List.eq_nil_or_concat acc with h | ⟨a, z, h⟩
        · subst h; rw [jstep_nil]; exact List.pairwise_singleton _ _
        · subst h
          rw [List.concat_eq_append] at h1 h2 ⊢
          rw [jstep_snoc]
          obtain ⟨a1, _, a3⟩ := List.pairwise_append.mp h1
          by_cases hz : z.1 = p.1
          · rw [if_pos hz, List.pairwise_append]
            refine ⟨a1, List.pairwise_singleton _ _, fun x hx y hy => ?_⟩
            have hy' : y = (p.1, z.2 + p.2) := by simpa using hy
            subst hy'
            show dataLt (enc x.1) (enc p.1) = true
            rw [← hz]; exact a3 x hx z (by simp)
          · rw [if_neg hz, List.pairwise_append]
            refine ⟨h1, List.pairwise_singleton _ _, fun x hx y hy => ?_⟩
            have hy' : y = p := by simpa using hy
            subst hy'
            have hzp : dataLt (enc z.1) (enc y.1) = true := ol_tri (fun q => hz q.symm) (h2 z (by simp) y (List.mem_cons_self ..))
            rcases List.mem_append.mp hx with hx | hx
            · exact dl_trans (a3 x hx z (by simp)) hzp
            · have hx' : x = z := by simpa using hx
              subst hx'; exact hzp
      · intro a ha b hb
        have hpb := h31 b hb
        rcases List.eq_nil_or_concat acc with h | ⟨c, z, h⟩
        · subst h
          rw [jstep_nil] at ha
          have : a = p := by simpa using ha
          subst this; exact hpb
        · subst h
          rw [List.concat_eq_append] at ha h2
          rw [jstep_snoc] at ha
          by_cases hz : z.1 = p.1
          · rw [if_pos hz] at ha
            rcases List.mem_append.mp ha with ha | ha
            · exact h2 a (List.mem_append_left _ ha) b (List.mem_cons_of_mem _ hb)
            · have : a = (p.1, z.2 + p.2) := by simpa using ha
              subst this; exact hpb
          · rw [if_neg hz] at ha
            rcases List.mem_append.mp ha with ha | ha
            · exact h2 a ha b (List.mem_cons_of_mem _ hb)
            · have : a = p := by simpa using ha
              subst this; exact hpb
  exact key bs [] List.Pairwise.nil (by simp) h
theorem srt_keys (bs : List (γ × Int)) : (srtE (pairE enc) bs).Pairwise (fun a b => dataLt (enc b.1) (enc a.1) = false) := by
  refine (srtE_le (enc := pairE enc) bs).imp fun {a b} hab => ?_
  rw [pairE_lt] at hab
  by_cases h : b.1 = a.1
  · rw [h]; exact dl_irrefl _
  · rw [if_neg h] at hab; exact hab
/-- put in order, like ones together -/
def tdy (enc : γ → PyData) (bs : List (γ × Int)) : List (γ × Int) := jn (srtE (pairE enc) bs)
theorem tdy_rise (bs : List (γ × Int)) : (tdy enc bs).Pairwise (fun p q => dataLt (enc p.1) (enc q.1) = true) := jn_rise (srt_keys bs)
theorem tdy_sum (bs : List (γ × Int)) (x : γ) : sumE (tdy enc bs) x = sumE bs x := by
  unfold tdy
  rw [sumE_jn, sumE_perm (srtE_perm bs)]
theorem tdy_keys (bs : List (γ × Int)) : ∀ p ∈ tdy enc bs, ∃ q ∈ bs, q.1 = p.1 := fun p hp => by
  obtain ⟨q, hq, e⟩ := jn_keys _ p hp
  exact ⟨q, (srtE_perm bs).mem_iff.mp hq, e⟩
theorem tdy_perm {as bs : List (γ × Int)} (h : as.Perm bs) : tdy enc as = tdy enc bs := by unfold tdy; rw [srtE_swap h]
/-- how many in all -/
def allE : List (γ × Int) → Int
  | [] => 0
  | p :: r => p.2 + allE r
theorem allE_append : ∀ as bs : List (γ × Int), allE (as ++ bs) = allE as + allE bs
  | [], bs => by simp [allE]
  | p :: r, bs => by show _ + allE (r ++ bs) = _; rw [allE_append r bs, allE]; omega
theorem allE_perm {as bs : List (γ × Int)} (h : as.Perm bs) : allE as = allE bs := by
  induction h with
  | nil => rfl
  | cons y _ ih => simp only [allE]; omega
  | swap y z l => simp only [allE]; omega
  | trans _ _ h1 h2 => omega
theorem jn_all (bs : List (γ × Int)) : allE (jn bs) = allE bs := by
  have key : ∀ (bs acc : List (γ × Int)), allE (bs.foldl jstep acc) = allE acc + allE bs := by
    intro bs
    induction bs with
    | nil => intro acc; simp [allE]
    | cons p r ih =>
      intro acc
      show allE (r.foldl jstep (jstep acc p)) = _
      rw [ih]
      have e : allE (jstep acc p) = allE acc + p.2 := by
        rcases List.eq_nil_or_concat acc with h | ⟨a, z, h⟩
        · subst h; rw [jstep_nil]; simp [allE]
        · subst h
          rw [List.concat_eq_append, jstep_snoc]
          split
          · rw [allE_append, allE_append]; simp only [allE]; omega
          · rw [allE_append]; simp only [allE]; omega
      rw [e, allE]; omega
  have := key bs []
  simpa [jn, allE] using this
theorem jn_pos {bs : List (γ × Int)} (h : ∀ p ∈ bs, 1 ≤ p.2) : ∀ p ∈ jn bs, 1 ≤ p.2 := by
  have key : ∀ (bs acc : List (γ × Int)), (∀ p ∈ acc, 1 ≤ p.2) → (∀ p ∈ bs, 1 ≤ p.2) → ∀ p ∈ bs.foldl jstep acc, 1 ≤ p.2 := by
    intro bs
    induction bs with
    | nil => intro acc h _; exact h
    | cons p r ih =>
      intro acc h1 h2
      refine ih (jstep acc p) (fun q hq => ?_) fun q hq => h2 q (List.mem_cons_of_mem _ hq)
      have hp := h2 p (List.mem_cons_self ..)
      rcases List.eq_nil_or_concat acc with h | ⟨a, z, h⟩
      · subst h
        rw [jstep_nil] at hq
        have : q = p := by simpa using hq
        subst this; exact hp
      · subst h
        rw [List.concat_eq_append] at h1 hq
        rw [jstep_snoc] at hq
        have hz := h1 z (by simp)
        by_cases e : z.1 = p.1
        · rw [if_pos e] at hq
          rcases List.mem_append.mp hq with hq | hq
          · exact h1 q (List.mem_append_left _ hq)
          · have : q = (p.1, z.2 + p.2) := by simpa using hq
            subst this; show 1 ≤ z.2 + p.2; omega
        · rw [if_neg e] at hq
          rcases List.mem_append.mp hq with hq | hq
          · exact h1 q hq
          · have : q = p := by simpa using hq
            subst this; exact hp
  exact key bs [] (by simp) h
theorem le_all {bs : List (γ × Int)} (h : ∀ p ∈ bs, 1 ≤ p.2) : ∀ p ∈ bs, p.2 ≤ allE bs := by
  induction bs with
  | nil => intro p hp; cases hp
  | cons a r ih =>
    intro p hp
    have hr : 0 ≤ allE r := by
      clear ih hp
      have : ∀ p ∈ r, 1 ≤ p.2 := fun p hp => h p (List.mem_cons_of_mem _ hp)
      clear h
      induction r with
      | nil => exact Int.le_refl _
      | cons b r ih2 =>
        have h1 := this b (List.mem_cons_self ..)
        have h2 := ih2 fun p hp => this p (List.mem_cons_of_mem _ hp)
        show 0 ≤ b.2 + allE r; omega
    have ha := h a (List.mem_cons_self ..)
    rcases List.mem_cons.mp hp with hp | hp
    · subst hp; show p.2 ≤ p.2 + allE r; omega
    · have := ih (fun p hp => h p (List.mem_cons_of_mem _ hp)) p hp
      show p.2 ≤ a.2 + allE r; omega
theorem all_le {bs : List (γ × Int)} {C : Int} (h : ∀ p ∈ bs, p.2 ≤ C) : allE bs ≤ bs.length * C := by
  induction bs with
  | nil => simp [allE]
  | cons a r ih =>
    have h1 := h a (List.mem_cons_self ..)
    have h2 := ih fun p hp => h p (List.mem_cons_of_mem _ hp)
    show a.2 + allE r ≤ ((r.length + 1 : Nat) : Int) * C
    rw [Int.natCast_add, Int.add_mul]
    simp only [Int.natCast_one, Int.one_mul]
    omega
theorem tdy_pos {bs : List (γ × Int)} (h : ∀ p ∈ bs, 1 ≤ p.2) : ∀ p ∈ tdy enc bs, 1 ≤ p.2 ∧ p.2 ≤ allE bs := fun p hp => by
  have h0 : ∀ p ∈ srtE (pairE enc) bs, 1 ≤ p.2 := fun p hp => h p ((srtE_perm bs).mem_iff.mp hp)
  have h1 := jn_pos h0
  refine ⟨h1 p hp, ?_⟩
  have h2 := le_all h1 p hp
  rw [jn_all, allE_perm (srtE_perm bs)] at h2
  exact h2
end
end FT
namespace FT
open PySem PySem.W PySem.Spec PyProof.Rows L2
/-! ## groves -/
inductive Gr where
  | nil
  | cons (k : Str) (g : Gr) (m : Int) (r : Gr)
  deriving DecidableEq
abbrev Tr := Str × Gr
/-- a name: one to eight small letters -/
def NameOk (k : Str) : Prop := 1 ≤ k.cps.toList.length ∧ k.cps.toList.length ≤ 8 ∧ ∀ c ∈ k.cps.toList, 97 ≤ c ∧ c ≤ 122
namespace Gr
def encs : Gr → List PyData
  | .nil => []
  | .cons k g m r => .tuple [.tuple [.str k, .tuple g.encs], .int m] :: r.encs
def enc (g : Gr) : PyData := .tuple g.encs
def tEnc (t : Tr) : PyData := .tuple [.str t.1, t.2.enc]
abbrev pEnc : Tr × Int → PyData := pairE tEnc
def ps : Gr → List (Tr × Int)
  | .nil => []
  | .cons k g m r => ((k, g), m) :: r.ps
def ofPs : List (Tr × Int) → Gr
  | [] => .nil
  | p :: r => .cons p.1.1 p.1.2 p.2 (ofPs r)
theorem ofPs_ps : ∀ g : Gr, ofPs g.ps = g
  | .nil => rfl
  | .cons k g m r => by show Gr.cons k g m (ofPs r.ps) = _; rw [ofPs_ps r]
theorem ps_ofPs : ∀ bs : List (Tr × Int), (ofPs bs).ps = bs
  | [] => rfl
  | p :: r => by show ((p.1.1, p.1.2), p.2) :: (ofPs r).ps = _; rw [ps_ofPs r]
theorem encs_ps : ∀ g : Gr, g.encs = g.ps.map pEnc
  | .nil => rfl
  | .cons k g m r => by show _ :: r.encs = _ :: r.ps.map pEnc; rw [encs_ps r]; rfl
def parts : Gr → Nat
  | .nil => 0
  | .cons _ g _ r => 1 + g.parts + r.parts
def deep : Gr → Nat
  | .nil => 0
  | .cons _ g _ r => max (1 + g.deep) r.deep
def size : Gr → Int
  | .nil => 0
  | .cons _ g m r => m * (1 + g.size) + r.size
def tot : List (Tr × Int) → Nat
  | [] => 0
  | p :: r => 1 + p.1.2.parts + tot r
theorem parts_ofPs : ∀ bs : List (Tr × Int), (ofPs bs).parts = tot bs
  | [] => rfl
  | p :: r => by show 1 + p.1.2.parts + (ofPs r).parts = 1 + p.1.2.parts + tot r; rw [parts_ofPs r]
theorem tot_ps (g : Gr) : tot g.ps = g.parts := by rw [← parts_ofPs, ofPs_ps]
theorem tot_append : ∀ bs cs : List (Tr × Int), tot (bs ++ cs) = tot bs + tot cs
  | [], cs => by simp [tot]
  | p :: r, cs => by show 1 + p.1.2.parts + tot (r ++ cs) = _; rw [tot_append r cs, tot]; omega
theorem tot_perm {bs cs : List (Tr × Int)} (h : bs.Perm cs) : tot bs = tot cs := by
  induction h with
  | nil => rfl
  | cons x _ ih => simp only [tot]; omega
  | swap x y l => simp only [tot]; omega
  | trans _ _ h1 h2 => omega
theorem len_tot : ∀ bs : List (Tr × Int), bs.length ≤ tot bs
  | [] => Nat.le_refl _
  | p :: r => by have := len_tot r; show r.length + 1 ≤ 1 + p.1.2.parts + tot r; omega
theorem tot_jn (bs : List (Tr × Int)) : tot (jn bs) ≤ tot bs := by
  have key : ∀ (bs acc : List (Tr × Int)), tot (bs.foldl jstep acc) ≤ tot acc + tot bs := by
    intro bs
    induction bs with
    | nil => intro acc; simp [tot]
    | cons x r ih =>
      intro acc
      have h1 := ih (jstep acc x)
      have h2 : tot (jstep acc x) ≤ tot acc + (1 + x.1.2.parts) := by
        rcases List.eq_nil_or_concat acc with h | ⟨a, z, h⟩
        · subst h; simp [jstep_nil, tot]
        · subst h
          rw [List.concat_eq_append, jstep_snoc]
          by_cases hz : z.1 = x.1
          · rw [if_pos hz, tot_append, tot_append]; simp only [tot]; rw [hz]; omega
          · rw [if_neg hz, tot_append, tot_append]; simp only [tot]; omega
      show tot (r.foldl jstep (jstep acc x)) ≤ tot acc + (1 + x.1.2.parts + tot r)
      omega
  have := key bs []
  simpa [jn, tot] using this
theorem mem_deep : ∀ (g : Gr) (p : Tr × Int), p ∈ g.ps → p.1.2.deep < g.deep
  | .nil, p, h => by cases h
  | .cons k g m r, p, h => by
    rcases List.mem_cons.mp h with h | h
    · subst h; show g.deep < max (1 + g.deep) r.deep; omega
    · have := mem_deep r p h; show _ < max (1 + g.deep) r.deep; omega
theorem mem_parts : ∀ (g : Gr) (p : Tr × Int), p ∈ g.ps → p.1.2.parts < g.parts
  | .nil, p, h => by cases h
  | .cons k g m r, p, h => by
    rcases List.mem_cons.mp h with h | h
    · subst h; show g.parts < 1 + g.parts + r.parts; omega
    · have := mem_parts r p h; show _ < 1 + g.parts + r.parts; omega
theorem deep_le {n : Nat} : ∀ {g : Gr}, (∀ p ∈ g.ps, p.1.2.deep < n) → g.deep ≤ n
  | .nil, _ => Nat.zero_le _
  | .cons k g m r, h => by
    have h1 := h ((k, g), m) (List.mem_cons_self ..)
    have h2 := deep_le (g := r) fun p hp => h p (List.mem_cons_of_mem _ hp)
    show max (1 + g.deep) r.deep ≤ n
    have : g.deep < n := h1
    omega
theorem len_parts (g : Gr) : g.ps.length ≤ g.parts := by have := len_tot g.ps; rw [tot_ps] at this; exact this
theorem alikes : ∀ g h : Gr, alikeAll g.encs h.encs = true
  | .nil, _ => by simp [encs, alikeAll]
  | .cons _ _ _ _, .nil => by simp [encs, alikeAll]
  | .cons k g m r, .cons k' g' m' r' => by
    have h1 := alikes g g'
    have h2 := alikes r r'
    simp [encs, alikeAll, alike, h1, h2]
theorem alike_enc (g h : Gr) : alike g.enc h.enc = true := by
  show alike (.tuple g.encs) (.tuple h.encs) = true
  rw [alike]; exact alikes g h
theorem sb (a b : Str) : (a == b) = decide (a = b) := by by_cases h : a = b <;> simp [h]
theorem eqvs : ∀ g h : Gr, PyData.eqvAll g.encs h.encs = decide (g = h)
  | .nil, .nil => by simp [encs, PyData.eqvAll]
  | .nil, .cons _ _ _ _ => by simp [encs, PyData.eqvAll]
  | .cons _ _ _ _, .nil => by simp [encs, PyData.eqvAll]
  | .cons k g m r, .cons k' g' m' r' => by
    have h1 := eqvs g g'
    have h2 := eqvs r r'
    simp [encs, PyData.eqvAll, PyData.eqv, h1, h2, Bool.and_assoc, ib, sb]
theorem eqv_enc (g h : Gr) : PyData.eqv g.enc h.enc = decide (g = h) := by
  rw [enc, enc, PyData.eqv]; exact eqvs g h
instance : Orderly tEnc where
  al a b := by simp [tEnc, alike, alikeAll, alike_enc]
  eq a b := by
    simp only [tEnc, PyData.eqv, PyData.eqvAll, eqv_enc, Bool.and_true, sb]
    by_cases h : a = b
    · subst h; simp
    · rw [decide_eq_false h, Bool.and_eq_false_iff]
      by_cases h1 : a.1 = b.1
      · exact .inr (decide_eq_false fun h2 => h (Prod.ext h1 h2))
      · exact .inl (decide_eq_false h1)
theorem noLists_encs : ∀ g : Gr, noLists g.encs = true
  | .nil => by simp [encs, noLists]
  | .cons k g m r => by simp [encs, noLists, noList, noLists_encs g, noLists_encs r]
theorem noList_enc (g : Gr) : noList g.enc = true := by simp [enc, noList, noLists_encs g]
theorem noList_tEnc (t : Tr) : noList (tEnc t) = true := by simp [tEnc, noList, noLists, noList_enc]
theorem noList_pEnc (p : Tr × Int) : noList (pEnc p) = true := by simp [pEnc, pairE, noList, noLists, noList_tEnc]
theorem encs_depth : ∀ g : Gr, PyData.depthAll g.encs ≤ 3 * g.deep
  | .nil => by simp [encs, PyData.depthAll, deep]
  | .cons k g m r => by
    have h1 := encs_depth g
    have h2 := encs_depth r
    simp only [encs, PyData.depthAll, PyData.depth, deep]
    omega
theorem enc_depth (g : Gr) : g.enc.depth ≤ 3 * g.deep + 1 := by
  have := encs_depth g
  simp only [enc, PyData.depth]
  omega
theorem tEnc_depth (t : Tr) : (tEnc t).depth ≤ 3 * t.2.deep + 2 := by
  have := enc_depth t.2
  simp only [tEnc, PyData.depth, PyData.depthAll]; omega
theorem pEnc_depth (p : Tr × Int) : (pEnc p).depth ≤ 3 * p.1.2.deep + 3 := by
  have := tEnc_depth p.1
  simp only [pEnc, pairE, PyData.depth, PyData.depthAll]; omega
/-- all names are names, numbers from 1 to below C, trees in order -/
def Ok (C : Int) : Gr → Prop
  | .nil => True
  | .cons k g m r => NameOk k ∧ g.Ok C ∧ 1 ≤ m ∧ m < C ∧ r.Ok C ∧ ∀ p ∈ r.ps, dataLt (tEnc (k, g)) (tEnc p.1) = true
theorem Ok.mono {B C : Int} (h : B ≤ C) : ∀ {g : Gr}, g.Ok B → g.Ok C
  | .nil, _ => trivial
  | .cons k g m r, ⟨h0, h1, h2, h3, h4, h5⟩ => ⟨h0, Ok.mono h h1, h2, by omega, Ok.mono h h4, h5⟩
theorem ok_ps {C : Int} : ∀ {bs : List (Tr × Int)}, (ofPs bs).Ok C ↔ (∀ p ∈ bs, NameOk p.1.1 ∧ p.1.2.Ok C ∧ 1 ≤ p.2 ∧ p.2 < C) ∧ bs.Pairwise (fun p q => dataLt (tEnc p.1) (tEnc q.1) = true)
  | [] => by simp [ofPs, Ok]
  | x :: r => by
    have ih := ok_ps (C := C) (bs := r)
    show (NameOk x.1.1 ∧ x.1.2.Ok C ∧ 1 ≤ x.2 ∧ x.2 < C ∧ (ofPs r).Ok C ∧ ∀ p ∈ (ofPs r).ps, dataLt (tEnc x.1) (tEnc p.1) = true) ↔ _
    rw [ps_ofPs, List.pairwise_cons, ih]
    constructor
    · rintro ⟨h0, h1, h2, h3, ⟨h4, h5⟩, h6⟩
      refine ⟨fun p hp => ?_, h6, h5⟩
      rcases List.mem_cons.mp hp with hp | hp
      · subst hp; exact ⟨h0, h1, h2, h3⟩
      · exact h4 p hp
    · rintro ⟨h1, h2, h3⟩
      have h4 := h1 x (List.mem_cons_self ..)
      exact ⟨h4.1, h4.2.1, h4.2.2.1, h4.2.2.2, ⟨fun p hp => h1 p (List.mem_cons_of_mem _ hp), h3⟩, h2⟩
theorem ok_iff {C : Int} {g : Gr} : g.Ok C ↔ (∀ p ∈ g.ps, NameOk p.1.1 ∧ p.1.2.Ok C ∧ 1 ≤ p.2 ∧ p.2 < C) ∧ g.ps.Pairwise (fun p q => dataLt (tEnc p.1) (tEnc q.1) = true) := by
  have := ok_ps (C := C) (bs := g.ps)
  rw [ofPs_ps] at this
  exact this
theorem strOk_name {k : Str} (h : NameOk k) : PySem.PyData.strOk k = true := by
  show k.cps.all (· < 0x110000) = true
  rw [Array.all_eq_true']
  intro c hc
  have := h.2.2 c (by simpa using hc)
  simp; omega
theorem lays {C : Int} : ∀ {g : Gr}, g.Ok C → PyData.canLayAll0 g.encs = true
  | .nil, _ => by simp [encs, PyData.canLayAll0]
  | .cons k g m r, ⟨h0, h1, _, _, h4, _⟩ => by
    have e1 := lays h1
    have e2 := lays h4
    simp [encs, PyData.canLayAll0, PyData.canLay0, e1, e2, strOk_name h0]
theorem shaped_enc {C : Int} {g : Gr} (h : g.Ok C) (hd : g.deep ≤ 20) : SeqAt.shaped g.enc = true := by
  have := g.enc_depth
  unfold SeqAt.shaped
  rw [show g.enc.canLay0 = true by rw [enc, PyData.canLay0]; exact lays h]
  simp; omega
theorem shaped_tEnc {C : Int} {t : Tr} (h0 : NameOk t.1) (h : t.2.Ok C) (hd : t.2.deep ≤ 20) : SeqAt.shaped (tEnc t) = true := by
  have := tEnc_depth t
  unfold SeqAt.shaped
  rw [show (tEnc t).canLay0 = true by simp [tEnc, PyData.canLay0, PyData.canLayAll0, strOk_name h0, enc, lays h]]
  simp; omega
/-- a pair that may stand in a grove -/
def POk (C : Int) (p : Tr × Int) : Prop := NameOk p.1.1 ∧ p.1.2.Ok C ∧ 1 ≤ p.2 ∧ p.2 < C
theorem pEnc_all (bs : List (Tr × Int)) : AllAlike (bs.map pEnc) := AllAlike.of fun a b => Orderly.al (enc := pEnc) a b
theorem pEnc_sortable (bs : List (Tr × Int)) : Sortable (bs.map pEnc) := Sortable.tuples fun b => ⟨_, _, rfl⟩
/-- the grove of some pairs -/
def tidy (bs : List (Tr × Int)) : Gr := ofPs (tdy tEnc bs)
theorem tidy_parts (bs : List (Tr × Int)) : (tidy bs).parts ≤ tot bs := by
  unfold tidy
  rw [parts_ofPs]
  have h1 := tot_jn (srtE (pairE tEnc) bs)
  rw [tot_perm (srtE_perm bs)] at h1
  exact h1
theorem tidy_deep {n : Nat} {bs : List (Tr × Int)} (h : ∀ p ∈ bs, p.1.2.deep < n) : (tidy bs).deep ≤ n := by
  refine deep_le fun p hp => ?_
  unfold tidy at hp
  rw [ps_ofPs] at hp
  obtain ⟨q, hq, e⟩ := tdy_keys bs p hp
  rw [← e]; exact h q hq
theorem tidy_ok {C D : Int} {bs : List (Tr × Int)} (h : ∀ p ∈ bs, NameOk p.1.1 ∧ p.1.2.Ok C ∧ 1 ≤ p.2) (hD : allE bs < D) (hCD : C ≤ D) : (tidy bs).Ok D := by
  unfold tidy
  rw [ok_ps]
  refine ⟨fun p hp => ?_, tdy_rise bs⟩
  obtain ⟨q, hq, e⟩ := tdy_keys bs p hp
  have hq2 := h q hq
  obtain ⟨h1, h2⟩ := tdy_pos (enc := tEnc) (fun p hp => (h p hp).2.2) p hp
  rw [← e]
  exact ⟨hq2.1, hq2.2.1.mono hCD, h1, by omega⟩
end Gr
/-- at v stands the grove g -/
def GA (K : PySem.W.Frag) (H : Hp) (v : V) (g : Gr) : Prop := Dp K H v g.enc
section
variable {K : PySem.W.Frag} {ps : List Addr} {H H' : Hp} {v : V} {g : Gr}
theorem GA.sb (h : GA K H v g) (e : SB ps H H') : GA K H' v g := Dp_sb e _ _ g.noList_enc h
theorem GA_bears (h : GA K H v g) : ∃ a xs, v = .ref a ∧ SqT K H a xs ∧ Bears K H Gr.pEnc xs g.ps := by
  have h' : Dp K H v (.tuple g.encs) := h
  cases h' with
  | tup hs ha =>
    rw [Gr.encs_ps] at ha
    exact ⟨_, _, rfl, hs, Bears.of ha⟩
theorem Bears_ga {a : Addr} {xs : List V} {bs : List (Tr × Int)} (h : SqT K H a xs) (hb : Bears K H Gr.pEnc xs bs) : GA K H (.ref a) (Gr.ofPs bs) := by
  refine Dp.tup h ?_
  rw [Gr.encs_ps, Gr.ps_ofPs]
  exact hb.dp
theorem GA_nil {p : Addr} (h : SqT K H p []) : GA K H (.ref p) .nil := Dp.tup h .nil
theorem TA_parts {t : Tr} (h : Dp K H v (Gr.tEnc t)) : ∃ a u, v = .ref a ∧ SqT K H a [.str t.1, u] ∧ GA K H u t.2 := by
  cases h with
  | tup hs ha =>
    cases ha with
    | cons h1 h2 =>
      cases h2 with
      | cons h3 h4 =>
        cases h4
        cases h1
        exact ⟨_, _, rfl, hs, h3⟩
theorem PA_parts {p : Tr × Int} (h : Dp K H v (Gr.pEnc p)) : ∃ a b u, v = .ref a ∧ SqT K H a [.ref b, .int p.2] ∧ SqT K H b [.str p.1.1, u] ∧ GA K H u p.1.2 ∧ Dp K H (.ref b) (Gr.tEnc p.1) := by
  cases h with
  | tup hs ha =>
    cases ha with
    | cons h1 h2 =>
      cases h2 with
      | cons h3 h4 =>
        cases h4
        cases h3
        obtain ⟨b, u, rfl, hb, hg⟩ := TA_parts h1
        exact ⟨_, b, u, rfl, hs, hb, hg, h1⟩
end
/-! ## promises -/
def PuG (H : Hp) (p : Addr) : Prop := ∃ x y : Int, H p = some (.lst [.int x, .int y]) ∧ 0 ≤ x ∧ 1 ≤ y ∧ y ≤ 18446744073709551557
theorem PuG.sb {H H' : Hp} {p : Addr} (h : PuG H p) (e : SB [] H H') : PuG H' p := by
  obtain ⟨x, y, h1, h2⟩ := h
  exact ⟨x, y, e.keep _ _ h1 List.not_mem_nil, h2⟩
theorem PuG.keep {H H' : Hp} {p : Addr} {ps : List Addr} (h : PuG H p) (e : SB ps H H') (n : p ∉ ps) : PuG H' p := by
  obtain ⟨x, y, h1, h2⟩ := h
  exact ⟨x, y, e.keep _ _ h1 n, h2⟩
theorem PuG.new {H : Hp} {p q : Addr} (h : PuG H p) (n : H q = none) {o : HO} : PuG (upd H q o) p := by
  obtain ⟨x, y, h1, h2⟩ := h
  exact ⟨x, y, by rw [upd_ne (ne_of_none h1 n)]; exact h1, h2⟩
theorem PuG.ne {H : Hp} {p q : Addr} (h : PuG H p) (n : H q = none) : p ≠ q := by
  obtain ⟨x, y, h1, h2⟩ := h
  exact ne_of_none h1 n
def spPurseG (K : PySem.W.Frag) : Sp := fun vs H Q _ => ∃ (a : Addr) (ns : List Int) (k : Nat), vs = [.ref a, .int (k : Int)] ∧ SqL K H a (ns.map V.int) ∧ ns.length ≤ 63 ∧ k ≤ 1000 ∧ ∀ p H', SB [] H H' → H p = none → PuG H' p → Q (.ref p) H'
def spTakeG : Sp := fun vs H Q _ => ∃ (p : Addr) (m : Int), vs = [.ref p, .int m] ∧ PuG H p ∧ 1 ≤ m ∧ m < 2 ^ 250 ∧ ∀ r H', 0 ≤ r → r < m → SB [p] H H' → PuG H' p → Q (.int r) H'
def spNamesG (K : PySem.W.Frag) : Sp := fun vs H Q _ => ∃ (p : Addr), vs = [.ref p] ∧ PuG H p ∧ ∀ (n : Addr) (ks : List Str) (H' : Hp), SB [p] H H' → PuG H' p → H n = none → H' n = some (.lst (ks.map V.str)) → 1 ≤ ks.length → ks.length ≤ 8 → (∀ k ∈ ks, NameOk k) → Q (.ref n) H'
/-- sorted pairs of trees, like ones put together: of a list or a tuple -/
def spTidyG (K : PySem.W.Frag) : Sp := fun vs H Q _ => ∃ (a : Addr) (xs : List V) (bs : List (Tr × Int)), vs = [.ref a] ∧ (SqL K H a xs ∨ SqT K H a xs) ∧ Bears K H Gr.pEnc xs bs ∧ bs.length ≤ 1000 ∧ (∃ C, ∀ p ∈ bs, NameOk p.1.1 ∧ p.1.2.Ok C ∧ p.1.2.deep ≤ 18) ∧
  ∀ (v : V) (H' : Hp), SB [] H H' → GA K H' v (Gr.tidy bs) → Q v H'
/-- a drawn grove: of many parts at most, low deep at most, numbers up to sixty times great -/
def spGroveG (K : PySem.W.Frag) : Sp := fun vs H Q _ => ∃ (a n : Addr) (ns : List Int) (ks : List Str) (f m l : Nat) (c : Int), vs = [.ref a, .int (f : Int), .int (m : Int), .ref n, .int c, .int (l : Int)] ∧ SqL K H a (ns.map V.int) ∧ ns.length ≤ 63 ∧ H n = some (.lst (ks.map V.str)) ∧ 1 ≤ ks.length ∧ ks.length ≤ 8 ∧ (∀ k ∈ ks, NameOk k) ∧ f ≤ 100 ∧ m ≤ 60 ∧ 1 ≤ l ∧ l ≤ 12 ∧ 1 ≤ c ∧ c ≤ 10 ^ 58 ∧
  ∀ (v : V) (g : Gr) (H' : Hp), SB [] H H' → GA K H' v g → g.Ok (60 * 10 ^ 58 + 1) → g.parts ≤ m → g.deep ≤ l → Q v H'
end FT
namespace FT
open PySem PySem.W PySem.Spec PyProof.Rows L2
/-! ## texts of small letters -/
def Ltr (z : Str) (n : Nat) : Prop := z.cps.toList.length = n ∧ ∀ c ∈ z.cps.toList, 97 ≤ c ∧ c ≤ 122
theorem Ltr.name {z : Str} {n : Nat} (h : Ltr z n) (h1 : 1 ≤ n) (h8 : n ≤ 8) : NameOk z := ⟨by have := h.1; omega, by have := h.1; omega, h.2⟩
theorem Ltr.len {z : Str} {n : Nat} (h : Ltr z n) : z.length = n := by have := h.1; simpa [Str.length] using this
theorem Ltr.one {c : Nat} (h : 97 ≤ c ∧ c ≤ 122) : Ltr ⟨#[c]⟩ 1 := ⟨rfl, fun x hx => by simp at hx; subst hx; exact h⟩
theorem Ltr.append {a b : Str} {n m : Nat} (ha : Ltr a n) (hb : Ltr b m) : Ltr (a ++ b) (n + m) := by
  have e : (a ++ b).cps.toList = a.cps.toList ++ b.cps.toList := by show (a.cps ++ b.cps).toList = _; simp
  unfold Ltr
  rw [e, List.length_append, ha.1, hb.1]
  refine ⟨rfl, fun c hc => ?_⟩
  rcases List.mem_append.mp hc with hc | hc
  · exact ha.2 c hc
  · exact hb.2 c hc
theorem Ltr.take {z : Str} {n : Nat} (h : Ltr z n) (k : Nat) : Ltr (cutS z none (some (k : Int))) (min k n) := by
  have hl := h.len
  have e : (cutS z none (some (k : Int))).cps.toList = z.cps.toList.take (min k n) := by
    unfold cutS
    rw [HT.sIx_none, HT.sIx_nat, hl]
    simp
  unfold Ltr
  rw [e, List.length_take, h.1]
  exact ⟨by omega, fun c hc => h.2 c (List.mem_of_mem_take hc)⟩
theorem Ltr.cut {z : Str} {n : Nat} (h : Ltr z n) (a b : Nat) : Ltr (cutS z (some (a : Int)) (some (b : Int))) (min b n - min a n) := by
  have hl := h.len
  have e : (cutS z (some (a : Int)) (some (b : Int))).cps.toList = (z.cps.toList.drop (min a n)).take (min b n - min a n) := by
    unfold cutS
    rw [HT.sIx_nat, HT.sIx_nat, hl]
  unfold Ltr
  rw [e, List.length_take, List.length_drop, h.1]
  exact ⟨by omega, fun c hc => h.2 c (List.mem_of_mem_drop (List.mem_of_mem_take hc))⟩
theorem glue_ones : ∀ (cs : List Nat) (acc : Array Nat), ((cs.map fun c => (⟨#[c]⟩ : Str)).foldl (fun acc p => acc ++ (Str.ofString "").cps ++ p.cps) acc).toList = acc.toList ++ cs
  | [], acc => by simp
  | c :: cs, acc => by
    have e0 : (Str.ofString "").cps = #[] := by decide +kernel
    rw [List.map_cons, List.foldl_cons, glue_ones cs]
    simp [e0]
theorem join_ltrs (cs : List Nat) (h : ∀ c ∈ cs, 97 ≤ c ∧ c ≤ 122) : Ltr (Txt.join (Str.ofString "") (cs.map fun c => ⟨#[c]⟩)) cs.length := by
  have e : (Txt.join (Str.ofString "") (cs.map fun c => (⟨#[c]⟩ : Str))).cps.toList = cs := by
    show (Builtin.Str.glued (Str.ofString "") (cs.map fun c => (⟨#[c]⟩ : Str))).cps.toList = cs
    unfold Builtin.Str.glued
    cases cs with
    | nil => rfl
    | cons c r =>
      show ((r.map fun c => (⟨#[c]⟩ : Str)).foldl (fun acc p => acc ++ (Str.ofString "").cps ++ p.cps) #[c]).toList = c :: r
      rw [glue_ones]
      rfl
  unfold Ltr
  rw [e]
  exact ⟨rfl, h⟩
abbrev abc : Str := Str.ofString "abcdefghijklmnopqrstuvwxyz"
theorem abc_at : ∀ r : Nat, r < 26 → ∃ c, abc.cps.toList[r]? = some c ∧ 97 ≤ c ∧ c ≤ 122 := by
  have : ∀ r : Fin 26, ∃ c : Fin 200, abc.cps.toList[r.val]? = some c.val ∧ 97 ≤ c.val ∧ c.val ≤ 122 := by decide +kernel
  intro r hr
  obtain ⟨c, h⟩ := this ⟨r, hr⟩
  exact ⟨c.val, h⟩
theorem abc_len : abc.length ≤ sizeLine := by decide +kernel
theorem atI_natN {xs : List Nat} {j : Nat} {c : Nat} (h : xs[j]? = some c) : atI xs (j : Int) = some c := by
  have hj : j < xs.length := (List.getElem?_eq_some_iff.mp h).1
  unfold atI ixN
  rw [if_pos (by omega), if_pos (by omega)]
  simpa using h
theorem cutTakeS (ks : List Str) (k : Nat) : cutV (ks.map V.str) none (some (k : Int)) = (ks.take k).map V.str := by rw [cutTake, List.map_take]
theorem cutDropS (ks : List Str) (k : Nat) : cutV (ks.map V.str) (some (k : Int)) none = (ks.drop k).map V.str := by rw [cutDrop, List.map_drop]
/-- sorted(xs), xs a list or a tuple of data that are alike -/
def rSortedB (K : PySem.W.Frag) {β : Type} (enc : β → PyData) (vs : List V) (H : Hp) (Q : VK) : Prop := ∃ (a : Addr) (xs : List V) (bs : List β), vs = [V.ref a] ∧ (SqL K H a xs ∨ SqT K H a xs) ∧ Bears K H enc xs bs ∧ AllAlike (bs.map enc) ∧ Sortable (bs.map enc) ∧ bs.length ≤ 10000 ∧ (∀ b ∈ bs, (enc b).depth ≤ 100) ∧
  ∀ (p : Addr) (ys : List V), H p = none → Bears K H enc ys (bs.mergeSort (dataLe false enc)) → Q (.ref p) (upd H p (.lst ys))
theorem cr_sortedB {X : Cx} {β : Type} (enc : β → PyData) (hu : X.A.units + 110 < cLine) : CallR X (.builtin "sorted") (rSortedB X.K enc) := by
  intro pins s σ H vs us Q I r h
  obtain ⟨a, xs, bs, h1, h2, h3⟩ := h
  rcases h2 with h2 | h2
  · exact cr_sortedL enc hu pins s σ H vs us Q I r ⟨a, xs, bs, h1, h2, h3⟩
  · exact cr_sortedT enc hu pins s σ H vs us Q I r ⟨a, xs, bs, h1, h2, h3⟩
theorem Gr.shaped_rows {bs : List (Tr × Int)} (h : ∃ C, ∀ b ∈ bs, NameOk b.1.1 ∧ b.1.2.Ok C ∧ b.1.2.deep ≤ 18) : SeqAt.shaped (.list (bs.map Gr.pEnc)) = true := by
  obtain ⟨C, h⟩ := h
  have h1 : PyData.canLayAll0 (bs.map Gr.pEnc) = true := by
    induction bs with
    | nil => simp [PyData.canLayAll0]
    | cons b r ih =>
      have e := ih fun c hc => h c (List.mem_cons_of_mem _ hc)
      obtain ⟨n, o, _⟩ := h b (List.mem_cons_self ..)
      rw [List.map_cons, PyData.canLayAll0, e]
      simp [Gr.pEnc, pairE, Gr.tEnc, PyData.canLay0, PyData.canLayAll0, Gr.enc, Gr.lays o, Gr.strOk_name n]
  have h2 : PyData.depthAll (bs.map Gr.pEnc) ≤ 57 := by
    clear h1
    induction bs with
    | nil => simp [PyData.depthAll]
    | cons b r ih =>
      have e1 := ih (fun c hc => h c (List.mem_cons_of_mem _ hc))
      have e2 := (h b (List.mem_cons_self ..)).2.2
      have e3 := Gr.pEnc_depth b
      rw [List.map_cons, PyData.depthAll]
      omega
  have h3 : (PyData.list (bs.map Gr.pEnc)).depth = PyData.depthAll (bs.map Gr.pEnc) + 1 := by simp [PyData.depth]
  unfold SeqAt.shaped
  rw [PyData.canLay0, h1, Bool.true_and]
  exact decide_eq_true (by omega)
section
variable {K : PySem.W.Frag} {H : Hp} {p : Addr} {Q : VK} {σ : L2.St} {i : Nat} {m : Int}
/-- _law_take(purse, m) -/
theorem take_at (hσ : σ[i]? = some (some (.ref p))) (hp : PuG H p) (h1 : 1 ≤ m) (h2 : m < 2 ^ 250) (k : ∀ r H', 0 ≤ r → r < m → SB [p] H H' → PuG H' p → Q (.int r) H') :
    tCall spTakeG [] E0 (tCons (tVar i) (tCons (tC (.int m)) tNil)) σ H Q := ⟨_, hσ, p, m, rfl, hp, h1, h2, k⟩
end
end FT
namespace FT
open PySem PySem.W PySem.Spec PyProof.Rows L2
namespace Gr
/-- all pairs that stand anywhere -/
def within : Gr → List (Tr × Int)
  | .nil => []
  | .cons k g m r => ((k, g), m) :: (g.within ++ r.within)
theorem within_ps : ∀ g : Gr, g.within = g.ps.flatMap fun p => p :: p.1.2.within
  | .nil => rfl
  | .cons k g m r => by show ((k, g), m) :: (g.within ++ r.within) = _; rw [within_ps r]; rfl
theorem within_length : ∀ g : Gr, g.within.length = g.parts
  | .nil => rfl
  | .cons k g m r => by show (g.within ++ r.within).length + 1 = 1 + g.parts + r.parts; rw [List.length_append, within_length g, within_length r]; omega
theorem size_ps : ∀ g : Gr, g.size = (g.ps.map fun p => p.2 * (1 + p.1.2.size)).sum
  | .nil => rfl
  | .cons k g m r => by show m * (1 + g.size) + r.size = m * (1 + g.size) + (r.ps.map fun p => p.2 * (1 + p.1.2.size)).sum; rw [size_ps r]
theorem deep_at : ∀ h : Gr, 0 < h.deep → ∃ p ∈ h.ps, p.1.2.deep + 1 = h.deep
  | .nil, h => by simp [deep] at h
  | .cons k g m r, _ => by
    by_cases hr : r.deep ≤ 1 + g.deep
    · exact ⟨((k, g), m), List.mem_cons_self .., by show g.deep + 1 = max (1 + g.deep) r.deep; omega⟩
    · obtain ⟨p, hp, e2⟩ := deep_at r (by omega)
      exact ⟨p, List.mem_cons_of_mem _ hp, by show p.1.2.deep + 1 = max (1 + g.deep) r.deep; omega⟩
theorem deep_max (g : Gr) (m : Int) (hm : m ∈ (g.ps.map fun p => (p.1.2.deep : Int))) (hy : ∀ a, a ∈ (g.ps.map fun p => (p.1.2.deep : Int)) → a ≤ m) : (1 : Int) + m = (g.deep : Int) := by
  obtain ⟨p, hp, rfl⟩ := List.mem_map.mp hm
  have h1 := g.mem_deep p hp
  obtain ⟨q, hq, e⟩ := g.deep_at (by omega)
  have := hy _ (List.mem_map.mpr ⟨q, hq, rfl⟩)
  omega
abbrev two199 : Int := 2 ^ 199
theorem pow_sum (x y : Nat) : (2 : Int) ^ x + 2 ^ y ≤ 2 ^ (x + y + 1) := by
  have hx : (1 : Int) ≤ 2 ^ x := Int.pow_pos (by decide)
  have hy : (1 : Int) ≤ 2 ^ y := Int.pow_pos (by decide)
  have e : (2 : Int) ^ (x + y + 1) = 2 ^ x * 2 ^ y * 2 := by rw [Int.pow_succ, Int.pow_add]
  rw [e]
  have h1 : (2 : Int) ^ x * 1 ≤ 2 ^ x * 2 ^ y := Int.mul_le_mul_of_nonneg_left hy (by omega)
  have h2 : 1 * (2 : Int) ^ y ≤ 2 ^ x * 2 ^ y := Int.mul_le_mul_of_nonneg_right hx (by omega)
  omega
theorem size_bound {C : Int} (hC : C ≤ 2 ^ 199) : ∀ {g : Gr}, g.Ok C → 0 ≤ g.size ∧ 1 + g.size ≤ 2 ^ (200 * g.parts)
  | .nil, _ => by show (0 : Int) ≤ 0 ∧ (1 : Int) + 0 ≤ 2 ^ 0; decide
  | .cons k g m r, ⟨_, h1, h2, h3, h4, _⟩ => by
    obtain ⟨a1, a2⟩ := size_bound hC h1
    obtain ⟨b1, b2⟩ := size_bound hC h4
    have e0 : 0 ≤ m * (1 + g.size) := Int.mul_nonneg (by omega) (by omega)
    refine ⟨by show 0 ≤ m * (1 + g.size) + r.size; omega, ?_⟩
    show 1 + (m * (1 + g.size) + r.size) ≤ 2 ^ (200 * (1 + g.parts + r.parts))
    have e1 : m * (1 + g.size) ≤ 2 ^ 199 * 2 ^ (200 * g.parts) := Int.mul_le_mul (by omega) a2 (by omega) (Int.le_of_lt (Int.pow_pos (by decide)))
    have e2 : (2 : Int) ^ 199 * 2 ^ (200 * g.parts) = 2 ^ (199 + 200 * g.parts) := by rw [Int.pow_add]
    have e3 := pow_sum (199 + 200 * g.parts) (200 * r.parts)
    have e4 : (2 : Int) ^ (199 + 200 * g.parts + 200 * r.parts + 1) = 2 ^ (200 * (1 + g.parts + r.parts)) := by
      have : 199 + 200 * g.parts + 200 * r.parts + 1 = 200 * (1 + g.parts + r.parts) := by omega
      rw [this]
    omega
theorem natAbs_lt {x : Int} {n : Nat} (h0 : 0 ≤ x) (h : x < 2 ^ n) : x.natAbs < 2 ^ n := by
  have h2 : ((x.natAbs : Nat) : Int) = x := Int.natAbs_of_nonneg h0
  have h3 : ((2 ^ n : Nat) : Int) = (2 : Int) ^ n := by rw [Int.natCast_pow]; rfl
  exact Int.ofNat_lt.mp (by rw [h2, h3]; exact h)
end Gr
/-! ## promises -/
def spPairsW (K : PySem.W.Frag) (n : Nat) : Sp := fun vs H Q _ => ∃ (v : V) (g : Gr), vs = [v] ∧ GA K H v g ∧ g.deep < n ∧ g.parts ≤ 1000 ∧ ∀ (D : Addr) (us : List V) (H' : Hp), SB [] H H' → H D = none → H' D = some (.lst us) → Bears K H' Gr.pEnc us g.within → Q (.ref D) H'
def spPartsOf (K : PySem.W.Frag) (n : Nat) : Sp := fun vs H Q _ => ∃ (v : V) (g : Gr), vs = [v] ∧ GA K H v g ∧ g.deep < n ∧ g.parts ≤ 1000 ∧ ∀ H', SB [] H H' → Q (.int (g.parts : Nat)) H'
def spDeepOf (K : PySem.W.Frag) (n : Nat) : Sp := fun vs H Q _ => ∃ (v : V) (g : Gr), vs = [v] ∧ GA K H v g ∧ g.deep < n ∧ g.parts ≤ 1000 ∧ ∀ H', SB [] H H' → Q (.int (g.deep : Nat)) H'
def spSizeG (K : PySem.W.Frag) (n : Nat) : Sp := fun vs H Q _ => ∃ (v : V) (g : Gr), vs = [v] ∧ GA K H v g ∧ g.deep < n ∧ g.parts ≤ 1000 ∧ g.Ok (2 ^ 199) ∧ ∀ H', SB [] H H' → Q (.int g.size) H'
section
variable {P : Program} {w : World} {K : PySem.W.Frag} {mg : Str → Option Value} {base : Heap} {f : Addr} {fd : FuncData}
theorem none_pairs_within {ps : List Str} {k : Nat} : FnOk P w K mg base CX0 k f fd ps (spPairsW K 0) := none_sp fun vs H Q E ⟨v, l, _, _, h, _⟩ => by omega
theorem none_deep_of {ps : List Str} {k : Nat} : FnOk P w K mg base CX0 k f fd ps (spDeepOf K 0) := none_sp fun vs H Q E ⟨v, l, _, _, h, _⟩ => by omega
theorem none_size {ps : List Str} {k : Nat} : FnOk P w K mg base CX0 k f fd ps (spSizeG K 0) := none_sp fun vs H Q E ⟨v, l, _, _, h, _⟩ => by omega
end
end FT
namespace FT
open PySem PySem.W PySem.Spec PyProof.Rows L2
/-! ## plain data: numbers, texts and tuples of such -/
mutual
def plS : PyData → Bool
  | .int _ => true
  | .str x => PyData.strOk x
  | .tuple ds => plSs ds
  | _ => false
def plSs : List PyData → Bool
  | [] => true
  | d :: ds => plS d && plSs ds
end
mutual
def nodes : PyData → Nat
  | .tuple ds => 1 + nodesS ds
  | _ => 1
def nodesS : List PyData → Nat
  | [] => 0
  | d :: ds => nodes d + nodesS ds
end
theorem nodes_pos : ∀ d : PyData, 1 ≤ nodes d
  | .tuple ds => by rw [nodes]; omega
  | .none => by simp [nodes]
  | .bool _ => by simp [nodes]
  | .int _ => by simp [nodes]
  | .str _ => by simp [nodes]
  | .list _ => by simp [nodes]
  | .dict _ => by simp [nodes]
theorem nodesS_append : ∀ as bs : List PyData, nodesS (as ++ bs) = nodesS as + nodesS bs
  | [], bs => by simp [nodesS]
  | d :: r, bs => by rw [List.cons_append, nodesS, nodesS, nodesS_append r bs]; omega
theorem len_nodes : ∀ ds : List PyData, ds.length ≤ nodesS ds
  | [] => Nat.zero_le _
  | d :: r => by have := len_nodes r; have := nodes_pos d; rw [nodesS, List.length_cons]; omega
theorem plSs_mem : ∀ {ds : List PyData}, plSs ds = true → ∀ d ∈ ds, plS d = true
  | [], _, d, h => by cases h
  | e :: r, hp, d, h => by
    rw [plSs, Bool.and_eq_true] at hp
    rcases List.mem_cons.mp h with h | h
    · subst h; exact hp.1
    · exact plSs_mem hp.2 d h
mutual
theorem plS_noList : ∀ d : PyData, plS d = true → noList d = true
  | .int _, _ => by simp [noList]
  | .str _, _ => by simp [noList]
  | .tuple ds, h => by rw [plS] at h; rw [noList]; exact plSs_noList ds h
  | .none, h => by simp [plS] at h
  | .bool _, h => by simp [plS] at h
  | .list _, h => by simp [plS] at h
  | .dict _, h => by simp [plS] at h
theorem plSs_noList : ∀ ds : List PyData, plSs ds = true → noLists ds = true
  | [], _ => by simp [noLists]
  | d :: ds, h => by
    rw [plSs, Bool.and_eq_true] at h
    rw [noLists, plS_noList d h.1, plSs_noList ds h.2]; rfl
end
mutual
theorem plS_lay : ∀ d : PyData, plS d = true → d.canLay0 = true
  | .int _, _ => by simp [PyData.canLay0]
  | .str _, h => by rw [plS] at h; rw [PyData.canLay0]; exact h
  | .tuple ds, h => by rw [plS] at h; rw [PyData.canLay0]; exact plSs_lay ds h
  | .none, h => by simp [plS] at h
  | .bool _, h => by simp [plS] at h
  | .list _, h => by simp [plS] at h
  | .dict _, h => by simp [plS] at h
theorem plSs_lay : ∀ ds : List PyData, plSs ds = true → PyData.canLayAll0 ds = true
  | [], _ => by simp [PyData.canLayAll0]
  | d :: ds, h => by
    rw [plSs, Bool.and_eq_true] at h
    rw [PyData.canLayAll0, plS_lay d h.1, plSs_lay ds h.2]; rfl
end
abbrev PL := {d : PyData // plS d = true}
def PL.e (d : PL) : PyData := d.1
theorem PL.noList (d : PL) : noList d.e = true := plS_noList d.1 d.2
theorem pl_shaped {ds : List PL} (h : ∀ d ∈ ds, d.e.depth ≤ 60) : SeqAt.shaped (.list (ds.map PL.e)) = true := by
  have h1 : PyData.canLayAll0 (ds.map PL.e) = true := by
    induction ds with
    | nil => simp [PyData.canLayAll0]
    | cons b r ih =>
      have e := ih fun c hc => h c (List.mem_cons_of_mem _ hc)
      rw [List.map_cons, PyData.canLayAll0, e, show b.e.canLay0 = true from plS_lay b.1 b.2]; rfl
  have h2 : PyData.depthAll (ds.map PL.e) ≤ 60 := by
    clear h1
    induction ds with
    | nil => simp [PyData.depthAll]
    | cons b r ih =>
      have e1 := ih (fun c hc => h c (List.mem_cons_of_mem _ hc))
      have e2 := h b (List.mem_cons_self ..)
      rw [List.map_cons, PyData.depthAll]
      omega
  have h3 : (PyData.list (ds.map PL.e)).depth = PyData.depthAll (ds.map PL.e) + 1 := by simp [PyData.depth]
  unfold SeqAt.shaped
  rw [PyData.canLay0, h1, Bool.true_and]
  exact decide_eq_true (by omega)
/-- the parts of a plain tuple -/
theorem pl_parts : ∀ {ds : List PyData}, plSs ds = true → ∃ xs : List PL, xs.map PL.e = ds
  | [], _ => ⟨[], rfl⟩
  | d :: r, h => by
    rw [plSs, Bool.and_eq_true] at h
    obtain ⟨xs, hx⟩ := pl_parts h.2
    exact ⟨⟨d, h.1⟩ :: xs, by rw [List.map_cons, hx]; rfl⟩
namespace Gr
theorem plSs_encs {C : Int} : ∀ {g : Gr}, g.Ok C → plSs g.encs = true
  | .nil, _ => by simp [encs, plSs]
  | .cons k g m r, ⟨h0, h1, _, _, h4, _⟩ => by
    have e1 := plSs_encs h1
    have e2 := plSs_encs h4
    simp [encs, plSs, plS, e1, e2, strOk_name h0]
theorem nodes_encs : ∀ g : Gr, nodesS g.encs = 5 * g.parts
  | .nil => by simp [encs, nodesS, parts]
  | .cons k g m r => by
    have e1 := nodes_encs g
    have e2 := nodes_encs r
    simp only [encs, nodesS, nodes, parts, e1, e2]
    omega
end Gr
/-- a plain tuple is plain -/
def spPlainG (K : PySem.W.Frag) : Sp := fun vs H Q _ => ∃ (v : V) (ds : List PyData), vs = [v] ∧ Dp K H v (.tuple ds) ∧ plSs ds = true ∧ PyData.depthAll ds ≤ 59 ∧ nodesS ds ≤ 100000 ∧ ∀ H', SB [] H H' → Q (.bl true) H'
/-- two groves together -/
def spTogether (K : PySem.W.Frag) : Sp := fun vs H Q _ => ∃ (v u : V) (g k : Gr), vs = [v, u] ∧ GA K H v g ∧ GA K H u k ∧ (∃ C, g.Ok C ∧ k.Ok C) ∧ g.deep ≤ 18 ∧ k.deep ≤ 18 ∧ g.parts ≤ 400 ∧ k.parts ≤ 400 ∧ ∀ (x : V) (H' : Hp), SB [] H H' → GA K H' x (Gr.tidy (g.ps ++ k.ps)) → Q x H'
namespace Gr
def tgt (g k : Gr) : Gr := tidy (g.ps ++ k.ps)
theorem tgt_ps (g k : Gr) : (tgt g k).ps = tdy tEnc (g.ps ++ k.ps) := ps_ofPs _
theorem tgt_parts (g k : Gr) : (tgt g k).parts ≤ g.parts + k.parts := by
  have := tidy_parts (g.ps ++ k.ps)
  rw [tot_append, tot_ps, tot_ps] at this
  exact this
theorem tgt_deep {n : Nat} {g k : Gr} (hg : g.deep ≤ n) (hk : k.deep ≤ n) : (tgt g k).deep ≤ n := tidy_deep fun p hp => by
  rcases List.mem_append.mp hp with h | h
  · have := g.mem_deep p h; omega
  · have := k.mem_deep p h; omega
theorem sum_le {C : Int} {g : Gr} (hg : g.Ok C) (hC : 0 ≤ C) : allE g.ps ≤ g.parts * C := by
  have h1 := all_le (bs := g.ps) (C := C) fun p hp => Int.le_of_lt ((ok_iff.mp hg).1 p hp).2.2.2
  have h2 : (g.ps.length : Int) * C ≤ (g.parts : Int) * C := Int.mul_le_mul_of_nonneg_right (by have := g.len_parts; omega) hC
  omega
theorem tgt_ok {C D : Int} {g k : Gr} (hg : g.Ok C) (hk : k.Ok C) (hC : 0 ≤ C) (hD : (g.parts : Int) * C + k.parts * C < D) (hCD : C ≤ D) : (tgt g k).Ok D := by
  refine tidy_ok (C := C) (fun p hp => ?_) ?_ hCD
  · rcases List.mem_append.mp hp with h | h
    · have := (ok_iff.mp hg).1 p h; exact ⟨this.1, this.2.1, this.2.2.1⟩
    · have := (ok_iff.mp hk).1 p h; exact ⟨this.1, this.2.1, this.2.2.1⟩
  · rw [allE_append]
    have h1 := sum_le hg hC
    have h2 := sum_le hk hC
    omega
/-- how many of a tree -/
abbrev S (g : Gr) (t : Tr) : Int := sumE g.ps t
theorem S_tgt (g k : Gr) (t : Tr) : S (tgt g k) t = S g t + S k t := by
  show sumE (tgt g k).ps t = _
  rw [tgt_ps, tdy_sum, sumE_append]
theorem S_zero {bs : List (Tr × Int)} {t : Tr} (h : ∀ p ∈ bs, p.1 ≠ t) : sumE bs t = 0 := by
  induction bs with
  | nil => rfl
  | cons p r ih =>
    show (if p.1 = t then p.2 else 0) + sumE r t = 0
    rw [if_neg (h p (List.mem_cons_self ..)), ih fun q hq => h q (List.mem_cons_of_mem _ hq)]; rfl
/-- two right groves with as many of each tree are the same -/
theorem ext_ps : ∀ {as bs : List (Tr × Int)}, as.Pairwise (fun p q => dataLt (tEnc p.1) (tEnc q.1) = true) → bs.Pairwise (fun p q => dataLt (tEnc p.1) (tEnc q.1) = true) → (∀ p ∈ as, 1 ≤ p.2) → (∀ p ∈ bs, 1 ≤ p.2) → (∀ t, sumE as t = sumE bs t) → as = bs
  | [], [], _, _, _, _, _ => rfl
  | [], b :: bs, _, h2, _, p2, h => by
    have := h b.1
    have hz : sumE bs b.1 = 0 := S_zero fun q hq z => by have := (List.pairwise_cons.mp h2).1 q hq; rw [z, dl_irrefl] at this; cases this
    have e : sumE (b :: bs) b.1 = b.2 + sumE bs b.1 := by show (if b.1 = b.1 then b.2 else 0) + _ = _; rw [if_pos rfl]
    rw [e, hz] at this
    have := p2 b (List.mem_cons_self ..)
    have z : sumE ([] : List (Tr × Int)) b.1 = 0 := rfl
    omega
  | a :: as, [], h1, _, p1, _, h => by
    have := h a.1
    have hz : sumE as a.1 = 0 := S_zero fun q hq z => by have := (List.pairwise_cons.mp h1).1 q hq; rw [z, dl_irrefl] at this; cases this
    have e : sumE (a :: as) a.1 = a.2 + sumE as a.1 := by show (if a.1 = a.1 then a.2 else 0) + _ = _; rw [if_pos rfl]
    rw [e, hz] at this
    have := p1 a (List.mem_cons_self ..)
    have z : sumE ([] : List (Tr × Int)) a.1 = 0 := rfl
    omega
  | a :: as, b :: bs, h1, h2, p1, p2, h => by
    obtain ⟨a1, a2⟩ := List.pairwise_cons.mp h1
    obtain ⟨b1, b2⟩ := List.pairwise_cons.mp h2
    have pa := p1 a (List.mem_cons_self ..)
    have pb := p2 b (List.mem_cons_self ..)
    have za : ∀ t, (t = a.1 ∨ dataLt (tEnc t) (tEnc a.1) = true) → sumE as t = 0 := fun t ht => S_zero fun q hq z => by
      have q1 := a1 q hq
      rw [z] at q1
      rcases ht with ht | ht
      · rw [ht, dl_irrefl] at q1; cases q1
      · rw [dl_asymm ht] at q1; cases q1
    have zb : ∀ t, (t = b.1 ∨ dataLt (tEnc t) (tEnc b.1) = true) → sumE bs t = 0 := fun t ht => S_zero fun q hq z => by
      have q1 := b1 q hq
      rw [z] at q1
      rcases ht with ht | ht
      · rw [ht, dl_irrefl] at q1; cases q1
      · rw [dl_asymm ht] at q1; cases q1
    have ea : ∀ t, sumE (a :: as) t = (if a.1 = t then a.2 else 0) + sumE as t := fun t => rfl
    have eb : ∀ t, sumE (b :: bs) t = (if b.1 = t then b.2 else 0) + sumE bs t := fun t => rfl
    have hab : a.1 = b.1 := by
      by_cases e : a.1 = b.1
      · exact e
      · exfalso
        cases hlt : dataLt (tEnc a.1) (tEnc b.1) with
        | true =>
          have := h a.1
          rw [ea, eb, if_pos rfl, if_neg (fun z => e z.symm), za _ (.inl rfl), zb _ (.inr hlt)] at this
          omega
        | false =>
          have hlt2 := ol_tri (enc := tEnc) e hlt
          have := h b.1
          rw [ea, eb, if_pos rfl, if_neg e, zb _ (.inl rfl), za _ (.inr hlt2)] at this
          omega
    have hm : a.2 = b.2 := by
      have := h a.1
      rw [ea, eb, if_pos rfl, if_pos hab.symm, za _ (.inl rfl), zb _ (.inl hab)] at this
      omega
    have he : a = b := Prod.ext hab hm
    subst he
    rw [ext_ps a2 b2 (fun p hp => p1 p (List.mem_cons_of_mem _ hp)) (fun p hp => p2 p (List.mem_cons_of_mem _ hp)) fun t => by have := h t; rw [ea, eb] at this; omega]
theorem ext {C D : Int} {g k : Gr} (hg : g.Ok C) (hk : k.Ok D) (h : ∀ t, S g t = S k t) : g = k := by
  have h1 := ok_iff.mp hg
  have h2 := ok_iff.mp hk
  have := ext_ps h1.2 h2.2 (fun p hp => (h1.1 p hp).2.2.1) (fun p hp => (h2.1 p hp).2.2.1) h
  rw [← ofPs_ps g, ← ofPs_ps k, this]
end Gr
theorem small5 {n : Nat} (h : n ≤ 1000000) : n < sizeLine := by
  have : sizeLine = 16777216 := sizeLine_eq
  omega
end FT
namespace FT
open PySem PySem.W PySem.Spec PyProof.Rows L2
section
variable {K : PySem.W.Frag} {H : Hp} {p : Addr} {Q : VK} {σ : L2.St} {i : Nat} {a b c : Int}
/-- _law_take(purse, [a, b][_law_take(purse, 2)]) -/
theorem take_two (hσ : σ[i]? = some (some (.ref p))) (hp : PuG H p) (ha : 1 ≤ a) (ha2 : a < 2 ^ 250) (hb : 1 ≤ b) (hb2 : b < 2 ^ 250) (k : ∀ r H', 0 ≤ r → (r < a ∨ r < b) → SB [p] H H' → PuG H' p → Q (.int r) H') :
    tCall spTakeG [] E0 (tCons (tVar i) (tCons (tOp (rIxL K) (tLst (tCons (tC (.int a)) (tCons (tC (.int b)) tNil))) (tCall spTakeG [] E0 (tCons (tVar i) (tCons (tC (.int 2)) tNil)))) tNil)) σ H Q := by
  refine ⟨_, hσ, (by show 2 ≤ sizeLine; decide), fun la hla => ?_⟩
  have t := SB.new (ps := []) hla (.lst [.int a, .int b])
  refine ⟨_, hσ, p, 2, rfl, hp.new hla, by decide, by decide, fun r H1 r0 r2 s1 hp1 => ?_⟩
  have hla1 := s1.keep _ _ (show (upd H la (.lst [.int a, .int b])) la = some _ from upd_same) (by simpa using fun z : la = p => hp.ne hla z.symm)
  obtain ⟨z, hz, z1, z2, z3⟩ : ∃ z : Int, atI [V.int a, V.int b] r = some (.int z) ∧ 1 ≤ z ∧ z < 2 ^ 250 ∧ (z = a ∨ z = b) := by
    have : r = 0 ∨ r = 1 := by omega
    rcases this with h | h <;> subst h
    · exact ⟨a, rfl, ha, ha2, .inl rfl⟩
    · exact ⟨b, rfl, hb, hb2, .inr rfl⟩
  refine ⟨la, _, _, _, rfl, rfl, SqL.of hla1, hz, p, z, rfl, hp1, z1, z2, fun r3 H3 r30 r3z s3 hp3 => ?_⟩
  refine k r3 H3 r30 ?_ ((t.nil.trans s1).trans s3) hp3
  rcases z3 with h | h <;> subst h
  · exact .inl r3z
  · exact .inr r3z
/-- _law_take(purse, [a, b, c][_law_take(purse, 3)]) -/
theorem take_three (hσ : σ[i]? = some (some (.ref p))) (hp : PuG H p) (ha : 1 ≤ a) (ha2 : a < 2 ^ 250) (hb : 1 ≤ b) (hb2 : b < 2 ^ 250) (hc : 1 ≤ c) (hc2 : c < 2 ^ 250) (k : ∀ r H', 0 ≤ r → (r < a ∨ r < b ∨ r < c) → SB [p] H H' → PuG H' p → Q (.int r) H') :
    tCall spTakeG [] E0 (tCons (tVar i) (tCons (tOp (rIxL K) (tLst (tCons (tC (.int a)) (tCons (tC (.int b)) (tCons (tC (.int c)) tNil)))) (tCall spTakeG [] E0 (tCons (tVar i) (tCons (tC (.int 3)) tNil)))) tNil)) σ H Q := by
  refine ⟨_, hσ, (by show 3 ≤ sizeLine; decide), fun la hla => ?_⟩
  have t := SB.new (ps := []) hla (.lst [.int a, .int b, .int c])
  refine ⟨_, hσ, p, 3, rfl, hp.new hla, by decide, by decide, fun r H1 r0 r2 s1 hp1 => ?_⟩
  have hla1 := s1.keep _ _ (show (upd H la (.lst [.int a, .int b, .int c])) la = some _ from upd_same) (by simpa using fun z : la = p => hp.ne hla z.symm)
  obtain ⟨z, hz, z1, z2, z3⟩ : ∃ z : Int, atI [V.int a, V.int b, V.int c] r = some (.int z) ∧ 1 ≤ z ∧ z < 2 ^ 250 ∧ (z = a ∨ z = b ∨ z = c) := by
    have : r = 0 ∨ r = 1 ∨ r = 2 := by omega
    rcases this with h | h | h <;> subst h
    · exact ⟨a, rfl, ha, ha2, .inl rfl⟩
    · exact ⟨b, rfl, hb, hb2, .inr (.inl rfl)⟩
    · exact ⟨c, rfl, hc, hc2, .inr (.inr rfl)⟩
  refine ⟨la, _, _, _, rfl, rfl, SqL.of hla1, hz, p, z, rfl, hp1, z1, z2, fun r3 H3 r30 r3z s3 hp3 => ?_⟩
  refine k r3 H3 r30 ?_ ((t.nil.trans s1).trans s3) hp3
  rcases z3 with h | h | h <;> subst h
  · exact .inl r3z
  · exact .inr (.inl r3z)
  · exact .inr (.inr r3z)
end
/-- the bound of drawn groves -/
abbrev C60 : Int := 60 * 10 ^ 58 + 1
theorem Gr.eqvT {g k : Gr} (h : g = k) : PyData.eqv g.enc k.enc = true := by rw [Gr.eqv_enc]; exact decide_eq_true h
/-- the head of a law over groves: a head's purse, names, and what is kept -/
structure Hd (K : PySem.W.Frag) (H H3 : Hp) (p0 nm : Addr) (ks : List Str) : Prop where
  hp : PuG H3 p0
  hnm : H3 nm = some (.lst (ks.map V.str))
  k1 : 1 ≤ ks.length
  k8 : ks.length ≤ 8
  kn : ∀ k ∈ ks, NameOk k
  ne : nm ≠ p0
  sb : SB [p0] H H3
  np : H p0 = none
theorem Hd.step {K : PySem.W.Frag} {H H3 H4 : Hp} {p0 nm : Addr} {ks : List Str} (h : Hd K H H3 p0 nm ks) (s : SB [p0] H3 H4) (hp : PuG H4 p0) : Hd K H H4 p0 nm ks :=
  ⟨hp, s.keep _ _ h.hnm (by simpa using h.ne), h.k1, h.k8, h.kn, h.ne, h.sb.trans s, h.np⟩
theorem Hd.still {K : PySem.W.Frag} {H H3 H4 : Hp} {p0 nm : Addr} {ks : List Str} (h : Hd K H H3 p0 nm ks) (s : SB [] H3 H4) : Hd K H H4 p0 nm ks := h.step s.nil (h.hp.sb s)
theorem Hd.sql {K : PySem.W.Frag} {H H3 : Hp} {p0 nm : Addr} {ks : List Str} (h : Hd K H H3 p0 nm ks) {a : Addr} {xs : List V} (hs : SqL K H a xs) : SqL K H3 a xs := (h.sb.drop h.np).sqL List.not_mem_nil hs
section
variable {K : PySem.W.Frag} {H : Hp} {D : Ends} {a : Addr} {ns : List Int} {σ : L2.St} {i j : Nat} {tb : TS}
/-- head = _law_purse(script, 0); names = _law_names(_law_purse(script, 1)) -/
theorem law_head (hσ : σ[0]? = some (some (.ref a))) (hi : i ≠ 0) (hs : SqL K H a (ns.map V.int)) (h63 : ns.length ≤ 63) (k : ∀ (p0 nm : Addr) (ks : List Str) (H3 : Hp), Hd K H H3 p0 nm ks → tb D ((σ.set i (some (.ref p0))).set j (some (.ref nm))) H3) :
    tSeq (tAsg (tCall (spPurseG K) [] E0 (tCons (tVar 0) (tCons (tC (.int 0)) tNil))) (gName i)) (tSeq (tAsg (tCall (spNamesG K) [] E0 (tCons (tCall (spPurseG K) [] E0 (tCons (tVar 0) (tCons (tC (.int 1)) tNil))) tNil)) (gName j)) tb) D σ H := by
  refine ⟨_, hσ, a, ns, 0, rfl, hs, h63, by omega, fun p0 H1 s1 np0 hp0 => ?_⟩
  have hσ2 : (σ.set i (some (.ref p0)))[0]? = some (some (.ref a)) := by rw [List.getElem?_set_ne hi]; exact hσ
  refine ⟨_, hσ2, a, ns, 1, rfl, s1.sqL List.not_mem_nil hs, h63, by omega, fun p1 H2 s2 np1 hp1 => ?_⟩
  have p01 : p0 ≠ p1 := hp0.ne np1
  refine ⟨p1, rfl, hp1, fun nm ks H3 s3 hp1' nmn hnm kl1 kl8 kn => ?_⟩
  refine k p0 nm ks H3 ⟨(hp0.sb s2).keep s3 (by simpa using p01), hnm, kl1, kl8, kn, fun z => (hp0.sb s2).ne nmn z.symm, ?_, np0⟩
  have s23 : SB [p1] H1 H3 := s2.nil.trans s3
  exact (s1.trans (s23.drop np1)).nil
end
end FT
namespace FT
open PySem PySem.W PySem.Spec PyProof.Rows L2
/-! ## enumerate(t), t a tuple -/
open PySem.Sem in
theorem enumT_new {v : Value} {o : Obj} {Hh : Heap → Prop} (Bg : Begins v o Hh) :
    Meets (Builtin.«enumerate.__new__» ⟨[.type "enumerate", v], []⟩) (fun _ R s => Hh s.heap ∧ R (.ok (.ret (.ref (s.heap.push o).objs.size))) { s with heap := (s.heap.push o).push { cls := .type "enumerate", data := .fields #[.none, .bool false, .ref s.heap.objs.size, rawInt 0, .none, .none] } }) :=
  .of_wp fun prog w A R s h => by
    obtain ⟨hp, g, d, tk, os⟩ := s
    obtain ⟨h1, h⟩ := h
    have hsub := sub_enumerate
    have go : ∀ {A2 : Around} {E2 : Value → Shared → Prop} {Q2 : Value → Shared → Prop}, Q2 (.ref hp.objs.size) ⟨hp.push o, g, d, tk, os⟩ → wpAny (model prog w) A2 (pyIter v) Q2 E2 ⟨hp, g, d, tk, os⟩ := fun z => Bg.iter prog w _ _ ⟨hp, g, d, tk, os⟩ _ h1 z
    wp_walk using go
    refine wpAny_stack_any fun stk => wpAny_pure ?_
    split
    · rename_i cl _ _ _ _ _
      cases (cl == Value.type "enumerate") <;> (wp_walk using go; exact ⟨_, rfl, h⟩)
    · wp_walk using go; exact ⟨_, rfl, h⟩
section
variable {prog : Program} {w : World} {A : Around} {E : Value → Shared → Prop} {s : Shared}
theorem call_enumT {t : Addr} {items : Array Value} {Q : Value → Shared → Prop} (hT : s.heap.IsTuple t items)
    (h : ∀ h2, IsEnum h2 (s.heap.objs.size + 1) s.heap.objs.size 0 .none → h2.IsTupleIter s.heap.objs.size t 0 → (∀ b ob, s.heap.get? b = some ob → h2.get? b = some ob) → Q (.ref (s.heap.objs.size + 1)) { s with heap := h2 }) : wpAny (model prog w) A (call (.type "enumerate") [.ref t]) Q E s := by
  have Bg := begins_tuple t items
  refine callType_new F.called_enumerate (by decide) (F.typeCall_enumerate_1 _) (F.newCall_enumerate_1 _) (fun ob => F.args_object_init_2 ob _) F.entry_enumerate_new (enumT_new Bg) ⟨hT, ?_⟩
  have hz : (s.heap.push { cls := .type "tuple_iterator", data := .fields #[.ref t, .int 0 0] }).objs.size = s.heap.objs.size + 1 := Heap.size_push ..
  show _ ∧ _
  rw [hz]
  have he : IsEnum ((s.heap.push { cls := .type "tuple_iterator", data := .fields #[.ref t, .int 0 0] }).push { cls := .type "enumerate", data := .fields #[.none, .bool false, .ref s.heap.objs.size, rawInt 0, .none, .none] }) (s.heap.objs.size + 1) s.heap.objs.size 0 .none := by
    have z := Heap.get?_push_size (s.heap.push { cls := .type "tuple_iterator", data := .fields #[.ref t, .int 0 0] }) (o := { cls := .type "enumerate", data := .fields #[.none, .bool false, .ref s.heap.objs.size, rawInt 0, .none, .none] }) rfl
    rw [hz] at z
    exact z
  exact ⟨⟨_, he, rfl⟩, h _ he ⟨_, Heap.get?_push_of_some _ (Heap.get?_push_size _ rfl), rfl, rfl⟩ fun b ob x => Heap.get?_push_of_some _ (Heap.get?_push_of_some _ x)⟩
end
/-- the tuple at a, each item in a new pair with its number -/
def IteT (K : PySem.W.Frag) (a : Addr) : It :=
  ⟨fun i H => ∃ (xs : List V) (x : V), SqT K H a xs ∧ xs[i]? = some x,
    fun i H v H2 => ∃ T x, v = .ref T ∧ H T = none ∧ H2 = upd H T (.tup [.int (i : Nat), x]) ∧ ∀ xs, SqT K H a xs → xs[i]? = some x,
    fun i H => ∃ xs : List V, SqT K H a xs ∧ xs.length = i⟩
theorem turn_enumT {P : Program} {w : World} {K : PySem.W.Frag} {elts : List Expr} {kk : Nat} {tpos : Pos} (a e it : Addr) (hei : e ≠ it) (hai : a ≠ it) (hea : e ≠ a) :
    Turn P w K (.Tuple elts kk tpos) (IteT K a) [e, it] e (fun i h => (∃ old, IsEnum h e it ((i : Nat) : Int) old) ∧ h.IsTupleIter it a i) where
  mem := by simp
  obj := fun i h st b hb => by
    obtain ⟨⟨old, he⟩, o, ho, hc, hd⟩ := st
    rcases (show b = e ∨ b = it by simpa using hb) with z | z
    · rw [z]; exact ⟨_, he, fun v q => nomatch q⟩
    · rw [z]; exact ⟨o, ho, fun v q => by rw [hd] at q; cases q⟩
  keep := fun i h h2 st k => let ⟨⟨old, he⟩, o, ho, r⟩ := st; ⟨⟨old, k e (by simp) _ he⟩, o, k it (by simp) o ho, r⟩
  item := by
    intro X hP hw hK hc i pins s σ H E I hf st hg
    subst hP hw hK
    obtain ⟨⟨old, he⟩, hit⟩ := st
    obtain ⟨xs, x, hq, hx⟩ := hg
    obtain ⟨its, rv, p, hz⟩ := I.tuple hq
    obtain ⟨u, hu, ru⟩ := rv.get hx
    have hel : e < s.heap.objs.size := Heap.lt_size he
    have hil : it < s.heap.objs.size := by obtain ⟨_, z, _⟩ := hit; exact Heap.lt_size z
    have Dr := Draws.tuple (prog := X.prog) (w := X.w) (A := X.A.in1) (I.ok.hd hc) it a hai its.toArray
    have hlt : i < its.toArray.size := by
      have := (List.getElem?_eq_some_iff.mp hu).1
      simpa using this
    refine wpAny_pyNext_enum_itemD Dr he ⟨hit, p⟩ hlt hei (by simp [hei, hea]) fun y h2 tk hy ho hst hT hsz hk => ?_
    have hyu : y = u := by
      have h3 : its[i]? = some y := by simpa using hy
      rw [hu] at h3; exact (Option.some.inj h3).symm
    subst hyu
    refine ⟨_, rfl, wpAny_letOwnedTupleGo_enum (s := { s with heap := h2, toks := tk + 1 }) ho fun h3 he3 sb => ?_⟩
    have hT2 : h3.get? s.heap.objs.size = some { cls := .type "tuple", data := .seq #[.int i tk, y] } := (sb.2 _ (Nat.ne_of_gt hel)).trans hT
    have nw : ObjOk X.prog X.w (upd H s.heap.objs.size (.tup [.int (i : Nat), x])) h3 s.heap.objs.size (.tup [.int (i : Nat), x]) := ⟨by show 2 ≤ sizeLine; decide, [.int i tk, y], .cons ⟨_, rfl⟩ (.cons ru .nil), ⟨_, hT2, rfl, _, rfl⟩⟩
    have I1 : Inv X pins σ (upd H s.heap.objs.size (.tup [.int (i : Nat), x])) { s with heap := h3, toks := tk + 1 } := I.turnedNew (ch := [e, it]) (fun b ob hb z => (sb.2 b (fun y => hb (by simp [y]))).trans (hk b ob (fun y => hb (by simp [y])) (fun y => hb (by simp [y])) z)) hf (Nat.le_refl _) nw
    refine ⟨.ref s.heap.objs.size, _, I1, rfl, ⟨_, x, rfl, I.hok.fresh (Nat.le_refl _), rfl, fun ys hy => by rw [I.tuple_inj hy hq]; exact hx⟩, ⟨⟨y, ?_⟩, ?_⟩, fun b hb => ?_⟩
    · rw [show ((i + 1 : Nat) : Int) = (i : Int) + 1 by omega]; exact he3
    · obtain ⟨o, ho2, r⟩ := hst.1
      exact ⟨o, (sb.2 it (Ne.symm hei)).trans ho2, r⟩
    · have hb2 : b < s.heap.objs.size := by
        rcases (show b = e ∨ b = it by simpa using hb) with z | z
        · rw [z]; exact hel
        · rw [z]; exact hil
      rw [upd_ne (Nat.ne_of_lt hb2)]; exact (hf b hb).1
  done := by
    intro X hP hw hK hc i pins s σ H E I hf st hg
    subst hP hw hK
    obtain ⟨⟨old, he⟩, hit⟩ := st
    obtain ⟨xs, hq, hx⟩ := hg
    obtain ⟨its, rv, p, hz⟩ := I.tuple hq
    obtain ⟨f0, f1, f2, f3, f4, f5⟩ := hf it (by simp)
    have hl := rv.length
    have ht : s.heap.IsTuple a its.toArray := p
    have Dr := Draws.tuple (prog := X.prog) (w := X.w) (A := X.A.in1) (I.ok.hd hc) it a hai its.toArray
    have hn : its.toArray.size = i := by simp; omega
    refine wpAny_pyNext_enum_endD Dr he ⟨by rw [hn]; exact hit, ht⟩ fun h2 eb => ⟨rfl, I.turned (t' := s.toks) (fun b o hb z => eb b o hb z) f0 f1 f3 f4 f5⟩
  self := fun A i s Q E st h => let ⟨⟨_, he⟩, _⟩ := st; wpAny_pyIter_enum he h
def iEnumT (K : PySem.W.Frag) (te : TE) : TI := fun σ H R => te σ H fun v H1 => ∃ a xs, v = .ref a ∧ SqT K H1 a xs ∧ R (IteT K a) H1
theorem pi_enumT {X : Cx} {ex : Expr} {te : TE} {p pos tpos : Pos} {elts : List Expr} {kk : Nat} (hg : Gl X "enumerate") (hm : X.mg "enumerate" = none) (he : PE X ex te) (hs : starEach [ex] X.env = (false, eval ex X.env) :: starEach [] X.env := by rfl) :
    PI X (.Tuple elts kk tpos) (.Call (.Name "enumerate" p) [ex] [] pos) (iEnumT X.K te) := by
  refine ⟨fun pins s σ H R I h => ?_⟩
  refine Call_ (ld_blt I hg hm boot_enumerate (PyProof.Rows.callWith_type1 (args_cons (thn (he.run pins s σ H _ I h) fun u s1 ⟨v, H1, I1, r1, q1⟩ => args_nil ?_) hs) hs rfl))
  obtain ⟨a, xs, ev, hq, q⟩ := q1
  subst ev
  cases r1
  obtain ⟨its, rv, pt, hz⟩ := I1.tuple hq
  have ht : s1.heap.IsTuple a its.toArray := pt
  have hal : a < s1.heap.objs.size := by obtain ⟨_, z, _⟩ := ht; exact Heap.lt_size z
  refine call_enumT ht fun h2 he2 hit hk => wpAny_pyIter_enum he2 ?_
  have I2 : Inv X pins σ H1 { s1 with heap := h2 } := I1.kept (t' := s1.toks) hk
  refine ⟨s1.heap.objs.size + 1, [s1.heap.objs.size + 1, s1.heap.objs.size], _, _, H1, rfl, I2, turn_enumT a (s1.heap.objs.size + 1) s1.heap.objs.size (Nat.succ_ne_self _) (Nat.ne_of_lt hal) (Nat.ne_of_gt (Nat.lt_succ_of_lt hal)), ⟨⟨.none, he2⟩, hit⟩, fun b hb => ?_, q⟩
  have hle : s1.heap.objs.size ≤ b := by
    rcases (show b = s1.heap.objs.size + 1 ∨ b = s1.heap.objs.size by simpa using hb) with z | z
    · rw [z]; exact Nat.le_add_right _ _
    · rw [z]; exact Nat.le_refl _
  exact I1.fpOk hle (I1.hok.fresh hle)
theorem walk_enumT {K : PySem.W.Frag} {a : Addr} {xs : List V} : Walk (IteT K a) xs.length (fun H => SqT K H a xs) (YPair (fun i => some (.int (i : Nat))) (fun i => xs[i]?)) := by
  refine ⟨fun i _ hi q => ⟨xs, xs[i], q, by simp [hi]⟩, fun _ q => ⟨xs, q, rfl⟩, fun i H v H2 _ q y => ?_⟩
  obtain ⟨T, x, h1, h2, h3, h4⟩ := y
  exact ⟨T, .int (i : Nat), x, h1, h2, h3, rfl, h4 xs q⟩
end FT
namespace FT
open PySem PySem.W PySem.Spec PyProof.Rows L2
/-! ## places -/
abbrev Pl := List Nat
def plInts (p : Pl) : List PyData := p.map fun n : Nat => .int (n : Int)
def plEnc (p : Pl) : PyData := .tuple (plInts p)
theorem pl_alikes : ∀ p q : Pl, alikeAll (plInts p) (plInts q) = true
  | [], _ => by simp [plInts, alikeAll]
  | _ :: _, [] => by simp [plInts, alikeAll]
  | a :: p, b :: q => by
    have := pl_alikes p q
    show alikeAll (.int a :: plInts p) (.int b :: plInts q) = true
    simp [alikeAll, alike, this]
theorem pl_eqvs : ∀ p q : Pl, PyData.eqvAll (plInts p) (plInts q) = decide (p = q)
  | [], [] => by simp [plInts, PyData.eqvAll]
  | [], _ :: _ => by simp [plInts, PyData.eqvAll]
  | _ :: _, [] => by simp [plInts, PyData.eqvAll]
  | a :: p, b :: q => by
    have ih := pl_eqvs p q
    show PyData.eqvAll (.int a :: plInts p) (.int b :: plInts q) = _
    simp only [PyData.eqvAll, PyData.eqv, ih, ib]
    by_cases h : a = b
    · subst h; simp
    · have : ¬ ((a : Int) = (b : Int)) := by omega
      simp [h, this]
instance : Orderly plEnc where
  al a b := by show alike (.tuple _) (.tuple _) = true; rw [alike]; exact pl_alikes a b
  eq a b := by show PyData.eqv (.tuple _) (.tuple _) = _; rw [PyData.eqv]; exact pl_eqvs a b
theorem pl_lt_cons (a b : Nat) (p q : Pl) : dataLt (plEnc (a :: p)) (plEnc (b :: q)) = if a = b then dataLt (plEnc p) (plEnc q) else decide (a < b) := by
  show dataLt (.tuple (.int a :: plInts p)) (.tuple (.int b :: plInts q)) = _
  rw [dataLt_tuple, dataLt_cons (by simp [alike])]
  have e1 : PyData.eqv (.int (a : Int)) (.int (b : Int)) = decide (a = b) := by
    simp only [PyData.eqv, ib]
    by_cases h : a = b
    · subst h; simp
    · have : ¬ ((a : Int) = (b : Int)) := by omega
      simp [h, this]
  rw [e1]
  by_cases h : a = b
  · rw [if_pos (by simp [h]), if_pos h]
    show _ = dataLt (.tuple (plInts p)) (.tuple (plInts q))
    rw [dataLt_tuple]
  · rw [if_neg (by simp [h]), if_neg h, dataLt_int]
    by_cases h2 : a < b
    · rw [decide_eq_true h2]; exact decide_eq_true (by omega)
    · rw [decide_eq_false h2]; exact decide_eq_false (by omega)
theorem pl_noList (p : Pl) : noList (plEnc p) = true := by
  have : ∀ p : Pl, noLists (plInts p) = true := by
    intro p
    induction p with
    | nil => simp [plInts, noLists]
    | cons a r ih => show noLists (.int a :: plInts r) = true; simp [noLists, noList, ih]
  show noList (.tuple _) = true
  rw [noList]; exact this p
theorem pl_depths (p : Pl) : PyData.depthAll (plInts p) = 0 := by
  induction p with
  | nil => simp [plInts, PyData.depthAll]
  | cons a r ih => show PyData.depthAll (.int a :: plInts r) = 0; simp [PyData.depthAll, PyData.depth, ih]
theorem pl_depth (p : Pl) : (plEnc p).depth = 1 := by show (PyData.tuple _).depth = 1; simp [PyData.depth, pl_depths]
theorem pl_plain (p : Pl) : plSs (plInts p) = true := by
  induction p with
  | nil => simp [plInts, plSs]
  | cons a r ih => show plSs (.int a :: plInts r) = true; simp [plSs, plS, ih]
theorem pl_nodes (p : Pl) : nodesS (plInts p) = p.length := by
  induction p with
  | nil => simp [plInts, nodesS]
  | cons a r ih => show nodesS (.int a :: plInts r) = r.length + 1; simp [nodesS, nodes, ih]; omega
theorem pl_lay (p : Pl) : (plEnc p).canLay0 = true := plS_lay _ (by show plS (.tuple _) = true; rw [plS]; exact pl_plain p)
theorem pls_shaped (ps : List Pl) : SeqAt.shaped (.list (ps.map plEnc)) = true := by
  have h1 : PyData.canLayAll0 (ps.map plEnc) = true := by
    induction ps with
    | nil => simp [PyData.canLayAll0]
    | cons b r ih => rw [List.map_cons, PyData.canLayAll0, ih, pl_lay]; rfl
  have h2 : PyData.depthAll (ps.map plEnc) ≤ 1 := by
    clear h1
    induction ps with
    | nil => simp [PyData.depthAll]
    | cons b r ih => rw [List.map_cons, PyData.depthAll, pl_depth]; omega
  unfold SeqAt.shaped
  rw [PyData.canLay0, h1, Bool.true_and]
  have h3 : (PyData.list (ps.map plEnc)).depth = PyData.depthAll (ps.map plEnc) + 1 := by simp [PyData.depth]
  exact decide_eq_true (by omega)
theorem pls_eqv (ps : List Pl) : PyData.eqv (.list (ps.map plEnc)) (.list (ps.map plEnc)) = true := by
  rw [PyData.eqv]
  induction ps with
  | nil => simp [PyData.eqvAll]
  | cons b r ih =>
    rw [List.map_cons, PyData.eqvAll, ih, Orderly.eq (enc := plEnc)]; simp
theorem PL_ints {K : PySem.W.Frag} {H : Hp} {v : V} {p : Pl} (h : Dp K H v (plEnc p)) : ∃ a, v = .ref a ∧ SqT K H a (p.map fun n : Nat => V.int (n : Int)) := by
  have key : ∀ {p : Pl} {xs : List V}, DpAll K H xs (plInts p) → xs = p.map fun n : Nat => V.int (n : Int) := by
    intro p
    induction p with
    | nil => intro xs h; cases h; rfl
    | cons a r ih =>
      intro xs h
      cases h with
      | cons h1 h2 => cases h1; rw [ih h2]; rfl
  cases h with
  | tup hs ha => rw [key ha] at hs; exact ⟨_, rfl, hs⟩
theorem PL_of {K : PySem.W.Frag} {H : Hp} {a : Addr} {p : Pl} (h : SqT K H a (p.map fun n : Nat => V.int (n : Int))) : Dp K H (.ref a) (plEnc p) := by
  refine Dp.tup h ?_
  have key : ∀ p : Pl, DpAll K H (p.map fun n : Nat => V.int (n : Int)) (plInts p) := by
    intro p
    induction p with
    | nil => exact .nil
    | cons a r ih => exact .cons (.int _) ih
  exact key p
namespace Gr
/-- the places of bare trees, from the number i on -/
def bp : Gr → Nat → List Pl
  | .nil, _ => []
  | .cons _ g _ r, i => (if g = .nil then [[i]] else (g.bp 0).map (i :: ·)) ++ r.bp (i + 1)
def bpP (p : Tr × Int) (i : Nat) : List Pl := if p.1.2 = .nil then [[i]] else (p.1.2.bp 0).map (i :: ·)
def bps : List (Tr × Int) → Nat → List Pl
  | [], _ => []
  | p :: r, i => bpP p i ++ bps r (i + 1)
theorem bp_ps : ∀ (g : Gr) (i : Nat), g.bp i = bps g.ps i
  | .nil, _ => rfl
  | .cons k g m r, i => by show _ ++ r.bp (i + 1) = _ ++ bps r.ps (i + 1); rw [bp_ps r]; rfl
theorem bps_append : ∀ (as bs : List (Tr × Int)) (i : Nat), bps (as ++ bs) i = bps as i ++ bps bs (i + as.length)
  | [], bs, i => by simp [bps]
  | p :: r, bs, i => by
    show bpP p i ++ bps (r ++ bs) (i + 1) = _
    rw [bps_append r bs (i + 1)]
    show _ = (bpP p i ++ bps r (i + 1)) ++ bps bs (i + (r.length + 1))
    rw [List.append_assoc, show i + 1 + r.length = i + (r.length + 1) by omega]
theorem bps_take {bs : List (Tr × Int)} {i : Nat} {p : Tr × Int} (h : bs[i]? = some p) : bps (bs.take (i + 1)) 0 = bps (bs.take i) 0 ++ bpP p i := by
  have hl : i < bs.length := (List.getElem?_eq_some_iff.mp h).1
  rw [List.take_add_one, h, bps_append, List.length_take, Nat.min_eq_left (by omega), Nat.zero_add]
  show _ ++ (bpP p i ++ []) = _
  rw [List.append_nil]
theorem bp_len : ∀ (g : Gr) (i : Nat), (g.bp i).length ≤ g.parts
  | .nil, _ => Nat.zero_le _
  | .cons k g m r, i => by
    have h1 := bp_len g 0
    have h2 := bp_len r (i + 1)
    show (_ ++ r.bp (i + 1)).length ≤ 1 + g.parts + r.parts
    rw [List.length_append]
    split
    · show 1 + _ ≤ _; omega
    · rw [List.length_map]; omega
theorem bp_long : ∀ (g : Gr) (i : Nat), ∀ p ∈ g.bp i, p.length ≤ g.deep
  | .nil, _, p, h => by cases h
  | .cons k g m r, i, p, h => by
    have h1 := bp_long g 0
    have h2 := bp_long r (i + 1)
    show p.length ≤ max (1 + g.deep) r.deep
    rcases List.mem_append.mp h with h | h
    · by_cases hg : g = .nil
      · rw [if_pos hg] at h
        have : p = [i] := by simpa using h
        subst this; show 1 ≤ _; omega
      · rw [if_neg hg] at h
        obtain ⟨q, hq, rfl⟩ := List.mem_map.mp h
        have := h1 q hq
        show q.length + 1 ≤ _; omega
    · have := h2 p h; omega
theorem bp_head : ∀ (g : Gr) (i : Nat), ∀ p ∈ g.bp i, ∃ h t, p = h :: t ∧ i ≤ h
  | .nil, _, p, h => by cases h
  | .cons k g m r, i, p, h => by
    rcases List.mem_append.mp h with h | h
    · by_cases hg : g = .nil
      · rw [if_pos hg] at h
        exact ⟨i, [], by simpa using h, Nat.le_refl _⟩
      · rw [if_neg hg] at h
        obtain ⟨q, hq, rfl⟩ := List.mem_map.mp h
        exact ⟨i, q, rfl, Nat.le_refl _⟩
    · obtain ⟨a, t, e, ha⟩ := bp_head r (i + 1) p h
      exact ⟨a, t, e, by omega⟩
/-- they come in their order -/
theorem bp_rise : ∀ (g : Gr) (i : Nat), (g.bp i).Pairwise (fun a b => dataLt (plEnc b) (plEnc a) = false)
  | .nil, _ => List.Pairwise.nil
  | .cons k g m r, i => by
    have h1 := bp_rise g 0
    have h2 := bp_rise r (i + 1)
    show (_ ++ r.bp (i + 1)).Pairwise _
    rw [List.pairwise_append]
    refine ⟨?_, h2, fun a ha b hb => ?_⟩
    · split
      · exact List.pairwise_singleton _ _
      · rw [List.pairwise_map]
        exact h1.imp fun {a b} hab => by rw [pl_lt_cons, if_pos rfl]; exact hab
    · obtain ⟨hb1, tb, rfl, hbi⟩ := bp_head r (i + 1) b hb
      have : ∃ t, a = i :: t := by
        by_cases hg : g = .nil
        · rw [if_pos hg] at ha; exact ⟨[], by simpa using ha⟩
        · rw [if_neg hg] at ha
          obtain ⟨q, _, rfl⟩ := List.mem_map.mp ha
          exact ⟨q, rfl⟩
      obtain ⟨t, rfl⟩ := this
      rw [pl_lt_cons, if_neg (by omega)]
      exact decide_eq_false (by omega)
end Gr
def spBareP (K : PySem.W.Frag) (n : Nat) : Sp := fun vs H Q _ => ∃ (v : V) (g : Gr), vs = [v] ∧ GA K H v g ∧ g.deep < n ∧ g.deep ≤ 100 ∧ g.parts ≤ 1000 ∧ ∀ (D : Addr) (us : List V) (H' : Hp), SB [] H H' → H D = none → H' D = some (.lst us) → Bears K H' plEnc us (g.bp 0) → Q (.ref D) H'
section
variable {P : Program} {w : World} {K : PySem.W.Frag} {mg : Str → Option Value} {base : Heap} {f : Addr} {fd : FuncData}
theorem none_bare_places {ps : List Str} {k : Nat} : FnOk P w K mg base CX0 k f fd ps (spBareP K 0) := none_sp fun vs H Q E ⟨v, l, _, _, h, _⟩ => by omega
end
end FT
namespace FT
open PySem PySem.W PySem.Spec PyProof.Rows L2
/-! ## trees at places -/
/-- a thing in a place: which whole number it is, if it is one -/
def Wh (K : PySem.W.Frag) (H : Hp) (v : V) (o : Option Int) : Prop := (∃ i, v = .int i ∧ o = some i) ∨ (o = none ∧ ∃ (n : String) (b1 b2 : Bool), TyX K H v (.type n) ∧ kitB n "int" = some b1 ∧ (b1 = true → kitB n "bool" = some b2) ∧ (b1 && !b2) = false)
inductive Whs (K : PySem.W.Frag) (H : Hp) : List V → List (Option Int) → Prop where
  | nil : Whs K H [] []
  | cons {v : V} {o : Option Int} {vs : List V} {os : List (Option Int)} : Wh K H v o → Whs K H vs os → Whs K H (v :: vs) (o :: os)
section
variable {K : PySem.W.Frag} {H H' : Hp}
theorem Whs.length : ∀ {vs : List V} {os : List (Option Int)}, Whs K H vs os → vs.length = os.length
  | _, _, .nil => rfl
  | _, _, .cons _ h => congrArg (· + 1) h.length
theorem Whs.get : ∀ {vs : List V} {os : List (Option Int)}, Whs K H vs os → ∀ {i : Nat} {v : V}, vs[i]? = some v → ∃ o, os[i]? = some o ∧ Wh K H v o
  | _, _, .nil, i, v, e => by simp at e
  | _, _, .cons (o := o) h hs, 0, v, e => by
    have : _ = v := Option.some.inj e
    subst this; exact ⟨o, rfl, h⟩
  | _, _, .cons h hs, i + 1, v, e => hs.get (i := i) e
theorem Whs.append : ∀ {vs us : List V} {os ps : List (Option Int)}, Whs K H vs os → Whs K H us ps → Whs K H (vs ++ us) (os ++ ps)
  | _, _, _, _, .nil, h => h
  | _, _, _, _, .cons a b, h => .cons a (b.append h)
theorem Wh.sb {v : V} {o : Option Int} (h : Wh K H v o) (e : SB [] H H') : Wh K H' v o := by
  rcases h with h | ⟨h, n, b1, b2, ty, k⟩
  · exact .inl h
  · exact .inr ⟨h, n, b1, b2, TyX_sb e (fun _ _ => List.not_mem_nil) ty, k⟩
theorem Whs.sb (e : SB [] H H') : ∀ {vs : List V} {os : List (Option Int)}, Whs K H vs os → Whs K H' vs os
  | _, _, .nil => .nil
  | _, _, .cons h hs => .cons (h.sb e) (Whs.sb e hs)
def plO (p : Pl) : List (Option Int) := p.map fun n : Nat => some (n : Int)
theorem Whs.pl (K : PySem.W.Frag) (H : Hp) : ∀ p : Pl, Whs K H (p.map fun n : Nat => V.int (n : Int)) (plO p)
  | [] => .nil
  | n :: r => .cons (.inl ⟨_, rfl, rfl⟩) (Whs.pl K H r)
end
def stp (g : Gr) : Option Int → Option Tr
  | none => none
  | some n => if 0 ≤ n then (g.ps[n.toNat]?).map (·.1) else none
def lk : Tr → List (Option Int) → Option Tr
  | t, [] => some t
  | t, o :: r => (stp t.2 o).bind fun u => lk u r
theorem lk_append : ∀ (t : Tr) (as bs : List (Option Int)), lk t (as ++ bs) = (lk t as).bind fun u => lk u bs
  | t, [], bs => rfl
  | t, o :: r, bs => by
    show (stp t.2 o).bind (fun u => lk u (r ++ bs)) = ((stp t.2 o).bind fun u => lk u r).bind fun u => lk u bs
    cases stp t.2 o with
    | none => rfl
    | some u => exact lk_append u r bs
theorem lk_none {t : Tr} {os : List (Option Int)} {i : Nat} {o : Option Int} {u : Tr} (h1 : lk t (os.take i) = some u) (h2 : os[i]? = some o) (h3 : stp u.2 o = none) : lk t os = none := by
  have hl : i < os.length := (List.getElem?_eq_some_iff.mp h2).1
  have e : os = os.take i ++ o :: os.drop (i + 1) := by
    have := List.drop_eq_getElem_cons hl
    rw [(List.getElem?_eq_some_iff.mp h2).2] at this
    rw [← this, List.take_append_drop]
  rw [e, lk_append, h1]
  show (stp u.2 o).bind _ = none
  rw [h3]; rfl
theorem lk_next {t : Tr} {os : List (Option Int)} {i : Nat} {o : Option Int} {u x : Tr} (h1 : lk t (os.take i) = some u) (h2 : os[i]? = some o) (h3 : stp u.2 o = some x) : lk t (os.take (i + 1)) = some x := by
  rw [List.take_add_one, h2, lk_append, h1]
  show (stp u.2 o).bind _ = some x
  rw [h3]; rfl
/-- the tree at a place, or an error of the class at C -/
def spTreeAt (K : PySem.W.Frag) (C : Addr) : Sp := fun vs H Q E => ∃ (v : V) (g : Gr) (a : Addr) (xs : List V) (os : List (Option Int)), vs = [v, .ref a] ∧ GA K H v g ∧ SqT K H a xs ∧ Whs K H xs os ∧
  (∀ t, os ≠ [] → lk ("", g) os = some t → ∀ (x : V) (H' : Hp), SB [] H H' → Dp K H' x (Gr.tEnc t) → Q x H') ∧ ((os = [] ∨ lk ("", g) os = none) → ∀ H', SB [] H H' → E (.ref C) none H')
end FT
namespace FT
open PySem PySem.W PySem.Spec PyProof.Rows L2
/-! ## things of any kind, texts among them; which of them are groves -/
mutual
inductive Tg (K : PySem.W.Frag) (H : Hp) : V → PyData → Prop
  | int (i : Int) : Tg K H (.int i) (.int i)
  | str (z : Str) : z.length ≤ 1000 → Tg K H (.str z) (.str z)
  | tup {a : Addr} {xs : List V} {ds : List PyData} : SqT K H a xs → TgAll K H xs ds → Tg K H (.ref a) (.tuple ds)
  | oth {v : V} {n : String} : TyX K H v (.type n) → kitB n "tuple" = some false → kitB n "str" = some false → (kitB n "int" = some false ∨ n = "bool") → Tg K H v .none
inductive TgAll (K : PySem.W.Frag) (H : Hp) : List V → List PyData → Prop
  | nil : TgAll K H [] []
  | cons {v : V} {vs : List V} {d : PyData} {ds : List PyData} : Tg K H v d → TgAll K H vs ds → TgAll K H (v :: vs) (d :: ds)
end
mutual
/-- the same without its texts -/
def strip : PyData → PyData
  | .int i => .int i
  | .tuple ds => .tuple (strips ds)
  | _ => .none
def strips : List PyData → List PyData
  | [] => []
  | d :: r => strip d :: strips r
end
theorem many_strip (d : PyData) : manyD (strip d) = manyD d := by cases d <;> simp [strip, manyD]
section
variable {K : PySem.W.Frag} {H H' : Hp}
mutual
theorem Tg.th : ∀ {v : V} {d : PyData}, Tg K H v d → Th K [] H v (strip d)
  | _, _, .int i => by rw [strip]; exact .int i
  | _, _, .str z _ => by rw [strip] <;> first | exact .oth (.base (.str z)) (by decide +kernel) (.inl (by decide +kernel)) (fun _ _ => List.not_mem_nil) | simp
  | _, _, .tup hs ha => by rw [strip]; exact .tup hs (TgAll.th ha)
  | _, _, .oth ty k1 _ k2 => by rw [strip] <;> first | exact .oth ty k1 k2 (fun _ _ => List.not_mem_nil) | simp
theorem TgAll.th : ∀ {vs : List V} {ds : List PyData}, TgAll K H vs ds → ThAll K [] H vs (strips ds)
  | _, _, .nil => by rw [strips]; exact .nil
  | _, _, .cons h t => by rw [strips]; exact .cons (Tg.th h) (TgAll.th t)
end
mutual
theorem Tg_sb (e : SB [] H H') : ∀ {v : V} {d : PyData}, Tg K H v d → Tg K H' v d
  | _, _, .int i => .int i
  | _, _, .str z hz => .str z hz
  | _, _, .tup hs ha => .tup (e.sqT hs) (TgAll_sb e ha)
  | _, _, .oth ty k0 k1 k2 => .oth (TyX_sb e (fun _ _ => List.not_mem_nil) ty) k0 k1 k2
theorem TgAll_sb (e : SB [] H H') : ∀ {vs : List V} {ds : List PyData}, TgAll K H vs ds → TgAll K H' vs ds
  | _, _, .nil => .nil
  | _, _, .cons h t => .cons (Tg_sb e h) (TgAll_sb e t)
end
theorem TgAll.length : ∀ {vs : List V} {ds : List PyData}, TgAll K H vs ds → vs.length = ds.length
  | _, _, .nil => rfl
  | _, _, .cons _ t => by rw [List.length_cons, List.length_cons, TgAll.length t]
theorem TgAll.get : ∀ {vs : List V} {ds : List PyData} {i : Nat} {v : V}, TgAll K H vs ds → vs[i]? = some v → ∃ d, ds[i]? = some d ∧ Tg K H v d
  | _, _, _, _, .nil, e => by simp at e
  | _, _, 0, _, .cons h t, e => by simp at e; subst e; exact ⟨_, rfl, h⟩
  | _, _, i + 1, v, .cons h t, e => by
    obtain ⟨d, h1, h2⟩ := TgAll.get (i := i) (v := v) t (by simpa using e)
    exact ⟨d, by simpa using h1, h2⟩
theorem Tg.ty {v : V} {d : PyData} (h : Tg K H v d) : ∃ n b, TyX K H v (.type n) ∧ kitB n "tuple" = some b ∧ (b = true → ∃ a xs ds, v = .ref a ∧ d = .tuple ds ∧ SqT K H a xs ∧ TgAll K H xs ds) ∧ (b = false → ∀ ds, d ≠ .tuple ds) := by
  cases h with
  | int i => exact ⟨"int", false, .base (.int i), by decide +kernel, fun z => (nomatch z), fun _ ds z => nomatch z⟩
  | str z hz => exact ⟨"str", false, .base (.str z), by decide +kernel, fun z => (nomatch z), fun _ ds z => nomatch z⟩
  | tup hs ha => exact ⟨"tuple", true, (SqT_ty hs), by decide +kernel, fun _ => ⟨_, _, _, rfl, rfl, hs, ha⟩, fun z => (nomatch z)⟩
  | oth ty k1 _ k2 => exact ⟨_, false, ty, k1, fun z => (nomatch z), fun _ ds z => nomatch z⟩
theorem Tg.txt {v : V} {d : PyData} (h : Tg K H v d) : ∃ n b, TyX K H v (.type n) ∧ kitB n "str" = some b ∧ (b = true → ∃ z, v = .str z ∧ d = .str z ∧ z.length ≤ 1000) ∧ (b = false → ∀ z, d ≠ .str z) := by
  cases h with
  | int i => exact ⟨"int", false, .base (.int i), by decide +kernel, fun z => (nomatch z), fun _ ds z => nomatch z⟩
  | str z hz => exact ⟨"str", true, .base (.str z), by decide +kernel, fun _ => ⟨z, rfl, rfl, hz⟩, fun z => (nomatch z)⟩
  | tup hs ha => exact ⟨"tuple", false, (SqT_ty hs), by decide +kernel, fun z => (nomatch z), fun _ ds z => nomatch z⟩
  | oth ty _ k1 k2 => exact ⟨_, false, ty, k1, fun z => (nomatch z), fun _ ds z => nomatch z⟩
end
instance (z : Str) : Decidable (NameOk z) := inferInstanceAs (Decidable (_ ∧ _ ∧ _))
def nameD : PyData → Bool
  | .str z => decide (NameOk z)
  | _ => false
mutual
def groveD : PyData → Bool
  | .tuple ds => grPs ds && risingD (ds.map exp0)
  | _ => false
def grPs : List PyData → Bool
  | [] => true
  | d :: ds => grP d && grPs ds
def grP : PyData → Bool
  | .tuple ds => grP2 ds
  | _ => false
def grP2 : List PyData → Bool
  | [] => false
  | t :: r => treeD t && ladP3 r
def treeD : PyData → Bool
  | .tuple ds => trD2 ds
  | _ => false
def trD2 : List PyData → Bool
  | [] => false
  | k :: r => nameD k && trD3 r
def trD3 : List PyData → Bool
  | [] => false
  | g :: r => groveD g && r.isEmpty
end
theorem ladP3_iff {r : List PyData} (h : ladP3 r = true) : ∃ i, r = [.int i] ∧ (1 : Int) ≤ i := by
  match r, h with
  | [], h => simp [ladP3] at h
  | .int i :: [], h => simp [ladP3, manyD] at h; exact ⟨i, rfl, h⟩
  | .int i :: _ :: _, h => simp [ladP3] at h
  | .none :: _, h => simp [ladP3, manyD] at h
  | .bool _ :: _, h => simp [ladP3, manyD] at h
  | .str _ :: _, h => simp [ladP3, manyD] at h
  | .list _ :: _, h => simp [ladP3, manyD] at h
  | .dict _ :: _, h => simp [ladP3, manyD] at h
  | .tuple _ :: _, h => simp [ladP3, manyD] at h
theorem nameD_iff {d : PyData} (h : nameD d = true) : ∃ z, d = .str z ∧ NameOk z := by
  cases d with
  | str z => exact ⟨z, rfl, of_decide_eq_true h⟩
  | _ => simp [nameD] at h
mutual
theorem groveD_gr : ∀ d : PyData, groveD d = true → ∃ g : Gr, d = g.enc
  | .tuple ds, h => by
    rw [groveD, Bool.and_eq_true] at h
    obtain ⟨g, e⟩ := grPs_enc ds h.1
    exact ⟨g, by rw [e]; rfl⟩
  | .none, h => by simp [groveD] at h
  | .bool _, h => by simp [groveD] at h
  | .int _, h => by simp [groveD] at h
  | .str _, h => by simp [groveD] at h
  | .list _, h => by simp [groveD] at h
  | .dict _, h => by simp [groveD] at h
theorem grPs_enc : ∀ ds : List PyData, grPs ds = true → ∃ g : Gr, ds = g.encs
  | [], _ => ⟨.nil, rfl⟩
  | d :: ds, h => by
    rw [grPs, Bool.and_eq_true] at h
    obtain ⟨r, er⟩ := grPs_enc ds h.2
    obtain ⟨t, i, ed, he⟩ := grP_enc d h.1
    exact ⟨.cons t.1 t.2 i r, by rw [er, ed]; rfl⟩
theorem grP_enc : ∀ d : PyData, grP d = true → ∃ (t : Tr) (i : Int), d = .tuple [Gr.tEnc t, .int i] ∧ (1 : Int) ≤ i
  | .tuple ds, h => by
    rw [grP] at h
    obtain ⟨e, i, ed, he⟩ := grP2_enc ds h
    exact ⟨e, i, by rw [ed], he⟩
  | .none, h => by simp [grP] at h
  | .bool _, h => by simp [grP] at h
  | .int _, h => by simp [grP] at h
  | .str _, h => by simp [grP] at h
  | .list _, h => by simp [grP] at h
  | .dict _, h => by simp [grP] at h
theorem grP2_enc : ∀ ds : List PyData, grP2 ds = true → ∃ (t : Tr) (i : Int), ds = [Gr.tEnc t, .int i] ∧ (1 : Int) ≤ i
  | [], h => by simp [grP2] at h
  | d :: r, h => by
    rw [grP2, Bool.and_eq_true] at h
    obtain ⟨t, et⟩ := treeD_tr d h.1
    obtain ⟨i, er, hi⟩ := ladP3_iff h.2
    exact ⟨t, i, by rw [et, er], hi⟩
theorem treeD_tr : ∀ d : PyData, treeD d = true → ∃ t : Tr, d = Gr.tEnc t
  | .tuple ds, h => by
    rw [treeD] at h
    obtain ⟨t, et⟩ := trD2_enc ds h
    exact ⟨t, by rw [et]; rfl⟩
  | .none, h => by simp [treeD] at h
  | .bool _, h => by simp [treeD] at h
  | .int _, h => by simp [treeD] at h
  | .str _, h => by simp [treeD] at h
  | .list _, h => by simp [treeD] at h
  | .dict _, h => by simp [treeD] at h
theorem trD2_enc : ∀ ds : List PyData, trD2 ds = true → ∃ t : Tr, ds = [.str t.1, t.2.enc]
  | [], h => by simp [trD2] at h
  | d :: r, h => by
    rw [trD2, Bool.and_eq_true] at h
    obtain ⟨z, ez, _⟩ := nameD_iff h.1
    obtain ⟨g, eg⟩ := trD3_enc r h.2
    exact ⟨(z, g), by rw [ez, eg]⟩
theorem trD3_enc : ∀ ds : List PyData, trD3 ds = true → ∃ g : Gr, ds = [g.enc]
  | [], h => by simp [trD3] at h
  | d :: r, h => by
    rw [trD3, Bool.and_eq_true] at h
    obtain ⟨g, eg⟩ := groveD_gr d h.1
    have : r = [] := by cases r with | nil => rfl | cons _ _ => simp at h
    exact ⟨g, by rw [eg, this]⟩
end
/-! a grove is a thing, and a thing that is a grove's datum is a grove -/
section
variable {K : PySem.W.Frag} {H : Hp}
theorem GA_tg {C : Int} : ∀ (g : Gr) {vs : List V}, g.Ok C → DpAll K H vs g.encs → TgAll K H vs g.encs
  | .nil, vs, _, h => by cases h; exact .nil
  | .cons k g m r, vs, ho, h => by
    cases h with
    | cons h1 h2 =>
      refine .cons ?_ (GA_tg r ho.2.2.2.2.1 h2)
      cases h1 with
      | tup hs ha =>
        cases ha with
        | cons h3 h4 =>
          cases h4 with
          | cons h5 h6 =>
            cases h6; cases h5
            refine .tup hs (.cons ?_ (.cons (.int _) .nil))
            cases h3 with
            | tup hs2 hb =>
              cases hb with
              | cons h7 h8 =>
                cases h8 with
                | cons h9 h10 =>
                  cases h10; cases h7
                  cases h9 with
                  | tup hs3 hc => exact .tup hs2 (.cons (.str _ (by have := ho.1.2.1; simp [Str.length]; simp at this; omega)) (.cons (.tup hs3 (GA_tg g ho.2.1 hc)) .nil))
theorem Tg_ga : ∀ (g : Gr) {vs : List V}, TgAll K H vs g.encs → DpAll K H vs g.encs
  | .nil, vs, h => by cases h; exact .nil
  | .cons k g m r, vs, h => by
    cases h with
    | cons h1 h2 =>
      refine .cons ?_ (Tg_ga r h2)
      cases h1 with
      | tup hs ha =>
        cases ha with
        | cons h3 h4 =>
          cases h4 with
          | cons h5 h6 =>
            cases h6; cases h5
            refine .tup hs (.cons ?_ (.cons (.int _) .nil))
            cases h3 with
            | tup hs2 hb =>
              cases hb with
              | cons h7 h8 =>
                cases h8 with
                | cons h9 h10 =>
                  cases h10; cases h7
                  cases h9 with
                  | tup hs3 hc => exact .tup hs2 (.cons (.str _) (.cons (.tup hs3 (Tg_ga g hc)) .nil))
end
def spName (K : PySem.W.Frag) : Sp := fun vs H Q _ => ∃ (v : V) (d : PyData), vs = [v] ∧ Tg K H v d ∧ ∀ H', SB [] H H' → Q (.bl (nameD d)) H'
def spIsTree (K : PySem.W.Frag) (n : Nat) : Sp := fun vs H Q _ => ∃ (v : V) (d : PyData), vs = [v] ∧ Tg K H v d ∧ d.depth < n ∧ d.depth ≤ 80 ∧ wide d ≤ 1000 ∧ ∀ H', SB [] H H' → Q (.bl (treeD d)) H'
def spIsGrove (K : PySem.W.Frag) (n : Nat) : Sp := fun vs H Q _ => ∃ (v : V) (d : PyData), vs = [v] ∧ Tg K H v d ∧ d.depth < n ∧ d.depth ≤ 80 ∧ wide d ≤ 1000 ∧ ∀ H', SB [] H H' → Q (.bl (groveD d)) H'
def spPairsQ (K : PySem.W.Frag) (tp : Bool) (n : Nat) : Sp := fun vs H Q _ => ∃ (a : Addr) (xs : List V) (ds : List PyData), vs = [.ref a] ∧ (if tp = true then SqT K H a xs else SqL K H a xs) ∧ TgAll K H xs ds ∧ PyData.depthAll ds < n ∧ PyData.depthAll ds ≤ 79 ∧ wide (.tuple ds) ≤ 1000 ∧ ∀ H', SB [] H H' → Q (.bl (grPs ds)) H'
/-- the run of signs from a place on -/
def spRunOf (K : PySem.W.Frag) : Sp := fun vs H Q _ => ∃ (z y : Str) (k : Nat), vs = [.str z, .int (k : Int), .str y] ∧ z.length ≤ 100000 ∧ k ≤ z.length ∧ ∀ e : Nat, k ≤ e → e ≤ z.length → (∀ j c, k ≤ j → j < e → z.cps.toList[j]? = some c → c ∈ y.cps.toList) → (∀ c, z.cps.toList[e]? = some c → c ∉ y.cps.toList) → Q (.str (cutS z (some (k : Int)) (some (e : Int)))) H
theorem mem_abc (c : Nat) : c ∈ abc.cps.toList ↔ 97 ≤ c ∧ c ≤ 122 := by
  have e : abc.cps.toList = (List.range 26).map (· + 97) := by decide +kernel
  rw [e, List.mem_map]
  constructor
  · rintro ⟨x, hx, rfl⟩
    have := List.mem_range.mp hx
    omega
  · intro h
    exact ⟨c - 97, List.mem_range.mpr (by omega), by omega⟩
theorem len_cps (z : Str) : z.cps.toList.length = z.length := by simp [Str.length]
theorem cut0 (z : Str) {e : Nat} (he : e ≤ z.length) : (cutS z (some ((0 : Nat) : Int)) (some (e : Int))).cps.toList = z.cps.toList.take e := by
  unfold cutS
  rw [HT.sIx_nat, HT.sIx_nat]
  simp [Nat.min_eq_left he]
theorem run_name {z : Str} {e : Nat} (h1 : 1 ≤ z.length) (h8 : z.length ≤ 8) (he : e ≤ z.length) (hin : ∀ j c, 0 ≤ j → j < e → z.cps.toList[j]? = some c → c ∈ abc.cps.toList) (hout : ∀ c, z.cps.toList[e]? = some c → c ∉ abc.cps.toList) :
    decide (V.str (cutS z (some ((0 : Nat) : Int)) (some (e : Int))) = V.str z) = nameD (.str z) := by
  have hl := len_cps z
  rw [Bool.eq_iff_iff, decide_eq_true_iff, nameD, decide_eq_true_iff]
  constructor
  · intro h
    injection h with h
    have h2 := cut0 z he
    rw [h] at h2
    have h3 : z.cps.toList.length = min e z.cps.toList.length := by
      have := congrArg List.length h2
      rwa [List.length_take] at this
    refine ⟨by omega, by omega, fun c hc => ?_⟩
    obtain ⟨j, hj⟩ := List.mem_iff_getElem?.mp hc
    have hj2 := (List.getElem?_eq_some_iff.mp hj).1
    exact (mem_abc c).mp (hin j c (Nat.zero_le _) (by omega) hj)
  · rintro ⟨_, _, hall⟩
    have e1 : e = z.length := by
      rcases Nat.lt_or_ge e z.length with h | h
      · obtain ⟨c, hc⟩ : ∃ c, z.cps.toList[e]? = some c := ⟨_, List.getElem?_eq_getElem (by omega)⟩
        exact absurd ((mem_abc c).mpr (hall c (List.mem_of_getElem? hc))) (hout c hc)
      · omega
    have h2 := cut0 z he
    rw [e1, ← hl, List.take_length] at h2
    congr 1
    have h3 : ∀ a b : Str, a.cps.toList = b.cps.toList → a = b := by
      intro a b hab
      cases a; cases b
      congr 1
      exact Array.toList_inj.mp hab
    rw [e1, ← hl]
    exact h3 _ _ h2
theorem name_out {z : Str} (h : ¬ (1 ≤ z.length ∧ z.length ≤ 8)) : nameD (.str z) = false := by
  have hl := len_cps z
  rw [nameD]
  exact decide_eq_false fun ⟨h1, h2, _⟩ => h ⟨by omega, by omega⟩
end FT
namespace FT
open PySem PySem.W PySem.Spec PyProof.Rows L2
theorem nameD_ok {z : Str} (h : NameOk z) : nameD (.str z) = true := decide_eq_true h
theorem treeD_of {t : Tr} (h0 : NameOk t.1) (h : groveD t.2.enc = true) : treeD (Gr.tEnc t) = true := by
  rw [Gr.tEnc, treeD, trD2, trD3, nameD_ok h0, h]; rfl
theorem grP_of {t : Tr} {m : Int} (h0 : NameOk t.1) (h : groveD t.2.enc = true) (hm : 1 ≤ m) : grP (Gr.pEnc (t, m)) = true := by
  show grP (.tuple [Gr.tEnc t, .int m]) = true
  rw [grP, grP2, ladP3, treeD_of h0 h]
  simp [manyD, hm]
theorem groveD_ok {C : Int} : ∀ {g : Gr}, g.Ok C → groveD g.enc = true
  | .nil, _ => by decide +kernel
  | .cons k g m r, ⟨h0, h1, h2, h3, h4, h5⟩ => by
    have a1 := groveD_ok h1
    have a2 := groveD_ok h4
    rw [Gr.enc, groveD, Bool.and_eq_true] at a2
    have hp : grP (Gr.pEnc ((k, g), m)) = true := grP_of h0 a1 h2
    have e : (Gr.cons k g m r).encs = Gr.pEnc ((k, g), m) :: r.encs := rfl
    rw [Gr.enc, groveD, e, grPs, hp, a2.1, Bool.true_and, Bool.true_and, List.map_cons]
    cases r with
    | nil => rfl
    | cons k2 g2 m2 r2 =>
      have hlt : dataLt (Gr.tEnc (k, g)) (Gr.tEnc (k2, g2)) = true := h5 ((k2, g2), m2) (List.mem_cons_self ..)
      have e2 : (Gr.cons k2 g2 m2 r2).encs = Gr.pEnc ((k2, g2), m2) :: r2.encs := rfl
      have a3 := a2.2
      rw [e2, List.map_cons] at a3 ⊢
      show (dataLt (Gr.tEnc (k, g)) (Gr.tEnc (k2, g2)) :: ltsD _).all id = true
      rw [List.all_cons, show id (dataLt (Gr.tEnc (k, g)) (Gr.tEnc (k2, g2))) = true from hlt, Bool.true_and]
      exact a3
theorem wides_gr : ∀ g : Gr, wides g.encs ≤ 2 + g.parts ∧ g.encs.length ≤ g.parts
  | .nil => ⟨by show wides [] ≤ _; rw [wides]; omega, Nat.le_refl _⟩
  | .cons k g m r => by
    obtain ⟨h1, h2⟩ := wides_gr g
    obtain ⟨h3, h4⟩ := wides_gr r
    have e : (Gr.cons k g m r).encs = Gr.pEnc ((k, g), m) :: r.encs := rfl
    have e2 : wide (Gr.pEnc ((k, g), m)) ≤ 2 + g.parts := by
      show wide (.tuple [.tuple [.str k, .tuple g.encs], .int m]) ≤ _
      simp only [wide, wides, List.length_cons, List.length_nil]
      omega
    rw [e, wides, List.length_cons]
    show _ ≤ 2 + (1 + g.parts + r.parts) ∧ _ ≤ 1 + g.parts + r.parts
    omega
theorem wide_pair (p : Tr × Int) : wide (Gr.pEnc p) ≤ 2 + p.1.2.parts := by
  obtain ⟨h1, h2⟩ := wides_gr p.1.2
  show wide (.tuple [.tuple [.str p.1.1, .tuple p.1.2.encs], .int p.2]) ≤ _
  simp only [wide, wides, List.length_cons, List.length_nil]
  omega
section
variable {K : PySem.W.Frag} {H : Hp} {C : Int}
theorem GA_thing {g : Gr} {v : V} (ho : g.Ok C) (h : GA K H v g) : Tg K H v g.enc := by
  cases (h : Dp K H v (.tuple g.encs)) with
  | tup hs ha => exact .tup hs (GA_tg g ho ha)
theorem name_short {z : Str} (h : NameOk z) : z.length ≤ 1000 := by
  have := h.2.1
  rw [len_cps] at this
  omega
theorem TA_thing {t : Tr} {v : V} (h0 : NameOk t.1) (ho : t.2.Ok C) (h : Dp K H v (Gr.tEnc t)) : Tg K H v (Gr.tEnc t) := by
  obtain ⟨a, u, rfl, hs, hu⟩ := TA_parts h
  exact .tup hs (.cons (.str _ (name_short h0)) (.cons (GA_thing ho hu) .nil))
theorem PA_thing {p : Tr × Int} {v : V} (h0 : NameOk p.1.1) (ho : p.1.2.Ok C) (h : Dp K H v (Gr.pEnc p)) : Tg K H v (Gr.pEnc p) := by
  obtain ⟨a, b, u, rfl, hs, hst, hu, hdt⟩ := PA_parts h
  exact .tup hs (.cons (TA_thing h0 ho hdt) (.cons (.int _) .nil))
theorem Bears_things : ∀ {xs : List V} {bs : List (Tr × Int)}, Bears K H Gr.pEnc xs bs → (∀ p ∈ bs, NameOk p.1.1 ∧ p.1.2.Ok C) → TgAll K H xs (bs.map Gr.pEnc) := by
  intro xs bs h
  induction h with
  | nil => intro _; exact .nil
  | cons h1 h2 ih =>
    intro ho
    have h3 := ho _ (List.mem_cons_self ..)
    exact .cons (PA_thing h3.1 h3.2 h1) (ih fun p hp => ho p (List.mem_cons_of_mem _ hp))
end
theorem grPs_ok {C : Int} : ∀ {bs : List (Tr × Int)}, (∀ p ∈ bs, NameOk p.1.1 ∧ p.1.2.Ok C ∧ 1 ≤ p.2) → grPs (bs.map Gr.pEnc) = true
  | [], _ => by rw [List.map_nil, grPs]
  | p :: r, h => by
    obtain ⟨h1, h2, h3⟩ := h p (List.mem_cons_self ..)
    rw [List.map_cons, grPs, show grP (Gr.pEnc p) = true from grP_of (t := p.1) (m := p.2) h1 (groveD_ok h2) h3, grPs_ok fun q hq => h q (List.mem_cons_of_mem _ hq)]
    rfl
theorem depth_pairs : ∀ {bs : List (Tr × Int)}, (∀ p ∈ bs, p.1.2.deep ≤ 18) → PyData.depthAll (bs.map Gr.pEnc) ≤ 57
  | [], _ => by simp [PyData.depthAll]
  | p :: r, h => by
    have h1 := depth_pairs (bs := r) fun q hq => h q (List.mem_cons_of_mem _ hq)
    have h2 := h p (List.mem_cons_self ..)
    have h3 := Gr.pEnc_depth p
    rw [List.map_cons, PyData.depthAll]
    omega
theorem wide_pairs {n : Nat} : ∀ {bs : List (Tr × Int)}, (∀ p ∈ bs, p.1.2.parts ≤ n) → wides (bs.map Gr.pEnc) ≤ 2 + n
  | [], _ => by rw [List.map_nil, wides]; omega
  | p :: r, h => by
    have h1 := wide_pairs (bs := r) fun q hq => h q (List.mem_cons_of_mem _ hq)
    have h2 := h p (List.mem_cons_self ..)
    have h3 := wide_pair p
    rw [List.map_cons, wides]
    omega
/-- the grove of a list of pairs, or an error of the class at C -/
def spGroveOf (K : PySem.W.Frag) (C : Addr) : Sp := fun vs H Q E => ∃ (a : Addr) (xs : List V), vs = [.ref a] ∧ SqL K H a xs ∧
  ((∃ (bs : List (Tr × Int)) (D : Int), Bears K H Gr.pEnc xs bs ∧ bs.length ≤ 900 ∧ (∀ p ∈ bs, NameOk p.1.1 ∧ p.1.2.Ok D ∧ 1 ≤ p.2 ∧ p.1.2.deep ≤ 18 ∧ p.1.2.parts ≤ 900) ∧ ∀ (x : V) (H' : Hp), SB [] H H' → GA K H' x (Gr.tidy bs) → Q x H') ∨
   (∃ ds : List PyData, TgAll K H xs ds ∧ PyData.depthAll ds ≤ 57 ∧ wide (.tuple ds) ≤ 1000 ∧ grPs ds = false ∧ ∀ H', SB [] H H' → E (.ref C) none H'))
/-- as spGroveG, and not empty -/
def spGroveN (K : PySem.W.Frag) : Sp := fun vs H Q _ => ∃ (a n : Addr) (ns : List Int) (ks : List Str) (f m l : Nat) (c : Int), vs = [.ref a, .int (f : Int), .int (m : Int), .ref n, .int c, .int (l : Int)] ∧ SqL K H a (ns.map V.int) ∧ ns.length ≤ 63 ∧ H n = some (.lst (ks.map V.str)) ∧ 1 ≤ ks.length ∧ ks.length ≤ 8 ∧ (∀ k ∈ ks, NameOk k) ∧ f ≤ 100 ∧ m ≤ 60 ∧ 1 ≤ l ∧ l ≤ 12 ∧ 1 ≤ c ∧ c ≤ 10 ^ 58 ∧
  ∀ (v : V) (g : Gr) (H' : Hp), SB [] H H' → GA K H' v g → g.Ok (60 * 10 ^ 58 + 1) → g.parts ≤ m → g.deep ≤ l → (1 ≤ m → g ≠ .nil) → Q v H'

theorem grove_N {K : PySem.W.Frag} (vs : List V) (H : Hp) (Q : VK) (E : XK) (h : spGroveG K vs H Q E) : spGroveN K vs H Q E := by
  obtain ⟨a, n, ns, ks, f, m, l, c, e, h1, h2, h3, h4, h5, h6, h7, h8, h9, h10, h11, h12, q⟩ := h
  exact ⟨a, n, ns, ks, f, m, l, c, e, h1, h2, h3, h4, h5, h6, h7, h8, h9, h10, h11, h12, fun v g H' a b c d e _ => q v g H' a b c d e⟩
theorem jstep_full {γ : Type} [DecidableEq γ] (acc : List (γ × Int)) (p : γ × Int) : jstep acc p ≠ [] := by
  rcases List.eq_nil_or_concat acc with h | ⟨as, q, h⟩
  · subst h; rw [jstep_nil]; simp
  · rw [List.concat_eq_append] at h
    subst h
    rw [jstep_snoc]
    split <;> simp
theorem jn_full {γ : Type} [DecidableEq γ] {bs : List (γ × Int)} (h : bs ≠ []) : jn bs ≠ [] := by
  have key : ∀ (bs acc : List (γ × Int)), acc ≠ [] → bs.foldl jstep acc ≠ [] := by
    intro bs
    induction bs with
    | nil => intro acc h; exact h
    | cons p r ih => intro acc _; exact ih _ (jstep_full acc p)
  cases bs with
  | nil => exact absurd rfl h
  | cons p r => exact key r _ (jstep_full [] p)
theorem Gr.tidy_full {bs : List (Tr × Int)} (h : bs ≠ []) : Gr.tidy bs ≠ .nil := fun z => by
  have e : (Gr.tidy bs).ps = [] := by rw [z]; rfl
  rw [Gr.tidy, Gr.ps_ofPs, tdy] at e
  refine jn_full (fun z2 => h ?_) e
  have := (srtE_perm (enc := Gr.pEnc) bs).length_eq
  rw [z2] at this
  exact List.length_eq_zero_iff.mp this.symm
end FT
namespace FT
open PySem PySem.W PySem.Spec PyProof.Rows L2
section
variable {K : PySem.W.Frag} {H : Hp} {p : Addr} {Q : VK} {σ : L2.St} {i : Nat}
/-- _law_take(purse, [..][_law_take(purse, n)]) -/
theorem take_ofL {tl : TA} {n : Int} (zs : List Int) (hσ : σ[i]? = some (some (.ref p))) (hp : PuG H p) (hl : ∀ Q', Q' (zs.map V.int) H → tl σ H Q') (hn : n = zs.length) (h1 : 1 ≤ n) (hn2 : n ≤ 1000) (hz : ∀ z ∈ zs, 1 ≤ z ∧ z < 2 ^ 250)
    (k : ∀ r H', 0 ≤ r → (∃ z ∈ zs, r < z) → SB [p] H H' → PuG H' p → Q (.int r) H') :
    tCall spTakeG [] E0 (tCons (tVar i) (tCons (tOp (rIxL K) (tLst tl) (tCall spTakeG [] E0 (tCons (tVar i) (tCons (tC (.int n)) tNil)))) tNil)) σ H Q := by
  refine ⟨_, hσ, hl _ ⟨?_, fun la hla => ?_⟩⟩
  · rw [List.length_map]; have := sizeLine_eq; omega
  have t := SB.new (ps := []) hla (.lst (zs.map V.int))
  refine ⟨_, hσ, p, n, rfl, hp.new hla, h1, ?_, fun r H1 r0 r2 s1 hp1 => ?_⟩
  · exact Int.lt_of_le_of_lt hn2 (by decide)
  have hla1 := s1.keep _ _ (show (upd H la (.lst (zs.map V.int))) la = some _ from upd_same) (by simpa using fun z : la = p => hp.ne hla z.symm)
  obtain ⟨m, rfl⟩ : ∃ m : Nat, r = (m : Int) := ⟨r.toNat, by omega⟩
  have hm : m < zs.length := by omega
  have hget : (zs.map V.int)[m]? = some (.int zs[m]) := by rw [List.getElem?_map, List.getElem?_eq_getElem hm]; rfl
  have hzz := hz zs[m] (List.getElem_mem hm)
  refine ⟨la, _, _, _, rfl, rfl, SqL.of hla1, atI_nat hget, p, zs[m], rfl, hp1, hzz.1, hzz.2, fun r3 H3 r30 r3z s3 hp3 => ?_⟩
  exact k r3 H3 r30 ⟨zs[m], List.getElem_mem hm, r3z⟩ ((t.nil.trans s1).trans s3) hp3
end
section
variable {K : PySem.W.Frag} {H H3 H4 : Hp} {p0 nm S : Addr} {ks : List Str}
theorem Hd.other (h : Hd K H H3 p0 nm ks) (s : SB [S] H3 H4) (n : H S = none) (n1 : p0 ≠ S) (n2 : nm ≠ S) : Hd K H H4 p0 nm ks := by
  refine ⟨h.hp.keep s (by simpa using n1), s.keep _ _ h.hnm (by simpa using n2), h.k1, h.k8, h.kn, h.ne, ?_, h.np⟩
  have h1 : SB [S, p0] H H3 := h.sb.mono fun b hb => List.mem_cons_of_mem _ hb
  have h2 : SB [S, p0] H3 H4 := s.mono fun b hb => by have : b = S := by simpa using hb
                                                      subst this; simp
  exact (h1.trans h2).drop n
theorem Hd.nofree (h : Hd K H H3 p0 nm ks) (n : H3 S = none) : H S = none := h.sb.dom _ n
theorem Hd.ne0 (h : Hd K H H3 p0 nm ks) (n : H3 S = none) : p0 ≠ S := h.hp.ne n
theorem Hd.ne1 (h : Hd K H H3 p0 nm ks) (n : H3 S = none) : nm ≠ S := ne_of_none h.hnm n
end
/-- a list that stands is kept where another is changed -/
theorem SB.lst {H H' : Hp} {ps : List Addr} {D : Addr} {us : List V} (s : SB ps H H') (h : H D = some (.lst us)) (n : D ∉ ps) : H' D = some (.lst us) := s.keep _ _ h n
theorem atI_end {α : Type} {xs : List α} {v : α} (h : xs[xs.length - 1]? = some v) : atI xs (-1) = some v := by
  rcases List.eq_nil_or_concat xs with e | ⟨ys, u, e⟩
  · subst e; simp at h
  · rw [List.concat_eq_append] at e
    subst e
    have : u = v := by simpa using h
    subst this
    exact atI_last ys u
theorem grPs_app : ∀ as bs : List PyData, grPs (as ++ bs) = (grPs as && grPs bs)
  | [], bs => by rw [List.nil_append, grPs, Bool.true_and]
  | a :: r, bs => by rw [List.cons_append, grPs, grPs, grPs_app r bs, Bool.and_assoc]
theorem depthAll_app : ∀ as bs : List PyData, PyData.depthAll (as ++ bs) = max (PyData.depthAll as) (PyData.depthAll bs)
  | [], bs => by rw [List.nil_append, PyData.depthAll]; omega
  | a :: r, bs => by rw [List.cons_append, PyData.depthAll, PyData.depthAll, depthAll_app r bs]; omega
theorem wides_app : ∀ as bs : List PyData, wides (as ++ bs) = max (wides as) (wides bs)
  | [], bs => by rw [List.nil_append, wides]; omega
  | a :: r, bs => by rw [List.cons_append, wides, wides, wides_app r bs]; omega
theorem TgAll.append {K : PySem.W.Frag} {H : Hp} : ∀ {xs ys : List V} {ds es : List PyData}, TgAll K H xs ds → TgAll K H ys es → TgAll K H (xs ++ ys) (ds ++ es)
  | _, _, _, _, .nil, h => h
  | _, _, _, _, .cons a b, h => .cons a (TgAll.append b h)
end FT
namespace FT
open PySem PySem.W PySem.Spec PyProof.Rows L2
/-- any(xs), xs a list of data -/
def rAnyD (K : PySem.W.Frag) : List V → Hp → VK → Prop := fun vs H Q => ∃ (a : Addr) (xs : List V) (ds : List PyData), vs = [V.ref a] ∧ SqL K H a xs ∧ DpAll K H xs ds ∧ PyData.plainAll ds = true ∧ (∀ d ∈ ds, d.fits63) ∧ Q (.bl (ds.any PyData.truthy)) H
section
variable {X : Cx}
theorem cr_anyD (hc : X.calm = true) : CallR X (.builtin "any") (rAnyD X.K) := by
  intro pins s σ H vs us Q I r h
  obtain ⟨a, xs, ds, rfl, hs, hd, hp, hf, q⟩ := h
  obtain ⟨its, rv, hl, _⟩ := I.list hs
  rw [Vals.ref1 r]
  obtain ⟨as, hr⟩ := Dp.readsAll I ds xs its hd rv
  exact any_list_data (I.ok.hd hc) hl.isList (by simpa using hr) hp hf fun h' tk hk => ⟨.bl _, H, I.kept (t' := tk) hk, rfl, q⟩
end
theorem SB.setD {H : Hp} {p : Addr} {kvs : List (Key × V)} {ps : List Addr} (h : H p = some (.dK kvs)) (hp : p ∈ ps) (o : HO) : SB ps H (upd H p o) := by
  refine ⟨fun b u e n => ?_, fun b u e => ?_, fun b v u e => ?_, fun b e => ?_⟩
  · rw [upd_ne (fun (z : b = p) => n (by rw [z]; exact hp))]; exact e
  · rw [upd_ne (fun (z : b = p) => by subst z; rw [h] at e; cases e)]; exact e
  · rw [upd_ne (fun (z : b = p) => by subst z; rw [h] at e; cases e)]; exact e
  · by_cases q : b = p
    · subst q; rw [upd_same] at e; cases e
    · rw [upd_ne q] at e; exact e
/-! ## sorts of ladders -/
namespace Lad
def isN (l : Lad) : Bool := l.ps.all fun p => decide (p.1 = .nil)
def over1 (l : Lad) : Bool := (Lad.num 1).lt l
def sortT (l : Lad) : Str := if l.isN = true then "number" else if (l.ps.any fun p => p.1.over1) = false then "pair" else if (l.ps.all fun p => p.1.isN) = true then "power" else "tower"
theorem sortT_num (l : Lad) : decide (l.sortT = "number") = l.isN := by
  unfold sortT
  cases h : l.isN with
  | true => simp
  | false =>
    rw [if_neg (by simp)]
    split
    · decide +kernel
    · split <;> decide +kernel
theorem numU : Lad.num 1 = .cons .nil 1 .nil := rfl
/-- a right ladder all of whose exponents are nought is a number -/
theorem isN_ok {B : Int} {e : Lad} (h : e.Ok B) (hn : e.isN = true) : e = .nil ∨ ∃ m, 1 ≤ m ∧ e = .cons .nil m .nil := by
  cases e with
  | nil => exact .inl rfl
  | cons x m r =>
    have h1 : x = .nil := by
      have : ((Lad.cons x m r).ps.all fun p => decide (p.1 = .nil)) = true := hn
      rw [show (Lad.cons x m r).ps = (x, m) :: r.ps from rfl, List.all_cons, Bool.and_eq_true] at this
      exact of_decide_eq_true this.1
    subst h1
    cases r with
    | nil => exact .inr ⟨m, h.2.1, rfl⟩
    | cons y k s =>
      have := h.2.2.2.2 (y, k) (List.mem_cons_self ..)
      rw [lt_nil_r] at this
      cases this
theorem over1_nil : over1 .nil = false := by unfold over1; rw [lt_nil_r]
theorem over1_num (m : Int) : over1 (.cons .nil m .nil) = decide (1 < m) := by
  unfold over1
  rw [numU, lt_cons, if_pos rfl]
  by_cases h : (1 : Int) = m
  · rw [if_pos h, lt_irrefl]; subst h; rfl
  · rw [if_neg h]
theorem over1_more {B : Int} {e : Lad} (h : e.Ok B) (hn : e.isN = false) : over1 e = true := by
  cases e with
  | nil => simp [isN, ps] at hn
  | cons x m r =>
    unfold over1
    rw [numU, lt_cons]
    by_cases hx : Lad.nil = x
    · subst hx
      rw [if_pos rfl]
      cases r with
      | nil => simp [isN, ps] at hn
      | cons y k s =>
        have := h.2.2.2.2 (y, k) (List.mem_cons_self ..)
        rw [lt_nil_r] at this
        cases this
    · rw [if_neg hx]
      cases x with
      | nil => exact absurd rfl hx
      | cons _ _ _ => exact lt_nil_cons ..
end Lad
def spSortOf (K : PySem.W.Frag) (n : Nat) : Sp := fun vs H Q _ => ∃ (v : V) (l : Lad), vs = [v] ∧ LA K H v l ∧ l.deep < n ∧ l.deep ≤ 45 ∧ l.parts ≤ 900 ∧ ∀ H', SB [] H H' → Q (.str l.sortT) H'
theorem num_deep (i : Int) : (Lad.num i).deep ≤ 1 := by unfold Lad.num; split <;> simp [Lad.deep]
theorem plainAll_encs : ∀ l : List (Lad × Int), PyData.plainAll (l.map fun p => p.1.enc) = true
  | [] => by simp [PyData.plainAll]
  | p :: l => by
    have key : ∀ l : Lad, PyData.plainAll l.encs = true := by
      intro l
      induction l with
      | nil => simp [Lad.encs, PyData.plainAll]
      | cons e m r h1 h2 => simp [Lad.encs, PyData.plainAll, PyData.plain, h1, h2]
    have h := plainAll_encs l
    rw [List.map_cons, PyData.plainAll, h, Lad.enc, PyData.plain, key]
    rfl
theorem any_encs : ∀ l : List (Lad × Int), (l.map fun p => p.1.enc).any PyData.truthy = !(l.all fun p => decide (p.1 = .nil))
  | [] => rfl
  | p :: l => by
    rw [List.map_cons, List.any_cons, List.all_cons, any_encs l, Bool.not_and]
    congr 1
    cases p.1 with
    | nil => decide +kernel
    | cons e m r => simp [Lad.enc, PyData.truthy, Lad.encs]
end FT
namespace FT
open PySem PySem.W PySem.Spec PyProof.Rows L2
theorem TyX_set {K : PySem.W.Frag} {H : Hp} {S : Addr} {xs ys : List V} {v : V} {n : String} (h : H S = some (.lst xs)) (t : TyX K H v (.type n)) : TyX K (upd H S (.lst ys)) v (.type n) := by
  have kp : ∀ {a : Addr} {o : HO}, H a = some o → (∀ zs, o ≠ .lst zs) → upd H S (.lst ys) a = some o := fun {a o} ha hn => by
    rw [upd_ne (fun z => by subst z; rw [h] at ha; cases ha; exact hn _ rfl)]; exact ha
  cases t with
  | base t =>
    cases t with
    | non => exact .base .non
    | bl x => exact .base (.bl x)
    | int i => exact .base (.int i)
    | str x => exact .base (.str x)
    | flt x => exact .base (.flt x)
    | @lst a zs ha =>
      by_cases e : a = S
      · subst e; exact .base (.lst upd_same)
      · exact .base (.lst (by rw [upd_ne e]; exact ha))
    | frz ha => exact .base (.frz (kp ha (fun _ z => nomatch z)))
    | tup ha => exact .base (.tup (kp ha (fun _ z => nomatch z)))
    | dK ha => exact .base (.dK (kp ha (fun _ z => nomatch z)))
    | dT ha => exact .base (.dT (kp ha (fun _ z => nomatch z)))
  | byt b => exact .byt b
  | set ha => exact .set (kp ha (fun _ z => nomatch z))
  | kList ha c => exact .kList ha c
  | kTuple ha c => exact .kTuple ha c
  | kDict ha c => exact .kDict ha c
  | fTuple ha => exact .fTuple (kp ha (fun _ z => nomatch z))
  | fDict ha => exact .fDict (kp ha (fun _ z => nomatch z))
mutual
theorem Tg_set {K : PySem.W.Frag} {H : Hp} {S : Addr} {xs ys : List V} (h : H S = some (.lst xs)) : ∀ {v : V} {d : PyData}, Tg K H v d → Tg K (upd H S (.lst ys)) v d
  | _, _, .int i => .int i
  | _, _, .str z hz => .str z hz
  | _, _, .tup hs ha => .tup ((SB.set (ps := [S]) h (by simp) _).sqT hs) (TgAll_set h ha)
  | _, _, .oth ty k0 k1 k2 => .oth (TyX_set h ty) k0 k1 k2
theorem TgAll_set {K : PySem.W.Frag} {H : Hp} {S : Addr} {xs ys : List V} (h : H S = some (.lst xs)) : ∀ {vs : List V} {ds : List PyData}, TgAll K H vs ds → TgAll K (upd H S (.lst ys)) vs ds
  | _, _, .nil => .nil
  | _, _, .cons a b => .cons (Tg_set h a) (TgAll_set h b)
end
/-! ## written things: what a display of things evaluates to -/
/-- from any heap that keeps H0, the expression gives a thing of this datum -/
def EvT (K : PySem.W.Frag) (H0 : Hp) (σ : L2.St) (te : TE) (d : PyData) : Prop := ∀ H, SB [] H0 H → ∀ Q : VK, (∀ v H', SB [] H H' → Tg K H' v d → Q v H') → te σ H Q
def EvTs (K : PySem.W.Frag) (H0 : Hp) (σ : L2.St) (ta : TA) (ds : List PyData) : Prop := ∀ H, SB [] H0 H → ∀ Q : List V → Hp → Prop, (∀ vs H', SB [] H H' → TgAll K H' vs ds → Q vs H') → ta σ H Q
section
variable {K : PySem.W.Frag} {H0 : Hp} {σ : L2.St} {te : TE} {ta : TA} {d : PyData} {ds : List PyData}
theorem tg_bl {H : Hp} (b : Bool) : Tg K H (.bl b) .none := .oth (.base (.bl b)) (by decide +kernel) (by decide +kernel) (.inr rfl)
theorem tg_non {H : Hp} : Tg K H .non .none := .oth (.base .non) (by decide +kernel) (by decide +kernel) (.inl (by decide +kernel))
theorem tg_lst {H : Hp} {a : Addr} {xs : List V} (h : H a = some (.lst xs)) : Tg K H (.ref a) .none := .oth (.base (.lst h)) (by decide +kernel) (by decide +kernel) (.inl (by decide +kernel))
theorem tg_dic {H : Hp} {a : Addr} {kvs : List (Key × V)} (h : H a = some (.dK kvs)) : Tg K H (.ref a) .none := .oth (.base (.dK h)) (by decide +kernel) (by decide +kernel) (.inl (by decide +kernel))
theorem ev_int {i : Int} : EvT K H0 σ (tC (.int i)) (.int i) := fun H _ Q k => k _ H SB.refl (.int i)
theorem ev_str {z : Str} (h : z.length ≤ 1000 := by decide +kernel) : EvT K H0 σ (tC (.str z)) (.str z) := fun H _ Q k => k _ H SB.refl (.str z h)
theorem ev_bl {b : Bool} : EvT K H0 σ (tC (.bl b)) .none := fun H _ Q k => k _ H SB.refl (tg_bl b)
theorem ev_non : EvT K H0 σ (tC .non) .none := fun H _ Q k => k _ H SB.refl tg_non
theorem ev_var {i : Nat} {v : V} (hσ : σ[i]? = some (some v)) (h : Tg K H0 v d) : EvT K H0 σ (tVar i) d := fun H s Q k => ⟨v, hσ, k v H SB.refl (Tg_sb s h)⟩
theorem evs_nil : EvTs K H0 σ tNil [] := fun H _ Q k => k [] H SB.refl .nil
theorem evs_cons (h : EvT K H0 σ te d) (hs : EvTs K H0 σ ta ds) : EvTs K H0 σ (tCons te ta) (d :: ds) := fun H s Q k =>
  h H s _ fun v H1 s1 hv => hs H1 (s.trans s1) _ fun vs H2 s2 hvs => k (v :: vs) H2 (s1.trans s2) (.cons (Tg_sb s2 hv) hvs)
theorem ev_tup (h : EvTs K H0 σ ta ds) (hl : ds.length ≤ 1000 := by simp) : EvT K H0 σ (tTup ta) (.tuple ds) := fun H s Q k =>
  h H s _ fun vs H1 s1 hvs => ⟨by have := hvs.length; have := sizeLine_eq; omega, fun a ha => k _ _ (s1.trans (SB.new ha _)) (.tup (SqT.of upd_same) (TgAll_sb (SB.new ha _) hvs))⟩
theorem ev_lst (h : EvTs K H0 σ ta ds) (hl : ds.length ≤ 1000 := by simp) : EvT K H0 σ (tLst ta) .none := fun H s Q k =>
  h H s _ fun vs H1 s1 hvs => ⟨by have := hvs.length; have := sizeLine_eq; omega, fun a ha => k _ _ (s1.trans (SB.new ha _)) (tg_lst upd_same)⟩
/-- a display of things, as a list -/
theorem evs_list (h : EvTs K H0 σ ta ds) (hl : ds.length ≤ 1000) {H : Hp} (s : SB [] H0 H) {Q : VK} (k : ∀ (D : Addr) (us : List V) (H' : Hp), SB [] H H' → H D = none → H' D = some (.lst us) → TgAll K H' us ds → Q (.ref D) H') : tLst ta σ H Q :=
  h H s _ fun vs H1 s1 hvs => ⟨by have := hvs.length; have := sizeLine_eq; omega, fun a ha => k a vs _ (s1.trans (SB.new ha _)) (s1.dom _ ha) upd_same (TgAll_sb (SB.new ha _) hvs)⟩
/-- for x in [things]: .. -/
theorem for_things {g : TG} {tb rest : TS} {D : Ends} {H : Hp} (h : EvTs K H σ ta ds) (hl : ds.length ≤ 1000) (k : ∀ (L : Addr) (us : List V) (H' : Hp), SB [] H H' → H L = none → H' L = some (.lst us) → TgAll K H' us ds → tSeq (tFor (iList K (tC (.ref L))) g tb) rest D σ H') : tSeq (tFor (iList K (tLst ta)) g tb) rest D σ H := by
  unfold tSeq tFor iList at k ⊢
  exact evs_list h hl SB.refl fun L us H' s n hL hu => k L us H' s n hL hu
theorem ev_neg {i : Nat} {m : Int} (hσ : σ[i]? = some (some (.int m))) : EvT K H0 σ (tUn (rU fun i => .int (-i)) (tVar i)) (.int (-m)) := fun H s Q k => ⟨_, hσ, m, rfl, k _ H SB.refl (.int _)⟩
theorem ev_dic : EvT K H0 σ tDNewK .none := fun H s Q k => fun p hp => k _ _ (SB.new hp _) (tg_dic upd_same)
theorem ev_disp1 {z : Str} : EvT K H0 σ (tDisp [(tC (.str z), tTup tNil)]) .none := fun H s Q k => by
  intro p hp
  refine ⟨(by show 0 ≤ sizeLine; decide), fun a ha => ?_⟩
  refine ⟨by rw [upd_ne (ne_of_none upd_same ha)]; exact upd_same, [(Sum.inr z, .ref a)], rfl, by simp, ?_⟩
  have t1 := SB.new (ps := [p]) hp (.dK [])
  have t2 := SB.new (ps := [p]) ha (.tup [])
  have h2 : (upd (upd H p (.dK [])) a (.tup [])) p = some (.dK []) := by rw [upd_ne (ne_of_none upd_same ha)]; exact upd_same
  have t3 := SB.setD (ps := [p]) h2 (by simp) (.dK (mergeK [] [(Sum.inr z, V.ref a)]))
  exact k _ _ (((t1.trans t2).trans t3).drop hp) (tg_dic upd_same)
/-- x = [things] -/
theorem asg_things {i : Nat} {rest : TS} {D : Ends} {H : Hp} (h : EvTs K H σ ta ds) (hl : ds.length ≤ 1000) (k : ∀ (L : Addr) (us : List V) (H' : Hp), SB [] H H' → H L = none → H' L = some (.lst us) → TgAll K H' us ds → rest D (σ.set i (some (.ref L))) H') : tSeq (tAsg (tLst ta) (gName i)) rest D σ H := by
  unfold tSeq tAsg
  exact evs_list h hl SB.refl fun L us H' s n hL hu => k L us H' s n hL hu
theorem ev_strI {i : Nat} {m : Int} (hσ : σ[i]? = some (some (.int m))) (h : m.natAbs.log2 < 1920) (hl : (Str.ofString (toString m)).length ≤ 1000) : EvT K H0 σ (tCB (fun xs H Q => ∃ i, xs = [.int i] ∧ i.natAbs.log2 < 1920 ∧ Q (.str (toString i)) H) (tCons (tVar i) tNil)) (.str (toString m)) := fun H s Q k =>
  ⟨_, hσ, m, rfl, h, k _ H SB.refl (.str _ hl)⟩
theorem ev_listT {i : Nat} {a : Addr} {xs : List V} (hσ : σ[i]? = some (some (.ref a))) (hs : SqT K H0 a xs) : EvT K H0 σ (tCB (fun xs H Q => ∃ p ys, xs = [.ref p] ∧ (SqL K H p ys ∨ SqT K H p ys) ∧ ∀ l, H l = none → Q (.ref l) (upd H l (.lst ys))) (tCons (tVar i) tNil)) .none := fun H s Q k =>
  ⟨_, hσ, a, xs, rfl, .inr (s.sqT hs), fun l hl => k _ _ (SB.new hl _) (tg_lst upd_same)⟩
theorem ev_upper {i : Nat} {z : Str} (hσ : σ[i]? = some (some (.str z))) (hz : z.length ≤ 1000) (hl : (Txt.upper z).length ≤ 1000) : EvT K H0 σ (tM0 (fun x xs H Q => ∃ a, x = .str a ∧ xs = [] ∧ a.length ≤ 5592405 ∧ Q (.str (Txt.upper a)) H) (tVar i)) (.str (Txt.upper z)) := fun H s Q k =>
  ⟨_, hσ, ⟨_, rfl⟩, z, rfl, rfl, by omega, k _ H SB.refl (.str _ hl)⟩
theorem ev_of {P : V → Prop} (h : ∀ H, SB [] H0 H → ∀ Q : VK, (∀ v H', SB [] H H' → Tg K H' v d → Q v H') → te σ H Q) : EvT K H0 σ te d := h
end
section
variable {X : Cx} {x : Str} {k : Nat} {sp : Sp} {p pos : Pos}
theorem pe_got0 (G : Got X.prog X.w X.K X.mg X.base x [] k sp) (hr : Room k X.A) (hg : Gl X x) (hdb : (x == ("__debug__" : Str)) = false := by decide) :
    PE X (.Call (.Name x p) [] [] pos) (tCall sp [] E0 tNil) := by
  obtain ⟨f, fd, h1, h2, h3, h4⟩ := G.ex
  exact pe_call0 h1 hr hg h4 h2 h3 .nil pass0 hdb
end
end FT
namespace FT
open PySem PySem.W PySem.Spec PyProof.Rows L2
/-! ## while left != []: .. -/
section
variable {K : PySem.W.Frag} {β : Type} {enc : β → PyData}
theorem while_left {j : Nat} {D : Addr} {tb rest : TS} {De : Ends} {σ : L2.St} {H : Hp} (meas : List β → Nat) (Pv : List β → L2.St → Hp → Prop) {ws0 : List β} (h0 : Pv ws0 σ H)
    (hl : ∀ ws σ H, Pv ws σ H → σ[j]? = some (some (.ref D)) ∧ ∃ us, H D = some (.lst us) ∧ Bears K H enc us ws) (hn : ∀ b, noList (enc b) = true) (hsh : ∀ ws σ H, Pv ws σ H → SeqAt.shaped (.list (ws.map enc)) = true)
    (hk : ∀ ws σ H z, Pv ws σ H → H z = none → Pv ws σ (upd H z (.lst [])))
    (step : ∀ js x σ H, Pv (js ++ [x]) σ H → tb { De with nx := fun σ' H' => ∃ ws', meas ws' < meas (js ++ [x]) ∧ Pv ws' σ' H', ct := fun σ' H' => ∃ ws', meas ws' < meas (js ++ [x]) ∧ Pv ws' σ' H', bk := rest De } σ H)
    (done : ∀ σ H, Pv [] σ H → rest De σ H) : tSeq (tWhile (tTest (tOp (rNeD K) (tVar j) (tLst tNil))) tb) rest De σ H := by
  refine ⟨fun m σ H => ∃ ws, m = meas ws ∧ Pv ws σ H, ⟨_, ws0, rfl, h0⟩, fun m σ1 H1 h1 => ?_⟩
  obtain ⟨ws, rfl, p1⟩ := h1
  obtain ⟨e1, us, hD1, hb1⟩ := hl ws σ1 H1 p1
  refine ⟨_, e1, (by show 0 ≤ sizeLine; decide), fun z0 hz0 => ?_⟩
  have p2 := hk ws σ1 H1 z0 p1 hz0
  have t2 := SB.new (ps := []) hz0 (.lst [])
  have hD2 := t2.keep _ _ hD1 List.not_mem_nil
  have hb2 := hb1.sb t2 hn
  refine ⟨.list (ws.map enc), .list [], Dp.lst (SqL.of hD2) hb2.dp, Dp.lst (SqL.of upd_same) .nil, hsh ws σ1 H1 p1, by decide +kernel, _, rfl, ?_⟩
  rcases List.eq_nil_or_concat ws with he | ⟨js, x, he⟩
  · subst he
    exact iteF (done _ _ p2)
  · rw [List.concat_eq_append] at he
    subst he
    have ez : (!PyData.eqv (.list ((js ++ [x]).map enc)) (.list [])) = true := by
      cases js <;> simp [PyData.eqv, PyData.eqvAll]
    rw [ez]
    exact iteT ⟨_, fun σ' H' ⟨ws', h1, h2⟩ => ⟨_, h1, ws', rfl, h2⟩, step js x σ1 _ p2⟩
/-- left.pop() -/
theorem pop_left {j : Nat} {D : Addr} {σ : L2.St} {H : Hp} {us : List V} {js : List β} {x : β} {Q : VK} (hσ : σ[j]? = some (some (.ref D))) (hD : H D = some (.lst us)) (hb : Bears K H enc us (js ++ [x])) (hn : ∀ b, noList (enc b) = true)
    (k : ∀ (us' : List V) (u : V) (H' : Hp), SB [D] H H' → H' D = some (.lst us') → Bears K H' enc us' js → Dp K H' u (enc x) → (∀ b, b ≠ D → H' b = H b) → Q u H') : tBM0 K "list" rPop (tVar j) σ H Q := by
  obtain ⟨us', u, rfl, hus, hu⟩ := hb.snoc
  refine ⟨_, hσ, .inl ⟨rfl, _, SqL.of hD⟩, D, _, _, rfl, rfl, hD, (by simp : (us' ++ [u])[(us' ++ [u]).length - 1]? = some u), ?_⟩
  have edl : (us' ++ [u]).dropLast = us' := by simp
  rw [edl]
  have t5 := SB.set (ps := [D]) hD (by simp) (.lst us')
  exact k us' u _ t5 upd_same (hus.sb t5 hn) (Dp_sb t5 _ _ (hn _) hu) fun b hb => upd_ne hb
end
/-! ## places with what stands there -/
abbrev PG := Pl × Gr
def pgEnc (x : PG) : PyData := .tuple [plEnc x.1, x.2.enc]
theorem pg_noList (x : PG) : noList (pgEnc x) = true := by simp [pgEnc, noList, noLists, pl_noList, Gr.noList_enc]
theorem PG_parts {K : PySem.W.Frag} {H : Hp} {v : V} {x : PG} (h : Dp K H v (pgEnc x)) : ∃ a b u, v = .ref a ∧ SqT K H a [.ref b, u] ∧ SqT K H b (x.1.map fun n : Nat => V.int (n : Int)) ∧ GA K H u x.2 := by
  cases h with
  | tup hs ha =>
    cases ha with
    | cons h1 h2 =>
      cases h2 with
      | cons h3 h4 =>
        cases h4
        obtain ⟨b, rfl, hb⟩ := PL_ints h1
        exact ⟨_, b, _, rfl, hs, hb, h3⟩
theorem pg_shaped {C : Int} {ws : List PG} (h : ∀ x ∈ ws, x.2.Ok C ∧ x.2.deep ≤ 12) : SeqAt.shaped (.list (ws.map pgEnc)) = true := by
  have h1 : PyData.canLayAll0 (ws.map pgEnc) = true := by
    induction ws with
    | nil => simp [PyData.canLayAll0]
    | cons b r ih =>
      have e := ih fun c hc => h c (List.mem_cons_of_mem _ hc)
      obtain ⟨o, _⟩ := h b (List.mem_cons_self ..)
      rw [List.map_cons, PyData.canLayAll0, e]
      simp [pgEnc, PyData.canLay0, PyData.canLayAll0, Gr.enc, Gr.lays o, pl_lay]
  have h2 : PyData.depthAll (ws.map pgEnc) ≤ 50 := by
    clear h1
    induction ws with
    | nil => simp [PyData.depthAll]
    | cons b r ih =>
      have e1 := ih (fun c hc => h c (List.mem_cons_of_mem _ hc))
      have e2 := (h b (List.mem_cons_self ..)).2
      have e3 := b.2.enc_depth
      have e5 := pl_depth b.1
      have e4 : (pgEnc b).depth ≤ max 1 b.2.enc.depth + 1 := by simp only [pgEnc, PyData.depth, PyData.depthAll, e5]; omega
      rw [List.map_cons, PyData.depthAll]
      omega
  have h3 : (PyData.list (ws.map pgEnc)).depth = PyData.depthAll (ws.map pgEnc) + 1 := by simp [PyData.depth]
  unfold SeqAt.shaped
  rw [PyData.canLay0, h1, Bool.true_and]
  exact decide_eq_true (by omega)
def pgTot : List PG → Nat
  | [] => 0
  | x :: r => 1 + x.2.parts + pgTot r
theorem pgTot_append : ∀ as bs : List PG, pgTot (as ++ bs) = pgTot as + pgTot bs
  | [], bs => by simp [pgTot]
  | g :: r, bs => by show _ + pgTot (r ++ bs) = _; rw [pgTot_append r bs, pgTot]; omega
theorem len_pgTot : ∀ gs : List PG, gs.length ≤ pgTot gs
  | [] => Nat.le_refl _
  | g :: r => by have := len_pgTot r; show r.length + 1 ≤ 1 + g.2.parts + pgTot r; omega
/-- the grove that is held at a place; all of it at the empty one -/
def gAt : Gr → Pl → Option Gr
  | g, [] => some g
  | g, n :: r => (g.ps[n]?).bind fun p => gAt p.1.2 r
theorem gAt_append : ∀ (g : Gr) (as bs : Pl), gAt g (as ++ bs) = (gAt g as).bind fun h => gAt h bs
  | g, [], bs => rfl
  | g, n :: r, bs => by
    show (g.ps[n]?).bind (fun p => gAt p.1.2 (r ++ bs)) = ((g.ps[n]?).bind fun p => gAt p.1.2 r).bind fun h => gAt h bs
    cases g.ps[n]? with
    | none => rfl
    | some p => exact gAt_append p.1.2 r bs
theorem gAt_ok {C : Int} : ∀ {g : Gr} {p : Pl} {h : Gr}, g.Ok C → gAt g p = some h → h.Ok C ∧ h.deep + p.length ≤ g.deep ∧ h.parts + p.length ≤ g.parts
  | g, [], h, ho, e => by cases e; exact ⟨ho, by simp, by simp⟩
  | g, n :: r, h, ho, e => by
    cases hn : g.ps[n]? with
    | none =>
      have : (g.ps[n]?).bind (fun p => gAt p.1.2 r) = some h := e
      rw [hn] at this; cases this
    | some q =>
      have e' : (g.ps[n]?).bind (fun p => gAt p.1.2 r) = some h := e
      rw [hn] at e'
      have qm := List.mem_of_getElem? hn
      obtain ⟨h1, h2, h3⟩ := gAt_ok ((Gr.ok_iff.mp ho).1 q qm).2.1 (show gAt q.1.2 r = some h from e')
      have := g.mem_deep q qm
      have := g.mem_parts q qm
      refine ⟨h1, ?_, ?_⟩ <;> simp only [List.length_cons] <;> omega
/-- a place of a tree -/
def vp (g : Gr) (p : Pl) : Prop := ∃ pre n h, p = pre ++ [n] ∧ gAt g pre = some h ∧ n < h.ps.length
theorem vp_cons {g : Gr} {n : Nat} {r : Pl} (h : vp g (n :: r)) : ∃ q, g.ps[n]? = some q ∧ (r = [] ∨ vp q.1.2 r) := by
  obtain ⟨pre, m, x, e, hx, hm⟩ := h
  cases pre with
  | nil =>
    have e' : n :: r = [m] := e
    injection e' with e1 e2
    subst e1 e2
    cases hx
    exact ⟨_, List.getElem?_eq_getElem hm, .inl rfl⟩
  | cons k s =>
    have e' : n :: r = k :: (s ++ [m]) := e
    injection e' with e1 e2
    subst e1 e2
    have hx' : (g.ps[n]?).bind (fun p => gAt p.1.2 s) = some x := hx
    cases hn : g.ps[n]? with
    | none => rw [hn] at hx'; cases hx'
    | some q =>
      rw [hn] at hx'
      exact ⟨q, rfl, .inr ⟨s, m, x, rfl, hx', hm⟩⟩
theorem vp_ne {g : Gr} {p : Pl} (h : vp g p) : p ≠ [] := by
  obtain ⟨pre, n, x, e, _⟩ := h
  rw [e]; simp
end FT
namespace FT
open PySem PySem.W PySem.Spec PyProof.Rows L2
open TL (tl)
/-! ## texts of groves, as rows of signs -/
def numT (m : Int) : List Nat := if m = 1 then [] else TL.numL m.toNat ++ [32]
namespace Gr
def body : Gr → List Nat
  | .nil => []
  | .cons k g m r => numT m ++ (tl k ++ ((if g = .nil then [] else 123 :: (g.body ++ [125])) ++ (if r = .nil then [] else 44 :: 32 :: r.body)))
def held (g : Gr) : List Nat := if g = .nil then [] else 123 :: (g.body ++ [125])
def more (r : Gr) : List Nat := if r = .nil then [] else 44 :: 32 :: r.body
def text (g : Gr) : List Nat := if g = .nil then [45] else g.body
theorem body_cons (k : Str) (g : Gr) (m : Int) (r : Gr) : (Gr.cons k g m r).body = numT m ++ (tl k ++ (g.held ++ r.more)) := rfl
theorem text_cons (k : Str) (g : Gr) (m : Int) (r : Gr) : (Gr.cons k g m r).text = (Gr.cons k g m r).body := if_neg (fun z => nomatch z)
/-- the text of one pair -/
def pText (p : Tr × Int) : List Nat := numT p.2 ++ (tl p.1.1 ++ p.1.2.held)
theorem body_join : ∀ g : Gr, g ≠ .nil → g.body = TL.joinL [44, 32] (g.ps.map pText)
  | .nil, h => absurd rfl h
  | .cons k g m r, _ => by
    rw [body_cons]
    cases r with
    | nil =>
      show numT m ++ (tl k ++ (g.held ++ [])) = numT m ++ (tl k ++ g.held)
      rw [List.append_nil]
    | cons k2 g2 m2 r2 =>
      have ih := body_join (.cons k2 g2 m2 r2) (fun z => nomatch z)
      show numT m ++ (tl k ++ (g.held ++ (44 :: 32 :: (Gr.cons k2 g2 m2 r2).body))) = (numT m ++ (tl k ++ g.held)) ++ ([44, 32] ++ TL.joinL [44, 32] ((Gr.cons k2 g2 m2 r2).ps.map pText))
      rw [ih]
      simp
end Gr
theorem numT_len {m : Int} {C : Nat} (hC : 0 < C) (h0 : 0 ≤ m) (h : m < 10 ^ C) : (numT m).length ≤ C + 1 := by
  unfold numT
  split
  · simp
  · obtain ⟨n, rfl⟩ : ∃ n : Nat, m = (n : Int) := ⟨m.toNat, by omega⟩
    have h' : n < 10 ^ C := by exact_mod_cast h
    have := TL.numL_len hC h'
    rw [List.length_append, Int.toNat_natCast]; simp; omega
namespace Gr
theorem body_len {C : Nat} (hC : 0 < C) : ∀ {g : Gr}, g.Ok (10 ^ C) → g.body.length ≤ (C + 13) * g.parts
  | .nil, _ => Nat.zero_le _
  | .cons k g m r, ⟨h0, h1, h2, h3, h4, _⟩ => by
    have a := body_len hC h1
    have b := body_len hC h4
    have c := numT_len hC (by omega) h3
    have d := h0.2.1
    have e1 : g.held.length ≤ (C + 13) * g.parts + 2 := by unfold held; split <;> simp <;> omega
    have e2 : r.more.length ≤ (C + 13) * r.parts + 2 := by unfold more; split <;> simp <;> omega
    rw [body_cons]
    simp only [List.length_append, parts]
    have e3 : (C + 13) * (1 + g.parts + r.parts) = (C + 13) + (C + 13) * g.parts + (C + 13) * r.parts := by rw [Nat.mul_add, Nat.mul_add, Nat.mul_one]
    have d' : (tl k).length ≤ 8 := d
    omega
theorem text_len {C : Nat} (hC : 0 < C) {g : Gr} (h : g.Ok (10 ^ C)) : g.text.length ≤ (C + 13) * g.parts + 1 := by
  have := body_len hC h
  unfold text
  split
  · simp
  · omega
end Gr
/-! ## reading -/
def isFig (c : Nat) : Bool := decide (48 ≤ c ∧ c ≤ 57)
def isLtr (c : Nat) : Bool := decide (97 ≤ c ∧ c ≤ 122)
abbrev Rd (α : Type) := List Nat → Option (α × List Nat)
def rdPairOf (rdT : Rd Tr) : Rd (Tr × Int) := fun l =>
  if l.takeWhile isFig = [] then (rdT l).map fun x => ((x.1, 1), x.2)
  else if (l.takeWhile isFig).length > 60 ∨ (l.dropWhile isFig).head? ≠ some 32 then none
  else (rdT (l.dropWhile isFig).tail).map fun x => ((x.1, (NumText.digitsVal (l.takeWhile isFig) : Int)), x.2)
def rdTail (rdP : Rd (Tr × Int)) : Nat → Rd (List (Tr × Int))
  | 0, l => some ([], l)
  | f + 1, l => if l.take 2 = [44, 32] then (rdP (l.drop 2)).bind fun x => (rdTail rdP f x.2).map fun y => (x.1 :: y.1, y.2) else some ([], l)
def rdPairs (rdP : Rd (Tr × Int)) : Rd (List (Tr × Int)) := fun l => (rdP l).bind fun x => (rdTail rdP 100000 x.2).map fun y => (x.1 :: y.1, y.2)
def rdTree : Nat → Rd Tr
  | 0, l => if (l.dropWhile isLtr).head? ≠ some 123 then some ((⟨(l.takeWhile isLtr).toArray⟩, .nil), l.dropWhile isLtr) else none
  | n + 1, l => if (l.dropWhile isLtr).head? ≠ some 123 then some ((⟨(l.takeWhile isLtr).toArray⟩, .nil), l.dropWhile isLtr) else
      (rdPairs (rdPairOf (rdTree n)) (l.dropWhile isLtr).tail).bind fun x => if x.2.head? = some 125 then some ((⟨(l.takeWhile isLtr).toArray⟩, Gr.ofPs x.1), x.2.tail) else none
abbrev rdPair (n : Nat) : Rd (Tr × Int) := rdPairOf (rdTree n)
/-! what is shown is read -/
theorem takeWhile_app {p : Nat → Bool} : ∀ {as bs : List Nat}, (∀ a ∈ as, p a = true) → (∀ b, bs.head? = some b → p b = false) → (as ++ bs).takeWhile p = as ∧ (as ++ bs).dropWhile p = bs
  | [], bs, _, hb => by
    cases bs with
    | nil => exact ⟨rfl, rfl⟩
    | cons b r =>
      have := hb b rfl
      exact ⟨by simp [List.takeWhile, this], by simp [List.dropWhile, this]⟩
  | a :: as, bs, ha, hb => by
    obtain ⟨h1, h2⟩ := takeWhile_app (fun x hx => ha x (List.mem_cons_of_mem _ hx)) hb
    have := ha a (List.mem_cons_self ..)
    exact ⟨by rw [List.cons_append, List.takeWhile_cons, if_pos this, h1], by rw [List.cons_append, List.dropWhile_cons, if_pos this, h2]⟩
theorem name_ltrs {k : Str} (h : NameOk k) : ∀ c ∈ tl k, isLtr c = true := fun c hc => decide_eq_true (h.2.2 c hc)
theorem name_head {k : Str} (h : NameOk k) (r : List Nat) : ∃ c s, tl k ++ r = c :: s ∧ 97 ≤ c ∧ c ≤ 122 := by
  cases e : tl k with
  | nil => have := h.1; rw [show k.cps.toList = tl k from rfl, e] at this; simp at this
  | cons c s => exact ⟨c, s ++ r, rfl, h.2.2 c (by rw [show k.cps.toList = tl k from rfl, e]; simp)⟩
/-- what may stand behind a pair -/
def Stop (l : List Nat) : Prop := ∀ c, l.head? = some c → c = 44 ∨ c = 125
theorem rdPairOf_show {rdT : Rd Tr} {t : Tr} {m : Int} {l rest : List Nat} (hn : NameOk t.1) (h1 : 1 ≤ m) (hB : m < 10 ^ 60) (h : rdT (tl t.1 ++ l) = some (t, rest)) : rdPairOf rdT (numT m ++ (tl t.1 ++ l)) = some ((t, m), rest) := by
  obtain ⟨c, s, ec, hc1, hc2⟩ := name_head hn l
  unfold rdPairOf numT
  by_cases hm : m = 1
  · subst hm
    rw [if_pos rfl, List.nil_append]
    have e1 : (tl t.1 ++ l).takeWhile isFig = [] := by
      rw [ec, List.takeWhile_cons, if_neg]
      simp [isFig]; omega
    rw [if_pos e1, h]; rfl
  · rw [if_neg hm]
    obtain ⟨n, rfl⟩ : ∃ n : Nat, m = (n : Int) := ⟨m.toNat, by omega⟩
    rw [Int.toNat_natCast, List.append_assoc]
    have hd : ∀ a ∈ TL.numL n, isFig a = true := fun a ha => by
      have := TL.numL_digits n a ha
      exact decide_eq_true (by omega)
    obtain ⟨e1, e2⟩ := takeWhile_app (p := isFig) (as := TL.numL n) (bs := [32] ++ (tl t.1 ++ l)) hd (fun b hb => by
      have : (32 : Nat) = b := by simpa using hb
      subst this; rfl)
    rw [e1, e2, if_neg (TL.numL_ne n)]
    have hl : (TL.numL n).length ≤ 60 := TL.numL_len (by decide) (by exact_mod_cast hB)
    rw [if_neg (by simp; omega)]
    show (rdT (tl t.1 ++ l)).map _ = _
    rw [h, TL.numL_val]; rfl
theorem rdTree_show0 {n : Nat} {k : Str} {rest : List Nat} (hn : NameOk k) (hs : Stop rest) : rdTree n (tl k ++ rest) = some ((k, .nil), rest) := by
  obtain ⟨e1, e2⟩ := takeWhile_app (p := isLtr) (as := tl k) (bs := rest) (name_ltrs hn) (fun b hb => by
    rcases hs b hb with h | h <;> subst h <;> rfl)
  have hh : rest.head? ≠ some 123 := fun h => by rcases hs 123 h with e | e <;> cases e
  cases n with
  | zero => unfold rdTree; rw [e1, e2, if_pos hh, TL.mk_tl]
  | succ n => unfold rdTree; rw [e1, e2, if_pos hh, TL.mk_tl]
theorem rdTree_show1 {n : Nat} {k : Str} {g : Gr} {rest : List Nat} (hn : NameOk k) (hg : g ≠ .nil) (h : rdPairs (rdPair n) (g.body ++ ([125] ++ rest)) = some (g.ps, [125] ++ rest)) : rdTree (n + 1) (tl k ++ (g.held ++ rest)) = some ((k, g), rest) := by
  have e0 : g.held ++ rest = 123 :: (g.body ++ ([125] ++ rest)) := by
    unfold Gr.held; rw [if_neg hg]; simp
  rw [e0]
  obtain ⟨e1, e2⟩ := takeWhile_app (p := isLtr) (as := tl k) (bs := 123 :: (g.body ++ ([125] ++ rest))) (name_ltrs hn) (fun b hb => by
    have : (123 : Nat) = b := by simpa using hb
    subst this; rfl)
  unfold rdTree
  rw [e1, e2, if_neg (by simp)]
  show (rdPairs (rdPair n) (g.body ++ ([125] ++ rest))).bind _ = _
  rw [h]
  show (if ([125] ++ rest).head? = some 125 then some (((⟨(tl k).toArray⟩ : Str), Gr.ofPs g.ps), rest) else none) = _
  rw [TL.mk_tl, Gr.ofPs_ps]
  rfl
theorem Stop.nil : Stop [] := fun c h => by cases h
theorem Stop.brace (r : List Nat) : Stop (125 :: r) := fun c h => by have : (125 : Nat) = c := by simpa using h
                                                                     exact .inr this.symm
theorem Stop.comma (r : List Nat) : Stop (44 :: r) := fun c h => by have : (44 : Nat) = c := by simpa using h
                                                                    exact .inl this.symm
/-- what may stand behind pairs -/
def End (l : List Nat) : Prop := ∀ c, l.head? = some c → c = 125
theorem End.stop {l : List Nat} (h : End l) : Stop l := fun c hc => .inr (h c hc)
theorem more_stop (r : Gr) {rest : List Nat} (he : End rest) : Stop (r.more ++ rest) := by
  unfold Gr.more
  split
  · exact he.stop
  · exact Stop.comma _
theorem tail_end {rdP : Rd (Tr × Int)} {rest : List Nat} (he : End rest) (f : Nat) : rdTail rdP f rest = some ([], rest) := by
  cases f with
  | zero => rfl
  | succ f =>
    show (if rest.take 2 = [44, 32] then _ else _) = _
    rw [if_neg]
    intro z
    cases rest with
    | nil => simp at z
    | cons c s =>
      have hc := he c rfl
      subst hc
      simp at z
mutual
theorem rdTail_show : ∀ (r : Gr), r.Ok (10 ^ 60) → r.parts ≤ 100000 → ∀ (n f : Nat), r.ps.length ≤ f → r.deep ≤ n + 1 → ∀ rest, End rest → rdTail (rdPair n) f (r.more ++ rest) = some (r.ps, rest)
  | .nil, _, _, n, f, _, _, rest, he => by
    show rdTail (rdPair n) f rest = some ([], rest)
    exact tail_end he f
  | .cons k g m r, ho, hp, n, f, hf, hd, rest, he => by
    have hp2 : r.parts ≤ 100000 := by have : 1 + g.parts + r.parts ≤ 100000 := hp; omega
    cases f with
    | zero => simp [Gr.ps] at hf
    | succ f =>
      have hd2 : r.deep ≤ n + 1 := by have : max (1 + g.deep) r.deep ≤ n + 1 := hd; omega
      have hf' : r.ps.length ≤ f := by have : r.ps.length + 1 ≤ f + 1 := hf; omega
      have e : (Gr.cons k g m r).more ++ rest = 44 :: 32 :: (numT m ++ (tl k ++ (g.held ++ (r.more ++ rest)))) := by
        unfold Gr.more; rw [if_neg (fun z => nomatch z), Gr.body_cons]
        simp [Gr.more]
      rw [e]
      show (if (44 :: 32 :: (numT m ++ (tl k ++ (g.held ++ (r.more ++ rest))))).take 2 = [44, 32] then (rdPair n (numT m ++ (tl k ++ (g.held ++ (r.more ++ rest))))).bind (fun x => (rdTail (rdPair n) f x.2).map fun y => (x.1 :: y.1, y.2)) else _) = _
      rw [if_pos (show (44 :: 32 :: (numT m ++ (tl k ++ (g.held ++ (r.more ++ rest))))).take 2 = [44, 32] from rfl), rdPair_show k g m r ho hp n hd (r.more ++ rest) (more_stop r he)]
      show (rdTail (rdPair n) f (r.more ++ rest)).map _ = _
      rw [rdTail_show r ho.2.2.2.2.1 hp2 n f hf' hd2 rest he]; rfl
theorem rdPair_show : ∀ (k : Str) (g : Gr) (m : Int) (r : Gr), (Gr.cons k g m r).Ok (10 ^ 60) → (Gr.cons k g m r).parts ≤ 100000 → ∀ (n : Nat), (Gr.cons k g m r).deep ≤ n + 1 → ∀ rest, Stop rest → rdPair n (numT m ++ (tl k ++ (g.held ++ rest))) = some (((k, g), m), rest)
  | k, g, m, r, ⟨h0, h1, h2, h3, h4, _⟩, hp, n, hd, rest, hs => by
    have hp1 : g.parts ≤ 100000 := by have : 1 + g.parts + r.parts ≤ 100000 := hp; omega
    have hd1 : g.deep ≤ n := by have : max (1 + g.deep) r.deep ≤ n + 1 := hd; omega
    refine rdPairOf_show (t := (k, g)) h0 h2 h3 ?_
    match g, h1, hd1, hp1 with
    | .nil, _, _, _ =>
      show rdTree n (tl k ++ ([] ++ rest)) = _
      exact rdTree_show0 h0 hs
    | .cons k2 g2 m2 r2, h1, hd1, hp1 =>
      match n, hd1 with
      | 0, hd1 => have : max (1 + g2.deep) r2.deep ≤ 0 := hd1; omega
      | n + 1, hd1 =>
        refine rdTree_show1 h0 (fun z => nomatch z) ?_
        have e : (Gr.cons k2 g2 m2 r2).body ++ ([125] ++ rest) = numT m2 ++ (tl k2 ++ (g2.held ++ (r2.more ++ ([125] ++ rest)))) := by
          rw [Gr.body_cons]; simp
        have he : End ([125] ++ rest) := fun c hc => by
          have : (125 : Nat) = c := by simpa using hc
          exact this.symm
        rw [e]
        unfold rdPairs
        rw [rdPair_show k2 g2 m2 r2 h1 hp1 n hd1 _ (more_stop r2 he)]
        show (rdTail (rdPair n) 100000 (r2.more ++ ([125] ++ rest))).map _ = _
        have hd2 : r2.deep ≤ n + 1 := by have : max (1 + g2.deep) r2.deep ≤ n + 1 := hd1; omega
        have hp2 : r2.parts ≤ 100000 := by have : 1 + g2.parts + r2.parts ≤ 100000 := hp1; omega
        rw [rdTail_show r2 h1.2.2.2.2.1 hp2 n 100000 (Nat.le_trans r2.len_parts hp2) hd2 _ he]; rfl
end
theorem rdPairs_show {g : Gr} (ho : g.Ok (10 ^ 60)) (hp : g.parts ≤ 100000) (hne : g ≠ .nil) {n : Nat} (hd : g.deep ≤ n + 1) {rest : List Nat} (he : End rest) : rdPairs (rdPair n) (g.body ++ rest) = some (g.ps, rest) := by
  cases g with
  | nil => exact absurd rfl hne
  | cons k g m r =>
    have e : (Gr.cons k g m r).body ++ rest = numT m ++ (tl k ++ (g.held ++ (r.more ++ rest))) := by rw [Gr.body_cons]; simp
    rw [e]
    unfold rdPairs
    rw [rdPair_show k g m r ho hp n hd _ (more_stop r he)]
    show (rdTail (rdPair n) 100000 (r.more ++ rest)).map _ = _
    have hd2 : r.deep ≤ n + 1 := by have : max (1 + g.deep) r.deep ≤ n + 1 := hd; omega
    have hp2 : r.parts ≤ 100000 := by have : 1 + g.parts + r.parts ≤ 100000 := hp; omega
    rw [rdTail_show r ho.2.2.2.2.1 hp2 n 100000 (Nat.le_trans r.len_parts hp2) hd2 _ he]; rfl
end FT
namespace FT
open PySem PySem.W PySem.Spec PyProof.Rows L2
open TL (tl)
theorem cut_tl (z : Str) (a b : Nat) : tl (cutS z (some (a : Int)) (some (b : Int))) = ((tl z).drop a).take (b - a) := by
  have hl : (tl z).length = z.length := (TL.len_tl z).symm
  show (cutS z (some (a : Int)) (some (b : Int))).cps.toList = _
  unfold cutS
  rw [HT.sIx_nat, HT.sIx_nat]
  show ((tl z).drop (min a z.length)).take (min b z.length - min a z.length) = _
  rcases Nat.le_total a z.length with ha | ha
  · rw [Nat.min_eq_left ha]
    rcases Nat.le_total b z.length with hb | hb
    · rw [Nat.min_eq_left hb]
    · rw [Nat.min_eq_right hb, List.take_of_length_le (by rw [List.length_drop]; omega), List.take_of_length_le (by rw [List.length_drop]; omega)]
  · rw [Nat.min_eq_right ha, List.drop_eq_nil_of_le (by omega), List.drop_eq_nil_of_le (by omega)]; simp
def spSignAt (K : PySem.W.Frag) : Sp := fun vs H Q _ => ∃ (z : Str) (k : Nat), vs = [.str z, .int (k : Int)] ∧ z.length ≤ 100000 ∧ ∀ y : Str, tl y = ((tl z).drop k).take 1 → Q (.str y) H
theorem take1_eq {l : List Nat} {y : Str} {c : Nat} (h : tl y = l.take 1) : (y = ⟨#[c]⟩) ↔ l.head? = some c := by
  constructor
  · intro e
    rw [e] at h
    have h' : [c] = l.take 1 := h
    cases l with
    | nil => simp at h'
    | cons a r => simp at h'; simp [h']
  · intro e
    refine TL.ext_tl ?_
    rw [h]
    cases l with
    | nil => simp at e
    | cons a r => simp at e; simp [e]
/-- the run of signs: what run_of tells, as a row -/
theorem run_tw {z y : Str} {k e : Nat} {p : Nat → Bool} (hp : ∀ c, p c = true ↔ c ∈ tl y) (ke : k ≤ e) (el : e ≤ z.length) (hin : ∀ j c, k ≤ j → j < e → z.cps.toList[j]? = some c → c ∈ y.cps.toList) (hout : ∀ c, z.cps.toList[e]? = some c → c ∉ y.cps.toList) :
    tl (cutS z (some (k : Int)) (some (e : Int))) = ((tl z).drop k).takeWhile p ∧ (tl z).drop e = ((tl z).drop k).dropWhile p ∧ (((tl z).drop k).takeWhile p).length = e - k := by
  have hl : (tl z).length = z.length := (TL.len_tl z).symm
  rw [cut_tl]
  have e1 : (tl z).drop k = ((tl z).drop k).take (e - k) ++ (tl z).drop e := by
    have h := (List.take_append_drop (e - k) ((tl z).drop k)).symm
    rw [List.drop_drop, show k + (e - k) = e by omega] at h
    exact h
  have h2 := takeWhile_app (p := p) (as := ((tl z).drop k).take (e - k)) (bs := (tl z).drop e) (fun a ha => ?_) (fun b hb => ?_)
  · rw [← e1] at h2
    refine ⟨h2.1.symm, h2.2.symm, ?_⟩
    rw [h2.1, List.length_take, List.length_drop]; omega
  · obtain ⟨j, hj⟩ := List.mem_iff_getElem?.mp ha
    rw [List.getElem?_take] at hj
    split at hj
    · rename_i hlt
      rw [List.getElem?_drop] at hj
      exact (hp a).mpr (hin (k + j) a (by omega) (by omega) hj)
    · cases hj
  · have hb' : (tl z)[e]? = some b := by rw [List.head?_drop] at hb; exact hb
    have := hout b hb'
    cases hpb : p b with
    | false => rfl
    | true => exact absurd ((hp b).mp hpb) this
theorem fig_mem (c : Nat) : isFig c = true ↔ c ∈ tl (Str.ofString "0123456789") := by
  have e : tl (Str.ofString "0123456789") = (List.range 10).map (· + 48) := by decide +kernel
  rw [e, List.mem_map]
  unfold isFig
  constructor
  · intro h
    have := of_decide_eq_true h
    exact ⟨c - 48, List.mem_range.mpr (by omega), by omega⟩
  · rintro ⟨x, hx, rfl⟩
    have := List.mem_range.mp hx
    exact decide_eq_true (by omega)
theorem ltr_mem (c : Nat) : isLtr c = true ↔ c ∈ tl abc := by
  rw [show tl abc = abc.cps.toList from rfl, mem_abc]
  unfold isLtr
  simp
/-! ## showing -/
def spShowG (K : PySem.W.Frag) (n : Nat) : Sp := fun vs H Q _ => ∃ (v : V) (g : Gr), vs = [v] ∧ GA K H v g ∧ g.deep < n ∧ g.Ok (10 ^ 500) ∧ g.parts ≤ 1000 ∧ ∀ (z : Str) (H' : Hp), SB [] H H' → tl z = g.text → Q (.str z) H'
def spShowT (K : PySem.W.Frag) (n : Nat) : Sp := fun vs H Q _ => ∃ (v : V) (t : Tr), vs = [v] ∧ Dp K H v (Gr.tEnc t) ∧ NameOk t.1 ∧ t.2.deep < n ∧ t.2.Ok (10 ^ 500) ∧ t.2.parts ≤ 1000 ∧ ∀ (z : Str) (H' : Hp), SB [] H H' → tl z = tl t.1 ++ t.2.held → Q (.str z) H'
def spShowP (K : PySem.W.Frag) (n : Nat) : Sp := fun vs H Q _ => ∃ (v : V) (t : Tr) (m : Int), vs = [v, .int m] ∧ Dp K H v (Gr.tEnc t) ∧ NameOk t.1 ∧ t.2.deep < n ∧ t.2.Ok (10 ^ 500) ∧ t.2.parts ≤ 1000 ∧ 1 ≤ m ∧ m < 10 ^ 500 ∧ ∀ (z : Str) (H' : Hp), SB [] H H' → tl z = Gr.pText (t, m) → Q (.str z) H'
theorem held_len {g : Gr} (h : g.Ok (10 ^ 500)) (hp : g.parts ≤ 1000) : g.held.length ≤ 513002 := by
  have := Gr.body_len (C := 500) (by decide) h
  unfold Gr.held
  split
  · simp
  · simp; omega
theorem log_small {m : Int} (h0 : 0 ≤ m) (h : m < 10 ^ 500) : m.natAbs.log2 < 1920 := by
  obtain ⟨n, rfl⟩ : ∃ n : Nat, m = (n : Int) := ⟨m.toNat, by omega⟩
  show n.log2 < 1920
  by_cases hn : n = 0
  · subst hn; decide
  · refine (Nat.log2_lt hn).mpr (Nat.lt_trans (show n < 10 ^ 500 by exact_mod_cast h) (by decide +kernel))
theorem num_tl {m : Int} (h0 : 0 ≤ m) : tl (Str.ofString (toString m)) = TL.numL m.toNat := by
  obtain ⟨n, rfl⟩ : ∃ n : Nat, m = (n : Int) := ⟨m.toNat, by omega⟩
  rw [TL.tl_num, Int.toNat_natCast]
theorem str_len {m : Int} (h0 : 0 ≤ m) (h : m < 10 ^ 500) : (Str.ofString (toString m)).length ≤ 500 := by
  rw [TL.len_tl, num_tl h0]
  obtain ⟨n, rfl⟩ : ∃ n : Nat, m = (n : Int) := ⟨m.toNat, by omega⟩
  exact TL.numL_len (by decide) (by rw [Int.toNat_natCast]; exact_mod_cast h)
theorem none_showG {P : Program} {w : World} {K : PySem.W.Frag} {mg : Str → Option Value} {base : Heap} {f : Addr} {fd : FuncData} {ps : List Str} {k : Nat} : FnOk P w K mg base CX0 k f fd ps (spShowG K 0) := none_sp fun vs H Q E ⟨v, g, _, _, h, _⟩ => by omega
theorem pText_len {t : Tr} {m : Int} (hn : NameOk t.1) (ho : t.2.Ok (10 ^ 500)) (hp : t.2.parts ≤ 1000) (h1 : 1 ≤ m) (hm : m < 10 ^ 500) : (Gr.pText (t, m)).length ≤ 13 + 500 + (513 * t.2.parts + 2) := by
  have h2 := numT_len (C := 500) (by decide) (by omega) hm
  have h3 := Gr.body_len (C := 500) (by decide) ho
  have h4 : (tl t.1).length ≤ 8 := hn.2.1
  have h5 : t.2.held.length ≤ 513 * t.2.parts + 2 := by
    unfold Gr.held
    split
    · simp
    · simp; omega
  show (numT m ++ (tl t.1 ++ t.2.held)).length ≤ _
  rw [List.length_append, List.length_append]
  omega
end FT
namespace FT
open PySem PySem.W PySem.Spec PyProof.Rows L2
open TL (tl)
theorem none_spX {P : Program} {w : World} {K : PySem.W.Frag} {mg : Str → Option Value} {base : Heap} {f : Addr} {fd : FuncData} {ps : List Str} {k : Nat} {sp : Sp} (no : ∀ vs H Q E, ¬ sp vs H Q E) : FnOk P w K mg base (L2.CX P w) k f fd ps sp :=
  ⟨fun vs H Q E h => absurd h (no vs H Q E), fun A outer s H args us vs Q E _ _ _ _ h => absurd h (no vs H Q E)⟩
/-! ## reading, as promises -/
def spReadTree (K : PySem.W.Frag) (C : Addr) (n : Nat) : Sp := fun vs H Q E => ∃ (z : Str) (k left : Nat), vs = [.str z, .int (k : Int), .int (left : Int)] ∧ z.length ≤ 10000 ∧ k ≤ z.length ∧ left < n ∧
  (∀ (t : Tr) (l2 : List Nat), rdTree left ((tl z).drop k) = some (t, l2) → ∀ (T : Addr) (v : V) (k' : Nat) (H' : Hp), SB [] H H' → SqT K H' T [v, .int (k' : Int)] → Dp K H' v (Gr.tEnc t) → k ≤ k' → k' ≤ z.length → (tl z).drop k' = l2 → Q (.ref T) H') ∧
  (rdTree left ((tl z).drop k) = none → ∀ H', SB [] H H' → E (.ref C) none H')
def spReadPair (K : PySem.W.Frag) (C : Addr) (n : Nat) : Sp := fun vs H Q E => ∃ (z : Str) (k left : Nat), vs = [.str z, .int (k : Int), .int (left : Int)] ∧ z.length ≤ 10000 ∧ k ≤ z.length ∧ left < n ∧
  (∀ (p : Tr × Int) (l2 : List Nat), rdPair left ((tl z).drop k) = some (p, l2) → ∀ (T : Addr) (v : V) (k' : Nat) (H' : Hp), SB [] H H' → SqT K H' T [v, .int (k' : Int)] → Dp K H' v (Gr.pEnc p) → k ≤ k' → k' ≤ z.length → (tl z).drop k' = l2 → Q (.ref T) H') ∧
  (rdPair left ((tl z).drop k) = none → ∀ H', SB [] H H' → E (.ref C) none H')
def spReadPairs (K : PySem.W.Frag) (C : Addr) (n : Nat) : Sp := fun vs H Q E => ∃ (z : Str) (k left : Nat), vs = [.str z, .int (k : Int), .int (left : Int)] ∧ z.length ≤ 10000 ∧ k ≤ z.length ∧ left < n ∧
  (∀ (ps : List (Tr × Int)) (l2 : List Nat), rdPairs (rdPair left) ((tl z).drop k) = some (ps, l2) → ∀ (T : Addr) (v : V) (k' : Nat) (H' : Hp), SB [] H H' → SqT K H' T [v, .int (k' : Int)] → GA K H' v (Gr.ofPs ps) → k ≤ k' → k' ≤ z.length → (tl z).drop k' = l2 → Q (.ref T) H') ∧
  (rdPairs (rdPair left) ((tl z).drop k) = none → ∀ H', SB [] H H' → E (.ref C) none H')
theorem tail_drop {α : Type} (l : List α) (k : Nat) : (l.drop k).tail = l.drop (k + 1) := by rw [List.tail_drop]
theorem head_lt {l : List Nat} {k c : Nat} (h : (l.drop k).head? = some c) : k < l.length := by
  rw [List.head?_drop] at h
  exact (List.getElem?_eq_some_iff.mp h).1
/-! how much is read -/
theorem dw_len (p : Nat → Bool) (l : List Nat) : (l.dropWhile p).length + (l.takeWhile p).length = l.length := by
  have := congrArg List.length (List.takeWhile_append_dropWhile (p := p) (l := l))
  rw [List.length_append] at this; omega
/-- rd reads at least as many signs as there are parts -/
def Eats {α : Type} (rd : Rd α) (w : α → Nat) : Prop := ∀ l x l2, rd l = some (x, l2) → w x + l2.length ≤ l.length
theorem eats_pairOf {rdT : Rd Tr} (h : Eats rdT fun t => t.2.parts) : Eats (rdPairOf rdT) fun p => p.1.2.parts := by
  intro l x l2 e
  unfold rdPairOf at e
  split at e
  · cases hx : rdT l with
    | none => rw [hx] at e; cases e
    | some y =>
      rw [hx] at e; cases e
      exact h l y.1 y.2 hx
  · split at e
    · cases e
    · cases hx : rdT (l.dropWhile isFig).tail with
      | none => rw [hx] at e; cases e
      | some y =>
        rw [hx] at e; cases e
        have h1 : y.1.2.parts + y.2.length ≤ _ := h _ y.1 y.2 hx
        have h2 := dw_len isFig l
        rw [List.length_tail] at h1
        show y.1.2.parts + _ ≤ _
        omega
theorem eats_tail {rdP : Rd (Tr × Int)} (h : Eats rdP fun p => p.1.2.parts) : ∀ f, Eats (rdTail rdP f) fun ps => Gr.tot ps
  | 0, l, x, l2, e => by cases e; exact Nat.le_of_eq (Nat.zero_add _)
  | f + 1, l, x, l2, e => by
    have e' : (if l.take 2 = [44, 32] then (rdP (l.drop 2)).bind fun x => (rdTail rdP f x.2).map fun y => (x.1 :: y.1, y.2) else some ([], l)) = some (x, l2) := e
    split at e'
    · cases hx : rdP (l.drop 2) with
      | none => rw [hx] at e'; cases e'
      | some y =>
        rw [hx] at e'
        have e2 : (rdTail rdP f y.2).map (fun z => (y.1 :: z.1, z.2)) = some (x, l2) := e'
        cases hy : rdTail rdP f y.2 with
        | none => rw [hy] at e2; cases e2
        | some z =>
          rw [hy] at e2; cases e2
          have h1 := h _ y.1 y.2 hx
          have h2 := eats_tail h f _ z.1 z.2 hy
          rw [List.length_drop] at h1
          rename_i ht
          have h3 : 2 ≤ l.length := by
            have := congrArg List.length ht
            rw [List.length_take] at this
            have e3 : ([44, 32] : List Nat).length = 2 := rfl
            omega
          show 1 + y.1.1.2.parts + Gr.tot z.1 + _ ≤ _
          have h1' : y.1.1.2.parts + y.2.length ≤ l.length - 2 := h1
          have h2' : Gr.tot z.1 + z.2.length ≤ y.2.length := h2
          omega
    · cases e'; exact Nat.le_of_eq (Nat.zero_add _)
theorem eats_pairs {rdP : Rd (Tr × Int)} (h : Eats rdP fun p => p.1.2.parts) : ∀ l x l2, rdPairs rdP l = some (x, l2) → Gr.tot x + l2.length ≤ l.length + 1 := by
  intro l x l2 e
  unfold rdPairs at e
  cases hx : rdP l with
  | none => rw [hx] at e; cases e
  | some y =>
    rw [hx] at e
    have e2 : (rdTail rdP 100000 y.2).map (fun z => (y.1 :: z.1, z.2)) = some (x, l2) := e
    cases hy : rdTail rdP 100000 y.2 with
    | none => rw [hy] at e2; cases e2
    | some z =>
      rw [hy] at e2; cases e2
      have h1 : y.1.1.2.parts + y.2.length ≤ l.length := h _ y.1 y.2 hx
      have h2 : Gr.tot z.1 + z.2.length ≤ y.2.length := eats_tail h _ _ z.1 z.2 hy
      show 1 + y.1.1.2.parts + Gr.tot z.1 + _ ≤ _
      omega
theorem eats_tree : ∀ n, Eats (rdTree n) fun t => t.2.parts
  | 0, l, x, l2, e => by
    unfold rdTree at e
    split at e
    · cases e
      have := dw_len isLtr l
      show 0 + _ ≤ _; omega
    · cases e
  | n + 1, l, x, l2, e => by
    unfold rdTree at e
    have hd := dw_len isLtr l
    split at e
    · cases e
      show 0 + _ ≤ _; omega
    · rename_i hh
      cases hx : rdPairs (rdPairOf (rdTree n)) (l.dropWhile isLtr).tail with
      | none => rw [hx] at e; cases e
      | some y =>
        rw [hx] at e
        have e2 : (if y.2.head? = some 125 then some (((⟨(l.takeWhile isLtr).toArray⟩ : Str), Gr.ofPs y.1), y.2.tail) else none) = some (x, l2) := e
        split at e2
        · rename_i hb
          cases e2
          have h1 := eats_pairs (eats_pairOf (eats_tree n)) _ y.1 y.2 hx
          rw [List.length_tail] at h1
          have h3 : 1 ≤ y.2.length := by cases hy : y.2 with
                                         | nil => rw [hy] at hb; cases hb
                                         | cons _ _ => simp
          have h4 : 1 ≤ (l.dropWhile isLtr).length := by
            cases hy : l.dropWhile isLtr with
            | nil => rw [hy] at hh; simp at hh
            | cons _ _ => simp
          show (Gr.ofPs y.1).parts + y.2.tail.length ≤ _
          rw [Gr.parts_ofPs, List.length_tail]
          omega
        · cases e2
/-! what is read: names of letters, numbers of sixty figures, depths -/
/-- names are runs of small letters, numbers below ten to sixty -/
def Raw (L : Nat) : Gr → Prop
  | .nil => True
  | .cons k g m r => ((tl k).length ≤ L ∧ ∀ c ∈ tl k, 97 ≤ c ∧ c ≤ 122) ∧ Raw L g ∧ 0 ≤ m ∧ m < 10 ^ 60 ∧ Raw L r
theorem raw_ofPs {L : Nat} : ∀ {ps : List (Tr × Int)}, (∀ p ∈ ps, ((tl p.1.1).length ≤ L ∧ ∀ c ∈ tl p.1.1, 97 ≤ c ∧ c ≤ 122) ∧ Raw L p.1.2 ∧ 0 ≤ p.2 ∧ p.2 < 10 ^ 60) → Raw L (Gr.ofPs ps)
  | [], _ => trivial
  | p :: r, h => by
    have h1 := h p (List.mem_cons_self ..)
    exact ⟨h1.1, h1.2.1, h1.2.2.1, h1.2.2.2, raw_ofPs fun q hq => h q (List.mem_cons_of_mem _ hq)⟩
theorem tw_all (p : Nat → Bool) (l : List Nat) : ∀ c ∈ l.takeWhile p, p c = true := by
  induction l with
  | nil => intro c h; cases h
  | cons a r ih =>
    intro c h
    rw [List.takeWhile_cons] at h
    split at h
    · rcases List.mem_cons.mp h with h | h
      · subst h; assumption
      · exact ih c h
    · cases h
theorem digits_lt : ∀ {cs : List Nat}, (∀ c ∈ cs, isFig c = true) → ∀ k, cs.length ≤ k → NumText.digitsVal cs < 10 ^ k := by
  have key : ∀ (cs : List Nat) (a k : Nat), (∀ c ∈ cs, isFig c = true) → a < 10 ^ k → cs.foldl (fun acc c => acc * 10 + (c - 48)) a < 10 ^ (k + cs.length) := by
    intro cs
    induction cs with
    | nil => intro a k _ h; exact h
    | cons c r ih =>
      intro a k h ha
      have hc := of_decide_eq_true (h c (List.mem_cons_self ..))
      have := ih (a * 10 + (c - 48)) (k + 1) (fun x hx => h x (List.mem_cons_of_mem _ hx)) (by rw [Nat.pow_succ]; omega)
      rw [List.foldl_cons, List.length_cons, show k + (r.length + 1) = k + 1 + r.length by omega]
      exact this
  intro cs h k hk
  have h1 := key cs 0 0 h (by decide)
  rw [Nat.zero_add] at h1
  exact Nat.lt_of_lt_of_le h1 (Nat.pow_le_pow_right (by decide) hk)
def RawP (L n : Nat) (p : Tr × Int) : Prop := ((tl p.1.1).length ≤ L ∧ ∀ c ∈ tl p.1.1, 97 ≤ c ∧ c ≤ 122) ∧ Raw L p.1.2 ∧ 0 ≤ p.2 ∧ p.2 < 10 ^ 60 ∧ p.1.2.deep ≤ n
def RawT (L n : Nat) (t : Tr) : Prop := ((tl t.1).length ≤ L ∧ ∀ c ∈ tl t.1, 97 ≤ c ∧ c ≤ 122) ∧ Raw L t.2 ∧ t.2.deep ≤ n
theorem raw_pairOf {L n : Nat} {rdT : Rd Tr} (h : ∀ l x l2, l.length ≤ L → rdT l = some (x, l2) → RawT L n x ∧ l2.length ≤ l.length) : ∀ l x l2, l.length ≤ L → rdPairOf rdT l = some (x, l2) → RawP L n x ∧ l2.length ≤ l.length := by
  intro l x l2 hl e
  unfold rdPairOf at e
  have hd := dw_len isFig l
  split at e
  · cases hx : rdT l with
    | none => rw [hx] at e; cases e
    | some y =>
      rw [hx] at e; cases e
      obtain ⟨⟨a, b, c⟩, d⟩ := h l y.1 y.2 hl hx
      exact ⟨⟨a, b, by show (0 : Int) ≤ 1; decide, by show (1 : Int) < 10 ^ 60; decide, c⟩, d⟩
  · split at e
    · cases e
    · rename_i hn
      cases hx : rdT (l.dropWhile isFig).tail with
      | none => rw [hx] at e; cases e
      | some y =>
        rw [hx] at e; cases e
        obtain ⟨⟨a, b, c⟩, d⟩ := h _ y.1 y.2 (by rw [List.length_tail]; omega) hx
        rw [List.length_tail] at d
        refine ⟨⟨a, b, by show (0 : Int) ≤ (NumText.digitsVal _ : Int); omega, ?_, c⟩, by show y.2.length ≤ _; omega⟩
        have h60 : (l.takeWhile isFig).length ≤ 60 := by
          rw [not_or] at hn; omega
        have := digits_lt (tw_all isFig l) 60 h60
        show ((NumText.digitsVal (l.takeWhile isFig) : Nat) : Int) < 10 ^ 60
        exact_mod_cast this
theorem raw_tail {L n : Nat} {rdP : Rd (Tr × Int)} (h : ∀ l x l2, l.length ≤ L → rdP l = some (x, l2) → RawP L n x ∧ l2.length ≤ l.length) : ∀ f l x l2, l.length ≤ L → rdTail rdP f l = some (x, l2) → (∀ p ∈ x, RawP L n p) ∧ l2.length ≤ l.length
  | 0, l, x, l2, _, e => by cases e; exact ⟨by simp, Nat.le_refl _⟩
  | f + 1, l, x, l2, hl, e => by
    have e' : (if l.take 2 = [44, 32] then (rdP (l.drop 2)).bind fun x => (rdTail rdP f x.2).map fun y => (x.1 :: y.1, y.2) else some ([], l)) = some (x, l2) := e
    split at e'
    · cases hx : rdP (l.drop 2) with
      | none => rw [hx] at e'; cases e'
      | some y =>
        rw [hx] at e'
        have e2 : (rdTail rdP f y.2).map (fun z => (y.1 :: z.1, z.2)) = some (x, l2) := e'
        cases hy : rdTail rdP f y.2 with
        | none => rw [hy] at e2; cases e2
        | some z =>
          rw [hy] at e2; cases e2
          obtain ⟨a, b⟩ := h _ y.1 y.2 (by rw [List.length_drop]; omega) hx
          rw [List.length_drop] at b
          obtain ⟨c, d⟩ := raw_tail h f _ z.1 z.2 (by omega) hy
          refine ⟨fun p hp => ?_, by show z.2.length ≤ _; omega⟩
          rcases List.mem_cons.mp hp with hp | hp
          · subst hp; exact a
          · exact c p hp
    · cases e'; exact ⟨by simp, Nat.le_refl _⟩
theorem raw_pairs {L n : Nat} {rdP : Rd (Tr × Int)} (h : ∀ l x l2, l.length ≤ L → rdP l = some (x, l2) → RawP L n x ∧ l2.length ≤ l.length) : ∀ l x l2, l.length ≤ L → rdPairs rdP l = some (x, l2) → (∀ p ∈ x, RawP L n p) ∧ l2.length ≤ l.length := by
  intro l x l2 hl e
  unfold rdPairs at e
  cases hx : rdP l with
  | none => rw [hx] at e; cases e
  | some y =>
    rw [hx] at e
    have e2 : (rdTail rdP 100000 y.2).map (fun z => (y.1 :: z.1, z.2)) = some (x, l2) := e
    cases hy : rdTail rdP 100000 y.2 with
    | none => rw [hy] at e2; cases e2
    | some z =>
      rw [hy] at e2; cases e2
      obtain ⟨a, b⟩ := h _ y.1 y.2 hl hx
      obtain ⟨c, d⟩ := raw_tail h _ _ z.1 z.2 (by omega) hy
      refine ⟨fun p hp => ?_, by show z.2.length ≤ _; omega⟩
      rcases List.mem_cons.mp hp with hp | hp
      · subst hp; exact a
      · exact c p hp
theorem deep_ofPs {n : Nat} {ps : List (Tr × Int)} (h : ∀ p ∈ ps, p.1.2.deep ≤ n) : (Gr.ofPs ps).deep ≤ n + 1 := by
  refine Gr.deep_le fun p hp => ?_
  rw [Gr.ps_ofPs] at hp
  have := h p hp; omega
theorem raw_tree {L : Nat} : ∀ n l x l2, l.length ≤ L → rdTree n l = some (x, l2) → RawT L n x ∧ l2.length ≤ l.length
  | 0, l, x, l2, hl, e => by
    unfold rdTree at e
    have hd := dw_len isLtr l
    split at e
    · cases e
      exact ⟨⟨⟨by show (l.takeWhile isLtr).length ≤ L; omega, fun c hc => of_decide_eq_true (tw_all isLtr l c hc)⟩, trivial, Nat.le_refl _⟩, by omega⟩
    · cases e
  | n + 1, l, x, l2, hl, e => by
    unfold rdTree at e
    have hd := dw_len isLtr l
    split at e
    · cases e
      exact ⟨⟨⟨by show (l.takeWhile isLtr).length ≤ L; omega, fun c hc => of_decide_eq_true (tw_all isLtr l c hc)⟩, trivial, Nat.zero_le _⟩, by omega⟩
    · cases hx : rdPairs (rdPairOf (rdTree n)) (l.dropWhile isLtr).tail with
      | none => rw [hx] at e; cases e
      | some y =>
        rw [hx] at e
        have e2 : (if y.2.head? = some 125 then some (((⟨(l.takeWhile isLtr).toArray⟩ : Str), Gr.ofPs y.1), y.2.tail) else none) = some (x, l2) := e
        split at e2
        · cases e2
          obtain ⟨a, b⟩ := raw_pairs (L := L) (raw_pairOf (raw_tree (L := L) n)) _ y.1 y.2 (by rw [List.length_tail]; omega) hx
          rw [List.length_tail] at b
          refine ⟨⟨⟨by show (l.takeWhile isLtr).length ≤ L; omega, fun c hc => of_decide_eq_true (tw_all isLtr l c hc)⟩, raw_ofPs fun p hp => ⟨(a p hp).1, (a p hp).2.1, (a p hp).2.2.1, (a p hp).2.2.2.1⟩, deep_ofPs fun p hp => (a p hp).2.2.2.2⟩, by rw [List.length_tail]; omega⟩
        · cases e2
/-- a raw grove that is let by is right -/
theorem raw_ok {L : Nat} : ∀ {g : Gr}, Raw L g → groveD g.enc = true → g.Ok (10 ^ 60) := by
  have key : ∀ (g : Gr), Raw L g → grPs g.encs = true → (risingD (g.encs.map exp0) = true → g.Ok (10 ^ 60)) := by
    intro g
    induction g with
    | nil => intro _ _ _; trivial
    | cons k g m r ihg ihr =>
      intro ⟨hk, hg, hm0, hmB, hr⟩ hps hri
      have e : (Gr.cons k g m r).encs = Gr.pEnc ((k, g), m) :: r.encs := rfl
      rw [e, grPs, Bool.and_eq_true] at hps
      rw [e, List.map_cons] at hri
      have hp : grP (.tuple [.tuple [.str k, .tuple g.encs], .int m]) = true := hps.1
      rw [grP, grP2, Bool.and_eq_true, treeD, trD2, Bool.and_eq_true, trD3, Bool.and_eq_true, groveD, Bool.and_eq_true, ladP3, Bool.and_eq_true] at hp
      obtain ⟨⟨hn, ⟨hgp, hgr⟩, _⟩, hmm, _⟩ := hp
      have hname : NameOk k := by
        obtain ⟨z, ez, hz⟩ := nameD_iff hn
        cases ez; exact hz
      have hm1 : 1 ≤ m := of_decide_eq_true hmm
      have hri2 : risingD (r.encs.map exp0) = true := by
        cases hre : r.encs with
        | nil => rfl
        | cons d ds =>
          rw [hre, List.map_cons] at hri
          have : (dataLt (exp0 (Gr.pEnc ((k, g), m))) (exp0 d) :: ltsD (exp0 d :: ds.map exp0)).all id = true := hri
          rw [List.all_cons, Bool.and_eq_true] at this
          rw [List.map_cons]; exact this.2
      have hro := ihr hr hps.2 hri2
      refine ⟨hname, ihg hg hgp hgr, hm1, hmB, hro, fun p hpm => ?_⟩
      -- the first is less than all behind
      cases r with
      | nil => cases hpm
      | cons k2 g2 m2 r2 =>
        have h12 : dataLt (Gr.tEnc (k, g)) (Gr.tEnc (k2, g2)) = true := by
          have : (dataLt (Gr.tEnc (k, g)) (Gr.tEnc (k2, g2)) :: ltsD (Gr.tEnc (k2, g2) :: r2.encs.map exp0)).all id = true := hri
          rw [List.all_cons, Bool.and_eq_true] at this
          exact this.1
        rcases List.mem_cons.mp hpm with h | h
        · subst h; exact h12
        · exact dl_trans h12 (hro.2.2.2.2.2 p h)
  intro g hr hg
  rw [Gr.enc, groveD, Bool.and_eq_true] at hg
  exact key g hr hg.1 hg.2
theorem raw_thing {K : PySem.W.Frag} {H : Hp} {L : Nat} (hL : L ≤ 1000) : ∀ (g : Gr) {vs : List V}, Raw L g → DpAll K H vs g.encs → TgAll K H vs g.encs
  | .nil, vs, _, h => by cases h; exact .nil
  | .cons k g m r, vs, ho, h => by
    cases h with
    | cons h1 h2 =>
      refine .cons ?_ (raw_thing hL r ho.2.2.2.2 h2)
      cases h1 with
      | tup hs ha =>
        cases ha with
        | cons h3 h4 =>
          cases h4 with
          | cons h5 h6 =>
            cases h6; cases h5
            refine .tup hs (.cons ?_ (.cons (.int _) .nil))
            cases h3 with
            | tup hs2 hb =>
              cases hb with
              | cons h7 h8 =>
                cases h8 with
                | cons h9 h10 =>
                  cases h10; cases h7
                  cases h9 with
                  | tup hs3 hc => exact .tup hs2 (.cons (.str _ (by have := ho.1.1; rw [← TL.len_tl] at this; omega)) (.cons (.tup hs3 (raw_thing hL g ho.2.1 hc)) .nil))
theorem ok_raw : ∀ {g : Gr}, g.Ok (10 ^ 60) → Raw 8 g
  | .nil, _ => trivial
  | .cons k g m r, ⟨h0, h1, h2, h3, h4, _⟩ => ⟨⟨h0.2.1, h0.2.2⟩, ok_raw h1, by omega, h3, ok_raw h4⟩
/-- a text that shows a grove within the bounds -/
structure Shows (z : Str) (g : Gr) : Prop where
  tx : tl z = g.text
  ok : g.Ok (10 ^ 60)
  parts : g.parts ≤ 60
  deep : g.deep ≤ 12
def spReadG (K : PySem.W.Frag) (C : Addr) : Sp := fun vs H Q E => ∃ z : Str, vs = [.str z] ∧ (z.length ≤ 900 ∨ ∃ g, Shows z g) ∧
  (∀ g, Shows z g → ∀ (v : V) (H' : Hp), SB [] H H' → GA K H' v g → Q v H') ∧ ((∀ g, ¬ Shows z g) → ∀ H', SB [] H H' → E (.ref C) none H')
theorem text_dash {g : Gr} (h : g.Ok (10 ^ 60)) (e : g.text = [45]) : g = .nil := by
  cases g with
  | nil => rfl
  | cons k g m r =>
    rw [Gr.text_cons, Gr.body_cons] at e
    exfalso
    obtain ⟨c, s, ec, hc1, hc2⟩ := name_head h.1 (g.held ++ r.more)
    rw [ec] at e
    unfold numT at e
    split at e
    · rw [List.nil_append] at e
      injection e with e1 e2
      omega
    · have hd := TL.numL_digits m.toNat
      have hne := TL.numL_ne m.toNat
      cases hx : TL.numL m.toNat with
      | nil => exact hne hx
      | cons a b =>
        rw [hx] at e hd
        injection e with e1 e2
        have := hd a (List.mem_cons_self ..)
        omega
theorem Shows.len {z : Str} {g : Gr} (h : Shows z g) : z.length ≤ 4381 := by
  have := Gr.text_len (C := 60) (by decide) h.ok
  rw [← h.tx, ← TL.len_tl] at this
  have := h.parts
  omega
theorem Shows.read {z : Str} {g : Gr} (h : Shows z g) (hne : g ≠ .nil) : rdPairs (rdPair 12) (tl z) = some (g.ps, []) := by
  have := rdPairs_show h.ok (by have := h.parts; omega) hne (n := 12) (by have := h.deep; omega) (rest := []) (fun c hc => by cases hc)
  rw [List.append_nil] at this
  rw [h.tx]
  unfold Gr.text
  rw [if_neg hne]; exact this
end FT
namespace FT
open PySem PySem.W PySem.Spec PyProof.Rows L2
/-! ## len(set(xs)), xs a list of texts -/
/-- the texts met so far, each once -/
def met (xs : List Str) : Nat → List Str
  | 0 => []
  | i + 1 => if (met xs i).any (· == xs.getD i Str.empty) = true then met xs i else met xs i ++ [xs.getD i Str.empty]
theorem met_le (xs : List Str) : ∀ i, (met xs i).length ≤ i
  | 0 => Nat.le_refl _
  | i + 1 => by
    have := met_le xs i
    unfold met
    split
    · omega
    · rw [List.length_append]; simp; omega
theorem met_any (xs : List Str) (i : Nat) (k : Str) : (met xs (i + 1)).any (· == k) = ((met xs i).any (· == k) || decide (k = xs.getD i Str.empty)) := by
  rw [met]
  by_cases e : k = xs.getD i Str.empty
  · subst e
    split
    · rename_i h; rw [h]; simp
    · simp
  · rw [decide_eq_false e, Bool.or_false]
    split
    · rfl
    · rw [List.any_append]
      have : ([xs.getD i Str.empty].any (· == k)) = false := by
        simp only [List.any_cons, List.any_nil, Bool.or_false, beq_eq_false_iff_ne]
        exact fun z => e z.symm
      rw [this, Bool.or_false]
theorem met_len (xs : List Str) (i : Nat) : (met xs (i + 1)).length = if (met xs i).any (· == xs.getD i Str.empty) = true then (met xs i).length else (met xs i).length + 1 := by
  rw [met]; split <;> simp
abbrev SetOfS (P : Program) (w : World) (h : Heap) (a : Addr) (L : List Str) : Prop := h.SetOf (PySem.strKind P w) a (fun k => L.any (· == k)) L.length
theorem SetOfS.keep {P : Program} {w : World} {h h' : Heap} {a : Addr} {L : List Str} (S : SetOfS P w h a L) (k : ∀ o, h.get? a = some o → h'.get? a = some o) : SetOfS P w h' a L := by
  obtain ⟨o, es, ep, t, ho, r⟩ := S; exact ⟨o, es, ep, t, k o ho, r⟩
section
variable {P : Program} {w : World} {A : Around}
theorem met_loop {R : Result → Shared → Prop} {I : Addr} {fp wr : List Addr} {G : Array GenState → Array GenState → Prop} {n : Nat} {Pv : Nat → Value → Prop} {St : Nat → Shared → Prop} (W : WalksS P w A.in1 I fp wr G n Pv St) (S : Addr) (hSf : S ∉ fp) (xs : List Str) (hn : n + 1 < scanBound)
    (hval : ∀ i v, Pv i v → ∃ t, v = .str (xs.getD i Str.empty) t) : ∀ (k i : Nat) (s : Shared), k + i = n → St i s → SetOfS P w s.heap S (met xs i) →
      (∀ s', Moved (S :: wr) G s s' → SetOfS P w s'.heap S (met xs n) → R (.ok (.ret .none)) s') → codeAny (model P w) A (.builtin "set.update.loop" ⟨[.ref S, .ref I], []⟩) R s := by
  have out : S ∉ wr := fun z => hSf (W.sub _ z)
  have up : ∀ b ∈ wr, b ∈ S :: wr := fun b z => List.mem_cons_of_mem _ z
  intro k
  induction k with
  | zero =>
    intro i s e st hS hR
    rw [Nat.zero_add] at e; subst e
    refine codeAny_builtin F.entry_set_update_loop (by
      rw [Around.under_plainId F.plain_set_update_loop _]
      show wpAny _ A.in1 (pyNext (.ref I) >>= _) _ _ s
      refine wpAny_bind (W.done s _ _ st fun s' hm => ?_)
      show wpAny _ A.in1 (ret Value.none) _ _ s'
      exact wpAny_pure (hR s' (hm.mono up) (hS.keep fun o e => hm.heap S o out e)))
  | succ k ih =>
    intro i s e st hS hR
    have lt : i < n := by omega
    refine codeAny_builtin F.entry_set_update_loop (by
      rw [Around.under_plainId F.plain_set_update_loop _]
      show wpAny _ A.in1 (pyNext (.ref I) >>= _) _ _ s
      refine wpAny_bind (W.item i s _ _ lt st fun v s' hP st' hm => ?_)
      obtain ⟨t, rfl⟩ := hval i v hP
      have hS' : SetOfS P w s'.heap S (met xs i) := hS.keep fun o e => hm.heap S o out e
      show wpAny _ A.in1 (holding [Value.str (xs.getD i Str.empty) t] (setAdd S (.str (xs.getD i Str.empty) t)) >>= _) _ _ s'
      refine wpAny_bind (wpAny_holding ?_)
      unfold setAdd
      refine wpAny_holding (wpAny_bind ((PySem.strKind P w).pyHash (k := xs.getD i Str.empty) (PySem.Froz.is_str _ _) ?_))
      have room : (met xs i).length + 1 < scanBound := by have := met_le xs i; omega
      refine wpAny_setAddHashed_of (knd := PySem.strKind P w) (s := { s' with toks := s'.toks + 1 }) (PySem.Froz.is_str _ _) rfl hS' room fun h' hsb hS2 => ?_
      have hSi : SetOfS P w h' S (met xs (i + 1)) := SetOf_congr hS2 (fun k' => (met_any xs i k').symm) (met_len xs i).symm
      refine wpAny_pure ⟨plainId_quiet F.plain_set_update_loop _, ih (i + 1) _ (by omega) (W.frame _ s' _ _ st' (Nat.le_succ _) fun b hb o e => ?_) hSi fun s'' hm'' hS'' => ?_⟩
      · rw [hsb.2 b fun z : b = S => hSf (z ▸ hb)]; exact e
      · refine hR s'' (Moved.trans W.gtrans ((hm.mono up).then_heap (Nat.le_succ _) fun b o hb e => ?_) hm'') hS''
        rw [hsb.2 b fun z : b = S => hb (z ▸ List.mem_cons_self)]; exact e)
abbrev eo (led : Bool) : Obj := { cls := .type "set", dict := none, data := .set #[] 0 (.fresh 0 0 led) }
set_option maxHeartbeats 8000000 in
theorem call_setS {E : Value → Shared → Prop} {s : Shared} {l : Addr} {its : Array Value} {xs : List Str} {Q : Value → Shared → Prop} (hh : A.handled = none) (hl : s.heap.IsList l its) (hi : StrsAre its.toList xs) (hb : its.size + 1 < scanBound)
    (h : ∀ (h' : Heap) (tk : Nat), SetOfS P w h' s.heap.objs.size (met xs its.size) → (∀ b o, b < s.heap.objs.size → s.heap.get? b = some o → h'.get? b = some o) → Q (.ref s.heap.objs.size) { s with heap := h', toks := tk }) :
    wpAny (model P w) A (call (.type "set") [.ref l]) Q E s := by
  obtain ⟨c, tl', hmro⟩ := PySem.F.called_set.mro
  have k1 := PySem.F.called_set.made; have k2 := PySem.F.called_set.sub
  refine wpAny_call (codeAny_of_tree (by
    show wpAny _ _ (callAny (.type "set") _) _ _ _
    refine wpAny_pure ⟨Code.quiet_builtin _ (by decide +kernel), codeAny_builtin PySem.F.entry_type_call ?_⟩
    rw [Around.under_plain (weight_type_call_type "set" [.ref l] []) rfl]
    have k3 := PySem.F.called_set.notType; have k4 := PySem.F.called_set.canCreate; have k5 := PySem.F.typeCall_set_1 (.ref l)
    repeat (any_goals (first | assumption | wp_step))
    refine codeAny_mono (code_set_new_1 (.ref l) (E := E) (Q₁ := fun ob z => ∃ led : Bool, ob = .ref s.heap.objs.size ∧ z = { s with heap := s.heap.push (eo led) }) fun led => ⟨led, rfl, rfl⟩) fun r z hr => ?_
    cases r with
    | error e => exact hr
    | ok fl =>
    cases fl with
    | ret ob =>
      obtain ⟨led, rfl, rfl⟩ := hr
      have at0 : (s.heap.push (eo led)).get? s.heap.objs.size = some (eo led) := Heap.get?_push_size _ rfl
      have ty0 : Shared.TypeIs { s with heap := s.heap.push (eo led) } (.ref s.heap.objs.size) "set" := ⟨_, at0, rfl⟩
      have k6 := PySem.F.called_set.init.lookup; have k7 := PySem.F.called_set.init.bind (.ref s.heap.objs.size)
      repeat (any_goals (first | assumption | wp_step))
      refine codeAny_mono (codeAny_call_builtin (R := wants (fun r s₂ => r = .none ∧ ∃ h' tk, s₂ = { s with heap := h', toks := tk } ∧ SetOfS P w h' s.heap.objs.size (met xs its.size) ∧ (∀ b o, b < s.heap.objs.size → s.heap.get? b = some o → h'.get? b = some o)) E) PySem.F.called_set.init.plain PySem.F.entry_set_init (check_set_init_1 ty0 ?_)) fun r₂ s₂ hr₂ => ?_
      · obtain ⟨⟨oc, od, oda, osl⟩, hol, hcl, nl, hdl⟩ := hl
        simp only at hcl hdl
        subst hcl hdl
        have hol' : (s.heap.push (eo led)).get? l = some ⟨.type "list", od, .seq its nl, osl⟩ := Heap.get?_push_of_some _ hol
        have k8 := PySem.F.sub_list_set; have k9 := PySem.F.sub_list_frozenset
        have k10 : (Value.type "list" == Value.type "dict") = false := by decide
        have isl : (s.heap.push (eo led)).IsList l its := ⟨_, hol', rfl, nl, rfl⟩
        unfold Builtin.«set.__init__» noKeywords Builtin.Frozenset.updateFrom
        generalize hPI : pyIter = PI
        wp_walk
        subst hPI
        refine wpAny_pyIter_list isl (wpAny_bind (wpAny_runValue ?_))
        have ltl : l < s.heap.objs.size := Heap.lt_size hol
        have sz1 : (s.heap.push (eo led)).objs.size = s.heap.objs.size + 1 := Heap.size_push ..
        have lne : l ≠ (s.heap.push (eo led)).objs.size := Nat.ne_of_lt (sz1 ▸ Nat.lt_succ_of_lt ltl)
        have nin : s.heap.objs.size ∉ [(s.heap.push (eo led)).objs.size, l] := by
          intro z
          rcases List.mem_cons.mp z with z | z
          · exact absurd (z.trans sz1) (Nat.ne_of_lt (Nat.lt_succ_self _))
          · have : s.heap.objs.size = l := by simpa using z
            exact absurd this.symm (Nat.ne_of_lt ltl)
        refine met_loop ((Walks.list (show A.in1.in1.in1.handled = none by simp [hh]) _ l lne its).toS) s.heap.objs.size nin xs hb (fun i v hv => SS.strs_at hi i v (by rw [Array.getElem?_toList]; exact hv)) its.size 0 _ rfl ⟨⟨_, Heap.get?_push_size _ rfl, rfl, rfl⟩, isl.push _⟩ ?c1 ?c2
        case c1 => exact SetOf_congr ((setObjOf_fresh (knd := PySem.strKind P w) led).setOf (Heap.get?_push_of_some _ at0) (by unfold scanBound; omega)) (fun _ => rfl) rfl
        case c2 =>
          rintro ⟨h', g', d', tk', os'⟩ hm hS'
          have eg : g' = s.gens := hm.gens; have ed : d' = s.drawn := hm.drawn; have eo' : os' = s.os := hm.os
          subst eg ed eo'
          show wpAny _ _ _ _ _ _
          refine wpAny_pure (show wpAny _ _ (ret Value.none) _ _ _ from wpAny_pure ⟨rfl, h', tk', rfl, hS', fun b o hb' e => hm.heap b o (fun z => ?_) (Heap.get?_push_of_some _ (Heap.get?_push_of_some _ e))⟩)
          rcases List.mem_cons.mp z with z | z
          · exact absurd z (Nat.ne_of_lt hb')
          · have : b = (s.heap.push (eo led)).objs.size := by simpa using z
            exact absurd (this.trans sz1) (Nat.ne_of_lt (Nat.lt_succ_of_lt hb'))
      · cases r₂ with
        | error e => exact hr₂
        | ok fl₂ =>
        cases fl₂ with
        | ret r =>
          obtain ⟨rfl, h', tk, rfl, hS', hk'⟩ := hr₂
          repeat (any_goals (first | assumption | wp_step))
          exact h _ _ hS' hk'
        | _ => exact hr₂.elim
    | _ => exact hr.elim))
end
/-- all that is met, met -/
theorem met_mem (xs : List Str) : ∀ (i : Nat) (k : Str), k ∈ met xs i ↔ ∃ j, j < i ∧ xs.getD j Str.empty = k
  | 0, k => by simp [met]
  | i + 1, k => by
    rw [met]
    have ih := met_mem xs i k
    split
    · rename_i h
      rw [ih]
      refine ⟨fun ⟨j, a, b⟩ => ⟨j, by omega, b⟩, fun ⟨j, a, b⟩ => ?_⟩
      by_cases e : j = i
      · subst e
        obtain ⟨y, hy, he⟩ := List.any_eq_true.mp h
        have := (met_mem xs j y).mp hy
        rw [beq_iff_eq.mp he, b] at this
        exact this
      · exact ⟨j, by omega, b⟩
    · rw [List.mem_append, ih]
      refine ⟨fun z => ?_, fun ⟨j, a, b⟩ => ?_⟩
      · rcases z with ⟨j, a, b⟩ | z
        · exact ⟨j, by omega, b⟩
        · exact ⟨i, by omega, (List.mem_singleton.mp z).symm⟩
      · by_cases e : j = i
        · subst e; exact .inr (List.mem_singleton.mpr b.symm)
        · exact .inl ⟨j, by omega, b⟩
theorem met_nodup (xs : List Str) : ∀ i, (met xs i).Nodup
  | 0 => List.nodup_nil
  | i + 1 => by
    rw [met]
    split
    · exact met_nodup xs i
    · rename_i h
      refine List.nodup_append.mpr ⟨met_nodup xs i, by simp, fun a ha b hb e => h ?_⟩
      rw [List.mem_singleton.mp hb] at e
      exact List.any_eq_true.mpr ⟨a, ha, beq_iff_eq.mpr e⟩
theorem met_all (xs : List Str) (k : Str) : k ∈ met xs xs.length ↔ k ∈ xs := by
  rw [met_mem]
  refine ⟨fun ⟨j, a, b⟩ => ?_, fun h => ?_⟩
  · rw [← b, List.getD_eq_getElem?_getD, List.getElem?_eq_getElem a]; exact List.getElem_mem a
  · obtain ⟨j, a, b⟩ := List.getElem_of_mem h
    exact ⟨j, a, by rw [List.getD_eq_getElem?_getD, List.getElem?_eq_getElem a]; exact b⟩
theorem met_take (xs : List Str) : ∀ i, i ≤ xs.length → (met xs i).length = i → met xs i = xs.take i
  | 0, _, _ => by simp [met]
  | i + 1, hi, h => by
    have hl := met_le xs i
    rw [met] at h ⊢
    split at h
    · omega
    · rename_i hn
      rw [if_neg hn]
      rw [List.length_append, List.length_singleton] at h
      rw [met_take xs i (by omega) (by omega), List.take_add_one, List.getD_eq_getElem?_getD, List.getElem?_eq_getElem (by omega)]
      rfl
theorem met_len_nodup (xs : List Str) : (met xs xs.length).length = xs.length ↔ xs.Nodup := by
  constructor
  · intro h
    have e := met_take xs xs.length (Nat.le_refl _) h
    rw [List.take_length] at e
    rw [← e]; exact met_nodup xs _
  · intro h
    exact ((List.perm_ext_iff_of_nodup (met_nodup xs _) h).mpr fun k => met_all xs k).length_eq
section
variable {X : Cx}
/-- len(set(xs)), xs a list of texts -/
def tLenSetS (K : PySem.W.Frag) (ta : TE) : TE := fun σ H Q => ta σ H fun x H1 => ∃ (l : Addr) (zs : List Str), x = V.ref l ∧ SqL K H1 l (zs.map V.str) ∧ zs.length < 1000 ∧ Q (.int (met zs zs.length).length) H1
theorem pe_lenSetS {a : Expr} {ta : TE} {p p2 q pos : Pos} (hc : X.calm = true) (B : BI X.mg) (g1 : Gl X "len") (g2 : Gl X "set") (ha : PE X a ta)
    (na : starEach [a] X.env = (false, eval a X.env) :: starEach [] X.env := by rfl) : PE X (.Call (.Name "len" p) [.Call (.Name "set" p2) [a] [] q] [] pos) (tLenSetS X.K ta) := by
  refine ⟨fun pins s σ H Q I h => Call_ (ld_blt I g1 B.len PySem.boot_len ?_)⟩
  refine PyProof.Rows.callWith_builtin1 (PyProof.Rows.args_cons (Call_ (ld_blt I g2 B.set PyProof.Rows.boot_set ?_)) rfl) rfl rfl
  refine PyProof.Rows.callWith_type1 (PyProof.Rows.args_cons (thn (ha.run pins s σ H _ I h) fun v s1 ⟨x, H1, I1, r1, l, zs, ex, hq, h1, q1⟩ => PyProof.Rows.args_nil ?_) na) na rfl
  subst ex
  cases r1
  obtain ⟨its, rv, pl, hz⟩ := I1.list hq
  have hlen : its.toArray.size = zs.length := by rw [List.size_toArray, ← rv.length, List.length_map]
  refine call_setS (xs := zs) (I1.ok.hd hc) pl.isList (by simpa using rv.strs) (by rw [hlen]; unfold scanBound; omega) fun h' tk hS hk => PyProof.Rows.args_nil ?_
  rw [hlen] at hS
  have hm := met_le zs zs.length
  obtain ⟨o, es, ep, t, ho, hex, hd, _, _, _, hf, hn⟩ := hS
  have J : Inv X pins σ H1 { s1 with heap := h', toks := tk } := I1.kept fun b o e => hk b o (Heap.lt_size e) e
  exact call_len_set ho hex hd hf (by rw [hn]; omega) ⟨.int (met zs zs.length).length, H1, J.tok _, ⟨_, by rw [hn]⟩, q1⟩
end
end FT
namespace FT
open PySem PySem.W PySem.Spec PyProof.Rows L2
/-! ## methods and new instances, by their promises -/
section
variable {X : Cx} {CX : CXT} {k : Nat} {f C : Addr} {fd : FuncData} {ps : List Str} {sp : Sp} {E : L2.St → XK} {x m : Str} {p pos apos : Pos} {e o : Expr} {es : List Expr} {ta : TE} {t : TA}
def tMethZ (C : Addr) (m : Str) (sp : Sp) (E : L2.St → XK) (ta : TE) (t : TA) : TE := fun σ H Q => ta σ H fun y H1 => ∃ a dx fs, y = .ref a ∧ H1 a = some (.ins C dx fs) ∧ fs.lookup m = none ∧ t σ H1 fun vs H2 => sp (y :: vs) H2 Q (E σ)
def tMakeZ (C : Addr) (sp : Sp) (E : L2.St → XK) (t : TA) : TE := fun σ H Q => t σ H fun vs H1 => ∀ y dx, H1 y = none → H1 dx = none → dx ≠ y →
  sp (.ref y :: vs) (upd (upd H1 dx (.own y)) y (.ins C dx [])) (fun v H2 => v = .non ∧ Q (.ref y) H2) (E σ)
theorem pe_methZ {pl : Sem Bool} (ho : PE X o ta) (c : Cls X.K C) (hm : Meth X.K C m f) (F : FnOk X.prog X.w X.K X.mg X.base CX k f fd ps sp) (hr : Room k X.A) (hb : Binds X.K fd ps []) (hx : ∀ σ, PassesAt CX X σ (E σ)) (ha : PA X (e :: es) t)
    (hst : starEach (e :: es) X.env = (false, eval e X.env) :: starEach es X.env := by rfl) (hpl : (backTo pos (starEach es X.env)).any (·.1) = false := by rfl)
    (ht : eval (.Call (.Attribute o m apos) (e :: es) [] pos) X.env = (do
        let ov ← eval o X.env
        standAt apos.atName
        let (g, first) ← holding [ov] (getMethod ov m pl)
        callWith pos g first (backTo pos (starEach (e :: es) X.env)) (backToKw pos (keywordEach [] X.env))) := by rfl) :
    PE X (.Call (.Attribute o m apos) (e :: es) [] pos) (tMethZ C m sp E ta t) := by
  refine ⟨fun pins s σ H Q I h => PySem.W.methodCall_KW (pl := pl) (thn (ho.run pins s σ H _ I h) fun u s1 ⟨y, H1, I1, ry, a, dx, fs, ey, ea, l, q⟩ => ?_) ht⟩
  subst ey
  cases (show u = Value.ref a from ry)
  exact getmeth_ok I1 ea c hm l (PySem.W.callWith_K (first := [.ref a]) (h₀ := X.base) I.ok.mod.kin hm.kp
    (thn (ha.run pos pins s1 σ H1 _ I1 q) fun us s2 ⟨vs, H2, I2, r, q2⟩ => ⟨I2.kIn, run_fnS (us := .ref a :: us) (vs := .ref a :: vs) F hr hb (hx σ) I2 (.cons rfl r) q2⟩) hst hpl)
theorem pe_methZ0 {pl : Sem Bool} (ho : PE X o ta) (c : Cls X.K C) (hm : Meth X.K C m f) (F : FnOk X.prog X.w X.K X.mg X.base CX k f fd ps sp) (hr : Room k X.A) (hb : Binds X.K fd ps []) (hx : ∀ σ, PassesAt CX X σ (E σ))
    (ht : eval (.Call (.Attribute o m apos) [] [] pos) X.env = (do
        let ov ← eval o X.env
        standAt apos.atName
        let (g, first) ← holding [ov] (getMethod ov m pl)
        callWith pos g first (backTo pos (starEach [] X.env)) (backToKw pos (keywordEach [] X.env))) := by rfl) :
    PE X (.Call (.Attribute o m apos) [] [] pos) (tMethZ C m sp E ta tNil) := by
  refine ⟨fun pins s σ H Q I h => PySem.W.methodCall_KW (pl := pl) (thn (ho.run pins s σ H _ I h) fun u s1 ⟨y, H1, I1, ry, a, dx, fs, ey, ea, l, q⟩ => ?_) ht⟩
  subst ey
  cases (show u = Value.ref a from ry)
  exact getmeth_ok I1 ea c hm l (PySem.W.callWith_K0 (first := [.ref a]) I1.kIn hm.kp (run_fnS (us := [.ref a]) (vs := [.ref a]) F hr hb (hx σ) I1 (.cons rfl .nil) q))
theorem pe_makeZ (M : Mk X.K C f) (F : FnOk X.prog X.w X.K X.mg X.base CX k f fd ps sp) (hr : Room (k + 1) X.A) (hg : Gl X x) (hm : X.mg x = some (.ref C)) (hb : Binds X.K fd ps []) (hx : ∀ σ, PassesAt CX X σ (E σ))
    (ha : PA X (e :: es) t) (hdb : (x == ("__debug__" : Str)) = false := by decide) (he : starEach (e :: es) X.env = (false, eval e X.env) :: starEach es X.env := by rfl) (hpl : (backTo pos (starEach es X.env)).any (·.1) = false := by rfl) :
    PE X (.Call (.Name x p) (e :: es) [] pos) (tMakeZ C sp E t) := by
  refine ⟨fun pins s σ H Q I h => wpAny_Call_Name_kw (ld_glob I hg hm ?_ hdb)⟩
  refine PySem.W.callWith_K (h₀ := X.base) I.ok.mod.kin M.kp (thn (ha.run pos pins s σ H _ I h) fun us s1 ⟨vs, H1, I1, r, q⟩ => ⟨I1.kIn, ?_⟩) he hpl
  have hq := q (s1.heap.objs.size + 1) s1.heap.objs.size (I1.hok.fresh (Nat.le_succ _)) (I1.hok.fresh (Nat.le_refl _)) (Nat.ne_of_lt (Nat.lt_succ_self _))
  have J := Inv.made (C := C) I1
  have r2 : Vals (V.ref (s1.heap.objs.size + 1) :: vs) (Value.ref (s1.heap.objs.size + 1) :: us) := .cons rfl r
  have hl : (Value.ref (s1.heap.objs.size + 1) :: us).length = ps.length := by rw [← r2.length]; exact F.len _ _ _ _ hq
  have b := hb _ (Value.ref (s1.heap.objs.size + 1) :: us) J.kIn (by rw [List.append_nil]; exact hl)
  rw [List.append_nil] at b
  refine wpAny_call (make_map (f := f) I1.kIn M.makes M.init (beq_iff_eq.mp M.fn) (codeAny_mono (F.run _ X.stack _ _ ⟨Value.ref (s1.heap.objs.size + 1) :: us, []⟩ (Value.ref (s1.heap.objs.size + 1) :: us) _ _ (E σ) (hr.make C us [])
    (J.env0.make C us []) b r2 hq) fun r s' hq' => ?_))
  match r, hq' with
  | .error er, hq' => exact hx σ pins _ _ er s' J hq'
  | .ok (.ret u), hq' =>
    obtain ⟨v, H', J3, rv, ev, q3⟩ := J.after hq'
    subst ev
    exact ⟨rv, ⟨V.ref (s1.heap.objs.size + 1), H', J3, rfl, q3⟩⟩
  | .ok .next, hq' => exact hq'.elim
  | .ok .brk, hq' => exact hq'.elim
  | .ok .cont, hq' => exact hq'.elim
end
/-- a method known by its promise: one that raises nothing, one that may -/
structure GotM (P : Program) (w : World) (K : PySem.W.Frag) (mg : Str → Option Value) (base : Heap) (C : Addr) (m : Str) (ps : List Str) (k : Nat) (sp : Sp) : Prop where
  ex : ∃ (f : Addr) (fd : FuncData), FnOk P w K mg base CX0 k f fd ps sp ∧ Meth K C m f ∧ Binds K fd ps [] ∧ Cls K C
structure GotMX (P : Program) (w : World) (K : PySem.W.Frag) (mg : Str → Option Value) (base : Heap) (C : Addr) (m : Str) (ps : List Str) (k : Nat) (sp : Sp) : Prop where
  ex : ∃ (f : Addr) (fd : FuncData), FnOk P w K mg base (L2.CX P w) k f fd ps sp ∧ Meth K C m f ∧ Binds K fd ps [] ∧ Cls K C
/-- a class known by the promise of its __init__ -/
structure GotI (P : Program) (w : World) (K : PySem.W.Frag) (mg : Str → Option Value) (base : Heap) (x : Str) (C : Addr) (ps : List Str) (k : Nat) (sp : Sp) : Prop where
  ex : ∃ (f : Addr) (fd : FuncData), FnOk P w K mg base (L2.CX P w) k f fd ps sp ∧ Mk K C f ∧ Binds K fd ps [] ∧ mg x = some (.ref C)
section
variable {X : Cx} {C : Addr} {x m : Str} {ps : List Str} {k : Nat} {sp : Sp} {e o : Expr} {es : List Expr} {ta : TE} {t : TA} {p pos apos : Pos} {pl : Sem Bool}
theorem pe_gotM (G : GotM X.prog X.w X.K X.mg X.base C m ps k sp) (hr : Room k X.A) (ho : PE X o ta) (ha : PA X (e :: es) t)
    (hst : starEach (e :: es) X.env = (false, eval e X.env) :: starEach es X.env := by rfl) (hpl : (backTo pos (starEach es X.env)).any (·.1) = false := by rfl)
    (ht : eval (.Call (.Attribute o m apos) (e :: es) [] pos) X.env = (do
        let ov ← eval o X.env
        standAt apos.atName
        let (g, first) ← holding [ov] (getMethod ov m pl)
        callWith pos g first (backTo pos (starEach (e :: es) X.env)) (backToKw pos (keywordEach [] X.env))) := by rfl) :
    PE X (.Call (.Attribute o m apos) (e :: es) [] pos) (tMethZ C m sp (fun _ => E0) ta t) := by
  obtain ⟨f, fd, h1, h2, h3, h4⟩ := G.ex
  exact pe_methZ ho h4 h2 h1 hr h3 (fun σ pins H s e s' I c => pass0 pins σ H s e s' I c) ha hst hpl ht
theorem pe_gotM0 (G : GotM X.prog X.w X.K X.mg X.base C m ps k sp) (hr : Room k X.A) (ho : PE X o ta)
    (ht : eval (.Call (.Attribute o m apos) [] [] pos) X.env = (do
        let ov ← eval o X.env
        standAt apos.atName
        let (g, first) ← holding [ov] (getMethod ov m pl)
        callWith pos g first (backTo pos (starEach [] X.env)) (backToKw pos (keywordEach [] X.env))) := by rfl) :
    PE X (.Call (.Attribute o m apos) [] [] pos) (tMethZ C m sp (fun _ => E0) ta tNil) := by
  obtain ⟨f, fd, h1, h2, h3, h4⟩ := G.ex
  exact pe_methZ0 ho h4 h2 h1 hr h3 (fun σ pins H s e s' I c => pass0 pins σ H s e s' I c) ht
theorem pe_gotMX (G : GotMX X.prog X.w X.K X.mg X.base C m ps k sp) (hr : Room k X.A) (ho : PE X o ta) (ha : PA X (e :: es) t)
    (hst : starEach (e :: es) X.env = (false, eval e X.env) :: starEach es X.env := by rfl) (hpl : (backTo pos (starEach es X.env)).any (·.1) = false := by rfl)
    (ht : eval (.Call (.Attribute o m apos) (e :: es) [] pos) X.env = (do
        let ov ← eval o X.env
        standAt apos.atName
        let (g, first) ← holding [ov] (getMethod ov m pl)
        callWith pos g first (backTo pos (starEach (e :: es) X.env)) (backToKw pos (keywordEach [] X.env))) := by rfl) :
    PE X (.Call (.Attribute o m apos) (e :: es) [] pos) (tMethZ C m sp (fun _ => E0) ta t) := by
  obtain ⟨f, fd, h1, h2, h3, h4⟩ := G.ex
  exact pe_methZ ho h4 h2 h1 hr h3 (fun σ pins H s e s' I c => passL pins σ H s e s' I c) ha hst hpl ht
theorem pe_gotMS {W : WX} (G : GotMX X.prog X.w X.K X.mg X.base C m ps k sp) (hr : Room k X.A) (tk : Takes X W) (ho : PE X o ta) (ha : PA X (e :: es) t)
    (hst : starEach (e :: es) X.env = (false, eval e X.env) :: starEach es X.env := by rfl) (hpl : (backTo pos (starEach es X.env)).any (·.1) = false := by rfl)
    (ht : eval (.Call (.Attribute o m apos) (e :: es) [] pos) X.env = (do
        let ov ← eval o X.env
        standAt apos.atName
        let (g, first) ← holding [ov] (getMethod ov m pl)
        callWith pos g first (backTo pos (starEach (e :: es) X.env)) (backToKw pos (keywordEach [] X.env))) := by rfl) :
    PE X (.Call (.Attribute o m apos) (e :: es) [] pos) (tMethZ C m sp (WE W) ta t) := by
  obtain ⟨f, fd, h1, h2, h3, h4⟩ := G.ex
  exact pe_methZ ho h4 h2 h1 hr h3 (fun σ => passAt tk σ) ha hst hpl ht
theorem pe_gotMX0 (G : GotMX X.prog X.w X.K X.mg X.base C m ps k sp) (hr : Room k X.A) (ho : PE X o ta)
    (ht : eval (.Call (.Attribute o m apos) [] [] pos) X.env = (do
        let ov ← eval o X.env
        standAt apos.atName
        let (g, first) ← holding [ov] (getMethod ov m pl)
        callWith pos g first (backTo pos (starEach [] X.env)) (backToKw pos (keywordEach [] X.env))) := by rfl) :
    PE X (.Call (.Attribute o m apos) [] [] pos) (tMethZ C m sp (fun _ => E0) ta tNil) := by
  obtain ⟨f, fd, h1, h2, h3, h4⟩ := G.ex
  exact pe_methZ0 ho h4 h2 h1 hr h3 (fun σ pins H s e s' I c => passL pins σ H s e s' I c) ht
theorem pe_gotMS0 {W : WX} (G : GotMX X.prog X.w X.K X.mg X.base C m ps k sp) (hr : Room k X.A) (tk : Takes X W) (ho : PE X o ta)
    (ht : eval (.Call (.Attribute o m apos) [] [] pos) X.env = (do
        let ov ← eval o X.env
        standAt apos.atName
        let (g, first) ← holding [ov] (getMethod ov m pl)
        callWith pos g first (backTo pos (starEach [] X.env)) (backToKw pos (keywordEach [] X.env))) := by rfl) :
    PE X (.Call (.Attribute o m apos) [] [] pos) (tMethZ C m sp (WE W) ta tNil) := by
  obtain ⟨f, fd, h1, h2, h3, h4⟩ := G.ex
  exact pe_methZ0 ho h4 h2 h1 hr h3 (fun σ => passAt tk σ) ht
theorem pe_gotI (G : GotI X.prog X.w X.K X.mg X.base x C ps k sp) (hr : Room (k + 1) X.A) (hg : Gl X x) (ha : PA X (e :: es) t) (hdb : (x == ("__debug__" : Str)) = false := by decide)
    (he : starEach (e :: es) X.env = (false, eval e X.env) :: starEach es X.env := by rfl) (hpl : (backTo pos (starEach es X.env)).any (·.1) = false := by rfl) :
    PE X (.Call (.Name x p) (e :: es) [] pos) (tMakeZ C sp (fun _ => E0) t) := by
  obtain ⟨f, fd, h1, h2, h3, h4⟩ := G.ex
  exact pe_makeZ h2 h1 hr hg h4 h3 (fun σ pins H s e s' I c => passL pins σ H s e s' I c) ha hdb he hpl
theorem pe_gotIS {W : WX} (G : GotI X.prog X.w X.K X.mg X.base x C ps k sp) (hr : Room (k + 1) X.A) (hg : Gl X x) (tk : Takes X W) (ha : PA X (e :: es) t) (hdb : (x == ("__debug__" : Str)) = false := by decide)
    (he : starEach (e :: es) X.env = (false, eval e X.env) :: starEach es X.env := by rfl) (hpl : (backTo pos (starEach es X.env)).any (·.1) = false := by rfl) :
    PE X (.Call (.Name x p) (e :: es) [] pos) (tMakeZ C sp (WE W) t) := by
  obtain ⟨f, fd, h1, h2, h3, h4⟩ := G.ex
  exact pe_makeZ h2 h1 hr hg h4 h3 (fun σ => passAt tk σ) ha hdb he hpl
end
/-! ## errors with a field: NoKind(name), Endless(name) -/
def spKindI (K : PySem.W.Frag) (C : Addr) : Sp := fun vs H Q _ => ∃ (a : Addr) (y : V), vs = [.ref a, y] ∧ OexC K C ∧ PySem.W.findIn K (.ref C) "kind" = some none ∧ H a = some (exo a C none) ∧ ∀ dx, H dx = none → dx ≠ a → Q .non (upd (upd H dx (exd dx [("kind", y)])) a (exo a C (some dx)))
structure OwnI (P : Program) (w : World) (K : PySem.W.Frag) (mg : Str → Option Value) (base : Heap) (x : Str) (C : Addr) (k : Nat) : Prop where
  gC : mg x = some (.ref C)
  T : OexC K C
  no : PySem.W.findIn K (.ref C) "kind" = some none
  ex : ∃ (f : Addr) (fd : FuncData), PySem.W.findIn K (.ref C) "__init__" = some (some (.ref f)) ∧ PySem.W.typeIn K (.ref f) = some (.type "function") ∧ FnOk P w K mg base CX0 k f fd ["self", "kind"] (spKindI K C) ∧ Binds K fd ["self", "kind"] []
def oexCB (K : PySem.W.Frag) (C : Addr) : Bool := (match K.lookup C with
  | some ⟨.type "type", _, .cls cd, sl⟩ => (match cd.mro, sl.toList with
    | .ref D :: bm, [_, _, _, _, some (.builtin n), _] => decide (D = C) && (n == "ValueError.__new__" && (!cd.hasDel && (cd.hasDict && PySem.HandSPX.refsVE bm)))
    | _, _ => false)
  | _ => false) && (He.eqO (PySem.W.findIn K (.ref C) "__setattr__") (some (some (.builtin "object.__setattr__"))) && (decide (PySem.W.subIn K (.ref C) (.type "BaseException") = some true) && (decide (PySem.W.typeIn K (.ref C) = some (.type "type")) && PySem.W.keepIn K (.ref C))))
theorem oexCB_ok {K : PySem.W.Frag} {C : Addr} (h : oexCB K C = true) : OexC K C := by
  obtain ⟨h1, h⟩ := He.ba h
  obtain ⟨h2, h⟩ := He.ba h
  obtain ⟨h3, h⟩ := He.ba h
  obtain ⟨h4, h5⟩ := He.ba h
  refine ⟨?_, He.eqO_ok h2, of_decide_eq_true h3, of_decide_eq_true h4, h5⟩
  split at h1
  · rename_i dd cd sl ho
    split at h1
    · rename_i D bm k0 k1 k2 k3 n k5 hm hs
      obtain ⟨e1, h1⟩ := He.ba h1
      obtain ⟨e2, h1⟩ := He.ba h1
      obtain ⟨e3, h1⟩ := He.ba h1
      obtain ⟨e4, e5⟩ := He.ba h1
      have e1 := of_decide_eq_true e1
      have e2 := beq_iff_eq.mp e2
      obtain ⟨nm, bs, mro, ns, qn, hd, sn, sb, ab, col, del⟩ := cd
      simp only at hm e3 e4
      subst e1 e2 hm e4
      have e3 : del = false := by simpa using e3
      subst e3
      obtain ⟨sl⟩ := sl
      simp only at hs
      subst hs
      exact ⟨nm, qn, ns, bs, bm, sn, sb, ab, col, dd, k0, k1, k2, k3, k5, ho, e5⟩
    · cases h1
  · cases h1
/-- a reading that asks less -/
theorem _root_.L2.PE.wide {X : Cx} {e : Expr} {te : TE} (h : PE X e te) : PE X e (fun σ H Q => ∃ Q' : VK, te σ H Q' ∧ ∀ v H', Q' v H' → Q v H') :=
  ⟨fun pins s σ H Q I ⟨Q', h1, h2⟩ => thn (h.run pins s σ H Q' I h1) fun v s1 ⟨y, H1, I1, r, q⟩ => ⟨y, H1, I1, r, h2 _ _ q⟩⟩
section
variable {X : Cx} {C : Addr} {x : Str} {k : Nat} {e : Expr} {te : TE} {p pos : Pos}
def tKind (C : Addr) (te : TE) : L2.St → Hp → XK → Prop := fun σ H Q => te σ H fun y H1 => ∀ d, H1 d = none → Q (.ref C) (some d) (upd H1 d (.xd [("kind", y)]))
theorem pmk_kind (O : OwnI X.prog X.w X.K X.mg X.base x C k) (hr : Room (k + 1) X.A) (hg : Gl X x) (he : PE X e te) (hdb : (x == ("__debug__" : Str)) = false := by decide)
    (hs : starEach [e] X.env = (false, eval e X.env) :: starEach [] X.env := by rfl) (hpl : (backTo pos (starEach [] X.env)).any (·.1) = false := by rfl) : PMk X (.Call (.Name x p) [e] [] pos) (tKind C te) := by
  obtain ⟨f, fd, h1, h2, h3, h4⟩ := O.ex
  have hw := pmk_oex (p := p) O.T h1 h2 h3 hr h4 .nil pass0 hg O.gC (pa_cons (hs := hs) he.wide pa_nil) hdb hs hpl
  intro pins s σ H Q I h
  refine hw pins s σ H Q I ⟨_, h, fun y H1 q => ?_⟩
  refine ⟨by simp, fun a ha => ⟨a, y, rfl, O.T, O.no, upd_same, fun dx hd ne => ⟨rfl, dx, [("kind", y)], upd_same, ?_, ?_, ?_⟩⟩⟩
  · rw [upd_ne ne, upd_same]
  · rw [upd_ne ne] at hd; exact hd
  · have e : upd (del (upd (upd (upd H1 a (exo a C none)) dx (exd dx [("kind", y)])) a (exo a C (some dx))) a) dx (.xd [("kind", y)]) = upd H1 dx (.xd [("kind", y)]) := by
      funext b
      by_cases h1 : b = dx
      · subst h1; rw [upd_same, upd_same]
      · rw [upd_ne h1, upd_ne h1]
        by_cases h2 : b = a
        · subst h2; rw [del_same, ha]
        · rw [del_ne h2, upd_ne h2, upd_ne h1, upd_ne h2]
    rw [e]
    rw [upd_ne ne] at hd
    exact q dx hd
end
end FT
namespace FT
open PySem PySem.W PySem.Spec PyProof.Rows L2
/-! ## books -/
abbrev Ru := Gr × Gr
def Ru.enc (r : Ru) : PyData := .tuple [r.1.enc, r.2.enc]
def Ru.within (r : Ru) : List (Tr × Int) := r.1.within ++ r.2.within
structure Kd where
  n : Str
  w : Bool
  rs : List Ru
abbrev Bk := List Kd
abbrev Bk.names (b : Bk) : List Str := b.map (·.n)
def Kd.rowE (k : Kd) : PyData := .tuple (k.rs.map Ru.enc)
def Bk.get (b : Bk) (n : Str) : Option Kd := b.find? fun k => decide (k.n = n)
def RuOk (r : Ru) : Prop := r.1.Ok 1000000001 ∧ r.2.Ok 1000000001 ∧ r.1.parts + r.2.parts ≤ 4
def KdOk (ns : List Str) (k : Kd) : Prop := NameOk k.n ∧ k.rs.length ≤ 4 ∧ ∀ r ∈ k.rs, RuOk r ∧ ∀ p ∈ Ru.within r, p.1.1 ∈ ns
structure Bk.Ok (b : Bk) : Prop where
  pos : 1 ≤ b.length
  len : b.length ≤ 8
  nd : b.names.Nodup
  kd : ∀ k ∈ b, KdOk b.names k
theorem Ru.noList_enc (r : Ru) : noList (Ru.enc r) = true := by simp [Ru.enc, noList, noLists, Gr.noList_enc]
theorem Kd.noList_rowE (k : Kd) : noList k.rowE = true := by
  unfold Kd.rowE noList
  induction k.rs with
  | nil => rfl
  | cons r l ih => rw [List.map_cons, noLists, Ru.noList_enc, ih]; rfl
theorem Bk.get_some {b : Bk} {n : Str} {k : Kd} (h : b.get n = some k) : k ∈ b ∧ k.n = n :=
  ⟨List.mem_of_find?_eq_some h, of_decide_eq_true (List.find?_some (p := fun k : Kd => decide (k.n = n)) h)⟩
theorem Bk.get_none {b : Bk} {n : Str} (h : b.get n = none) : n ∉ b.names := fun z => by
  obtain ⟨k, hk, e⟩ := List.mem_map.mp z
  have := List.find?_eq_none.mp h k hk
  exact this (decide_eq_true e)
theorem Bk.get_of {b : Bk} {n : Str} (h : n ∈ b.names) : ∃ k, b.get n = some k := by
  cases e : b.get n with
  | none => exact absurd h (Bk.get_none e)
  | some k => exact ⟨k, rfl⟩
theorem Bk.get_self {b : Bk} (nd : b.names.Nodup) {k : Kd} (hk : k ∈ b) : b.get k.n = some k := by
  induction b with
  | nil => cases hk
  | cons x r ih =>
    have nd' : (x.n :: Bk.names r).Nodup := nd
    unfold Bk.get
    rcases List.mem_cons.mp hk with e | e
    · subst e; rw [List.find?_cons_of_pos (by simp)]
    · have : ¬ x.n = k.n := fun z => (List.nodup_cons.mp nd').1 (by rw [z]; exact List.mem_map.mpr ⟨k, e, rfl⟩)
      rw [List.find?_cons_of_neg (by simpa using this)]
      exact ih (List.nodup_cons.mp nd').2 e
/-- the rows of a book, by their names -/
def Bk.rowKV (b : Bk) (us : List V) : List (Key × V) := List.zipWith (fun (k : Kd) (u : V) => (Sum.inr k.n, u)) b us
def Bk.spKV (b : Bk) : List (Key × V) := b.map fun k => (Sum.inr k.n, V.bl k.w)
theorem Bk.spKV_val (b : Bk) (n : Str) : valV b.spKV (Sum.inr n) = (b.get n).map fun k => V.bl k.w := by
  induction b with
  | nil => rfl
  | cons x r ih =>
    by_cases e : x.n = n
    · subst e
      rw [show Bk.spKV (x :: r) = (Sum.inr x.n, V.bl x.w) :: Bk.spKV r from rfl, valV_pos rfl]
      simp [Bk.get]
    · rw [show Bk.spKV (x :: r) = (Sum.inr x.n, V.bl x.w) :: Bk.spKV r from rfl, valV_neg (by simpa using e), ih]
      simp [Bk.get, e]
theorem Bk.rowKV_val {K : PySem.W.Frag} {H : Hp} (n : Str) : ∀ {b : Bk} {us : List V}, Bears K H Kd.rowE us b → ∀ {k : Kd}, b.get n = some k → ∃ u, valV (b.rowKV us) (Sum.inr n) = some u ∧ Dp K H u k.rowE
  | [], _, _, k, h => by cases h
  | x :: r, _, .cons (v := u) (vs := us) h0 h1, k, h => by
    have e0 : Bk.rowKV (x :: r) (u :: us) = (Sum.inr x.n, u) :: Bk.rowKV r us := rfl
    by_cases e : x.n = n
    · subst e
      have : x = k := by simpa [Bk.get] using h
      subst this
      exact ⟨u, by rw [e0, valV_pos rfl], h0⟩
    · have h' : Bk.get r n = some k := by simpa [Bk.get, e] using h
      obtain ⟨v, a, c⟩ := Bk.rowKV_val n h1 h'
      exact ⟨v, by rw [e0, valV_neg (by simpa using e)]; exact a, c⟩
abbrev bkF (d1 d2 : Addr) : List (Str × V) := [("spread_by_name", .ref d1), ("rows_by_name", .ref d2)]
/-- v is an instance of the class at C that holds the book b -/
def BkA (K : PySem.W.Frag) (C : Addr) (H : Hp) (v : V) (b : Bk) : Prop := ∃ (a dx d1 d2 : Addr) (us : List V), v = .ref a ∧ H a = some (.ins C dx (bkF d1 d2)) ∧ H d1 = some (.dK b.spKV) ∧ H d2 = some (.dK (b.rowKV us)) ∧ Bears K H Kd.rowE us b
def Lsts (H : Hp) (ps : List Addr) : Prop := ∀ p ∈ ps, H p = none ∨ ∃ xs, H p = some (.lst xs)
theorem Lsts.nil {H : Hp} : Lsts H [] := fun _ h => nomatch h
theorem Lsts.one {H : Hp} {p : Addr} {xs : List V} (h : H p = some (.lst xs)) : Lsts H [p] := fun q z => by rw [List.mem_singleton.mp z]; exact .inr ⟨xs, h⟩
theorem Lsts.cons {H : Hp} {p : Addr} {xs : List V} {ps : List Addr} (h : H p = some (.lst xs)) (hs : Lsts H ps) : Lsts H (p :: ps) := fun q z => by
  rcases List.mem_cons.mp z with z | z
  · rw [z]; exact .inr ⟨xs, h⟩
  · exact hs q z
theorem Lsts.notin {H : Hp} {ps : List Addr} (h : Lsts H ps) {a : Addr} {o : HO} (e : H a = some o) (n : ∀ xs, o ≠ .lst xs) : a ∉ ps := fun z => by
  rcases h a z with q | ⟨xs, q⟩
  · rw [e] at q; cases q
  · rw [e] at q; exact n xs (Option.some.inj q)
section
variable {K : PySem.W.Frag} {C : Addr} {H H' : Hp} {v : V} {b : Bk} {ps : List Addr}
theorem BkA.sb (h : BkA K C H v b) (e : SB ps H H') (hp : Lsts H ps) : BkA K C H' v b := by
  obtain ⟨a, dx, d1, d2, us, rfl, h1, h2, h3, h4⟩ := h
  exact ⟨a, dx, d1, d2, us, rfl, e.keep _ _ h1 (hp.notin h1 fun _ z => nomatch z), e.keep _ _ h2 (hp.notin h2 fun _ z => nomatch z), e.keep _ _ h3 (hp.notin h3 fun _ z => nomatch z), h4.sb e Kd.noList_rowE⟩
theorem BkA.sb0 (h : BkA K C H v b) (e : SB [] H H') : BkA K C H' v b := h.sb e Lsts.nil
theorem BkA.at (h : BkA K C H v b) : ∃ a dx d1 d2, v = .ref a ∧ H a = some (.ins C dx (bkF d1 d2)) := by
  obtain ⟨a, dx, d1, d2, us, e, h1, _⟩ := h
  exact ⟨a, dx, d1, d2, e, h1⟩
end
/-- what a class has: its fields are in no class of it -/
structure ClsF (K : PySem.W.Frag) (C : Addr) (fs : List Str) : Prop where
  c : Cls K C
  no : ∀ f ∈ fs, NoAttr K C f
/-! ### promises of the methods -/
def spBNames (K : PySem.W.Frag) (C : Addr) : Sp := fun vs H Q _ => ∃ (v : V) (b : Bk), vs = [v] ∧ BkA K C H v b ∧ b.length ≤ 1000 ∧ ∀ (l : Addr) (H' : Hp), SB [] H H' → H l = none → H' l = some (.lst (b.names.map V.str)) → Q (.ref l) H'
/-- n is a kind of b, or the error of the class at N has it as its field -/
def kindOr (N : Addr) (b : Bk) (n : Str) (H : Hp) (E : XK) (q : Kd → Prop) : Prop := (∀ k, b.get n = some k → q k) ∧ (b.get n = none → ∀ (d : Addr) (H' : Hp), SB [] H H' → H d = none → H' d = some (.xd [("kind", .str n)]) → E (.ref N) (some d) H')
def spCheckK (K : PySem.W.Frag) (C N : Addr) : Sp := fun vs H Q E => ∃ (v : V) (b : Bk) (n : Str), vs = [v, .str n] ∧ BkA K C H v b ∧ b.length ≤ 1000 ∧ kindOr N b n H E fun _ => ∀ H', SB [] H H' → Q .non H'
def spBSpreads (K : PySem.W.Frag) (C N : Addr) : Sp := fun vs H Q E => ∃ (v : V) (b : Bk) (n : Str), vs = [v, .str n] ∧ BkA K C H v b ∧ b.length ≤ 1000 ∧ kindOr N b n H E fun k => ∀ H', SB [] H H' → Q (.bl k.w) H'
def spBRules (K : PySem.W.Frag) (C N : Addr) : Sp := fun vs H Q E => ∃ (v : V) (b : Bk) (n : Str), vs = [v, .str n] ∧ BkA K C H v b ∧ b.length ≤ 1000 ∧ (∀ k ∈ b, k.rs.length ≤ 1000) ∧
  kindOr N b n H E fun k => ∀ (l : Addr) (us : List V) (H' : Hp), SB [] H H' → H l = none → H' l = some (.lst us) → Bears K H' Ru.enc us k.rs → Q (.ref l) H'
/-! ### things that may be kinds -/
inductive KT where
  | other
  | three (d : PyData) (w : Option Bool) (rs : Option (List PyData))
def Kd.kt (k : Kd) : KT := .three (.str k.n) (some k.w) (some (k.rs.map Ru.enc))
/-- a thing that is no tuple of three, or a tuple of three: of any thing, a truth or not, a list of things or not -/
def KTA (K : PySem.W.Frag) (H : Hp) (v : V) : KT → Prop
  | .other => ∃ d, Tg K H v d ∧ ∀ ds, d = .tuple ds → ds.length ≠ 3
  | .three d w rs => ∃ (t : Addr) (x y z : V), v = .ref t ∧ SqT K H t [x, y, z] ∧ Tg K H x d ∧ (match w with
      | some b => y = .bl b
      | none => ∃ n, TyX K H y (.type n) ∧ kitB n "bool" = some false) ∧ (match rs with
      | some ds => ∃ (l : Addr) (zs : List V), z = .ref l ∧ H l = some (.lst zs) ∧ TgAll K H zs ds
      | none => ∃ n, TyX K H z (.type n) ∧ kitB n "list" = some false)
/-- a rule, as a datum -/
def RuD (d : PyData) : Prop := ∃ r : Ru, d = Ru.enc r ∧ RuOk r
/-- what is looked at is not too great -/
def RuFit (d : PyData) : Prop := d.depth ≤ 60 ∧ wide d ≤ 1000 ∧ ∀ a b, d = .tuple [a, b] → ∀ g : Gr, a = g.enc ∨ b = g.enc → g.deep ≤ 18 ∧ g.parts ≤ 450
def KTFit : KT → Prop
  | .other => True
  | .three d w rs => ∀ ds, rs = some ds → ds.length ≤ 1000 ∧ ∀ x ∈ ds, RuFit x
def KTKd (t : KT) : Prop := ∃ k : Kd, t = k.kt ∧ NameOk k.n ∧ k.rs.length ≤ 4 ∧ ∀ r ∈ k.rs, RuOk r
def KTBk (ts : List KT) : Prop := ∃ b : Bk, ts = b.map Kd.kt ∧ Bk.Ok b
inductive KTAll (K : PySem.W.Frag) (H : Hp) : List V → List KT → Prop
  | nil : KTAll K H [] []
  | cons {v : V} {t : KT} {vs : List V} {ts : List KT} : KTA K H v t → KTAll K H vs ts → KTAll K H (v :: vs) (t :: ts)
def spIsRule (K : PySem.W.Frag) : Sp := fun vs H Q _ => ∃ (v : V) (d : PyData), vs = [v] ∧ Tg K H v d ∧ RuFit d ∧ ∀ (b : Bool) (H' : Hp), SB [] H H' → (b = true ↔ RuD d) → Q (.bl b) H'
def spIsKind (K : PySem.W.Frag) : Sp := fun vs H Q _ => ∃ (v : V) (t : KT), vs = [v] ∧ KTA K H v t ∧ KTFit t ∧ ∀ (b : Bool) (H' : Hp), SB [] H H' → (b = true ↔ KTKd t) → Q (.bl b) H'
def spIsRuleOf (K : PySem.W.Frag) : Sp := fun vs H Q _ => ∃ (v : V) (l : Addr) (r : Ru) (ns : List Str), vs = [v, .ref l] ∧ Dp K H v (Ru.enc r) ∧ RuOk r ∧ SqL K H l (ns.map V.str) ∧ ns.length ≤ 1000 ∧ ∀ H', SB [] H H' → Q (.bl (decide (∀ p ∈ Ru.within r, p.1.1 ∈ ns))) H'
def spAreKinds (K : PySem.W.Frag) : Sp := fun vs H Q _ => ∃ (l : Addr) (xs : List V) (ts : List KT), vs = [.ref l] ∧ SqL K H l xs ∧ KTAll K H xs ts ∧ (∀ t ∈ ts, KTFit t) ∧ ts.length ≤ 1000 ∧ ∀ (b : Bool) (H' : Hp), SB [] H H' → (b = true ↔ KTBk ts) → Q (.bl b) H'
/-- Book(kinds): x is the new instance -/
def spBInit (K : PySem.W.Frag) (C B : Addr) : Sp := fun vs H Q E => ∃ (x dx l : Addr) (xs : List V) (ts : List KT), vs = [.ref x, .ref l] ∧ H x = some (.ins C dx []) ∧ H dx = some (.own x) ∧ H l = some (.lst xs) ∧ KTAll K H xs ts ∧ (∀ t ∈ ts, KTFit t) ∧ ts.length ≤ 1000 ∧
  (∀ b : Bk, ts = b.map Kd.kt → b.Ok → ∀ H', SB [x] H H' → BkA K C H' (.ref x) b → Q .non H') ∧ (¬ KTBk ts → ∀ H', SB [] H H' → E (.ref B) none H')
/-! ### texts in lists of texts -/
theorem inV_strs (n : Str) (zs : List Str) : inV (.str n) (zs.map V.str) = decide (n ∈ zs) := by
  induction zs with
  | nil => rfl
  | cons z r ih =>
    show ((z == n) || inV (.str n) (r.map V.str)) = _
    rw [ih]
    by_cases e : z = n
    · subst e; simp
    · have e' : ¬ n = z := fun y => e y.symm
      rw [show (z == n) = false from beq_eq_false_iff_ne.mpr e, Bool.false_or]
      by_cases h : n ∈ r <;> simp [h, e']
theorem flat_strs (zs : List Str) : (zs.map V.str).all flatV = true := by simp [flatV]
theorem getK {H : Hp} {d : Addr} {kvs : List (Key × V)} {n : Str} {v : V} (h : H d = some (.dK kvs)) (e : valV kvs (Sum.inr n) = some v) : DGet H d (.str n) (some v) := .inl ⟨kvs, Sum.inr n, .inl h, rfl, e.symm⟩
theorem Bk.get_isSome (b : Bk) (n : Str) : decide (n ∈ b.names) = (b.get n).isSome := by
  cases e : b.get n with
  | none => simpa using Bk.get_none e
  | some k => simpa using List.mem_map.mpr ⟨k, (Bk.get_some e).1, (Bk.get_some e).2⟩
end FT
namespace FT
open PySem PySem.W PySem.Spec PyProof.Rows L2
/-! ## a comprehension, its list by what the turns leave -/
section
variable {J : It} {n : Nat} {G : Hp → Prop} {Y : Nat → Hp → V → Hp → Prop}
theorem lc_seq (w : Walk J n G Y) {g : TG} {tt : TT} {te : TE} {vs : List Nat} {σ : L2.St} {H : Hp} {D : Addr} {Qd : Hp → Prop} (hD : H D = none) (hn : n < sizeLine) (R : Nat → List V → Hp → Prop) (h0 : R 0 [] H) (hG : ∀ H2, SB [] H H2 → G H2)
    (st : ∀ i us H2 H3, SB [D] H2 H3 → R i us H2 → R i us H3)
    (turn : ∀ (Pv : Hp → Prop) i x H2 H' us, i < n → SB [] H H2 → Y i H2 x H' → R i us H2 → us.length ≤ i → (∀ y H5, SB [] H2 H5 → R (i + 1) (us ++ [y]) H5 → ∃ acc, H5 D = some (.lst acc) ∧ acc.length < sizeLine ∧ Pv (upd H5 D (.lst (acc ++ [y])))) →
      (∀ H4, SB [] H2 H4 → R (i + 1) us H4 → Pv H4) → g x (wipe σ vs) H' fun σ2 H3 => wipe σ2 vs = wipe σ vs ∧ tt σ2 H3 fun b H4 =>
        if b = true then te σ2 H4 fun y H5 => ∃ acc, H5 D = some (.lst acc) ∧ acc.length < sizeLine ∧ Pv (upd H5 D (.lst (acc ++ [y]))) else Pv H4)
    (done : ∀ us H2, SB [] H H2 → H2 D = some (.lst us) → R n us H2 → us.length ≤ n → Qd H2) :
    ∃ W : Nat → Nat → Hp → Prop, (∃ m, W 0 m (upd H D (.lst []))) ∧ ∀ i m H, W i m H →
      (J.stop i H ∧ Qd H) ∨ (J.go i H ∧ ∃ Nx : Hp → Prop, (∀ H', Nx H' → ∃ m', m' < m ∧ W (i + 1) m' H') ∧ ∀ x H', J.yld i H x H' → g x (wipe σ vs) H' fun σ2 H2 => wipe σ2 vs = wipe σ vs ∧ tt σ2 H2 fun b H3 =>
        if b = true then te σ2 H3 fun y H4 => ∃ acc, H4 D = some (.lst acc) ∧ acc.length < sizeLine ∧ Nx (upd H4 D (.lst (acc ++ [y]))) else Nx H3) := by
  refine lc_it w (fun i H2 => SB [D] H H2 ∧ ∃ us, H2 D = some (.lst us) ∧ R i us H2 ∧ us.length ≤ i) ⟨SB.new hD _, [], upd_same, st _ _ _ _ (SB.new hD _) h0, Nat.le_refl _⟩ (fun i H2 _ h => hG H2 (h.1.drop hD)) (fun i x H2 H' hi h y => ?_) (fun H2 h => ?_)
  · obtain ⟨s2, us, hD2, hR, hl⟩ := h
    refine turn _ i x H2 H' us hi (s2.drop hD) y hR hl (fun y H5 s5 r5 => ?_) (fun H4 s4 r4 => ⟨s2.trans s4.nil, us, s4.keep _ _ hD2 List.not_mem_nil, r4, by omega⟩)
    have hD5 := s5.keep _ _ hD2 List.not_mem_nil
    refine ⟨us, hD5, by omega, (s2.trans s5.nil).trans (SB.set hD5 (by simp) _), _, upd_same, st _ _ _ _ (SB.set hD5 (by simp) _) r5, ?_⟩
    rw [List.length_append, List.length_singleton]; omega
  · obtain ⟨s2, us, hD2, hR, hl⟩ := h
    exact done us H2 (s2.drop hD) hD2 hR hl
end
/-! ## groves that are let by, their numbers below a bound -/
theorem groveD_Ok {C : Int} : ∀ {g : Gr}, groveD g.enc = true → (∀ p ∈ g.within, p.2 < C) → g.Ok C := by
  have key : ∀ (g : Gr), (∀ p ∈ g.within, p.2 < C) → grPs g.encs = true → (risingD (g.encs.map exp0) = true → g.Ok C) := by
    intro g
    induction g with
    | nil => intro _ _ _; trivial
    | cons k g m r ihg ihr =>
      intro hb hps hri
      have hb1 : ∀ p ∈ g.within, p.2 < C := fun p hp => hb p (List.mem_cons_of_mem _ (List.mem_append_left _ hp))
      have hb2 : ∀ p ∈ r.within, p.2 < C := fun p hp => hb p (List.mem_cons_of_mem _ (List.mem_append_right _ hp))
      have e : (Gr.cons k g m r).encs = Gr.pEnc ((k, g), m) :: r.encs := rfl
      rw [e, grPs, Bool.and_eq_true] at hps
      rw [e, List.map_cons] at hri
      have hp : grP (.tuple [.tuple [.str k, .tuple g.encs], .int m]) = true := hps.1
      rw [grP, grP2, Bool.and_eq_true, treeD, trD2, Bool.and_eq_true, trD3, Bool.and_eq_true, groveD, Bool.and_eq_true, ladP3, Bool.and_eq_true] at hp
      obtain ⟨⟨hn, ⟨hgp, hgr⟩, _⟩, hmm, _⟩ := hp
      have hname : NameOk k := by
        obtain ⟨z, ez, hz⟩ := nameD_iff hn
        cases ez; exact hz
      have hri2 : risingD (r.encs.map exp0) = true := by
        cases hre : r.encs with
        | nil => rfl
        | cons d ds =>
          rw [hre, List.map_cons] at hri
          have : (dataLt (exp0 (Gr.pEnc ((k, g), m))) (exp0 d) :: ltsD (exp0 d :: ds.map exp0)).all id = true := hri
          rw [List.all_cons, Bool.and_eq_true] at this
          rw [List.map_cons]; exact this.2
      have hro := ihr hb2 hps.2 hri2
      refine ⟨hname, ihg hb1 hgp hgr, of_decide_eq_true hmm, hb _ (List.mem_cons_self ..), hro, fun p hpm => ?_⟩
      cases r with
      | nil => cases hpm
      | cons k2 g2 m2 r2 =>
        have h12 : dataLt (Gr.tEnc (k, g)) (Gr.tEnc (k2, g2)) = true := by
          have : (dataLt (Gr.tEnc (k, g)) (Gr.tEnc (k2, g2)) :: ltsD (Gr.tEnc (k2, g2) :: r2.encs.map exp0)).all id = true := hri
          rw [List.all_cons, Bool.and_eq_true] at this
          exact this.1
        rcases List.mem_cons.mp hpm with h | h
        · subst h; exact h12
        · exact dl_trans h12 (hro.2.2.2.2.2 p h)
  intro g hg hb
  rw [Gr.enc, groveD, Bool.and_eq_true] at hg
  exact key g hb hg.1 hg.2
theorem Ok_within {C : Int} : ∀ {g : Gr}, g.Ok C → ∀ p ∈ g.within, NameOk p.1.1 ∧ p.1.2.Ok C ∧ 1 ≤ p.2 ∧ p.2 < C
  | .nil, _, p, h => by cases h
  | .cons k g m r, ⟨h0, h1, h2, h3, h4, _⟩, p, h => by
    rcases List.mem_cons.mp h with h | h
    · subst h; exact ⟨h0, h1, h2, h3⟩
    · rcases List.mem_append.mp h with h | h
      · exact Ok_within h1 p h
      · exact Ok_within h4 p h
theorem Gr.enc_inj {g h : Gr} (e : g.enc = h.enc) : g = h := by
  have := Gr.eqv_enc g h
  rw [e, Gr.eqv_enc h h, decide_eq_true rfl] at this
  exact of_decide_eq_true this.symm
/-- a rule, by what is looked at -/
theorem RuD_iff {g h : Gr} (hg : groveD g.enc = true) (hh : groveD h.enc = true) : RuD (.tuple [g.enc, h.enc]) ↔ g.parts + h.parts ≤ 4 ∧ ∀ p ∈ g.within ++ h.within, p.2 ≤ 1000000000 := by
  constructor
  · rintro ⟨r, e, h1, h2, h3⟩
    have e' : PyData.tuple [g.enc, h.enc] = .tuple [r.1.enc, r.2.enc] := e
    injection e' with e'
    injection e' with a e'
    injection e' with b _
    rw [Gr.enc_inj a, Gr.enc_inj b]
    refine ⟨h3, fun p hp => ?_⟩
    rcases List.mem_append.mp hp with hp | hp
    · have := (Ok_within h1 p hp).2.2.2; omega
    · have := (Ok_within h2 p hp).2.2.2; omega
  · rintro ⟨h1, h2⟩
    exact ⟨(g, h), rfl, groveD_Ok hg fun p hp => by have := h2 p (List.mem_append_left _ hp); omega, groveD_Ok hh fun p hp => by have := h2 p (List.mem_append_right _ hp); omega, h1⟩
theorem RuD_two {d : PyData} (h : RuD d) : ∃ g k : Gr, d = .tuple [g.enc, k.enc] ∧ groveD g.enc = true ∧ groveD k.enc = true := by
  obtain ⟨r, e, h1, h2, _⟩ := h
  exact ⟨r.1, r.2, e, groveD_ok h1, groveD_ok h2⟩
theorem within_deep : ∀ g : Gr, g.deep ≤ g.parts
  | .nil => Nat.le_refl _
  | .cons k g m r => by
    have h1 := within_deep g
    have h2 := within_deep r
    show max (1 + g.deep) r.deep ≤ 1 + g.parts + r.parts
    omega
theorem RuD_all : ∀ {ds : List PyData}, (∀ x ∈ ds, RuD x) → ∃ rs : List Ru, ds = rs.map Ru.enc ∧ ∀ r ∈ rs, RuOk r
  | [], _ => ⟨[], rfl, fun _ h => nomatch h⟩
  | d :: ds, h => by
    obtain ⟨r, e, hr⟩ := h d (List.mem_cons_self ..)
    obtain ⟨rs, e2, hrs⟩ := RuD_all fun x hx => h x (List.mem_cons_of_mem _ hx)
    refine ⟨r :: rs, by rw [e, e2]; rfl, fun x hx => ?_⟩
    rcases List.mem_cons.mp hx with hx | hx
    · rw [hx]; exact hr
    · exact hrs x hx
theorem SqL_ty {K : PySem.W.Frag} {H : Hp} {a : Addr} {xs : List V} (h : SqL K H a xs) : TyX K H (.ref a) (.type "list") := by
  rcases h with (h | ⟨o, h⟩) | ⟨o, its, n, h, c, _⟩
  · exact .base (.lst h)
  · exact .base (.frz h)
  · exact .kList h c
/-! ## kinds in a row -/
section
variable {K : PySem.W.Frag} {H H' : Hp}
theorem KTA_sb (e : SB [] H H') : ∀ {t : KT} {v : V}, KTA K H v t → KTA K H' v t
  | .other, v, ⟨d, h1, h2⟩ => ⟨d, Tg_sb e h1, h2⟩
  | .three d w rs, v, ⟨t, x, y, z, e0, h1, h2, h3, h4⟩ => by
    refine ⟨t, x, y, z, e0, e.sqT h1, Tg_sb e h2, ?_, ?_⟩
    · cases w with
      | some b => exact h3
      | none =>
        obtain ⟨n, a, b⟩ := h3
        exact ⟨n, TyX_sb e (fun _ _ => List.not_mem_nil) a, b⟩
    · cases rs with
      | some ds =>
        obtain ⟨l, zs, e1, h5, h6⟩ := h4
        exact ⟨l, zs, e1, e.keep _ _ h5 List.not_mem_nil, TgAll_sb e h6⟩
      | none =>
        obtain ⟨n, a, b⟩ := h4
        exact ⟨n, TyX_sb e (fun _ _ => List.not_mem_nil) a, b⟩
theorem KTAll.sb (e : SB [] H H') : ∀ {vs : List V} {ts : List KT}, KTAll K H vs ts → KTAll K H' vs ts
  | _, _, .nil => .nil
  | _, _, .cons h t => .cons (KTA_sb e h) (KTAll.sb e t)
theorem KTAll.length : ∀ {vs : List V} {ts : List KT}, KTAll K H vs ts → vs.length = ts.length
  | _, _, .nil => rfl
  | _, _, .cons h t => by rw [List.length_cons, List.length_cons, KTAll.length t]
theorem KTAll.get : ∀ {vs : List V} {ts : List KT} {i : Nat} {v : V}, KTAll K H vs ts → vs[i]? = some v → ∃ t, ts[i]? = some t ∧ KTA K H v t
  | _, _, i, v, .nil, h => by simp at h
  | _, _, 0, v, .cons h t, e => by simp at e; subst e; exact ⟨_, rfl, h⟩
  | _, _, i + 1, v, .cons h t, e => by
    simp at e
    obtain ⟨t', e', h'⟩ := KTAll.get (i := i) t e
    exact ⟨t', by simpa using e', h'⟩
theorem KT_all : ∀ {ts : List KT}, (∀ t ∈ ts, KTKd t) → ∃ b : Bk, ts = b.map Kd.kt ∧ ∀ k ∈ b, NameOk k.n ∧ k.rs.length ≤ 4 ∧ ∀ r ∈ k.rs, RuOk r
  | [], _ => ⟨[], rfl, fun _ h => nomatch h⟩
  | t :: ts, h => by
    obtain ⟨k, e, hk⟩ := h t (List.mem_cons_self ..)
    obtain ⟨b, e2, hb⟩ := KT_all fun x hx => h x (List.mem_cons_of_mem _ hx)
    refine ⟨k :: b, by rw [e, e2]; rfl, fun x hx => ?_⟩
    rcases List.mem_cons.mp hx with hx | hx
    · rw [hx]; exact hk
    · exact hb x hx
theorem kt_inj {k j : Kd} (e : k.kt = j.kt) : k = j := by
  obtain ⟨n, w, rs⟩ := k
  obtain ⟨n2, w2, rs2⟩ := j
  injection e with e1 e2 e3
  injection e1 with e1
  injection e2 with e2
  injection e3 with e3
  have e3 : rs.map Ru.enc = rs2.map Ru.enc := e3
  have e1 : n = n2 := e1
  have e2 : w = w2 := e2
  subst e1 e2
  have : rs = rs2 := by
    refine (List.map_inj_right ?_).mp e3
    intro x y h
    have h' : PyData.tuple [x.1.enc, x.2.enc] = .tuple [y.1.enc, y.2.enc] := h
    injection h' with h'
    injection h' with a h'
    injection h' with b _
    exact Prod.ext (Gr.enc_inj a) (Gr.enc_inj b)
  rw [this]
theorem kts_inj {b c : Bk} (e : b.map Kd.kt = c.map Kd.kt) : b = c := (List.map_inj_right (fun _ _ => kt_inj)).mp e
theorem TgAll_rules : ∀ {rs : List Ru} {zs : List V}, TgAll K H zs (rs.map Ru.enc) → Bears K H Ru.enc zs rs
  | [], _, .nil => .nil
  | r :: rs, _, .cons h t => by
    refine .cons ?_ (TgAll_rules t)
    cases (h : Tg K H _ (.tuple [r.1.enc, r.2.enc])) with
    | tup hs ha =>
      cases ha with
      | cons h1 ha =>
      cases ha with
      | cons h2 ha =>
      cases ha
      cases h1 with
      | tup a1 b1 =>
      cases h2 with
      | tup a2 b2 => exact .tup hs (.cons (.tup a1 (Tg_ga r.1 b1)) (.cons (.tup a2 (Tg_ga r.2 b2)) .nil))
/-- v is a tuple of a name, a truth and a list of rules, which is none of bad: those of k -/
def KdA (K : PySem.W.Frag) (H : Hp) (bad : List Addr) (v : V) (k : Kd) : Prop := ∃ (t l : Addr) (zs : List V), v = .ref t ∧ SqT K H t [.str k.n, .bl k.w, .ref l] ∧ H l = some (.lst zs) ∧ Bears K H Ru.enc zs k.rs ∧ l ∉ bad
theorem KTA_kd {k : Kd} {v : V} (h : KTA K H v k.kt) : KdA K H [] v k := by
  obtain ⟨t, x, y, z, e0, h1, h2, h3, l, zs, rfl, h5, h6⟩ := h
  have h3 : y = .bl k.w := h3
  subst h3
  cases h2
  exact ⟨t, l, zs, e0, h1, h5, TgAll_rules h6, List.not_mem_nil⟩
def NoLst (H : Hp) (bad ps : List Addr) : Prop := ∀ p ∈ ps, p ∈ bad ∨ ∀ xs, H p ≠ some (.lst xs)
theorem NoLst.nil {bad : List Addr} : NoLst H bad [] := fun _ z => nomatch z
theorem NoLst.self {bad : List Addr} : NoLst H bad bad := fun _ z => .inl z
theorem NoLst.new {bad : List Addr} {p : Addr} (h : H p = none) : NoLst H bad [p] := fun q z => .inr fun xs => by rw [List.mem_singleton.mp z, h]; exact fun y => nomatch y
theorem KdA.sb {k : Kd} {v : V} {ps bad : List Addr} (h : KdA K H bad v k) (e : SB ps H H') (n : NoLst H bad ps) : KdA K H' bad v k := by
  obtain ⟨t, l, zs, e0, h1, h2, h3, h4⟩ := h
  exact ⟨t, l, zs, e0, e.sqT h1, e.keep _ _ h2 fun z => (n _ z).elim h4 fun y => y _ h2, h3.sb e Ru.noList_enc, h4⟩
inductive KdAll (K : PySem.W.Frag) (H : Hp) (bad : List Addr) : List V → Bk → Prop
  | nil : KdAll K H bad [] []
  | cons {v : V} {k : Kd} {vs : List V} {b : Bk} : KdA K H bad v k → KdAll K H bad vs b → KdAll K H bad (v :: vs) (k :: b)
theorem KdAll.sb {ps bad : List Addr} (e : SB ps H H') (n : NoLst H bad ps) : ∀ {vs : List V} {b : Bk}, KdAll K H bad vs b → KdAll K H' bad vs b
  | _, _, .nil => .nil
  | _, _, .cons h t => .cons (h.sb e n) (KdAll.sb e n t)
theorem KdAll.less {bad bad' : List Addr} (hb : ∀ x ∈ bad', x ∈ bad) : ∀ {vs : List V} {b : Bk}, KdAll K H bad vs b → KdAll K H bad' vs b
  | _, _, .nil => .nil
  | _, _, .cons ⟨t, l, zs, h1, h2, h3, h4, h5⟩ r => .cons ⟨t, l, zs, h1, h2, h3, h4, fun z => h5 (hb l z)⟩ (KdAll.less hb r)
theorem KdAll.append {bad : List Addr} : ∀ {xs ys : List V} {bs cs : Bk}, KdAll K H bad xs bs → KdAll K H bad ys cs → KdAll K H bad (xs ++ ys) (bs ++ cs)
  | _, _, _, _, .nil, h => h
  | _, _, _, _, .cons a b, h => .cons a (KdAll.append b h)
theorem KdAll.length {bad : List Addr} : ∀ {vs : List V} {ts : Bk}, KdAll K H bad vs ts → vs.length = ts.length
  | _, _, .nil => rfl
  | _, _, .cons h t => by rw [List.length_cons, List.length_cons, KdAll.length t]
theorem KdAll.get {bad : List Addr} : ∀ {vs : List V} {ts : Bk} {i : Nat} {v : V}, KdAll K H bad vs ts → vs[i]? = some v → ∃ t, ts[i]? = some t ∧ KdA K H bad v t
  | _, _, i, v, .nil, h => by simp at h
  | _, _, 0, v, .cons h t, e => by simp at e; subst e; exact ⟨_, rfl, h⟩
  | _, _, i + 1, v, .cons h t, e => by
    simp at e
    obtain ⟨t', e', h'⟩ := KdAll.get (i := i) t e
    exact ⟨t', by simpa using e', h'⟩
theorem KTAll.kd : ∀ {b : Bk} {vs : List V}, KTAll K H vs (b.map Kd.kt) → KdAll K H [] vs b
  | [], _, .nil => .nil
  | k :: b, _, .cons h t => .cons (KTA_kd h) (KTAll.kd t)
theorem rules_TgAll {zs : List V} : ∀ {rs : List Ru} {zs : List V}, (∀ r ∈ rs, RuOk r) → Bears K H Ru.enc zs rs → TgAll K H zs (rs.map Ru.enc)
  | [], _, _, .nil => .nil
  | r :: rs, _, ok, .cons h t => by
    refine .cons ?_ (rules_TgAll (zs := zs) (fun x hx => ok x (List.mem_cons_of_mem _ hx)) t)
    obtain ⟨o1, o2, _⟩ := ok r (List.mem_cons_self ..)
    cases (h : Dp K H _ (.tuple [r.1.enc, r.2.enc])) with
    | tup hs ha =>
      cases ha with
      | cons h1 ha =>
      cases ha with
      | cons h2 ha =>
      cases ha
      exact .tup hs (.cons (GA_thing o1 h1) (.cons (GA_thing o2 h2) .nil))
theorem KdAll.kt {bad : List Addr} : ∀ {b : Bk} {vs : List V}, (∀ k ∈ b, NameOk k.n ∧ ∀ r ∈ k.rs, RuOk r) → KdAll K H bad vs b → KTAll K H vs (b.map Kd.kt)
  | [], _, _, .nil => .nil
  | k :: b, _, ok, .cons h t => by
    refine .cons ?_ (KdAll.kt (fun x hx => ok x (List.mem_cons_of_mem _ hx)) t)
    obtain ⟨t, l, zs, e0, h1, h2, h3, _⟩ := h
    obtain ⟨o1, o2⟩ := ok k (List.mem_cons_self ..)
    exact ⟨t, _, _, _, e0, h1, .str _ (name_short o1), rfl, l, zs, rfl, h2, rules_TgAll (zs := zs) o2 h3⟩
theorem RuFit_of {r : Ru} (h : RuOk r) : RuFit (Ru.enc r) := by
  obtain ⟨h1, h2, h3⟩ := h
  have d1 := within_deep r.1
  have d2 := within_deep r.2
  have e1 := r.1.encs_depth
  have e2 := r.2.encs_depth
  obtain ⟨w1, w2⟩ := wides_gr r.1
  obtain ⟨w3, w4⟩ := wides_gr r.2
  refine ⟨?_, ?_, fun a b e g hg => ?_⟩
  · show PyData.depth (.tuple [.tuple r.1.encs, .tuple r.2.encs]) ≤ 60
    simp only [PyData.depth, PyData.depthAll]; omega
  · show wide (.tuple [.tuple r.1.encs, .tuple r.2.encs]) ≤ 1000
    simp only [wide, wides, List.length_cons, List.length_nil]; omega
  · have e' : PyData.tuple [r.1.enc, r.2.enc] = .tuple [a, b] := e
    injection e' with e'
    injection e' with ea e'
    injection e' with eb _
    rcases hg with hg | hg
    · rw [← ea] at hg; rw [← Gr.enc_inj hg]; omega
    · rw [← eb] at hg; rw [← Gr.enc_inj hg]; omega
theorem KTFit_of {k : Kd} (h : k.rs.length ≤ 4 ∧ ∀ r ∈ k.rs, RuOk r) : KTFit k.kt := by
  intro ds e
  have e : some (k.rs.map Ru.enc) = some ds := e
  injection e with e
  subst e
  refine ⟨by rw [List.length_map]; omega, fun x hx => ?_⟩
  obtain ⟨r, hr, rfl⟩ := List.mem_map.mp hx
  exact RuFit_of (h.2 r hr)
end
/-! ## a dict comprehension -/
section
variable {J : It} {n : Nat} {G : Hp → Prop} {Y : Nat → Hp → V → Hp → Prop}
theorem dc_seq (w : Walk J n G Y) {g : TG} {tt : TT} {tk tv : TE} {vs : List Nat} {σ : L2.St} {H : Hp} {D : Addr} {Qd : Hp → Prop} (hD : H D = none) (hn : n < sizeLine) (R : Nat → List (Key × V) → Hp → Prop) (h0 : R 0 [] H) (hG : ∀ H2, SB [] H H2 → G H2)
    (st : ∀ i us H2 H3, SB [D] H2 H3 → R i us H2 → R i us H3)
    (turn : ∀ (Pv : Hp → Prop) i x H2 H' kvs, i < n → SB [] H H2 → Y i H2 x H' → R i kvs H2 → kvs.length ≤ i → (∀ k z H5, SB [] H2 H5 → R (i + 1) (putK kvs k z) H5 → ∃ kvs k', kV k = kV k' ∧ H5 D = some (.dK kvs) ∧ kvs.length < sizeLine ∧ Pv (upd H5 D (.dK (putK kvs k' z)))) →
      (∀ H4, SB [] H2 H4 → R (i + 1) kvs H4 → Pv H4) → g x (wipe σ vs) H' fun σ2 H3 => wipe σ2 vs = wipe σ vs ∧ tt σ2 H3 fun b H4 =>
        if b = true then tk σ2 H4 fun y H5 => tv σ2 H5 fun z H6 => ∃ kvs k, y = kV k ∧ H6 D = some (.dK kvs) ∧ kvs.length < sizeLine ∧ Pv (upd H6 D (.dK (putK kvs k z))) else Pv H4)
    (done : ∀ kvs H2, SB [] H H2 → H2 D = some (.dK kvs) → R n kvs H2 → kvs.length ≤ n → Qd H2) :
    ∃ W : Nat → Nat → Hp → Prop, (∃ m, W 0 m (upd H D (.dK []))) ∧ ∀ i m H, W i m H →
      (J.stop i H ∧ Qd H) ∨ (J.go i H ∧ ∃ Nx : Hp → Prop, (∀ H', Nx H' → ∃ m', m' < m ∧ W (i + 1) m' H') ∧ ∀ x H', J.yld i H x H' → g x (wipe σ vs) H' fun σ2 H2 => wipe σ2 vs = wipe σ vs ∧ tt σ2 H2 fun b H3 =>
        if b = true then tk σ2 H3 fun y H4 => tv σ2 H4 fun z H5 => ∃ kvs k, y = kV k ∧ H5 D = some (.dK kvs) ∧ kvs.length < sizeLine ∧ Nx (upd H5 D (.dK (putK kvs k z))) else Nx H3) := by
  refine lcG (body := fun Nx x H' => g x (wipe σ vs) H' fun σ2 H2 => wipe σ2 vs = wipe σ vs ∧ tt σ2 H2 fun b H3 =>
        if b = true then tk σ2 H3 fun y H4 => tv σ2 H4 fun z H5 => ∃ kvs k, y = kV k ∧ H5 D = some (.dK kvs) ∧ kvs.length < sizeLine ∧ Nx (upd H5 D (.dK (putK kvs k z))) else Nx H3) w (fun i H2 => SB [D] H H2 ∧ ∃ kvs, H2 D = some (.dK kvs) ∧ R i kvs H2 ∧ kvs.length ≤ i)
    ⟨SB.new hD _, [], upd_same, st _ _ _ _ (SB.new hD _) h0, Nat.le_refl _⟩ (fun i H2 _ h => hG H2 (h.1.drop hD)) (fun i x H2 H' hi h y => ?_) (fun H2 h => ?_)
  · obtain ⟨s2, kvs, hD2, hR, hl⟩ := h
    refine turn _ i x H2 H' kvs hi (s2.drop hD) y hR hl (fun k z H5 s5 r5 => ?_) (fun H4 s4 r4 => ⟨s2.trans s4.nil, kvs, s4.keep _ _ hD2 List.not_mem_nil, r4, by omega⟩)
    have hD5 := s5.keep _ _ hD2 List.not_mem_nil
    refine ⟨kvs, k, rfl, hD5, by omega, (s2.trans s5.nil).trans (SB.setD hD5 (by simp) _), _, upd_same, st _ _ _ _ (SB.setD hD5 (by simp) _) r5, ?_⟩
    have := length_putK kvs k z
    omega
  · obtain ⟨s2, kvs, hD2, hR, hl⟩ := h
    exact done kvs H2 (s2.drop hD) hD2 hR hl
end
theorem putK_new {kvs : List (Key × V)} {k : Key} {v : V} (h : ∀ p ∈ kvs, p.1 ≠ k) : putK kvs k v = kvs ++ [(k, v)] := by
  unfold putK
  rw [if_neg]
  intro z
  obtain ⟨p, hp, e⟩ := List.any_eq_true.mp z
  exact h p hp (of_decide_eq_true e)
theorem Bk.nodup_at {b : Bk} (nd : b.names.Nodup) {i : Nat} {k : Kd} (h : b[i]? = some k) : ∀ j ∈ b.take i, j.n ≠ k.n := by
  intro j hj e
  have e1 : b.names = (b.take i).map (·.n) ++ (b.drop i).map (·.n) := by rw [← List.map_append, List.take_append_drop]
  rw [e1] at nd
  exact (List.nodup_append.mp nd).2.2 j.n (List.mem_map.mpr ⟨j, hj, rfl⟩) k.n (List.mem_map.mpr ⟨k, List.mem_of_getElem? (i := 0) (by rw [List.getElem?_drop]; exact h), rfl⟩) e
theorem SB.setG {H : Hp} {p : Addr} {o : HO} {ps : List Addr} (h : H p = some o) (hp : p ∈ ps) (n1 : ∀ xs, o ≠ .tup xs) (n2 : ∀ u v, o ≠ .frz u v) (o' : HO) : SB ps H (upd H p o') := by
  refine ⟨fun b u e n => ?_, fun b u e => ?_, fun b v u e => ?_, fun b e => ?_⟩
  · rw [upd_ne (fun (z : b = p) => n (by rw [z]; exact hp))]; exact e
  · rw [upd_ne (fun (z : b = p) => by subst z; rw [h] at e; exact n1 _ (Option.some.inj e))]; exact e
  · rw [upd_ne (fun (z : b = p) => by subst z; rw [h] at e; exact n2 _ _ (Option.some.inj e))]; exact e
  · by_cases q : b = p
    · subst q; rw [upd_same] at e; cases e
    · rw [upd_ne q] at e; exact e
theorem rowKV_mem : ∀ {b : Bk} {us : List V} {p : Key × V}, p ∈ b.rowKV us → ∃ j ∈ b, p.1 = Sum.inr j.n
  | [], _, p, h => by cases h
  | k :: b, [], p, h => by cases h
  | k :: b, u :: us, p, h => by
    rcases List.mem_cons.mp (show p ∈ (Sum.inr k.n, u) :: Bk.rowKV b us from h) with h | h
    · exact ⟨k, List.mem_cons_self .., by rw [h]⟩
    · obtain ⟨j, hj, e⟩ := rowKV_mem h
      exact ⟨j, List.mem_cons_of_mem _ hj, e⟩
end FT
namespace FT
open PySem PySem.W PySem.Spec PyProof.Rows L2
/-! ## powers of great numbers -/
def CPowW (i j : Int) : Prop := 0 ≤ j ∧ j ≤ 1000 ∧ i.natAbs < 2 ^ 1000
theorem op_powW {X : Cx} : OpR X (binaryOp .Pow) (rI CPowW fun i j => .int (i ^ j.toNat)) := opI fun i j _ _ _ _ _ hc q => pow_int hc.1 (by
  obtain ⟨h0, h1, h2⟩ := hc
  have hb : Builtin.Int.intBits i ≤ 1000 := intBits_le h2
  have h3 : (Builtin.Int.intBits i : Int) * j ≤ 1000 * j := Int.mul_le_mul_of_nonneg_right (by omega) h0
  omega) q
/-! ## purses: a row of two numbers -/
def PuW (H : Hp) (p : Addr) : Prop := ∃ x y : Int, H p = some (.lst [.int x, .int y]) ∧ 0 ≤ x ∧ 0 ≤ y ∧ y < 2 ^ 62
theorem PuW.sb {H H' : Hp} {p : Addr} (h : PuW H p) (e : SB [] H H') : PuW H' p := by
  obtain ⟨x, y, h1, h2⟩ := h
  exact ⟨x, y, e.keep _ _ h1 List.not_mem_nil, h2⟩
theorem PuW.keep {H H' : Hp} {p : Addr} {ps : List Addr} (h : PuW H p) (e : SB ps H H') (n : p ∉ ps) : PuW H' p := by
  obtain ⟨x, y, h1, h2⟩ := h
  exact ⟨x, y, e.keep _ _ h1 n, h2⟩
theorem PuW.new {H : Hp} {p q : Addr} (h : PuW H p) (n : H q = none) {o : HO} : PuW (upd H q o) p := by
  obtain ⟨x, y, h1, h2⟩ := h
  exact ⟨x, y, by rw [upd_ne (ne_of_none h1 n)]; exact h1, h2⟩
theorem PuW.ne {H : Hp} {p q : Addr} (h : PuW H p) (n : H q = none) : p ≠ q := by
  obtain ⟨x, y, h1, h2⟩ := h
  exact ne_of_none h1 n
theorem PuW.lsts {H : Hp} {p : Addr} (h : PuW H p) : Lsts H [p] := by
  obtain ⟨x, y, h1, h2⟩ := h
  exact Lsts.one h1
def spCellAt (K : PySem.W.Frag) : Sp := fun vs H Q _ => ∃ (a : Addr) (ns : List Int) (k : Nat), vs = [.ref a, .int (k : Int)] ∧ SqL K H a (ns.map V.int) ∧ ns.length ≤ 63 ∧ k ≤ 1000 ∧ ∀ c : Int, Q (.int c) H
def spPurseW (K : PySem.W.Frag) : Sp := fun vs H Q _ => ∃ (a : Addr) (ns : List Int) (k : Nat), vs = [.ref a, .int (k : Int)] ∧ SqL K H a (ns.map V.int) ∧ ns.length ≤ 63 ∧ k ≤ 1000 ∧ ∀ p H', SB [] H H' → H p = none → PuW H' p → Q (.ref p) H'
def spTakeW : Sp := fun vs H Q _ => ∃ (p : Addr) (m : Int), vs = [.ref p, .int m] ∧ PuW H p ∧ 1 ≤ m ∧ m < 2 ^ 250 ∧ ∀ r H', 0 ≤ r → r < m → SB [p] H H' → PuW H' p → Q (.int r) H'
section
variable {K : PySem.W.Frag} {H : Hp} {p : Addr} {Q : VK} {σ : L2.St} {i j : Nat} {m : Int}
theorem take_w (hσ : σ[i]? = some (some (.ref p))) (hp : PuW H p) (h1 : 1 ≤ m) (h2 : m < 2 ^ 250) (k : ∀ r H', 0 ≤ r → r < m → SB [p] H H' → PuW H' p → Q (.int r) H') :
    tCall spTakeW [] E0 (tCons (tVar i) (tCons (tC (.int m)) tNil)) σ H Q := ⟨_, hσ, p, m, rfl, hp, h1, h2, k⟩
theorem take_wv (hσ : σ[i]? = some (some (.ref p))) (hj : σ[j]? = some (some (.int m))) (hp : PuW H p) (h1 : 1 ≤ m) (h2 : m < 2 ^ 250) (k : ∀ r H', 0 ≤ r → r < m → SB [p] H H' → PuW H' p → Q (.int r) H') :
    tCall spTakeW [] E0 (tCons (tVar i) (tCons (tVar j) tNil)) σ H Q := ⟨_, hσ, _, hj, p, m, rfl, hp, h1, h2, k⟩
end
/-! ## a comprehension that may change some rows -/
section
variable {J : It} {n : Nat} {G : Hp → Prop} {Y : Nat → Hp → V → Hp → Prop}
theorem lc_seqP (w : Walk J n G Y) (ps : List Addr) {g : TG} {tt : TT} {te : TE} {vs : List Nat} {σ : L2.St} {H : Hp} {D : Addr} {Qd : Hp → Prop} (hD : H D = none) (hps : ∀ q ∈ ps, H q ≠ none) (hn : n < sizeLine) (R : Nat → List V → Hp → Prop) (h0 : R 0 [] H) (hG : ∀ H2, SB ps H H2 → G H2)
    (st : ∀ i us H2 H3, SB [D] H2 H3 → R i us H2 → R i us H3)
    (turn : ∀ (Pv : Hp → Prop) i x H2 H' us, i < n → SB ps H H2 → Y i H2 x H' → R i us H2 → us.length ≤ i → (∀ y H5, SB ps H2 H5 → R (i + 1) (us ++ [y]) H5 → ∃ acc, H5 D = some (.lst acc) ∧ acc.length < sizeLine ∧ Pv (upd H5 D (.lst (acc ++ [y])))) →
      (∀ H4, SB ps H2 H4 → R (i + 1) us H4 → Pv H4) → g x (wipe σ vs) H' fun σ2 H3 => wipe σ2 vs = wipe σ vs ∧ tt σ2 H3 fun b H4 =>
        if b = true then te σ2 H4 fun y H5 => ∃ acc, H5 D = some (.lst acc) ∧ acc.length < sizeLine ∧ Pv (upd H5 D (.lst (acc ++ [y]))) else Pv H4)
    (done : ∀ us H2, SB ps H H2 → H2 D = some (.lst us) → R n us H2 → us.length ≤ n → Qd H2) :
    ∃ W : Nat → Nat → Hp → Prop, (∃ m, W 0 m (upd H D (.lst []))) ∧ ∀ i m H, W i m H →
      (J.stop i H ∧ Qd H) ∨ (J.go i H ∧ ∃ Nx : Hp → Prop, (∀ H', Nx H' → ∃ m', m' < m ∧ W (i + 1) m' H') ∧ ∀ x H', J.yld i H x H' → g x (wipe σ vs) H' fun σ2 H2 => wipe σ2 vs = wipe σ vs ∧ tt σ2 H2 fun b H3 =>
        if b = true then te σ2 H3 fun y H4 => ∃ acc, H4 D = some (.lst acc) ∧ acc.length < sizeLine ∧ Nx (upd H4 D (.lst (acc ++ [y]))) else Nx H3) := by
  have nD : D ∉ ps := fun z => hps D z hD
  have up : ∀ {H1 H2 : Hp}, SB ps H1 H2 → SB (D :: ps) H1 H2 := fun e => e.mono fun b hb => List.mem_cons_of_mem _ hb
  have up1 : ∀ {H1 H2 : Hp}, SB [D] H1 H2 → SB (D :: ps) H1 H2 := fun e => e.mono fun b hb => by rw [List.mem_singleton.mp hb]; exact List.mem_cons_self ..
  refine lc_it w (fun i H2 => SB (D :: ps) H H2 ∧ ∃ us, H2 D = some (.lst us) ∧ R i us H2 ∧ us.length ≤ i) ⟨SB.new hD _, [], upd_same, st _ _ _ _ (SB.new hD _) h0, Nat.le_refl _⟩ (fun i H2 _ h => hG H2 (h.1.drop hD)) (fun i x H2 H' hi h y => ?_) (fun H2 h => ?_)
  · obtain ⟨s2, us, hD2, hR, hl⟩ := h
    refine turn _ i x H2 H' us hi (s2.drop hD) y hR hl (fun y H5 s5 r5 => ?_) (fun H4 s4 r4 => ⟨s2.trans (up s4), us, s4.keep _ _ hD2 nD, r4, by omega⟩)
    have hD5 := s5.keep _ _ hD2 nD
    refine ⟨us, hD5, by omega, (s2.trans (up s5)).trans (SB.set hD5 (by simp) _), _, upd_same, st _ _ _ _ (SB.set hD5 (by simp) _) r5, ?_⟩
    rw [List.length_append, List.length_singleton]; omega
  · obtain ⟨s2, us, hD2, hR, hl⟩ := h
    exact done us H2 (s2.drop hD) hD2 hR hl
end
/-! ## a word of drawn letters -/
abbrev rJoinS (K : PySem.W.Frag) : V → List V → Hp → VK → Prop := fun x xs H Q => ∃ a p, ∃ ys : List Str, x = .str a ∧ xs = [.ref p] ∧ (SqL K H p (ys.map V.str) ∨ SqT K H p (ys.map V.str)) ∧ (ys.map (·.length)).sum + ys.length * a.length ≤ 16777216 ∧ Q (.str (Txt.join a ys)) H
theorem PuW.some {H : Hp} {p : Addr} (h : PuW H p) : ∀ q ∈ [p], H q ≠ none := fun q hq z => by
  obtain ⟨x, y, h1, _⟩ := h
  rw [List.mem_singleton.mp hq, h1] at z
  cases z
theorem join_w {K : PySem.W.Frag} {H : Hp} {p : Addr} {Q : VK} {σ : L2.St} {jP jL jV k : Nat} {wi : TI} (hk : k ≤ 1000) (h1 : ∀ x, ((wipe σ [jV]).set jV (some x))[jP]? = some (some (.ref p))) (h2 : ∀ x, ((wipe σ [jV]).set jV (some x))[jL]? = some (some (.str abc)))
    (h3 : ∀ x, wipe ((wipe σ [jV]).set jV (some x)) [jV] = wipe σ [jV]) (hwi : ∀ R : It → Hp → Prop, R (Itr 0 k) H → wi σ H R) (hp : PuW H p) (q : ∀ z H', SB [p] H H' → PuW H' p → Ltr z k → Q (.str z) H') :
    tM1 (rJoinS K) (tC (.str (Str.ofString ""))) (tLc wi (gName jV) tYes (tOp rIxS (tVar jL) (tCall spTakeW [] E0 (tCons (tVar jP) (tCons (tC (.int 26)) tNil)))) [jV]) σ H Q := by
  refine ⟨⟨_, rfl⟩, hwi _ fun D hD => ?_⟩
  have pD : p ≠ D := hp.ne hD
  have szl := sizeLine_eq
  refine lc_seqP walk_range [p] hD hp.some (by omega) (fun i us H2 => PuW H2 p ∧ ∃ cs : List Nat, us = cs.map (fun c => V.str ⟨#[c]⟩) ∧ cs.length = i ∧ ∀ c ∈ cs, 97 ≤ c ∧ c ≤ 122) ⟨hp, [], rfl, rfl, by simp⟩ (fun _ _ => trivial) (fun i us H2 H3 e ⟨a, b⟩ => ⟨a.keep e (by simpa using pD), b⟩) (fun Pv i x H2 H' us hi s2 y hR hl fin _ => ?_) (fun us H2 s2 hD2 hR hl => ?_)
  · obtain ⟨rfl, rfl⟩ := y
    obtain ⟨hp2, cs, rfl, cl, co⟩ := hR
    refine ⟨h3 _, _, h2 _, ?_⟩
    refine take_w (h1 _) hp2 (by decide) (by decide) fun r H3 r0 r26 s3 hp3 => ?_
    obtain ⟨n, rfl⟩ : ∃ n : Nat, r = (n : Int) := ⟨r.toNat, by omega⟩
    obtain ⟨c, hc, hco⟩ := abc_at n (by omega)
    refine ⟨_, _, c, rfl, rfl, abc_len, atI_natN hc, fin _ _ s3 ⟨hp3, cs ++ [c], by rw [List.map_append]; rfl, by simp [cl], fun d hd => ?_⟩⟩
    rcases List.mem_append.mp hd with hd | hd
    · exact co d hd
    · rw [List.mem_singleton.mp hd]; exact hco
  · obtain ⟨hp2, cs, rfl, cl, co⟩ := hR
    have e1 : (cs.map fun c => V.str ⟨#[c]⟩) = (cs.map fun c => (⟨#[c]⟩ : Str)).map V.str := by rw [List.map_map]; rfl
    rw [e1] at hD2
    refine ⟨_, D, cs.map fun c => ⟨#[c]⟩, rfl, rfl, .inl (SqL.of hD2), ?_, q _ _ s2 hp2 (by have := join_ltrs cs co; rw [cl] at this; exact this)⟩
    have : ∀ cs : List Nat, ((cs.map fun c => (⟨#[c]⟩ : Str)).map (·.length)).sum = cs.length := by
      intro cs
      induction cs with
      | nil => rfl
      | cons c r ih => rw [List.map_cons, List.map_cons, List.sum_cons, ih]; show 1 + r.length = r.length + 1; omega
    rw [this, List.length_map, cl]
    have : (Str.ofString "").length = 0 := by decide +kernel
    rw [this]; omega
/-- some names, unlike ones -/
def spWords (K : PySem.W.Frag) : Sp := fun vs H Q _ => ∃ (p : Addr) (m : Nat), vs = [.ref p, .int (m : Int)] ∧ PuW H p ∧ 1 ≤ m ∧ m ≤ 8 ∧ ∀ (n : Addr) (ks : List Str) (H' : Hp), SB [p] H H' → PuW H' p → H n = none → H' n = some (.lst (ks.map V.str)) → ks.length = m → (∀ k ∈ ks, NameOk k) → ks.Nodup → Q (.ref n) H'
theorem abc_code : ∀ r : Nat, r < 26 → abc.cps.toList[r]? = some (97 + r) := by
  have : ∀ r : Fin 26, abc.cps.toList[r.val]? = some (97 + r.val) := by decide +kernel
  intro r hr
  exact this ⟨r, hr⟩
theorem Ltr.mid {a b : Str} {n c : Nat} (ha : Ltr a n) : (a ++ ⟨#[c]⟩ ++ b).cps.toList[n]? = some c := by
  have e : (a ++ ⟨#[c]⟩ ++ b).cps.toList = a.cps.toList ++ (c :: b.cps.toList) := by show (a.cps ++ #[c] ++ b.cps).toList = _; simp
  rw [e, List.getElem?_append_right (by rw [ha.1]; exact Nat.le_refl _), ha.1, Nat.sub_self]
  rfl
theorem nodup_range {α : Type} {F : Nat → α} {m : Nat} (h : ∀ i j, i < m → j < m → i ≠ j → F i ≠ F j) : ((List.range m).map F).Nodup := by
  refine List.pairwise_map.mpr (List.Pairwise.imp_of_mem (fun {i j} hi hj hn => h i j (List.mem_range.mp hi) (List.mem_range.mp hj) hn) List.nodup_range)
theorem turn_inj {b t i j : Nat} (ht : t < 6) (hi : i < 8) (hj : j < 8) (e : (b + (1 + 2 * t) * i) % 26 = (b + (1 + 2 * t) * j) % 26) : i = j := by
  have : t = 0 ∨ t = 1 ∨ t = 2 ∨ t = 3 ∨ t = 4 ∨ t = 5 := by omega
  rcases this with rfl | rfl | rfl | rfl | rfl | rfl <;> omega
section
variable {D : Ends} {σ : L2.St} {H : Hp} {t u : TS} {te : TE} {g : TG} {c : TT}
theorem nextI {f : L2.St → Hp → Prop} {r : VK} {b c' : L2.St → Hp → Prop} (h : f σ H) : tNext ⟨f, r, b, c'⟩ σ H := h
theorem seqI (h : t { D with nx := u D } σ H) : tSeq t u D σ H := h
theorem asgI (h : te σ H fun x H1 => g x σ H1 D.nx) : tAsg te g D σ H := h
theorem ifI (h : c σ H fun b H1 => if b = true then t D σ H1 else u D σ H1) : tIfS c t u D σ H := h
theorem retI (h : te σ H D.rt) : tRet te D σ H := h
end
/-! ## rules drawn -/
def rwE (r : Nat × Str × Int) : PyData := .tuple [.int (r.1 : Int), .str r.2.1, .int r.2.2]
theorem noList_rwE (r : Nat × Str × Int) : noList (rwE r) = true := rfl
/-- how many stand inside i, at all depths -/
def cntTo (ws : List Nat) (c : Nat → Nat) (i j : Nat) : Nat := ((List.range j).map fun k => if ws.getD k 0 = i then 1 + c (k + 2) else 0).sum
def cnt (ws : List Nat) : Nat → Nat → Nat
  | 0, _ => 0
  | f + 1, i => cntTo ws (cnt ws f) i ws.length
theorem cntTo_succ (ws : List Nat) (c : Nat → Nat) (i j : Nat) : cntTo ws c i (j + 1) = cntTo ws c i j + if ws.getD j 0 = i then 1 + c (j + 2) else 0 := by
  unfold cntTo
  rw [List.range_succ, List.map_append, List.sum_append]
  simp
theorem cnt_all {ws : List Nat} (hl : ws.length ≤ 4) (hw : ∀ k w, ws[k]? = some w → w < 2 + k) : cnt ws 6 0 + cnt ws 6 1 ≤ 4 := by
  match ws, hl, hw with
  | [], _, _ => decide +kernel
  | [a], _, hw =>
    have h0 := hw 0 a rfl
    have : ∀ a : Fin 2, cnt [a.val] 6 0 + cnt [a.val] 6 1 ≤ 4 := by decide +kernel
    exact this ⟨a, by omega⟩
  | [a, b], _, hw =>
    have h0 := hw 0 a rfl
    have h1 := hw 1 b rfl
    have : ∀ (a : Fin 2) (b : Fin 3), cnt [a.val, b.val] 6 0 + cnt [a.val, b.val] 6 1 ≤ 4 := by decide +kernel
    exact this ⟨a, by omega⟩ ⟨b, by omega⟩
  | [a, b, c], _, hw =>
    have h0 := hw 0 a rfl
    have h1 := hw 1 b rfl
    have h2 := hw 2 c rfl
    have : ∀ (a : Fin 2) (b : Fin 3) (c : Fin 4), cnt [a.val, b.val, c.val] 6 0 + cnt [a.val, b.val, c.val] 6 1 ≤ 4 := by decide +kernel
    exact this ⟨a, by omega⟩ ⟨b, by omega⟩ ⟨c, by omega⟩
  | [a, b, c, d], _, hw =>
    have h0 := hw 0 a rfl
    have h1 := hw 1 b rfl
    have h2 := hw 2 c rfl
    have h3 := hw 3 d rfl
    have : ∀ (a : Fin 2) (b : Fin 3) (c : Fin 4) (d : Fin 5), cnt [a.val, b.val, c.val, d.val] 6 0 + cnt [a.val, b.val, c.val, d.val] 6 1 ≤ 4 := by decide +kernel
    exact this ⟨a, by omega⟩ ⟨b, by omega⟩ ⟨c, by omega⟩ ⟨d, by omega⟩
  | _ :: _ :: _ :: _ :: _ :: _, hl, _ => simp at hl
/-- sorted pairs of unlike trees are a grove -/
theorem srt_ok {C : Int} {bs : List (Tr × Int)} (nd : (bs.map (·.1)).Nodup) (h : ∀ p ∈ bs, NameOk p.1.1 ∧ p.1.2.Ok C ∧ 1 ≤ p.2 ∧ p.2 < C) : (Gr.ofPs (srtE Gr.pEnc bs)).Ok C := by
  rw [Gr.ok_ps]
  refine ⟨fun p hp => h p ((srtE_perm bs).mem_iff.mp hp), ?_⟩
  have h1 : (srtE Gr.pEnc bs).Pairwise (fun a b => dataLt (Gr.tEnc b.1) (Gr.tEnc a.1) = false) := srt_keys bs
  have h2 : ((srtE Gr.pEnc bs).map (·.1)).Nodup := (((srtE_perm bs).map _).nodup_iff).mpr nd
  have h3 : (srtE Gr.pEnc bs).Pairwise (fun a b => a.1 ≠ b.1) := List.pairwise_map.mp h2
  refine (List.pairwise_and_iff.mpr ⟨h1, h3⟩).imp fun {a b} ⟨x, y⟩ => ol_tri (enc := Gr.tEnc) (fun z => y z.symm) x
def RowOk (k : Nat) (r : Nat × Str × Int) : Prop := r.1 < 2 + k ∧ NameOk r.2.1 ∧ 1 ≤ r.2.2 ∧ r.2.2 ≤ 1000000000
def spHeap (K : PySem.W.Frag) (f : Nat) : Sp := fun vs H Q _ => ∃ (a : Addr) (xs : List V) (rs : List (Nat × Str × Int)) (i : Nat), vs = [.ref a, .int (i : Int)] ∧ SqL K H a xs ∧ Bears K H rwE xs rs ∧ rs.length ≤ 4 ∧ (∀ k r, rs[k]? = some r → RowOk k r) ∧ i ≤ rs.length + 1 ∧ rs.length + 2 ≤ i + f ∧ f ≤ 10 ∧
  ∀ (v : V) (g : Gr) (H' : Hp), SB [] H H' → GA K H' v g → g.Ok 1000000001 → g.parts ≤ cnt (rs.map (·.1)) f i → g.deep ≤ f → (∀ p ∈ g.within, p.1.1 ∈ rs.map (·.2.1)) → Q v H'
def spWay (K : PySem.W.Frag) : Sp := fun vs H Q _ => ∃ (p l : Addr) (ks : List Str), vs = [.ref p, .ref l] ∧ PuW H p ∧ H l = some (.lst (ks.map V.str)) ∧ l ≠ p ∧ ks.length ≤ 8 ∧ (∀ k ∈ ks, NameOk k) ∧
  ∀ (v : V) (r : Ru) (H' : Hp), SB [p] H H' → PuW H' p → Dp K H' v (Ru.enc r) → RuOk r → (∀ q ∈ Ru.within r, q.1.1 ∈ ks) → Q v H'
/-- a drawn book -/
def spKinds (K : PySem.W.Frag) : Sp := fun vs H Q _ => ∃ (a : Addr) (ns : List Int), vs = [.ref a] ∧ SqL K H a (ns.map V.int) ∧ ns.length ≤ 63 ∧
  ∀ (l : Addr) (xs : List V) (b : Bk) (H' : Hp), SB [] H H' → H l = none → H' l = some (.lst xs) → KdAll K H' [l] xs b → b.Ok → Q (.ref l) H'
theorem sum_from0 : ∀ {ns : List Int}, (∀ x ∈ ns, 0 ≤ x) → 0 ≤ ns.sum
  | [], _ => by simp
  | x :: r, h => by
    have h1 := h x (List.mem_cons_self ..)
    have h2 := sum_from0 fun y hy => h y (List.mem_cons_of_mem _ hy)
    rw [List.sum_cons]; omega
theorem tot_filter (c : Tr × Int → Bool) : ∀ bs : List (Tr × Int), Gr.tot (bs.filter c) ≤ Gr.tot bs
  | [] => Nat.le_refl _
  | p :: r => by
    have := tot_filter c r
    rw [List.filter_cons]
    split
    · simp only [Gr.tot]; omega
    · simp only [Gr.tot]; omega
/-! ## rows of texts as data -/
theorem names_shaped {zs : List Str} (h : ∀ z ∈ zs, NameOk z) : SeqAt.shaped (.list (zs.map .str)) = true := by
  have h1 : PyData.canLayAll0 (zs.map .str) = true := by
    induction zs with
    | nil => simp [PyData.canLayAll0]
    | cons z r ih =>
      rw [List.map_cons, PyData.canLayAll0, ih fun y hy => h y (List.mem_cons_of_mem _ hy)]
      simp [PyData.canLay0, Gr.strOk_name (h z (List.mem_cons_self ..))]
  have h2 : PyData.depthAll (zs.map .str) = 0 := by
    clear h1 h
    induction zs with
    | nil => simp [PyData.depthAll]
    | cons z r ih => rw [List.map_cons, PyData.depthAll, ih]; simp [PyData.depth]
  unfold SeqAt.shaped
  rw [PyData.canLay0, h1, Bool.true_and]
  exact decide_eq_true (by simp only [PyData.depth, h2]; omega)
theorem Dp_strs {K : PySem.W.Frag} {H : Hp} : ∀ zs : List Str, DpAll K H (zs.map V.str) (zs.map .str)
  | [] => .nil
  | z :: r => .cons (.str z) (Dp_strs r)
theorem eqv_nil (zs : List Str) : PyData.eqv (.list (zs.map .str)) (.list []) = decide (zs = []) := by
  cases zs with
  | nil => decide +kernel
  | cons z r => simp [PyData.eqv, PyData.eqvAll]
/-! ## taking out of a list -/
theorem erase_map {α β : Type} (f : α → β) : ∀ (l : List α) (i : Nat), (l.map f).eraseIdx i = (l.eraseIdx i).map f
  | [], _ => rfl
  | _ :: _, 0 => rfl
  | x :: r, i + 1 => by rw [List.map_cons, List.eraseIdx_cons_succ, List.eraseIdx_cons_succ, List.map_cons, erase_map f r i]
theorem idx_perm {α : Type} : ∀ {l : List α} {u : Nat} {x : α}, l[u]? = some x → (x :: l.eraseIdx u).Perm l
  | [], _, _, h => by simp at h
  | y :: r, 0, x, h => by
    have h : y = x := by simpa using h
    subst h; exact List.Perm.refl _
  | y :: r, u + 1, x, h => by
    have h : r[u]? = some x := by simpa using h
    rw [List.eraseIdx_cons_succ]
    exact (List.Perm.swap y x _).trans (List.Perm.cons y (idx_perm h))
/-- the first place of one that is in a list -/
theorem first_at {α : Type} [DecidableEq α] {x : α} : ∀ {l : List α}, x ∈ l → ∃ j : Nat, l[j]? = some x ∧ ∀ m z, m < j → l[m]? = some z → z ≠ x
  | [], h => by cases h
  | y :: r, h => by
    by_cases e : y = x
    · exact ⟨0, by simp [e], fun m z hm => by omega⟩
    · obtain ⟨j, h1, h2⟩ := first_at (l := r) (by rcases List.mem_cons.mp h with h | h; exact absurd h.symm e; exact h)
      refine ⟨j + 1, by simpa using h1, fun m z hm hz => ?_⟩
      cases m with
      | zero => simp at hz; subst hz; exact e
      | succ m => exact h2 m z (by omega) (by simpa using hz)
end FT
namespace FT
open PySem PySem.W PySem.Spec PyProof.Rows L2
/-! ## products -/
def fac : Nat → Nat
  | 0 => 1
  | n + 1 => (n + 1) * fac n
theorem fac_pos : ∀ n, 0 < fac n
  | 0 => by decide
  | n + 1 => Nat.mul_pos (by omega) (fac_pos n)
theorem fac_two : ∀ n a b, a + b = n → fac a * fac b ∣ fac n
  | 0, a, b, h => by
    have h1 : a = 0 := by omega
    have h2 : b = 0 := by omega
    subst h1 h2; exact ⟨1, rfl⟩
  | n + 1, a, b, h => by
    cases a with
    | zero => rw [show b = n + 1 by omega]; exact ⟨1, by simp [fac]⟩
    | succ a =>
      cases b with
      | zero => rw [show a + 1 = n + 1 by omega]; exact ⟨1, by simp [fac]⟩
      | succ b =>
        have h1 := fac_two n a (b + 1) (by omega)
        have h2 := fac_two n (a + 1) b (by omega)
        have e : fac (n + 1) = (a + 1) * fac n + (b + 1) * fac n := by
          rw [← Nat.add_mul, show a + 1 + (b + 1) = n + 1 by omega]; rfl
        rw [e]
        refine Nat.dvd_add ?_ ?_
        · rw [show fac (a + 1) * fac (b + 1) = (a + 1) * (fac a * fac (b + 1)) by rw [fac]; exact Nat.mul_assoc _ _ _]
          exact Nat.mul_dvd_mul (Nat.dvd_refl _) h1
        · rw [show fac (a + 1) * fac (b + 1) = (b + 1) * (fac (a + 1) * fac b) by rw [show fac (b + 1) = (b + 1) * fac b from rfl]; exact Nat.mul_left_comm _ _ _]
          exact Nat.mul_dvd_mul (Nat.dvd_refl _) h2
theorem fac_many (s : Nat) : ∀ m, fac s ^ m ∣ fac (m * s)
  | 0 => by simp [fac]
  | m + 1 => by
    rw [Nat.pow_succ]
    exact Nat.dvd_trans (Nat.mul_dvd_mul (fac_many s m) (Nat.dvd_refl _)) (fac_two _ _ _ (by rw [Nat.add_mul, Nat.one_mul]))
def prN : List Nat → Nat
  | [] => 1
  | x :: r => x * prN r
theorem prN_append : ∀ a b : List Nat, prN (a ++ b) = prN a * prN b
  | [], b => by simp [prN]
  | x :: r, b => by rw [List.cons_append, prN, prN, prN_append r b, Nat.mul_assoc]
theorem prN_rep (l : List Nat) : ∀ m, prN (List.replicate m l).flatten = prN l ^ m
  | 0 => rfl
  | m + 1 => by rw [List.replicate_succ, List.flatten_cons, prN_append, prN_rep l m, Nat.pow_succ, Nat.mul_comm]
theorem prN_pos : ∀ {l : List Nat}, (∀ x ∈ l, 1 ≤ x) → 0 < prN l
  | [], _ => by decide
  | x :: r, h => Nat.mul_pos (h x (List.mem_cons_self ..)) (prN_pos fun y hy => h y (List.mem_cons_of_mem _ hy))
theorem prN_lt {c : Nat} : ∀ {l : List Nat}, (∀ x ∈ l, x ≤ 2 ^ c) → prN l ≤ 2 ^ (c * l.length)
  | [], _ => by simp [prN]
  | x :: r, h => by
    have h1 := h x (List.mem_cons_self ..)
    have h2 := prN_lt fun y hy => h y (List.mem_cons_of_mem _ hy)
    rw [prN, List.length_cons, Nat.mul_add, Nat.mul_one, Nat.add_comm, Nat.pow_add]
    exact Nat.mul_le_mul h1 h2
theorem prN_range : ∀ n, prN ((List.range n).map (1 + ·)) = fac n
  | 0 => rfl
  | n + 1 => by rw [List.range_succ, List.map_append, prN_append, prN_range n]; simp [prN, fac, Nat.mul_comm, Nat.add_comm]
/-! ## the sizes of all trees -/
def Gr.szs : Gr → List Nat
  | .nil => []
  | .cons _ g m r => (List.replicate m.toNat ((1 + g.size).toNat :: g.szs)).flatten ++ r.szs
theorem flat_len {α : Type} (l : List α) (m : Nat) : (List.replicate m l).flatten.length = m * l.length := by simp
theorem Gr.szs_len {C : Int} : ∀ {g : Gr}, g.Ok C → ((g.szs.length : Nat) : Int) = g.size
  | .nil, _ => rfl
  | .cons k g m r, ⟨h0, h1, h2, h3, h4, _⟩ => by
    have e1 := Gr.szs_len h1
    have e2 := Gr.szs_len h4
    show (((List.replicate m.toNat ((1 + g.size).toNat :: g.szs)).flatten ++ r.szs).length : Int) = m * (1 + g.size) + r.size
    rw [List.length_append, flat_len, List.length_cons, Int.natCast_add, Int.natCast_mul, e2, Int.natCast_add, e1, Int.toNat_of_nonneg (by omega)]
    show m * (g.size + 1) + r.size = _
    rw [Int.add_comm g.size 1]
theorem Gr.szs_mem {C : Int} : ∀ {g : Gr}, g.Ok C → ∀ x ∈ g.szs, 1 ≤ x ∧ (x : Int) ≤ g.size
  | .nil, _, x, h => by cases h
  | .cons k g m r, ⟨h0, h1, h2, h3, h4, _⟩, x, h => by
    have e1 := Gr.szs_len h1
    have e2 := Gr.szs_len h4
    have hm : m * (1 + g.size) ≥ 1 * (1 + g.size) := Int.mul_le_mul_of_nonneg_right h2 (by omega)
    have es : (Gr.cons k g m r).size = m * (1 + g.size) + r.size := rfl
    rcases List.mem_append.mp h with h | h
    · obtain ⟨l, hl, hx⟩ := List.mem_flatten.mp h
      obtain ⟨_, rfl⟩ := List.mem_replicate.mp hl
      rcases List.mem_cons.mp hx with hx | hx
      · subst hx; rw [es]; omega
      · have := Gr.szs_mem h1 x hx
        rw [es]; omega
    · have := Gr.szs_mem h4 x h
      rw [es]; omega
theorem Gr.szs_dvd {C : Int} : ∀ {g : Gr}, g.Ok C → prN g.szs ∣ fac g.size.toNat
  | .nil, _ => ⟨1, rfl⟩
  | .cons k g m r, ⟨h0, h1, h2, h3, h4, _⟩ => by
    have e1 := Gr.szs_len h1
    have e2 := Gr.szs_len h4
    have d1 := Gr.szs_dvd h1
    have d2 := Gr.szs_dvd h4
    have en : (Gr.cons k g m r).size.toNat = m.toNat * (1 + g.size).toNat + r.size.toNat := by
      show (m * (1 + g.size) + r.size).toNat = _
      have : ((m.toNat * (1 + g.size).toNat : Nat) : Int) = m * (1 + g.size) := by rw [Int.natCast_mul, Int.toNat_of_nonneg (by omega), Int.toNat_of_nonneg (by omega)]
      omega
    rw [en]
    show prN ((List.replicate m.toNat ((1 + g.size).toNat :: g.szs)).flatten ++ r.szs) ∣ _
    rw [prN_append, prN_rep, prN]
    have et : (1 + g.size).toNat = g.size.toNat + 1 := by omega
    have d3 : (1 + g.size).toNat * prN g.szs ∣ fac (1 + g.size).toNat := by
      rw [et]; exact Nat.mul_dvd_mul (Nat.dvd_refl _) d1
    have d4 : ((1 + g.size).toNat * prN g.szs) ^ m.toNat ∣ fac (1 + g.size).toNat ^ m.toNat := by
      obtain ⟨c, hc⟩ := d3
      exact ⟨c ^ m.toNat, by rw [hc, Nat.mul_pow]⟩
    exact Nat.dvd_trans (Nat.mul_dvd_mul (Nat.dvd_trans d4 (fac_many _ _)) d2) (fac_two _ _ _ rfl)
end FT
namespace FT
open PySem PySem.W PySem.Spec PyProof.Rows L2
/-! ## a comprehension, the list so far known -/
section
variable {J : It} {n : Nat} {G : Hp → Prop} {Y : Nat → Hp → V → Hp → Prop}
theorem lc_seqQ (w : Walk J n G Y) (ps : List Addr) {g : TG} {tt : TT} {te : TE} {vs : List Nat} {σ : L2.St} {H : Hp} {D : Addr} {Qd : Hp → Prop} (hD : H D = none) (hps : ∀ q ∈ ps, H q ≠ none) (hn : n < sizeLine) (R : Nat → List V → Hp → Prop) (h0 : R 0 [] H) (hG : ∀ H2, SB ps H H2 → G H2)
    (st : ∀ i us H2 H3, SB [D] H2 H3 → R i us H2 → R i us H3)
    (turn : ∀ (Pv : Hp → Prop) i x H2 H' us, i < n → SB ps H H2 → Y i H2 x H' → R i us H2 → us.length ≤ i → H2 D = some (.lst us) → (∀ y H5, SB ps H2 H5 → R (i + 1) (us ++ [y]) H5 → ∃ acc, H5 D = some (.lst acc) ∧ acc.length < sizeLine ∧ Pv (upd H5 D (.lst (acc ++ [y])))) →
      (∀ H4, SB ps H2 H4 → R (i + 1) us H4 → Pv H4) → g x (wipe σ vs) H' fun σ2 H3 => wipe σ2 vs = wipe σ vs ∧ tt σ2 H3 fun b H4 =>
        if b = true then te σ2 H4 fun y H5 => ∃ acc, H5 D = some (.lst acc) ∧ acc.length < sizeLine ∧ Pv (upd H5 D (.lst (acc ++ [y]))) else Pv H4)
    (done : ∀ us H2, SB ps H H2 → H2 D = some (.lst us) → R n us H2 → us.length ≤ n → Qd H2) :
    ∃ W : Nat → Nat → Hp → Prop, (∃ m, W 0 m (upd H D (.lst []))) ∧ ∀ i m H, W i m H →
      (J.stop i H ∧ Qd H) ∨ (J.go i H ∧ ∃ Nx : Hp → Prop, (∀ H', Nx H' → ∃ m', m' < m ∧ W (i + 1) m' H') ∧ ∀ x H', J.yld i H x H' → g x (wipe σ vs) H' fun σ2 H2 => wipe σ2 vs = wipe σ vs ∧ tt σ2 H2 fun b H3 =>
        if b = true then te σ2 H3 fun y H4 => ∃ acc, H4 D = some (.lst acc) ∧ acc.length < sizeLine ∧ Nx (upd H4 D (.lst (acc ++ [y]))) else Nx H3) := by
  have nD : D ∉ ps := fun z => hps D z hD
  have up : ∀ {H1 H2 : Hp}, SB ps H1 H2 → SB (D :: ps) H1 H2 := fun e => e.mono fun b hb => List.mem_cons_of_mem _ hb
  have up1 : ∀ {H1 H2 : Hp}, SB [D] H1 H2 → SB (D :: ps) H1 H2 := fun e => e.mono fun b hb => by rw [List.mem_singleton.mp hb]; exact List.mem_cons_self ..
  refine lc_it w (fun i H2 => SB (D :: ps) H H2 ∧ ∃ us, H2 D = some (.lst us) ∧ R i us H2 ∧ us.length ≤ i) ⟨SB.new hD _, [], upd_same, st _ _ _ _ (SB.new hD _) h0, Nat.le_refl _⟩ (fun i H2 _ h => hG H2 (h.1.drop hD)) (fun i x H2 H' hi h y => ?_) (fun H2 h => ?_)
  · obtain ⟨s2, us, hD2, hR, hl⟩ := h
    refine turn _ i x H2 H' us hi (s2.drop hD) y hR hl hD2 (fun y H5 s5 r5 => ?_) (fun H4 s4 r4 => ⟨s2.trans (up s4), us, s4.keep _ _ hD2 nD, r4, by omega⟩)
    have hD5 := s5.keep _ _ hD2 nD
    refine ⟨us, hD5, by omega, (s2.trans (up s5)).trans (SB.set hD5 (by simp) _), _, upd_same, st _ _ _ _ (SB.set hD5 (by simp) _) r5, ?_⟩
    rw [List.length_append, List.length_singleton]; omega
  · obtain ⟨s2, us, hD2, hR, hl⟩ := h
    exact done us H2 (s2.drop hD) hD2 hR hl
end
/-! ## books as data -/
def Kd.dat (k : Kd) : PyData := .tuple [.str k.n, .bool k.w, .list (k.rs.map Ru.enc)]
section
variable {K : PySem.W.Frag} {H H' : Hp}
theorem Bears_dp {α : Type} {enc : α → PyData} : ∀ {vs : List V} {xs : List α}, Bears K H enc vs xs → DpAll K H vs (xs.map enc)
  | _, _, .nil => .nil
  | _, _, .cons h t => .cons h (Bears_dp t)
theorem KdAll.dp {bad : List Addr} : ∀ {vs : List V} {b : Bk}, KdAll K H bad vs b → DpAll K H vs (b.map Kd.dat)
  | _, _, .nil => .nil
  | _, _, .cons ⟨t, l, zs, e, h1, h2, h3, _⟩ r => by
    subst e
    exact .cons (.tup h1 (.cons (.str _) (.cons (.bl _) (.cons (.lst (SqL.of h2) (Bears_dp h3)) .nil)))) (KdAll.dp r)
theorem KdAll.bad {bad : List Addr} (hb : ∀ p ∈ bad, H p = none) : ∀ {vs : List V} {b : Bk}, KdAll K H [] vs b → KdAll K H bad vs b
  | _, _, .nil => .nil
  | _, _, .cons ⟨t, l, zs, e, h1, h2, h3, _⟩ r => .cons ⟨t, l, zs, e, h1, h2, h3, fun z => by rw [hb l z] at h2; cases h2⟩ (KdAll.bad hb r)
end
theorem plS_enc {C : Int} {g : Gr} (h : g.Ok C) : plS g.enc = true := by show plS (.tuple g.encs) = true; rw [plS]; exact Gr.plSs_encs h
theorem plS_ru {r : Ru} (h : RuOk r) : plS (Ru.enc r) = true := by
  show plS (.tuple [r.1.enc, r.2.enc]) = true
  rw [plS, plSs, plSs, plSs, plS_enc h.1, plS_enc h.2.1]; rfl
theorem plSs_of : ∀ {ds : List PyData}, (∀ d ∈ ds, plS d = true) → plSs ds = true
  | [], _ => rfl
  | d :: ds, h => by rw [plSs, h d (List.mem_cons_self ..), plSs_of fun x hx => h x (List.mem_cons_of_mem _ hx)]; rfl
theorem plSs_rus {rs : List Ru} (h : ∀ r ∈ rs, RuOk r) : plSs (rs.map Ru.enc) = true := plSs_of fun d hd => by
  obtain ⟨r, hr, rfl⟩ := List.mem_map.mp hd
  exact plS_ru (h r hr)
theorem plSs_names {ns : List Str} (h : ∀ n ∈ ns, NameOk n) : plSs (ns.map .str) = true := plSs_of fun d hd => by
  obtain ⟨r, hr, rfl⟩ := List.mem_map.mp hd
  rw [plS]; exact Gr.strOk_name (h r hr)
theorem depths_le {n : Nat} : ∀ {ds : List PyData}, (∀ d ∈ ds, d.depth ≤ n) → PyData.depthAll ds ≤ n
  | [], _ => by simp [PyData.depthAll]
  | d :: ds, h => by
    have h1 := h d (List.mem_cons_self ..)
    have h2 := depths_le fun x hx => h x (List.mem_cons_of_mem _ hx)
    rw [PyData.depthAll]; omega
theorem wides_le {n : Nat} : ∀ {ds : List PyData}, (∀ d ∈ ds, wide d ≤ n) → wides ds ≤ n
  | [], _ => by simp [wides]
  | d :: ds, h => by
    have h1 := h d (List.mem_cons_self ..)
    have h2 := wides_le fun x hx => h x (List.mem_cons_of_mem _ hx)
    rw [wides]; omega
theorem ru_depth {r : Ru} (h : RuOk r) : (Ru.enc r).depth ≤ 20 := by
  obtain ⟨h1, h2, h3⟩ := h
  have d1 := within_deep r.1
  have d2 := within_deep r.2
  have e1 := r.1.encs_depth
  have e2 := r.2.encs_depth
  show PyData.depth (.tuple [.tuple r.1.encs, .tuple r.2.encs]) ≤ 20
  simp only [PyData.depth, PyData.depthAll]; omega
mutual
theorem alike_pl : ∀ d : PyData, plS d = true → alike d d = true
  | .int _, _ => by simp [alike]
  | .str _, _ => by simp [alike]
  | .tuple ds, h => by rw [alike]; exact alikes_pl ds (by rw [plS] at h; exact h)
  | .none, h => by simp [plS] at h
  | .bool _, h => by simp [plS] at h
  | .list _, h => by simp [plS] at h
  | .dict _, h => by simp [plS] at h
theorem alikes_pl : ∀ ds : List PyData, plSs ds = true → alikeAll ds ds = true
  | [], _ => by simp [alikeAll]
  | d :: ds, h => by
    rw [plSs, Bool.and_eq_true] at h
    rw [alikeAll, alike_pl d h.1, alikes_pl ds h.2]; rfl
end
theorem alike_dats : ∀ {b : Bk}, (∀ k ∈ b, ∀ r ∈ k.rs, RuOk r) → alikeAll (b.map Kd.dat) (b.map Kd.dat) = true
  | [], _ => by simp [alikeAll]
  | k :: b, h => by
    have h1 := alikes_pl _ (plSs_rus (h k (List.mem_cons_self ..)))
    have h2 := alike_dats fun x hx => h x (List.mem_cons_of_mem _ hx)
    rw [List.map_cons, alikeAll, h2]
    simp [Kd.dat, alike, alikeAll, h1]
theorem dats_eq {b : Bk} (h : ∀ k ∈ b, ∀ r ∈ k.rs, RuOk r) : PyData.eqv (.list (b.map Kd.dat)) (.list (b.map Kd.dat)) = true := eqv_refl_alike _ (by rw [alike]; exact alike_dats h)
theorem lays_dats : ∀ {b : Bk}, (∀ k ∈ b, NameOk k.n ∧ ∀ r ∈ k.rs, RuOk r) → PyData.canLayAll0 (b.map Kd.dat) = true
  | [], _ => by simp [PyData.canLayAll0]
  | k :: b, h => by
    obtain ⟨h0, h1⟩ := h k (List.mem_cons_self ..)
    have h1 := plSs_lay _ (plSs_rus h1)
    have h2 := lays_dats fun x hx => h x (List.mem_cons_of_mem _ hx)
    rw [List.map_cons, PyData.canLayAll0, h2]
    simp [Kd.dat, PyData.canLay0, PyData.canLayAll0, h1, Gr.strOk_name h0]
theorem dats_shaped {b : Bk} (h : ∀ k ∈ b, NameOk k.n ∧ ∀ r ∈ k.rs, RuOk r) : SeqAt.shaped (.list (b.map Kd.dat)) = true := by
  unfold SeqAt.shaped
  rw [PyData.canLay0, lays_dats h, Bool.true_and]
  have : PyData.depthAll (b.map Kd.dat) ≤ 22 := depths_le fun d hd => by
    obtain ⟨k, hk, rfl⟩ := List.mem_map.mp hd
    have : PyData.depthAll (k.rs.map Ru.enc) ≤ 20 := depths_le fun d hd => by
      obtain ⟨r, hr, rfl⟩ := List.mem_map.mp hd
      exact ru_depth ((h k hk).2 r hr)
    show PyData.depth (.tuple [.str k.n, .bool k.w, .list (k.rs.map Ru.enc)]) ≤ 22
    simp only [PyData.depth, PyData.depthAll]; omega
  exact decide_eq_true (by simp only [PyData.depth]; omega)
/-! ## the same data -/
theorem shaped_pl {d : PyData} (h : plS d = true) (hd : d.depth ≤ 64) : SeqAt.shaped d = true := by
  unfold SeqAt.shaped
  rw [plS_lay d h, Bool.true_and]
  exact decide_eq_true hd
def spSame (K : PySem.W.Frag) (n : Nat) : Sp := fun vs H Q _ => ∃ (v u : V) (d : PyData), vs = [v, u] ∧ Dp K H v d ∧ Dp K H u d ∧ plS d = true ∧ d.depth < n ∧ wide d ≤ 1000 ∧ ∀ H', SB [] H H' → Q (.bl true) H'
def spTold21 (K : PySem.W.Frag) (C : Addr) : Sp := fun vs H Q _ => ∃ (v : V) (b : Bk) (l : Addr) (xs : List V), vs = [v, .ref l] ∧ BkA K C H v b ∧ H l = some (.lst xs) ∧ KdAll K H [] xs b ∧ b.Ok ∧ ∀ H', SB [] H H' → Q (.bl true) H'
end FT
namespace FT
open PySem PySem.W PySem.Spec PyProof.Rows L2
open TL (tl)
/-! ## texts of books -/
def Ru.text (r : Ru) : List Nat := [32, 62, 32] ++ (r.1.text ++ ([32, 47, 32] ++ r.2.text))
def Kd.mark (k : Kd) : List Nat := if k.w = true then [32, 42] else []
def Kd.text (k : Kd) : List Nat := tl k.n ++ (k.mark ++ (k.rs.map Ru.text).flatten)
def Bk.text (b : Bk) : List Nat := TL.joinL [59, 32] (b.map Kd.text)
theorem ok9 {g : Gr} (h : g.Ok 1000000001) : g.Ok (10 ^ 10) := Gr.Ok.mono (by decide) h
theorem ok500 {g : Gr} (h : g.Ok 1000000001) : g.Ok (10 ^ 500) := Gr.Ok.mono (by decide) h
theorem text_short {g : Gr} (h : g.Ok 1000000001) (hp : g.parts ≤ 4) : g.text.length ≤ 93 := by
  have := Gr.text_len (C := 10) (by decide) (ok9 h)
  omega
theorem ru_text_len {r : Ru} (h : RuOk r) : (Ru.text r).length ≤ 192 := by
  obtain ⟨h1, h2, h3⟩ := h
  have a1 := text_short h1 (by omega)
  have a2 := text_short h2 (by omega)
  show ([32, 62, 32] ++ (r.1.text ++ ([32, 47, 32] ++ r.2.text))).length ≤ 192
  simp only [List.length_append, List.length_cons, List.length_nil]; omega
theorem flat_le {n : Nat} : ∀ {ts : List (List Nat)}, (∀ t ∈ ts, t.length ≤ n) → ts.flatten.length ≤ n * ts.length
  | [], _ => by simp
  | t :: r, h => by
    have h1 := h t (List.mem_cons_self ..)
    have h2 := flat_le fun x hx => h x (List.mem_cons_of_mem _ hx)
    rw [List.flatten_cons, List.length_append, List.length_cons, Nat.mul_succ]; omega
theorem rus_text_len {rs : List Ru} (h : ∀ r ∈ rs, RuOk r) : (rs.map Ru.text).flatten.length ≤ 192 * rs.length := by
  have := flat_le (n := 192) (ts := rs.map Ru.text) fun t ht => by
    obtain ⟨r, hr, rfl⟩ := List.mem_map.mp ht
    exact ru_text_len (h r hr)
  rw [List.length_map] at this
  exact this
theorem kd_text_len {k : Kd} {ns : List Str} (h : KdOk ns k) : k.text.length ≤ 800 := by
  obtain ⟨h1, h2, h3⟩ := h
  have a1 := rus_text_len fun r hr => (h3 r hr).1
  have a2 : (tl k.n).length ≤ 8 := h1.2.1
  have a3 : k.mark.length ≤ 2 := by unfold Kd.mark; split <;> simp
  show (tl k.n ++ (k.mark ++ (k.rs.map Ru.text).flatten)).length ≤ 800
  simp only [List.length_append]; omega
theorem sum_len {n : Nat} : ∀ {zs : List Str} {ts : List (List Nat)}, zs.map tl = ts → (∀ t ∈ ts, t.length ≤ n) → (zs.map (·.length)).sum ≤ n * zs.length
  | [], _, _, _ => by simp
  | z :: r, ts, e, h => by
    subst e
    have h1 := h (tl z) (List.mem_cons_self ..)
    have h2 := sum_len (zs := r) rfl fun x hx => h x (List.mem_cons_of_mem _ hx)
    rw [List.map_cons, List.sum_cons, List.length_cons, Nat.mul_succ, TL.len_tl]; omega
theorem joinL_nil (ts : List (List Nat)) : TL.joinL [] ts = ts.flatten := by
  induction ts with
  | nil => rfl
  | cons t r ih =>
    cases r with
    | nil => simp [TL.joinL]
    | cons u s => rw [TL.joinL, ih]; simp
abbrev rCatS : V → V → Hp → VK → Prop := fun x y H Q => ∃ i j : Str, x = .str i ∧ y = .str j ∧ i.length + j.length ≤ sizeLine ∧ Q (.str (i ++ j)) H
abbrev rStrI : List V → Hp → VK → Prop := fun xs H Q => ∃ i : Int, xs = [.int i] ∧ i.natAbs.log2 < 1920 ∧ Q (.str (toString i)) H
theorem app_len (a b : Str) : (a ++ b).length = a.length + b.length := by rw [TL.len_tl, TL.tl_append, List.length_append, ← TL.len_tl, ← TL.len_tl]
theorem ptexts_len : ∀ (zs : List Str) (ps : List (Tr × Int)), zs.map tl = ps.map Gr.pText → (∀ p ∈ ps, NameOk p.1.1 ∧ p.1.2.Ok (10 ^ 500) ∧ 1 ≤ p.2 ∧ p.2 < 10 ^ 500 ∧ p.1.2.parts ≤ 1000) → (zs.map (·.length)).sum ≤ 515 * ps.length + 513 * Gr.tot ps := by
  intro zs
  induction zs with
  | nil => intro ps h _; cases ps with
                         | nil => simp
                         | cons _ _ => simp at h
  | cons z r ih =>
    intro ps h hps
    cases ps with
    | nil => simp at h
    | cons p s =>
      rw [List.map_cons, List.map_cons] at h
      injection h with h1 h2
      have e := ih s h2 fun q hq => hps q (List.mem_cons_of_mem _ hq)
      obtain ⟨a1, a2, a3, a4, a5⟩ := hps p (List.mem_cons_self ..)
      have pl := pText_len (t := p.1) (m := p.2) a1 a2 a5 a3 a4
      rw [List.map_cons, List.sum_cons, TL.len_tl, h1]
      show (Gr.pText (p.1, p.2)).length + _ ≤ 515 * (s.length + 1) + 513 * (1 + p.1.2.parts + Gr.tot s)
      omega
/-- a step, the rest behind it known by what it needs -/
theorem seq_via {t rest : TS} {D : Ends} {σ : L2.St} {H : Hp} (R : L2.St → Hp → Prop) (h : ∀ nx : L2.St → Hp → Prop, (∀ σ' H', R σ' H' → nx σ' H') → t { D with nx := nx } σ H) (k : ∀ σ' H', R σ' H' → rest D σ' H') : tSeq t rest D σ H := h (rest D) k
theorem nameI {i : Nat} {v : V} {σ : L2.St} {H : Hp} {f : L2.St → Hp → Prop} {r : VK} {b c : L2.St → Hp → Prop} (h : f (σ.set i (some v)) H) : gName i v σ H (Ends.mk f r b c).nx := h
def Kd.flip (k : Kd) : Kd := ⟨k.n, !k.w, k.rs.map Prod.swap⟩
theorem RuOk.swap {r : Ru} (h : RuOk r) : RuOk r.swap := ⟨h.2.1, h.1, by have := h.2.2; show r.2.parts + r.1.parts ≤ 4; omega⟩
theorem KdOk.flip {ns ns' : List Str} {k : Kd} (h : KdOk ns k) (hn : ∀ n ∈ ns, n ∈ ns') : KdOk ns' k.flip := by
  obtain ⟨h1, h2, h3⟩ := h
  refine ⟨h1, by show (k.rs.map Prod.swap).length ≤ 4; rw [List.length_map]; exact h2, fun r hr => ?_⟩
  obtain ⟨q, hq, rfl⟩ := List.mem_map.mp hr
  refine ⟨(h3 q hq).1.swap, fun p hp => hn _ ((h3 q hq).2 p ?_)⟩
  rcases List.mem_append.mp hp with hp | hp
  · exact List.mem_append_right _ hp
  · exact List.mem_append_left _ hp
theorem Bk.Ok.flip {b : Bk} (h : b.Ok) : Bk.Ok (b.reverse.map Kd.flip) := by
  have en : Bk.names (b.reverse.map Kd.flip) = b.names.reverse := by
    show (b.reverse.map Kd.flip).map (·.n) = (b.map (·.n)).reverse
    rw [List.map_map, List.map_reverse]; rfl
  refine ⟨by simpa using h.pos, by simpa using h.len, by rw [en]; exact (List.reverse_perm _).nodup_iff.mpr h.nd, fun k hk => ?_⟩
  rw [en]
  obtain ⟨j, hj, rfl⟩ := List.mem_map.mp hk
  exact (h.kd j (List.mem_reverse.mp hj)).flip fun n hn => List.mem_reverse.mpr hn
/-! ## Book(list(..)) -/
abbrev rListOf (K : PySem.W.Frag) : List V → Hp → VK → Prop := fun xs H Q => ∃ p ys, xs = [.ref p] ∧ (SqL K H p ys ∨ SqT K H p ys) ∧ ∀ l, H l = none → Q (.ref l) (upd H l (.lst ys))
theorem Bk.Ok.two {b : Bk} (ok : b.Ok) : ∀ k ∈ b, k.rs.length ≤ 4 ∧ ∀ r ∈ k.rs, RuOk r := fun k hk => ⟨(ok.kd k hk).2.1, fun r hr => ((ok.kd k hk).2.2 r hr).1⟩
theorem Bk.Ok.three {b : Bk} (ok : b.Ok) : ∀ k ∈ b, NameOk k.n ∧ ∀ r ∈ k.rs, RuOk r := fun k hk => ⟨(ok.kd k hk).1, (ok.two k hk).2⟩
theorem make_core {K : PySem.W.Frag} {C B : Addr} {b : Bk} {H : Hp} {l : Addr} {xs : List V} {bad : List Addr} {Q : VK} {E : XK} (hl : H l = some (.lst xs)) (ha : KdAll K H bad xs b) (ok : b.Ok) (k : ∀ y H', SB [] H H' → H y = none → BkA K C H' (.ref y) b → Q (.ref y) H') :
    ∀ y dx, H y = none → H dx = none → dx ≠ y → spBInit K C B (.ref y :: [.ref l]) (upd (upd H dx (.own y)) y (.ins C dx [])) (fun v H2 => v = .non ∧ Q (.ref y) H2) E := by
  intro y dx hy hdx hne
  have b8 := ok.len
  have hy' : upd H dx (.own y) y = none := by rw [upd_ne (fun z => hne z.symm)]; exact hy
  have t4 := (SB.new (ps := []) hdx (.own y)).trans (SB.new hy' (.ins C dx []))
  have hdx4 : upd (upd H dx (.own y)) y (.ins C dx []) dx = some (.own y) := by rw [upd_ne hne, upd_same]
  have hx4 : upd (upd H dx (.own y)) y (.ins C dx []) y = some (.ins C dx []) := upd_same
  refine ⟨y, dx, l, xs, b.map Kd.kt, rfl, hx4, hdx4, t4.keep _ _ hl List.not_mem_nil, (ha.sb t4 NoLst.nil).kt ok.three, fun t ht => ?_, by rw [List.length_map]; omega, fun b' e ok' H5 s5 hbk => ?_, fun z => absurd ⟨b, rfl, ok⟩ z⟩
  · obtain ⟨k, hk, rfl⟩ := List.mem_map.mp ht
    exact KTFit_of (ok.two k hk)
  · have e := kts_inj e
    subst e
    exact ⟨rfl, k y H5 (((t4.nil (ps := [y])).trans s5).drop hy) hy hbk⟩
theorem make_of {K : PySem.W.Frag} {C B : Addr} {b : Bk} {H : Hp} {l : Addr} {xs : List V} {bad : List Addr} {Q : VK} {E : L2.St → XK} {σ : L2.St} {i : Nat} (hσ : σ[i]? = some (some (.ref l))) (hl : H l = some (.lst xs)) (ha : KdAll K H bad xs b) (ok : b.Ok) (k : ∀ y H', SB [] H H' → H y = none → BkA K C H' (.ref y) b → Q (.ref y) H') :
    tMakeZ C (spBInit K C B) E (tCons (tCB (rListOf K) (tCons (tVar i) tNil)) tNil) σ H Q := by
  refine ⟨_, hσ, l, xs, rfl, .inl (SqL.of hl), fun A1 hA1 => ?_⟩
  have t1 := SB.new (ps := []) hA1 (.lst xs)
  exact make_core upd_same (ha.sb t1 NoLst.nil) ok fun y H' s' hy hb => k y H' (t1.trans s') (t1.dom _ hy) hb
def spShowRu (K : PySem.W.Frag) : Sp := fun vs H Q _ => ∃ (v : V) (r : Ru), vs = [v] ∧ Dp K H v (Ru.enc r) ∧ RuOk r ∧ ∀ (z : Str) (H' : Hp), SB [] H H' → tl z = Ru.text r → Q (.str z) H'
def spShowKd (K : PySem.W.Frag) (C : Addr) : Sp := fun vs H Q _ => ∃ (v : V) (b : Bk) (k : Kd), vs = [v, .str k.n] ∧ BkA K C H v b ∧ k ∈ b ∧ b.Ok ∧ ∀ (z : Str) (H' : Hp), SB [] H H' → tl z = k.text → Q (.str z) H'
def spShowBk (K : PySem.W.Frag) (C : Addr) : Sp := fun vs H Q _ => ∃ (v : V) (b : Bk), vs = [v] ∧ BkA K C H v b ∧ b.Ok ∧ ∀ (z : Str) (H' : Hp), SB [] H H' → tl z = b.text → Q (.str z) H'
def spLine (K : PySem.W.Frag) (n : Nat) : Sp := fun vs H Q _ => ∃ (v : V) (g : Gr), vs = [v] ∧ GA K H v g ∧ g.deep < n ∧ g.deep ≤ 19 ∧ g.Ok (10 ^ 500) ∧ g.parts ≤ 1000 ∧ ∀ (z : Str) (H' : Hp), SB [] H H' → tl z = g.text → Q (.str z) H'
def spTextBk (K : PySem.W.Frag) : Sp := fun vs H Q _ => ∃ (l : Addr) (xs : List V) (b : Bk), vs = [.ref l] ∧ H l = some (.lst xs) ∧ KdAll K H [] xs b ∧ b.Ok ∧ ∀ (z : Str) (H' : Hp), SB [] H H' → tl z = b.text → Q (.str z) H'
def spGood27 (K : PySem.W.Frag) (C : Addr) : Sp := fun vs H Q _ => ∃ (v : V) (b : Bk) (l : Addr) (xs : List V), vs = [v, .ref l] ∧ BkA K C H v b ∧ H l = some (.lst xs) ∧ KdAll K H [] xs b ∧ b.Ok ∧ ∀ H', SB [] H H' → Q (.bl true) H'
end FT
namespace FT
open PySem PySem.W PySem.Spec PyProof.Rows L2
theorem iop_mulW {X : Cx} : PIp X .Mult (rI CMulW fun i j => .int (i * j)) := (opI fun _ _ _ _ _ _ _ hc q => imul_int q hc.ok : OpR X (inplaceOp .Mult) (rI CMulW fun i j => .int (i * j)))
def nV (l : List Nat) : List V := l.map fun n : Nat => V.int (n : Int)
theorem nV_length (l : List Nat) : (nV l).length = l.length := List.length_map ..
theorem nV_append (a b : List Nat) : nV (a ++ b) = nV a ++ nV b := List.map_append ..
theorem nV_get {l : List Nat} {i : Nat} {v : V} (h : (nV l)[i]? = some v) : ∃ n : Nat, l[i]? = some n ∧ v = .int (n : Int) := by
  unfold nV at h
  rw [List.getElem?_map] at h
  cases e : l[i]? with
  | none => rw [e] at h; cases h
  | some n => rw [e] at h; cases h; exact ⟨n, rfl, rfl⟩
theorem prN_step {l : List Nat} {i n : Nat} (h : l[i]? = some n) : prN (l.take (i + 1)) = prN (l.take i) * n := by
  rw [List.take_add_one, h, prN_append]
  simp [prN]
theorem fac_le {i n : Nat} (h : i ≤ n) : fac i ∣ fac n := Nat.dvd_trans ⟨fac (n - i), rfl⟩ (fac_two n i (n - i) (by omega))
theorem prN_take {c : Nat} {l : List Nat} (h : ∀ x ∈ l, x ≤ 2 ^ c) (i : Nat) : prN (l.take i) ≤ 2 ^ (c * l.length) := by
  have h1 := prN_lt (c := c) (l := l.take i) fun x hx => h x (List.mem_of_mem_take hx)
  refine Nat.le_trans h1 (Nat.pow_le_pow_right (by decide) (Nat.mul_le_mul_left _ ?_))
  rw [List.length_take]; omega
theorem fac_lt {n : Nat} (h : n ≤ 400) : fac n ≤ 2 ^ 3600 := by
  rw [← prN_range]
  have := prN_lt (c := 9) (l := (List.range n).map (1 + ·)) fun x hx => by
    obtain ⟨i, hi, rfl⟩ := List.mem_map.mp hx
    have := List.mem_range.mp hi
    have : (2 : Nat) ^ 9 = 512 := by decide
    omega
  refine Nat.le_trans this (Nat.pow_le_pow_right (by decide) ?_)
  rw [List.length_map, List.length_range]; omega
theorem nat_lt2 {x a : Nat} (h : x ≤ 2 ^ a) : ((x : Int)).natAbs < 2 ^ (a + 1) := by
  rw [Int.natAbs_natCast]
  have : 0 < 2 ^ a := Nat.pow_pos (by decide)
  have := Nat.pow_succ 2 a
  omega
theorem log_lt {x : Int} {a b : Nat} (h : x.natAbs < 2 ^ a) (hb : a ≤ b) (h0 : 0 < a) : x.natAbs.log2 < b := by
  by_cases e : x.natAbs = 0
  · rw [e]; simp [Nat.log2_zero]; omega
  · exact Nat.lt_of_lt_of_le ((Nat.log2_lt e).mpr h) hb
def spProd (K : PySem.W.Frag) : Sp := fun vs H Q _ => ∃ (l : Addr) (ns : List Nat), vs = [.ref l] ∧ SqL K H l (nV ns) ∧ ns.length ≤ 400 ∧ (∀ n ∈ ns, n ≤ 2 ^ 9) ∧ ∀ H', SB [] H H' → Q (.int ((prN ns : Nat) : Int)) H'
def spSizesW (K : PySem.W.Frag) (n : Nat) : Sp := fun vs H Q _ => ∃ (v : V) (g : Gr), vs = [v] ∧ GA K H v g ∧ g.deep < n ∧ g.deep < 20 ∧ g.parts ≤ 1000 ∧ g.Ok (2 ^ 199) ∧ g.size ≤ 400 ∧ ∀ (l : Addr) (H' : Hp), SB [] H H' → H l = none → H' l = some (.lst (nV g.szs)) → Q (.ref l) H'
def spOrders (K : PySem.W.Frag) (C : Addr) : Sp := fun vs H Q E => ∃ (v : V) (g : Gr), vs = [v] ∧ GA K H v g ∧ g.deep < 20 ∧ g.parts ≤ 1000 ∧ g.Ok (2 ^ 199) ∧ (g.size ≤ 400 → ∀ H', SB [] H H' → Q (.int ((fac g.size.toNat / prN g.szs : Nat) : Int)) H') ∧ (400 < g.size → ∀ H', SB [] H H' → E (.ref C) none H')
def spSize68 (K : PySem.W.Frag) (n : Nat) : Sp := fun vs H Q _ => ∃ (v : V) (g : Gr), vs = [v] ∧ GA K H v g ∧ g.deep < n ∧ g.parts ≤ 1000 ∧ g.Ok (2 ^ 199) ∧ ∀ H', SB [] H H' → Q (.int g.size) H'
def spSizes68 (K : PySem.W.Frag) (n : Nat) : Sp := spSizesW K n
def spRef68 (K : PySem.W.Frag) : Sp := fun vs H Q _ => ∃ (v : V) (g : Gr), vs = [v] ∧ GA K H v g ∧ g.deep < 20 ∧ g.parts ≤ 1000 ∧ g.Ok (2 ^ 199) ∧ 400 < g.size ∧ ∀ H', SB [] H H' → Q (.bl true) H'
def spRight68 (K : PySem.W.Frag) : Sp := fun vs H Q _ => ∃ (v : V) (g : Gr), vs = [v] ∧ GA K H v g ∧ g.deep < 20 ∧ g.parts ≤ 1000 ∧ g.Ok (2 ^ 199) ∧ ∀ H', SB [] H H' → Q (.bl true) H'
theorem Gr.size_psT (ps : List (Tr × Int)) (p : Tr × Int) : ((ps ++ [p]).map fun p : Tr × Int => p.2 * (1 + p.1.2.size)).sum = (ps.map fun p : Tr × Int => p.2 * (1 + p.1.2.size)).sum + p.2 * (1 + p.1.2.size) := by simp
theorem allE_size : ∀ (ps : List (Tr × Int)), (∀ p ∈ ps, 1 ≤ p.2 ∧ 0 ≤ p.1.2.size) → allE ps ≤ (ps.map fun p : Tr × Int => p.2 * (1 + p.1.2.size)).sum
  | [], _ => by simp [allE]
  | p :: r, h => by
    have h1 := h p (List.mem_cons_self ..)
    have h2 := allE_size r fun x hx => h x (List.mem_cons_of_mem _ hx)
    have h3 : p.2 * (1 + p.1.2.size) ≥ p.2 * 1 := Int.mul_le_mul_of_nonneg_left (by omega) (by omega)
    rw [List.map_cons, List.sum_cons, allE]; omega
/-- the sizes by the pairs -/
def szP (p : Tr × Int) : List Nat := (List.replicate p.2.toNat ((1 + p.1.2.size).toNat :: p.1.2.szs)).flatten
theorem Gr.szs_ps : ∀ g : Gr, g.szs = (g.ps.map szP).flatten
  | .nil => rfl
  | .cons k g m r => by
    show (List.replicate m.toNat ((1 + g.size).toNat :: g.szs)).flatten ++ r.szs = szP ((k, g), m) ++ (r.ps.map szP).flatten
    rw [Gr.szs_ps r]; rfl
end FT
namespace FT
open PySem PySem.W PySem.Spec PyProof.Rows L2
open TL (tl)
/-! ## cutting at a separator whose second sign is not within -/
theorem pre_no {a b : Nat} {S : List Nat} : ∀ {l : List Nat}, l[1]? ≠ some b → TL.pre (a :: b :: S) l = false
  | [], _ => rfl
  | [x], _ => by simp [TL.pre]
  | x :: y :: r, h => by
    have h : y ≠ b := fun z => h (by rw [z]; rfl)
    simp [TL.pre, h]
section
variable {a b : Nat} {S p : List Nat}
theorem spl_two (hb : b ∉ p) (hab : a ≠ b) (q : List Nat) : TL.spl (a :: b :: S) 0 [] (p ++ ((a :: b :: S) ++ q)) = p :: TL.spl (a :: b :: S) 0 [] q := by
  have e := TL.spl_part (S := a :: b :: S) (p := p) (rest := q) (acc := []) (by simp) fun i hi => pre_no (by
    rw [List.getElem?_drop]
    by_cases h : i + 1 < p.length
    · rw [List.getElem?_append_left h, List.getElem?_eq_getElem h]
      exact fun z => hb (by injection z with z; rw [← z]; exact List.getElem_mem h)
    · rw [List.getElem?_append_right (by omega), show i + 1 - p.length = 0 by omega]
      exact fun z => hab (by injection z))
  rw [List.nil_append] at e
  exact e
theorem spl_end (hb : b ∉ p) : TL.spl (a :: b :: S) 0 [] p = [p] := by
  have e := TL.spl_last (S := a :: b :: S) (p := p) (acc := []) fun i hi => pre_no (by
    rw [List.getElem?_drop]
    by_cases h : i + 1 < p.length
    · rw [List.getElem?_eq_getElem h]
      exact fun z => hb (by injection z with z; rw [← z]; exact List.getElem_mem h)
    · rw [List.getElem?_eq_none (by omega)]
      exact fun z => nomatch z)
  rw [List.nil_append] at e
  exact e
theorem spl_cut (hab : a ≠ b) : ∀ {ps : List (List Nat)}, ps ≠ [] → (∀ p ∈ ps, b ∉ p) → TL.spl (a :: b :: S) 0 [] (TL.joinL (a :: b :: S) ps) = ps
  | [], h, _ => absurd rfl h
  | [p], _, h => spl_end (h p (List.mem_cons_self ..))
  | p :: q :: r, _, h => by
    have e : TL.joinL (a :: b :: S) (p :: q :: r) = p ++ ((a :: b :: S) ++ TL.joinL (a :: b :: S) (q :: r)) := rfl
    rw [e, spl_two (h p (List.mem_cons_self ..)) hab, spl_cut hab (by simp) fun x hx => h x (List.mem_cons_of_mem _ hx)]
end
/-! ## the signs of a grove's text -/
def gch (c : Nat) : Prop := c = 32 ∨ c = 44 ∨ c = 45 ∨ (48 ≤ c ∧ c ≤ 57) ∨ (97 ≤ c ∧ c ≤ 123) ∨ c = 125
theorem num_gch (m : Int) : ∀ c ∈ numT m, gch c := by
  unfold numT
  split
  · simp
  · intro c hc
    rcases List.mem_append.mp hc with h | h
    · have := TL.numL_digits m.toNat c h
      unfold gch; omega
    · have : c = 32 := by simpa using h
      unfold gch; omega
theorem name_gch {k : Str} (h : NameOk k) : ∀ c ∈ tl k, gch c := fun c hc => by
  have := h.2.2 c hc
  unfold gch; omega
theorem body_gch {C : Int} : ∀ {g : Gr}, g.Ok C → ∀ c ∈ g.body, gch c
  | .nil, _, c, h => by cases h
  | .cons k g m r, ⟨h0, h1, _, _, h4, _⟩, c, h => by
    rw [Gr.body_cons] at h
    rcases List.mem_append.mp h with h | h
    · exact num_gch m c h
    rcases List.mem_append.mp h with h | h
    · exact name_gch h0 c h
    rcases List.mem_append.mp h with h | h
    · unfold Gr.held at h
      split at h
      · cases h
      · rcases List.mem_cons.mp h with h | h
        · unfold gch; omega
        rcases List.mem_append.mp h with h | h
        · exact body_gch h1 c h
        · have : c = 125 := by simpa using h
          unfold gch; omega
    · unfold Gr.more at h
      split at h
      · cases h
      · rcases List.mem_cons.mp h with h | h
        · unfold gch; omega
        rcases List.mem_cons.mp h with h | h
        · unfold gch; omega
        · exact body_gch h4 c h
theorem text_gch {C : Int} {g : Gr} (h : g.Ok C) : ∀ c ∈ g.text, gch c := by
  intro c hc
  unfold Gr.text at hc
  split at hc
  · have : c = 45 := by simpa using hc
    unfold gch; omega
  · exact body_gch h c hc
def Ru.tail (r : Ru) : List Nat := r.1.text ++ ([32, 47, 32] ++ r.2.text)
def Kd.head (k : Kd) : List Nat := tl k.n ++ k.mark
theorem joinL_flat (s h : List Nat) : ∀ ts : List (List Nat), TL.joinL s (h :: ts) = h ++ (ts.map (s ++ ·)).flatten
  | [] => by simp [TL.joinL]
  | t :: r => by rw [TL.joinL, joinL_flat s t r]; simp
theorem kd_join (k : Kd) : k.text = TL.joinL [32, 62, 32] (k.head :: k.rs.map Ru.tail) := by
  rw [joinL_flat, List.map_map]
  show tl k.n ++ (k.mark ++ (k.rs.map Ru.text).flatten) = (tl k.n ++ k.mark) ++ (k.rs.map Ru.text).flatten
  simp
theorem tail_no {r : Ru} (h : RuOk r) : 62 ∉ Ru.tail r ∧ 59 ∉ Ru.tail r := by
  obtain ⟨h1, h2, _⟩ := h
  have a1 := text_gch h1
  have a2 := text_gch h2
  constructor <;> intro z <;> rcases List.mem_append.mp z with z | z
  · have := a1 _ z; unfold gch at this; omega
  · rcases List.mem_append.mp z with z | z
    · simp at z
    · have := a2 _ z; unfold gch at this; omega
  · have := a1 _ z; unfold gch at this; omega
  · rcases List.mem_append.mp z with z | z
    · simp at z
    · have := a2 _ z; unfold gch at this; omega
theorem mark_mem (k : Kd) : ∀ c ∈ k.mark, c = 32 ∨ c = 42 := by
  unfold Kd.mark
  split <;> simp
theorem head_no {k : Kd} (h : NameOk k.n) : 62 ∉ k.head ∧ 59 ∉ k.head := by
  constructor <;> intro z <;> rcases List.mem_append.mp z with z | z
  · have := h.2.2 _ z; omega
  · have := mark_mem k _ z; omega
  · have := h.2.2 _ z; omega
  · have := mark_mem k _ z; omega
theorem kd_no {ns : List Str} {k : Kd} (h : KdOk ns k) : 59 ∉ k.text := by
  obtain ⟨h1, h2, h3⟩ := h
  intro z
  rcases List.mem_append.mp z with z | z
  · have := h1.2.2 _ z; omega
  rcases List.mem_append.mp z with z | z
  · have := mark_mem k _ z; omega
  obtain ⟨t, ht, hz⟩ := List.mem_flatten.mp z
  obtain ⟨r, hr, rfl⟩ := List.mem_map.mp ht
  have e : Ru.text r = [32, 62, 32] ++ Ru.tail r := rfl
  rw [e] at hz
  rcases List.mem_append.mp hz with hz | hz
  · simp at hz
  · exact (tail_no (h3 r hr).1).2 hz
/-! ## what split gives -/
theorem split_at {x y : Str} {s t : Nat} {S : List Nat} {ps : List (List Nat)} (ey : tl y = s :: t :: S) (hk : y.cps.all (· < 256) = true) (hst : s ≠ t) (ex : tl x = TL.joinL (s :: t :: S) ps) (hp : ps ≠ []) (hn : ∀ p ∈ ps, t ∉ p) : (Txt.split x y).map tl = ps := by
  rw [TL.split_spl x y (by rw [ey]; simp) (TL.kind_ok hk), ey, ex, spl_cut hst hp hn]
theorem split_at1 {x y : Str} {s : Nat} {S : List Nat} {ps : List (List Nat)} (ey : tl y = s :: S) (hk : y.cps.all (· < 256) = true) (ex : tl x = TL.joinL (s :: S) ps) (hp : ps ≠ []) (hn : ∀ p ∈ ps, s ∉ p) : (Txt.split x y).map tl = ps := by
  rw [TL.split_spl x y (by rw [ey]; simp) (TL.kind_ok hk), ey, ex, TL.spl_join hp hn]
theorem str_ext {x y : Str} (h : tl x = tl y) : x = y := by
  have hc : x.cps = y.cps := Array.toList_inj.mp h
  cases x; cases y; cases hc; rfl
theorem head_ends {k : Kd} (h : NameOk k.n) {z : Str} (hz : tl z = k.head) : Txt.endswith z (Str.ofString " *") = k.w := by
  have e2 : (Str.ofString " *").length = 2 := by decide +kernel
  have et : (Str.ofString " *").cps.toList = [32, 42] := by decide +kernel
  unfold Txt.endswith
  rw [PySem.StrLaws.subAt_eq, e2, et]
  have hl : z.length = (tl k.n).length + k.mark.length := by rw [TL.len_tl, hz]; exact List.length_append ..
  show (decide (0 + 2 ≤ z.length) && ((tl z).drop (z.length - 2)).take 2 == [32, 42]) = k.w
  rw [hz]
  cases hw : k.w with
  | true =>
    have em : k.mark = [32, 42] := by unfold Kd.mark; rw [if_pos hw]
    rw [em] at hl
    simp only [List.length_cons, List.length_nil] at hl
    have : k.head.drop (z.length - 2) = [32, 42] := by
      unfold Kd.head
      rw [em, hl, show (tl k.n).length + (0 + 1 + 1) - 2 = (tl k.n).length by omega, List.drop_left]
    rw [this, decide_eq_true (by omega)]; decide
  | false =>
    have em : k.mark = [] := by unfold Kd.mark; rw [if_neg (by rw [hw]; decide)]
    have eh : k.head = tl k.n := by unfold Kd.head; rw [em, List.append_nil]
    rw [eh]
    have : (((tl k.n).drop (z.length - 2)).take 2 == [32, 42]) = false := by
      rw [beq_eq_false_iff_ne]
      intro e
      have m : 32 ∈ ((tl k.n).drop (z.length - 2)).take 2 := by rw [e]; simp
      have := h.2.2 32 (List.mem_of_mem_drop (List.mem_of_mem_take m))
      omega
    rw [this, Bool.and_false]
theorem cut_back (z : Str) (n : Nat) (h : n ≤ z.length) (h0 : 0 < n) : tl (cutS z none (some (-(n : Int)))) = (tl z).take (z.length - n) := by
  show (cutS z none (some (-(n : Int)))).cps.toList = _
  unfold cutS
  have e1 : HT.sIx z.length 0 none = 0 := rfl
  have e2 : HT.sIx z.length z.length (some (-(n : Int))) = z.length - n := by
    show (if -(n : Int) < 0 then (-(n : Int) + (z.length : Int)).toNat else min (-(n : Int)).toNat z.length) = z.length - n
    rw [if_pos (by omega)]; omega
  rw [e1, e2]
  show ((tl z).drop 0).take (z.length - n - 0) = _
  rw [List.drop_zero, Nat.sub_zero]
theorem Shows.inj {z : Str} {g k : Gr} (h : Shows z g) (h' : Shows z k) : k = g := by
  by_cases e : g = .nil
  · subst e
    exact text_dash h'.ok (by rw [← h'.tx, h.tx]; rfl)
  · by_cases e' : k = .nil
    · subst e'
      exact absurd (text_dash h.ok (by rw [← h.tx, h'.tx]; rfl)) e
    · have a := h.read e
      have b := h'.read e'
      rw [a] at b
      injection b with b
      injection b with b _
      rw [← Gr.ofPs_ps k, ← Gr.ofPs_ps g, b]
theorem shows_ru {z : Str} {g : Gr} (h : g.Ok 1000000001) (hp : g.parts ≤ 4) (e : tl z = g.text) : Shows z g := ⟨e, Gr.Ok.mono (by decide) h, by omega, by have := within_deep g; omega⟩
abbrev rSplit : V → List V → Hp → VK → Prop := fun x xs H Q => ∃ a b : Str, x = .str a ∧ xs = [.str b] ∧ (b.length == 0) = false ∧ a.length + 2 ≤ sizeLine ∧ rNewStrs (Txt.split a b) H Q
/-! ## isinstance of an own class -/
structure InsC (K : PySem.W.Frag) (mg : Str → Option Value) (n : Str) (C : Addr) : Prop where
  c : Cls K C
  ha : PySem.W.findIn K (.ref C) "__class__" = some (some (.builtin "object.__class__"))
  hn : PySem.W.specialIn K (.builtin "object.__class__") "__get__" = some (some (.builtin "getset_descriptor.__get__"))
  htk : PySem.W.takesIn K (.builtin "object.__class__") = some true
  hm : PySem.W.mroIn K C (.type "object") = some true
  g : mg n = some (.ref C)
def clsIB (K : PySem.W.Frag) (C : Addr) : Bool := He.eqO (PySem.W.findIn K (.ref C) "__class__") (some (some (.builtin "object.__class__"))) && (He.eqO (PySem.W.specialIn K (.builtin "object.__class__") "__get__") (some (some (.builtin "getset_descriptor.__get__"))) && (decide (PySem.W.takesIn K (.builtin "object.__class__") = some true) && decide (PySem.W.mroIn K C (.type "object") = some true)))
theorem clsIB_ok {K : PySem.W.Frag} {mg : Str → Option Value} {n : Str} {C : Addr} (h : clsIB K C = true) (c : Cls K C) (g : mg n = some (.ref C)) : InsC K mg n C := by
  obtain ⟨h1, h⟩ := He.ba h
  obtain ⟨h2, h⟩ := He.ba h
  obtain ⟨h3, h4⟩ := He.ba h
  exact ⟨c, He.eqO_ok h1, He.eqO_ok h2, of_decide_eq_true h3, of_decide_eq_true h4, g⟩
theorem InsC.ty {K : PySem.W.Frag} {mg : Str → Option Value} {n : Str} {C a dx : Addr} {H : Hp} {fs : List (Str × V)} (i : InsC K mg n C) (h : H a = some (.ins C dx fs)) : TyX K H (.ref a) (.ref C) := .base (.ins h i.c i.ha i.hn i.htk i.hm)
theorem kit_self (K : PySem.W.Frag) (C : Addr) : PySem.W.kitOne K (.ref C) (.ref C) = some true := by
  unfold PySem.W.kitOne
  rw [if_pos (by simp)]
theorem join_len {n m : Nat} {s : List Nat} : ∀ {ts : List (List Nat)}, (∀ t ∈ ts, t.length ≤ n) → ts.length ≤ m → (TL.joinL s ts).length ≤ n * m + s.length * m
  | [], _, _ => Nat.zero_le _
  | t :: r, h, hm => by
    rw [joinL_flat, List.length_append]
    have h1 := h t (List.mem_cons_self ..)
    have h2 := flat_le (n := s.length + n) (ts := r.map (s ++ ·)) fun x hx => by
      obtain ⟨y, hy, rfl⟩ := List.mem_map.mp hx
      have := h y (List.mem_cons_of_mem _ hy)
      rw [List.length_append]; omega
    rw [List.length_map] at h2
    rw [List.length_cons] at hm
    have h3 : (s.length + n) * r.length + (s.length + n) ≤ (s.length + n) * m := by
      rw [← Nat.mul_succ]; exact Nat.mul_le_mul_left _ hm
    have h4 : (s.length + n) * m = s.length * m + n * m := Nat.add_mul ..
    omega
theorem toc {r : V → V → Hp → VK → Prop} {sp : Sp} {te tb : TE} {σ : L2.St} {H : Hp} {R : Bool → Hp → Prop} (h : te σ H fun v H1 => tTest (tOp r (tCall sp [] E0 (tCons (tC v) tNil)) tb) σ H1 R) : tTest (tOp r (tCall sp [] E0 (tCons te tNil)) tb) σ H R := h
/-! ## contracts -/
def spReadRu (K : PySem.W.Frag) : Sp := fun vs H Q _ => ∃ (z : Str) (r : Ru), vs = [.str z] ∧ tl z = Ru.tail r ∧ RuOk r ∧ ∀ (v : V) (H' : Hp), SB [] H H' → Dp K H' v (Ru.enc r) → Q v H'
def spReadKd (K : PySem.W.Frag) : Sp := fun vs H Q _ => ∃ (z : Str) (k : Kd) (ns : List Str), vs = [.str z] ∧ tl z = k.text ∧ KdOk ns k ∧ ∀ (v : V) (H' : Hp), SB [] H H' → (∀ bad : List Addr, (∀ p ∈ bad, H p ≠ none) → KdA K H' bad v k) → Q v H'
def spReadBk (K : PySem.W.Frag) (C : Addr) : Sp := fun vs H Q _ => ∃ (z : Str) (b : Bk), vs = [.str z] ∧ tl z = b.text ∧ b.Ok ∧ ∀ (y : Addr) (H' : Hp), SB [] H H' → BkA K C H' (.ref y) b → Q (.ref y) H'
end FT
namespace FT
open PySem PySem.W PySem.Spec PyProof.Rows L2
open PySem.Froz (SD sObj TxOk addTx tailTx)
/-! ## sets of texts whose members can be walked -/
/-- the payload D holds the texts l, each once, and its table rises -/
structure TxS (P : Program) (w : World) (D : SD) (l : List Str) : Prop where
  ok : TxOk P w D l
  nd : l.Nodup
  ris : Ris D.2.2.place.toList
  led : w.params.followText "set-order" = true ∨ D.2.2.led = true
/-- the texts, one more -/
def insS (k : Str) (l : List Str) : List Str := if k ∈ l then l else k :: l
section
variable {P : Program} {w : World} {A : Around} {E : Value → Shared → Prop} {s : Shared} {D : SD} {l : List Str} {k : Str} {u : Tok} {a : Addr} {T : String}
theorem tail_walk {es : Array (Int × Value)} {ep : Nat} {t : SetTable} {b : Bool} (r : Ris t.place.toList) (d : w.params.followText "set-order" = true ∨ t.led = true) :
    Ris (tailTx ep es t b).2.2.place.toList ∧ (w.params.followText "set-order" = true ∨ (tailTx ep es t b).2.2.led = true) := by
  unfold tailTx
  split
  · exact ⟨relayAll_ris .., d.imp id fun z => by rw [relayAll_led]; exact z⟩
  · exact ⟨r, d⟩
theorem TxS.add (F : TxS P w D l) (hk : k ∉ l) : TxS P w (addTx (hashStr w k) (.str k u) D) (k :: l) := by
  obtain ⟨es, ep, t⟩ := D
  have r1 := layNew_ris t es (hashStr w k) (.str k u) F.ris
  have d1 := F.led.imp id fun z => (layNew_led t es (hashStr w k) (.str k u)).trans z
  have key : ∀ t' : SetTable, t'.place = (layNew t es (hashStr w k) (.str k u)).2.1.place → t'.led = (layNew t es (hashStr w k) (.str k u)).2.1.led → ∀ es' b, Ris (tailTx ep es' t' b).2.2.place.toList ∧ (w.params.followText "set-order" = true ∨ (tailTx ep es' t' b).2.2.led = true) :=
    fun t' e1 e2 es' b => tail_walk (by rw [e1]; exact r1) (by rw [e2]; exact d1)
  have z := key (if (layNew t es (hashStr w k) (.str k u)).2.1.plain = true then { (layNew t es (hashStr w k) (.str k u)).2.1 with plain := false } else (layNew t es (hashStr w k) (.str k u)).2.1) (by split <;> rfl) (by split <;> rfl) (layNew t es (hashStr w k) (.str k u)).1 (layNew t es (hashStr w k) (.str k u)).2.2.1
  exact ⟨PySem.Froz.add_ok u F.ok, List.nodup_cons.mpr ⟨hk, F.nd⟩, z.1, z.2⟩
/-- a text that is there -/
theorem add_there {Q : Bool → Shared → Prop} (ho : s.heap.get? a = some (sObj T D)) (F : TxOk P w D l) (hk : k ∈ l) (hb : l.length < scanBound) (h : Q false s) : wpAny (model P w) A (setAddHashed a (.str k u) (hashStr w k)) Q E s := by
  obtain ⟨es, ep, t⟩ := D
  have hd : (sObj T (es, ep, t)).data = .set es ep t := rfl
  have hel : ElemsOf (strKind P w) es.toList := F.el
  have hsz : es.size = l.length := F.sz
  have is0 : (strKind P w).is k (.str k u) = true := PySem.Froz.is_str k u
  obtain ⟨j, hj⟩ : ∃ j, List.findIdx? (fun e => (strKind P w).is k e.2) es.toList = some j := by
    cases e : List.findIdx? (fun e => (strKind P w).is k e.2) es.toList with
    | some j => exact ⟨j, rfl⟩
    | none =>
      obtain ⟨x, hx, hi⟩ := (F.mem k).mp hk
      have := List.findIdx?_eq_none_iff.mp e x hx
      rw [hi] at this
      cases this
  unfold setAddHashed setAddHashedIn
  refine wpAny_holding (wpAny_bind (wpAny_setState_of ho hd F.fit ?_))
  dsimp only
  rw [byScan_of rfl (by rw [hsz]; exact hb) hel]
  simp only [↓reduceIte]
  unfold setAddByScan
  refine wpAny_bind (wpAny_bind (wpAny_rule (wpAny_bind (wpAny_setScan_of (knd := strKind P w) (k := k) is0 ho hd F.fit hel ?_))))
  rw [hj]
  exact wpAny_pure (wpAny_pure h)
theorem add_any {Q : Bool → Shared → Prop} (ho : s.heap.get? a = some (sObj T D)) (F : TxS P w D l) (hb : l.length + 1 < scanBound)
    (h : ∀ (b : Bool) (h' : Heap) (D' : SD), Heap.SameBut a s.heap h' → h'.get? a = some (sObj T D') → TxS P w D' (insS k l) → Q b { s with heap := h' }) : wpAny (model P w) A (setAddHashed a (.str k u) (hashStr w k)) Q E s := by
  by_cases hk : k ∈ l
  · refine add_there ho F.ok hk (by omega) (h false s.heap D (Heap.SameBut.refl a s.heap) ho ?_)
    unfold insS
    rw [if_pos hk]
    exact F
  · refine PySem.Froz.add_x ho F.ok hk hb (h true _ _ (Heap.SameBut.update ..) (PySem.Froz.get_upd _ ho rfl) ?_)
    unfold insS
    rw [if_neg hk]
    exact F.add hk
end
/-! ### set.add, as called -/
section
variable {P : Program} {w : World} {A : Around} {E : Value → Shared → Prop} {s : Shared} {D : SD} {l : List Str} {k : Str} {u : Tok} {a : Addr}
theorem call_add {Q : Value → Shared → Prop} (ho : s.heap.get? a = some (sObj "set" D)) (F : TxS P w D l) (hb : l.length + 1 < scanBound)
    (h : ∀ (h' : Heap) (D' : SD), Heap.SameBut a s.heap h' → h'.get? a = some (sObj "set" D') → TxS P w D' (insS k l) → Q .none { s with heap := h', toks := s.toks + 1 }) : wpAny (model P w) A (call (.builtin "set.add") [.ref a, .str k u]) Q E s := by
  refine wpAny_call_entry PySem.F.slot_set_add ⟨_, ho, rfl⟩ PySem.F.entry_set_add ?_ (PySem.F.args_set_add_2 _ _)
  unfold Builtin.«set.add» Builtin.Frozenset.oneOther
  simp only [List.isEmpty_nil, bind_assoc]
  unfold Builtin.Frozenset.addrOf setAdd
  refine wpAny_bind (wpAny_pure ?_)
  try dsimp only
  refine wpAny_bind (wpAny_pure ?_)
  try dsimp only
  refine wpAny_bind (wpAny_holding (wpAny_bind ((strKind P w).pyHash (k := k) (PySem.Froz.is_str k u) ?_)))
  refine add_any (s := { s with toks := s.toks + 1 }) ho F hb fun b h' D' sb o' F' => ?_
  refine (?_ : wpAny (model P w) _ (ret Value.none) _ E _)
  exact wpAny_pure ⟨_, rfl, h h' D' sb o' F'⟩
end
/-! ### as a tracked thing -/
def SetSO (P : Program) (w : World) (a : Addr) (l : List Str) : HO := .ext fun h => ∃ D : SD, h.get? a = some (sObj "set" D) ∧ TxS P w D l
theorem setSO_new {P : Program} {w : World} {H : Hp} {h : Heap} {a : Addr} {l : List Str} {D : SD} (ho : h.get? a = some (sObj "set" D)) (F : TxS P w D l) : ObjOk P w H h a (SetSO P w a l) :=
  ⟨⟨D, ho, F⟩, ⟨_, ho⟩, fun h1 h2 ⟨D', q, F'⟩ k => ⟨D', k _ q, F'⟩⟩
section
variable {X : Cx} {pins : List (Addr × Obj)} {σ : L2.St} {H : Hp} {s : Shared} {l : List Str}
theorem setSO_get {a : Addr} (I : Inv X pins σ H s) (ha : H a = some (SetSO X.prog X.w a l)) : ∃ D : SD, s.heap.get? a = some (sObj "set" D) ∧ TxS X.prog X.w D l := (I.hok a _ ha).1
theorem addS_ok {E : Value → Shared → Prop} {a : Addr} {k : Str} {u : Tok} {Q : Value → Shared → Prop} (I : Inv X pins σ H s) (ha : H a = some (SetSO X.prog X.w a l)) (room : l.length + 1 < scanBound)
    (h : ∀ s', Inv X pins σ (upd H a (SetSO X.prog X.w a (insS k l))) s' → Q .none s') : wpAny (model X.prog X.w) X.A (call (.builtin "set.add") [.ref a, .str k u]) Q E s := by
  obtain ⟨D, ho, F⟩ := setSO_get I ha
  refine call_add ho F room fun h' D' sb o' F' => ?_
  exact h _ (I.write (e := a) (t' := s.toks + 1) (by rw [ha]; trivial) (.inl rfl) (fun b o hb hu => (sb.2 b hb).trans hu) ⟨_, o'⟩ (setSO_new o' F'))
end
theorem fresh_txs (P : Program) (w : World) : TxS P w (#[], 0, .fresh 0 0 (!w.params.followText "set-order")) [] := by
  refine ⟨PySem.Froz.TxOk.nil rfl, List.nodup_nil, List.Pairwise.nil, ?_⟩
  show _ ∨ (!w.params.followText "set-order") = true
  cases w.params.followText "set-order"
  · exact .inr rfl
  · exact .inl rfl
/-! ### sorted -/
theorem is_shape {P : Program} {w : World} {k : Str} {v : Value} (h : (strKind P w).is k v = true) : ∃ tk, v = Value.str k tk := by
  have h : Value.isStrOf k v = true := h
  cases v <;> simp [Value.isStrOf] at h
  exact ⟨_, by rw [h]⟩
theorem strs_of : ∀ (l : List Value), (∀ v ∈ l, ∃ k tk, v = Value.str k tk) → ∃ ss : List Str, StrsAre l ss ∧ ∀ k, k ∈ ss ↔ ∃ v ∈ l, ∃ tk, v = Value.str k tk
  | [], _ => ⟨[], .nil, fun k => by simp⟩
  | v :: r, h => by
    obtain ⟨k, tk, rfl⟩ := h v (List.mem_cons_self ..)
    obtain ⟨ss, h1, h2⟩ := strs_of r fun x hx => h x (List.mem_cons_of_mem _ hx)
    refine ⟨k :: ss, .cons k tk h1, fun j => ?_⟩
    rw [List.mem_cons, h2 j]
    refine ⟨fun z => ?_, fun ⟨x, hx, t', e⟩ => ?_⟩
    · rcases z with rfl | ⟨x, hx, e⟩
      · exact ⟨_, List.mem_cons_self .., tk, rfl⟩
      · exact ⟨x, List.mem_cons_of_mem _ hx, e⟩
    · rcases List.mem_cons.mp hx with q | q
      · rw [q] at e; cases e; exact .inl rfl
      · exact .inr ⟨x, q, t', e⟩
/-- lists with the same members, one without doubles and no longer -/
theorem perm_of {α : Type} : ∀ {a b : List α}, b.Nodup → a.length = b.length → (∀ k, k ∈ b → k ∈ a) → a.Perm b
  | a, [], _, hl, _ => by
    have : a = [] := List.eq_nil_of_length_eq_zero hl
    rw [this]
  | a, x :: b, nd, hl, hm => by
    obtain ⟨p, q, e⟩ := List.append_of_mem (hm x (List.mem_cons_self ..))
    subst e
    obtain ⟨n1, n2⟩ := List.nodup_cons.mp nd
    have ih := perm_of (a := p ++ q) (b := b) n2 (by simp at hl ⊢; omega) fun k hk => by
      have hx : k ≠ x := fun z => n1 (z ▸ hk)
      have := hm k (List.mem_cons_of_mem _ hk)
      simp only [List.mem_append, List.mem_cons] at this ⊢
      rcases this with z | z | z
      · exact .inl z
      · exact absurd z hx
      · exact .inr z
    exact List.perm_middle.trans (ih.cons x)
section
variable {P : Program} {w : World} {A : Around} {E : Value → Shared → Prop} {s : Shared} {D : SD} {l : List Str} {a : Addr}
theorem sorted_txt {Q : Value → Shared → Prop} (hh : A.handled = none) (ho : s.heap.get? a = some (sObj "set" D)) (F : TxS P w D l) (h64 : l.length < 64)
    (h : ∀ (s' : Shared) (p : Addr) (out : Array Value) (c : Nat) (ss : List Str), (∀ b o, s.heap.get? b = some o → s'.heap.get? b = some o) → s'.gens = s.gens → s'.os = s.os → s.heap.objs.size ≤ p → s'.heap.get? p = some (seqObj "list" out c) → StrsAre out.toList ss → ss.Perm l → sortedS ss = true → Q (.ref p) s') :
    wpAny (model P w) A (call (.builtin "sorted") [.ref a]) Q E s := by
  obtain ⟨es, ep, t⟩ := D
  have hsz : es.size = l.length := F.ok.sz
  have hsc : es.size < scanBound := by rw [hsz]; unfold scanBound; omega
  refine Calls.call_function_entry kind_sorted plain_sorted entry_sorted (args_sorted1 _) ?_
  unfold Builtin.«sorted»
  refine wpAny_bind (m := checkCount "sorted" 1 1 _) (wpAny_pure ?_)
  refine wpAny_bind (collect_set (A := A.in1) hh ⟨_, ho, rfl, rfl⟩ F.ok.fit hsc F.ris F.led fun s1 vs k1 z1 g1 o1 pm => ?_)
  have vl : vs.length = l.length := by rw [pm.length_eq, List.length_map, Array.length_toList, hsz]
  have shape : ∀ v ∈ vs, ∃ k tk, v = Value.str k tk := fun v hv => by
    obtain ⟨e, he, rfl⟩ := List.mem_map.mp (pm.mem_iff.mp hv)
    obtain ⟨⟨k, hk, _⟩, _⟩ := F.ok.el e he
    obtain ⟨tk, q⟩ := is_shape hk
    exact ⟨k, tk, q⟩
  obtain ⟨ss, hS, hmem⟩ := strs_of vs shape
  have hp : ss.Perm l := by
    refine perm_of F.nd (by rw [← hS.length]; exact vl) fun k hk => ?_
    obtain ⟨e, he, hi⟩ := (F.ok.mem k).mp hk
    obtain ⟨tk, q⟩ := is_shape hi
    exact (hmem k).mpr ⟨e.2, pm.mem_iff.mpr (List.mem_map_of_mem he), tk, q⟩
  refine wpAny_bind (wpAny_newList ?_ (by rw [vl, sizeLine_eq]; omega))
  have at1 : (s1.heap.push (seqObj "list" vs.toArray 0)).get? s1.heap.objs.size = some (seqObj "list" vs.toArray 0) := Heap.get?_push_size _ rfl
  refine wpAny_bind (wpAny_holding (wpAny_call_entry slot_list_sort ⟨_, at1, rfl⟩ entry_list_sort (list_sort_treeK strKind_oneLt at1 hS.keysOf (fun v1 v2 r e => keyKind_strs (by rw [← e]; exact hS)) (by rw [vl]; exact h64) fun st' p1 p2 => ⟨_, rfl, ?_⟩) (args_list_sort _)))
  obtain ⟨ss', q1, q2, q3⟩ := sorted_out_str hS p1 p2
  obtain ⟨c, hc⟩ := sortedHeap_at (vs := vs) (out := (arrOf st').map (·.2)) at1
  refine wpAny_pure ⟨_, rfl, h _ s1.heap.objs.size _ c ss' (fun b o e => ?_) g1 o1 z1 hc q1 (q2.trans hp) q3⟩
  have e1 := k1 b o e
  have lt := Heap.lt_size e1
  show (sortedHeap (s1.heap.push (seqObj "list" vs.toArray 0)) s1.heap.objs.size vs _).get? b = some o
  rw [sortedHeap_old (Nat.ne_of_lt lt) (by rw [size_push']; exact Nat.lt_succ_of_lt lt)]
  exact Heap.get?_push_of_some _ e1
end
section
variable {X : Cx}
def rSortedTx (P : Program) (w : World) : List V → Hp → VK → Prop := fun vs H Q => ∃ (a : Addr) (l : List Str), vs = [.ref a] ∧ H a = some (SetSO P w a l) ∧ l.length < 64 ∧ ∀ (ss : List Str) (p : Addr), ss.Perm l → sortedS ss = true → H p = none → Q (.ref p) (upd H p (.lst (ss.map V.str)))
theorem cr_sortedTx (hc : X.calm = true) : CallR X (.builtin "sorted") (rSortedTx X.prog X.w) := by
  intro pins s σ H vs us Q I r h
  obtain ⟨a, l, rfl, ha, h64, q⟩ := h
  obtain ⟨D, ho, F⟩ := setSO_get I ha
  rw [Vals.ref1 r]
  refine sorted_txt (I.ok.hd hc) ho F h64 fun s' p out c ss kp eg eo hp at' hS pm srt => ?_
  have hn : H p = none := I.hok.fresh hp
  have hz : (ss.map V.str).length ≤ sizeLine := by rw [List.length_map, pm.length_eq, sizeLine_eq]; omega
  obtain ⟨h', g', d', tk', os'⟩ := s'
  have eo : os' = s.os := eo
  subst eo
  exact ⟨.ref p, upd H p (.lst (ss.map V.str)), I.call (ch := []) (Un.laid kp hp hn) (I.hok.laid kp hp ⟨hz, out.toList, c, vals_of_strs hS, at'⟩) (by rw [show g' = s.gens from eg]; exact I.bare) (fun _ z => nomatch z), rfl, q ss p pm srt hn⟩
end
/-! ### the comprehension -/
section
variable {X : Cx}
def tScS (P : Program) (w : World) (wi : TI) (g : TG) (tt : TT) (te : TE) (vs : List Nat) : TE := fun σ H Q => wi σ H fun J H1 => ∀ D, H1 D = none → ∃ W : Nat → Nat → Hp → Prop, (∃ m, W 0 m (upd H1 D (SetSO P w D []))) ∧ ∀ i m Hi, W i m Hi →
  (J.stop i Hi ∧ Q (.ref D) Hi) ∨ (J.go i Hi ∧ ∃ Nx : Hp → Prop, (∀ H', Nx H' → ∃ m', m' < m ∧ W (i + 1) m' H') ∧ ∀ x H', J.yld i Hi x H' → g x (wipe σ vs) H' fun σ2 H2 => wipe σ2 vs = wipe σ vs ∧ tt σ2 H2 fun b H3 =>
    if b = true then te σ2 H3 fun y H4 => ∃ (z : Str) (l : List Str), y = .str z ∧ H4 D = some (SetSO P w D l) ∧ l.length + 1 < scanBound ∧ Nx (upd H4 D (SetSO P w D (insS z l))) else Nx H3)
theorem pe_scS {elt tg iter : Expr} {ifs : List Expr} {scope : Scope} {own : List (PySem.Str × Nat)} {pos : Pos} {wi : TI} {g : TG} {tt : TT} {te : TE} (hc : X.calm = true) (hN : X.N.Nodup) (hi : PI X tg iter wi) (ok : BlkOk X.N X.env.scope scope own)
    (hg : ∀ (s1 : Shared) (H1 : Hp) (C : Addr) (cl : List (PySem.Str × Addr)) (fp : List Addr), L2.PG (X.blk s1 H1 scope (compEnvC scope cl C X.env) fp) tg g) (ht : ∀ (s1 : Shared) (H1 : Hp) (C : Addr) (cl : List (PySem.Str × Addr)) (fp : List Addr), L2.PTs (X.blk s1 H1 scope (compEnvC scope cl C X.env) fp) ifs tt)
    (he : ∀ (s1 : Shared) (H1 : Hp) (C : Addr) (cl : List (PySem.Str × Addr)) (fp : List Addr), L2.PE (X.blk s1 H1 scope (compEnvC scope cl C X.env) fp) elt te) (hs : ∀ x, foldedSetIterable iter X.env x = pure x := by intro _; rfl) :
    PE X (.SetComp elt [⟨tg, iter, ifs, 0⟩] scope pos) (tScS X.prog X.w wi g tt te (own.map (·.2))) := by
  refine ⟨fun pins s σ H Q I h => ?_⟩
  rw [PpSet.eval_SetComp]
  have clo : ∀ y ∈ scope.names, y.2 = .free → ∃ c, X.env.cells.lookup y.1 = some c := fun y hy e => (ok.free y hy e).elim (fun k => I.ok.has _ (.inl k)) fun k => I.ok.has _ (.inr k)
  refine wpAny_comprehension_free (use := none) rfl hs (closure_ok clo) ok.kind (fun y hy e => by rw [ok.uniq y hy, e]) (thn (hi.run pins s σ H _ I h) fun xv s1 hx => thn hx fun itv s2 got => ?_)
  obtain ⟨it, fp, tn, J, Ha, e0, Ia, Tn, sta, fpa, walk⟩ := got
  subst e0
  refine PpSet.newSet_ok (newEnv_comp ?_)
  -- the new set, at the heap's end
  generalize eD : s2.heap.objs.size = D
  have freeD : Ha D = none := Ia.hok.fresh (Nat.le_of_eq eD)
  obtain ⟨W, ⟨m0, w0⟩, turn⟩ := walk D freeD
  generalize eb : ({ s2 with heap := s2.heap.push { cls := .type "set", dict := none, data := .set #[] 0 (.fresh 0 0 (!X.w.params.followText "set-order")) } } : Shared) = sb
  have hpb : sb.heap = s2.heap.push { cls := .type "set", dict := none, data := .set #[] 0 (.fresh 0 0 (!X.w.params.followText "set-order")) } := by rw [← eb]
  have Ib : Inv X pins σ (upd Ha D (SetSO X.prog X.w D [])) sb := by
    rw [← eb]
    refine Ia.laid (t' := s2.toks) (fun b o e => Heap.get?_push_of_some _ e) (Nat.le_of_eq eD) ?_
    rw [← eD]
    exact setSO_new (Heap.get?_push_size _ rfl) (fresh_txs X.prog X.w)
  have low : ∀ b ∈ fp, b < s2.heap.objs.size := fun b hb => let ⟨o, e, _⟩ := Tn.obj _ _ sta b hb; Heap.lt_size e
  have fpb : ∀ b ∈ fp, FpOk X pins (upd Ha D (SetSO X.prog X.w D [])) b ∧ b < sb.heap.objs.size := fun b hb => by
    refine ⟨⟨?_, (fpa b hb).2⟩, by rw [hpb, Heap.size_push]; exact Nat.lt_succ_of_lt (low b hb)⟩
    rw [upd_ne (by rw [← eD]; exact Nat.ne_of_lt (low b hb))]
    exact (fpa b hb).1
  have stb : tn 0 sb.heap := Tn.keep _ _ _ sta fun b _ o e => by rw [hpb]; exact Heap.get?_push_of_some _ e
  have Ic := block_start Ib ok hN fpb
  generalize eHb : upd Ha D (SetSO X.prog X.w D []) = Hb at Ib Ic w0 fpb
  have pg := hg sb Hb sb.heap.objs.size (cellsFrom (sb.heap.objs.size + 1) scope.names (cloFrom X.env.cells scope.names [])) fp
  have pt := ht sb Hb sb.heap.objs.size (cellsFrom (sb.heap.objs.size + 1) scope.names (cloFrom X.env.cells scope.names [])) fp
  have pe := he sb Hb sb.heap.objs.size (cellsFrom (sb.heap.objs.size + 1) scope.names (cloFrom X.env.cells scope.names [])) fp
  show codeAny (model X.prog X.w) X.A (.compStart (.SetComp elt [⟨tg, iter, ifs, 0⟩] scope pos) 0 (.ref it) (.ref D) (compEnvC scope (cellsFrom (sb.heap.objs.size + 1) scope.names (cloFrom X.env.cells scope.names [])) sb.heap.objs.size X.env)) (compPost (model X.prog X.w) X.A X.xe none (EP X pins σ Q) (.ref D) sb.heap.objs.size) { sb with heap := pushCells (sb.heap.push { cls := .type "dict", data := .dict #[] }) scope.names }
  have noneF : ∀ b ∈ fp, Hb b = none := fun b hb => (fpb b hb).1.1
  generalize ece : compEnvC scope (cellsFrom (sb.heap.objs.size + 1) scope.names (cloFrom X.env.cells scope.names [])) sb.heap.objs.size X.env = ce at Ic pg pt pe ⊢
  have ecl : ce.locals = sb.heap.objs.size := by subst ece; rfl
  generalize esc : ({ sb with heap := pushCells (sb.heap.push { cls := .type "dict", data := .dict #[] }) scope.names } : Shared) = sc at Ic ⊢
  have stc : tn 0 sc.heap := Tn.keep _ _ _ stb fun b _ o e => by rw [← esc]; exact pushCells_keeps _ _ _ _ (Heap.get?_push_of_some _ e)
  -- the block's context
  let XB : Cx := X.blk sb Hb scope ce fp
  have still : ∀ {τ : L2.St} {G : Hp} {t : Shared}, Inv XB [] τ G t → (∀ b ∈ fp, G b = none) → ∀ b ∈ fp, FpOk XB [] G b := fun {τ G t} I' hn b hb =>
    ⟨hn b hb, (I'.ok.exf b hb).1, I'.ok.exfs b hb, .inl hb, fun x c e => (I'.ok.exf b hb).2 x c e, fun p hp => absurd (show p ∈ ([] : List (Addr × Obj)) ++ [] from hp) (by simp)⟩
  have loop : codeAny (model X.prog X.w) X.A (.compLoop (.SetComp elt [⟨tg, iter, ifs, 0⟩] scope pos) 0 (.ref it) (.ref D) ce) (compPost (model X.prog X.w) X.A X.xe none (EP X pins σ Q) (.ref D) sb.heap.objs.size) sc := by
    refine PpSet.compLoopS_any (fun n t => ∃ i G, Inv XB [] (wipe σ (own.map (·.2))) G t ∧ tn i t.heap ∧ (∀ b ∈ fp, G b = none) ∧ W i n G) ?_ m0 ⟨0, Hb, Ic, stc, noneF, w0⟩
    rintro n t ⟨i, G, It, stt, nt, wt⟩
    rcases turn i n G wt with ⟨ends, qq⟩ | ⟨goes, Nx, hNx, step⟩
    · refine thnF (Tn.done XB rfl rfl rfl hc i [] t _ G (fun _ _ => False) It (still It nt) stt ends) fun r t6 ⟨er, I6⟩ => ?_
      subst er
      have I7 : Inv X pins σ G t6 := Ib.call' (ch := fp) I6.os I6.base I6.hok I6.bare fun b hb => ⟨(fpb b hb).1.2.2.2.1, (fpb b hb).1.2.1, (fpb b hb).1.2.2.2.2.1, (fpb b hb).1.2.2.2.2.2⟩
      have nC : G sb.heap.objs.size = none := ecl ▸ (show G ce.locals = none from I6.free)
      obtain ⟨m, hn, _⟩ := I6.loc
      have hn : t6.heap.Ns sb.heap.objs.size m := ecl ▸ (show t6.heap.Ns ce.locals m from hn)
      obtain ⟨f0, f1, f2, f3, f4, f5⟩ := Ib.fpOk (Nat.le_refl _) nC
      exact ⟨m, hn, fun h'' same => ⟨.ref D, G, I7.turned (t' := t6.toks) (fun b o hb e => (same.2 b hb).trans e) f0 f1 f3 f4 f5, rfl, qq⟩⟩
    · refine thnF (Tn.item XB rfl rfl rfl hc i [] t _ G (fun _ _ => False) It (still It nt) stt goes) fun r t6 ⟨u, er, h6⟩ => ?_
      subst er
      refine thnF h6 fun _ t7 ⟨x, G7, I7, r7, y7, st7, n7⟩ => ?_
      have P7 := I7.pinned (still I7 n7) (Tn.obj _ _ st7)
      refine thnF (pg.run _ t7 _ G7 x u _ P7 r7 (step x G7 y7)) fun _ t8 ⟨τ, G8, I8, hw, q8⟩ => ?_
      refine thnF (pt.run _ t8 τ G8 _ I8 q8) fun b t9 ⟨G9, I9, q9⟩ => ?_
      have back : ∀ {t' : Shared} {G' : Hp}, Inv XB ([] ++ pinsAt fp t7.heap) τ G' t' → Nx G' → ∃ m, m < n ∧ ∃ i G, Inv XB [] (wipe σ (own.map (·.2))) G t' ∧ tn i t'.heap ∧ (∀ b ∈ fp, G b = none) ∧ W i m G := fun {t' G'} I' nx => by
        obtain ⟨m', hm, w'⟩ := hNx G' nx
        have keep : ∀ b ∈ fp, ∀ o, t7.heap.get? b = some o → t'.heap.get? b = some o ∧ G' b = none := fun b hb o e =>
          have z := I'.pin (b, o) (List.mem_append_right _ (List.mem_append_right _ (mem_pinsAt hb e)))
          ⟨z.1, z.2.1⟩
        refine ⟨m', hm, i + 1, G', (I'.unpinned (pins := [])).weak (by rw [← hw, wipe_length]) (fun j v e => (wipe_some (hw ▸ e)).1), Tn.keep _ _ _ st7 fun b hb o e => (keep b hb o e).1, fun b hb => ?_, w'⟩
        obtain ⟨o, e, _⟩ := Tn.obj _ _ st7 b hb
        exact (keep b hb o e).2
      cases b with
      | false => exact back I9 q9
      | true =>
        refine thnF (pe.run _ t9 τ G9 _ I9 q9) fun z t10 ⟨yv, G10, I10, r10, zz, l0, ey, hD10, room, nx⟩ => ?_
        subst ey
        obtain ⟨tk, rfl⟩ := r10
        exact addS_ok (X := XB) I10 hD10 room fun t11 I11 => back I11 nx
  exact PpSet.codeAny_compStart_set loop (Tn.self X.A 0 _ _ _ stc loop)
end
end FT
namespace FT
open PySem PySem.W PySem.Spec PyProof.Rows L2
open PySem.Froz (SD sObj TxOk addTx tailTx)
/-! ## set(xs), xs a list of texts -/
def insL (xs : List Str) : Nat → List Str
  | 0 => []
  | i + 1 => insS (xs.getD i Str.empty) (insL xs i)
theorem insS_mem {k x : Str} {l : List Str} : k ∈ insS x l ↔ k = x ∨ k ∈ l := by
  unfold insS
  split
  · rename_i h
    exact ⟨.inr, fun z => z.elim (fun e => e ▸ h) id⟩
  · exact List.mem_cons
theorem insS_len (x : Str) (l : List Str) : (insS x l).length ≤ l.length + 1 := by
  unfold insS
  split
  · omega
  · simp
theorem insL_le (xs : List Str) : ∀ i, (insL xs i).length ≤ i
  | 0 => Nat.le_refl _
  | i + 1 => Nat.le_trans (insS_len _ _) (Nat.succ_le_succ (insL_le xs i))
theorem insL_mem (xs : List Str) (k : Str) : ∀ i, i ≤ xs.length → (k ∈ insL xs i ↔ k ∈ xs.take i)
  | 0, _ => by simp [insL]
  | i + 1, h => by
    rw [insL, insS_mem, insL_mem xs k i (by omega), List.take_add_one, List.mem_append, List.getD_eq_getElem?_getD, List.getElem?_eq_getElem (by omega)]
    simp [or_comm]
def TxAt (P : Program) (w : World) (h : Heap) (a : Addr) (l : List Str) : Prop := ∃ D : SD, h.get? a = some (sObj "set" D) ∧ TxS P w D l
theorem TxAt.keep {P : Program} {w : World} {h h' : Heap} {a : Addr} {l : List Str} (S : TxAt P w h a l) (k : ∀ o, h.get? a = some o → h'.get? a = some o) : TxAt P w h' a l := by
  obtain ⟨D, e, F⟩ := S
  exact ⟨D, k _ e, F⟩
section
variable {P : Program} {w : World} {A : Around}
theorem txt_loop {R : Result → Shared → Prop} {I : Addr} {fp wr : List Addr} {G : Array GenState → Array GenState → Prop} {n : Nat} {Pv : Nat → Value → Prop} {St : Nat → Shared → Prop} (W : WalksS P w A.in1 I fp wr G n Pv St) (S : Addr) (hSf : S ∉ fp) (xs : List Str) (hn : n + 1 < scanBound)
    (hval : ∀ i v, Pv i v → ∃ t, v = .str (xs.getD i Str.empty) t) : ∀ (k i : Nat) (s : Shared), k + i = n → St i s → TxAt P w s.heap S (insL xs i) →
      (∀ s', Moved (S :: wr) G s s' → TxAt P w s'.heap S (insL xs n) → R (.ok (.ret .none)) s') → codeAny (model P w) A (.builtin "set.update.loop" ⟨[.ref S, .ref I], []⟩) R s := by
  have out : S ∉ wr := fun z => hSf (W.sub _ z)
  have up : ∀ b ∈ wr, b ∈ S :: wr := fun b z => List.mem_cons_of_mem _ z
  intro k
  induction k with
  | zero =>
    intro i s e st hS hR
    rw [Nat.zero_add] at e; subst e
    refine codeAny_builtin F.entry_set_update_loop (by
      rw [Around.under_plainId F.plain_set_update_loop _]
      show wpAny _ A.in1 (pyNext (.ref I) >>= _) _ _ s
      refine wpAny_bind (W.done s _ _ st fun s' hm => ?_)
      show wpAny _ A.in1 (ret Value.none) _ _ s'
      exact wpAny_pure (hR s' (hm.mono up) (hS.keep fun o e => hm.heap S o out e)))
  | succ k ih =>
    intro i s e st hS hR
    have lt : i < n := by omega
    refine codeAny_builtin F.entry_set_update_loop (by
      rw [Around.under_plainId F.plain_set_update_loop _]
      show wpAny _ A.in1 (pyNext (.ref I) >>= _) _ _ s
      refine wpAny_bind (W.item i s _ _ lt st fun v s' hP st' hm => ?_)
      obtain ⟨t, rfl⟩ := hval i v hP
      have hS' : TxAt P w s'.heap S (insL xs i) := hS.keep fun o e => hm.heap S o out e
      show wpAny _ A.in1 (holding [Value.str (xs.getD i Str.empty) t] (setAdd S (.str (xs.getD i Str.empty) t)) >>= _) _ _ s'
      refine wpAny_bind (wpAny_holding ?_)
      unfold setAdd
      refine wpAny_holding (wpAny_bind ((PySem.strKind P w).pyHash (k := xs.getD i Str.empty) (PySem.Froz.is_str _ _) ?_))
      have room : (insL xs i).length + 1 < scanBound := by have := insL_le xs i; omega
      obtain ⟨D0, hD0, F0⟩ := hS'
      refine add_any (s := { s' with toks := s'.toks + 1 }) hD0 F0 room fun _ h' D' hsb hD' F' => ?_
      have hSi : TxAt P w h' S (insL xs (i + 1)) := ⟨D', hD', F'⟩
      refine wpAny_pure ⟨plainId_quiet F.plain_set_update_loop _, ih (i + 1) _ (by omega) (W.frame _ s' _ _ st' (Nat.le_succ _) fun b hb o e => ?_) hSi fun s'' hm'' hS'' => ?_⟩
      · rw [hsb.2 b fun z : b = S => hSf (z ▸ hb)]; exact e
      · refine hR s'' (Moved.trans W.gtrans ((hm.mono up).then_heap (Nat.le_succ _) fun b o hb e => ?_) hm'') hS''
        rw [hsb.2 b fun z : b = S => hb (z ▸ List.mem_cons_self)]; exact e)
abbrev eL (w : World) : Obj := { cls := .type "set", dict := none, data := .set #[] 0 (.fresh 0 0 (!w.params.followText "set-order")) }
set_option maxHeartbeats 8000000 in
theorem call_setT {E : Value → Shared → Prop} {s : Shared} {l : Addr} {its : Array Value} {xs : List Str} {Q : Value → Shared → Prop} (hh : A.handled = none) (hl : s.heap.IsList l its) (hi : StrsAre its.toList xs) (hb : its.size + 1 < scanBound)
    (h : ∀ (h' : Heap) (tk : Nat), TxAt P w h' s.heap.objs.size (insL xs its.size) → (∀ b o, b < s.heap.objs.size → s.heap.get? b = some o → h'.get? b = some o) → Q (.ref s.heap.objs.size) { s with heap := h', toks := tk }) :
    wpAny (model P w) A (call (.type "set") [.ref l]) Q E s := by
  obtain ⟨c, tl', hmro⟩ := PySem.F.called_set.mro
  have k1 := PySem.F.called_set.made; have k2 := PySem.F.called_set.sub
  refine wpAny_call (codeAny_of_tree (by
    show wpAny _ _ (callAny (.type "set") _) _ _ _
    refine wpAny_pure ⟨Code.quiet_builtin _ (by decide +kernel), codeAny_builtin PySem.F.entry_type_call ?_⟩
    rw [Around.under_plain (weight_type_call_type "set" [.ref l] []) rfl]
    have k3 := PySem.F.called_set.notType; have k4 := PySem.F.called_set.canCreate; have k5 := PySem.F.typeCall_set_1 (.ref l)
    repeat (any_goals (first | assumption | wp_step))
    refine codeAny_mono (code_set_led1 (.ref l) (E := E) (Q₁ := fun ob z => ob = .ref s.heap.objs.size ∧ z = { s with heap := s.heap.push (eL w) }) ⟨rfl, rfl⟩) fun r z hr => ?_
    cases r with
    | error e => exact hr
    | ok fl =>
    cases fl with
    | ret ob =>
      obtain ⟨rfl, rfl⟩ := hr
      have at0 : (s.heap.push (eL w)).get? s.heap.objs.size = some (eL w) := Heap.get?_push_size _ rfl
      have ty0 : Shared.TypeIs { s with heap := s.heap.push (eL w) } (.ref s.heap.objs.size) "set" := ⟨_, at0, rfl⟩
      have k6 := PySem.F.called_set.init.lookup; have k7 := PySem.F.called_set.init.bind (.ref s.heap.objs.size)
      repeat (any_goals (first | assumption | wp_step))
      refine codeAny_mono (codeAny_call_builtin (R := wants (fun r s₂ => r = .none ∧ ∃ h' tk, s₂ = { s with heap := h', toks := tk } ∧ TxAt P w h' s.heap.objs.size (insL xs its.size) ∧ (∀ b o, b < s.heap.objs.size → s.heap.get? b = some o → h'.get? b = some o)) E) PySem.F.called_set.init.plain PySem.F.entry_set_init (check_set_init_1 ty0 ?_)) fun r₂ s₂ hr₂ => ?_
      · obtain ⟨⟨oc, od, oda, osl⟩, hol, hcl, nl, hdl⟩ := hl
        simp only at hcl hdl
        subst hcl hdl
        have hol' : (s.heap.push (eL w)).get? l = some ⟨.type "list", od, .seq its nl, osl⟩ := Heap.get?_push_of_some _ hol
        have k8 := PySem.F.sub_list_set; have k9 := PySem.F.sub_list_frozenset
        have k10 : (Value.type "list" == Value.type "dict") = false := by decide
        have isl : (s.heap.push (eL w)).IsList l its := ⟨_, hol', rfl, nl, rfl⟩
        unfold Builtin.«set.__init__» noKeywords Builtin.Frozenset.updateFrom
        generalize hPI : pyIter = PI
        wp_walk
        subst hPI
        refine wpAny_pyIter_list isl (wpAny_bind (wpAny_runValue ?_))
        have ltl : l < s.heap.objs.size := Heap.lt_size hol
        have sz1 : (s.heap.push (eL w)).objs.size = s.heap.objs.size + 1 := Heap.size_push ..
        have lne : l ≠ (s.heap.push (eL w)).objs.size := Nat.ne_of_lt (sz1 ▸ Nat.lt_succ_of_lt ltl)
        have nin : s.heap.objs.size ∉ [(s.heap.push (eL w)).objs.size, l] := by
          intro z
          rcases List.mem_cons.mp z with z | z
          · exact absurd (z.trans sz1) (Nat.ne_of_lt (Nat.lt_succ_self _))
          · have : s.heap.objs.size = l := by simpa using z
            exact absurd this.symm (Nat.ne_of_lt ltl)
        refine txt_loop ((Walks.list (show A.in1.in1.in1.handled = none by simp [hh]) _ l lne its).toS) s.heap.objs.size nin xs hb (fun i v hv => SS.strs_at hi i v (by rw [Array.getElem?_toList]; exact hv)) its.size 0 _ rfl ⟨⟨_, Heap.get?_push_size _ rfl, rfl, rfl⟩, isl.push _⟩ ?c1 ?c2
        case c1 => exact ⟨(#[], 0, .fresh 0 0 (!w.params.followText "set-order")), Heap.get?_push_of_some _ at0, fresh_txs P w⟩
        case c2 =>
          rintro ⟨h', g', d', tk', os'⟩ hm hS'
          have eg : g' = s.gens := hm.gens; have ed : d' = s.drawn := hm.drawn; have eo' : os' = s.os := hm.os
          subst eg ed eo'
          show wpAny _ _ _ _ _ _
          refine wpAny_pure (show wpAny _ _ (ret Value.none) _ _ _ from wpAny_pure ⟨rfl, h', tk', rfl, hS', fun b o hb' e => hm.heap b o (fun z => ?_) (Heap.get?_push_of_some _ (Heap.get?_push_of_some _ e))⟩)
          rcases List.mem_cons.mp z with z | z
          · exact absurd z (Nat.ne_of_lt hb')
          · have : b = (s.heap.push (eL w)).objs.size := by simpa using z
            exact absurd (this.trans sz1) (Nat.ne_of_lt (Nat.lt_succ_of_lt hb'))
      · cases r₂ with
        | error e => exact hr₂
        | ok fl₂ =>
        cases fl₂ with
        | ret r =>
          obtain ⟨rfl, h', tk, rfl, hS', hk'⟩ := hr₂
          repeat (any_goals (first | assumption | wp_step))
          exact h _ _ hS' hk'
        | _ => exact hr₂.elim
    | _ => exact hr.elim))
end
section
variable {X : Cx}
def rSetTx (K : PySem.W.Frag) (P : Program) (w : World) : List V → Hp → VK → Prop := fun xs H Q => ∃ (l : Addr) (zs : List Str), xs = [.ref l] ∧ SqL K H l (zs.map V.str) ∧ zs.length < 1000 ∧ ∀ p, H p = none → Q (.ref p) (upd H p (SetSO P w p (insL zs zs.length)))
theorem cr_setTx (hc : X.calm = true) : CallR X (.type "set") (rSetTx X.K X.prog X.w) := by
  intro pins s σ H xs us Q I r h
  obtain ⟨l, zs, rfl, hq, h1, q⟩ := h
  rw [Vals.ref1 r]
  obtain ⟨its, rv, pl, hz⟩ := I.list hq
  have hlen : its.toArray.size = zs.length := by rw [List.size_toArray, ← rv.length, List.length_map]
  refine call_setT (xs := zs) (I.ok.hd hc) pl.isList (by simpa using rv.strs) (by rw [hlen]; unfold scanBound; omega) fun h' tk hS hk => ?_
  rw [hlen] at hS
  obtain ⟨D, at', F⟩ := hS
  have fr : H s.heap.objs.size = none := I.hok.fresh (Nat.le_refl _)
  exact ⟨.ref s.heap.objs.size, upd H s.heap.objs.size (SetSO X.prog X.w s.heap.objs.size (insL zs zs.length)), I.laid (t' := tk) (fun b o e => hk b o (Heap.lt_size e) e) (Nat.le_refl _) (setSO_new at' F), rfl, q _ fr⟩
end
/-! ## sorted texts -/
theorem rising_all : ∀ {l : List Str} {p : Str}, risingS p l = true → ∀ x ∈ l, ¬ x.cps.toList < p.cps.toList
  | [], _, _, x, h => by cases h
  | y :: r, p, h, x, hx => by
    rw [risingS, Bool.and_eq_true, Bool.not_eq_true', ltCps_eq] at h
    have h1 : ¬ y.cps.toList < p.cps.toList := of_decide_eq_false h.1
    rcases List.mem_cons.mp hx with e | e
    · rw [e]; exact h1
    · exact List.le_trans h1 (rising_all h.2 x e)
theorem sortedS_tail {x : Str} {r : List Str} (h : sortedS (x :: r) = true) : sortedS r = true := by
  cases r with
  | nil => rfl
  | cons y s =>
    have h : risingS x (y :: s) = true := h
    rw [risingS, Bool.and_eq_true] at h
    exact h.2
theorem sorted_same : ∀ {a b : List Str}, a.Perm b → sortedS a = true → sortedS b = true → a = b
  | [], b, p, _, _ => (List.nil_perm.mp p).symm
  | x :: r, [], p, _, _ => absurd p.length_eq (by simp)
  | x :: r, y :: s, p, ha, hb => by
    have ha' : risingS x r = true := ha
    have hb' : risingS y s = true := hb
    have e : x = y := by
      refine str_ext (List.le_antisymm ?_ ?_)
      · rcases List.mem_cons.mp (p.mem_iff.mpr (List.mem_cons_self (a := y))) with z | z
        · rw [z]; exact List.lt_irrefl _
        · exact rising_all ha' y z
      · rcases List.mem_cons.mp (p.mem_iff.mp (List.mem_cons_self (a := x))) with z | z
        · rw [z]; exact List.lt_irrefl _
        · exact rising_all hb' x z
    subst e
    rw [sorted_same (List.perm_cons x |>.mp p) (sortedS_tail ha) (sortedS_tail hb)]
end FT
namespace FT
open PySem PySem.W PySem.Spec PyProof.Rows L2
/-! ## the generators of k30 and its like -/
def spManyP : Sp := fun vs H Q _ => ∃ (p : Addr) (m : Int), vs = [.ref p, .int m] ∧ PuW H p ∧ 9 ≤ m ∧ m < 2 ^ 200 ∧ ∀ r H', 1 ≤ r → r ≤ m → SB [p] H H' → PuW H' p → Q (.int r) H'
def spWood (K : PySem.W.Frag) (n : Nat) : Sp := fun vs H Q _ => ∃ (p l R : Addr) (ks : List Str) (a b low : Nat) (m : Int), vs = [.ref p, .ref l, .ref R, .int (low : Int), .int m] ∧ PuW H p ∧ H l = some (.lst (ks.map V.str)) ∧ H R = some (.lst [.int (a : Int), .int (b : Int)]) ∧ l ≠ p ∧ l ≠ R ∧ R ≠ p ∧ (a ≤ 60 ∧ 1 ≤ b ∧ b ≤ 9) ∧ (1 ≤ low ∧ low ≤ n ∧ low ≤ 12) ∧ (9 ≤ m ∧ m ≤ 10 ^ 30) ∧ (ks.length ≤ 8 ∧ ∀ k ∈ ks, NameOk k) ∧
  ∀ (v : V) (g : Gr) (a' : Nat) (H' : Hp), SB [p, R] H H' → PuW H' p → H' R = some (.lst [.int (a' : Int), .int (b : Int)]) → GA K H' v g → g.Ok (m + 1) → g.parts + a' ≤ a → g.deep ≤ low → (∀ q ∈ g.within, q.1.1 ∈ ks) → Q v H'
/-- a drawn book of these names, in any order -/
def spKindsP (K : PySem.W.Frag) : Sp := fun vs H Q _ => ∃ (a l : Addr) (ns : List Int) (ks : List Str), vs = [.ref a, .ref l] ∧ SqL K H a (ns.map V.int) ∧ ns.length ≤ 63 ∧ H l = some (.lst (ks.map V.str)) ∧ 1 ≤ ks.length ∧ ks.length ≤ 8 ∧ ks.Nodup ∧ (∀ k ∈ ks, NameOk k) ∧
  ∀ (d : Addr) (xs : List V) (b : Bk) (H' : Hp), SB [] H H' → H d = none → H' d = some (.lst xs) → KdAll K H' [d] xs b → b.Ok → b.names.Perm ks → Q (.ref d) H'
/-- the kind of a name -/
def spKindP (K : PySem.W.Frag) : Sp := fun vs H Q _ => ∃ (l : Addr) (xs : List V) (b : Bk) (k : Kd), vs = [.ref l, .str k.n] ∧ H l = some (.lst xs) ∧ KdAll K H [] xs b ∧ k ∈ b ∧ b.names.Nodup ∧ b.length ≤ 8 ∧ ∀ (v : V) (H' : Hp), SB [] H H' → KdA K H' [] v k → Q v H'
theorem step_inj {b s i j : Nat} (hs : s = 1 ∨ s = 3 ∨ s = 5 ∨ s = 7 ∨ s = 9 ∨ s = 11 ∨ s = 15 ∨ s = 17) (hi : i < 8) (hj : j < 8) (e : (b + s * i) % 26 = (b + s * j) % 26) : i = j := by
  rcases hs with rfl | rfl | rfl | rfl | rfl | rfl | rfl | rfl <;> omega
/-! ## a set comprehension by what the turns leave -/
section
variable {J : It} {n : Nat} {G : Hp → Prop} {Y : Nat → Hp → V → Hp → Prop} {P : Program} {w' : World}
theorem SetSO.noTup {a : Addr} {l : List Str} : (∀ xs, SetSO P w' a l ≠ .tup xs) ∧ ∀ u v, SetSO P w' a l ≠ .frz u v := ⟨(fun _ z => nomatch z), (fun _ _ z => nomatch z)⟩
theorem sc_seq (w : Walk J n G Y) {g : TG} {tt : TT} {te : TE} {vs : List Nat} {σ : L2.St} {H : Hp} {D : Addr} {Qd : Hp → Prop} (hD : H D = none) (hn : n + 1 < scanBound) (R : Nat → List Str → Hp → Prop) (h0 : R 0 [] H) (hG : ∀ H2, SB [] H H2 → G H2)
    (st : ∀ i us H2 H3, SB [D] H2 H3 → R i us H2 → R i us H3)
    (turn : ∀ (Pv : Hp → Prop) i x H2 H' us, i < n → SB [] H H2 → Y i H2 x H' → R i us H2 → us.length ≤ i → (∀ z H5, SB [] H2 H5 → R (i + 1) (insS z us) H5 → ∃ (z' : Str) (l : List Str), V.str z = .str z' ∧ H5 D = some (SetSO P w' D l) ∧ l.length + 1 < scanBound ∧ Pv (upd H5 D (SetSO P w' D (insS z' l)))) →
      (∀ H4, SB [] H2 H4 → R (i + 1) us H4 → Pv H4) → g x (wipe σ vs) H' fun σ2 H3 => wipe σ2 vs = wipe σ vs ∧ tt σ2 H3 fun b H4 =>
        if b = true then te σ2 H4 fun y H5 => ∃ (z : Str) (l : List Str), y = .str z ∧ H5 D = some (SetSO P w' D l) ∧ l.length + 1 < scanBound ∧ Pv (upd H5 D (SetSO P w' D (insS z l))) else Pv H4)
    (done : ∀ us H2, SB [] H H2 → H2 D = some (SetSO P w' D us) → R n us H2 → us.length ≤ n → Qd H2) :
    ∃ W : Nat → Nat → Hp → Prop, (∃ m, W 0 m (upd H D (SetSO P w' D []))) ∧ ∀ i m Hi, W i m Hi →
      (J.stop i Hi ∧ Qd Hi) ∨ (J.go i Hi ∧ ∃ Nx : Hp → Prop, (∀ H', Nx H' → ∃ m', m' < m ∧ W (i + 1) m' H') ∧ ∀ x H', J.yld i Hi x H' → g x (wipe σ vs) H' fun σ2 H2 => wipe σ2 vs = wipe σ vs ∧ tt σ2 H2 fun b H3 =>
        if b = true then te σ2 H3 fun y H4 => ∃ (z : Str) (l : List Str), y = .str z ∧ H4 D = some (SetSO P w' D l) ∧ l.length + 1 < scanBound ∧ Nx (upd H4 D (SetSO P w' D (insS z l))) else Nx H3) := by
  refine lcG (body := fun Nx x H' => g x (wipe σ vs) H' fun σ2 H2 => wipe σ2 vs = wipe σ vs ∧ tt σ2 H2 fun b H3 =>
        if b = true then te σ2 H3 fun y H4 => ∃ (z : Str) (l : List Str), y = .str z ∧ H4 D = some (SetSO P w' D l) ∧ l.length + 1 < scanBound ∧ Nx (upd H4 D (SetSO P w' D (insS z l))) else Nx H3) w (fun i H2 => SB [D] H H2 ∧ ∃ us, H2 D = some (SetSO P w' D us) ∧ R i us H2 ∧ us.length ≤ i) ⟨SB.new hD _, [], upd_same, st _ _ _ _ (SB.new hD _) h0, Nat.le_refl _⟩ (fun i H2 _ h => hG H2 (h.1.drop hD)) (fun i x H2 H' hi h y => ?_) (fun H2 h => ?_)
  · obtain ⟨s2, us, hD2, hR, hl⟩ := h
    refine turn _ i x H2 H' us hi (s2.drop hD) y hR hl (fun z H5 s5 r5 => ?_) (fun H4 s4 r4 => ⟨s2.trans s4.nil, us, s4.keep _ _ hD2 List.not_mem_nil, r4, by omega⟩)
    have hD5 := s5.keep _ _ hD2 List.not_mem_nil
    have t6 : SB [D] H5 (upd H5 D (SetSO P w' D (insS z us))) := SB.setG hD5 (by simp) SetSO.noTup.1 SetSO.noTup.2 _
    refine ⟨z, us, rfl, hD5, by omega, (s2.trans s5.nil).trans t6, _, upd_same, st _ _ _ _ t6 r5, ?_⟩
    have := insS_len z us
    omega
  · obtain ⟨s2, us, hD2, hR, hl⟩ := h
    exact done us H2 (s2.drop hD) hD2 hR hl
end
/-! ## what the program tells of choices -/
/-- the kinds that stand in a grove, sorted -/
def spKindsW (K : PySem.W.Frag) : Sp := fun vs H Q _ => ∃ (v : V) (g : Gr), vs = [v] ∧ GA K H v g ∧ g.deep < 20 ∧ g.parts ≤ 60 ∧ (∀ x ∈ g.within, NameOk x.1.1) ∧ ∀ (l : Addr) (ss : List Str) (H' : Hp), SB [] H H' → H l = none → H' l = some (.lst (ss.map V.str)) → sortedS ss = true → ss.Nodup → ss.length ≤ 60 → (∀ k, k ∈ ss ↔ k ∈ g.within.map (·.1.1)) → Q (.ref l) H'
def spRulesN (K : PySem.W.Frag) (C N : Addr) : Sp := fun vs H Q E => ∃ (v : V) (b : Bk) (n : Str), vs = [v, .str n] ∧ BkA K C H v b ∧ b.length ≤ 1000 ∧ (∀ k ∈ b, k.rs.length ≤ 1000) ∧
  kindOr N b n H E fun k => ∀ (l : Addr) (us : List V) (H' : Hp), SB [] H H' → H l = none → H' l = some (.lst us) → Bears K H' Ru.enc us ((.nil, .nil) :: k.rs) → Q (.ref l) H'
def spCheckKs (K : PySem.W.Frag) (C N : Addr) : Sp := fun vs H Q E => ∃ (v w : V) (b : Bk) (g : Gr), vs = [v, w] ∧ BkA K C H v b ∧ GA K H w g ∧ b.length ≤ 1000 ∧ g.deep < 20 ∧ g.parts ≤ 60 ∧ (∀ x ∈ g.within, NameOk x.1.1) ∧ (∀ x ∈ g.within, x.1.1 ∈ b.names) ∧ ∀ H', SB [] H H' → Q .non H'
/-- a place and the number of a rule -/
def chE (c : Pl × Nat) : PyData := .tuple [plEnc c.1, .int (c.2 : Int)]
theorem chE_noList (c : Pl × Nat) : noList (chE c) = true := by simp [chE, noList, noLists, pl_noList]
/-- the bare places of a grove, each with the kind there -/
def Gr.bk : Gr → Nat → List (Pl × Str)
  | .nil, _ => []
  | .cons k g _ r, i => (if g = .nil then [([i], k)] else (g.bk 0).map fun x => (i :: x.1, x.2)) ++ r.bk (i + 1)
def Bk.cnt (b : Bk) (n : Str) : Nat := match b.get n with
  | some k => 1 + k.rs.length
  | none => 0
def chs (b : Bk) (x : Pl × Str) : List (Pl × Nat) := (List.range (b.cnt x.2)).map fun r => (x.1, r)
def spChoices (K : PySem.W.Frag) (C N : Addr) : Sp := fun vs H Q E => ∃ (v w : V) (b : Bk) (g : Gr), vs = [v, w] ∧ BkA K C H v b ∧ GA K H w g ∧ b.Ok ∧ g.deep < 20 ∧ g.parts ≤ 60 ∧ (∀ x ∈ g.within, NameOk x.1.1) ∧ (∀ x ∈ g.within, x.1.1 ∈ b.names) ∧ ∀ (l : Addr) (us : List V) (H' : Hp), SB [] H H' → H l = none → H' l = some (.lst us) → Bears K H' chE us ((g.bk 0).flatMap (chs b)) → Q (.ref l) H'
def spGroveP (K : PySem.W.Frag) : Sp := fun vs H Q _ => ∃ (a l : Addr) (ns : List Int) (ks : List Str), vs = [.ref a, .ref l] ∧ SqL K H a (ns.map V.int) ∧ ns.length ≤ 63 ∧ H l = some (.lst (ks.map V.str)) ∧ ks.length ≤ 8 ∧ (∀ k ∈ ks, NameOk k) ∧ ∀ (v : V) (g : Gr) (H' : Hp), SB [] H H' → GA K H' v g → g.Ok (10 ^ 30 + 1) → g.parts ≤ 60 → g.deep ≤ 12 → (∀ x ∈ g.within, x.1.1 ∈ ks) → Q v H'
def bkE (x : Pl × Str) : PyData := .tuple [plEnc x.1, .str x.2]
theorem bkE_noList (x : Pl × Str) : noList (bkE x) = true := by simp [bkE, noList, noLists, pl_noList]
def spBareL (K : PySem.W.Frag) (n : Nat) : Sp := fun vs H Q _ => ∃ (v u : V) (g : Gr) (pl : Pl), vs = [v, u] ∧ GA K H v g ∧ Dp K H u (plEnc pl) ∧ g.deep < n ∧ g.deep + pl.length ≤ 20 ∧ g.parts ≤ 60 ∧ g.Ok (10 ^ 31) ∧ ∀ (l : Addr) (us : List V) (H' : Hp), SB [] H H' → H l = none → H' l = some (.lst us) → Bears K H' bkE us ((g.bk 0).map fun x => (pl ++ x.1, x.2)) → Q (.ref l) H'
def spIsCh (K : PySem.W.Frag) : Sp := fun vs H Q _ => ∃ (v : V) (pl : Pl) (r : Nat), vs = [v] ∧ Dp K H v (chE (pl, r)) ∧ pl.length ≤ 100 ∧ ∀ H', SB [] H H' → Q (.bl true) H'
end FT
namespace FT
open PySem PySem.W PySem.Spec PyProof.Rows L2
/-! ## enumerate(l, start=1), l a list -/
section
variable {M : Model} {A : Around} {E : Value → Shared → Prop} {s : Shared} {env : Env}
theorem CallK_ {func : Expr} {args : List Expr} {kws : List Keyword} {pos : Pos} {Q : Value → Shared → Prop}
    (h : wpAny M A (eval func env) (fun f s₁ => wpAny M A (callWith pos f [] (backTo pos (starEach args env)) (backToKw pos (keywordEach kws env))) Q E s₁) E s)
    (he : eval (.Call func args kws pos) env = (do callWith pos (← eval func env) [] (backTo pos (starEach args env)) (backToKw pos (keywordEach kws env))) := by rfl) :
    wpAny M A (eval (.Call func args kws pos) env) Q E s := by
  rw [he]; exact wpAny_bind h
theorem callWith_typeK {pos : Pos} {T : String} {e : Expr} {rest : List Expr} {kws : List Keyword} {Q : Value → Shared → Prop}
    (h : wpAny M A (spliced (backTo pos (starEach (e :: rest) env))) (fun vs s₁ => wpAny M A (evalAll ((backToKw pos (keywordEach kws env)).map (·.2)))
      (fun kvs s₂ => wpAny M A (call (.type T) vs (((backToKw pos (keywordEach kws env)).filterMap (·.1)).zip kvs)) Q E s₂) E s₁) E s)
    (he : starEach (e :: rest) env = (false, eval e env) :: starEach rest env)
    (hplain : (backTo pos (starEach rest env)).any (·.1) = false)
    (hall : (backToKw pos (keywordEach kws env)).all (·.1.isSome) = true)
    (hkw : (backToKw pos (keywordEach kws env)).any (·.1.isNone) = false) :
    wpAny M A (callWith pos (.type T) [] (backTo pos (starEach (e :: rest) env)) (backToKw pos (keywordEach kws env))) Q E s := by
  rw [he] at h ⊢
  have h2 : (backTo pos ((false, eval e env) :: starEach rest env)).any (·.1) = false := by
    show (false || (backTo pos (starEach rest env)).any (·.1)) = false
    rw [hplain]; rfl
  have h3 : backTo pos ((false, eval e env) :: starEach rest env) = (false, eval e env) :: backTo pos (starEach rest env) := rfl
  rw [h3] at h h2 ⊢
  unfold callWith
  refine wpAny_bind (wpAny_holding (wpAny_mono (evalArgs_kwB (Q := fun a s₁ => wpAny M A (call (.type T) ([] ++ a.pos) a.kw) Q E s₁) hall h) (fun a s₁ h₁ => wpAny_bind (wpAny_standAt ?_)) fun _ _ x => x))
  simp only [h2, hkw, Bool.or_false]
  refine wpAny_bind (wpAny_pure ?_)
  exact wpAny_bind (wpAny_mono h₁ (fun r s₂ hr => wpAny_bind (wpAny_holding (wpAny_point (wpAny_pure hr)))) fun _ _ x => x)
end
/-- the list at a, each item in a new pair with its number, from one -/
def IteS (K : PySem.W.Frag) (a : Addr) : It :=
  ⟨fun i H => ∃ (xs : List V) (x : V), SqL K H a xs ∧ xs[i]? = some x,
    fun i H v H2 => ∃ T x, v = .ref T ∧ H T = none ∧ H2 = upd H T (.tup [.int ((i + 1 : Nat) : Int), x]) ∧ ∀ xs, SqL K H a xs → xs[i]? = some x,
    fun i H => ∃ xs : List V, SqL K H a xs ∧ xs.length = i⟩
theorem turn_enumS {P : Program} {w : World} {K : PySem.W.Frag} {elts : List Expr} {kk : Nat} {tpos : Pos} (a e it : Addr) (hei : e ≠ it) (hai : a ≠ it) (hea : e ≠ a) :
    Turn P w K (.Tuple elts kk tpos) (IteS K a) [e, it] e (fun i h => (∃ old, IsEnum h e it ((i + 1 : Nat) : Int) old) ∧ h.IsListIter it a i) where
  mem := by simp
  obj := fun i h st b hb => by
    obtain ⟨⟨old, he⟩, o, ho, hc, hd⟩ := st
    rcases (show b = e ∨ b = it by simpa using hb) with z | z
    · rw [z]; exact ⟨_, he, fun v q => nomatch q⟩
    · rw [z]; exact ⟨o, ho, fun v q => by rw [hd] at q; cases q⟩
  keep := fun i h h2 st k => let ⟨⟨old, he⟩, hi⟩ := st; ⟨⟨old, k e (by simp) _ he⟩, hi.at fun o q => k it (by simp) o q⟩
  item := by
    intro X hP hw hK hc i pins s σ H E I hf st hg
    subst hP hw hK
    obtain ⟨⟨old, he⟩, hit⟩ := st
    obtain ⟨xs, x, hq, hx⟩ := hg
    obtain ⟨its, rv, p, hz⟩ := I.list hq
    obtain ⟨u, hu, ru⟩ := rv.get hx
    have hel : e < s.heap.objs.size := Heap.lt_size he
    have hil : it < s.heap.objs.size := by obtain ⟨_, z, _⟩ := hit; exact Heap.lt_size z
    have Dr := Draws.list (prog := X.prog) (w := X.w) (A := X.A.in1) (I.ok.hd hc) it a hai its.toArray
    have hlt : i < its.toArray.size := by
      have := (List.getElem?_eq_some_iff.mp hu).1
      simpa using this
    refine wpAny_pyNext_enum_itemC Dr he ⟨hit, p.isList⟩ hlt hei (by simp [hei, hea]) fun y h2 tk hy ho hst hT hsz hk => ?_
    have hyu : y = u := by
      have h3 : its[i]? = some y := by simpa using hy
      rw [hu] at h3; exact (Option.some.inj h3).symm
    subst hyu
    refine ⟨_, rfl, wpAny_letOwnedTupleGo_enum (s := { s with heap := h2, toks := tk + 1 }) ho fun h3 he3 sb => ?_⟩
    have hT2 : h3.get? s.heap.objs.size = some { cls := .type "tuple", data := .seq #[.int ((i + 1 : Nat) : Int) tk, y] } := (sb.2 _ (Nat.ne_of_gt hel)).trans hT
    have nw : ObjOk X.prog X.w (upd H s.heap.objs.size (.tup [.int ((i + 1 : Nat) : Int), x])) h3 s.heap.objs.size (.tup [.int ((i + 1 : Nat) : Int), x]) := ⟨by show 2 ≤ sizeLine; decide, [.int ((i + 1 : Nat) : Int) tk, y], .cons ⟨_, rfl⟩ (.cons ru .nil), ⟨_, hT2, rfl, _, rfl⟩⟩
    have I1 : Inv X pins σ (upd H s.heap.objs.size (.tup [.int ((i + 1 : Nat) : Int), x])) { s with heap := h3, toks := tk + 1 } := I.turnedNew (ch := [e, it]) (fun b ob hb z => (sb.2 b (fun y => hb (by simp [y]))).trans (hk b ob (fun y => hb (by simp [y])) (fun y => hb (by simp [y])) z)) hf (Nat.le_refl _) nw
    refine ⟨.ref s.heap.objs.size, _, I1, rfl, ⟨_, x, rfl, I.hok.fresh (Nat.le_refl _), rfl, fun ys hy => by rw [I.list_inj hy hq]; exact hx⟩, ⟨⟨y, ?_⟩, hst.1.at fun o q => (sb.2 it (Ne.symm hei)).trans q⟩, fun b hb => ?_⟩
    · rw [show ((i + 1 + 1 : Nat) : Int) = ((i + 1 : Nat) : Int) + 1 by omega]; exact he3
    · have hb2 : b < s.heap.objs.size := by
        rcases (show b = e ∨ b = it by simpa using hb) with z | z
        · rw [z]; exact hel
        · rw [z]; exact hil
      rw [upd_ne (Nat.ne_of_lt hb2)]; exact (hf b hb).1
  done := by
    intro X hP hw hK hc i pins s σ H E I hf st hg
    subst hP hw hK
    obtain ⟨⟨old, he⟩, hit⟩ := st
    obtain ⟨xs, hq, hx⟩ := hg
    obtain ⟨its, rv, p, hz⟩ := I.list hq
    obtain ⟨f0, f1, f2, f3, f4, f5⟩ := hf it (by simp)
    have hl := rv.length
    have Dr := Draws.list (prog := X.prog) (w := X.w) (A := X.A.in1) (I.ok.hd hc) it a hai its.toArray
    have hn : its.toArray.size = i := by simp; omega
    refine wpAny_pyNext_enum_endD Dr he ⟨by rw [hn]; exact hit, p.isList⟩ fun h2 eb => ⟨rfl, I.turned (t' := s.toks) (fun b o hb z => eb b o hb z) f0 f1 f3 f4 f5⟩
  self := fun A i s Q E st h => let ⟨⟨_, he⟩, _⟩ := st; wpAny_pyIter_enum he h
def iEnumS (K : PySem.W.Frag) (te : TE) : TI := fun σ H R => te σ H fun v H1 => ∃ a xs, v = .ref a ∧ SqL K H1 a xs ∧ R (IteS K a) H1
theorem pi_enumS {X : Cx} {ex : Expr} {te : TE} {p pos tpos kp cp : Pos} {elts : List Expr} {kk ck : Nat} (hg : Gl X "enumerate") (hm : X.mg "enumerate" = none) (he : PE X ex te) (hs : starEach [ex] X.env = (false, eval ex X.env) :: starEach [] X.env := by rfl) :
    PI X (.Tuple elts kk tpos) (.Call (.Name "enumerate" p) [ex] [⟨some "start", .Constant (.int 1) ck cp, kp⟩] pos) (iEnumS X.K te) := by
  refine ⟨fun pins s σ H R I h => ?_⟩
  refine CallK_ (ld_blt I hg hm boot_enumerate (callWith_typeK (args_cons (thn (he.run pins s σ H _ I h) fun u s1 ⟨v, H1, I1, r1, q1⟩ => args_nil ?_) hs) hs rfl rfl rfl))
  obtain ⟨a, xs, ev, hq, q⟩ := q1
  subst ev
  cases r1
  refine kws_cons (thn ((pe_int (X := X) (i := 1) (j := ck) (pos := cp)).run pins s1 σ H1 (fun v H2 => v = .int 1 ∧ H2 = H1) I1 ⟨rfl, rfl⟩) fun u s2 ⟨v, H2, I2, r2, q2⟩ => kws_nil ?_)
  obtain ⟨rfl, rfl⟩ := q2
  obtain ⟨t, rfl⟩ : ∃ t, u = .int 1 t := r2
  obtain ⟨its, rv, pt, hz⟩ := I2.list hq
  have ht : s2.heap.IsList a its.toArray := pt.isList
  have hal : a < s2.heap.objs.size := by obtain ⟨_, z, _⟩ := ht; exact Heap.lt_size z
  show wpAny _ _ (call (.type "enumerate") [.ref a] [(Str.ofString "start", .int 1 t)]) _ _ _
  refine enum_begins_start (begins_list a its.toArray) ht (by decide) (by decide) fun h2 he2 hit hsz hk => wpAny_pyIter_enum he2 ?_
  have I3 : Inv X pins σ H2 { s2 with heap := h2 } := I2.kept (t' := s2.toks) hk
  refine ⟨s2.heap.objs.size + 1, [s2.heap.objs.size + 1, s2.heap.objs.size], _, _, H2, rfl, I3, turn_enumS a (s2.heap.objs.size + 1) s2.heap.objs.size (Nat.succ_ne_self _) (Nat.ne_of_lt hal) (Nat.ne_of_gt (Nat.lt_succ_of_lt hal)), ⟨⟨.none, he2⟩, ⟨_, hit, rfl, rfl⟩⟩, fun b hb => ?_, q⟩
  have hle : s2.heap.objs.size ≤ b := by
    rcases (show b = s2.heap.objs.size + 1 ∨ b = s2.heap.objs.size by simpa using hb) with z | z
    · rw [z]; exact Nat.le_add_right _ _
    · rw [z]; exact Nat.le_refl _
  exact I2.fpOk hle (I2.hok.fresh hle)
theorem walk_enumS {K : PySem.W.Frag} {a : Addr} {xs : List V} : Walk (IteS K a) xs.length (fun H => SqL K H a xs) (YPair (fun i => some (.int ((i + 1 : Nat) : Int))) (fun i => xs[i]?)) := by
  refine ⟨fun i _ hi q => ⟨xs, xs[i], q, by simp [hi]⟩, fun _ q => ⟨xs, q, rfl⟩, fun i H v H2 _ q y => ?_⟩
  obtain ⟨T, x, h1, h2, h3, h4⟩ := y
  exact ⟨T, .int ((i + 1 : Nat) : Int), x, h1, h2, h3, rfl, h4 xs q⟩
end FT
namespace FT
open PySem PySem.W PySem.Spec PyProof.Rows L2
/-! ## all places of a grove, each with the kind there -/
namespace Gr
def ak : Gr → Nat → List (Pl × Str)
  | .nil, _ => []
  | .cons k g _ r, i => (([i], k) :: (g.ak 0).map fun x => (i :: x.1, x.2)) ++ r.ak (i + 1)
def akP (p : Tr × Int) (i : Nat) : List (Pl × Str) := ([i], p.1.1) :: (p.1.2.ak 0).map fun x => (i :: x.1, x.2)
def aks : List (Tr × Int) → Nat → List (Pl × Str)
  | [], _ => []
  | p :: r, i => akP p i ++ aks r (i + 1)
theorem ak_ps : ∀ (g : Gr) (i : Nat), g.ak i = aks g.ps i
  | .nil, _ => rfl
  | .cons k g m r, i => by show _ ++ r.ak (i + 1) = _ ++ aks r.ps (i + 1); rw [ak_ps r]; rfl
theorem aks_append : ∀ (as bs : List (Tr × Int)) (i : Nat), aks (as ++ bs) i = aks as i ++ aks bs (i + as.length)
  | [], bs, i => by simp [aks]
  | p :: r, bs, i => by
    show akP p i ++ aks (r ++ bs) (i + 1) = _
    rw [aks_append r bs (i + 1)]
    show _ = (akP p i ++ aks r (i + 1)) ++ aks bs (i + (r.length + 1))
    rw [List.append_assoc, show i + 1 + r.length = i + (r.length + 1) by omega]
theorem aks_take {bs : List (Tr × Int)} {i : Nat} {p : Tr × Int} (h : bs[i]? = some p) : aks (bs.take (i + 1)) 0 = aks (bs.take i) 0 ++ akP p i := by
  have hl : i < bs.length := (List.getElem?_eq_some_iff.mp h).1
  rw [List.take_add_one, h, aks_append, List.length_take, Nat.min_eq_left (by omega), Nat.zero_add]
  show _ ++ (akP p i ++ []) = _
  rw [List.append_nil]
theorem ak_kinds : ∀ (g : Gr) (i : Nat), (g.ak i).map (·.2) = g.within.map (·.1.1)
  | .nil, _ => rfl
  | .cons k g m r, i => by
    have h1 := ak_kinds g 0
    have h2 := ak_kinds r (i + 1)
    show ((([i], k) :: (g.ak 0).map fun x => (i :: x.1, x.2)) ++ r.ak (i + 1)).map (·.2) = (((k, g), m) :: (g.within ++ r.within)).map (·.1.1)
    rw [List.map_append, List.map_cons, List.map_map, h2, List.map_cons, List.map_append, ← h1]
    rfl
theorem ak_len (g : Gr) (i : Nat) : (g.ak i).length = g.parts := by
  have := congrArg List.length (ak_kinds g i)
  rw [List.length_map, List.length_map, within_length] at this
  exact this
theorem ak_long : ∀ (g : Gr) (i : Nat), ∀ x ∈ g.ak i, x.1.length ≤ g.deep
  | .nil, _, x, h => by cases h
  | .cons k g m r, i, x, h => by
    have h1 := ak_long g 0
    have h2 := ak_long r (i + 1)
    show x.1.length ≤ max (1 + g.deep) r.deep
    rcases List.mem_append.mp h with h | h
    · rcases List.mem_cons.mp h with h | h
      · rw [h]; show 1 ≤ _; omega
      · obtain ⟨q, hq, rfl⟩ := List.mem_map.mp h
        have := h1 q hq
        show q.1.length + 1 ≤ _; omega
    · have := h2 x h; omega
theorem lk_root {a b : Str} {g : Gr} {os : List (Option Int)} (h : os ≠ []) : lk (a, g) os = lk (b, g) os := by
  cases os with
  | nil => exact absurd rfl h
  | cons o r => rfl
theorem ak_at {G : Gr} : ∀ (g : Gr) (i : Nat), G.ps.drop i = g.ps → ∀ x ∈ g.ak i, plO x.1 ≠ [] ∧ ∃ t : Tr, lk ("", G) (plO x.1) = some t ∧ t.1 = x.2
  | .nil, _, _, x, h => by cases h
  | .cons k g m r, i, hd, x, h => by
    have hd' : G.ps.drop i = ((k, g), m) :: r.ps := hd
    have hi : G.ps[i]? = some ((k, g), m) := by
      have := congrArg (·[0]?) hd'
      simpa using this
    have hs : stp G (some ((i : Nat) : Int)) = some (k, g) := by
      show (if (0 : Int) ≤ ((i : Nat) : Int) then (G.ps[((i : Nat) : Int).toNat]?).map (·.1) else none) = _
      rw [if_pos (by omega), Int.toNat_natCast, hi]; rfl
    rcases List.mem_append.mp h with h | h
    · rcases List.mem_cons.mp h with h | h
      · rw [h]
        refine ⟨by simp [plO], (k, g), ?_, rfl⟩
        show (stp G (some ((i : Nat) : Int))).bind _ = _
        rw [hs]; rfl
      · obtain ⟨q, hq, rfl⟩ := List.mem_map.mp h
        obtain ⟨n1, t, e1, e2⟩ := ak_at (G := g) g 0 rfl q hq
        refine ⟨by simp [plO], t, ?_, e2⟩
        show (stp G (some ((i : Nat) : Int))).bind (fun u => lk u (plO q.1)) = _
        rw [hs]
        show lk (k, g) (plO q.1) = some t
        rw [lk_root (b := "") n1, e1]
    · refine ak_at r (i + 1) ?_ x h
      rw [← List.drop_drop, hd']; rfl
theorem ak_place (g : Gr) : ∀ x ∈ g.ak 0, plO x.1 ≠ [] ∧ ∃ t : Tr, lk ("", g) (plO x.1) = some t ∧ t.1 = x.2 := ak_at g 0 rfl
theorem deep_parts : ∀ g : Gr, g.deep ≤ g.parts
  | .nil => Nat.le_refl _
  | .cons k g m r => by
    have h1 := deep_parts g
    have h2 := deep_parts r
    show max (1 + g.deep) r.deep ≤ 1 + g.parts + r.parts
    omega
theorem bk_ak : ∀ (g : Gr) (i : Nat), ∀ x ∈ g.bk i, x ∈ g.ak i
  | .nil, _, x, h => by cases h
  | .cons k g m r, i, x, h => by
    have h1 := bk_ak g 0
    have h2 := bk_ak r (i + 1)
    rcases List.mem_append.mp h with h | h
    · refine List.mem_append_left _ ?_
      by_cases hg : g = .nil
      · rw [if_pos hg] at h
        rw [show x = ([i], k) by simpa using h]; exact List.mem_cons_self
      · rw [if_neg hg] at h
        obtain ⟨q, hq, rfl⟩ := List.mem_map.mp h
        exact List.mem_cons_of_mem _ (List.mem_map.mpr ⟨q, h1 q hq, rfl⟩)
    · exact List.mem_append_right _ (h2 x h)
theorem bk_bp : ∀ (g : Gr) (i : Nat), (g.bk i).map (·.1) = g.bp i
  | .nil, _ => rfl
  | .cons k g m r, i => by
    have h1 := bk_bp g 0
    have h2 := bk_bp r (i + 1)
    show ((if g = .nil then [([i], k)] else (g.bk 0).map fun x => (i :: x.1, x.2)) ++ r.bk (i + 1)).map (·.1) = (if g = .nil then [[i]] else (g.bp 0).map (i :: ·)) ++ r.bp (i + 1)
    rw [List.map_append, h2]
    by_cases hg : g = .nil
    · rw [if_pos hg, if_pos hg]; rfl
    · rw [if_neg hg, if_neg hg, List.map_map, ← h1, List.map_map]; rfl
end Gr
def spAllP (K : PySem.W.Frag) (n : Nat) : Sp := fun vs H Q _ => ∃ (v : V) (g : Gr), vs = [v] ∧ GA K H v g ∧ g.deep < n ∧ g.deep ≤ 100 ∧ g.parts ≤ 1000 ∧ ∀ (D : Addr) (us : List V) (H' : Hp), SB [] H H' → H D = none → H' D = some (.lst us) → Bears K H' plEnc us ((g.ak 0).map (·.1)) → Q (.ref D) H'
/-! ## the steps of a kind -/
structure Sx where
  n : Str
  i : Nat
  wd : Str
  p : Pl
  k : Str
def Sx.st (s : Sx) : PyData := .tuple [.str s.n, .int (s.i : Int), .str s.wd, plEnc s.p]
def Sx.enc (s : Sx) : PyData := .tuple [s.st, .str s.k]
theorem Sx.noList_st (s : Sx) : noList s.st = true := by simp [Sx.st, noList, noLists, pl_noList]
theorem Sx.noList_enc (s : Sx) : noList s.enc = true := by simp [Sx.enc, noList, noLists, Sx.noList_st]
def stG (n : Str) (i : Nat) (wd : Str) (g : Gr) : List Sx := (g.ak 0).map fun x => ⟨n, i, wd, x.1, x.2⟩
def stR (n : Str) (x : Ru × Nat) : List Sx := stG n x.2 "once" x.1.1 ++ stG n x.2 "each" x.1.2
def Kd.steps (k : Kd) : List Sx := (k.rs.zipIdx 1).flatMap (stR k.n)
/-- the kinds that stand in the rules -/
def ledR (rs : List Ru) : List Str := rs.flatMap fun r => r.within.map (·.1.1)
theorem stG_kinds (n : Str) (i : Nat) (wd : Str) (g : Gr) : (stG n i wd g).map (·.k) = g.within.map (·.1.1) := by
  unfold stG
  rw [List.map_map, ← Gr.ak_kinds g 0]; rfl
theorem stG_len (n : Str) (i : Nat) (wd : Str) (g : Gr) : (stG n i wd g).length = g.parts := by
  unfold stG
  rw [List.length_map, Gr.ak_len]
theorem stR_kinds (n : Str) (x : Ru × Nat) : (stR n x).map (·.k) = x.1.within.map (·.1.1) := by
  unfold stR Ru.within
  rw [List.map_append, List.map_append, stG_kinds, stG_kinds]
theorem stR_len (n : Str) (x : Ru × Nat) : (stR n x).length = x.1.1.parts + x.1.2.parts := by
  unfold stR
  rw [List.length_append, stG_len, stG_len]
theorem steps_from (n : Str) : ∀ (rs : List Ru) (i : Nat), ((rs.zipIdx i).flatMap (stR n)).map (·.k) = ledR rs
  | [], _ => rfl
  | r :: rs, i => by
    rw [List.zipIdx_cons, List.flatMap_cons, List.map_append, steps_from n rs (i + 1), stR_kinds]
    rfl
theorem Kd.steps_kinds (k : Kd) : k.steps.map (·.k) = ledR k.rs := steps_from _ _ _
theorem stR_le (n : Str) : ∀ (xs : List (Ru × Nat)), (∀ x ∈ xs, x.1.1.parts + x.1.2.parts ≤ 4) → (xs.flatMap (stR n)).length ≤ 4 * xs.length
  | [], _ => Nat.le_refl _
  | x :: xs, h => by
    have h1 := stR_le n xs fun y hy => h y (List.mem_cons_of_mem _ hy)
    have h2 := h x List.mem_cons_self
    rw [List.flatMap_cons, List.length_append, stR_len, List.length_cons]
    omega
theorem Kd.steps_len {k : Kd} (h4 : k.rs.length ≤ 4) (h : ∀ r ∈ k.rs, RuOk r) : k.steps.length ≤ 16 := by
  have := stR_le k.n (k.rs.zipIdx 1) fun x hx => (h x.1 (by
    have := List.mem_zipIdx hx
    rw [this.2.2]; exact List.getElem_mem _)).2.2
  rw [List.length_zipIdx] at this
  show ((k.rs.zipIdx 1).flatMap (stR k.n)).length ≤ 16
  omega
def spStepsIn (K : PySem.W.Frag) : Sp := fun vs H Q _ => ∃ (n wd : Str) (i : Nat) (v : V) (g : Gr), vs = [.str n, .int (i : Int), .str wd, v] ∧ GA K H v g ∧ g.deep < 20 ∧ g.parts ≤ 60 ∧ ∀ (l : Addr) (us : List V) (H' : Hp), SB [] H H' → H l = none → H' l = some (.lst us) → Bears K H' Sx.enc us (stG n i wd g) → Q (.ref l) H'
def spStepsOf (K : PySem.W.Frag) (C N : Addr) : Sp := fun vs H Q E => ∃ (v : V) (b : Bk) (n : Str), vs = [v, .str n] ∧ BkA K C H v b ∧ b.Ok ∧
  kindOr N b n H E fun k => ∀ (l : Addr) (us : List V) (H' : Hp), SB [] H H' → H l = none → H' l = some (.lst us) → Bears K H' Sx.enc us k.steps → Q (.ref l) H'
/-- the texts of ks, each once, sorted -/
structure SrtOf (ss ks : List Str) : Prop where
  srt : sortedS ss = true
  nd : ss.Nodup
  mem : ∀ x, x ∈ ss ↔ x ∈ ks
theorem SrtOf.same {a b ks : List Str} (h : SrtOf a ks) (g : SrtOf b ks) : a = b :=
  sorted_same ((List.perm_ext_iff_of_nodup h.nd g.nd).mpr fun x => (h.mem x).trans (g.mem x).symm) h.srt g.srt
theorem insS_nodup {x : Str} {l : List Str} (h : l.Nodup) : (insS x l).Nodup := by
  unfold insS
  split
  · exact h
  · rename_i hx
    exact List.nodup_cons.mpr ⟨hx, h⟩
theorem insL_nodup (xs : List Str) : ∀ i, (insL xs i).Nodup := by
  intro i
  induction i with
  | zero => exact List.nodup_nil
  | succ i ih =>
    exact insS_nodup ih
theorem SrtOf.perm {ss l ks : List Str} (pm : ss.Perm l) (s : sortedS ss = true) (nd : l.Nodup) (h : ∀ x, x ∈ l ↔ x ∈ ks) : SrtOf ss ks :=
  ⟨s, pm.nodup_iff.mpr nd, fun x => pm.mem_iff.trans (h x)⟩
def spLeads (K : PySem.W.Frag) (C N : Addr) : Sp := fun vs H Q E => ∃ (v : V) (b : Bk) (n : Str), vs = [v, .str n] ∧ BkA K C H v b ∧ b.Ok ∧
  kindOr N b n H E fun k => ∀ (l : Addr) (ss : List Str) (H' : Hp), SB [] H H' → H l = none → H' l = some (.lst (ss.map V.str)) → SrtOf ss (ledR k.rs) → Q (.ref l) H'
def spStand (K : PySem.W.Frag) (n : Nat) : Sp := fun vs H Q _ => ∃ (v : V) (g : Gr), vs = [v] ∧ GA K H v g ∧ g.deep < n ∧ g.parts ≤ 60 ∧ ∀ (l : Addr) (H' : Hp), SB [] H H' → H l = none → H' l = some (.lst ((g.within.map (·.1.1)).map V.str)) → Q (.ref l) H'
def spLed (K : PySem.W.Frag) : Sp := fun vs H Q _ => ∃ (l : Addr) (zs : List V) (rs : List Ru), vs = [.ref l] ∧ H l = some (.lst zs) ∧ Bears K H Ru.enc zs rs ∧ rs.length ≤ 4 ∧ (∀ r ∈ rs, RuOk r) ∧ ∀ (d : Addr) (ss : List Str) (H' : Hp), SB [] H H' → H d = none → H' d = some (.lst (ss.map V.str)) → SrtOf ss (ledR rs) → Q (.ref d) H'
theorem ledR_len : ∀ (rs : List Ru), (∀ r ∈ rs, RuOk r) → (ledR rs).length ≤ 4 * rs.length
  | [], _ => Nat.le_refl _
  | r :: rs, h => by
    have h1 := ledR_len rs fun y hy => h y (List.mem_cons_of_mem _ hy)
    have h2 := (h r List.mem_cons_self).2.2
    show (r.within.map (·.1.1) ++ ledR rs).length ≤ 4 * (rs.length + 1)
    have h3 : r.within.length = r.1.parts + r.2.parts := by
      unfold Ru.within
      rw [List.length_append, Gr.within_length, Gr.within_length]
    rw [List.length_append, List.length_map]
    omega
def spGood24 (K : PySem.W.Frag) (C : Addr) : Sp := fun vs H Q _ => ∃ (v : V) (b : Bk) (l : Addr) (xs : List V), vs = [v, .ref l] ∧ BkA K C H v b ∧ H l = some (.lst xs) ∧ KdAll K H [] xs b ∧ b.Ok ∧ ∀ H', SB [] H H' → Q (.bl true) H'
end FT
namespace FT
open PySem PySem.W PySem.Spec PyProof.Rows L2
/-! ## lists of plain data -/
theorem plain_shaped {ds : List PyData} (h : plSs ds = true) (hd : PyData.depthAll ds ≤ 60) : SeqAt.shaped (.list ds) = true := by
  unfold SeqAt.shaped
  rw [PyData.canLay0, plSs_lay _ h, Bool.true_and]
  have : (PyData.list ds).depth = PyData.depthAll ds + 1 := by simp [PyData.depth]
  exact decide_eq_true (by omega)
theorem plain_eqv {ds : List PyData} (h : plSs ds = true) : PyData.eqv (.list ds) (.list ds) = true := eqv_refl_alike _ (by rw [alike]; exact alikes_pl _ h)
theorem strs_pl : ∀ {ss : List Str}, (∀ s ∈ ss, NameOk s) → plSs (ss.map PyData.str) = true
  | [], _ => by simp [plSs]
  | s :: ss, h => by
    rw [List.map_cons, plSs, strs_pl fun x hx => h x (List.mem_cons_of_mem _ hx), plS, Gr.strOk_name (h s List.mem_cons_self)]; rfl
theorem strs_depth (ss : List Str) : PyData.depthAll (ss.map PyData.str) = 0 := by
  induction ss with
  | nil => simp [PyData.depthAll]
  | cons s ss ih => rw [List.map_cons, PyData.depthAll, ih]; simp [PyData.depth]
theorem strs_dp (K : PySem.W.Frag) (H : Hp) : ∀ ss : List Str, DpAll K H (ss.map V.str) (ss.map PyData.str)
  | [] => .nil
  | s :: ss => .cons (.str _) (strs_dp K H ss)
theorem strs_shaped {ss : List Str} (h : ∀ s ∈ ss, NameOk s) : SeqAt.shaped (.list (ss.map PyData.str)) = true := plain_shaped (strs_pl h) (by rw [strs_depth]; omega)
/-! ## a book with its rules moved by one kind -/
def kd0 : Kd := ⟨"", false, []⟩
def Bk.tk (b : Bk) (j : Nat) : Kd := ⟨(b.getD j kd0).n, (b.getD j kd0).w, (b.getD ((j + 1) % b.length) kd0).rs⟩
def Bk.turn (b : Bk) : Bk := (List.range b.length).map b.tk
theorem Bk.getD_at {b : Bk} {j : Nat} {k : Kd} (h : b[j]? = some k) : b.getD j kd0 = k := by rw [List.getD_eq_getElem?_getD, h]; rfl
theorem Bk.turn_names (b : Bk) : b.turn.names = b.names := by
  refine List.ext_getElem? fun i => ?_
  unfold Bk.names Bk.turn
  rw [List.map_map, List.getElem?_map, List.getElem?_map]
  by_cases h : i < b.length
  · rw [List.getElem?_range h]
    show some (b.getD i kd0).n = _
    rw [Bk.getD_at (List.getElem?_eq_getElem h), List.getElem?_eq_getElem h]; rfl
  · rw [List.getElem?_eq_none (by rw [List.length_range]; omega), List.getElem?_eq_none (by omega)]; rfl
theorem Bk.turn_len (b : Bk) : b.turn.length = b.length := by unfold Bk.turn; rw [List.length_map, List.length_range]
theorem Bk.Ok.turn {b : Bk} (ok : b.Ok) : b.turn.Ok := by
  have p := ok.pos
  refine ⟨by rw [b.turn_len]; exact p, by rw [b.turn_len]; exact ok.len, by rw [b.turn_names]; exact ok.nd, fun k hk => ?_⟩
  obtain ⟨j, hj, rfl⟩ := List.mem_map.mp hk
  have hj : j < b.length := List.mem_range.mp hj
  have hm : (j + 1) % b.length < b.length := Nat.mod_lt _ (by omega)
  obtain ⟨n1, _⟩ := ok.kd _ (List.getElem_mem hj)
  obtain ⟨_, h2, h3⟩ := ok.kd _ (List.getElem_mem hm)
  show KdOk _ ⟨(b.getD j kd0).n, (b.getD j kd0).w, (b.getD ((j + 1) % b.length) kd0).rs⟩
  rw [Bk.getD_at (List.getElem?_eq_getElem hj), Bk.getD_at (List.getElem?_eq_getElem hm), b.turn_names]
  exact ⟨n1, h2, h3⟩
theorem Bk.Ok.led {b : Bk} (ok : b.Ok) {k : Kd} (hk : k ∈ b) : ∀ x ∈ ledR k.rs, x ∈ b.names := fun x hx => by
  obtain ⟨r, hr, hx⟩ := List.mem_flatMap.mp hx
  obtain ⟨p, hp, rfl⟩ := List.mem_map.mp hx
  exact ((ok.kd k hk).2.2 r hr).2 p hp
theorem Bk.Ok.names {b : Bk} (ok : b.Ok) : ∀ x ∈ b.names, NameOk x := fun x hx => by
  obtain ⟨k, hk, rfl⟩ := List.mem_map.mp hx
  exact (ok.kd k hk).1
end FT
namespace FT
open PySem PySem.W PySem.Spec PyProof.Rows L2
/-! ## the constant ((), ()) -/
def emptyB (K : PySem.W.Frag) (x : Addr) : Bool := match K.lookup x with
  | some o => (match o.cls, o.data with
    | .type t, .seq its _ => decide (t = "tuple") && decide (its.toList.length = 0)
    | _, _ => false)
  | none => false
def no2B (K : PySem.W.Frag) (a : Addr) : Bool := match K.lookup a with
  | some o => (match o.cls, o.data with
    | .type t, .seq its _ => decide (t = "tuple") && (match its.toList with
      | [.ref x, .ref y] => emptyB K x && emptyB K y
      | _ => false)
    | _, _ => false)
  | none => false
theorem emptyB_ok {K : PySem.W.Frag} {x : Addr} (h : emptyB K x = true) (H : Hp) : SqT K H x [] := by
  unfold emptyB at h
  split at h
  · rename_i o ho
    split at h
    · rename_i t its n hc hd
      rw [Bool.and_eq_true, decide_eq_true_eq, decide_eq_true_eq] at h
      have hz : its.size = 0 := by simpa using h.2
      have he : its.toList = [] := List.length_eq_zero_iff.mp h.2
      refine .inr ⟨o, its, n, ho, by rw [hc, h.1], hd, by rw [hz]; exact Nat.zero_le _, by rw [he]; exact .nil⟩
    · cases h
  · cases h
theorem no2B_ok {K : PySem.W.Frag} {a : Addr} (h : no2B K a = true) (H : Hp) : Dp K H (.ref a) (Ru.enc (.nil, .nil)) := by
  unfold no2B at h
  split at h
  · rename_i o ho
    split at h
    · rename_i t its n hc hd
      rw [Bool.and_eq_true, decide_eq_true_eq] at h
      obtain ⟨h1, h2⟩ := h
      split at h2
      · rename_i x y he
        rw [Bool.and_eq_true] at h2
        have hz : its.size = 2 := by have := congrArg List.length he; simpa using this
        have hs : SqT K H a [.ref x, .ref y] := .inr ⟨o, its, n, ho, by rw [hc, h1], hd, by rw [hz]; decide, by rw [he]; exact .cons rfl (.cons rfl .nil)⟩
        exact .tup hs (.cons (.tup (emptyB_ok h2.1 H) .nil) (.cons (.tup (emptyB_ok h2.2 H) .nil) .nil))
      · cases h2
    · cases h
  · cases h
/-! ## the bare places with their kinds, row by row -/
namespace Gr
def bkP (p : Tr × Int) (i : Nat) : List (Pl × Str) := if p.1.2 = .nil then [([i], p.1.1)] else (p.1.2.bk 0).map fun x => (i :: x.1, x.2)
def bks : List (Tr × Int) → Nat → List (Pl × Str)
  | [], _ => []
  | p :: r, i => bkP p i ++ bks r (i + 1)
theorem bk_ps : ∀ (g : Gr) (i : Nat), g.bk i = bks g.ps i
  | .nil, _ => rfl
  | .cons k g m r, i => by show _ ++ r.bk (i + 1) = _ ++ bks r.ps (i + 1); rw [bk_ps r]; rfl
theorem bks_append : ∀ (as bs : List (Tr × Int)) (i : Nat), bks (as ++ bs) i = bks as i ++ bks bs (i + as.length)
  | [], bs, i => by simp [bks]
  | p :: r, bs, i => by
    show bkP p i ++ bks (r ++ bs) (i + 1) = _
    rw [bks_append r bs (i + 1)]
    show _ = (bkP p i ++ bks r (i + 1)) ++ bks bs (i + (r.length + 1))
    rw [List.append_assoc, show i + 1 + r.length = i + (r.length + 1) by omega]
theorem bks_take {bs : List (Tr × Int)} {i : Nat} {p : Tr × Int} (h : bs[i]? = some p) : bks (bs.take (i + 1)) 0 = bks (bs.take i) 0 ++ bkP p i := by
  have hl : i < bs.length := (List.getElem?_eq_some_iff.mp h).1
  rw [List.take_add_one, h, bks_append, List.length_take, Nat.min_eq_left (by omega), Nat.zero_add]
  show _ ++ (bkP p i ++ []) = _
  rw [List.append_nil]
theorem bk_len (g : Gr) (i : Nat) : (g.bk i).length ≤ g.parts := by
  have h := congrArg List.length (bk_bp g i)
  rw [List.length_map] at h
  rw [h]; exact bp_len g i
theorem bk_long (g : Gr) (i : Nat) : ∀ x ∈ g.bk i, x.1.length ≤ g.deep := fun x hx => ak_long g i x (bk_ak g i x hx)
theorem enc_eq_nil (g : Gr) : PyData.eqv g.enc (.tuple []) = decide (g = .nil) := by
  cases g with
  | nil => simp [enc, encs, PyData.eqv, PyData.eqvAll]
  | cons k g m r => simp [enc, encs, PyData.eqv, PyData.eqvAll]
end Gr
/-! ## a drawn book in any order -/
theorem KdAll.erase {K : PySem.W.Frag} {H : Hp} {bad : List Addr} : ∀ {vs : List V} {b : Bk} (u : Nat), KdAll K H bad vs b → KdAll K H bad (vs.eraseIdx u) (b.eraseIdx u)
  | _, _, _, .nil => .nil
  | _, _, 0, .cons _ t => t
  | _, _, u + 1, .cons h t => .cons h (KdAll.erase u t)
theorem KdAll.bad1 {K : PySem.W.Frag} {H : Hp} {bad : List Addr} {p : Addr} (hp : H p = none) : ∀ {vs : List V} {b : Bk}, KdAll K H bad vs b → KdAll K H (p :: bad) vs b
  | _, _, .nil => .nil
  | _, _, .cons ⟨t, l, zs, e, h1, h2, h3, h4⟩ r => .cons ⟨t, l, zs, e, h1, h2, h3, fun z => by
      rcases List.mem_cons.mp z with z | z
      · rw [z, hp] at h2; cases h2
      · exact h4 z⟩ (KdAll.bad1 hp r)
theorem Bk.Ok.of_perm {b : Bk} {ks : List Str} (k1 : 1 ≤ ks.length) (k8 : ks.length ≤ 8) (nd : ks.Nodup) (pm : b.names.Perm ks) (h : ∀ k ∈ b, KdOk ks k) : b.Ok := by
  have hl : b.length = ks.length := by have := pm.length_eq; rwa [List.length_map] at this
  refine ⟨by omega, by omega, pm.nodup_iff.mpr nd, fun k hk => ?_⟩
  obtain ⟨h1, h2, h3⟩ := h k hk
  exact ⟨h1, h2, fun r hr => ⟨(h3 r hr).1, fun p hp => pm.mem_iff.mpr ((h3 r hr).2 p hp)⟩⟩
end FT
namespace FT
open PySem PySem.W PySem.Spec PyProof.Rows L2
theorem SB.drops : ∀ {ps : List Addr} {H H' : Hp}, SB ps H H' → (∀ p ∈ ps, H p = none) → SB [] H H'
  | [], _, _, e, _ => e
  | p :: ps, _, _, e, h => SB.drops (e.drop (h p List.mem_cons_self)) fun q hq => h q (List.mem_cons_of_mem _ hq)
/-! ## choices as data -/
theorem chE_pl (c : Pl × Nat) : plS (chE c) = true := by
  show plS (.tuple [.tuple (plInts c.1), .int (c.2 : Int)]) = true
  simp [plS, plSs, pl_plain]
theorem chs_pl : ∀ cs : List (Pl × Nat), plSs (cs.map chE) = true
  | [] => by simp [plSs]
  | c :: cs => by rw [List.map_cons, plSs, chE_pl, chs_pl cs]; rfl
theorem chE_depth (c : Pl × Nat) : (chE c).depth = 2 := by
  show PyData.depth (.tuple [plEnc c.1, .int (c.2 : Int)]) = 2
  simp [PyData.depth, PyData.depthAll, pl_depth]
theorem chs_shaped (cs : List (Pl × Nat)) : SeqAt.shaped (.list (cs.map chE)) = true := plain_shaped (chs_pl cs) (Nat.le_trans (depths_le (n := 2) fun d hd => by
  obtain ⟨c, _, rfl⟩ := List.mem_map.mp hd
  rw [chE_depth]; omega) (by omega))
/-! ## [(name, wild, list(rules)) for name, wild, rules in kinds] -/
theorem copy_lc {K : PySem.W.Frag} {σ : L2.St} {H : Hp} {kh : Addr} {xs : List V} {b : Bk} {Q : VK} {i a1 a2 a3 : Nat} {vs : List Nat} (hσ : σ[i]? = some (some (.ref kh)))
    (w0 : ∀ x y z : V, wipe ((((wipe σ vs).set a1 (some x)).set a2 (some y)).set a3 (some z)) vs = wipe σ vs)
    (w1 : ∀ x y z : V, ((((wipe σ vs).set a1 (some x)).set a2 (some y)).set a3 (some z))[a1]? = some (some x)) (w2 : ∀ x y z : V, ((((wipe σ vs).set a1 (some x)).set a2 (some y)).set a3 (some z))[a2]? = some (some y)) (w3 : ∀ x y z : V, ((((wipe σ vs).set a1 (some x)).set a2 (some y)).set a3 (some z))[a3]? = some (some z))
    (hkh : H kh = some (.lst xs)) (hb : KdAll K H [] xs b) (b8 : b.length ≤ 8)
    (k : ∀ (D : Addr) (us : List V) (ls : List Addr) (H' : Hp), SB [] H H' → H D = none → H' D = some (.lst us) → KdAll K H' [D] us b → D ∉ ls → (∀ p ∈ ls, H p = none ∧ ∃ zs, H' p = some (.lst zs)) → (∀ u ∈ us, ∃ t x y l, u = .ref t ∧ SqT K H' t [x, y, .ref l] ∧ l ∈ ls) → Q (.ref D) H') :
    tLc (iList K (tVar i)) (gTup K 3 (gCons (gName a1) (gCons (gName a2) (gCons (gName a3) gNil)))) tYes (tTup (tCons (tVar a1) (tCons (tVar a2) (tCons (tCB (rListOf K) (tCons (tVar a3) tNil)) tNil)))) vs σ H Q := by
  have szl := sizeLine_eq
  have xl := hb.length
  refine ⟨_, hσ, kh, rfl, ⟨_, SqL.of hkh⟩, fun D hD => ?_⟩
  refine lc_seqQ (walk_list (xs := xs)) [] hD (by simp) (by omega) (fun i us H2 => ∃ ls : List Addr, KdAll K H2 [D] us (b.take i) ∧ D ∉ ls ∧ (∀ p ∈ ls, H p = none ∧ ∃ zs, H2 p = some (.lst zs)) ∧ ∀ u ∈ us, ∃ t x y l, u = .ref t ∧ SqT K H2 t [x, y, .ref l] ∧ l ∈ ls)
    ⟨[], .nil, by simp, by simp, by simp⟩ (fun H3 s3 => s3.sqL List.not_mem_nil (SqL.of hkh)) (fun i us H2 H3 s3 ⟨ls, h1, h2, h3, h4⟩ => ⟨ls, h1.sb s3 NoLst.self, h2, fun p hp => ⟨(h3 p hp).1, (h3 p hp).2.imp fun zs hz => s3.keep _ _ hz fun z => h2 (by rw [← List.mem_singleton.mp z]; exact hp)⟩, fun u hu => by
      obtain ⟨t, x, y, l, e, h5, h6⟩ := h4 u hu
      exact ⟨t, x, y, l, e, s3.sqT h5, h6⟩⟩) (fun Pv i x Hq H2 us hi s2 y hR hu hD2 fin _ => ?_) (fun us H2 s2 hD2 hR hul => ?_)
  · obtain ⟨rfl, ey⟩ := y
    obtain ⟨ls, g1, g2, g3, g4⟩ := hR
    obtain ⟨k, ek, t, r, zs, rfl, h1, h2, h3, _⟩ := hb.get ey
    refine ⟨t, _, rfl, s2.sqT h1, rfl, _, _, rfl, _, _, rfl, _, _, rfl, rfl, w0 _ _ _, ?_⟩
    refine ⟨_, w1 _ _ _, _, w2 _ _ _, _, w3 _ _ _, r, zs, rfl, .inl (SqL.of (s2.keep _ _ h2 List.not_mem_nil)), fun l' hl' => ⟨by show 3 ≤ sizeLine; decide, fun T hT => ?_⟩⟩
    have t3 := SB.new (ps := []) hl' (.lst zs)
    have hl3 : upd H2 l' (.lst zs) l' = some (.lst zs) := upd_same
    generalize upd H2 l' (.lst zs) = H3 at t3 hl3 hT
    have t4 := SB.new (ps := []) hT (.tup [.str k.n, .bl k.w, .ref l'])
    have t24 := t3.trans t4
    have hl4 := t4.keep _ _ hl3 List.not_mem_nil
    have lD : l' ≠ D := fun z => by rw [z, hD2] at hl'; cases hl'
    refine fin _ _ t24 ⟨ls ++ [l'], ?_, ?_, ?_, ?_⟩
    · rw [List.take_add_one, ek]
      exact (g1.sb t24 NoLst.nil).append (.cons ⟨T, l', zs, rfl, SqT.of upd_same, hl4, h3.sb (s2.trans t24) Ru.noList_enc, by simpa using lD⟩ .nil)
    · intro z
      rcases List.mem_append.mp z with z | z
      · exact g2 z
      · exact lD (List.mem_singleton.mp z).symm
    · intro p hp
      rcases List.mem_append.mp hp with hp | hp
      · exact ⟨(g3 p hp).1, (g3 p hp).2.imp fun zs hz => t24.keep _ _ hz List.not_mem_nil⟩
      · rw [List.mem_singleton.mp hp]
        exact ⟨s2.dom _ hl', zs, hl4⟩
    · intro u hu
      rcases List.mem_append.mp hu with hu | hu
      · obtain ⟨t, x, y, l, e, h5, h6⟩ := g4 u hu
        exact ⟨t, x, y, l, e, t24.sqT h5, List.mem_append_left _ h6⟩
      · rw [List.mem_singleton.mp hu]
        exact ⟨T, _, _, l', rfl, SqT.of upd_same, by simp⟩
  obtain ⟨ls, g1, g2, g3, g4⟩ := hR
  rw [xl, List.take_length] at g1
  exact k D us ls H2 s2 hD hD2 g1 g2 g3 g4
/-! ## step into a term -/
section
variable {σ : L2.St} {H : Hp} {t : TE} {ta tb : TE} {as : TA}
theorem testI {Q : Bool → Hp → Prop} (h : t σ H fun x H' => ∃ k, x = .bl k ∧ Q k H') : tTest t σ H Q := h
theorem opI {r : R2} {Q : VK} (h : ta σ H fun x H1 => tb σ H1 fun y H2 => r x y H2 Q) : tOp r ta tb σ H Q := h
theorem callI {sp : Sp} {dvs : List V} {E : XK} {Q : VK} (h : as σ H fun vs H1 => sp (vs ++ dvs) H1 Q E) : tCall sp dvs E as σ H Q := h
theorem consI {Q : List V → Hp → Prop} (h : t σ H fun x H1 => as σ H1 fun xs H2 => Q (x :: xs) H2) : tCons t as σ H Q := h
theorem makeI {C : Addr} {sp : Sp} {E : L2.St → XK} {Q : VK} (h : as σ H fun vs H1 => ∀ y dx, H1 y = none → H1 dx = none → dx ≠ y → sp (.ref y :: vs) (upd (upd H1 dx (.own y)) y (.ins C dx [])) (fun v H2 => v = .non ∧ Q (.ref y) H2) (E σ)) : tMakeZ C sp E as σ H Q := h
end
theorem make_var {K : PySem.W.Frag} {C B : Addr} {b : Bk} {H : Hp} {l : Addr} {xs : List V} {bad : List Addr} {Q : VK} {E : L2.St → XK} {σ : L2.St} {i : Nat} (hσ : σ[i]? = some (some (.ref l))) (hl : H l = some (.lst xs)) (ha : KdAll K H bad xs b) (ok : b.Ok) (k : ∀ y H', SB [] H H' → H y = none → BkA K C H' (.ref y) b → Q (.ref y) H') :
    tMakeZ C (spBInit K C B) E (tCons (tVar i) tNil) σ H Q := ⟨_, hσ, make_core hl ha ok k⟩
theorem copy_make {K : PySem.W.Frag} {C B : Addr} {E : L2.St → XK} {σ : L2.St} {H : Hp} {kh : Addr} {xs : List V} {b : Bk} {Q : VK} {i a1 a2 a3 : Nat} {vs : List Nat} (hσ : σ[i]? = some (some (.ref kh)))
    (w0 : ∀ x y z : V, wipe ((((wipe σ vs).set a1 (some x)).set a2 (some y)).set a3 (some z)) vs = wipe σ vs)
    (w1 : ∀ x y z : V, ((((wipe σ vs).set a1 (some x)).set a2 (some y)).set a3 (some z))[a1]? = some (some x)) (w2 : ∀ x y z : V, ((((wipe σ vs).set a1 (some x)).set a2 (some y)).set a3 (some z))[a2]? = some (some y)) (w3 : ∀ x y z : V, ((((wipe σ vs).set a1 (some x)).set a2 (some y)).set a3 (some z))[a3]? = some (some z))
    (hkh : H kh = some (.lst xs)) (hb : KdAll K H [] xs b) (ok : b.Ok) (k : ∀ y H', SB [] H H' → H y = none → BkA K C H' (.ref y) b → Q (.ref y) H') :
    tMakeZ C (spBInit K C B) E (tCons (tLc (iList K (tVar i)) (gTup K 3 (gCons (gName a1) (gCons (gName a2) (gCons (gName a3) gNil)))) tYes (tTup (tCons (tVar a1) (tCons (tVar a2) (tCons (tCB (rListOf K) (tCons (tVar a3) tNil)) tNil)))) vs) tNil) σ H Q := by
  refine makeI (consI (copy_lc hσ w0 w1 w2 w3 hkh hb ok.len fun D us ls H' s nD hD hK _ _ _ => ?_))
  exact make_core hD hK ok fun y H2 s2 ny hbk => k y H2 (s.trans s2) (s.dom _ ny) hbk
end FT
namespace FT
open PySem PySem.W PySem.Spec PyProof.Rows L2
def top (i : Nat) : Stmt := PySem.Challenge.pw_felltimber_k30_choices_told.main.body.getD i (.Pass ⟨0, 0, 0, 0⟩)
abbrev s__wall : Stmt := top 0
abbrev s_is_whole : Stmt := top 4
abbrev s_is_many : Stmt := top 5
abbrev s_is_name : Stmt := top 6
abbrev s_is_rising : Stmt := top 7
abbrev s_run_of : Stmt := top 8
abbrev s_is_tree : Stmt := top 15
abbrev s_is_grove : Stmt := top 16
abbrev s_are_grove_pairs : Stmt := top 17
abbrev s_pairs_within : Stmt := top 18
abbrev s_kinds_within : Stmt := top 19
abbrev s_rules_from_nought : Stmt := top 27
abbrev s_check_kind : Stmt := top 28
abbrev s_check_kinds : Stmt := top 29
abbrev s_are_kinds : Stmt := top 30
abbrev s_is_kind : Stmt := top 31
abbrev s_is_rule : Stmt := top 32
abbrev s_is_rule_of : Stmt := top 33
abbrev s_tree_at : Stmt := top 35
abbrev s_bare_places : Stmt := top 36
abbrev s_choices : Stmt := top 38
abbrev s__law_purse : Stmt := top 40
abbrev s__law_take : Stmt := top 41
abbrev s__law_names : Stmt := top 42
abbrev s__law_many : Stmt := top 43
abbrev s__law_wood : Stmt := top 44
abbrev s__law_kinds : Stmt := top 45
abbrev s__law_kind : Stmt := top 46
abbrev s__law_grove : Stmt := top 47
abbrev s__law_bare : Stmt := top 48
abbrev s__law_is_choice : Stmt := top 49
abbrev s_law : Stmt := top 50
abbrev s_NoKind___init__ : Stmt := inClass (top 13) 0
abbrev s_Book___init__ : Stmt := inClass (top 26) 0
abbrev s_Book_names : Stmt := inClass (top 26) 1
abbrev s_Book_spreads : Stmt := inClass (top 26) 2
abbrev s_Book_rules : Stmt := inClass (top 26) 3
end FT
namespace FT
open PySem PySem.W PySem.Spec PyProof.Rows L2
section
variable {P : Program} {w : World} {K : PySem.W.Frag} {mg : Str → Option Value} {base : Heap} {f : Addr} {fd : FuncData} {ps : List Addr}
theorem sc_is_whole : FnScope ["thing"] ["thing"] (defScope s_is_whole) := ⟨rfl, rfl, rfl, by decide +kernel, rfl, by decide +kernel, by decide +kernel⟩
theorem ok_is_whole (B : BI mg) (F : Fun K "is_whole" "is_whole" s_is_whole f fd) : FnOk P w K mg base CX0 1 f fd ["thing"] (spWhole K) := by
  refine F.ok sc_is_whole (fun vs H Q E h => ?_) (fun cdv A outer s H vs Q E hr h => ?_)
  · obtain ⟨v, n, b1, b2, rfl, _⟩ := h
    rfl
  obtain ⟨v, n, b1, b2, rfl, ty, k1, k2, q⟩ := h
  refine ⟨_, pss_one (ps_ret (pe_and (pe_isi B (pv 0) B.int boot_int) (pe_one (pe_not (pe_isi B (pv 0) B.bool boot_bool))))), ?_⟩
  refine ⟨_, rfl, _, _, n, b1, rfl, ty, k1, b1, rfl, ?_⟩
  cases b1 with
  | false => exact iteF q
  | true =>
    refine iteT ⟨_, rfl, _, _, n, b2, rfl, ty, k2 rfl, b2, rfl, ?_⟩
    exact q
end
end FT
namespace FT
open PySem PySem.W PySem.Spec PyProof.Rows L2
section
variable {P : Program} {w : World} {K : PySem.W.Frag} {mg : Str → Option Value} {base : Heap} {f : Addr} {fd : FuncData} {ps : List Addr}
theorem sc_is_many : FnScope ["thing"] ["thing"] (defScope s_is_many) := ⟨rfl, rfl, rfl, by decide +kernel, rfl, by decide +kernel, by decide +kernel⟩
theorem ok_is_many {ps : List Addr} (B : BI mg) (G : Got P w K mg base "is_whole" ["thing"] 1 (spWhole K)) (F : Fun K "is_many" "is_many" s_is_many f fd) : FnOk P w K mg base CX0 2 f fd ["thing"] (spMany K ps) := by
  refine F.ok sc_is_many (fun vs H Q E h => ?_) (fun cdv A outer s H vs Q E hr h => ?_)
  · obtain ⟨v, d, rfl, _⟩ := h
    rfl
  obtain ⟨v, d, rfl, th, q⟩ := h
  refine ⟨_, pss_one (ps_ret (pe_and (pe_got G hr rfl (pa_cons (pv 0) pa_nil)) (pe_one (pe_cmpR op_ge (pv 0) pe_int (nomark _))))), ?_⟩
  obtain ⟨n, b1, b2, ty, k1, k2, y1, y2⟩ := th.whole
  refine ⟨_, rfl, v, n, b1, b2, rfl, ty, k1, k2, b1 && !b2, rfl, ?_⟩
  cases e : (b1 && !b2) with
  | false =>
    refine iteF ?_
    rw [y2 e] at q
    exact q
  | true =>
    obtain ⟨i, rfl, rfl⟩ := y1 e
    exact iteT ⟨_, rfl, _, _, rfl, rfl, q⟩
end
end FT
namespace FT
open PySem PySem.W PySem.Spec PyProof.Rows L2
section
variable {P : Program} {w : World} {K : PySem.W.Frag} {mg : Str → Option Value} {base : Heap} {f : Addr} {fd : FuncData}
theorem sc_is_name : FnScope ["thing"] ["thing"] (defScope s_is_name) := ⟨rfl, rfl, rfl, by decide +kernel, rfl, by decide +kernel, by decide +kernel⟩
theorem ok_is_name (B : BI mg) (L : ∃ t, mg "LETTERS" = some (.str abc t)) (N : ∃ t, mg "LONGEST_NAME" = some (.int 8 t)) (G : Got P w K mg base "run_of" ["text", "at", "signs"] 1 (spRunOf K)) (F : Fun K "is_name" "is_name" s_is_name f fd) : FnOk P w K mg base CX0 2 f fd ["thing"] (spName K) := by
  refine F.ok sc_is_name (fun vs H Q E h => ?_) (fun cdv A outer s H vs Q E hr h => ?_)
  · obtain ⟨v, d, rfl, _⟩ := h
    rfl
  obtain ⟨v, d, rfl, th, q⟩ := h
  obtain ⟨tl, hL⟩ := L
  obtain ⟨tn, hN⟩ := N
  refine ⟨_, pss_cons (ps_if (PW.pt (pw_or (pt_not (pt_val (pe_isi B (pv 0) B.str boot_str))) (pw_or1 (pt_not (pt_chain op_le op_le pe_int (pe_callB call_len_str rfl B.len PySem.boot_len (pa_cons (pv 0) pa_nil)) (pe_glob (v := .int 8) rfl hN ⟨_, rfl⟩)))))) (pss_one (ps_ret pe_bl)) pss_nil)
    (pss_one (ps_ret (pe_cmpR op_eq (pe_got G hr rfl (pa_cons (pv 0) (pa_cons pe_int (pa_cons (pe_glob (v := .str abc) rfl hL ⟨_, rfl⟩) pa_nil)))) (pv 0) (nomark _)))), ?_⟩
  obtain ⟨n1, b, ty, kb, y1, y2⟩ := th.txt
  refine ⟨_, rfl, _, _, n1, b, rfl, ty, kb, b, rfl, ?_⟩
  cases b with
  | false =>
    refine iteT (iteT ?_)
    have e : nameD d = false := by
      cases d with
      | str z => exact absurd rfl (y2 rfl z)
      | _ => simp [nameD]
    have := q H SB.refl
    rw [e] at this
    exact this
  | true =>
  refine iteF ?_
  obtain ⟨z, rfl, rfl, hz⟩ := y1 rfl
  have hzl : z.length ≤ sizeLine := by have := sizeLine_eq; omega
  refine ⟨_, rfl, z, rfl, hzl, _, _, rfl, rfl, _, rfl, ?_⟩
  by_cases h1 : 1 ≤ z.length
  · rw [show decide ((1 : Int) ≤ (z.length : Int)) = true from decide_eq_true (by omega)]
    refine iteT ⟨_, _, rfl, rfl, _, rfl, ?_⟩
    by_cases h8 : z.length ≤ 8
    · rw [show decide ((z.length : Int) ≤ 8) = true from decide_eq_true (by omega)]
      refine iteF ?_
      refine ⟨_, rfl, z, abc, 0, rfl, by omega, Nat.zero_le _, fun e _ he hin hout => ?_⟩
      refine ⟨_, rfl, rfl, ?_⟩
      have := q H SB.refl
      rw [← run_name h1 h8 he hin hout] at this
      exact this
    · rw [show decide ((z.length : Int) ≤ 8) = false from decide_eq_false (by omega)]
      have := q H SB.refl
      rw [name_out fun h => h8 h.2] at this
      exact iteT this
  · rw [show decide ((1 : Int) ≤ (z.length : Int)) = false from decide_eq_false (by omega)]
    have := q H SB.refl
    rw [name_out fun h => h1 h.1] at this
    exact iteF ⟨_, rfl, iteT this⟩
end
end FT
namespace FT
open PySem PySem.W PySem.Spec PyProof.Rows L2
section
variable {P : Program} {w : World} {K : PySem.W.Frag} {mg : Str → Option Value} {base : Heap} {f : Addr} {fd : FuncData} {ps : List Addr}
theorem sc_is_rising : FnScope N_rising ["things"] (defScope s_is_rising) := ⟨rfl, rfl, rfl, by decide +kernel, rfl, by decide +kernel, by decide +kernel⟩
theorem ok_is_rising (B : BI mg) (F : Fun K "is_rising" "is_rising" s_is_rising f fd) : FnOk P w K mg base CX0 1 f fd ["things"] (spRising K) := by
  refine F.ok sc_is_rising (fun vs H Q E h => ?_) (fun cdv A outer s H vs Q E hr h => ?_)
  · obtain ⟨v, n, b1, rfl, _⟩ := h
    rfl
  obtain ⟨a, xs, ds, rfl, hS, hDp, hok, hal, hz, q⟩ := h
  have hu : A.units + 200 < cLine := by have := hr.un; show A.units + 200 < cLine; have h3 : (A.deeper (envOfC "is_rising" (defScope s_is_rising) s.heap.objs.size f cdv)).units = A.units + 3 := rfl; omega
  refine ⟨_, pss_one (ps_ret (pe_callB (cr_all rfl) rfl B.all boot_all (pa_cons
    (pe_lc (own := [("low", 1), ("high", 2)]) (g := gTup K 2 (gCons (gName 1) (gCons (gName 2) gNil))) (tt := tYes) (te := tOp (rLtD K) (tVar 1) (tVar 2)) rfl sc_is_rising.nd
      (pi_zip rfl B.zip (pa_cons (pv 0) (pa_cons (pe_slice sl_list (pv 0) (po_some pe_int) po_none) pa_nil)))
      (blkOk_by (N := N_rising) (sc := defScope s_is_rising) (by decide +kernel))
      (fun _ _ _ _ _ => pg_tup rfl (pgs_cons (pg_name (i := 1) sc_is_rising.nd rfl (.inl rfl)) (pgs_cons (pg_name (i := 2) sc_is_rising.nd rfl (.inl rfl)) pgs_nil)))
      (fun _ _ _ _ _ => pts_nil)
      (fun _ _ _ _ _ => pe_cmpR (op_ltD (by have := hu; show A.units + 3 + 100 < cLine; omega)) (pv 1) (pv 2) (nomark _))) pa_nil))), ?_⟩
  refine ⟨_, rfl, _, rfl, 1, rfl, a, xs, rfl, hS, fun p hp => ?_⟩
  rw [cut1]
  have e1 : SB [] H (upd H p (.lst (xs.drop 1))) := SB.new hp _
  refine ⟨a, p, xs, xs.drop 1, rfl, e1.sqL List.not_mem_nil hS, SqL.of upd_same, fun D hD => ?_⟩
  have hpD : p ≠ D := fun z => by subst z; rw [upd_same] at hD; cases hD
  have dl : ds.length = xs.length := (DpAll.length hDp).symm
  refine lc_it (walk_zip (n := min xs.length (xs.drop 1).length) rfl) (fun i H2 => SB [D] (upd H p (.lst (xs.drop 1))) H2 ∧ H2 D = some (.lst (((ltsD ds).take i).map V.bl))) ⟨SB.new hD _, upd_same⟩ (fun i H2 hi h2 => ?_) (fun i x H2 H' hi h2 y => ?_) (fun H2 h2 => ?_)
  · obtain ⟨h2, h3⟩ := h2
    have h4 := h2.drop hD
    exact ⟨(e1.trans h4).sqL List.not_mem_nil hS, h4.sqL List.not_mem_nil (SqL.of upd_same)⟩
  · obtain ⟨h2, h3⟩ := h2
    have h4 := e1.trans (h2.drop hD)
    obtain ⟨T, x1, y1, rfl, hT, rfl, ex, ey⟩ := y
    have ey : (xs.drop 1)[i]? = some y1 := ey
    rw [List.getElem?_drop, Nat.add_comm] at ey
    obtain ⟨d, ed, hd⟩ := DpAll.get hDp ex
    obtain ⟨d', ed', hd'⟩ := DpAll.get (i := i + 1) hDp ey
    have e5 : SB [] H (upd H2 T (.tup [x1, y1])) := h4.trans (SB.new hT _)
    have m1 := List.mem_of_getElem? ed
    have m2 := List.mem_of_getElem? ed'
    have hTD : D ≠ T := fun z => by subst z; rw [h3] at hT; cases hT
    refine ⟨T, _, rfl, SqT.of upd_same, rfl, _, _, rfl, _, _, rfl, rfl, rfl, ?_⟩
    refine ⟨_, rfl, _, rfl, d, d', Dp_sb e5 _ _ (hok d m1).1 hd, Dp_sb e5 _ _ (hok d' m2).1 hd', hal d m1 d' m2, (hok d m1).2.1, (hok d m1).2.2, _, by rw [upd_ne hTD]; exact h3, ?_, ?_⟩
    · have := ltsD_length ds
      rw [List.length_map, List.length_take]
      exact small1000 (by omega)
    · refine ⟨(h2.trans (SB.new hT _)).trans (SB.set (by rw [upd_ne hTD]; exact h3) (by simp) _), ?_⟩
      rw [upd_same, List.take_add_one, ltsD_get ds i d d' ed ed']
      simp
  · obtain ⟨h2, h3⟩ := h2
    have h4 := e1.trans (h2.drop hD)
    have e6 : (ltsD ds).take (min xs.length (xs.drop 1).length) = ltsD ds := by
      apply List.take_of_length_le
      rw [ltsD_length, List.length_drop]
      omega
    rw [e6] at h3
    exact ⟨D, _, rfl, SqL.of h3, q _ h4⟩
end
end FT
namespace FT
open PySem PySem.W PySem.Spec PyProof.Rows L2
section
variable {P : Program} {w : World} {K : PySem.W.Frag} {mg : Str → Option Value} {base : Heap} {f : Addr} {fd : FuncData}
theorem sc_run_of : FnScope ["text", "at", "signs", "end"] ["text", "at", "signs"] (defScope s_run_of) := ⟨rfl, rfl, rfl, by decide +kernel, rfl, by decide +kernel, by decide +kernel⟩
theorem ok_run_of (B : BI mg) (F : Fun K "run_of" "run_of" s_run_of f fd) : FnOk P w K mg base CX0 1 f fd ["text", "at", "signs"] (spRunOf K) := by
  refine F.ok sc_run_of (fun vs H Q E h => ?_) (fun cdv A outer s H vs Q E hr h => ?_)
  · obtain ⟨z, y, k, rfl, _⟩ := h
    rfl
  obtain ⟨z, y, k, rfl, hz, hk, q⟩ := h
  refine ⟨_, pss_cons (ps_set (i := 3) sc_run_of.nd rfl (.inl rfl) (pv 1))
    (pss_cons (ps_while PassesOwn.never (PW.pt (pw_and (pt_cmpR op_lt (pv 3) (pe_callB call_len_str rfl B.len PySem.boot_len (pa_cons (pv 0) pa_nil)) (nomark _)) (pw_and1 (pt_cmpR op_in_sign (pe_ix ix_str (pv 0) (pv 3) (fun _ _ => rfl)) (pv 2) (by rfl)))))
      (pss_one (ps_aug (i := 3) sc_run_of.nd rfl (.inl rfl) pe_int ip_add)))
    (pss_one (ps_ret (pe_slice sl_str (pv 0) (po_some (pv 1)) (po_some (pv 3)))))), ?_⟩
  have hzl : z.length ≤ sizeLine := by have := sizeLine_eq; omega
  have hl := len_cps z
  refine ⟨_, rfl, ?_⟩
  refine ⟨fun mm σ H2 => ∃ e : Nat, mm = z.length - e ∧ H2 = H ∧ σ = [some (.str z), some (.int (k : Int)), some (.str y), some (.int (e : Int))] ∧ k ≤ e ∧ e ≤ z.length ∧ (∀ j c, k ≤ j → j < e → z.cps.toList[j]? = some c → c ∈ y.cps.toList), ⟨_, k, rfl, rfl, rfl, Nat.le_refl _, hk, fun j c h1 h2 _ => by omega⟩, fun mm σ H2 h2 => ?_⟩
  obtain ⟨e, rfl, rfl, rfl, ke, el, hin⟩ := h2
  refine ⟨_, rfl, _, rfl, z, rfl, hzl, _, _, rfl, rfl, _, rfl, ?_⟩
  have fin : (∀ c, z.cps.toList[e]? = some c → c ∉ y.cps.toList) → Q (.str (cutS z (some (k : Int)) (some (e : Int)))) H2 := fun ho => q e ke el hin ho
  by_cases hlt : e < z.length
  · rw [show decide ((e : Int) < (z.length : Int)) = true from decide_eq_true (by omega)]
    refine iteT ?_
    obtain ⟨c, hc⟩ : ∃ c, z.cps.toList[e]? = some c := ⟨_, List.getElem?_eq_getElem (by omega)⟩
    refine ⟨_, rfl, _, rfl, z, _, c, rfl, rfl, hzl, atI_natN hc, _, rfl, c, y, rfl, rfl, _, rfl, ?_⟩
    by_cases hm : c ∈ y.cps.toList
    · rw [decide_eq_true hm]
      refine iteT ?_
      refine ⟨_, fun σ' H' z => z, ?_⟩
      refine ⟨_, rfl, _, _, rfl, rfl, z.length - (e + 1), by omega, e + 1, rfl, rfl, rfl, by omega, by omega, fun j c' h1 h2 h3 => ?_⟩
      rcases Nat.lt_or_ge j e with h | h
      · exact hin j c' h1 h h3
      · have : j = e := by omega
        subst this
        rw [hc] at h3; cases h3; exact hm
    · rw [decide_eq_false hm]
      refine iteF ?_
      refine ⟨_, rfl, _, rfl, _, rfl, _, rfl, _, rfl, z, rfl, hzl, fin fun c' h' => ?_⟩
      rw [hc] at h'; cases h'; exact hm
  · rw [show decide ((e : Int) < (z.length : Int)) = false from decide_eq_false (by omega)]
    refine iteF (iteF ?_)
    refine ⟨_, rfl, _, rfl, _, rfl, _, rfl, _, rfl, z, rfl, hzl, fin fun c' h' => ?_⟩
    have := (List.getElem?_eq_some_iff.mp h').1
    omega
end
end FT
namespace FT
open PySem PySem.W PySem.Spec PyProof.Rows L2
section
variable {P : Program} {w : World} {K : PySem.W.Frag} {mg : Str → Option Value} {base : Heap} {f : Addr} {fd : FuncData}
theorem sc_is_tree : FnScope ["thing"] ["thing"] (defScope s_is_tree) := ⟨rfl, rfl, rfl, by decide +kernel, rfl, by decide +kernel, by decide +kernel⟩
theorem none_is_tree {ps : List Str} {k : Nat} : FnOk P w K mg base CX0 k f fd ps (spIsTree K 0) := none_sp fun vs H Q E ⟨v, d, _, _, h, _⟩ => by omega
theorem ok_is_tree {n : Nat} (B : BI mg) (GN : Got P w K mg base "is_name" ["thing"] 2 (spName K)) (G : Got P w K mg base "is_grove" ["thing"] (n + 3) (spIsGrove K n)) (F : Fun K "is_tree" "is_tree" s_is_tree f fd) :
    FnOk P w K mg base CX0 (n + 4) f fd ["thing"] (spIsTree K (n + 1)) := by
  refine F.ok sc_is_tree (fun vs H Q E h => ?_) (fun cdv A outer s H vs Q E hr h => ?_)
  · obtain ⟨v, l, rfl, _⟩ := h
    rfl
  obtain ⟨v, d, rfl, th, hd, h80, hw, q⟩ := h
  refine ⟨_, pss_one (ps_ret (pe_and (pe_isi B (pv 0) B.tuple boot_tuple) (pe_and (pe_cmpR op_eq (pe_callB call_len_seq rfl B.len PySem.boot_len (pa_cons (pv 0) pa_nil)) pe_int (nomark _))
    (pe_and (pe_got GN (hr.mono (by omega)) rfl (pa_cons (pe_ix ix_tup (pv 0) pe_int (fun _ _ => rfl)) pa_nil)) (pe_one (pe_got G hr rfl (pa_cons (pe_ix ix_tup (pv 0) pe_int (fun _ _ => rfl)) pa_nil))))))), ?_⟩
  obtain ⟨n1, b, ty, kb, y1, y2⟩ := th.ty
  refine ⟨_, rfl, _, _, n1, b, rfl, ty, kb, b, rfl, ?_⟩
  cases b with
  | false =>
    refine iteF ?_
    have e : treeD d = false := by
      cases d with
      | tuple ds => exact absurd rfl (y2 rfl ds)
      | _ => simp [treeD]
    have := q H SB.refl
    rw [e] at this
    exact this
  | true =>
  refine iteT ?_
  obtain ⟨a, xs, ds, rfl, rfl, hs, ha⟩ := y1 rfl
  refine ⟨_, rfl, a, xs, rfl, .inr hs, rfl, _, rfl, ?_⟩
  have hl := TgAll.length ha
  refine ite2 (fun c => ?_) (fun c => ?_)
  · have c' : V.int (xs.length : Nat) = V.int 2 := of_decide_eq_true c
    injection c' with c'
    have c2 : xs.length = 2 := by omega
    cases ha with
    | nil => simp at c2
    | cons t1 ta =>
      cases ta with
      | nil => simp at c2
      | cons t2 ta =>
        cases ta with
        | cons t3 ta => simp at c2
        | nil =>
          rename_i v1 d1 v2 d2
          have q1 : d2.depth < PyData.depth (.tuple [d1, d2]) := by simp only [PyData.depth, PyData.depthAll]; omega
          have q2 : wide d2 ≤ wide (.tuple [d1, d2]) := by simp only [wide, wides]; omega
          refine ⟨_, rfl, a, _, _, _, rfl, rfl, hs, atI_nat (j := 0) rfl, v1, d1, rfl, t1, fun H1 h1 => ?_⟩
          refine ⟨_, rfl, ?_⟩
          cases e1 : nameD d1 with
          | false =>
            refine iteF ?_
            have := q H1 h1
            have e : treeD (.tuple [d1, d2]) = false := by simp [treeD, trD2, e1]
            rw [e] at this
            exact this
          | true =>
            refine iteT ?_
            refine ⟨_, rfl, a, _, _, _, rfl, rfl, h1.sqT hs, atI_nat (j := 1) rfl, v2, d2, rfl, Tg_sb h1 t2, by omega, by omega, by omega, fun H2 h2 => ?_⟩
            have := q H2 (h1.trans h2)
            have e : treeD (.tuple [d1, d2]) = groveD d2 := by simp [treeD, trD2, trD3, e1]
            rw [e] at this
            exact this
  · have c' : ¬ V.int (xs.length : Nat) = V.int 2 := of_decide_eq_false (Bool.eq_false_iff.mpr c)
    have c2 : ¬ xs.length = 2 := fun z => c' (by rw [z]; rfl)
    have e : treeD (.tuple ds) = false := by
      cases e : treeD (.tuple ds) with
      | false => rfl
      | true =>
        obtain ⟨t, e2⟩ := treeD_tr _ e
        injection e2 with e2
        rw [e2] at hl
        exact absurd hl c2
    have := q H SB.refl
    rw [e] at this
    exact this
end
end FT
namespace FT
open PySem PySem.W PySem.Spec PyProof.Rows L2
section
variable {P : Program} {w : World} {K : PySem.W.Frag} {mg : Str → Option Value} {base : Heap} {f : Addr} {fd : FuncData}
abbrev N_is_grove : List Str := ["thing", "pair"]
theorem sc_is_grove : FnScope N_is_grove ["thing"] (defScope s_is_grove) := ⟨rfl, rfl, rfl, by decide +kernel, rfl, by decide +kernel, by decide +kernel⟩
theorem none_is_grove {ps : List Str} {k : Nat} : FnOk P w K mg base CX0 k f fd ps (spIsGrove K 0) := none_sp fun vs H Q E ⟨v, d, _, _, h, _⟩ => by omega
theorem exp0_pEnc (bs : List (Tr × Int)) : (bs.map Gr.pEnc).map exp0 = bs.map fun p => Gr.tEnc p.1 := by rw [List.map_map]; rfl
theorem noLists_trs : ∀ bs : List (Tr × Int), noLists (bs.map fun p => Gr.tEnc p.1) = true
  | [] => by simp [noLists]
  | p :: r => by rw [List.map_cons, noLists, noLists_trs r, Gr.noList_tEnc]; rfl
theorem ok_is_grove {n : Nat} (B : BI mg) (GR : Got P w K mg base "is_rising" ["things"] 1 (spRising K)) (G : Got P w K mg base "are_grove_pairs" ["things"] (n + 3) (spPairsQ K true n)) (F : Fun K "is_grove" "is_grove" s_is_grove f fd) :
    FnOk P w K mg base CX0 (n + 4) f fd ["thing"] (spIsGrove K (n + 1)) := by
  refine F.ok sc_is_grove (fun vs H Q E h => ?_) (fun cdv A outer s H vs Q E hr h => ?_)
  · obtain ⟨v, l, rfl, _⟩ := h
    rfl
  obtain ⟨v, d, rfl, th, hd, h80, hw, q⟩ := h
  refine ⟨_, pss_cons (ps_if (PW.pt (pw_or (pt_not (pt_val (pe_isi B (pv 0) B.tuple boot_tuple))) (pw_or1 (pt_not (pt_val (pe_got G hr rfl (pa_cons (pv 0) pa_nil))))))) (pss_one (ps_ret pe_bl)) pss_nil)
    (pss_one (ps_ret (pe_got GR (hr.mono (by omega)) rfl (pa_cons (pe_lc (own := [("pair", 1)]) (g := gName 1) (tt := tYes) (te := tOp (rIxT K) (tVar 1) (tC (.int 0))) rfl sc_is_grove.nd
      (pi_tup (pv 0))
      (blkOk_by (N := N_is_grove) (sc := defScope s_is_grove) (by decide +kernel))
      (fun _ _ _ _ _ => pg_name (i := 1) sc_is_grove.nd rfl (.inl rfl))
      (fun _ _ _ _ _ => pts_nil)
      (fun _ _ _ _ _ => pe_ix ix_tup (pv 1) pe_int (fun _ _ => rfl))) pa_nil)))), ?_⟩
  obtain ⟨n1, b, ty, kb, y1, y2⟩ := th.ty
  refine ⟨_, rfl, _, _, n1, b, rfl, ty, kb, b, rfl, ?_⟩
  cases b with
  | false =>
    refine iteT (iteT ?_)
    have e : groveD d = false := by
      cases d with
      | tuple ds => exact absurd rfl (y2 rfl ds)
      | _ => simp [groveD]
    have := q H SB.refl
    rw [e] at this
    exact this
  | true =>
  refine iteF ?_
  obtain ⟨a, xs, ds, rfl, rfl, hs, ha⟩ := y1 rfl
  have hl := TgAll.length ha
  have m3 : PyData.depth (.tuple ds) = PyData.depthAll ds + 1 := by simp [PyData.depth]
  refine ⟨_, rfl, a, xs, ds, rfl, by simpa using hs, ha, by omega, by omega, hw, fun H2 h2 => ⟨_, rfl, ?_⟩⟩
  cases e1 : grPs ds with
  | false =>
    refine iteT ?_
    have := q H2 h2
    rw [groveD, e1] at this
    exact this
  | true =>
    refine iteF ?_
    obtain ⟨g, rfl⟩ := grPs_enc ds e1
    have hga : GA K H (.ref a) g := Dp.tup hs (Tg_ga g ha)
    obtain ⟨a', xs', e', hs', hb⟩ := GA_bears (hga.sb h2)
    cases e'
    have hlen := hb.length
    have gl : g.encs.length = g.ps.length := by rw [Gr.encs_ps, List.length_map]
    rw [wide_tuple] at hw
    refine ⟨_, rfl, a, rfl, ⟨xs', hs'⟩, fun D hD => ?_⟩
    refine lc_it (walk_tup (xs := xs')) (fun i H3 => SB [D] H2 H3 ∧ ∃ acc, H3 D = some (.lst acc) ∧ DpAll K H3 acc ((g.ps.take i).map fun p => Gr.tEnc p.1)) ⟨SB.new hD _, [], upd_same, .nil⟩ (fun i H3 hi h3 => (h3.1.drop hD).sqT hs') (fun i x H3 H' hi h3 y => ?_) (fun H3 h3 => ?_)
    · obtain ⟨h3, acc, h4, h5⟩ := h3
      obtain ⟨rfl, ex⟩ := y
      obtain ⟨p, ep, hpd⟩ := hb.get ex
      obtain ⟨ad, bd, ux, rfl, hsx, hst, hdx, hdt⟩ := PA_parts hpd
      have h6 := h3.drop hD
      have hla2 := DpAll.length h5
      refine ⟨rfl, ?_⟩
      refine ⟨_, rfl, ad, _, _, _, rfl, rfl, h6.sqT hsx, atI_nat (j := 0) rfl, acc, h4, ?_, ?_⟩
      · rw [hla2, List.length_map, List.length_take]
        exact small1000 (by omega)
      · have h7 := SB.set (ps := [D]) h4 (by simp) (.lst (acc ++ [.ref bd]))
        refine ⟨h3.trans h7, _, upd_same, ?_⟩
        rw [List.take_add_one, ep, List.map_append]
        exact DpAll.append (DpAll_sb h7 _ _ (noLists_trs _) h5) (.cons (Dp_sb h7 _ _ (Gr.noList_tEnc _) (Dp_sb h6 _ _ (Gr.noList_tEnc _) hdt)) .nil)
    · obtain ⟨h3', acc, h4, h5⟩ := h3
      rw [hlen, List.take_length] at h5
      have h6 := h3'.drop hD
      have hla2 := DpAll.length h5
      refine ⟨D, acc, g.ps.map fun p => Gr.tEnc p.1, rfl, SqL.of h4, h5, ?_, ?_, ?_, fun H9 h9 => ?_⟩
      · intro d hd'
        obtain ⟨p1, m1, rfl⟩ := List.mem_map.mp hd'
        have hd2 : (Gr.pEnc p1).depth ≤ PyData.depthAll g.encs := PyData.depth_le_depthAll _ _ (by rw [Gr.encs_ps]; exact List.mem_map_of_mem m1)
        have hd3 : (Gr.tEnc p1.1).depth < (Gr.pEnc p1).depth := by
          show _ < (PyData.tuple [Gr.tEnc p1.1, .int p1.2]).depth
          simp only [PyData.depth, PyData.depthAll]; omega
        exact ⟨Gr.noList_tEnc _, (fun z : Gr.tEnc p1.1 = .none => by simp [Gr.tEnc] at z), by omega⟩
      · intro d hd' d2 hd2
        obtain ⟨p1, _, rfl⟩ := List.mem_map.mp hd'
        obtain ⟨p2, _, rfl⟩ := List.mem_map.mp hd2
        exact Orderly.al (enc := Gr.tEnc) _ _
      · rw [hla2, List.length_map]; omega
      · have := q H9 ((h2.trans h6).trans h9)
        rw [groveD, e1, Bool.true_and, Gr.encs_ps, exp0_pEnc] at this
        exact this
end
end FT
namespace FT
open PySem PySem.W PySem.Spec PyProof.Rows L2
section
variable {P : Program} {w : World} {K : PySem.W.Frag} {mg : Str → Option Value} {base : Heap} {f : Addr} {fd : FuncData}
abbrev N_are_pairs : List Str := ["things", "thing"]
theorem sc_are_grove_pairs : FnScope N_are_pairs ["things"] (defScope s_are_grove_pairs) := ⟨rfl, rfl, rfl, by decide +kernel, rfl, by decide +kernel, by decide +kernel⟩
theorem none_are_grove_pairs {ps : List Str} {tp : Bool} {k : Nat} : FnOk P w K mg base CX0 k f fd ps (spPairsQ K tp 0) := none_sp fun vs H Q E ⟨a, xs, ds, _, _, _, h, _⟩ => by omega
theorem grPs_all : ∀ ds : List PyData, grPs ds = ds.all grP
  | [] => by rw [grPs]; rfl
  | d :: ds => by rw [grPs, grPs_all ds]; rfl
theorem ok_are_grove_pairs {n : Nat} (B : BI mg) (GM : Got P w K mg base "is_many" ["thing"] 2 (spMany K [])) (G : Got P w K mg base "is_tree" ["thing"] (n + 3) (spIsTree K n)) (F : Fun K "are_grove_pairs" "are_grove_pairs" s_are_grove_pairs f fd) :
    FnOk P w K mg base CX0 (n + 4) f fd ["things"] (spPairsQ K true (n + 1)) := by
  refine F.ok sc_are_grove_pairs (fun vs H Q E h => ?_) (fun cdv A outer s H vs Q E hr h => ?_)
  · obtain ⟨a, xs, ds, rfl, _⟩ := h
    rfl
  obtain ⟨a, xs, ds, rfl, hs, ha, hd, h79, hw, q⟩ := h
  refine ⟨_, pss_cons (ps_for PassesOwn.never rfl (pi_tup (pv 0)) (pg_name (i := 1) sc_are_grove_pairs.nd rfl (.inl rfl))
      (pss_cons (ps_if (PW.pt (pw_or (pt_not (pt_val (pe_isi B (pv 1) B.tuple boot_tuple))) (pw_or1 (pt_cmpR op_ne (pe_callB call_len_seq rfl B.len PySem.boot_len (pa_cons (pv 1) pa_nil)) pe_int (nomark _))))) (pss_one (ps_ret pe_bl)) pss_nil)
      (pss_one (ps_if (PW.pt (pw_or (pt_not (pt_val (pe_got G hr rfl (pa_cons (pe_ix ix_tup (pv 1) pe_int (fun _ _ => rfl)) pa_nil)))) (pw_or1 (pt_not (pt_val (pe_got GM (hr.mono (by omega)) rfl (pa_cons (pe_ix ix_tup (pv 1) pe_int (fun _ _ => rfl)) pa_nil))))))) (pss_one (ps_ret pe_bl)) pss_nil))))
    (pss_one (ps_ret pe_bl)), ?_⟩
  have hs : SqT K H a xs := by simpa using hs
  have hl := TgAll.length ha
  rw [wide_tuple] at hw
  refine ⟨_, rfl, a, rfl, ⟨xs, hs⟩, ?_⟩
  refine for_tup (K := K) (a := a) (xs := xs) (fun i σ H2 => SB [] H H2 ∧ (∃ o, σ = [some (.ref a), o]) ∧ (ds.take i).all grP = true) ⟨SB.refl, ⟨none, rfl⟩, by simp⟩ (fun i σ H2 hi h2 => h2.1.sqT hs) (fun i x σ H2 hx h2 => ?_) (fun σ H2 h2 => ?_)
  · obtain ⟨h2, ⟨o, rfl⟩, h3⟩ := h2
    obtain ⟨dx, ex, tx⟩ := TgAll.get ha hx
    have mx := List.mem_of_getElem? ex
    have m1 := depthAll_get ex
    have m2 := wide_mem _ _ mx
    have no : grP dx = false → ∀ H', SB [] H2 H' → Q (.bl false) H' := fun e H' s' => by
      have := q H' (h2.trans s')
      have e2 : grPs ds = false := by
        rw [grPs_all, List.all_eq_false]
        exact ⟨dx, mx, by rw [e]; exact Bool.false_ne_true⟩
      rw [e2] at this
      exact this
    obtain ⟨n1, b, ty, kb, y1, y2⟩ := (Tg_sb h2 tx).ty
    refine ⟨_, rfl, _, _, n1, b, rfl, ty, kb, b, rfl, ?_⟩
    cases b with
    | false =>
      refine iteT (iteT (no ?_ _ SB.refl))
      cases dx with
      | tuple ds => exact absurd rfl (y2 rfl ds)
      | _ => simp [grP]
    | true =>
    refine iteF ?_
    obtain ⟨b1, ys, es, rfl, rfl, hs1, ha1⟩ := y1 rfl
    refine ⟨_, rfl, b1, ys, rfl, .inr hs1, rfl, _, rfl, ?_⟩
    have hl1 := TgAll.length ha1
    by_cases c2 : ys.length = 2
    · rw [show (!decide (V.int (ys.length : Nat) = V.int 2)) = false by rw [c2]; rfl]
      refine iteF ?_
      cases ha1 with
      | nil => simp at c2
      | cons t1 ta =>
        cases ta with
        | nil => simp at c2
        | cons t2 ta =>
          cases ta with
          | cons t3 ta => simp at c2
          | nil =>
            rename_i v1 d1 v2 d2
            have q1 : d1.depth < PyData.depth (.tuple [d1, d2]) := by simp only [PyData.depth, PyData.depthAll]; omega
            have q2 : wide d1 ≤ wide (.tuple [d1, d2]) := by simp only [wide, wides]; omega
            refine ⟨_, rfl, b1, _, _, _, rfl, rfl, hs1, atI_nat (j := 0) rfl, v1, d1, rfl, t1, by omega, by omega, by omega, fun H3 h3' => ?_⟩
            refine ⟨_, rfl, ?_⟩
            cases e1 : treeD d1 with
            | false => exact iteT (iteT (no (by simp [grP, grP2, e1]) _ h3'))
            | true =>
              refine iteF ?_
              refine ⟨_, rfl, b1, _, _, _, rfl, rfl, h3'.sqT hs1, atI_nat (j := 1) rfl, v2, strip d2, rfl, (Tg_sb h3' t2).th, _, rfl, ?_⟩
              rw [many_strip]
              have e : grP (.tuple [d1, d2]) = manyD d2 := by simp [grP, grP2, ladP3, e1]
              cases e2 : manyD d2 with
              | false => exact iteT (no (by rw [e, e2]) _ h3')
              | true =>
                refine iteF ⟨h2.trans h3', ⟨_, rfl⟩, ?_⟩
                rw [List.take_add_one, ex, List.all_append, h3]
                simp [e, e2]
    · rw [show (!decide (V.int (ys.length : Nat) = V.int 2)) = true by rw [decide_eq_false (fun z => by injection z with z; omega)]; rfl]
      refine iteT (no ?_ _ SB.refl)
      cases e : grP (.tuple es) with
      | false => rfl
      | true =>
        obtain ⟨t, i, e2, _⟩ := grP_enc _ e
        injection e2 with e2
        rw [e2] at hl1
        exact absurd hl1 c2
  · obtain ⟨h2, ⟨o, rfl⟩, h3⟩ := h2
    rw [hl, List.take_length, ← grPs_all] at h3
    have := q H2 h2
    rw [h3] at this
    exact this
theorem ok_are_grove_pairsL {n : Nat} (B : BI mg) (GM : Got P w K mg base "is_many" ["thing"] 2 (spMany K [])) (G : Got P w K mg base "is_tree" ["thing"] (n + 3) (spIsTree K n)) (F : Fun K "are_grove_pairs" "are_grove_pairs" s_are_grove_pairs f fd) :
    FnOk P w K mg base CX0 (n + 4) f fd ["things"] (spPairsQ K false (n + 1)) := by
  refine F.ok sc_are_grove_pairs (fun vs H Q E h => ?_) (fun cdv A outer s H vs Q E hr h => ?_)
  · obtain ⟨a, xs, ds, rfl, _⟩ := h
    rfl
  obtain ⟨a, xs, ds, rfl, hs, ha, hd, h79, hw, q⟩ := h
  refine ⟨_, pss_cons (ps_for PassesOwn.never rfl (pi_list (pv 0)) (pg_name (i := 1) sc_are_grove_pairs.nd rfl (.inl rfl))
      (pss_cons (ps_if (PW.pt (pw_or (pt_not (pt_val (pe_isi B (pv 1) B.tuple boot_tuple))) (pw_or1 (pt_cmpR op_ne (pe_callB call_len_seq rfl B.len PySem.boot_len (pa_cons (pv 1) pa_nil)) pe_int (nomark _))))) (pss_one (ps_ret pe_bl)) pss_nil)
      (pss_one (ps_if (PW.pt (pw_or (pt_not (pt_val (pe_got G hr rfl (pa_cons (pe_ix ix_tup (pv 1) pe_int (fun _ _ => rfl)) pa_nil)))) (pw_or1 (pt_not (pt_val (pe_got GM (hr.mono (by omega)) rfl (pa_cons (pe_ix ix_tup (pv 1) pe_int (fun _ _ => rfl)) pa_nil))))))) (pss_one (ps_ret pe_bl)) pss_nil))))
    (pss_one (ps_ret pe_bl)), ?_⟩
  have hs : SqL K H a xs := by simpa using hs
  have hl := TgAll.length ha
  rw [wide_tuple] at hw
  refine ⟨_, rfl, a, rfl, ⟨xs, hs⟩, ?_⟩
  refine for_list (K := K) (a := a) (xs := xs) (fun i σ H2 => SB [] H H2 ∧ (∃ o, σ = [some (.ref a), o]) ∧ (ds.take i).all grP = true) ⟨SB.refl, ⟨none, rfl⟩, by simp⟩ (fun i σ H2 hi h2 => h2.1.sqL List.not_mem_nil hs) (fun i x σ H2 hx h2 => ?_) (fun σ H2 h2 => ?_)
  · obtain ⟨h2, ⟨o, rfl⟩, h3⟩ := h2
    obtain ⟨dx, ex, tx⟩ := TgAll.get ha hx
    have mx := List.mem_of_getElem? ex
    have m1 := depthAll_get ex
    have m2 := wide_mem _ _ mx
    have no : grP dx = false → ∀ H', SB [] H2 H' → Q (.bl false) H' := fun e H' s' => by
      have := q H' (h2.trans s')
      have e2 : grPs ds = false := by
        rw [grPs_all, List.all_eq_false]
        exact ⟨dx, mx, by rw [e]; exact Bool.false_ne_true⟩
      rw [e2] at this
      exact this
    obtain ⟨n1, b, ty, kb, y1, y2⟩ := (Tg_sb h2 tx).ty
    refine ⟨_, rfl, _, _, n1, b, rfl, ty, kb, b, rfl, ?_⟩
    cases b with
    | false =>
      refine iteT (iteT (no ?_ _ SB.refl))
      cases dx with
      | tuple ds => exact absurd rfl (y2 rfl ds)
      | _ => simp [grP]
    | true =>
    refine iteF ?_
    obtain ⟨b1, ys, es, rfl, rfl, hs1, ha1⟩ := y1 rfl
    refine ⟨_, rfl, b1, ys, rfl, .inr hs1, rfl, _, rfl, ?_⟩
    have hl1 := TgAll.length ha1
    by_cases c2 : ys.length = 2
    · rw [show (!decide (V.int (ys.length : Nat) = V.int 2)) = false by rw [c2]; rfl]
      refine iteF ?_
      cases ha1 with
      | nil => simp at c2
      | cons t1 ta =>
        cases ta with
        | nil => simp at c2
        | cons t2 ta =>
          cases ta with
          | cons t3 ta => simp at c2
          | nil =>
            rename_i v1 d1 v2 d2
            have q1 : d1.depth < PyData.depth (.tuple [d1, d2]) := by simp only [PyData.depth, PyData.depthAll]; omega
            have q2 : wide d1 ≤ wide (.tuple [d1, d2]) := by simp only [wide, wides]; omega
            refine ⟨_, rfl, b1, _, _, _, rfl, rfl, hs1, atI_nat (j := 0) rfl, v1, d1, rfl, t1, by omega, by omega, by omega, fun H3 h3' => ?_⟩
            refine ⟨_, rfl, ?_⟩
            cases e1 : treeD d1 with
            | false => exact iteT (iteT (no (by simp [grP, grP2, e1]) _ h3'))
            | true =>
              refine iteF ?_
              refine ⟨_, rfl, b1, _, _, _, rfl, rfl, h3'.sqT hs1, atI_nat (j := 1) rfl, v2, strip d2, rfl, (Tg_sb h3' t2).th, _, rfl, ?_⟩
              rw [many_strip]
              have e : grP (.tuple [d1, d2]) = manyD d2 := by simp [grP, grP2, ladP3, e1]
              cases e2 : manyD d2 with
              | false => exact iteT (no (by rw [e, e2]) _ h3')
              | true =>
                refine iteF ⟨h2.trans h3', ⟨_, rfl⟩, ?_⟩
                rw [List.take_add_one, ex, List.all_append, h3]
                simp [e, e2]
    · rw [show (!decide (V.int (ys.length : Nat) = V.int 2)) = true by rw [decide_eq_false (fun z => by injection z with z; omega)]; rfl]
      refine iteT (no ?_ _ SB.refl)
      cases e : grP (.tuple es) with
      | false => rfl
      | true =>
        obtain ⟨t, i, e2, _⟩ := grP_enc _ e
        injection e2 with e2
        rw [e2] at hl1
        exact absurd hl1 c2
  · obtain ⟨h2, ⟨o, rfl⟩, h3⟩ := h2
    rw [hl, List.take_length, ← grPs_all] at h3
    have := q H2 h2
    rw [h3] at this
    exact this
end
end FT
namespace FT
open PySem PySem.W PySem.Spec PyProof.Rows L2
section
variable {P : Program} {w : World} {K : PySem.W.Frag} {mg : Str → Option Value} {base : Heap} {f : Addr} {fd : FuncData}
theorem sc_pairs_within : FnScope ["grove", "found", "pair"] ["grove"] (defScope s_pairs_within) := ⟨rfl, rfl, rfl, by decide +kernel, rfl, by decide +kernel, by decide +kernel⟩
theorem ok_pairs_within {n : Nat} (G : Got P w K mg base "pairs_within" ["grove"] n (spPairsW K n)) (F : Fun K "pairs_within" "pairs_within" s_pairs_within f fd) : FnOk P w K mg base CX0 (n + 1) f fd ["grove"] (spPairsW K (n + 1)) := by
  refine F.ok sc_pairs_within (fun vs H Q E h => ?_) (fun cdv A outer s H vs Q E hr h => ?_)
  · obtain ⟨v, g, rfl, _⟩ := h
    rfl
  obtain ⟨v, g, rfl, hg, hd, hp, q⟩ := h
  refine ⟨_, pss_cons (ps_set (i := 1) sc_pairs_within.nd rfl (.inl rfl) (pe_lst pa_nil))
    (pss_cons (ps_for PassesOwn.never rfl (pi_tup (pv 0)) (pg_name (i := 2) sc_pairs_within.nd rfl (.inl rfl))
      (pss_cons (ps_expr (pe_bm PySem.F.plainAttrs_list PySem.F.slot_list_append PySem.F.type_list_append mt_append (pv 1) (pa_cons (pv 2) pa_nil)))
      (pss_one (ps_expr (pe_bm PySem.F.plainAttrs_list PySem.F.slot_list_extend PySem.F.type_list_extend mt_extend (pv 1) (pa_cons (pe_got G hr rfl (pa_cons (pe_ix ix_tup (pe_ix ix_tup (pv 2) pe_int (fun _ _ => rfl)) pe_int (fun _ _ => rfl)) pa_nil)) pa_nil))))))
    (pss_one (ps_ret (pv 1)))), ?_⟩
  obtain ⟨a, xs, rfl, hs, hb⟩ := GA_bears hg
  have bl := hb.length
  have wl := g.within_length
  refine ⟨(by show 0 ≤ sizeLine; decide), fun D hD => ?_⟩
  refine ⟨_, rfl, a, rfl, ⟨xs, (SB.new (ps := []) hD _).sqT hs⟩, ?_⟩
  refine for_it (walk_tup (xs := xs)) (fun i σ H2 => SB [D] H H2 ∧ ∃ us o2, σ = [some (.ref a), some (.ref D), o2] ∧ H2 D = some (.lst us) ∧ Bears K H2 Gr.pEnc us ((g.ps.take i).flatMap fun p => p :: p.1.2.within)) ⟨SB.new hD _, [], none, rfl, upd_same, .nil⟩ (fun i σ H2 hi h2 => (h2.1.drop hD).sqT hs) (fun i x σ H2 H' hi h2 y => ?_) (fun σ H2 h2 => ?_)
  · obtain ⟨s2, us, o2, rfl, hD2, hb2⟩ := h2
    obtain ⟨rfl, ex⟩ := y
    obtain ⟨p, ep, hpd⟩ := hb.get ex
    have pm := List.mem_of_getElem? ep
    obtain ⟨ad, td, ux, rfl, hs2, hs3, hga, _⟩ := PA_parts hpd
    have s2' := s2.drop hD
    have ul := hb2.length
    have hsplit : (g.ps.take (i + 1)).flatMap (fun p => p :: p.1.2.within) = (g.ps.take i).flatMap (fun p => p :: p.1.2.within) ++ (p :: p.1.2.within) := by rw [List.take_add_one, ep]; simp
    have hle : ((g.ps.take i).flatMap (fun p => p :: p.1.2.within)).length + (p.1.2.within.length + 1) ≤ 1000 := by
      have h1 : g.within = (g.ps.take (i + 1)).flatMap (fun p => p :: p.1.2.within) ++ (g.ps.drop (i + 1)).flatMap (fun p => p :: p.1.2.within) := by rw [Gr.within_ps, ← List.flatMap_append, List.take_append_drop]
      have h2 := congrArg List.length h1
      rw [hsplit, List.length_append, List.length_append, List.length_cons, wl] at h2
      omega
    refine ⟨_, rfl, .inl ⟨rfl, _, SqL.of hD2⟩, _, rfl, D, us, _, rfl, rfl, hD2, small1000 (by omega), ?_⟩
    have t3 := SB.set (ps := [D]) hD2 (by simp) (.lst (us ++ [.ref ad]))
    have hD3 : (upd H' D (.lst (us ++ [.ref ad]))) D = some (.lst (us ++ [.ref ad])) := upd_same
    have hb3 := Bears.append (hb2.sb t3 Gr.noList_pEnc) (.cons (Dp_sb (s2.trans t3) _ _ (Gr.noList_pEnc _) hpd) .nil)
    have s3 := s2.trans t3
    have s3' := s3.drop hD
    generalize hH3 : upd H' D (.lst (us ++ [.ref ad])) = H3 at t3 hD3 hb3 s3 s3'
    have pd := g.mem_deep p pm
    have pp := g.mem_parts p pm
    refine ⟨_, rfl, .inl ⟨rfl, _, SqL.of hD3⟩, _, rfl, ad, _, _, _, rfl, rfl, s3'.sqT hs2, atI_nat (j := 0) rfl, td, _, _, _, rfl, rfl, s3'.sqT hs3, atI_nat (j := 1) rfl, ux, p.1.2, rfl, hga.sb s3', by omega, by omega, fun D2 vs2 H4 s4 hDn hD4 hb4 => ?_⟩
    have hD4' := s4.keep _ _ hD3 List.not_mem_nil
    have vl := hb4.length
    refine ⟨D, D2, _, _, rfl, rfl, hD4', hD4, ?_, ?_⟩
    · rw [List.length_append, List.length_singleton]
      have : 10000 ≤ sizeLine := by decide
      omega
    have t5 := SB.set (ps := [D]) hD4' (by simp) (.lst (us ++ [.ref ad] ++ vs2))
    refine ⟨(s3.trans s4.nil).trans t5, _, _, rfl, upd_same, ?_⟩
    rw [hsplit, show ((g.ps.take i).flatMap (fun p => p :: p.1.2.within) ++ (p :: p.1.2.within)) = (g.ps.take i).flatMap (fun p => p :: p.1.2.within) ++ [p] ++ p.1.2.within by simp]
    exact Bears.append ((hb3.sb s4 Gr.noList_pEnc).sb t5 Gr.noList_pEnc) (hb4.sb t5 Gr.noList_pEnc)
  · obtain ⟨s2, us, o2, rfl, hD2, hb2⟩ := h2
    rw [bl, List.take_length, ← Gr.within_ps] at hb2
    exact ⟨_, rfl, q D us H2 (s2.drop hD) hD hD2 hb2⟩
end
end FT
namespace FT
open PySem PySem.W PySem.Spec PyProof.Rows L2
section
variable {P : Program} {w : World} {K : PySem.W.Frag} {mg : Str → Option Value} {base : Heap} {f : Addr} {fd : FuncData}
abbrev N_kinds_within : List Str := ["grove", "tree", "many"]
theorem sc_kinds_within : FnScope N_kinds_within ["grove"] (defScope s_kinds_within) := ⟨rfl, rfl, rfl, by decide +kernel, rfl, by decide +kernel, by decide +kernel⟩
theorem ok_kinds_within (B : BI mg) (G_pairs_within : Got P w K mg base "pairs_within" ["grove"] (20) (spPairsW K 20)) (F : Fun K "kinds_within" "kinds_within" s_kinds_within f fd) : FnOk P w K mg base CX0 (21) f fd ["grove"] (spKindsW K) := by
  refine F.ok sc_kinds_within (fun vs H Q E h => ?_) (fun cdv A outer s H vs Q E hr h => ?_)
  · obtain ⟨v, g, rfl, _⟩ := h
    rfl
  obtain ⟨v, g, rfl, hv, hd, hp, ho, q⟩ := h
  have hun2 : A.units + 3 + 200 < cLine := by have := hr.un; have h3 : (A.deeper (envOfC "kinds_within" (defScope s_kinds_within) s.heap.objs.size f cdv)).units = A.units + 3 := rfl; omega
  refine ⟨_, pss_one (ps_ret (pe_callB (cr_sortedTx rfl) rfl B.sorted (by decide +kernel) (pa_cons (pe_scS (own := [("tree", 1), ("many", 2)]) (g := (gTup K 2 (gCons (gName 1) (gCons (gName 2) gNil)))) (tt := tYes) (te := (tOp (rIxT K) (tVar 1) (tC (.int 0)))) rfl sc_kinds_within.nd (pi_list (pe_got G_pairs_within (hr.mono (by omega)) rfl (pa_cons (pv 0) pa_nil))) (blkOk_by (N := N_kinds_within) (sc := defScope s_kinds_within) (by decide +kernel)) (fun _ _ _ _ _ => (pg_tup rfl (pgs_cons (pg_name (i := 1) sc_kinds_within.nd rfl (.inl rfl)) (pgs_cons (pg_name (i := 2) sc_kinds_within.nd rfl (.inl rfl)) pgs_nil)))) (fun _ _ _ _ _ => pts_nil) (fun _ _ _ _ _ => (pe_ix ix_tup (pv 1) pe_int (fun _ _ => rfl)))) pa_nil))), ?_⟩
  have scb : 1000 < scanBound := by decide +kernel
  have wl := g.within_length
  refine ⟨_, rfl, v, g, rfl, hv, hd, by omega, fun ll us H1 s1 nll hll hbl => ?_⟩
  have ul := hbl.length
  refine ⟨ll, rfl, ⟨_, SqL.of hll⟩, fun D nD => ?_⟩
  refine sc_seq (walk_list (xs := us)) nD (by omega) (fun i ss H2 => ss.Nodup ∧ ∀ x, x ∈ ss ↔ x ∈ (g.within.take i).map fun p : Tr × Int => p.1.1) ⟨List.nodup_nil, by simp⟩ (fun H2 s2 => s2.sqL List.not_mem_nil (SqL.of hll)) (fun _ _ _ _ _ h => h) (fun Pv i x Hq H2 ss hi s2 y hR hl fin _ => ?_) (fun ss H2 s2 hD2 hR hl => ?_)
  · obtain ⟨rfl, ey⟩ := y
    obtain ⟨p, ep, hpd⟩ := hbl.get ey
    obtain ⟨ad, td, ux, rfl, hs2, hs3, hga, _⟩ := PA_parts hpd
    refine ⟨ad, _, rfl, s2.sqT hs2, rfl, _, _, rfl, _, _, rfl, rfl, rfl, ?_⟩
    refine ⟨_, rfl, td, _, _, _, rfl, rfl, s2.sqT hs3, atI_nat (j := 0) rfl, fin p.1.1 _ SB.refl ⟨insS_nodup hR.1, fun x => ?_⟩⟩
    rw [insS_mem, hR.2, List.take_add_one, ep, List.map_append, List.mem_append]
    simp [or_comm]
  · rw [ul, List.take_length] at hR
    refine ⟨D, ss, rfl, hD2, by omega, fun ss' p pm srt np => ?_⟩
    have t3 := SB.new (ps := []) np (.lst (ss'.map V.str))
    exact q p ss' _ ((s1.trans s2).trans t3) ((s1.trans s2).dom _ np) upd_same srt (pm.nodup_iff.mpr hR.1) (by rw [pm.length_eq]; omega) fun k => pm.mem_iff.trans (hR.2 k)
end
end FT
namespace FT
open PySem PySem.W PySem.Spec PyProof.Rows L2
section
variable {P : Program} {w : World} {K : PySem.W.Frag} {mg : Str → Option Value} {base : Heap} {f : Addr} {fd : FuncData}
abbrev N_rules_from_nought : List Str := ["book", "name"]
theorem sc_rules_from_nought : FnScope N_rules_from_nought ["book", "name"] (defScope s_rules_from_nought) := ⟨rfl, rfl, rfl, by decide +kernel, rfl, by decide +kernel, by decide +kernel⟩
theorem ok_rules_from_nought {C_NO_GROVES C_Book C_NoKind : Addr} (B : BI mg) (V_NO_GROVES : mg "NO_GROVES" = some (.ref C_NO_GROVES)) (W_NO_GROVES : ∀ H, Dp K H (.ref C_NO_GROVES) (Ru.enc (.nil, .nil))) (G_Book_rules : GotMX P w K mg base C_Book "rules" ["self", "name"] (4) (spBRules K C_Book C_NoKind)) (F : Fun K "rules_from_nought" "rules_from_nought" s_rules_from_nought f fd) : FnOk P w K mg base (L2.CX P w) (5) f fd ["book", "name"] (spRulesN K C_Book C_NoKind) := by
  refine F.okX sc_rules_from_nought (fun vs H Q E h => ?_) (fun cdv A outer s H vs Q E hr h => ?_)
  · obtain ⟨v, b, n, rfl, _⟩ := h
    rfl
  obtain ⟨v, b, n, rfl, hb, hl, hr4, qk, qE⟩ := h
  have hun2 : A.units + 3 + 200 < cLine := by have := hr.un; have h3 : (A.deeper (envOfC "rules_from_nought" (defScope s_rules_from_nought) s.heap.objs.size f cdv)).units = A.units + 3 := rfl; omega
  refine ⟨_, pss_one (ps_ret (pe_op op_cat (pe_lst (pa_cons (pe_glob (v := .ref C_NO_GROVES) rfl V_NO_GROVES rfl) pa_nil)) (pe_gotMS G_Book_rules (hr.mono (by omega)) (takes_of rfl rfl rfl rfl) (pv 0) (pa_cons (pv 1) pa_nil)))), ?_⟩
  have szl := sizeLine_eq
  obtain ⟨va, vdx, vd1, vd2, rfl, hva⟩ := hb.at
  refine ⟨by show 1 ≤ sizeLine; decide, fun L hL => ?_⟩
  have t1 := SB.new (ps := []) hL (.lst [.ref C_NO_GROVES])
  have hL1 : upd H L (.lst [.ref C_NO_GROVES]) L = some (.lst [.ref C_NO_GROVES]) := upd_same
  generalize upd H L (.lst [.ref C_NO_GROVES]) = H1 at t1 hL1
  refine ⟨_, rfl, va, vdx, _, rfl, t1.keep _ _ hva List.not_mem_nil, rfl, _, rfl, _, b, n, rfl, hb.sb0 t1, hl, hr4, fun k eg ll us H2 s2 nll hll hbl => ?_, fun z d H' s' nd hd => qE z d H' (t1.trans s') (t1.dom d nd) hd⟩
  have k4 := hr4 k (Bk.get_some eg).1
  have ul := hbl.length
  refine ⟨L, ll, _, _, rfl, rfl, s2.keep _ _ hL1 List.not_mem_nil, hll, by show 1 + _ ≤ sizeLine; omega, fun M hM => ?_⟩
  have t3 := SB.new (ps := []) hM (.lst ([.ref C_NO_GROVES] ++ us))
  have s3 := t1.trans s2
  exact qk k eg M _ _ (s3.trans t3) (s3.dom _ hM) upd_same (.cons (W_NO_GROVES _) (hbl.sb t3 Ru.noList_enc))
end
end FT
namespace FT
open PySem PySem.W PySem.Spec PyProof.Rows L2
section
variable {P : Program} {w : World} {K : PySem.W.Frag} {mg : Str → Option Value} {base : Heap} {f : Addr} {fd : FuncData}
abbrev N_check_kind : List Str := ["book", "name"]
theorem sc_check_kind : FnScope N_check_kind ["book", "name"] (defScope s_check_kind) := ⟨rfl, rfl, rfl, by decide +kernel, rfl, by decide +kernel, by decide +kernel⟩
theorem ok_check_kind {C_NoKind C_Book : Addr} (B : BI mg) (O_NoKind : OwnI P w K mg base "NoKind" C_NoKind 1) (G_Book_names : GotM P w K mg base C_Book "names" ["self"] (1) (spBNames K C_Book)) (F : Fun K "check_kind" "check_kind" s_check_kind f fd) : FnOk P w K mg base (L2.CX P w) (3) f fd ["book", "name"] (spCheckK K C_Book C_NoKind) := by
  refine F.okX sc_check_kind (fun vs H Q E h => ?_) (fun cdv A outer s H vs Q E hr h => ?_)
  · obtain ⟨v, b, n, rfl, _⟩ := h
    rfl
  obtain ⟨v, b, n, rfl, hb, hl, qk, qE⟩ := h
  have hun2 : A.units + 3 + 200 < cLine := by have := hr.un; have h3 : (A.deeper (envOfC "check_kind" (defScope s_check_kind) s.heap.objs.size f cdv)).units = A.units + 3 := rfl; omega
  refine ⟨_, pss_one (ps_if (pt_cmpR op_notIn_seq (pv 1) (pe_gotM0 G_Book_names (hr.mono (by omega)) (pv 0)) (by rfl)) (pss_one (ps_raise rfl (takes_of rfl rfl rfl rfl) (pmk_kind O_NoKind (hr.mono (by omega)) rfl (pv 1)))) pss_nil), ?_⟩
  obtain ⟨a, dx, d1, d2, rfl, h1⟩ := hb.at
  refine ⟨_, rfl, _, rfl, a, dx, _, rfl, h1, rfl, ?_⟩
  refine ⟨_, b, rfl, hb, hl, fun l H1 s1 hn hl1 => ?_⟩
  refine ⟨l, _, rfl, .inl (SqL.of hl1), rfl, flat_strs _, _, rfl, ?_⟩
  rw [inV_strs, Bk.get_isSome]
  cases e : b.get n with
  | some k => exact qk k e H1 s1
  | none => exact ⟨_, rfl, fun d hd => qE e d _ (s1.trans (SB.new hd _)) (s1.dom d hd) upd_same⟩
end
end FT
namespace FT
open PySem PySem.W PySem.Spec PyProof.Rows L2
section
variable {P : Program} {w : World} {K : PySem.W.Frag} {mg : Str → Option Value} {base : Heap} {f : Addr} {fd : FuncData}
abbrev N_check_kinds : List Str := ["book", "grove", "kind"]
theorem sc_check_kinds : FnScope N_check_kinds ["book", "grove"] (defScope s_check_kinds) := ⟨rfl, rfl, rfl, by decide +kernel, rfl, by decide +kernel, by decide +kernel⟩
theorem ok_check_kinds {C_Book C_NoKind : Addr} (B : BI mg) (G_kinds_within : Got P w K mg base "kinds_within" ["grove"] (21) (spKindsW K)) (G_check_kind : GotX P w K mg base "check_kind" ["book", "name"] (3) (spCheckK K C_Book C_NoKind)) (F : Fun K "check_kinds" "check_kinds" s_check_kinds f fd) : FnOk P w K mg base (L2.CX P w) (22) f fd ["book", "grove"] (spCheckKs K C_Book C_NoKind) := by
  refine F.okX sc_check_kinds (fun vs H Q E h => ?_) (fun cdv A outer s H vs Q E hr h => ?_)
  · obtain ⟨v, w, b, g, rfl, _⟩ := h
    rfl
  obtain ⟨v, w, b, g, rfl, hv, hg, hl, hd, hp, ho, hk, q⟩ := h
  have hun2 : A.units + 3 + 200 < cLine := by have := hr.un; have h3 : (A.deeper (envOfC "check_kinds" (defScope s_check_kinds) s.heap.objs.size f cdv)).units = A.units + 3 := rfl; omega
  refine ⟨_, pss_one (ps_for (passes_of rfl) rfl (pi_list (pe_got G_kinds_within (hr.mono (by omega)) rfl (pa_cons (pv 1) pa_nil))) (pg_name (i := 2) sc_check_kinds.nd rfl (.inl rfl))
      (pss_one (ps_expr (pe_gotS G_check_kind (hr.mono (by omega)) rfl (takes_of rfl rfl rfl rfl) (pa_cons (pv 0) (pa_cons (pv 2) pa_nil)))))), ?_⟩
  refine ⟨_, rfl, w, g, rfl, hg, hd, hp, ho, fun l ss H1 s1 nl hls srt nd sl hm => ?_⟩
  refine ⟨l, rfl, ⟨_, SqL.of hls⟩, ?_⟩
  refine for_it (walk_list (xs := ss.map V.str)) (fun i σ H2 => SB [] H1 H2 ∧ ∃ o2, σ = [some v, some w, o2]) ⟨SB.refl, none, rfl⟩ (fun i σ H2 hi h2 => h2.1.sqL List.not_mem_nil (SqL.of hls)) (fun i x σ Hq H2 hi h2 y => ?_) (fun σ H2 h2 => ?_)
  · obtain ⟨s2, o2, rfl⟩ := h2
    obtain ⟨rfl, ey⟩ := y
    rw [List.getElem?_map] at ey
    obtain ⟨k, ek, rfl⟩ := Option.map_eq_some_iff.mp ey
    obtain ⟨p, hp2, e⟩ := List.mem_map.mp ((hm k).mp (List.mem_of_getElem? ek))
    obtain ⟨kd, eg⟩ := Bk.get_of (e ▸ hk p hp2)
    refine ⟨_, rfl, _, rfl, v, b, k, rfl, hv.sb0 (s1.trans s2), hl, fun _ _ H3 s3 => ⟨s2.trans s3, _, rfl⟩, fun z => by rw [eg] at z; cases z⟩
  · obtain ⟨s2, o2, rfl⟩ := h2
    exact q _ (s1.trans s2)
end
end FT
namespace FT
open PySem PySem.W PySem.Spec PyProof.Rows L2
section
variable {P : Program} {w : World} {K : PySem.W.Frag} {mg : Str → Option Value} {base : Heap} {f : Addr} {fd : FuncData}
abbrev N_are_kinds : List Str := ["things", "thing", "names", "rule"]
theorem sc_are_kinds : FnScope N_are_kinds ["things"] (defScope s_are_kinds) := ⟨rfl, rfl, rfl, by decide +kernel, rfl, by decide +kernel, by decide +kernel⟩
theorem ok_are_kinds (B : BI mg) (L_MOST_KINDS : ∃ t, mg "MOST_KINDS" = some (.int (8) t)) (G_is_kind : Got P w K mg base "is_kind" ["thing"] (86) (spIsKind K)) (G_is_rule_of : Got P w K mg base "is_rule_of" ["rule", "names"] (21) (spIsRuleOf K)) (F : Fun K "are_kinds" "are_kinds" s_are_kinds f fd) : FnOk P w K mg base CX0 (87) f fd ["things"] (spAreKinds K) := by
  refine F.ok sc_are_kinds (fun vs H Q E h => ?_) (fun cdv A outer s H vs Q E hr h => ?_)
  · obtain ⟨l, xs, ts, rfl, _⟩ := h
    rfl
  obtain ⟨l, xs, ts, rfl, hs, ha, hf, hl, q⟩ := h
  obtain ⟨tk_MOST_KINDS, h_MOST_KINDS⟩ := L_MOST_KINDS
  have hun2 : A.units + 3 + 200 < cLine := by have := hr.un; have h3 : (A.deeper (envOfC "are_kinds" (defScope s_are_kinds) s.heap.objs.size f cdv)).units = A.units + 3 := rfl; omega
  refine ⟨_, pss_cons (ps_if (pt_not (pt_chain op_le op_le pe_int (pe_callB call_len_seq rfl B.len PySem.boot_len (pa_cons (pv 0) pa_nil)) (pe_glob (v := .int (8)) rfl h_MOST_KINDS ⟨_, rfl⟩))) (pss_one (ps_ret pe_bl)) pss_nil)
    (pss_cons (ps_for PassesOwn.never rfl (pi_list (pv 0)) (pg_name (i := 1) sc_are_kinds.nd rfl (.inl rfl))
      (pss_one (ps_if (pt_not (pt_val (pe_got G_is_kind (hr.mono (by omega)) rfl (pa_cons (pv 1) pa_nil)))) (pss_one (ps_ret pe_bl)) pss_nil)))
    (pss_cons (ps_set (i := 2) sc_are_kinds.nd rfl (.inr rfl) (pe_lc (own := [("thing", 1)]) (g := (gName 1)) (tt := tYes) (te := (tOp (rIxT K) (tVar 1) (tC (.int 0)))) rfl sc_are_kinds.nd (pi_list (pv 0)) (blkOk_by (N := N_are_kinds) (sc := defScope s_are_kinds) (by decide +kernel)) (fun _ _ _ _ _ => (pg_name (i := 1) sc_are_kinds.nd rfl (.inl rfl))) (fun _ _ _ _ _ => pts_nil) (fun _ _ _ _ _ => (pe_ix ix_tup (pv 1) pe_int (fun _ _ => rfl)))))
    (pss_cons (ps_if (pt_cmpR op_ne (pe_lenSetS rfl B rfl rfl (pv 2)) (pe_callB call_len_seq rfl B.len PySem.boot_len (pa_cons (pv 2) pa_nil)) (nomark _)) (pss_one (ps_ret pe_bl)) pss_nil)
    (pss_one (ps_ret (pe_callB (cr_all rfl) rfl B.all boot_all (pa_cons (pe_lc2 (own := [("thing", 1), ("rule", 3)]) (vs1 := [3]) (wi1 := (iList K (tOp (rIxT K) (tVar 1) (tC (.int 2))))) (g := (gName 1)) (g1 := (gName 3)) (tt := tYes) (tt1 := tYes) (te := (tCall (spIsRuleOf K) [] E0 (tCons (tVar 3) (tCons (tVar 2) tNil)))) rfl sc_are_kinds.nd (pi_list (pv 0)) (blkOk_by (N := N_are_kinds) (sc := defScope s_are_kinds) (by decide +kernel)) (by simp) (fun _ _ _ _ _ => (pg_name (i := 1) sc_are_kinds.nd rfl (.inl rfl))) (fun _ _ _ _ _ => pts_nil) (fun _ _ _ _ _ => (pi_list (pe_ix ix_tup (pv 1) pe_int (fun _ _ => rfl)))) (fun _ _ _ _ _ => (pg_name (i := 3) sc_are_kinds.nd rfl (.inl rfl))) (fun _ _ _ _ _ => pts_nil) (fun _ _ _ _ _ => (pe_got G_is_rule_of (hr.mono (by omega)) rfl (pa_cons (pv 3) (pa_cons (pv 2) pa_nil))))) pa_nil))))))), ?_⟩
  have no : ¬ KTBk ts → ∀ H', SB [] H H' → Q (.bl false) H' := fun e H' s' => q false H' s' ⟨(fun z => nomatch z), fun z => absurd z e⟩
  have xlen := ha.length
  have szl := sizeLine_eq
  refine ⟨_, rfl, l, xs, rfl, .inl hs, _, _, rfl, rfl, _, rfl, ?_⟩
  refine ite2 (fun c => ?_) (fun c => ?_)
  · have c1 := of_decide_eq_true c
    refine ⟨_, _, rfl, rfl, _, rfl, ?_⟩
    cases c8 : decide (((xs.length : Nat) : Int) ≤ 8) with
    | false =>
      have c2 := of_decide_eq_false c8
      refine iteT (no ?_ _ SB.refl)
      rintro ⟨b, e, ok⟩
      have := ok.len
      rw [e, List.length_map] at xlen
      omega
    | true =>
    refine iteF ?_
    have c2 := of_decide_eq_true c8
    refine ⟨_, rfl, l, rfl, ⟨xs, hs⟩, ?_⟩
    refine for_list (K := K) (a := l) (xs := xs) (fun i σ H2 => SB [] H H2 ∧ (∃ o, σ = [some (.ref l), o, none, none]) ∧ ∀ t ∈ ts.take i, KTKd t) ⟨SB.refl, ⟨none, rfl⟩, by simp⟩ (fun i σ H2 hi h2 => h2.1.sqL List.not_mem_nil hs) (fun i x σ H2 hx h2 => ?_) (fun σ H2 h2 => ?_)
    · obtain ⟨h2, ⟨o, rfl⟩, h3⟩ := h2
      obtain ⟨t, et, ht⟩ := ha.get hx
      have mt := List.mem_of_getElem? et
      refine ⟨_, rfl, x, t, rfl, KTA_sb h2 ht, hf t mt, fun b H3 s3 hb => ?_⟩
      refine ⟨_, rfl, ?_⟩
      cases b with
      | false =>
        refine iteT (no ?_ _ (h2.trans s3))
        rintro ⟨bk, e, ok⟩
        rw [e] at mt
        obtain ⟨k, hk, rfl⟩ := List.mem_map.mp mt
        obtain ⟨o1, o2, o3⟩ := ok.kd k hk
        exact nomatch hb.mpr ⟨k, rfl, o1, o2, fun r hr => (o3 r hr).1⟩
      | true =>
        refine iteF ⟨h2.trans s3, ⟨_, rfl⟩, fun t' ht' => ?_⟩
        rw [List.take_add_one, et, Option.toList_some] at ht'
        rcases List.mem_append.mp ht' with h | h
        · exact h3 t' h
        · rw [List.mem_singleton.mp h]; exact hb.mp rfl
    · obtain ⟨h2, ⟨o, rfl⟩, h3⟩ := h2
      rw [xlen, List.take_length] at h3
      obtain ⟨bk, et, hk⟩ := KT_all h3
      subst et
      rw [List.length_map] at xlen
      have ha2 := (ha.sb h2).kd
      have hs2 := h2.sqL List.not_mem_nil hs
      refine ⟨_, rfl, l, rfl, ⟨xs, hs2⟩, fun D hD => ?_⟩
      refine lc_seq (walk_list (xs := xs)) hD (by omega) (fun i us _ => us = ((Bk.names bk).take i).map V.str) rfl (fun H6 s6 => s6.sqL List.not_mem_nil hs2) (fun _ _ _ _ _ h => h) (fun Pv i x H6 H' us hi s6 y hR hl6 fin _ => ?_) (fun us H6 s6 hD6 hR _ => ?_)
      · obtain ⟨rfl, ex⟩ := y
        obtain ⟨k, ek, t, r, zs, rfl, g1, g2, g3, _⟩ := ha2.get ex
        refine ⟨rfl, _, rfl, t, _, _, _, rfl, rfl, s6.sqT g1, atI_nat (j := 0) rfl, fin _ _ SB.refl ?_⟩
        rw [hR, List.take_add_one, List.getElem?_map, ek, Option.map_some, Option.toList_some, List.map_append]; rfl
      · rw [xlen, show (Bk.names bk).take bk.length = Bk.names bk by rw [List.take_of_length_le (by simp)]] at hR
        subst hR
        have s06 := h2.trans s6
        refine ⟨_, rfl, D, Bk.names bk, rfl, SqL.of hD6, by rw [List.length_map]; omega, ?_⟩
        refine ⟨_, rfl, D, _, rfl, .inl (SqL.of hD6), rfl, _, rfl, ?_⟩
        have hnd := met_len_nodup (Bk.names bk)
        rw [show (List.map V.str (Bk.names bk)).length = (Bk.names bk).length from List.length_map ..]
        by_cases nd : (Bk.names bk).Nodup
        · rw [hnd.mpr nd, show (!decide (V.int ((Bk.names bk).length : Nat) = V.int ((Bk.names bk).length : Nat))) = false by simp]
          refine iteF ?_
          have ha6 := ha2.sb s6 NoLst.nil
          have hs6 := s6.sqL List.not_mem_nil hs2
          refine ⟨_, rfl, l, rfl, ⟨xs, hs6⟩, fun E1 hE1 => ?_⟩
          have good : ∀ r : Ru, (∃ k ∈ bk, r ∈ k.rs) → RuOk r := fun r ⟨k, h1, h2⟩ => (hk k h1).2.2 r h2
          refine lcG (walk_list (xs := xs)) (fun i H2 => SB [E1] H6 H2 ∧ ∃ bs : List Bool, H2 E1 = some (.lst (bs.map V.bl)) ∧ bs = ((bk.take i).flatMap fun k => k.rs.map fun r => decide (∀ p ∈ Ru.within r, p.1.1 ∈ Bk.names bk))) ⟨SB.new hE1 _, [], upd_same, rfl⟩ (fun i H2 hi h2 => (h2.1.drop hE1).sqL List.not_mem_nil hs6) (fun i x H2 H' hi h2 y => ?_) (fun H2 h2 => ?_)
          · obtain ⟨s7, bs, hE7, hbs⟩ := h2
            obtain ⟨rfl, ex⟩ := y
            obtain ⟨k, ek, t, r, zs, rfl, g1, g2, g3, _⟩ := ha6.get ex
            have mk := List.mem_of_getElem? ek
            have zl := g3.length
            have r4 := (hk k mk).2.1
            have s7' := s7.drop hE1
            refine ⟨rfl, ?_⟩
            refine ⟨_, rfl, t, _, _, _, rfl, rfl, s7'.sqT g1, atI_nat (j := 2) rfl, r, rfl, ⟨zs, SqL.of (s7'.keep _ _ g2 List.not_mem_nil)⟩, ?_⟩
            have hsplit : ((bk.take (i + 1)).flatMap fun k => k.rs.map fun r => decide (∀ p ∈ Ru.within r, p.1.1 ∈ Bk.names bk)) = ((bk.take i).flatMap fun k => k.rs.map fun r => decide (∀ p ∈ Ru.within r, p.1.1 ∈ Bk.names bk)) ++ k.rs.map fun r => decide (∀ p ∈ Ru.within r, p.1.1 ∈ Bk.names bk) := by rw [List.take_add_one, ek]; simp
            have hlen : bs.length ≤ 4 * i := by
              rw [hbs]
              clear hbs hE7 s7 s7' hsplit ex ek
              induction i with
              | zero => simp
              | succ i ih =>
                rw [List.take_add_one, List.flatMap_append, List.length_append]
                have := ih (by omega)
                cases e : bk[i]? with
                | none => simp only [Option.toList_none, List.flatMap_nil, List.length_nil]; omega
                | some k2 =>
                  have := (hk k2 (List.mem_of_getElem? e)).2.1
                  simp only [Option.toList_some, List.flatMap_cons, List.flatMap_nil, List.append_nil, List.length_map]; omega
            refine lcG (walk_list (xs := zs)) (fun j H3 => SB [E1] H6 H3 ∧ ∃ bs2 : List Bool, H3 E1 = some (.lst (bs2.map V.bl)) ∧ bs2 = bs ++ ((k.rs.take j).map fun r => decide (∀ p ∈ Ru.within r, p.1.1 ∈ Bk.names bk))) ⟨s7, bs, hE7, by simp⟩ (fun j H3 hj h3 => (h3.1.drop hE1).sqL List.not_mem_nil (SqL.of g2)) (fun j x H3 H4 hj h3 y => ?_) (fun H3 h3 => ?_)
            · obtain ⟨s8, bs2, hE8, hbs2⟩ := h3
              obtain ⟨rfl, ex2⟩ := y
              obtain ⟨ru, er, hru⟩ := g3.get ex2
              have s8' := s8.drop hE1
              have mr := List.mem_of_getElem? er
              refine ⟨rfl, ?_⟩
              refine ⟨_, rfl, _, rfl, _, D, ru, Bk.names bk, rfl, Dp_sb s8' _ _ (Ru.noList_enc _) hru, (hk k mk).2.2 ru mr, SqL.of (s8'.keep _ _ hD6 List.not_mem_nil), by rw [List.length_map]; omega, fun H9 s9 => ?_⟩
              have hE9 := s9.keep _ _ hE8 List.not_mem_nil
              refine ⟨_, hE9, ?_, (s8.trans s9.nil).trans (SB.set hE9 (by simp) _), bs2 ++ [decide (∀ p ∈ Ru.within ru, p.1.1 ∈ Bk.names bk)], (by rw [upd_same, List.map_append]; rfl), ?_⟩
              · rw [List.length_map, hbs2, List.length_append, List.length_map, List.length_take]
                omega
              · rw [hbs2, List.take_add_one, er, Option.toList_some, List.map_append, ← List.append_assoc]
                exact rfl
            · obtain ⟨s8, bs2, hE8, hbs2⟩ := h3
              refine ⟨s8, bs2, hE8, ?_⟩
              rw [hsplit, hbs2, hbs, zl, List.take_length]
          · obtain ⟨s7, bs, hE7, hbs⟩ := h2
            rw [xlen, List.take_length] at hbs
            refine ⟨E1, bs, rfl, SqL.of hE7, q _ _ (s06.trans (s7.drop hE1)) ?_⟩
            rw [hbs]
            simp only [List.all_flatMap, List.all_map, List.all_eq_true, Function.comp, id_eq, decide_eq_true_eq]
            constructor
            · intro h
              exact ⟨bk, rfl, by omega, by omega, nd, fun k mk => ⟨(hk k mk).1, (hk k mk).2.1, fun r mr => ⟨(hk k mk).2.2 r mr, h k mk r mr⟩⟩⟩
            · rintro ⟨b2, e2, ok⟩ k mk r mr
              have e3 := kts_inj e2
              subst e3
              exact ((ok.kd k mk).2.2 r mr).2
        · rw [show (!decide (V.int ((met (Bk.names bk) (Bk.names bk).length).length : Nat) = V.int ((Bk.names bk).length : Nat))) = true by
            rw [decide_eq_false (fun z => by injection z with z; exact nd (hnd.mp (by omega)))]; rfl]
          refine iteT (no ?_ _ s06)
          rintro ⟨b2, e2, ok⟩
          have e3 := kts_inj e2
          subst e3
          exact nd ok.nd
  · have c1 := of_decide_eq_false (Bool.eq_false_iff.mpr c)
    refine ⟨_, rfl, ?_⟩
    refine iteT (no ?_ _ SB.refl)
    rintro ⟨b, e, ok⟩
    have := ok.pos
    rw [e, List.length_map] at xlen
    omega
end
end FT
namespace FT
open PySem PySem.W PySem.Spec PyProof.Rows L2
section
variable {P : Program} {w : World} {K : PySem.W.Frag} {mg : Str → Option Value} {base : Heap} {f : Addr} {fd : FuncData}
abbrev N_is_kind : List Str := ["thing", "name", "spreading", "rows", "row"]
theorem sc_is_kind : FnScope N_is_kind ["thing"] (defScope s_is_kind) := ⟨rfl, rfl, rfl, by decide +kernel, rfl, by decide +kernel, by decide +kernel⟩
theorem ok_is_kind (B : BI mg) (L_MOST_RULES : ∃ t, mg "MOST_RULES" = some (.int (4) t)) (G_is_name : Got P w K mg base "is_name" ["thing"] (2) (spName K)) (G_is_rule : Got P w K mg base "is_rule" ["thing"] (85) (spIsRule K)) (F : Fun K "is_kind" "is_kind" s_is_kind f fd) : FnOk P w K mg base CX0 (86) f fd ["thing"] (spIsKind K) := by
  refine F.ok sc_is_kind (fun vs H Q E h => ?_) (fun cdv A outer s H vs Q E hr h => ?_)
  · obtain ⟨v, t, rfl, _⟩ := h
    rfl
  obtain ⟨v, t, rfl, th, hf, q⟩ := h
  obtain ⟨tk_MOST_RULES, h_MOST_RULES⟩ := L_MOST_RULES
  have hun2 : A.units + 3 + 200 < cLine := by have := hr.un; have h3 : (A.deeper (envOfC "is_kind" (defScope s_is_kind) s.heap.objs.size f cdv)).units = A.units + 3 := rfl; omega
  refine ⟨_, pss_cons (ps_if (PW.pt (pw_or (pt_not (pt_val (pe_isi B (pv 0) B.tuple boot_tuple))) (pw_or1 (pt_cmpR op_ne (pe_callB call_len_seq rfl B.len PySem.boot_len (pa_cons (pv 0) pa_nil)) pe_int (nomark _))))) (pss_one (ps_ret pe_bl)) pss_nil)
    (pss_cons (ps_asg (pv 0) (pg_tup rfl (pgs_cons (pg_name (i := 1) sc_is_kind.nd rfl (.inl rfl)) (pgs_cons (pg_name (i := 2) sc_is_kind.nd rfl (.inl rfl)) (pgs_cons (pg_name (i := 3) sc_is_kind.nd rfl (.inl rfl)) pgs_nil)))))
    (pss_cons (ps_if (PW.pt (pw_or (pt_not (pt_val (pe_got G_is_name (hr.mono (by omega)) rfl (pa_cons (pv 1) pa_nil)))) (pw_or1 (pt_not (pt_val (pe_isi B (pv 2) B.bool boot_bool)))))) (pss_one (ps_ret pe_bl)) pss_nil)
    (pss_one (ps_ret (pe_and (pe_isi B (pv 3) B.list boot_list) (pe_and (pe_cmpR op_le (pe_callB call_len_seq rfl B.len PySem.boot_len (pa_cons (pv 3) pa_nil)) (pe_glob (v := .int (4)) rfl h_MOST_RULES ⟨_, rfl⟩) (nomark _)) (pe_one (pe_callB (cr_all rfl) rfl B.all boot_all (pa_cons (pe_lc (own := [("row", 4)]) (g := (gName 4)) (tt := tYes) (te := (tCall (spIsRule K) [] E0 (tCons (tVar 4) tNil))) rfl sc_is_kind.nd (pi_list (pv 3)) (blkOk_by (N := N_is_kind) (sc := defScope s_is_kind) (by decide +kernel)) (fun _ _ _ _ _ => (pg_name (i := 4) sc_is_kind.nd rfl (.inl rfl))) (fun _ _ _ _ _ => pts_nil) (fun _ _ _ _ _ => (pe_got G_is_rule (hr.mono (by omega)) rfl (pa_cons (pv 4) pa_nil)))) pa_nil))))))))), ?_⟩
  have no : ¬ KTKd t → ∀ H', SB [] H H' → Q (.bl false) H' := fun e H' s' => q false H' s' ⟨(fun z => nomatch z), fun z => absurd z e⟩
  cases t with
  | other =>
    have n0 : ¬ KTKd .other := by rintro ⟨k, e, _⟩; cases e
    obtain ⟨d, tg, hd⟩ := th
    obtain ⟨n1, b, ty, kb, y1, y2⟩ := tg.ty
    refine ⟨_, rfl, _, _, n1, b, rfl, ty, kb, b, rfl, ?_⟩
    cases b with
    | false => exact iteT (iteT (no n0 _ SB.refl))
    | true =>
    refine iteF ?_
    obtain ⟨a, xs, ds, rfl, rfl, hs, ha⟩ := y1 rfl
    refine ⟨_, rfl, a, xs, rfl, .inr hs, rfl, _, rfl, ?_⟩
    have hl := TgAll.length ha
    have h3 := hd ds rfl
    rw [show (!decide (V.int (xs.length : Nat) = V.int 3)) = true by rw [decide_eq_false (fun z => by injection z with z; omega)]; rfl]
    exact iteT (no n0 _ SB.refl)
  | three d w rs =>
    obtain ⟨a, x, y, z, rfl, hs, tx, ty, tz⟩ := th
    refine ⟨_, rfl, _, _, "tuple", true, rfl, SqT_ty hs, by decide +kernel, _, rfl, ?_⟩
    refine iteF ?_
    refine ⟨_, rfl, a, _, rfl, .inr hs, rfl, _, rfl, ?_⟩
    rw [show (!decide (V.int (([x, y, z] : List V).length : Nat) = V.int 3)) = false from rfl]
    refine iteF ?_
    refine ⟨_, rfl, a, _, rfl, hs, rfl, _, _, rfl, _, _, rfl, _, _, rfl, rfl, ?_⟩
    refine ⟨_, rfl, x, d, rfl, tx, fun H1 s1 => ?_⟩
    refine ⟨_, rfl, ?_⟩
    cases g1 : nameD d with
    | false =>
      refine iteT (iteT (no ?_ _ s1))
      rintro ⟨k, e, hk, _⟩
      injection e with e _ _
      rw [e, nameD_ok hk] at g1
      cases g1
    | true =>
    refine iteF ?_
    obtain ⟨nm, rfl, hnm⟩ := nameD_iff g1
    cases w with
    | none =>
      obtain ⟨n, ty, kb⟩ := ty
      refine ⟨_, rfl, _, _, n, false, rfl, TyX_sb s1 (fun _ _ => List.not_mem_nil) ty, kb, _, rfl, ?_⟩
      refine iteT (no ?_ _ s1)
      rintro ⟨k, e, _⟩
      injection e with _ e _
      cases e
    | some bb =>
    have ty : y = .bl bb := ty
    subst ty
    refine ⟨_, rfl, _, _, "bool", true, rfl, .base (.bl bb), by decide +kernel, _, rfl, ?_⟩
    refine iteF ?_
    cases rs with
    | none =>
      obtain ⟨n, ty, kb⟩ := tz
      refine ⟨_, rfl, _, _, n, false, rfl, TyX_sb s1 (fun _ _ => List.not_mem_nil) ty, kb, _, rfl, ?_⟩
      refine iteF (no ?_ _ s1)
      rintro ⟨k, e, _⟩
      injection e with _ _ e
      cases e
    | some ds =>
    obtain ⟨l, zs, rfl, hl, ha⟩ := tz
    obtain ⟨hd1, hd2⟩ := hf ds rfl
    refine ⟨_, rfl, _, _, "list", true, rfl, SqL_ty (s1.sqL List.not_mem_nil (SqL.of hl)), by decide +kernel, _, rfl, ?_⟩
    refine iteT ?_
    have hlen := TgAll.length ha
    refine ⟨_, rfl, l, _, rfl, .inl (s1.sqL List.not_mem_nil (SqL.of hl)), _, _, rfl, rfl, _, rfl, ?_⟩
    refine ite2 (fun c => ?_) (fun c => ?_)
    · have c1 := of_decide_eq_true c
      rw [hlen] at c1
      have szl := sizeLine_eq
      refine ⟨_, rfl, l, rfl, ⟨_, s1.sqL List.not_mem_nil (SqL.of hl)⟩, fun D hD => ?_⟩
      refine lc_seq (walk_list (xs := zs)) hD (by omega) (fun i us _ => ∃ bs : List Bool, us = bs.map V.bl ∧ bs.length = i ∧ ∀ j b, bs[j]? = some b → ∀ x, ds[j]? = some x → (b = true ↔ RuD x)) ⟨[], rfl, rfl, fun j b h => by rw [List.getElem?_nil] at h; cases h⟩ (fun H6 s6 => s6.sqL List.not_mem_nil (s1.sqL List.not_mem_nil (SqL.of hl))) (fun _ _ _ _ _ h => h) (fun Pv i x H6 H' us hi s6 y hR hl6 fin _ => ?_) (fun us H6 s6 hD6 hR _ => ?_)
      · obtain ⟨rfl, ex⟩ := y
        obtain ⟨p, ep, hp⟩ := TgAll.get ha ex
        obtain ⟨bs, rfl, hbl, hbs⟩ := hR
        refine ⟨rfl, _, rfl, x, p, rfl, Tg_sb (s1.trans s6) hp, hd2 _ (List.mem_of_getElem? ep), fun b H7 s7 hb => fin _ _ s7 ⟨bs ++ [b], by rw [List.map_append]; rfl, by rw [List.length_append, hbl]; rfl, fun j b' hj y hy => ?_⟩⟩
        by_cases hji : j < bs.length
        · rw [List.getElem?_append_left hji] at hj
          exact hbs j b' hj y hy
        · have hj' : j = bs.length := by
            have := (List.getElem?_eq_some_iff.mp hj).1
            rw [List.length_append, List.length_singleton] at this
            omega
          subst hj'
          rw [List.getElem?_append_right (Nat.le_refl _), Nat.sub_self] at hj
          cases hj
          rw [hbl, ep] at hy
          cases hy
          exact hb
      · obtain ⟨bs, rfl, hbl, hbs⟩ := hR
        refine ⟨D, bs, rfl, SqL.of hD6, q _ _ (s1.trans s6) ?_⟩
        have h1 : (bs.all id = true) ↔ ∀ x ∈ ds, RuD x := by
          rw [List.all_eq_true]
          constructor
          · intro h x hx
            obtain ⟨j, hj, e⟩ := List.getElem_of_mem hx
            have hjb : j < bs.length := by omega
            exact (hbs j bs[j] (List.getElem?_eq_getElem hjb) x (by rw [List.getElem?_eq_getElem hj, e])).mp (h _ (List.getElem_mem hjb))
          · intro h b hb
            obtain ⟨j, hj, e⟩ := List.getElem_of_mem hb
            have hjb : j < ds.length := by omega
            exact (hbs j b (by rw [List.getElem?_eq_getElem hj, e]) ds[j] (List.getElem?_eq_getElem hjb)).mpr (h _ (List.getElem_mem hjb))
        rw [h1]
        constructor
        · intro h
          obtain ⟨rr, e1, e2⟩ := RuD_all h
          exact ⟨⟨nm, bb, rr⟩, by rw [Kd.kt, e1], hnm, by rw [e1, List.length_map] at c1; show rr.length ≤ 4; omega, e2⟩
        · rintro ⟨k, e, _, _, hk⟩ x hx
          injection e with _ _ e
          injection e with e
          rw [e] at hx
          obtain ⟨r, hr, rfl⟩ := List.mem_map.mp hx
          exact ⟨r, rfl, hk r hr⟩
    · have c1 := of_decide_eq_false (Bool.eq_false_iff.mpr c)
      rw [hlen] at c1
      refine no ?_ _ s1
      rintro ⟨k, e, _, h4, _⟩
      injection e with _ _ e
      injection e with e
      rw [e, List.length_map] at c1
      omega
end
end FT
namespace FT
open PySem PySem.W PySem.Spec PyProof.Rows L2
section
variable {P : Program} {w : World} {K : PySem.W.Frag} {mg : Str → Option Value} {base : Heap} {f : Addr} {fd : FuncData}
abbrev N_is_rule : List Str := ["thing", "once", "each", "pairs", "tree", "many"]
theorem sc_is_rule : FnScope N_is_rule ["thing"] (defScope s_is_rule) := ⟨rfl, rfl, rfl, by decide +kernel, rfl, by decide +kernel, by decide +kernel⟩
theorem ok_is_rule (B : BI mg) (L_MOST_RULE_PARTS : ∃ t, mg "MOST_RULE_PARTS" = some (.int (4) t)) (L_MOST_MANY : ∃ t, mg "MOST_MANY" = some (.int (1000000000) t)) (G_is_grove : Got P w K mg base "is_grove" ["thing"] (84) (spIsGrove K 81)) (G_pairs_within : Got P w K mg base "pairs_within" ["grove"] (20) (spPairsW K 20)) (F : Fun K "is_rule" "is_rule" s_is_rule f fd) : FnOk P w K mg base CX0 (85) f fd ["thing"] (spIsRule K) := by
  refine F.ok sc_is_rule (fun vs H Q E h => ?_) (fun cdv A outer s H vs Q E hr h => ?_)
  · obtain ⟨v, d, rfl, _⟩ := h
    rfl
  obtain ⟨v, d, rfl, th, hf, q⟩ := h
  obtain ⟨tk_MOST_RULE_PARTS, h_MOST_RULE_PARTS⟩ := L_MOST_RULE_PARTS
  obtain ⟨tk_MOST_MANY, h_MOST_MANY⟩ := L_MOST_MANY
  have hun2 : A.units + 3 + 200 < cLine := by have := hr.un; have h3 : (A.deeper (envOfC "is_rule" (defScope s_is_rule) s.heap.objs.size f cdv)).units = A.units + 3 := rfl; omega
  refine ⟨_, pss_cons (ps_if (PW.pt (pw_or (pt_not (pt_val (pe_isi B (pv 0) B.tuple boot_tuple))) (pw_or1 (pt_cmpR op_ne (pe_callB call_len_seq rfl B.len PySem.boot_len (pa_cons (pv 0) pa_nil)) pe_int (nomark _))))) (pss_one (ps_ret pe_bl)) pss_nil)
    (pss_cons (ps_asg (pv 0) (pg_tup rfl (pgs_cons (pg_name (i := 1) sc_is_rule.nd rfl (.inl rfl)) (pgs_cons (pg_name (i := 2) sc_is_rule.nd rfl (.inl rfl)) pgs_nil))))
    (pss_cons (ps_if (PW.pt (pw_or (pt_not (pt_val (pe_got G_is_grove (hr.mono (by omega)) rfl (pa_cons (pv 1) pa_nil)))) (pw_or1 (pt_not (pt_val (pe_got G_is_grove (hr.mono (by omega)) rfl (pa_cons (pv 2) pa_nil))))))) (pss_one (ps_ret pe_bl)) pss_nil)
    (pss_cons (ps_set (i := 3) sc_is_rule.nd rfl (.inl rfl) (pe_op op_cat (pe_got G_pairs_within (hr.mono (by omega)) rfl (pa_cons (pv 1) pa_nil)) (pe_got G_pairs_within (hr.mono (by omega)) rfl (pa_cons (pv 2) pa_nil))))
    (pss_one (ps_ret (pe_and (pe_cmpR op_le (pe_callB call_len_seq rfl B.len PySem.boot_len (pa_cons (pv 3) pa_nil)) (pe_glob (v := .int (4)) rfl h_MOST_RULE_PARTS ⟨_, rfl⟩) (nomark _)) (pe_one (pe_callB (cr_all rfl) rfl B.all boot_all (pa_cons (pe_lc (own := [("tree", 4), ("many", 5)]) (g := (gTup K 2 (gCons (gName 4) (gCons (gName 5) gNil)))) (tt := tYes) (te := (tOp (rI0 fun i j => .bl (decide (i ≤ j))) (tVar 5) (tC (.int (1000000000))))) rfl sc_is_rule.nd (pi_list (pv 3)) (blkOk_by (N := N_is_rule) (sc := defScope s_is_rule) (by decide +kernel)) (fun _ _ _ _ _ => (pg_tup rfl (pgs_cons (pg_name (i := 4) sc_is_rule.nd rfl (.inl rfl)) (pgs_cons (pg_name (i := 5) sc_is_rule.nd rfl (.inl rfl)) pgs_nil)))) (fun _ _ _ _ _ => pts_nil) (fun _ _ _ _ _ => (pe_cmpR op_le (pv 5) (pe_glob (v := .int (1000000000)) rfl h_MOST_MANY ⟨_, rfl⟩) (nomark _)))) pa_nil))))))))), ?_⟩
  have no : ¬ RuD d → ∀ H', SB [] H H' → Q (.bl false) H' := fun e H' s' => q false H' s' ⟨(fun z => nomatch z), fun z => absurd z e⟩
  obtain ⟨n1, b, ty, kb, y1, y2⟩ := th.ty
  refine ⟨_, rfl, _, _, n1, b, rfl, ty, kb, b, rfl, ?_⟩
  cases b with
  | false =>
    refine iteT (iteT (no ?_ _ SB.refl))
    rintro ⟨r, e, _⟩
    exact y2 rfl _ e
  | true =>
  refine iteF ?_
  obtain ⟨a, xs, ds, rfl, rfl, hs, ha⟩ := y1 rfl
  refine ⟨_, rfl, a, xs, rfl, .inr hs, rfl, _, rfl, ?_⟩
  have hl := TgAll.length ha
  by_cases c2 : xs.length = 2
  · rw [show (!decide (V.int (xs.length : Nat) = V.int 2)) = false by rw [c2]; rfl]
    refine iteF ?_
    cases ha with
    | nil => simp at c2
    | cons t1 ta =>
      cases ta with
      | nil => simp at c2
      | cons t2 ta =>
        cases ta with
        | cons t3 ta => simp at c2
        | nil =>
          rename_i v1 d1 v2 d2
          obtain ⟨f1, f2, f3⟩ := hf
          have q1 : d1.depth < PyData.depth (.tuple [d1, d2]) ∧ d2.depth < PyData.depth (.tuple [d1, d2]) := by simp only [PyData.depth, PyData.depthAll]; omega
          have q2 : wide d1 ≤ wide (.tuple [d1, d2]) ∧ wide d2 ≤ wide (.tuple [d1, d2]) := by simp only [wide, wides]; omega
          refine ⟨_, rfl, a, _, rfl, hs, rfl, _, _, rfl, _, _, rfl, rfl, ?_⟩
          refine ⟨_, rfl, v1, d1, rfl, t1, by omega, by omega, by omega, fun H1 s1 => ?_⟩
          refine ⟨_, rfl, ?_⟩
          cases g1 : groveD d1 with
          | false =>
            refine iteT (iteT (no ?_ _ s1))
            intro z
            obtain ⟨g, k, e, z1, _⟩ := RuD_two z
            injection e with e
            injection e with e _
            rw [e, z1] at g1
            cases g1
          | true =>
          refine iteF ?_
          refine ⟨_, rfl, v2, d2, rfl, Tg_sb s1 t2, by omega, by omega, by omega, fun H2 s2 => ?_⟩
          have s02 := s1.trans s2
          refine ⟨_, rfl, ?_⟩
          cases g2 : groveD d2 with
          | false =>
            refine iteT (no ?_ _ s02)
            intro z
            obtain ⟨g, k, e, _, z1⟩ := RuD_two z
            injection e with e
            injection e with _ e
            injection e with e _
            rw [e, z1] at g2
            cases g2
          | true =>
          refine iteF ?_
          obtain ⟨u1, rfl⟩ := groveD_gr _ g1
          obtain ⟨u2, rfl⟩ := groveD_gr _ g2
          obtain ⟨w1, w2⟩ := f3 _ _ rfl u1 (.inl rfl)
          obtain ⟨w3, w4⟩ := f3 _ _ rfl u2 (.inr rfl)
          have ga1 : GA K H v1 u1 := by
            cases t1 with
            | tup h1 h2 => exact .tup h1 (Tg_ga u1 h2)
          have ga2 : GA K H v2 u2 := by
            cases t2 with
            | tup h1 h2 => exact .tup h1 (Tg_ga u2 h2)
          refine ⟨_, rfl, _, u1, rfl, ga1.sb s02, by omega, by omega, fun D1 us1 H3 s3 hn1 hD1 hb1 => ?_⟩
          refine ⟨_, rfl, _, u2, rfl, (ga2.sb s02).sb s3, by omega, by omega, fun D2 us2 H4 s4 hn2 hD2 hb2 => ?_⟩
          have l1 := hb1.length
          have l2 := hb2.length
          rw [Gr.within_length] at l1 l2
          have szl := sizeLine_eq
          refine ⟨D1, D2, us1, us2, rfl, rfl, s4.keep _ _ hD1 List.not_mem_nil, hD2, by omega, fun D3 hn3 => ?_⟩
          have t5 := SB.new (ps := []) hn3 (.lst (us1 ++ us2))
          have s05 := ((s02.trans s3).trans s4).trans t5
          have hD3 : upd H4 D3 (.lst (us1 ++ us2)) D3 = some (.lst (us1 ++ us2)) := upd_same
          have hb3 : Bears K (upd H4 D3 (.lst (us1 ++ us2))) Gr.pEnc (us1 ++ us2) (u1.within ++ u2.within) := Bears.append ((hb1.sb s4 Gr.noList_pEnc).sb t5 Gr.noList_pEnc) (hb2.sb t5 Gr.noList_pEnc)
          generalize upd H4 D3 (.lst (us1 ++ us2)) = H5 at t5 s05 hD3 hb3
          have iff1 := RuD_iff g1 g2
          refine ⟨_, rfl, D3, _, rfl, .inl (SqL.of hD3), _, _, rfl, rfl, _, rfl, ?_⟩
          refine ite2 (fun c => ?_) (fun c => ?_)
          · have c1 := of_decide_eq_true c
            rw [List.length_append, l1, l2] at c1
            have bl3 := hb3.length
            refine ⟨_, rfl, D3, rfl, ⟨_, SqL.of hD3⟩, fun D hD => ?_⟩
            refine lc_seq (walk_list (xs := us1 ++ us2)) hD (by rw [List.length_append]; omega) (fun i us _ => us = ((u1.within ++ u2.within).take i).map fun p => V.bl (decide (p.2 ≤ 1000000000))) rfl (fun H6 s6 => s6.sqL List.not_mem_nil (SqL.of hD3)) (fun _ _ _ _ _ h => h) (fun Pv i x H6 H' us hi s6 y hR hl6 fin _ => ?_) (fun us H6 s6 hD6 hR _ => ?_)
            · obtain ⟨rfl, ex⟩ := y
              obtain ⟨p, ep, hpd⟩ := hb3.get ex
              obtain ⟨ad, td, ux, rfl, hs2, hs3, hga, hdt⟩ := PA_parts hpd
              refine ⟨ad, _, rfl, s6.sqT hs2, rfl, _, _, rfl, _, _, rfl, rfl, rfl, ?_⟩
              refine ⟨_, rfl, _, _, rfl, rfl, fin _ _ SB.refl ?_⟩
              rw [hR, List.take_add_one, ep, Option.toList_some, List.map_append]; rfl
            · rw [bl3, List.take_length] at hR
              subst hR
              refine ⟨D, ((u1.within ++ u2.within).map fun p => decide (p.2 ≤ 1000000000)), rfl, SqL.of (by rw [List.map_map]; exact hD6), q _ _ (s05.trans s6) ?_⟩
              rw [iff1]
              simp only [List.all_map, List.all_eq_true, Function.comp, id_eq, decide_eq_true_eq]
              exact ⟨fun h => ⟨by omega, h⟩, fun h => h.2⟩
          · have c1 := of_decide_eq_false (Bool.eq_false_iff.mpr c)
            rw [List.length_append, l1, l2] at c1
            refine q false _ s05 ⟨(fun z => nomatch z), fun z => absurd (iff1.mp z).1 (by omega)⟩
  · rw [show (!decide (V.int (xs.length : Nat) = V.int 2)) = true by rw [decide_eq_false (fun z => by injection z with z; omega)]; rfl]
    refine iteT (no ?_ _ SB.refl)
    rintro ⟨r, e, _⟩
    have e' : PyData.tuple ds = .tuple [r.1.enc, r.2.enc] := e
    injection e' with e'
    rw [e'] at hl
    exact c2 hl
end
end FT
namespace FT
open PySem PySem.W PySem.Spec PyProof.Rows L2
section
variable {P : Program} {w : World} {K : PySem.W.Frag} {mg : Str → Option Value} {base : Heap} {f : Addr} {fd : FuncData}
abbrev N_is_rule_of : List Str := ["rule", "names", "once", "each", "tree", "many"]
theorem sc_is_rule_of : FnScope N_is_rule_of ["rule", "names"] (defScope s_is_rule_of) := ⟨rfl, rfl, rfl, by decide +kernel, rfl, by decide +kernel, by decide +kernel⟩
theorem ok_is_rule_of (B : BI mg) (G_pairs_within : Got P w K mg base "pairs_within" ["grove"] (20) (spPairsW K 20)) (F : Fun K "is_rule_of" "is_rule_of" s_is_rule_of f fd) : FnOk P w K mg base CX0 (21) f fd ["rule", "names"] (spIsRuleOf K) := by
  refine F.ok sc_is_rule_of (fun vs H Q E h => ?_) (fun cdv A outer s H vs Q E hr h => ?_)
  · obtain ⟨v, l, r, ns, rfl, _⟩ := h
    rfl
  obtain ⟨v, l, r, ns, rfl, hv, ho, hs, hn, q⟩ := h
  have hun2 : A.units + 3 + 200 < cLine := by have := hr.un; have h3 : (A.deeper (envOfC "is_rule_of" (defScope s_is_rule_of) s.heap.objs.size f cdv)).units = A.units + 3 := rfl; omega
  refine ⟨_, pss_cons (ps_asg (pv 0) (pg_tup rfl (pgs_cons (pg_name (i := 2) sc_is_rule_of.nd rfl (.inl rfl)) (pgs_cons (pg_name (i := 3) sc_is_rule_of.nd rfl (.inl rfl)) pgs_nil))))
    (pss_one (ps_ret (pe_callB (cr_all rfl) rfl B.all boot_all (pa_cons (pe_lc (own := [("tree", 4), ("many", 5)]) (g := (gTup K 2 (gCons (gName 4) (gCons (gName 5) gNil)))) (tt := tYes) (te := (tOp (rIn K false) (tOp (rIxT K) (tVar 4) (tC (.int 0))) (tVar 1))) rfl sc_is_rule_of.nd (pi_list (pe_op op_cat (pe_got G_pairs_within (hr.mono (by omega)) rfl (pa_cons (pv 2) pa_nil)) (pe_got G_pairs_within (hr.mono (by omega)) rfl (pa_cons (pv 3) pa_nil)))) (blkOk_by (N := N_is_rule_of) (sc := defScope s_is_rule_of) (by decide +kernel)) (fun _ _ _ _ _ => (pg_tup rfl (pgs_cons (pg_name (i := 4) sc_is_rule_of.nd rfl (.inl rfl)) (pgs_cons (pg_name (i := 5) sc_is_rule_of.nd rfl (.inl rfl)) pgs_nil)))) (fun _ _ _ _ _ => pts_nil) (fun _ _ _ _ _ => (pe_cmpR op_in_seq (pe_ix ix_tup (pv 4) pe_int (fun _ _ => rfl)) (pv 1) (by rfl)))) pa_nil)))), ?_⟩
  obtain ⟨ho1, ho2, ho3⟩ := ho
  cases (hv : Dp K H v (.tuple [r.1.enc, r.2.enc])) with
  | tup ht hd =>
  rename_i a xs
  cases hd with
  | cons g1 hd =>
  cases hd with
  | cons g2 hd =>
  cases hd
  have dp1 := (within_deep r.1)
  have dp2 := (within_deep r.2)
  refine ⟨_, rfl, a, _, rfl, ht, rfl, _, _, rfl, _, _, rfl, rfl, ?_⟩
  have ga1 : GA K H _ r.1 := g1
  have ga2 : GA K H _ r.2 := g2
  refine ⟨_, rfl, _, r.1, rfl, ga1, by omega, by omega, fun D1 us1 H3 s3 hn1 hD1 hb1 => ?_⟩
  refine ⟨_, rfl, _, r.2, rfl, ga2.sb s3, by omega, by omega, fun D2 us2 H4 s4 hn2 hD2 hb2 => ?_⟩
  have l1 := hb1.length
  have l2 := hb2.length
  rw [Gr.within_length] at l1 l2
  have szl := sizeLine_eq
  refine ⟨D1, D2, us1, us2, rfl, rfl, s4.keep _ _ hD1 List.not_mem_nil, hD2, by omega, fun D3 hn3 => ?_⟩
  have t5 := SB.new (ps := []) hn3 (.lst (us1 ++ us2))
  have s05 := (s3.trans s4).trans t5
  have hD3 : upd H4 D3 (.lst (us1 ++ us2)) D3 = some (.lst (us1 ++ us2)) := upd_same
  have hb3 : Bears K (upd H4 D3 (.lst (us1 ++ us2))) Gr.pEnc (us1 ++ us2) (r.1.within ++ r.2.within) := Bears.append ((hb1.sb s4 Gr.noList_pEnc).sb t5 Gr.noList_pEnc) (hb2.sb t5 Gr.noList_pEnc)
  generalize upd H4 D3 (.lst (us1 ++ us2)) = H5 at t5 s05 hD3 hb3
  have bl3 := hb3.length
  refine ⟨D3, rfl, ⟨_, SqL.of hD3⟩, fun D hD => ?_⟩
  refine lc_seq (walk_list (xs := us1 ++ us2)) hD (by rw [List.length_append]; omega) (fun i us _ => us = ((r.1.within ++ r.2.within).take i).map fun p => V.bl (decide (p.1.1 ∈ ns))) rfl (fun H6 s6 => s6.sqL List.not_mem_nil (SqL.of hD3)) (fun _ _ _ _ _ h => h) (fun Pv i x H6 H' us hi s6 y hR hl6 fin _ => ?_) (fun us H6 s6 hD6 hR _ => ?_)
  · obtain ⟨rfl, ex⟩ := y
    obtain ⟨p, ep, hpd⟩ := hb3.get ex
    obtain ⟨ad, td, ux, rfl, hs2, hs3, hga, hdt⟩ := PA_parts hpd
    refine ⟨ad, _, rfl, s6.sqT hs2, rfl, _, _, rfl, _, _, rfl, rfl, rfl, ?_⟩
    refine ⟨_, rfl, td, _, _, _, rfl, rfl, s6.sqT hs3, atI_nat (j := 0) rfl, _, rfl, l, _, rfl, .inl ((s05.trans s6).sqL List.not_mem_nil hs), rfl, flat_strs _, fin _ _ SB.refl ?_⟩
    rw [hR, List.take_add_one, ep, Option.toList_some, List.map_append, inV_strs]; rfl
  · rw [bl3, List.take_length] at hR
    subst hR
    refine ⟨D, ((r.1.within ++ r.2.within).map fun p => decide (p.1.1 ∈ ns)), rfl, SqL.of (by rw [List.map_map]; exact hD6), ?_⟩
    have := q _ (s05.trans s6)
    rw [show (List.map (fun p : Tr × Int => decide (p.1.1 ∈ ns)) (r.1.within ++ r.2.within)).all id = decide (∀ p ∈ Ru.within r, p.1.1 ∈ ns) by
      rw [Bool.eq_iff_iff]
      simp only [List.all_map, List.all_eq_true, Function.comp, id_eq, decide_eq_true_eq]
      exact Iff.rfl]
    exact this
end
end FT
namespace FT
open PySem PySem.W PySem.Spec PyProof.Rows L2
section
variable {P : Program} {w : World} {K : PySem.W.Frag} {mg : Str → Option Value} {base : Heap} {f : Addr} {fd : FuncData}
abbrev N_tree_at : List Str := ["grove", "place", "tree", "row", "at"]
theorem sc_tree_at : FnScope N_tree_at ["grove", "place"] (defScope s_tree_at) := ⟨rfl, rfl, rfl, by decide +kernel, rfl, by decide +kernel, by decide +kernel⟩
theorem ok_tree_at {C : Addr} (B : BI mg) (O : Own K mg "NoPlace" C) (GW : Got P w K mg base "is_whole" ["thing"] 1 (spWhole K)) (F : Fun K "tree_at" "tree_at" s_tree_at f fd) : FnOk P w K mg base (L2.CX P w) 2 f fd ["grove", "place"] (spTreeAt K C) := by
  refine F.okX sc_tree_at (fun vs H Q E h => ?_) (fun cdv A outer s H vs Q E hr h => ?_)
  · obtain ⟨v, g, a, xs, os, rfl, _⟩ := h
    rfl
  obtain ⟨v, g, a, xs, os, rfl, hv, hs, hw, q, qE⟩ := h
  refine ⟨_, pss_cons (ps_if (pt_not (pt_truth (pv 1) (by intro _; rfl))) (pss_one (ps_raise rfl (takes_of rfl rfl rfl rfl) (pmk_own PySem.F.excBase_ValueError O.q O.gC O.k (raises_own O.s O.t) rfl))) pss_nil)
    (pss_cons (ps_set (i := 2) sc_tree_at.nd rfl (.inl rfl) (pe_tup pa_nil))
    (pss_cons (ps_set (i := 3) sc_tree_at.nd rfl (.inl rfl) (pv 0))
    (pss_cons (ps_for (passes_of rfl) rfl (pi_tup (pv 1)) (pg_name (i := 4) sc_tree_at.nd rfl (.inl rfl))
      (pss_cons (ps_if (PW.pt (pw_or (pt_not (pt_val (pe_got GW hr rfl (pa_cons (pv 4) pa_nil)))) (pw_or1 (pt_not (pt_chain op_le op_lt pe_int (pv 4) (pe_callB call_len_seq rfl B.len PySem.boot_len (pa_cons (pv 3) pa_nil)))))))
        (pss_one (ps_raise rfl (takes_of rfl rfl rfl rfl) (pmk_own PySem.F.excBase_ValueError O.q O.gC O.k (raises_own O.s O.t) rfl))) pss_nil)
      (pss_cons (ps_set (i := 2) sc_tree_at.nd rfl (.inl rfl) (pe_ix ix_tup (pe_ix ix_tup (pv 3) (pv 4) (fun _ _ => rfl)) pe_int (fun _ _ => rfl)))
      (pss_one (ps_set (i := 3) sc_tree_at.nd rfl (.inl rfl) (pe_ix ix_tup (pv 2) pe_int (fun _ _ => rfl)))))))
    (pss_one (ps_ret (pv 2)))))), ?_⟩
  have wl := hw.length
  by_cases hnil : os = []
  · have x0 : xs = [] := by rw [hnil] at wl; exact List.length_eq_zero_iff.mp wl
    exact ⟨_, rfl, false, .inr (.inl ⟨xs, hs, by rw [x0]; rfl⟩), iteT (qE (.inl hnil) _ SB.refl)⟩
  have x1 : xs ≠ [] := fun z => hnil (by rw [z] at wl; exact List.length_eq_zero_iff.mp wl.symm)
  refine ⟨_, rfl, true, .inr (.inl ⟨xs, hs, by cases xs with | nil => exact absurd rfl x1 | cons _ _ => rfl⟩), iteF ?_⟩
  refine ⟨(by show 0 ≤ sizeLine; decide), fun e0 he0 => ?_⟩
  have t0 := SB.new (ps := []) he0 (.tup [])
  have hv0 := hv.sb t0
  have hs0 := t0.sqT hs
  have hw' : Whs K (upd H e0 (.tup [])) xs os := Whs.sb t0 hw
  generalize hH0 : upd H e0 (.tup []) = H0 at t0 hv0 hs0 hw'
  refine ⟨_, rfl, _, rfl, a, rfl, ⟨xs, hs0⟩, ?_⟩
  refine for_tup (K := K) (a := a) (xs := xs) (fun i σ H2 => H2 = H0 ∧ ∃ (tv rv : V) (t : Tr) (o4 : Option V), σ = [some v, some (.ref a), some tv, some rv, o4] ∧ lk ("", g) (os.take i) = some t ∧ GA K H0 rv t.2 ∧ (i = 0 ∨ Dp K H0 tv (Gr.tEnc t)))
    ⟨rfl, _, _, ("", g), none, rfl, rfl, hv0, .inl rfl⟩ (fun i σ H2 hi h2 => by rw [h2.1]; exact hs0) (fun i x σ H2 hx h2 => ?_) (fun σ H2 h2 => ?_)
  · obtain ⟨rfl, tv, rv, t, o4, rfl, hlk, hrv, _⟩ := h2
    obtain ⟨o, eo, hwx⟩ := hw'.get hx
    have bad : stp t.2 o = none → E (.ref C) none H2 := fun z => qE (.inr (lk_none hlk eo z)) _ t0
    rcases hwx with ⟨n, rfl, rfl⟩ | ⟨rfl, n, b1, b2, ty, k1, k2, k3⟩
    · refine ⟨_, rfl, _, "int", true, false, rfl, .base (.int n), by decide +kernel, fun _ => by decide +kernel, true, rfl, iteF ?_⟩
      obtain ⟨c, ys, rfl, hsc, hbc⟩ := GA_bears hrv
      have yl := hbc.length
      refine ⟨_, rfl, _, _, rfl, rfl, _, rfl, ?_⟩
      by_cases h0 : 0 ≤ n
      · rw [decide_eq_true h0]
        refine iteT ⟨_, rfl, c, ys, rfl, .inr hsc, _, _, rfl, rfl, _, rfl, ?_⟩
        obtain ⟨m, rfl⟩ : ∃ m : Nat, n = (m : Int) := ⟨n.toNat, by omega⟩
        by_cases h1 : m < ys.length
        · rw [show decide ((m : Int) < (ys.length : Nat)) = true from decide_eq_true (by omega)]
          refine iteF ?_
          obtain ⟨y, hy⟩ : ∃ y, ys[m]? = some y := ⟨_, List.getElem?_eq_getElem h1⟩
          obtain ⟨p, ep, hpd⟩ := hbc.get hy
          obtain ⟨ad, bd, ux, rfl, hsx, hst, hdx, hdt⟩ := PA_parts hpd
          refine ⟨_, rfl, _, rfl, c, ys, _, _, rfl, rfl, hsc, atI_nat hy, ad, _, _, _, rfl, rfl, hsx, atI_nat (j := 0) rfl, ?_⟩
          refine ⟨_, rfl, bd, _, _, _, rfl, rfl, hst, atI_nat (j := 1) rfl, ?_⟩
          have es : stp t.2 (some (m : Int)) = some p.1 := by
            show (if 0 ≤ (m : Int) then (t.2.ps[(m : Int).toNat]?).map (·.1) else none) = _
            rw [if_pos h0, Int.toNat_natCast, ep]; rfl
          exact ⟨rfl, _, _, p.1, _, rfl, lk_next hlk eo es, hdx, .inr hdt⟩
        · rw [show decide ((m : Int) < (ys.length : Nat)) = false from decide_eq_false (by omega)]
          refine iteT (bad ?_)
          show (if 0 ≤ (m : Int) then (t.2.ps[(m : Int).toNat]?).map (·.1) else none) = _
          rw [if_pos h0, Int.toNat_natCast, List.getElem?_eq_none (by omega)]; rfl
      · rw [decide_eq_false h0]
        refine iteF ⟨_, rfl, iteT (bad ?_)⟩
        show (if 0 ≤ n then (t.2.ps[n.toNat]?).map (·.1) else none) = _
        rw [if_neg h0]
    · refine ⟨_, rfl, _, n, b1, b2, rfl, ty, k1, k2, _, rfl, ?_⟩
      rw [k3]
      exact iteT (iteT (bad rfl))
  · obtain ⟨rfl, tv, rv, t, o4, rfl, hlk, hrv, h3⟩ := h2
    rw [wl, List.take_length] at hlk
    refine ⟨_, rfl, q t hnil hlk _ _ t0 ?_⟩
    rcases h3 with h3 | h3
    · exact absurd (List.length_eq_zero_iff.mp h3) x1
    · exact h3
end
end FT
namespace FT
open PySem PySem.W PySem.Spec PyProof.Rows L2
section
variable {P : Program} {w : World} {K : PySem.W.Frag} {mg : Str → Option Value} {base : Heap} {f : Addr} {fd : FuncData}
abbrev N_bare : List Str := ["grove", "found", "at", "pair", "held", "place"]
theorem sc_bare_places : FnScope N_bare ["grove"] (defScope s_bare_places) := ⟨rfl, rfl, rfl, by decide +kernel, rfl, by decide +kernel, by decide +kernel⟩
theorem ok_bare_places {n : Nat} (B : BI mg) (G : Got P w K mg base "bare_places" ["grove"] n (spBareP K n)) (F : Fun K "bare_places" "bare_places" s_bare_places f fd) : FnOk P w K mg base CX0 (n + 1) f fd ["grove"] (spBareP K (n + 1)) := by
  refine F.ok sc_bare_places (fun vs H Q E h => ?_) (fun cdv A outer s H vs Q E hr h => ?_)
  · obtain ⟨v, g, rfl, _⟩ := h
    rfl
  obtain ⟨v, g, rfl, hg, hd, hd2, hp, q⟩ := h
  refine ⟨_, pss_cons (ps_set (i := 1) sc_bare_places.nd rfl (.inl rfl) (pe_lst pa_nil))
    (pss_cons (ps_for PassesOwn.never rfl (pi_enumT rfl B.enumerate (pv 0)) (pg_tup rfl (pgs_cons (pg_name (i := 2) sc_bare_places.nd rfl (.inr rfl)) (pgs_cons (pg_name (i := 3) sc_bare_places.nd rfl (.inl rfl)) pgs_nil)))
      (pss_cons (ps_set (i := 4) sc_bare_places.nd rfl (.inl rfl) (pe_ix ix_tup (pe_ix ix_tup (pv 3) pe_int (fun _ _ => rfl)) pe_int (fun _ _ => rfl)))
      (pss_one (ps_if (pt_truth (pv 4) (by intro _; rfl))
        (pss_one (ps_expr (pe_bm PySem.F.plainAttrs_list PySem.F.slot_list_extend PySem.F.type_list_extend mt_extend (pv 1) (pa_cons
          (pe_lc (own := [("place", 5)]) (g := gName 5) (tt := tYes) (te := tOp (rCatB K) (tTup (tCons (tVar 2) tNil)) (tVar 5)) rfl sc_bare_places.nd (pi_list (pe_got G hr rfl (pa_cons (pv 4) pa_nil)))
            (blkOk_by (N := N_bare) (sc := defScope s_bare_places) (by decide +kernel))
            (fun _ _ _ _ _ => pg_name (i := 5) sc_bare_places.nd rfl (.inl rfl)) (fun _ _ _ _ _ => pts_nil)
            (fun _ _ _ _ _ => pe_op op_catB (pe_tup (pa_cons (pv 2) pa_nil)) (pv 5))) pa_nil))))
        (pss_one (ps_expr (pe_bm PySem.F.plainAttrs_list PySem.F.slot_list_append PySem.F.type_list_append mt_append (pv 1) (pa_cons (pe_tup (pa_cons (pv 2) pa_nil)) pa_nil))))))))
    (pss_one (ps_ret (pv 1)))), ?_⟩
  obtain ⟨a, xs, rfl, hs, hb⟩ := GA_bears hg
  have bl := hb.length
  have lenb := g.bp_len 0
  refine ⟨(by show 0 ≤ sizeLine; decide), fun D hD => ?_⟩
  refine ⟨_, rfl, a, xs, rfl, (SB.new (ps := []) hD _).sqT hs, ?_⟩
  refine for_it (walk_enumT (xs := xs)) (fun i σ H2 => SB [D] H H2 ∧ ∃ us o2 o3 o4, σ = [some (.ref a), some (.ref D), o2, o3, o4, none] ∧ H2 D = some (.lst us) ∧ Bears K H2 plEnc us (Gr.bps (g.ps.take i) 0)) ⟨SB.new hD _, [], none, none, none, rfl, upd_same, .nil⟩ (fun i σ H2 hi h2 => (h2.1.drop hD).sqT hs) (fun i x σ H2 H' hi h2 y => ?_) (fun σ H2 h2 => ?_)
  · obtain ⟨s2, us, o2, o3, o4, rfl, hD2, hb2⟩ := h2
    obtain ⟨T, e1, e2, rfl, hT, rfl, ee1, ee2⟩ := y
    have he1 : e1 = .int (i : Nat) := (Option.some.inj ee1).symm
    subst he1
    obtain ⟨p, ep, hpd⟩ := hb.get ee2
    have pm := List.mem_of_getElem? ep
    obtain ⟨ad, td, ux, rfl, hs2, hs3, hga, _⟩ := PA_parts hpd
    have t3 := SB.new (ps := [D]) hT (.tup [.int (i : Nat), .ref ad])
    have hD3 : (upd H2 T (.tup [.int (i : Nat), .ref ad])) D = some (.lst us) := by rw [upd_ne (ne_of_none hD2 hT)]; exact hD2
    have hT3 : SqT K (upd H2 T (.tup [.int (i : Nat), .ref ad])) T [.int (i : Nat), .ref ad] := SqT.of upd_same
    have s3 := s2.trans t3
    have hb3 := hb2.sb t3 pl_noList
    generalize hH3 : upd H2 T (.tup [.int (i : Nat), .ref ad]) = H3 at t3 hD3 hT3 s3 hb3
    have s3' := s3.drop hD
    have ul := hb3.length
    have pd := g.mem_deep p pm
    have pp := g.mem_parts p pm
    have hsp : g.bp 0 = Gr.bps (g.ps.take i) 0 ++ Gr.bpP p i ++ Gr.bps (g.ps.drop (i + 1)) (i + 1) := by
      rw [Gr.bp_ps]
      conv => lhs; rw [← List.take_append_drop (i + 1) g.ps]
      rw [Gr.bps_append, Gr.bps_take ep, List.length_take, Nat.min_eq_left (by omega), Nat.zero_add]
    have hlen := congrArg List.length hsp
    rw [List.length_append, List.length_append] at hlen
    refine ⟨T, _, rfl, hT3, rfl, _, _, rfl, _, _, rfl, rfl, ?_⟩
    refine ⟨_, rfl, ad, _, _, _, rfl, rfl, s3'.sqT hs2, atI_nat (j := 0) rfl, td, _, _, _, rfl, rfl, s3'.sqT hs3, atI_nat (j := 1) rfl, ?_⟩
    obtain ⟨b, ys, rfl, hsb, hbb⟩ := GA_bears hga
    have yl := hbb.length
    refine ⟨_, rfl, _, .inr (.inl ⟨ys, s3'.sqT hsb, rfl⟩), ?_⟩
    by_cases hnil : p.1.2 = .nil
    · have ys0 : ys = [] := by
        rw [hnil] at yl
        exact List.length_eq_zero_iff.mp yl
      rw [ys0]
      refine iteF ?_
      have hbP : Gr.bpP p i = [[i]] := if_pos hnil
      refine ⟨_, rfl, .inl ⟨rfl, _, SqL.of hD3⟩, _, rfl, (by show 1 ≤ sizeLine; decide), fun t ht => ?_⟩
      have t4 := SB.new (ps := [D]) ht (.tup [.int (i : Nat)])
      have hD4 : (upd H3 t (.tup [.int (i : Nat)])) D = some (.lst us) := by rw [upd_ne (ne_of_none hD3 ht)]; exact hD3
      refine ⟨D, us, _, rfl, rfl, hD4, small1000 (by omega), ?_⟩
      have t5 := SB.set (ps := [D]) hD4 (by simp) (.lst (us ++ [.ref t]))
      refine ⟨(s3.trans t4).trans t5, _, _, _, _, rfl, upd_same, ?_⟩
      rw [Gr.bps_take ep, hbP]
      exact Bears.append ((hb3.sb t4 pl_noList).sb t5 pl_noList) (.cons (PL_of (p := [i]) (t5.sqT (SqT.of upd_same))) .nil)
    · have ys1 : ys ≠ [] := fun z => by
        rw [z] at yl
        cases hq : p.1.2 with
        | nil => exact hnil hq
        | cons k g m r => rw [hq] at yl; simp [Gr.ps] at yl
      have hie : (!ys.isEmpty) = true := by cases ys with
        | nil => exact absurd rfl ys1
        | cons _ _ => rfl
      rw [hie]
      refine iteT ?_
      have hbP : Gr.bpP p i = (p.1.2.bp 0).map (i :: ·) := if_neg hnil
      refine ⟨_, rfl, .inl ⟨rfl, _, SqL.of hD3⟩, _, rfl, .ref b, p.1.2, rfl, hga.sb s3', by omega, by omega, by omega, fun D2 vs2 H4 s4 hDn hD4 hb4 => ?_⟩
      have hD3' := s4.keep _ _ hD3 List.not_mem_nil
      have s24 := s3.trans s4.nil
      have vl := hb4.length
      refine ⟨D2, rfl, ⟨_, SqL.of hD4⟩, fun L hL => ?_⟩
      have DL : D ≠ L := ne_of_none hD3' hL
      have D2L : D2 ≠ L := ne_of_none hD4 hL
      refine lc_it (walk_list (xs := vs2)) (fun j H5 => SB [L] H4 H5 ∧ ∃ ws, H5 L = some (.lst ws) ∧ Bears K H5 plEnc ws (((p.1.2.bp 0).take j).map (i :: ·))) ⟨SB.new hL _, [], upd_same, .nil⟩ (fun j H5 hj h5 => h5.1.sqL (by simpa using D2L) (SqL.of hD4)) (fun j z H5 H6 hj h5 hz => ?_) (fun H5 h5 => ?_)
      · obtain ⟨s5, ws, hL5, hb5⟩ := h5
        obtain ⟨rfl, ez⟩ := hz
        obtain ⟨pl, epl, hpl⟩ := hb4.get ez
        obtain ⟨pa, rfl, hpa⟩ := PL_ints hpl
        have plong := p.1.2.bp_long 0 pl (List.mem_of_getElem? epl)
        have pbl := p.1.2.bp_len 0
        have wl := hb5.length
        rw [List.length_map, List.length_take] at wl
        have s5' := s5.drop hL
        refine ⟨rfl, ?_⟩
        refine ⟨_, rfl, (by show 1 ≤ sizeLine; decide), fun t ht => ?_⟩
        have t6 := SB.new (ps := [L]) ht (.tup [.int (i : Nat)])
        have hL6 : (upd H6 t (.tup [.int (i : Nat)])) L = some (.lst ws) := by rw [upd_ne (ne_of_none hL5 ht)]; exact hL5
        have hsx : SqT K (upd H6 t (.tup [.int (i : Nat)])) pa (pl.map fun n : Nat => V.int (n : Int)) := t6.sqT (s5'.sqT hpa)
        refine ⟨_, rfl, t, pa, _, _, rfl, rfl, SqT.of upd_same, hsx, ?_, fun c H7 s7 hc => ?_⟩
        · rw [List.length_map, List.length_singleton]
          have := small5 (n := 1 + pl.length) (by omega)
          omega
        have hL7 := s7.keep _ _ hL6 List.not_mem_nil
        refine ⟨ws, hL7, small1000 (by omega), ?_⟩
        have t8 := SB.set (ps := [L]) hL7 (by simp) (.lst (ws ++ [.ref c]))
        refine ⟨((s5.trans t6).trans s7.nil).trans t8, _, upd_same, ?_⟩
        rw [List.take_add_one, epl, Option.toList_some, List.map_append]
        exact Bears.append (((hb5.sb t6 pl_noList).sb s7 pl_noList).sb t8 pl_noList) (.cons (PL_of (p := i :: pl) (t8.sqT hc)) .nil)
      · obtain ⟨s5, ws, hL5, hb5⟩ := h5
        rw [vl, List.take_length, ← hbP] at hb5
        have wl := hb5.length
        have hD5 := s5.keep _ _ hD3' (by simpa using DL)
        refine ⟨D, L, _, _, rfl, rfl, hD5, hL5, ?_, ?_⟩
        · have := small5 (n := us.length + ws.length) (by omega)
          omega
        have t6 := SB.set (ps := [D]) hD5 (by simp) (.lst (us ++ ws))
        refine ⟨s24.trans ((s5.drop hL).nil.trans t6), _, _, _, _, rfl, upd_same, ?_⟩
        rw [Gr.bps_take ep]
        exact Bears.append (((hb3.sb s4 pl_noList).sb s5 pl_noList).sb t6 pl_noList) (hb5.sb t6 pl_noList)
  · obtain ⟨s2, us, o2, o3, o4, rfl, hD2, hb2⟩ := h2
    rw [bl, List.take_length, ← Gr.bp_ps] at hb2
    exact ⟨_, rfl, q D us H2 (s2.drop hD) hD hD2 hb2⟩
end
end FT
namespace FT
open PySem PySem.W PySem.Spec PyProof.Rows L2
section
variable {P : Program} {w : World} {K : PySem.W.Frag} {mg : Str → Option Value} {base : Heap} {f : Addr} {fd : FuncData}
abbrev N_choices : List Str := ["book", "grove", "found", "place", "rows", "rule"]
theorem sc_choices : FnScope N_choices ["book", "grove"] (defScope s_choices) := ⟨rfl, rfl, rfl, by decide +kernel, rfl, by decide +kernel, by decide +kernel⟩
theorem ok_choices {C_Book C_NoKind C_NoPlace : Addr} (B : BI mg) (G_check_kinds : GotX P w K mg base "check_kinds" ["book", "grove"] (22) (spCheckKs K C_Book C_NoKind)) (G_bare_places : Got P w K mg base "bare_places" ["grove"] (20) (spBareP K 20)) (G_rules_from_nought : GotX P w K mg base "rules_from_nought" ["book", "name"] (5) (spRulesN K C_Book C_NoKind)) (G_tree_at : GotX P w K mg base "tree_at" ["grove", "place"] (2) (spTreeAt K C_NoPlace)) (F : Fun K "choices" "choices" s_choices f fd) : FnOk P w K mg base (L2.CX P w) (23) f fd ["book", "grove"] (spChoices K C_Book C_NoKind) := by
  refine F.okX sc_choices (fun vs H Q E h => ?_) (fun cdv A outer s H vs Q E hr h => ?_)
  · obtain ⟨v, w, b, g, rfl, _⟩ := h
    rfl
  obtain ⟨v, w, b, g, rfl, hv, hg, ok, hd, hp, ho, hk, q⟩ := h
  have hun2 : A.units + 3 + 200 < cLine := by have := hr.un; have h3 : (A.deeper (envOfC "choices" (defScope s_choices) s.heap.objs.size f cdv)).units = A.units + 3 := rfl; omega
  refine ⟨_, pss_cons (ps_expr (pe_gotS G_check_kinds (hr.mono (by omega)) rfl (takes_of rfl rfl rfl rfl) (pa_cons (pv 0) (pa_cons (pv 1) pa_nil))))
    (pss_cons (ps_set (i := 2) sc_choices.nd rfl (.inl rfl) (pe_lst pa_nil))
    (pss_cons (ps_for (passes_of rfl) rfl (pi_list (pe_got G_bare_places (hr.mono (by omega)) rfl (pa_cons (pv 1) pa_nil))) (pg_name (i := 3) sc_choices.nd rfl (.inr rfl))
      (pss_cons (ps_set (i := 4) sc_choices.nd rfl (.inl rfl) (pe_gotS G_rules_from_nought (hr.mono (by omega)) rfl (takes_of rfl rfl rfl rfl) (pa_cons (pv 0) (pa_cons (pe_ix ix_tup (pe_gotS G_tree_at (hr.mono (by omega)) rfl (takes_of rfl rfl rfl rfl) (pa_cons (pv 1) (pa_cons (pv 3) pa_nil))) pe_int (fun _ _ => rfl)) pa_nil))))
    (pss_one (ps_expr (pe_bm PySem.F.plainAttrs_list PySem.F.slot_list_extend PySem.F.type_list_extend mt_extend (pv 2) (pa_cons (pe_lc (own := [("rule", 5)]) (g := (gName 5)) (tt := tYes) (te := (tTup (tCons (tVar 3) (tCons (tVar 5) tNil)))) rfl sc_choices.nd (pi_range1 rfl B.range (pa_cons (pe_callB call_len_seq rfl B.len PySem.boot_len (pa_cons (pv 4) pa_nil)) pa_nil)) (blkOk_by (N := N_choices) (sc := defScope s_choices) (by decide +kernel)) (fun _ _ _ _ _ => (pg_name (i := 5) sc_choices.nd rfl (.inl rfl))) (fun _ _ _ _ _ => pts_nil) (fun _ _ _ _ _ => (pe_tup (pa_cons (pv 3) (pa_cons (pv 5) pa_nil))))) pa_nil))))))
    (pss_one (ps_ret (pv 2))))), ?_⟩
  have szl := sizeLine_eq
  have b8 := ok.len
  have r4 : ∀ k ∈ b, k.rs.length ≤ 4 := fun k hk => (ok.kd k hk).2.1
  have bl := g.bp_len 0
  have bkl : (g.bk 0).length = (g.bp 0).length := by rw [← Gr.bk_bp, List.length_map]
  refine ⟨_, rfl, _, rfl, v, w, b, g, rfl, hv, hg, by omega, hd, hp, ho, hk, fun H1 s1 => ?_⟩
  refine ⟨(by show 0 ≤ sizeLine; decide), fun D hD => ?_⟩
  have t2 := SB.new (ps := []) hD (.lst [])
  have hD2 : upd H1 D (.lst []) D = some (.lst []) := upd_same
  generalize upd H1 D (.lst []) = H2 at t2 hD2
  have s2 := s1.trans t2
  refine ⟨_, rfl, w, g, rfl, hg.sb s2, hd, by omega, by omega, fun M us H3 s3 nM hM hbp => ⟨M, rfl, ⟨_, SqL.of hM⟩, ?_⟩⟩
  have ul := hbp.length
  have MD : M ≠ D := fun z => by rw [z, hD2] at nM; cases nM
  have s03 := s2.trans s3
  have cl : ∀ xs : List (Pl × Str), (∀ x ∈ xs, x.2 ∈ b.names) → (xs.flatMap (chs b)).length ≤ 5 * xs.length := by
    intro xs
    induction xs with
    | nil => intro _; simp
    | cons x xs ih =>
      intro h
      have h1 := ih fun y hy => h y (List.mem_cons_of_mem _ hy)
      obtain ⟨kd, eg⟩ := Bk.get_of (h x List.mem_cons_self)
      have h2 := r4 kd (Bk.get_some eg).1
      have h3 : b.cnt x.2 = 1 + kd.rs.length := by unfold Bk.cnt; rw [eg]
      have h4 : (chs b x).length = b.cnt x.2 := by unfold chs; rw [List.length_map, List.length_range]
      rw [List.flatMap_cons, List.length_append, List.length_cons, h4, h3]
      omega
  have nms : ∀ x ∈ g.bk 0, x.2 ∈ b.names := fun x hx => by
    have h1 : x.2 ∈ (g.ak 0).map (·.2) := List.mem_map.mpr ⟨x, Gr.bk_ak g 0 x hx, rfl⟩
    rw [Gr.ak_kinds] at h1
    obtain ⟨p, hp, e⟩ := List.mem_map.mp h1
    rw [← e]; exact hk p hp
  refine for_it (walk_list (xs := us)) (fun i σ H4 => SB [D] H3 H4 ∧ ∃ ws o3 o4, σ = [some v, some w, some (.ref D), o3, o4, none] ∧ H4 D = some (.lst ws) ∧ Bears K H4 chE ws (((g.bk 0).take i).flatMap (chs b))) ⟨SB.refl, [], none, none, rfl, s3.keep _ _ hD2 List.not_mem_nil, .nil⟩ (fun i σ H4 hi h4 => h4.1.sqL (by simpa using MD) (SqL.of hM)) (fun i z σ Hq H4 hi h4 y => ?_) (fun σ H4 h4 => ?_)
  · obtain ⟨s4, ws, o3, o4, rfl, hD4, hb4⟩ := h4
    obtain ⟨rfl, ey⟩ := y
    obtain ⟨pl, epl, hpl⟩ := hbp.get ey
    rw [← Gr.bk_bp, List.getElem?_map] at epl
    obtain ⟨x, ex, rfl⟩ := Option.map_eq_some_iff.mp epl
    have xm := List.mem_of_getElem? ex
    obtain ⟨pa, rfl, hpa⟩ := PL_ints hpl
    obtain ⟨n1, t, e1, e2⟩ := g.ak_place x (Gr.bk_ak g 0 x xm)
    obtain ⟨kd, eg⟩ := Bk.get_of (nms x xm)
    have k4 := r4 kd (Bk.get_some eg).1
    have ecn : b.cnt x.2 = 1 + kd.rs.length := by unfold Bk.cnt; rw [eg]
    have wl := hb4.length
    have hcl := cl ((g.bk 0).take i) fun x hx => nms x (List.mem_of_mem_take hx)
    rw [List.length_take] at hcl
    have nl : Lsts H3 [D] := fun p hp => by rw [List.mem_singleton.mp hp]; exact .inr ⟨_, s3.keep _ _ hD2 List.not_mem_nil⟩
    have hv4 := (hv.sb0 s03).sb s4 nl
    have hg4 := GA.sb (hg.sb s03) s4
    refine ⟨_, rfl, _, rfl, _, rfl, w, g, pa, _, plO x.1, rfl, hg4, s4.sqT hpa, Whs.pl K H4 x.1, fun t' _ et X H5 s5 hX => ?_, fun z => ?_⟩
    · obtain rfl : t' = t := Option.some.inj (et.symm.trans e1)
      cases (hX : Dp K H5 X (.tuple [.str t'.1, t'.2.enc])) with
      | tup hX1 hX2 =>
      cases hX2 with
      | cons k1 hX2 =>
      cases hX2 with
      | cons k2 hX2 =>
      cases hX2
      cases k1
      refine ⟨_, _, _, _, rfl, rfl, hX1, atI_nat (j := 0) rfl, v, b, t'.1, rfl, hv4.sb0 s5, by omega, fun k hk => by have := r4 k hk; omega, fun k' eg' R rs H6 s6 nR hR hbR => ?_, fun z => by rw [e2, eg] at z; cases z⟩
      rw [e2, eg] at eg'
      cases eg'
      have rl := hbR.length
      rw [List.length_cons] at rl
      have s46 := s5.trans s6
      have hD6 := s46.keep _ _ hD4 List.not_mem_nil
      refine ⟨_, rfl, .inl ⟨rfl, _, SqL.of hD6⟩, ?_⟩
      refine ⟨_, rfl, R, rs, rfl, .inl (SqL.of hR), _, rfl, by omega, by omega, fun L hL => ?_⟩
      have re : ((rs.length : Nat) : Int).toNat = rs.length := Int.toNat_natCast _
      refine lc_seq (walk_range (lo := 0) (n := ((rs.length : Nat) : Int).toNat)) hL (by omega) (fun j us7 H7 => Bears K H7 chE us7 ((List.range j).map fun r => (x.1, r))) .nil (fun _ _ => trivial) (fun _ _ _ _ e h => h.sb e chE_noList) (fun Pv j z Hq H7 us7 hj s7 y hR7 hu7 fin _ => ?_) (fun us7 H7 s7 hL7 hR7 hu7 => ?_)
      · obtain ⟨rfl, rfl⟩ := y
        refine ⟨rfl, _, rfl, _, rfl, by show 2 ≤ sizeLine; decide, fun T hT => ?_⟩
        refine fin _ _ (SB.new (ps := []) hT _) ?_
        rw [List.range_succ, List.map_append]
        refine Bears.append (hR7.sb (SB.new (ps := []) hT _) chE_noList) (.cons ?_ .nil)
        refine .tup (SqT.of upd_same) (.cons (Dp_sb (SB.new (ps := [D]) hT _) _ _ (pl_noList _) (Dp_sb ((s4.trans s46.nil).trans s7.nil) _ _ (pl_noList _) hpl)) (.cons ?_ .nil))
        show Dp K _ (.int (0 + (j : Int))) (.int ((j : Nat) : Int))
        rw [Int.zero_add]; exact .int _
      · rw [re, rl, Nat.add_comm, ← ecn] at hR7
        have hR7 : Bears K H7 chE us7 (chs b x) := hR7
        have u7 := hR7.length
        have hD7 := s7.keep _ _ hD6 List.not_mem_nil
        have cxl : (chs b x).length = 1 + kd.rs.length := by unfold chs; rw [List.length_map, List.length_range, ecn]
        refine ⟨D, L, _, _, rfl, rfl, hD7, hL7, by omega, ?_⟩
        have t8 := SB.set (ps := [D]) hD7 (by simp) (.lst (ws ++ us7))
        have s47 := s46.trans s7
        refine ⟨(s4.trans s47.nil).trans t8, _, _, _, rfl, upd_same, ?_⟩
        rw [List.take_add_one, ex, List.flatMap_append]
        refine Bears.append ((hb4.sb s47 chE_noList).sb t8 chE_noList) ?_
        simpa using hR7.sb t8 chE_noList
    · rcases z with z | z
      · exact absurd z n1
      · rw [e1] at z; cases z
  · obtain ⟨s4, ws, o3, o4, rfl, hD4, hb4⟩ := h4
    rw [ul, ← bkl, List.take_length] at hb4
    exact ⟨_, rfl, q D ws H4 ((s03.nil.trans s4).drop (s1.dom _ hD)) (s1.dom _ hD) hD4 hb4⟩
end
end FT
namespace FT
open PySem PySem.W PySem.Spec PyProof.Rows L2
section
variable {P : Program} {w : World} {K : PySem.W.Frag} {mg : Str → Option Value} {base : Heap} {f : Addr} {fd : FuncData}
abbrev N__law_purse : List Str := ["_law_script", "_law_k", "_law_cell", "_law_left", "_law_mixed"]
theorem sc__law_purse : FnScope N__law_purse ["_law_script", "_law_k"] (defScope s__law_purse) := ⟨rfl, rfl, rfl, by decide +kernel, rfl, by decide +kernel, by decide +kernel⟩
theorem ok__law_purse (B : BI mg) (F : Fun K "_law_purse" "_law_purse" s__law_purse f fd) : FnOk P w K mg base CX0 (1) f fd ["_law_script", "_law_k"] (spPurseW K) := by
  refine F.ok sc__law_purse (fun vs H Q E h => ?_) (fun cdv A outer s H vs Q E hr h => ?_)
  · obtain ⟨a, ns, k, rfl, _⟩ := h
    rfl
  obtain ⟨a, ns, k, rfl, hs, h63, hk, q⟩ := h
  have hun2 : A.units + 3 + 200 < cLine := by have := hr.un; have h3 : (A.deeper (envOfC "_law_purse" (defScope s__law_purse) s.heap.objs.size f cdv)).units = A.units + 3 := rfl; omega
  refine ⟨_, pss_cons (ps_set (i := 2) sc__law_purse.nd rfl (.inl rfl) pe_int)
    (pss_cons (ps_if (pt_cmpR op_gt (pe_callB call_len_seq rfl B.len PySem.boot_len (pa_cons (pv 0) pa_nil)) pe_int (nomark _)) (pss_one (ps_set (i := 2) sc__law_purse.nd rfl (.inl rfl) (pe_op op_mod (pe_ix ix_list (pv 0) (pe_op op_mod (pv 1) (pe_callB call_len_seq rfl B.len PySem.boot_len (pa_cons (pv 0) pa_nil))) (fun _ _ => rfl)) (pe_op op_powW (pe_op op_pow pe_int pe_int) pe_int)))) pss_nil)
    (pss_cons (ps_set (i := 3) sc__law_purse.nd rfl (.inl rfl) pe_int)
    (pss_cons (ps_if (PW.pt (pw_and (pt_cmpR op_lt (pv 1) (pe_callB call_len_seq rfl B.len PySem.boot_len (pa_cons (pv 0) pa_nil)) (nomark _)) (pw_and1 (pt_cmpR op_ge (pv 2) (pe_op op_pow pe_int pe_int) (nomark _))))) (pss_one (ps_set (i := 3) sc__law_purse.nd rfl (.inl rfl) (pv 2))) pss_nil)
    (pss_cons (ps_set (i := 4) sc__law_purse.nd rfl (.inl rfl) (pe_op op_add (pe_op op_add (pe_op op_add (pe_op op_mul (pe_op op_mod (pv 2) pe_int) pe_int) (pe_op op_mul (pe_op op_mul pe_int (pv 1)) (pv 1))) (pe_op op_mul pe_int (pv 1))) pe_int))
    (pss_one (ps_ret (pe_lst (pa_cons (pv 3) (pa_cons (pe_op op_mod (pv 4) pe_int) pa_nil))))))))), ?_⟩
  have kk : (k : Int) * k ≤ 1000 * 1000 := Int.mul_le_mul (by omega) (by omega) (by omega) (by decide)
  have kk0 : 0 ≤ (k : Int) * k := Int.mul_nonneg (by omega) (by omega)
  refine nameI (seq_via (fun σ' H' => H' = H ∧ ∃ c : Int, 0 ≤ c ∧ σ' = [some (.ref a), some (.int (k : Int)), some (.int c), none, none]) (fun nx hnx => ?_) (fun σ' H' h => ?_))
  · refine ⟨_, rfl, a, _, rfl, .inl hs, _, _, rfl, rfl, _, rfl, ?_⟩
    by_cases h : 0 < ns.length
    · rw [show decide ((0 : Int) < (((ns.map V.int).length : Nat) : Int)) = true from decide_eq_true (by rw [List.length_map]; omega)]
      refine iteT ?_
      have hm : k % ns.length < ns.length := Nat.mod_lt _ h
      have ei : ((k : Int) % (((ns.map V.int).length : Nat) : Int)) = ((k % ns.length : Nat) : Int) := by rw [List.length_map]; rfl
      refine ⟨_, rfl, _, rfl, _, rfl, a, _, rfl, .inl hs, _, _, rfl, rfl, by show (0 : Int) < (((ns.map V.int).length : Nat) : Int); rw [List.length_map]; omega, a, _, _, .int ns[k % ns.length], rfl, rfl, hs, ?_, ?_⟩
      · show atI (ns.map V.int) ((k : Int) % (((ns.map V.int).length : Nat) : Int)) = _
        rw [ei]
        exact atI_nat (by rw [List.getElem?_map, List.getElem?_eq_getElem hm]; rfl)
      refine ⟨_, _, rfl, rfl, ⟨by decide, by decide, by decide⟩, _, _, rfl, rfl, ⟨by decide, by decide, by decide⟩, _, _, rfl, rfl, (by show (0 : Int) < (10 ^ 64) ^ 14; decide), hnx _ _ ⟨rfl, _, Int.emod_nonneg _ (by decide), rfl⟩⟩
    · rw [show decide ((0 : Int) < (((ns.map V.int).length : Nat) : Int)) = false from decide_eq_false (by rw [List.length_map]; omega)]
      exact iteF (hnx _ _ ⟨rfl, 0, by omega, rfl⟩)
  obtain ⟨rfl, c, c0, rfl⟩ := h
  refine nameI (seq_via (fun σ' H2 => H2 = H' ∧ ∃ d : Int, 0 ≤ d ∧ σ' = [some (.ref a), some (.int (k : Int)), some (.int c), some (.int d), none]) (fun nx hnx => ?_) (fun σ' H2 h => ?_))
  · refine ⟨_, rfl, _, rfl, a, _, rfl, .inl hs, _, _, rfl, rfl, _, rfl, ?_⟩
    refine ite2 (fun _ => ?_) (fun _ => ?_)
    · refine ⟨_, rfl, _, _, rfl, rfl, ⟨by decide, by decide, by decide⟩, _, _, rfl, rfl, _, rfl, ?_⟩
      refine ite2 (fun _ => ⟨_, rfl, hnx _ _ ⟨rfl, c, c0, rfl⟩⟩) (fun _ => hnx _ _ ⟨rfl, 0, by omega, rfl⟩)
    · exact hnx _ _ ⟨rfl, 0, by omega, rfl⟩
  obtain ⟨rfl, d, d0, rfl⟩ := h
  refine ⟨_, rfl, _, _, rfl, rfl, (by show (0 : Int) < 2147483647; decide), _, _, rfl, rfl, .inr ⟨by decide, by decide⟩, _, rfl, _, _, rfl, rfl, .inl ⟨by decide, by decide⟩, _, rfl, _, _, rfl, rfl, .inl ⟨?_, ?_⟩, _, _, rfl, rfl, _, rfl, _, _, rfl, rfl, .inl ⟨by decide, by decide⟩, _, _, rfl, rfl, _, _, rfl, rfl, ?_⟩
  · show (-(2 ^ 64) : Int) < 7919 * (k : Int); omega
  · show 7919 * (k : Int) < 2 ^ 64; omega
  refine ⟨_, rfl, _, rfl, _, _, rfl, rfl, (by show (0 : Int) < 2147483647; decide), (by show 2 ≤ sizeLine; decide), fun p hp => ?_⟩
  exact q p _ (SB.new hp _) hp ⟨_, _, upd_same, d0, Int.emod_nonneg _ (by decide), Int.lt_of_lt_of_le (Int.emod_lt_of_pos _ (by decide)) (by decide)⟩
end
end FT
namespace FT
open PySem PySem.W PySem.Spec PyProof.Rows L2
section
variable {P : Program} {w : World} {K : PySem.W.Frag} {mg : Str → Option Value} {base : Heap} {f : Addr} {fd : FuncData}
abbrev N__law_take : List Str := ["_law_purse_here", "_law_many_here", "_law_digit", "_law_once"]
theorem sc__law_take : FnScope N__law_take ["_law_purse_here", "_law_many_here"] (defScope s__law_take) := ⟨rfl, rfl, rfl, by decide +kernel, rfl, by decide +kernel, by decide +kernel⟩
theorem ok__law_take (B : BI mg) (F : Fun K "_law_take" "_law_take" s__law_take f fd) : FnOk P w K mg base CX0 (1) f fd ["_law_purse_here", "_law_many_here"] (spTakeW) := by
  refine F.ok sc__law_take (fun vs H Q E h => ?_) (fun cdv A outer s H vs Q E hr h => ?_)
  · obtain ⟨p, m, rfl, _⟩ := h
    rfl
  obtain ⟨p, m, rfl, hp, hm, hm2, q⟩ := h
  have hun2 : A.units + 3 + 200 < cLine := by have := hr.un; have h3 : (A.deeper (envOfC "_law_take" (defScope s__law_take) s.heap.objs.size f cdv)).units = A.units + 3 := rfl; omega
  refine ⟨_, pss_cons (ps_if (pt_cmpR op_gt (pe_ix ix_list (pv 0) pe_int (fun _ _ => rfl)) pe_int (nomark _)) (pss_cons (ps_set (i := 2) sc__law_take.nd rfl (.inl rfl) (pe_op op_mod (pe_ix ix_list (pv 0) pe_int (fun _ _ => rfl)) (pv 1)))
    (pss_cons (ps_asg (pe_op op_fdivW (pe_ix ix_list (pv 0) pe_int (fun _ _ => rfl)) (pv 1)) (pg_sub (pv 0) pe_int set_list))
    (pss_one (ps_ret (pv 2))))) pss_nil)
    (pss_cons (ps_asg (pe_op op_mod (pe_op op_add (pe_op op_mul (pe_ix ix_list (pv 0) pe_int (fun _ _ => rfl)) pe_int) pe_int) pe_int) (pg_sub (pv 0) pe_int set_list))
    (pss_cons (ps_set (i := 3) sc__law_take.nd rfl (.inl rfl) (pe_op op_add (pe_op op_mod (pe_op op_mulW (pe_ix ix_list (pv 0) pe_int (fun _ _ => rfl)) (pe_ix ix_list (pv 0) pe_int (fun _ _ => rfl))) pe_int) pe_int))
    (pss_cons (ps_if (pt_cmpR op_gt (pv 1) (pe_op op_pow pe_int pe_int) (nomark _)) (pss_one (ps_ret (pe_op op_mod (pe_op op_fdivW (pe_op op_powW (pv 3) pe_int) pe_int) (pv 1)))) pss_nil)
    (pss_one (ps_ret (pe_op op_mod (pe_op op_fdivW (pv 3) pe_int) (pv 1))))))), ?_⟩
  obtain ⟨x, y, hp, hx, hy, hy2⟩ := hp
  have hS : SqL K H p [.int x, .int y] := SqL.of hp
  refine ⟨_, rfl, p, _, _, _, rfl, rfl, hS, ix0, _, _, rfl, rfl, _, rfl, ?_⟩
  refine ite2 (fun c => ?_) (fun c => ?_)
  · refine ⟨_, rfl, p, _, _, _, rfl, rfl, hS, ix0, _, rfl, _, _, rfl, rfl, (by show (0 : Int) < m; omega), ?_⟩
    refine ⟨_, rfl, p, _, _, _, rfl, rfl, hS, ix0, _, rfl, _, _, rfl, rfl, wide_div (b := 250) (by omega) (by omega) (by decide) (by decide), ?_⟩
    refine ⟨_, rfl, p, _, _, _, rfl, rfl, hp, rfl, ?_⟩
    exact ⟨_, rfl, q _ _ (Int.emod_nonneg _ (by omega)) (Int.emod_lt_of_pos _ (by omega)) (SB.set hp (by simp) _) ⟨x / m, y, upd_same, Int.ediv_nonneg hx (by omega), hy, hy2⟩⟩
  · refine ⟨_, rfl, p, _, _, _, rfl, rfl, hS, ix1, _, _, rfl, rfl, .inr ⟨by decide, by decide⟩, _, _, rfl, rfl, _, _, rfl, rfl, (by show (0 : Int) < 2147483647; decide), ?_⟩
    refine ⟨_, rfl, p, _, _, _, rfl, rfl, hp, rfl, ?_⟩
    have b1 := Int.emod_nonneg (y * 48271 + 11) (b := 2147483647) (by decide)
    have b2 := Int.emod_lt_of_pos (y * 48271 + 11) (b := 2147483647) (by decide)
    obtain ⟨z, hz⟩ : ∃ z, z = (y * 48271 + 11) % 2147483647 := ⟨_, rfl⟩
    rw [← hz] at b1 b2
    have e0 : upd H p (.lst ([V.int x, V.int y].set (Int.toNat 1) (V.int ((y * 48271 + 11) % 2147483647)))) = upd H p (.lst [.int x, .int z]) := by rw [hz]; rfl
    refine cast (congrArg _ e0.symm) ?_
    have hp2 : (upd H p (.lst [.int x, .int z])) p = some (.lst [.int x, .int z]) := upd_same
    have hS2 : SqL K (upd H p (.lst [.int x, .int z])) p [.int x, .int z] := SqL.of hp2
    refine ⟨_, rfl, p, _, _, _, rfl, rfl, hS2, ix1, _, rfl, p, _, _, _, rfl, rfl, hS2, ix1, _, _, rfl, rfl, wide_mul (a := 64) (b := 64) (by omega) (by omega) (by decide) (by decide) (by decide), _, _, rfl, rfl, (by show (0 : Int) < 2147483629; decide), _, _, rfl, rfl, ?_⟩
    have c1 := Int.emod_nonneg (z * z) (b := 2147483629) (by decide)
    have c2 := Int.emod_lt_of_pos (z * z) (b := 2147483629) (by decide)
    have fin := fun r (h0 : 0 ≤ r) (h1 : r < m) => q r (upd H p (.lst [.int x, .int z])) h0 h1 (SB.set hp (by simp) _) ⟨x, z, upd_same, hx, by omega, by omega⟩
    have co : 0 ≤ z * z % 2147483629 + 7 ∧ z * z % 2147483629 + 7 < 2 ^ 40 := by omega
    refine ⟨_, rfl, _, _, rfl, rfl, ⟨by decide, by decide, by decide⟩, _, _, rfl, rfl, _, rfl, ?_⟩
    refine ite2 (fun _ => ?_) (fun _ => ?_)
    · refine ⟨_, rfl, _, _, rfl, rfl, ⟨by decide, by decide, ?_⟩, _, _, rfl, rfl, ⟨by decide, by decide⟩, _, rfl, _, _, rfl, rfl, (by show (0 : Int) < m; omega), ?_⟩
      · have : (z * z % 2147483629 + 7).natAbs < 2 ^ 40 := by omega
        exact Nat.lt_trans this (by decide +kernel)
      · exact fin _ (Int.emod_nonneg _ (by omega)) (Int.emod_lt_of_pos _ (by omega))
    · exact ⟨_, rfl, _, _, rfl, rfl, ⟨by decide, by decide⟩, _, rfl, _, _, rfl, rfl, (by show (0 : Int) < m; omega), fin _ (Int.emod_nonneg _ (by omega)) (Int.emod_lt_of_pos _ (by omega))⟩
end
end FT
namespace FT
open PySem PySem.W PySem.Spec PyProof.Rows L2
section
variable {P : Program} {w : World} {K : PySem.W.Frag} {mg : Str → Option Value} {base : Heap} {f : Addr} {fd : FuncData}
abbrev N__law_names : List Str := ["_law_purse_here", "_law_many_here", "_law_letters", "_law_stem", "_law_wide", "_law_at", "_law_first", "_law_step", "_law_words", "_law_k", "_law_sign"]
theorem sc__law_names : FnScope N__law_names ["_law_purse_here", "_law_many_here"] (defScope s__law_names) := ⟨rfl, rfl, rfl, by decide +kernel, rfl, by decide +kernel, by decide +kernel⟩
theorem ok__law_names (B : BI mg) (G__law_take : Got P w K mg base "_law_take" ["_law_purse_here", "_law_many_here"] (1) (spTakeW)) (F : Fun K "_law_names" "_law_names" s__law_names f fd) : FnOk P w K mg base CX0 (2) f fd ["_law_purse_here", "_law_many_here"] (spWords K) := by
  refine F.ok sc__law_names (fun vs H Q E h => ?_) (fun cdv A outer s H vs Q E hr h => ?_)
  · obtain ⟨p, m, rfl, _⟩ := h
    rfl
  obtain ⟨p, m, rfl, hp, m1, m8, q⟩ := h
  have hun2 : A.units + 3 + 200 < cLine := by have := hr.un; have h3 : (A.deeper (envOfC "_law_names" (defScope s__law_names) s.heap.objs.size f cdv)).units = A.units + 3 := rfl; omega
  refine ⟨_, pss_cons (ps_set (i := 2) sc__law_names.nd rfl (.inr rfl) pe_str)
    (pss_cons (ps_set (i := 3) sc__law_names.nd rfl (.inr rfl) (pe_join pe_str (pe_lc (own := [("_law_k", 9)]) (g := (gName 9)) (tt := tYes) (te := (tOp rIxS (tVar 2) (tCall (spTakeW) [] E0 (tCons (tVar 0) (tCons (tC (.int 26)) tNil))))) rfl sc__law_names.nd (pi_range1 rfl B.range (pa_cons pe_int pa_nil)) (blkOk_by (N := N__law_names) (sc := defScope s__law_names) (by decide +kernel)) (fun _ _ _ _ _ => (pg_name (i := 9) sc__law_names.nd rfl (.inl rfl))) (fun _ _ _ _ _ => pts_nil) (fun _ _ _ _ _ => (pe_ix ix_str (pv 2) (pe_got G__law_take (hr.mono (by omega)) rfl (pa_cons (pv 0) (pa_cons pe_int pa_nil))) (fun _ _ => rfl))))))
    (pss_cons (ps_set (i := 4) sc__law_names.nd rfl (.inl rfl) (pe_got G__law_take (hr.mono (by omega)) rfl (pa_cons (pv 0) (pa_cons pe_int pa_nil))))
    (pss_cons (ps_set (i := 5) sc__law_names.nd rfl (.inl rfl) (pe_got G__law_take (hr.mono (by omega)) rfl (pa_cons (pv 0) (pa_cons (pe_op op_add (pv 4) pe_int) pa_nil))))
    (pss_cons (ps_set (i := 6) sc__law_names.nd rfl (.inl rfl) (pe_got G__law_take (hr.mono (by omega)) rfl (pa_cons (pv 0) (pa_cons pe_int pa_nil))))
    (pss_cons (ps_set (i := 7) sc__law_names.nd rfl (.inl rfl) (pe_ix ix_list (pe_lst (pa_cons pe_int (pa_cons pe_int (pa_cons pe_int (pa_cons pe_int (pa_cons pe_int (pa_cons pe_int (pa_cons pe_int (pa_cons pe_int pa_nil))))))))) (pe_got G__law_take (hr.mono (by omega)) rfl (pa_cons (pv 0) (pa_cons pe_int pa_nil))) (fun _ _ => rfl)))
    (pss_cons (ps_set (i := 8) sc__law_names.nd rfl (.inr rfl) (pe_lst pa_nil))
    (pss_cons (ps_for PassesOwn.never rfl (pi_range1 rfl B.range (pa_cons pe_int pa_nil)) (pg_name (i := 9) sc__law_names.nd rfl (.inl rfl))
      (pss_cons (ps_set (i := 10) sc__law_names.nd rfl (.inl rfl) (pe_ix ix_str (pv 2) (pe_op op_mod (pe_op op_add (pv 6) (pe_op op_mul (pv 7) (pv 9))) pe_int) (fun _ _ => rfl)))
    (pss_one (ps_expr (pe_bm PySem.F.plainAttrs_list PySem.F.slot_list_append PySem.F.type_list_append mt_append (pv 8) (pa_cons (pe_op op_add_str (pe_op op_add_str (pe_slice sl_str (pv 3) po_none (po_some (pv 5))) (pv 10)) (pe_slice sl_str (pv 3) (po_some (pv 5)) (po_some (pv 4)))) pa_nil))))))
    (pss_cons (ps_if (pt_cmpR op_eq (pe_got G__law_take (hr.mono (by omega)) rfl (pa_cons (pv 0) (pa_cons pe_int pa_nil))) pe_int (nomark _)) (pss_one (ps_set (i := 8) sc__law_names.nd rfl (.inr rfl) (pe_lc (own := [("_law_k", 9)]) (g := (gName 9)) (tt := tYes) (te := (tSl rSlS (tVar 3) tNoPart (tPart (tOp (rI0 fun i j => .int (i + j)) (tVar 9) (tC (.int 1)))))) rfl sc__law_names.nd (pi_range1 rfl B.range (pa_cons pe_int pa_nil)) (blkOk_by (N := N__law_names) (sc := defScope s__law_names) (by decide +kernel)) (fun _ _ _ _ _ => (pg_name (i := 9) sc__law_names.nd rfl (.inl rfl))) (fun _ _ _ _ _ => pts_nil) (fun _ _ _ _ _ => (pe_slice sl_str (pv 3) po_none (po_some (pe_op op_add (pv 9) pe_int))))))) pss_nil)
    (pss_one (ps_ret (pe_lc (own := [("_law_k", 9)]) (g := (gName 9)) (tt := tYes) (te := (tBM K "list" rPopAt (tVar 8) (tCons (tCall (spTakeW) [] E0 (tCons (tVar 0) (tCons (tCB (fun xs H Q => ∃ p ys, xs = [.ref p] ∧ (SqL K H p ys ∨ SqT K H p ys) ∧ Q (.int ys.length) H) (tCons (tVar 8) tNil)) tNil))) tNil))) rfl sc__law_names.nd (pi_range1 rfl B.range (pa_cons (pv 1) pa_nil)) (blkOk_by (N := N__law_names) (sc := defScope s__law_names) (by decide +kernel)) (fun _ _ _ _ _ => (pg_name (i := 9) sc__law_names.nd rfl (.inl rfl))) (fun _ _ _ _ _ => pts_nil) (fun _ _ _ _ _ => (pe_bm PySem.F.plainAttrs_list PySem.F.slot_list_pop PySem.F.type_list_pop mt_popAt (pv 8) (pa_cons (pe_got G__law_take (hr.mono (by omega)) rfl (pa_cons (pv 0) (pa_cons (pe_callB call_len_seq rfl B.len PySem.boot_len (pa_cons (pv 8) pa_nil)) pa_nil))) pa_nil)))))))))))))), ?_⟩
  have szl := sizeLine_eq
  refine nameI (seqI (asgI ?_))
  refine join_w (k := 8) (jP := 0) (jL := 2) (jV := 9) (wi := iRng1 (tCons (tC (.int 8)) tNil)) (σ := [some (.ref p), some (.int (m : Int)), some (.str abc), none, none, none, none, none, none, none, none]) (by omega) (fun _ => rfl) (fun _ => rfl) (fun _ => rfl) (fun R hR => ⟨_, rfl, by decide, by decide, hR⟩) hp (fun st H1 s1 hp1 hst => ?_)
  have sl := hst.len
  refine take_w (i := 0) rfl hp1 (by decide) (by decide) fun r2 H2 r20 r28 s2 hp2 => ?_
  obtain ⟨sz, rfl⟩ : ∃ u : Nat, r2 = (u : Int) := ⟨r2.toNat, by omega⟩
  refine ⟨_, rfl, _, rfl, _, _, rfl, rfl, p, _, rfl, hp2, by omega, by omega, fun r3 H3 r30 r38 s3 hp3 => ?_⟩
  obtain ⟨at_, rfl⟩ : ∃ u : Nat, r3 = (u : Int) := ⟨r3.toNat, by omega⟩
  have hat : at_ ≤ sz := by omega
  refine take_w (i := 0) rfl hp3 (by decide) (by decide) fun r4 H4 r40 r48 s4 hp4 => ?_
  obtain ⟨bg, rfl⟩ : ∃ u : Nat, r4 = (u : Int) := ⟨r4.toNat, by omega⟩
  refine ⟨by show 8 ≤ sizeLine; decide, fun la hla => ?_⟩
  have t5 := SB.new (ps := []) hla (.lst [.int 1, .int 3, .int 5, .int 7, .int 9, .int 11, .int 15, .int 17])
  have hla5 : upd H4 la (.lst [.int 1, .int 3, .int 5, .int 7, .int 9, .int 11, .int 15, .int 17]) la = some (.lst [.int 1, .int 3, .int 5, .int 7, .int 9, .int 11, .int 15, .int 17]) := upd_same
  have lap : la ∉ [p] := by simpa using fun z : la = p => hp4.ne hla z.symm
  have hp5 := hp4.sb t5
  generalize upd H4 la (.lst [.int 1, .int 3, .int 5, .int 7, .int 9, .int 11, .int 15, .int 17]) = H5 at t5 hla5 hp5
  refine take_w (i := 0) rfl hp5 (by decide) (by decide) fun r6 H6 r60 r68 s6 hp6 => ?_
  have hla6 := s6.keep _ _ hla5 lap
  obtain ⟨st', hz, hst'⟩ : ∃ s' : Nat, atI [V.int 1, .int 3, .int 5, .int 7, .int 9, .int 11, .int 15, .int 17] r6 = some (.int (s' : Int)) ∧ (s' = 1 ∨ s' = 3 ∨ s' = 5 ∨ s' = 7 ∨ s' = 9 ∨ s' = 11 ∨ s' = 15 ∨ s' = 17) := by
    have : r6 = 0 ∨ r6 = 1 ∨ r6 = 2 ∨ r6 = 3 ∨ r6 = 4 ∨ r6 = 5 ∨ r6 = 6 ∨ r6 = 7 := by omega
    rcases this with h | h | h | h | h | h | h | h <;> subst h
    · exact ⟨1, rfl, by simp⟩
    · exact ⟨3, rfl, by simp⟩
    · exact ⟨5, rfl, by simp⟩
    · exact ⟨7, rfl, by simp⟩
    · exact ⟨9, rfl, by simp⟩
    · exact ⟨11, rfl, by simp⟩
    · exact ⟨15, rfl, by simp⟩
    · exact ⟨17, rfl, by simp⟩
  have st17 : st' ≤ 17 := by omega
  refine ⟨la, _, _, _, rfl, rfl, SqL.of hla6, hz, ?_⟩
  have s06 : SB [p] H H6 := ((((s1.trans s2).trans s3).trans s4).trans t5.nil).trans s6
  refine ⟨by show 0 ≤ sizeLine; decide, fun W hW => ?_⟩
  have t7 := SB.new (ps := []) hW (.lst [])
  have hp7 := hp6.sb t7
  have nW : H W = none := s06.dom _ hW
  have pW : p ≠ W := hp6.ne hW
  have hW7 : upd H6 W (.lst []) W = some (.lst []) := upd_same
  have s07 := s06.trans (t7.nil (ps := [p]))
  generalize upd H6 W (.lst []) = H7 at t7 hp7 hW7 s07
  let wd : Nat → Str := fun k => cutS st none (some (at_ : Int)) ++ ⟨#[97 + (bg + st' * k) % 26]⟩ ++ cutS st (some (at_ : Int)) (some (sz : Int))
  refine ⟨_, rfl, by decide, by decide, ?_⟩
  refine for_it walk_range (fun i σ H8 => SB [W] H7 H8 ∧ ∃ o9 o10 : Option V, σ = [some (.ref p), some (.int (m : Int)), some (.str abc), some (.str st), some (.int (sz : Int)), some (.int (at_ : Int)), some (.int (bg : Int)), some (.int (st' : Int)), some (.ref W), o9, o10] ∧ H8 W = some (.lst (((List.range i).map wd).map V.str)))
    ⟨SB.refl, none, none, rfl, hW7⟩ (fun _ _ _ _ _ => trivial) (fun i x σ H8 H' hi h2 y => ?_) (fun σ H8 h2 => ?_)
  · obtain ⟨s8, o9, o10, rfl, hW8⟩ := h2
    obtain ⟨rfl, rfl⟩ := y
    have la' := (hst.take at_).len
    have lb := (hst.cut at_ sz).len
    have e1 : ((bg : Int) + (st' : Int) * (0 + (i : Int))) % 26 = (((bg + st' * i) % 26 : Nat) : Int) := by
      rw [Int.zero_add]; push_cast; rfl
    refine ⟨_, rfl, _, rfl, _, rfl, _, rfl, _, _, rfl, rfl, .inl ⟨by show (-(2 ^ 64) : Int) < (st' : Int); omega, by show (st' : Int) < 2 ^ 64; omega⟩, _, _, rfl, rfl, _, _, rfl, rfl, (by show (0 : Int) < 26; decide), abc, _, 97 + (bg + st' * i) % 26, rfl, rfl, abc_len, ?_, ?_⟩
    · show atI abc.cps.toList (((bg : Int) + (st' : Int) * (0 + (i : Int))) % 26) = _
      rw [e1]
      exact atI_natN (abc_code _ (by omega))
    refine ⟨_, rfl, .inl ⟨rfl, _, SqL.of hW8⟩, _, rfl, _, rfl, _, rfl, st, rfl, by omega, _, rfl, _, _, rfl, rfl, by rw [la']; show _ + 1 ≤ _; omega, ?_⟩
    refine ⟨_, rfl, _, rfl, _, rfl, _, rfl, _, rfl, st, rfl, by omega, _, _, rfl, rfl, ?_, W, _, _, rfl, rfl, hW8, by rw [List.length_map, List.length_map, List.length_range]; omega, ?_⟩
    · have : (cutS st none (some (at_ : Int)) ++ (⟨#[97 + (bg + st' * i) % 26]⟩ : Str)).length = min at_ 8 + 1 := ((hst.take at_).append (Ltr.one (c := 97 + (bg + st' * i) % 26) (by omega))).len
      rw [this, lb]; omega
    refine ⟨s8.trans (SB.set hW8 (by simp) _), _, _, rfl, ?_⟩
    rw [upd_same, List.range_succ, List.map_append, List.map_append]
    rfl
  obtain ⟨s8, o9, o10, rfl, hW8⟩ := h2
  have e8 : ((8 : Int)).toNat = 8 := rfl
  rw [e8] at hW8
  have hp8 := hp7.keep s8 (by simpa using pW)
  have s08 : SB [p] H H8 := (s07.mono (qs := [p, W]) (by simp)).trans (s8.mono (by simp)) |>.drop2 nW
  have key2 : ∀ i, Ltr (wd i) (min at_ 8 + 1 + (min sz 8 - min at_ 8)) := fun i => ((hst.take at_).append (Ltr.one (by omega))).append (hst.cut at_ sz)
  dsimp only
  refine seq_via (fun σ' H9 => SB [p] H H9 ∧ PuW H9 p ∧ ∃ (W' : Addr) (ws : List Str) (o9 o10 : Option V), σ' = [some (.ref p), some (.int (m : Int)), some (.str abc), some (.str st), some (.int (sz : Int)), some (.int (at_ : Int)), some (.int (bg : Int)), some (.int (st' : Int)), some (.ref W'), o9, o10] ∧ H W' = none ∧ W' ≠ p ∧ H9 W' = some (.lst (ws.map V.str)) ∧ ws.length = 8 ∧ ws.Nodup ∧ ∀ k ∈ ws, NameOk k) (fun nx hnx => ?_) (fun σ' H9 h => ?_)
  · refine ifI ?_
    refine take_w (i := 0) rfl hp8 (by decide) (by decide) fun r9 H9 r90 r93 s9 hp9 => ?_
    have hW9 := s9.keep _ _ hW8 (by simpa using fun z : W = p => pW z.symm)
    refine ⟨rfl, _, rfl, ?_⟩
    refine ite2 (fun _ => ?_) (fun _ => ?_)
    · refine ⟨_, rfl, by decide, by decide, fun D hD => ?_⟩
      refine lc_seq walk_range hD (by decide) (fun i us _ => us = ((List.range i).map fun k => cutS st none (some ((k + 1 : Nat) : Int))).map V.str) rfl (fun _ _ => trivial) (fun _ _ _ _ _ h => h) (fun Pv i x Hx H' us hi sx y hR hl fin _ => ?_) (fun us Hx sx hDx hR hl => ?_)
      · obtain ⟨rfl, rfl⟩ := y
        have e0 : (0 : Int) + (i : Int) + 1 = ((i + 1 : Nat) : Int) := by omega
        refine ⟨rfl, _, rfl, _, rfl, _, _, rfl, rfl, _, rfl, st, rfl, by omega, fin _ _ SB.refl ?_⟩
        rw [hR, List.range_succ, List.map_append, List.map_append, e0]
        rfl
      · subst hR
        have k3 : ∀ i, i < 8 → Ltr (cutS st none (some ((i + 1 : Nat) : Int))) (i + 1) := fun i hi => by
          have := hst.take (i + 1)
          rw [Nat.min_eq_left (by omega)] at this
          exact this
        have pD : p ≠ D := hp9.ne hD
        refine hnx _ _ ⟨(s08.trans s9).trans sx.nil, hp9.sb sx, D, (List.range 8).map fun k => cutS st none (some ((k + 1 : Nat) : Int)), _, _, rfl, (s08.trans s9).dom _ hD, fun z => pD z.symm, hDx, by simp, nodup_range fun i j hi hj hn e => ?_, fun k hk => ?_⟩
        · have e1 := (k3 i hi).1
          rw [e, (k3 j hj).1] at e1
          omega
        · obtain ⟨i, hi, rfl⟩ := List.mem_map.mp hk
          have hi := List.mem_range.mp hi
          exact (k3 i hi).name (by omega) (by omega)
    · refine hnx _ _ ⟨s08.trans s9, hp9, W, (List.range 8).map wd, _, _, rfl, nW, fun z => pW z.symm, hW9, by simp, nodup_range fun i j hi hj hn e => ?_, fun k hk => ?_⟩
      · have e1 := (hst.take at_).mid (c := 97 + (bg + st' * i) % 26) (b := cutS st (some (at_ : Int)) (some (sz : Int)))
        have e2 := (hst.take at_).mid (c := 97 + (bg + st' * j) % 26) (b := cutS st (some (at_ : Int)) (some (sz : Int)))
        have e' : cutS st none (some (at_ : Int)) ++ (⟨#[97 + (bg + st' * i) % 26]⟩ : Str) ++ cutS st (some (at_ : Int)) (some (sz : Int)) = cutS st none (some (at_ : Int)) ++ (⟨#[97 + (bg + st' * j) % 26]⟩ : Str) ++ cutS st (some (at_ : Int)) (some (sz : Int)) := e
        rw [e', e2] at e1
        injection e1 with e1
        exact hn (step_inj (b := bg) hst' hi hj (by omega))
      · obtain ⟨i, hi, rfl⟩ := List.mem_map.mp hk
        exact (key2 i).name (by omega) (by omega)
  obtain ⟨s9, hp9, W', ws, q9, q10, rfl, nW', Wp, hW', wl, wn, wok⟩ := h
  refine ⟨_, rfl, _, rfl, by omega, by omega, fun D hD => ?_⟩
  rw [Int.toNat_natCast]
  have pD : p ≠ D := hp9.ne hD
  have WD : W' ≠ D := ne_of_none hW' hD
  refine lc_seqP walk_range [p, W'] hD (fun x hx z => ?_) (by omega) (fun i us H2 => PuW H2 p ∧ ∃ ls os : List Str, us = os.map V.str ∧ H2 W' = some (.lst (ls.map V.str)) ∧ os.length = i ∧ (os ++ ls).Perm ws) ⟨hp9, ws, [], rfl, hW', rfl, List.Perm.refl _⟩ (fun _ _ => trivial) (fun i us H2 H3 e ⟨h1, ls, os, h2, h3, h4⟩ => ⟨h1.keep e (by simpa using pD), ls, os, h2, e.keep _ _ h3 (by simpa using WD), h4⟩) (fun Pv i x Hx H10 us hi sx y hR hl fin _ => ?_) (fun us Hx sx hDx hR hl => ?_)
  · rcases List.mem_cons.mp hx with e | hx
    · exact hp9.some p (by simp) (e ▸ z)
    · rw [List.mem_singleton.mp hx, hW'] at z; cases z
  · obtain ⟨rfl, rfl⟩ := y
    obtain ⟨hp10, ls, os, rfl, hW10, ol, pm⟩ := hR
    have pl := pm.length_eq
    rw [List.length_append, wl] at pl
    refine ⟨rfl, _, rfl, .inl ⟨rfl, _, SqL.of hW10⟩, _, rfl, _, rfl, W', _, rfl, .inl (SqL.of hW10), p, _, rfl, hp10, by rw [List.length_map]; omega, by rw [List.length_map]; omega, fun r11 H11 r110 r11m s11 hp11 => ?_⟩
    rw [List.length_map] at r11m
    obtain ⟨u, rfl⟩ : ∃ u : Nat, r11 = (u : Int) := ⟨r11.toNat, by omega⟩
    have hu : u < ls.length := by omega
    have hW11 := s11.keep _ _ hW10 (by simpa using Wp)
    have eu : ls[u]? = some ls[u] := List.getElem?_eq_getElem hu
    refine ⟨W', _, _, u, .str ls[u], rfl, rfl, hW11, by omega, by omega, ?_, by rw [List.getElem?_map, eu]; rfl, ?_⟩
    · rw [PySem.seqIndex_of (by omega) (by rw [List.length_map]; omega), Int.toNat_natCast]
    rw [erase_map]
    refine fin _ _ ((s11.mono (by simp)).trans (SB.set hW11 (by simp) _)) ⟨hp11.keep (SB.set (ps := [W']) hW11 (by simp) _) (by simpa using fun z : p = W' => Wp z.symm), ls.eraseIdx u, os ++ [ls[u]], by rw [List.map_append]; rfl, upd_same, by rw [List.length_append, ol]; rfl, ?_⟩
    rw [List.append_assoc]
    exact (List.Perm.append_left os (idx_perm eu)).trans pm
  obtain ⟨hpx, ls, os, rfl, hWx, ol, pm⟩ := hR
  have s0x : SB [p] H Hx := (s9.mono (qs := [p, W']) (by simp)).trans sx |>.drop2 nW'
  refine q D os Hx s0x hpx (s9.dom _ hD) hDx ol (fun k hk => wok k (pm.mem_iff.mp (List.mem_append_left _ hk))) ?_
  exact (List.nodup_append.mp (pm.nodup_iff.mpr wn)).1
end
end FT
namespace FT
open PySem PySem.W PySem.Spec PyProof.Rows L2
section
variable {P : Program} {w : World} {K : PySem.W.Frag} {mg : Str → Option Value} {base : Heap} {f : Addr} {fd : FuncData}
abbrev N__law_many : List Str := ["_law_purse_here", "_law_most", "_law_way"]
theorem sc__law_many : FnScope N__law_many ["_law_purse_here", "_law_most"] (defScope s__law_many) := ⟨rfl, rfl, rfl, by decide +kernel, rfl, by decide +kernel, by decide +kernel⟩
theorem ok__law_many (B : BI mg) (G__law_take : Got P w K mg base "_law_take" ["_law_purse_here", "_law_many_here"] (1) (spTakeW)) (F : Fun K "_law_many" "_law_many" s__law_many f fd) : FnOk P w K mg base CX0 (2) f fd ["_law_purse_here", "_law_most"] (spManyP) := by
  refine F.ok sc__law_many (fun vs H Q E h => ?_) (fun cdv A outer s H vs Q E hr h => ?_)
  · obtain ⟨p, m, rfl, _⟩ := h
    rfl
  obtain ⟨p, m, rfl, hp, hm, hm2, q⟩ := h
  have hun2 : A.units + 3 + 200 < cLine := by have := hr.un; have h3 : (A.deeper (envOfC "_law_many" (defScope s__law_many) s.heap.objs.size f cdv)).units = A.units + 3 := rfl; omega
  refine ⟨_, pss_cons (ps_set (i := 2) sc__law_many.nd rfl (.inl rfl) (pe_got G__law_take (hr.mono (by omega)) rfl (pa_cons (pv 0) (pa_cons pe_int pa_nil))))
    (pss_cons (ps_if (pt_cmpR op_lt (pv 2) pe_int (nomark _)) (pss_one (ps_ret (pe_op op_add pe_int (pv 2)))) pss_nil)
    (pss_one (ps_ret (pe_op op_add pe_int (pe_got G__law_take (hr.mono (by omega)) rfl (pa_cons (pv 0) (pa_cons (pe_ix ix_list (pe_lst (pa_cons pe_int (pa_cons (pv 1) pa_nil))) (pe_op op_sub (pv 2) pe_int) (fun _ _ => rfl)) pa_nil))))))), ?_⟩
  refine take_w (i := 0) rfl hp (by decide) (by decide) fun r1 H1 r10 r14 s1 hp1 => ?_
  refine ⟨_, rfl, _, _, rfl, rfl, _, rfl, ?_⟩
  by_cases h : r1 < 2
  · rw [decide_eq_true h]
    exact iteT ⟨_, rfl, _, _, rfl, rfl, q _ _ (by omega) (by omega) s1 hp1⟩
  rw [decide_eq_false h]
  refine iteF ?_
  refine ⟨_, rfl, _, rfl, by show 2 ≤ sizeLine; decide, fun L hL => ?_⟩
  have t2 := SB.new (ps := []) hL (.lst [.int 9, .int m])
  obtain ⟨z, hz, z1, z2⟩ : ∃ z : Int, atI [V.int 9, V.int m] (r1 - 2) = some (.int z) ∧ 9 ≤ z ∧ z ≤ m := by
    have : r1 = 2 ∨ r1 = 3 := by omega
    rcases this with e | e <;> subst e
    · exact ⟨9, rfl, by omega, hm⟩
    · exact ⟨m, rfl, hm, by omega⟩
  have hb : z < 2 ^ 250 := Int.lt_of_le_of_lt z2 (Int.lt_trans hm2 (by decide))
  refine ⟨_, rfl, _, _, rfl, rfl, L, _, _, _, rfl, rfl, SqL.of upd_same, hz, p, z, rfl, hp1.sb t2, by omega, hb, fun r3 H3 r30 r3m s3 hp3 => ?_⟩
  exact ⟨_, _, rfl, rfl, q _ _ (by omega) (by omega) ((s1.trans t2.nil).trans s3) hp3⟩
end
end FT
namespace FT
open PySem PySem.W PySem.Spec PyProof.Rows L2
section
variable {P : Program} {w : World} {K : PySem.W.Frag} {mg : Str → Option Value} {base : Heap} {f : Addr} {fd : FuncData}
abbrev N__law_wood : List Str := ["_law_purse_here", "_law_pool", "_law_room", "_law_low", "_law_most", "_law_found", "_law_k", "_law_name", "_law_inner", "_law_tree", "_law_many_here", "_law_one", "_law_old", "_law_pair"]
theorem sc__law_wood : FnScope N__law_wood ["_law_purse_here", "_law_pool", "_law_room", "_law_low", "_law_most"] (defScope s__law_wood) := ⟨rfl, rfl, rfl, by decide +kernel, rfl, by decide +kernel, by decide +kernel⟩
theorem none__law_wood {ps : List Str} {k : Nat} : FnOk P w K mg base CX0 k f fd ps (spWood K 0) := none_sp fun vs H Q E ⟨p, l, R, ks, a, b, low, m, _, _, _, _, _, _, _, _, h, _⟩ => by omega
theorem ok__law_wood {n : Nat} (B : BI mg) (G__law_take : Got P w K mg base "_law_take" ["_law_purse_here", "_law_many_here"] (1) (spTakeW)) (G__law_wood : Got P w K mg base "_law_wood" ["_law_purse_here", "_law_pool", "_law_room", "_law_low", "_law_most"] (n + 2) (spWood K n)) (G__law_many : Got P w K mg base "_law_many" ["_law_purse_here", "_law_most"] (2) (spManyP)) (F : Fun K "_law_wood" "_law_wood" s__law_wood f fd) : FnOk P w K mg base CX0 (n + 3) f fd ["_law_purse_here", "_law_pool", "_law_room", "_law_low", "_law_most"] (spWood K (n + 1)) := by
  refine F.ok sc__law_wood (fun vs H Q E h => ?_) (fun cdv A outer s H vs Q E hr h => ?_)
  · obtain ⟨p, l, R, ks, a, b, low, m, rfl, _⟩ := h
    rfl
  obtain ⟨p, l, R, ks, a, b, low, m, rfl, hp, hl, hR, lp, lR, Rp, ab, hlow, hm, kn, q⟩ := h
  have hun2 : A.units + 3 + 200 < cLine := by have := hr.un; have h3 : (A.deeper (envOfC "_law_wood" (defScope s__law_wood) s.heap.objs.size f cdv)).units = A.units + 3 := rfl; omega
  refine ⟨_, pss_cons (ps_set (i := 5) sc__law_wood.nd rfl (.inl rfl) (pe_lst pa_nil))
    (pss_cons (ps_for PassesOwn.never rfl (pi_range1 rfl B.range (pa_cons (pe_got G__law_take (hr.mono (by omega)) rfl (pa_cons (pv 0) (pa_cons (pe_ix ix_list (pv 2) pe_int (fun _ _ => rfl)) pa_nil))) pa_nil)) (pg_name (i := 6) sc__law_wood.nd rfl (.inl rfl))
      (pss_one (ps_if (PW.pt (pw_and (pt_cmpR op_gt (pe_ix ix_list (pv 2) pe_int (fun _ _ => rfl)) pe_int (nomark _)) (pw_and1 (pt_cmpR (op_neD (by show A.units + 3 + 64 < cLine; omega)) (pv 1) (pe_lst pa_nil) (nomark _))))) (pss_cons (ps_asg (pe_op op_sub (pe_ix ix_list (pv 2) pe_int (fun _ _ => rfl)) pe_int) (pg_sub (pv 2) pe_int set_list))
    (pss_cons (ps_set (i := 7) sc__law_wood.nd rfl (.inl rfl) (pe_ix ix_list (pv 1) (pe_got G__law_take (hr.mono (by omega)) rfl (pa_cons (pv 0) (pa_cons (pe_callB call_len_seq rfl B.len PySem.boot_len (pa_cons (pv 1) pa_nil)) pa_nil))) (fun _ _ => rfl)))
    (pss_cons (ps_set (i := 8) sc__law_wood.nd rfl (.inl rfl) (pe_tup pa_nil))
    (pss_cons (ps_if (PW.pt (pw_and (pt_cmpR op_gt (pv 3) pe_int (nomark _)) (pw_and1 (pt_cmpR op_gt (pe_got G__law_take (hr.mono (by omega)) rfl (pa_cons (pv 0) (pa_cons pe_int pa_nil))) pe_int (nomark _))))) (pss_one (ps_set (i := 8) sc__law_wood.nd rfl (.inl rfl) (pe_got G__law_wood (hr.mono (by omega)) rfl (pa_cons (pv 0) (pa_cons (pv 1) (pa_cons (pv 2) (pa_cons (pe_op op_sub (pv 3) pe_int) (pa_cons (pv 4) pa_nil)))))))) pss_nil)
    (pss_cons (ps_set (i := 9) sc__law_wood.nd rfl (.inr rfl) (pe_tup (pa_cons (pv 7) (pa_cons (pv 8) pa_nil))))
    (pss_cons (ps_set (i := 10) sc__law_wood.nd rfl (.inl rfl) (pe_op op_add (pe_got G__law_many (hr.mono (by omega)) rfl (pa_cons (pv 0) (pa_cons (pv 4) pa_nil))) (pe_callB (cr_sum rfl) rfl B.sum boot_sum (pa_cons (pe_lc (own := [("_law_one", 11), ("_law_old", 12)]) (g := (gTup K 2 (gCons (gName 11) (gCons (gName 12) gNil)))) (tt := (tTest (tOp (rEqD K) (tVar 11) (tVar 9)))) (te := (tVar 12)) rfl sc__law_wood.nd (pi_list (pv 5)) (blkOk_by (N := N__law_wood) (sc := defScope s__law_wood) (by decide +kernel)) (fun _ _ _ _ _ => (pg_tup rfl (pgs_cons (pg_name (i := 11) sc__law_wood.nd rfl (.inl rfl)) (pgs_cons (pg_name (i := 12) sc__law_wood.nd rfl (.inl rfl)) pgs_nil)))) (fun _ _ _ _ _ => (pts_one (pt_cmpR (op_eqD (by show A.units + 3 + 64 < cLine; omega)) (pv 11) (pv 9) (nomark _)))) (fun _ _ _ _ _ => (pv 12))) pa_nil))))
    (pss_one (ps_set (i := 5) sc__law_wood.nd rfl (.inl rfl) (pe_op op_cat (pe_lc (own := [("_law_pair", 13)]) (g := (gName 13)) (tt := (tTest (tOp (rNeD K) (tOp (rIxT K) (tVar 13) (tC (.int 0))) (tVar 9)))) (te := (tVar 13)) rfl sc__law_wood.nd (pi_list (pv 5)) (blkOk_by (N := N__law_wood) (sc := defScope s__law_wood) (by decide +kernel)) (fun _ _ _ _ _ => (pg_name (i := 13) sc__law_wood.nd rfl (.inl rfl))) (fun _ _ _ _ _ => (pts_one (pt_cmpR (op_neD (by show A.units + 3 + 64 < cLine; omega)) (pe_ix ix_tup (pv 13) pe_int (fun _ _ => rfl)) (pv 9) (nomark _)))) (fun _ _ _ _ _ => (pv 13))) (pe_lst (pa_cons (pe_tup (pa_cons (pv 9) (pa_cons (pe_callB (call_min2 rfl) rfl B.min boot_min (pa_cons (pv 4) (pa_cons (pv 10) pa_nil))) pa_nil))) pa_nil))))))))))) pss_nil)))
    (pss_one (ps_ret (pe_callTy call_tuple_of rfl B.tuple boot_tuple (pa_cons (pe_callB (cr_sortedB Gr.pEnc (by show A.units + 3 + 110 < cLine; omega)) rfl B.sorted (by decide +kernel) (pa_cons (pv 5) pa_nil)) pa_nil))))), ?_⟩
  have szl := sizeLine_eq
  obtain ⟨a60, b1, b9⟩ := ab
  obtain ⟨low1, lown, low12⟩ := hlow
  obtain ⟨m9, m30⟩ := hm
  obtain ⟨k8, kn⟩ := kn
  have m200 : m < 2 ^ 200 := Int.lt_of_le_of_lt m30 (by decide)
  refine ⟨by show 0 ≤ sizeLine; decide, fun F0 hF0 => ?_⟩
  have t0 := SB.new (ps := []) hF0 (.lst [])
  have hp0 := hp.sb t0
  have hl0 := t0.keep _ _ hl List.not_mem_nil
  have hR0 := t0.keep _ _ hR List.not_mem_nil
  have hF00 : upd H F0 (.lst []) F0 = some (.lst []) := upd_same
  have Fp0 : F0 ≠ p := fun z => hp.ne hF0 z.symm
  have FR0 : F0 ≠ R := fun z => ne_of_none hR hF0 z.symm
  generalize upd H F0 (.lst []) = H0 at t0 hp0 hl0 hR0 hF00
  refine ⟨_, rfl, _, rfl, R, _, _, _, rfl, rfl, SqL.of hR0, atI_nat (j := 1) rfl, p, (b : Int), rfl, hp0, by omega, by omega, fun r1 H1 r10 r1b s1 hp1 => ?_⟩
  obtain ⟨c, rfl⟩ : ∃ c : Nat, r1 = (c : Int) := ⟨r1.toNat, by omega⟩
  refine ⟨_, rfl, by omega, by omega, ?_⟩
  rw [Int.toNat_natCast]
  have nF : ∀ {F : Addr}, F ≠ p → F ∉ [p] := fun h => by simpa using h
  have lR1 := s1.keep _ _ hl0 (by simpa using lp)
  refine for_it walk_range (fun i σ H2 => SB [p, R] H H2 ∧ PuW H2 p ∧ ∃ (F : Addr) (ys : List V) (bs : List (Tr × Int)) (a' : Nat) (o6 o7 o8 o9 o10 : Option V), σ = [some (.ref p), some (.ref l), some (.ref R), some (.int (low : Int)), some (.int m), some (.ref F), o6, o7, o8, o9, o10, none, none, none] ∧ F ≠ p ∧ F ≠ R ∧ H2 F = some (.lst ys) ∧ H2 R = some (.lst [.int (a' : Int), .int (b : Int)]) ∧ Bears K H2 Gr.pEnc ys bs ∧
      (bs.map (·.1)).Nodup ∧ (∀ x ∈ bs, NameOk x.1.1 ∧ x.1.2.Ok (m + 1) ∧ 1 ≤ x.2 ∧ x.2 < m + 1 ∧ x.1.2.deep < low ∧ x.1.1 ∈ ks ∧ ∀ y ∈ x.1.2.within, y.1.1 ∈ ks) ∧ Gr.tot bs + a' ≤ a ∧ bs.length ≤ i)
    ⟨(t0.nil (ps := [p, R])).trans (s1.mono (by simp)), hp1, F0, [], [], a, none, none, none, none, none, rfl, Fp0, FR0, s1.keep _ _ hF00 (nF Fp0), s1.keep _ _ hR0 (by simpa using Rp), .nil, by simp, by simp, by simp [Gr.tot], by simp⟩ (fun _ _ _ _ _ => trivial) (fun i x σ Hq H2 hi h2 y => ?_) (fun σ H2 h2 => ?_)
  · obtain ⟨s2, hp2, F, ys, bs, a', o6, o7, o8, o9, o10, rfl, Fp, FR, hF2, hR2, hbs, nd, ok, ht, hbl⟩ := h2
    obtain ⟨rfl, rfl⟩ := y
    have hl2 := s2.keep _ _ hl (by simp [lp, lR])
    have yl := hbs.length
    refine ⟨_, rfl, R, _, _, _, rfl, rfl, SqL.of hR2, atI_nat (j := 0) rfl, _, _, rfl, rfl, _, rfl, ?_⟩
    by_cases ha : 0 < a'
    · rw [show decide ((0 : Int) < (a' : Int)) = true from decide_eq_true (by omega)]
      refine iteT ?_
      refine ⟨_, rfl, by show 0 ≤ sizeLine; decide, fun e0 he0 => ?_⟩
      have t3 := SB.new (ps := []) he0 (.lst [])
      refine ⟨_, _, .lst (t3.sqL List.not_mem_nil (SqL.of hl2)) (Dp_strs ks), .lst (SqL.of upd_same) .nil, names_shaped kn, by decide +kernel, _, rfl, ?_⟩
      rw [eqv_nil]
      have s3 := s2.trans (t3.nil (ps := [p, R]))
      have hp3 := hp2.sb t3
      have hl3 := t3.keep _ _ hl2 List.not_mem_nil
      have hF3 := t3.keep _ _ hF2 List.not_mem_nil
      have hR3 := t3.keep _ _ hR2 List.not_mem_nil
      have hbs3 := hbs.sb t3 Gr.noList_pEnc
      generalize upd H2 e0 (.lst []) = H3 at t3 s3 hp3 hl3 hF3 hR3 hbs3
      by_cases hk : ks = []
      · rw [show (!decide (ks = [])) = false by simp [hk]]
        exact iteF ⟨s3, hp3, F, ys, bs, a', _, _, _, _, _, rfl, Fp, FR, hF3, hR3, hbs3, nd, ok, ht, by omega⟩
      · rw [show (!decide (ks = [])) = true by simp [hk]]
        refine iteT ?_
        have kpos : 0 < ks.length := List.length_pos_iff.mpr hk
        refine ⟨_, rfl, R, _, _, _, rfl, rfl, SqL.of hR3, atI_nat (j := 0) rfl, _, _, rfl, rfl, ?_⟩
        refine ⟨_, rfl, R, _, _, _, rfl, rfl, hR3, rfl, ?_⟩
        have e4 : upd H3 R (.lst ([V.int (a' : Int), V.int (b : Int)].set (Int.toNat 0) (V.int ((a' : Int) - 1)))) = upd H3 R (.lst [.int ((a' - 1 : Nat) : Int), .int (b : Int)]) := by
          rw [show ((a' - 1 : Nat) : Int) = (a' : Int) - 1 by omega]; rfl
        refine cast (congrArg _ e4.symm) ?_
        have t4 := SB.set (ps := [R]) hR3 (by simp) (.lst [.int ((a' - 1 : Nat) : Int), .int (b : Int)])
        have s4 := s3.trans (t4.mono (qs := [p, R]) (by simp))
        have hp4 := hp3.keep t4 (by simpa using fun z : p = R => Rp z.symm)
        have hl4 := t4.keep _ _ hl3 (by simpa using lR)
        have hF4 := t4.keep _ _ hF3 (by simpa using FR)
        have hR4 : upd H3 R (.lst [.int ((a' - 1 : Nat) : Int), .int (b : Int)]) R = some (.lst [.int ((a' - 1 : Nat) : Int), .int (b : Int)]) := upd_same
        have hbs4 := hbs3.sb t4 Gr.noList_pEnc
        generalize upd H3 R (.lst [.int ((a' - 1 : Nat) : Int), .int (b : Int)]) = H4 at t4 s4 hp4 hl4 hF4 hR4 hbs4
        refine ⟨_, rfl, _, rfl, _, rfl, l, _, rfl, .inl (SqL.of hl4), p, _, rfl, hp4, by rw [List.length_map]; omega, by rw [List.length_map]; omega, fun r5 H5 r50 r5m s5 hp5 => ?_⟩
        obtain ⟨kk, rfl⟩ : ∃ u : Nat, r5 = (u : Int) := ⟨r5.toNat, by omega⟩
        rw [List.length_map] at r5m
        have hk1 : kk < ks.length := by omega
        have hl5 := s5.keep _ _ hl4 (by simpa using lp)
        have hF5 := s5.keep _ _ hF4 (nF Fp)
        have hR5 := s5.keep _ _ hR4 (by simpa using Rp)
        have hbs5 := hbs4.sb s5 Gr.noList_pEnc
        have s05 := s4.trans (s5.mono (qs := [p, R]) (by simp))
        refine ⟨l, _, _, _, rfl, rfl, SqL.of hl5, atI_nat (j := kk) (v := .str ks[kk]) (by rw [List.getElem?_map, List.getElem?_eq_getElem hk1]; rfl), ?_⟩
        have nmk : ks[kk] ∈ ks := List.getElem_mem hk1
        have nmo := kn _ nmk
        generalize ks[kk] = nm at nmk nmo
        refine ⟨by show 0 ≤ sizeLine; decide, fun e1 he1 => ?_⟩
        have t6 := SB.new (ps := []) he1 (.tup [])
        have hp6 := hp5.sb t6
        have hl6 := t6.keep _ _ hl5 List.not_mem_nil
        have hF6 := t6.keep _ _ hF5 List.not_mem_nil
        have hR6 := t6.keep _ _ hR5 List.not_mem_nil
        have hbs6 := hbs5.sb t6 Gr.noList_pEnc
        have s06 := s05.trans (t6.nil (ps := [p, R]))
        have he6 : GA K (upd H5 e1 (.tup [])) (.ref e1) .nil := GA_nil (SqT.of upd_same)
        generalize upd H5 e1 (.tup []) = H6 at t6 hp6 hl6 hF6 hR6 hbs6 s06 he6
        refine nameI ?_
        refine seq_via (fun σ' H7 => ∃ (iv : V) (g : Gr) (a2 : Nat), σ' = [some (.ref p), some (.ref l), some (.ref R), some (.int (low : Int)), some (.int m), some (.ref F), some (.int (0 + (i : Int))), some (.str nm), some iv, o9, o10, none, none, none] ∧ SB [p, R] H H7 ∧ PuW H7 p ∧ H7 F = some (.lst ys) ∧ H7 R = some (.lst [.int (a2 : Int), .int (b : Int)]) ∧ Bears K H7 Gr.pEnc ys bs ∧ GA K H7 iv g ∧ g.Ok (m + 1) ∧ g.parts + a2 ≤ a' - 1 ∧ g.deep < low ∧ ∀ y ∈ g.within, y.1.1 ∈ ks) (fun nx hnx => ?_) (fun σ' H7 h7 => ?_)
        · have skip : ∀ H7, SB [p] H6 H7 → PuW H7 p → nx [some (.ref p), some (.ref l), some (.ref R), some (.int (low : Int)), some (.int m), some (.ref F), some (.int (0 + (i : Int))), some (.str nm), some (.ref e1), o9, o10, none, none, none] H7 := fun H7 s7 hp7 =>
            hnx _ _ ⟨.ref e1, .nil, a' - 1, rfl, s06.trans (s7.mono (by simp)), hp7, s7.keep _ _ hF6 (nF Fp), s7.keep _ _ hR6 (by simpa using Rp), hbs6.sb s7 Gr.noList_pEnc, he6.sb s7, trivial, by show 0 + (a' - 1) ≤ _; omega, by show 0 < low; omega, fun y hy => by cases hy⟩
          refine ⟨_, rfl, _, _, rfl, rfl, _, rfl, ?_⟩
          by_cases h1 : 1 < low
          · rw [show decide ((1 : Int) < (low : Int)) = true from decide_eq_true (by omega)]
            refine iteT ?_
            refine take_w (i := 0) rfl hp6 (by decide) (by decide) fun r7 H7 r70 r73 s7 hp7 => ?_
            refine ⟨_, _, rfl, rfl, _, rfl, ?_⟩
            refine ite2 (fun _ => ?_) (fun _ => skip H7 s7 hp7)
            have hl7 := s7.keep _ _ hl6 (by simpa using lp)
            have hR7 := s7.keep _ _ hR6 (by simpa using Rp)
            refine ⟨_, rfl, _, rfl, _, rfl, _, rfl, _, _, rfl, rfl, _, rfl, p, l, R, ks, a' - 1, b, low - 1, m, by rw [show ((low - 1 : Nat) : Int) = (low : Int) - 1 by omega]; rfl, hp7, hl7, hR7, lp, lR, Rp, ⟨by omega, b1, b9⟩, ⟨by omega, by omega, by omega⟩, ⟨m9, m30⟩, ⟨k8, kn⟩, fun v g a2 H8 s8 hp8 hR8 hg gok gp gd gw => ?_⟩
            have nFF : F ∉ [p, R] := by simp [Fp, FR]
            exact hnx _ _ ⟨v, g, a2, rfl, (s06.trans (s7.mono (by simp))).trans s8, hp8, s8.keep _ _ (s7.keep _ _ hF6 (nF Fp)) nFF, hR8, (hbs6.sb s7 Gr.noList_pEnc).sb s8 Gr.noList_pEnc, hg, gok, by omega, by omega, gw⟩
          · rw [show decide ((1 : Int) < (low : Int)) = false from decide_eq_false (by omega)]
            exact iteF (skip H6 SB.refl hp6)
        obtain ⟨iv, g, a2, rfl, s07, hp7, hF7, hR7, hbs7, hg7, gok, gp, gd, gw⟩ := h7
        refine ⟨_, rfl, _, rfl, by show 2 ≤ sizeLine; decide, fun T hT => ?_⟩
        have t8 := SB.new (ps := []) hT (.tup [.str nm, iv])
        have dT : Dp K (upd H7 T (.tup [.str nm, iv])) (.ref T) (Gr.tEnc (nm, g)) := .tup (.inl (.inl upd_same)) (.cons (.str _) (.cons (hg7.sb t8) .nil))
        have hp8 := hp7.sb t8
        have hF8 := t8.keep _ _ hF7 List.not_mem_nil
        have hR8 := t8.keep _ _ hR7 List.not_mem_nil
        have hbs8 := hbs7.sb t8 Gr.noList_pEnc
        have s08 := s07.trans (t8.nil (ps := [p, R]))
        generalize upd H7 T (.tup [.str nm, iv]) = H8 at t8 dT hp8 hF8 hR8 hbs8 s08
        have shT : SeqAt.shaped (Gr.tEnc (nm, g)) = true := Gr.shaped_tEnc nmo gok (by show g.deep ≤ 20; omega)
        refine ⟨_, rfl, _, rfl, p, m, rfl, hp8, m9, m200, fun r9 H9 r91 r9m s9 hp9 => ?_⟩
        have hF9 := s9.keep _ _ hF8 (nF Fp)
        have hR9 := s9.keep _ _ hR8 (by simpa using Rp)
        have hbs9 := hbs8.sb s9 Gr.noList_pEnc
        have dT9 := Dp_sb s9 _ _ (Gr.noList_tEnc _) dT
        have s09 := s08.trans (s9.mono (qs := [p, R]) (by simp))
        refine ⟨_, rfl, F, rfl, ⟨_, SqL.of hF9⟩, fun D hD => ?_⟩
        refine lc_seq (walk_list (xs := ys)) hD (by omega) (fun _ us _ => ∃ ns : List Int, us = ns.map V.int ∧ ∀ x ∈ ns, 0 ≤ x) ⟨[], rfl, by simp⟩ (fun H6 s6 => s6.sqL List.not_mem_nil (SqL.of hF9)) (fun _ _ _ _ _ h => h) (fun Pv j x Hz H10 us hj s10 y hR' hl6 fin fin2 => ?_) (fun us H10 s10 hD10 hR' _ => ?_)
        · obtain ⟨rfl, ex⟩ := y
          obtain ⟨pr, ep, hpd⟩ := hbs9.get ex
          obtain ⟨p1, p2, p3, p4, p5, _⟩ := ok pr (List.mem_of_getElem? ep)
          obtain ⟨ad, td, ux, rfl, hs2, hs3, hga, hdt⟩ := PA_parts hpd
          obtain ⟨ns, rfl, nn⟩ := hR'
          refine ⟨ad, _, rfl, s10.sqT hs2, rfl, _, _, rfl, _, _, rfl, rfl, rfl, ?_⟩
          refine ⟨_, rfl, _, rfl, _, _, Dp_sb s10 _ _ (Gr.noList_tEnc _) hdt, Dp_sb s10 _ _ (Gr.noList_tEnc _) dT9, Gr.shaped_tEnc p1 p2 (by omega), shT, _, rfl, ?_⟩
          refine ite2 (fun _ => ?_) (fun _ => fin2 _ SB.refl ⟨ns, rfl, nn⟩)
          refine ⟨_, rfl, fin _ _ SB.refl ⟨ns ++ [pr.2], by rw [List.map_append]; rfl, fun x hx => ?_⟩⟩
          rcases List.mem_append.mp hx with hx | hx
          · exact nn x hx
          · rw [List.mem_singleton.mp hx]; omega
        obtain ⟨ns, rfl, nn⟩ := hR'
        have hsum : 0 ≤ ns.sum := sum_from0 nn
        refine ⟨D, ns, rfl, SqL.of hD10, _, _, rfl, rfl, ?_⟩
        generalize ns.sum = sm at hsum
        clear hD10 nn
        have hF10 := s10.keep _ _ hF9 List.not_mem_nil
        have hbs10 := hbs9.sb s10 Gr.noList_pEnc
        have dT10 := Dp_sb s10 _ _ (Gr.noList_tEnc _) dT9
        refine ⟨_, rfl, F, rfl, ⟨_, SqL.of hF10⟩, fun D2 hD2 => ?_⟩
        refine lc_seq (walk_list (xs := ys)) hD2 (by omega) (fun j us H7 => Bears K H7 Gr.pEnc us ((bs.take j).filter fun x => decide (x.1 ≠ (nm, g)))) .nil (fun H7 s7 => s7.sqL List.not_mem_nil (SqL.of hF10)) (fun _ _ _ _ e h => h.sb e Gr.noList_pEnc) (fun Pv j x Hz H11 us hj s11 y hR' hl7 fin fin2 => ?_) (fun us H11 s11 hD11 hR' hl7 => ?_)
        · obtain ⟨rfl, ex⟩ := y
          obtain ⟨pr, ep, hpd⟩ := hbs10.get ex
          obtain ⟨p1, p2, p3, p4, p5, _⟩ := ok pr (List.mem_of_getElem? ep)
          obtain ⟨ad, td, ux, rfl, hs2, hs3, hga, hdt⟩ := PA_parts hpd
          refine ⟨rfl, _, rfl, ad, _, _, _, rfl, rfl, s11.sqT hs2, atI_nat (j := 0) rfl, _, rfl, _, _, Dp_sb s11 _ _ (Gr.noList_tEnc _) hdt, Dp_sb s11 _ _ (Gr.noList_tEnc _) dT10, Gr.shaped_tEnc p1 p2 (by omega), shT, _, rfl, ?_⟩
          rw [Orderly.eq (enc := Gr.tEnc) pr.1 (nm, g)]
          by_cases e : pr.1 = (nm, g)
          · rw [decide_eq_true e]
            refine iteF (fin2 _ SB.refl ?_)
            rw [List.take_add_one, ep, Option.toList_some, List.filter_append, List.filter_cons_of_neg (by simpa using e), List.filter_nil, List.append_nil]
            exact hR'
          · rw [decide_eq_false e]
            refine iteT ⟨_, rfl, fin _ _ SB.refl ?_⟩
            rw [List.take_add_one, ep, Option.toList_some, List.filter_append, List.filter_cons_of_pos (by simpa using e), List.filter_nil]
            exact Bears.append hR' (.cons (Dp_sb s11 _ _ (Gr.noList_pEnc _) hpd) .nil)
        rw [yl, List.take_length] at hR'
        refine ⟨_, rfl, _, rfl, _, rfl, _, _, rfl, ?_⟩
        obtain ⟨mn, hmn, mn1, mn2⟩ : ∃ mn : Int, (if r9 + sm < m then r9 + sm else m) = mn ∧ 1 ≤ mn ∧ mn < m + 1 := by
          split
          · exact ⟨_, rfl, by omega, by omega⟩
          · exact ⟨_, rfl, by omega, by omega⟩
        simp only [hmn]
        refine ⟨by show 2 ≤ sizeLine; decide, fun P1 hP1 => ?_⟩
        have t12 := SB.new (ps := []) hP1 (.tup [.ref T, .int mn])
        have dP : Dp K (upd H11 P1 (.tup [.ref T, .int mn])) (.ref P1) (Gr.pEnc ((nm, g), mn)) := .tup (.inl (.inl upd_same)) (.cons (Dp_sb (s11.trans t12) _ _ (Gr.noList_tEnc _) dT10) (.cons (.int _) .nil))
        generalize upd H11 P1 (.tup [.ref T, .int mn]) = H12 at t12 dP
        refine ⟨by show 1 ≤ sizeLine; decide, fun L1 hL1 => ?_⟩
        have t13 := SB.new (ps := []) hL1 (.lst [.ref P1])
        have ul := hR'.length
        have fl : (bs.filter fun x => decide (x.1 ≠ (nm, g))).length ≤ bs.length := List.length_filter_le ..
        refine ⟨D2, L1, us, _, rfl, rfl, t13.keep _ _ (t12.keep _ _ hD11 List.not_mem_nil) List.not_mem_nil, upd_same, by show us.length + 1 ≤ sizeLine; omega, fun F2 hF2' => ?_⟩
        have t14 := SB.new (ps := []) hF2' (.lst (us ++ [.ref P1]))
        have s1114 := (t12.trans t13).trans t14
        have s914 := (s10.trans s11).trans s1114
        have hp13 := hp9.sb ((s10.trans s11).trans (t12.trans t13))
        have hR13 := ((s10.trans s11).trans (t12.trans t13)).keep _ _ hR9 List.not_mem_nil
        refine ⟨s09.trans s914.nil, hp9.sb s914, F2, _, _, a2, _, _, _, _, _, rfl, fun z => hp13.ne hF2' z.symm, fun z => ne_of_none hR13 hF2' z.symm, upd_same, s914.keep _ _ hR9 List.not_mem_nil, Bears.append (hR'.sb s1114 Gr.noList_pEnc) (.cons (Dp_sb (t13.trans t14) _ _ (Gr.noList_pEnc _) dP) .nil), ?_, ?_, ?_, ?_⟩
        · rw [List.map_append, List.nodup_append]
          refine ⟨(List.Sublist.map _ List.filter_sublist).nodup nd, by simp, fun x hx y hy e => ?_⟩
          obtain ⟨pr, hpr, rfl⟩ := List.mem_map.mp hx
          have h1 := (List.mem_filter.mp hpr).2
          have h2 : y = (nm, g) := by simpa using hy
          rw [h2] at e
          exact of_decide_eq_true h1 e
        · intro x hx
          rcases List.mem_append.mp hx with hx | hx
          · exact ok x (List.mem_filter.mp hx).1
          · rw [List.mem_singleton.mp hx]
            exact ⟨nmo, gok, mn1, mn2, gd, nmk, gw⟩
        · rw [Gr.tot_append]
          have := tot_filter (fun x => decide (x.1 ≠ (nm, g))) bs
          have e1 : Gr.tot [((nm, g), mn)] = 1 + g.parts := by simp [Gr.tot]
          omega
        · rw [List.length_append, List.length_singleton]; omega
    · rw [show decide ((0 : Int) < (a' : Int)) = false from decide_eq_false (by omega)]
      exact iteF ⟨s2, hp2, F, ys, bs, a', _, _, _, _, _, rfl, Fp, FR, hF2, hR2, hbs, nd, ok, ht, by omega⟩
  · obtain ⟨s2, hp2, F, ys, bs, a', o6, o7, o8, o9, o10, rfl, Fp, FR, hF2, hR2, hbs, nd, ok, ht, hbl⟩ := h2
    have yl := hbs.length
    refine ⟨_, rfl, F, ys, bs, rfl, .inl (SqL.of hF2), hbs, Gr.pEnc_all _, Gr.pEnc_sortable _, by omega, fun x hx => ?_, fun D zs hD hz => ?_⟩
    · have := Gr.pEnc_depth x
      have := (ok x hx).2.2.2.2.1
      omega
    have t3 := SB.new (ps := []) hD (.lst zs)
    refine ⟨D, zs, rfl, .inl ⟨SqL.of upd_same, fun T hT => ?_⟩⟩
    have t4 := SB.new (ps := []) hT (.tup zs)
    have hz4 : Bears K _ Gr.pEnc zs (srtE Gr.pEnc bs) := (hz.sb t3 Gr.noList_pEnc).sb t4 Gr.noList_pEnc
    have g4 := Bears_ga (.inl (.inl upd_same)) hz4
    have s24 := t3.trans t4
    refine q _ _ a' _ (s2.trans s24.nil) (hp2.sb s24) (s24.keep _ _ hR2 List.not_mem_nil) g4 (srt_ok nd fun x hx => ?_) ?_ ?_ ?_
    · obtain ⟨a1, a2, a3, a4, _⟩ := ok x hx
      exact ⟨a1, a2, a3, a4⟩
    · rw [Gr.parts_ofPs, Gr.tot_perm (srtE_perm bs)]
      exact ht
    · refine Gr.deep_le fun x hx => ?_
      rw [Gr.ps_ofPs] at hx
      have := (ok x ((srtE_perm bs).mem_iff.mp hx)).2.2.2.2.1
      omega
    · intro x hx
      rw [Gr.within_ps, Gr.ps_ofPs] at hx
      obtain ⟨x', hx', hx⟩ := List.mem_flatMap.mp hx
      obtain ⟨_, _, _, _, _, k1, k2⟩ := ok x' ((srtE_perm bs).mem_iff.mp hx')
      rcases List.mem_cons.mp hx with hx | hx
      · rw [hx]; exact k1
      · exact k2 x hx
end
end FT
namespace FT
open PySem PySem.W PySem.Spec PyProof.Rows L2
section
variable {P : Program} {w : World} {K : PySem.W.Frag} {mg : Str → Option Value} {base : Heap} {f : Addr} {fd : FuncData}
abbrev N__law_kinds : List Str := ["_law_script", "_law_names_here", "_law_purse_here", "_law_ranked", "_law_kinds_here", "_law_k", "_law_name", "_law_own", "_law_pool", "_law_rules", "_law_wild", "_law_turn", "_law_share", "_law_once"]
theorem sc__law_kinds : FnScope N__law_kinds ["_law_script", "_law_names_here"] (defScope s__law_kinds) := ⟨rfl, rfl, rfl, by decide +kernel, rfl, by decide +kernel, by decide +kernel⟩
theorem ok__law_kinds (B : BI mg) (G__law_purse : Got P w K mg base "_law_purse" ["_law_script", "_law_k"] (1) (spPurseW K)) (G__law_take : Got P w K mg base "_law_take" ["_law_purse_here", "_law_many_here"] (1) (spTakeW)) (G__law_wood : Got P w K mg base "_law_wood" ["_law_purse_here", "_law_pool", "_law_room", "_law_low", "_law_most"] (15) (spWood K 13)) (F : Fun K "_law_kinds" "_law_kinds" s__law_kinds f fd) : FnOk P w K mg base CX0 (16) f fd ["_law_script", "_law_names_here"] (spKindsP K) := by
  refine F.ok sc__law_kinds (fun vs H Q E h => ?_) (fun cdv A outer s H vs Q E hr h => ?_)
  · obtain ⟨a, l, ns, ks, rfl, _⟩ := h
    rfl
  obtain ⟨a, l, ns, ks, rfl, hs, nl, hl, k1, k8, knd, kn, q⟩ := h
  have hun2 : A.units + 3 + 200 < cLine := by have := hr.un; have h3 : (A.deeper (envOfC "_law_kinds" (defScope s__law_kinds) s.heap.objs.size f cdv)).units = A.units + 3 := rfl; omega
  refine ⟨_, pss_cons (ps_set (i := 2) sc__law_kinds.nd rfl (.inr rfl) (pe_got G__law_purse (hr.mono (by omega)) rfl (pa_cons (pv 0) (pa_cons pe_int pa_nil))))
    (pss_cons (ps_set (i := 3) sc__law_kinds.nd rfl (.inl rfl) (pe_cmpR op_gt (pe_got G__law_take (hr.mono (by omega)) rfl (pa_cons (pv 2) (pa_cons pe_int pa_nil))) pe_int (nomark _)))
    (pss_cons (ps_set (i := 4) sc__law_kinds.nd rfl (.inr rfl) (pe_lst pa_nil))
    (pss_cons (ps_for PassesOwn.never rfl (pi_enum rfl B.enumerate (pa_cons (pv 1) pa_nil)) (pg_tup rfl (pgs_cons (pg_name (i := 5) sc__law_kinds.nd rfl (.inl rfl)) (pgs_cons (pg_name (i := 6) sc__law_kinds.nd rfl (.inl rfl)) pgs_nil)))
      (pss_cons (ps_set (i := 7) sc__law_kinds.nd rfl (.inl rfl) (pe_got G__law_purse (hr.mono (by omega)) rfl (pa_cons (pv 0) (pa_cons (pe_op op_add pe_int (pv 5)) pa_nil))))
    (pss_cons (ps_set (i := 8) sc__law_kinds.nd rfl (.inl rfl) (pe_callTy call_list_of rfl B.list boot_list (pa_cons (pv 1) pa_nil)))
    (pss_cons (ps_if (pt_val (pv 3)) (pss_one (ps_set (i := 8) sc__law_kinds.nd rfl (.inl rfl) (pe_slice sl_list (pv 1) (po_some (pe_op op_add (pv 5) pe_int)) po_none))) pss_nil)
    (pss_cons (ps_set (i := 9) sc__law_kinds.nd rfl (.inl rfl) (pe_lst pa_nil))
    (pss_cons (ps_set (i := 10) sc__law_kinds.nd rfl (.inl rfl) (pe_cmpR op_eq (pe_got G__law_take (hr.mono (by omega)) rfl (pa_cons (pv 7) (pa_cons pe_int pa_nil))) pe_int (nomark _)))
    (pss_cons (ps_for PassesOwn.never rfl (pi_range1 rfl B.range (pa_cons (pe_got G__law_take (hr.mono (by omega)) rfl (pa_cons (pv 7) (pa_cons pe_int pa_nil))) pa_nil)) (pg_name (i := 11) sc__law_kinds.nd rfl (.inl rfl))
      (pss_cons (ps_set (i := 12) sc__law_kinds.nd rfl (.inl rfl) (pe_got G__law_take (hr.mono (by omega)) rfl (pa_cons (pv 7) (pa_cons pe_int pa_nil))))
    (pss_cons (ps_set (i := 13) sc__law_kinds.nd rfl (.inl rfl) (pe_got G__law_wood (hr.mono (by omega)) rfl (pa_cons (pv 7) (pa_cons (pv 8) (pa_cons (pe_lst (pa_cons (pv 12) (pa_cons pe_int pa_nil))) (pa_cons pe_int (pa_cons (pe_op op_pow pe_int pe_int) pa_nil)))))))
    (pss_one (ps_expr (pe_bm PySem.F.plainAttrs_list PySem.F.slot_list_append PySem.F.type_list_append mt_append (pv 9) (pa_cons (pe_tup (pa_cons (pv 13) (pa_cons (pe_got G__law_wood (hr.mono (by omega)) rfl (pa_cons (pv 7) (pa_cons (pv 8) (pa_cons (pe_lst (pa_cons (pe_op op_sub pe_int (pv 12)) (pa_cons pe_int pa_nil))) (pa_cons pe_int (pa_cons (pe_op op_pow pe_int pe_int) pa_nil)))))) pa_nil))) pa_nil)))))))
    (pss_one (ps_expr (pe_bm PySem.F.plainAttrs_list PySem.F.slot_list_append PySem.F.type_list_append mt_append (pv 4) (pa_cons (pe_tup (pa_cons (pv 6) (pa_cons (pv 10) (pa_cons (pv 9) pa_nil)))) pa_nil)))))))))))
    (pss_one (ps_ret (pe_lc (own := [("_law_k", 5)]) (g := (gName 5)) (tt := tYes) (te := (tBM K "list" rPopAt (tVar 4) (tCons (tCall (spTakeW) [] E0 (tCons (tVar 2) (tCons (tCB (fun xs H Q => ∃ p ys, xs = [.ref p] ∧ (SqL K H p ys ∨ SqT K H p ys) ∧ Q (.int ys.length) H) (tCons (tVar 4) tNil)) tNil))) tNil))) rfl sc__law_kinds.nd (pi_range1 rfl B.range (pa_cons (pe_callB call_len_seq rfl B.len PySem.boot_len (pa_cons (pv 1) pa_nil)) pa_nil)) (blkOk_by (N := N__law_kinds) (sc := defScope s__law_kinds) (by decide +kernel)) (fun _ _ _ _ _ => (pg_name (i := 5) sc__law_kinds.nd rfl (.inl rfl))) (fun _ _ _ _ _ => pts_nil) (fun _ _ _ _ _ => (pe_bm PySem.F.plainAttrs_list PySem.F.slot_list_pop PySem.F.type_list_pop mt_popAt (pv 4) (pa_cons (pe_got G__law_take (hr.mono (by omega)) rfl (pa_cons (pv 2) (pa_cons (pe_callB call_len_seq rfl B.len PySem.boot_len (pa_cons (pv 4) pa_nil)) pa_nil))) pa_nil))))))))), ?_⟩
  have szl := sizeLine_eq
  refine ⟨_, rfl, a, ns, 1, rfl, hs, nl, by omega, fun p0 H1 s1 np1 hp1 => ?_⟩
  refine take_w (i := 2) rfl hp1 (by decide) (by decide) fun r2 H2 r20 r23 s2 hp2 => ?_
  refine ⟨_, _, rfl, rfl, ?_⟩
  have s02 : SB [] H H2 := ((s1.nil (ps := [p0])).trans s2).drop np1
  have hl2 := s02.keep _ _ hl List.not_mem_nil
  refine ⟨(by show 0 ≤ sizeLine; decide), fun KL hKL => ?_⟩
  have t3 := SB.new (ps := []) hKL (.lst [])
  have s03 := s02.trans t3
  have nKL : H KL = none := s02.dom _ hKL
  have lK : l ≠ KL := ne_of_none hl2 hKL
  have pK : p0 ≠ KL := hp2.ne hKL
  have hp3 := hp2.sb t3
  have hl3 := t3.keep _ _ hl2 List.not_mem_nil
  have hK3 : upd H2 KL (.lst []) KL = some (.lst []) := upd_same
  generalize upd H2 KL (.lst []) = H3 at t3 s03 hp3 hl3 hK3
  refine ⟨_, rfl, l, _, rfl, SqL.of hl3, ?_⟩
  refine for_it (walk_enum (K := K) (a := l) (xs := ks.map V.str)) (fun i σ H2 => SB [KL] H3 H2 ∧ ∃ (xs : List V) (b : Bk) (o5 o6 o7 o8 o9 o10 o11 o12 o13 : Option V), σ = [some (.ref a), some (.ref l), some (.ref p0), some (.bl (decide ((0 : Int) < r2))), some (.ref KL), o5, o6, o7, o8, o9, o10, o11, o12, o13] ∧ H2 KL = some (.lst xs) ∧ KdAll K H2 [KL, p0] xs b ∧ b.names = ks.take i ∧ ∀ k ∈ b, KdOk ks k)
    ⟨SB.refl, [], [], _, _, _, _, _, _, _, _, _, rfl, hK3, .nil, rfl, by simp⟩ (fun i σ H2 hi h2 => SqL.of (h2.1.keep _ _ hl3 (by simpa using lK))) (fun i x σ H10 H' hi h2 y => ?_) (fun σ H10 h2 => ?_)
  · obtain ⟨s10, xs, b, o5, o6, o7, o8, o9, o10, o11, o12, o13, rfl, hK10, hb10, bn, bo⟩ := h2
    obtain ⟨T0, x1, y1, rfl, hT0, rfl, ex, ey⟩ := y
    have ex : some (V.int (i : Nat)) = some x1 := ex
    cases ex
    have ey : (ks.map V.str)[i]? = some y1 := ey
    rw [List.length_map] at hi
    rw [List.getElem?_map, List.getElem?_eq_getElem hi] at ey
    cases ey
    have enm : ks[i]? = some ks[i] := List.getElem?_eq_getElem hi
    generalize ks[i] = nm at enm
    have nmk : nm ∈ ks := List.mem_of_getElem? enm
    have t11 := SB.new (ps := []) hT0 (.tup [.int (i : Nat), .str nm])
    have hT11 : upd H10 T0 (.tup [.int (i : Nat), .str nm]) T0 = some (.tup [.int (i : Nat), .str nm]) := upd_same
    have s911 := s10.trans (t11.nil (ps := [KL]))
    have hK11 := t11.keep _ _ hK10 List.not_mem_nil
    have hb11 := hb10.sb t11 NoLst.nil
    have s011 : SB [] H (upd H10 T0 (.tup [.int (i : Nat), .str nm])) := ((s03.nil (ps := [KL])).trans s911).drop nKL
    generalize upd H10 T0 (.tup [.int (i : Nat), .str nm]) = H11 at t11 hT11 s911 hK11 hb11 s011
    refine ⟨T0, _, rfl, SqT.of hT11, rfl, _, _, rfl, _, _, rfl, rfl, ?_⟩
    refine ⟨_, rfl, _, rfl, _, _, rfl, rfl, a, ns, 2 + i, (by show [V.ref a, V.int (2 + (i : Int))] = [V.ref a, V.int ((2 + i : Nat) : Int)]; rw [Int.natCast_add]; rfl), s011.sqL List.not_mem_nil hs, nl, by omega, fun pp H12 s12 npp hp12 => ?_⟩
    have s912 := s911.trans (s12.nil (ps := [KL]))
    have hl12 := s912.keep _ _ hl3 (by simpa using lK)
    refine ⟨_, rfl, l, _, rfl, .inl (SqL.of hl12), fun P0 hP0 => ?_⟩
    have t13 := SB.new (ps := []) hP0 (.lst (ks.map V.str))
    have hP13 : upd H12 P0 (.lst (ks.map V.str)) P0 = some (.lst (ks.map V.str)) := upd_same
    have hp13 := hp12.sb t13
    have s913 := s912.trans (t13.nil (ps := [KL]))
    have hK13 := t13.keep _ _ (s12.keep _ _ hK11 List.not_mem_nil) List.not_mem_nil
    have hl13 := t13.keep _ _ hl12 List.not_mem_nil
    have hpP : pp ≠ P0 := hp12.ne hP0
    have npK : pp ≠ KL := fun z => by rw [z] at npp; rw [npp] at hK11; cases hK11
    have KP : KL ≠ P0 := ne_of_none (s12.keep _ _ hK11 List.not_mem_nil) hP0
    have s1113 := s12.trans t13
    generalize upd H12 P0 (.lst (ks.map V.str)) = H13 at t13 hP13 hp13 s913 hK13 hl13 s1113
    refine nameI (seq_via (fun σ' H' => ∃ (Pl : Addr) (ps : List Str), σ' = [some (.ref a), some (.ref l), some (.ref p0), some (.bl (decide ((0 : Int) < r2))), some (.ref KL), some (.int (i : Nat)), some (.str nm), some (.ref pp), some (.ref Pl), o9, o10, o11, o12, o13] ∧ SB [] H13 H' ∧ H' Pl = some (.lst (ps.map V.str)) ∧ Pl ≠ pp ∧ Pl ≠ KL ∧ ps.length ≤ 8 ∧ ∀ z ∈ ps, z ∈ ks) (fun nx hnx => ?_) (fun σ' H14 h => ?_))
    · refine ⟨_, rfl, _, rfl, ?_⟩
      refine ite2 (fun _ => ?_) (fun _ => ?_)
      · refine ⟨_, rfl, _, rfl, _, _, rfl, rfl, _, rfl, l, _, rfl, SqL.of hl13, fun P1 hP1 => ?_⟩
        have e1 : cutV (ks.map V.str) (some ((i : Int) + 1)) none = (ks.drop (i + 1)).map V.str := by
          rw [← cutDropS]; rfl
        rw [e1]
        have hp1 : pp ≠ P1 := hp13.ne hP1
        have hk1 : KL ≠ P1 := ne_of_none hK13 hP1
        exact hnx _ _ ⟨P1, ks.drop (i + 1), rfl, SB.new hP1 _, upd_same, fun z => hp1 z.symm, fun z => hk1 z.symm, by rw [List.length_drop]; omega, fun z hz => List.mem_of_mem_drop hz⟩
      · exact hnx _ _ ⟨P0, ks, rfl, SB.refl, hP13, fun z => hpP z.symm, fun z => KP z.symm, k8, fun z hz => hz⟩
    obtain ⟨Pl, ps, rfl, s14, hPl, Plp, PlK, pl8, psk⟩ := h
    have hp14 := hp13.sb s14
    refine ⟨(by show 0 ≤ sizeLine; decide), fun RL hRL => ?_⟩
    have t15 := SB.new (ps := []) hRL (.lst [])
    have hR15 : upd H14 RL (.lst []) RL = some (.lst []) := upd_same
    have hp15 := hp14.sb t15
    have hPl15 := t15.keep _ _ hPl List.not_mem_nil
    have hK15 := t15.keep _ _ (s14.keep _ _ hK13 List.not_mem_nil) List.not_mem_nil
    have Rpp : RL ≠ pp := fun z => hp14.ne hRL z.symm
    have RK : RL ≠ KL := fun z => ne_of_none (s14.keep _ _ hK13 List.not_mem_nil) hRL z.symm
    have RP : Pl ≠ RL := ne_of_none hPl hRL
    have s1115 := (s1113.trans s14).trans t15
    have nRL : H11 RL = none := (s1113.trans s14).dom _ hRL
    generalize upd H14 RL (.lst []) = H15 at t15 hR15 hp15 hPl15 hK15 s1115
    refine take_w (i := 7) rfl hp15 (by decide) (by decide) fun r16 H16 r160 r162 s16 hp16 => ?_
    refine ⟨rfl, ?_⟩
    generalize decide (V.int r16 = V.int 1) = wd
    refine take_w (i := 7) rfl hp16 (by decide) (by decide) fun r17 H17 r170 r175 s17 hp17 => ?_
    obtain ⟨c, rfl⟩ : ∃ c : Nat, r17 = (c : Int) := ⟨r17.toNat, by omega⟩
    refine ⟨_, rfl, by omega, by omega, ?_⟩
    rw [Int.toNat_natCast]
    have s1517 := s16.trans s17
    have hR17 := s1517.keep _ _ hR15 (by simpa using Rpp)
    have hPl17 := s1517.keep _ _ hPl15 (by simpa using Plp)
    refine for_it walk_range (fun j σ H2 => SB [pp, RL] H17 H2 ∧ PuW H2 pp ∧ ∃ (us : List V) (rs : List Ru) (o11 o12 o13 : Option V), σ = [some (.ref a), some (.ref l), some (.ref p0), some (.bl (decide ((0 : Int) < r2))), some (.ref KL), some (.int (i : Nat)), some (.str nm), some (.ref pp), some (.ref Pl), some (.ref RL), some (.bl wd), o11, o12, o13] ∧ H2 RL = some (.lst us) ∧ Bears K H2 Ru.enc us rs ∧ rs.length = j ∧ ∀ r ∈ rs, RuOk r ∧ ∀ q ∈ Ru.within r, q.1.1 ∈ ks)
      ⟨SB.refl, hp17, [], [], _, _, _, rfl, hR17, .nil, rfl, by simp⟩ (fun _ _ _ _ _ => trivial) (fun j x σ Hq H18 hj h2 y => ?_) (fun σ H18 h2 => ?_)
    · obtain ⟨s18, hp18, us, rs, o11, o12, o13, rfl, hR18, hbr, rl, ro⟩ := h2
      obtain ⟨rfl, rfl⟩ := y
      have ul := hbr.length
      refine take_w (i := 7) rfl hp18 (by decide) (by decide) fun r19 H19 r190 r195 s19 hp19 => ?_
      obtain ⟨u, rfl⟩ : ∃ u : Nat, r19 = (u : Int) := ⟨r19.toNat, by omega⟩
      have hPl19 := s19.keep _ _ (s18.keep _ _ hPl17 (by simp [Plp, RP])) (by simpa using Plp)
      have hR19 := s19.keep _ _ hR18 (by simpa using Rpp)
      refine ⟨_, rfl, _, rfl, _, rfl, by show 2 ≤ sizeLine; decide, fun R1 hR1 => ?_⟩
      have t20 := SB.new (ps := []) hR1 (.lst [.int (u : Int), .int 4])
      have hp20 := hp19.sb t20
      have hPl20 := t20.keep _ _ hPl19 List.not_mem_nil
      have hR20 := t20.keep _ _ hR19 List.not_mem_nil
      have hR120 : upd H19 R1 (.lst [.int (u : Int), .int 4]) R1 = some (.lst [.int (u : Int), .int 4]) := upd_same
      have R1p : R1 ≠ pp := fun z => hp19.ne hR1 z.symm
      have R1P : Pl ≠ R1 := ne_of_none hPl19 hR1
      have R1R : RL ≠ R1 := ne_of_none hR19 hR1
      generalize upd H19 R1 (.lst [.int (u : Int), .int 4]) = H20 at t20 hp20 hPl20 hR20 hR120
      refine ⟨_, _, rfl, rfl, ⟨by decide, by decide, by decide⟩, pp, Pl, R1, ps, u, 4, 4, _, rfl, hp20, hPl20, hR120, Plp, R1P, R1p, by omega, by omega, ⟨by decide, by decide⟩, ⟨pl8, fun z hz => kn z (psk z hz)⟩, fun v1 g1 a1 H21 s21 hp21 _ hg1 ok1 pa1 d1 w1 => ?_⟩
      have s1921 : SB [pp] H19 H21 := (((t20.nil (ps := [pp, R1])).trans s21).mono (qs := [R1, pp]) (by simp)).drop hR1
      have hR21 := s1921.keep _ _ hR19 (by simpa using Rpp)
      have hPl21 := s1921.keep _ _ hPl19 (by simpa using Plp)
      refine ⟨_, rfl, .inl ⟨rfl, _, SqL.of hR21⟩, _, rfl, _, rfl, _, rfl, _, rfl, _, _, rfl, rfl, by show 2 ≤ sizeLine; decide, fun R2 hR2 => ?_⟩
      have e4 : (4 : Int) - (u : Int) = ((4 - u : Nat) : Int) := by omega
      have t22 := SB.new (ps := []) hR2 (.lst [.int ((4 : Int) - (u : Int)), .int 4])
      have hp22 := hp21.sb t22
      have hPl22 := t22.keep _ _ hPl21 List.not_mem_nil
      have hR222 : upd H21 R2 (.lst [.int ((4 : Int) - (u : Int)), .int 4]) R2 = some (.lst [.int ((4 : Int) - (u : Int)), .int 4]) := upd_same
      have R2p : R2 ≠ pp := fun z => hp21.ne hR2 z.symm
      have R2P : Pl ≠ R2 := ne_of_none hPl21 hR2
      generalize upd H21 R2 (.lst [.int ((4 : Int) - (u : Int)), .int 4]) = H22 at t22 hp22 hPl22 hR222
      refine ⟨_, _, rfl, rfl, ⟨by decide, by decide, by decide⟩, pp, Pl, R2, ps, 4 - u, 4, 4, _, rfl, hp22, hPl22, (by rw [← e4]; exact hR222), Plp, R2P, R2p, by omega, by omega, ⟨by decide, by decide⟩, ⟨pl8, fun z hz => kn z (psk z hz)⟩, fun v2 g2 a2 H23 s23 hp23 _ hg2 ok2 pa2 d2 w2 => ?_⟩
      have s2123 : SB [pp] H21 H23 := (((t22.nil (ps := [pp, R2])).trans s23).mono (qs := [R2, pp]) (by simp)).drop hR2
      have hR23 := s2123.keep _ _ hR21 (by simpa using Rpp)
      refine ⟨by show 2 ≤ sizeLine; decide, fun T hT => ?_⟩
      have t24 := SB.new (ps := []) hT (.tup [v1, v2])
      have hR24 := t24.keep _ _ hR23 List.not_mem_nil
      have hT24 : SqT K (upd H23 T (.tup [v1, v2])) T [v1, v2] := SqT.of upd_same
      generalize upd H23 T (.tup [v1, v2]) = H24 at t24 hR24 hT24
      refine ⟨RL, _, _, rfl, rfl, hR24, by omega, ?_⟩
      have t25 := SB.set (ps := [RL]) hR24 (by simp) (.lst (us ++ [.ref T]))
      have s1824 : SB [pp] H18 H24 := (((s19.trans s1921).trans s2123).trans t24.nil)
      refine ⟨(s18.trans (s1824.mono (by simp))).trans (t25.mono (by simp)), (hp23.sb t24).keep t25 (by simpa using fun z : pp = RL => Rpp z.symm), us ++ [.ref T], rs ++ [(g1, g2)], _, _, _, rfl, upd_same, ?_, by simp [rl], fun r hr => ?_⟩
      · exact ((hbr.sb s1824 Ru.noList_enc).sb t25 Ru.noList_enc).append (.cons (.tup (t25.sqT hT24) (.cons (GA.sb (GA.sb (GA.sb hg1 s2123) t24) t25) (.cons (GA.sb (GA.sb hg2 t24) t25) .nil))) .nil)
      · rcases List.mem_append.mp hr with hr | hr
        · exact ro r hr
        · rw [List.mem_singleton.mp hr]
          refine ⟨⟨ok1, ok2, by show g1.parts + g2.parts ≤ 4; omega⟩, fun q hq => ?_⟩
          rcases List.mem_append.mp hq with hq | hq
          · exact psk _ (w1 q hq)
          · exact psk _ (w2 q hq)
    obtain ⟨s18, hp18, us, rs, o11, o12, o13, rfl, hR18, hbr, rl, ro⟩ := h2
    have Rp0 : RL ≠ p0 := fun z => (hp3.keep (s913.trans s14.nil) (by simpa using pK)).ne hRL z.symm
    have s1518 : SB [pp, RL] H15 H18 := (s1517.mono (by simp)).trans s18
    have s1118 : SB [] H11 H18 := (((s1115.nil (ps := [pp, RL])).trans s1518).drop npp).drop nRL
    have hK18 := s1118.keep _ _ hK11 List.not_mem_nil
    have xl := hb11.length
    have bl : b.length ≤ i := by
      have : (Bk.names b).length = (ks.take i).length := by rw [bn]
      rw [List.length_map, List.length_take] at this
      omega
    refine ⟨_, rfl, .inl ⟨rfl, _, SqL.of hK18⟩, _, rfl, _, rfl, _, rfl, by show 3 ≤ sizeLine; decide, fun T hT => ?_⟩
    have t19 := SB.new (ps := []) hT (.tup [.str nm, .bl wd, .ref RL])
    have hT19 : SqT K (upd H18 T (.tup [.str nm, .bl wd, .ref RL])) T [.str nm, .bl wd, .ref RL] := SqT.of upd_same
    have hK19 := t19.keep _ _ hK18 List.not_mem_nil
    have hR19 := t19.keep _ _ hR18 List.not_mem_nil
    have hbr19 := hbr.sb t19 Ru.noList_enc
    have s1119 := s1118.trans t19
    generalize upd H18 T (.tup [.str nm, .bl wd, .ref RL]) = H19 at t19 hT19 hK19 hR19 hbr19 s1119
    have nl20 : NoLst H19 [KL, p0] [KL] := fun p hp => .inl (by simp at hp; simp [hp])
    have t20 := SB.set (ps := [KL]) hK19 (by simp) (.lst (xs ++ [.ref T]))
    refine ⟨KL, _, _, rfl, rfl, hK19, by omega, ⟨(s911.trans (s1119.nil (ps := [KL]))).trans t20, xs ++ [.ref T], b ++ [⟨nm, wd, rs⟩], _, _, _, _, _, _, _, _, _, rfl, upd_same, ?_, ?_, ?_⟩⟩
    · exact ((hb11.sb s1119 NoLst.nil).sb t20 nl20).append (.cons ⟨T, RL, us, rfl, t20.sqT hT19, t20.keep _ _ hR19 (by simpa using RK), hbr19.sb t20 Ru.noList_enc, by simp [RK, Rp0]⟩ .nil)
    · rw [Bk.names, List.map_append, List.take_add_one, enm]
      show Bk.names b ++ [nm] = _
      rw [bn]; rfl
    · intro k hk
      rcases List.mem_append.mp hk with hk | hk
      · exact bo k hk
      · rw [List.mem_singleton.mp hk]
        exact ⟨kn nm nmk, by show rs.length ≤ 4; omega, ro⟩
  obtain ⟨s10, xs, b, o5, o6, o7, o8, o9, o10, o11, o12, o13, rfl, hK10, hb10, bn, bo⟩ := h2
  rw [List.length_map, List.take_length] at bn
  have bl : b.length = ks.length := by rw [← bn]; simp
  have hp10 := hp3.keep s10 (by simpa using pK)
  have hl10 := s10.keep _ _ hl3 (by simpa using lK)
  refine ⟨_, rfl, l, _, rfl, .inl (SqL.of hl10), _, rfl, by rw [List.length_map]; omega, by rw [List.length_map]; omega, fun D hD => ?_⟩
  rw [List.length_map, Int.toNat_natCast]
  have s010 := (s03.nil (ps := [KL])).trans s10
  have nD : H D = none := s010.dom _ hD
  have pD : p0 ≠ D := hp10.ne hD
  have KD : KL ≠ D := ne_of_none hK10 hD
  refine lc_seqP walk_range [p0, KL] hD (fun q hq z => ?_) (by omega) (fun j us H2 => PuW H2 p0 ∧ ∃ (zs : List V) (b1 b2 : Bk), H2 KL = some (.lst zs) ∧ KdAll K H2 [D, KL, p0] zs b2 ∧ KdAll K H2 [D, KL, p0] us b1 ∧ b1.length = j ∧ (b1 ++ b2).Perm b)
    ⟨hp10, xs, [], b, hK10, hb10.bad1 hD, .nil, rfl, List.Perm.refl _⟩ (fun _ _ => trivial) (fun j us H2 H3 e ⟨h1, zs, b1, b2, h2, h3, h4, h5⟩ => ⟨h1.keep e (by simpa using pD), zs, b1, b2, e.keep _ _ h2 (by simpa using KD), h3.sb e (fun p hp => .inl (by simp at hp; simp [hp])), h4.sb e (fun p hp => .inl (by simp at hp; simp [hp])), h5⟩) (fun Pv j x H2 H11 us hj s11 y hR hu fin _ => ?_) (fun us H11 s11 hD11 hR hu => ?_)
  · rcases List.mem_cons.mp hq with hq | hq
    · rw [hq] at z; exact hp10.some p0 (by simp) z
    · rw [List.mem_singleton.mp hq, hK10] at z; cases z
  · obtain ⟨rfl, rfl⟩ := y
    obtain ⟨h1, zs, b1, b2, h2, h3, h4, h5, pm⟩ := hR
    have zl := h3.length
    have pl := pm.length_eq
    rw [List.length_append] at pl
    refine ⟨rfl, _, rfl, .inl ⟨rfl, _, SqL.of h2⟩, _, rfl, _, rfl, KL, _, rfl, .inl (SqL.of h2), p0, _, rfl, h1, by omega, by omega, fun r9 H12 r90 r9m s12 hp12 => ?_⟩
    obtain ⟨u, rfl⟩ : ∃ u : Nat, r9 = (u : Int) := ⟨r9.toNat, by omega⟩
    have hu' : u < zs.length := by omega
    have hK12 := s12.keep _ _ h2 (by simpa using fun z : KL = p0 => pK z.symm)
    have eu : zs[u]? = some zs[u] := List.getElem?_eq_getElem hu'
    have nls : NoLst H11 [D, KL, p0] [p0] := fun p hp => .inl (by simp at hp; simp [hp])
    obtain ⟨k, ek, hk⟩ := (h3.sb s12 nls).get eu
    refine ⟨KL, _, _, u, zs[u], rfl, rfl, hK12, by omega, by omega, by rw [PySem.seqIndex_of (by omega) (by omega), Int.toNat_natCast], eu, ?_⟩
    have t13 := SB.set (ps := [KL]) hK12 (by simp) (.lst (zs.eraseIdx u))
    have hp13 := hp12.keep t13 (by simpa using pK)
    have nl2 : NoLst H12 [D, KL, p0] [KL] := fun p hp => .inl (by simp at hp; simp [hp])
    refine fin _ _ ((s12.mono (by simp)).trans (t13.mono (by simp))) ⟨hp13, zs.eraseIdx u, b1 ++ [k], b2.eraseIdx u, upd_same, ((h3.sb s12 nls).erase u).sb t13 nl2, (((h4.sb s12 nls).sb t13 nl2)).append (.cons (hk.sb t13 nl2) .nil), by simp [h5], ?_⟩
    rw [List.append_assoc]
    exact (List.Perm.append_left b1 (idx_perm ek)).trans pm
  · obtain ⟨h1, zs, b1, b2, h2, h3, h4, h5, pm⟩ := hR
    have pl := pm.length_eq
    rw [List.length_append] at pl
    have b20 : b2 = [] := List.eq_nil_of_length_eq_zero (by omega)
    subst b20
    rw [List.append_nil] at pm
    have pn : b1.names.Perm ks := bn ▸ pm.map _
    have ok : b1.Ok := Bk.Ok.of_perm k1 k8 knd pn fun k hk => bo k (pm.mem_iff.mp hk)
    have s011 : SB [p0, KL] H H11 := (s010.mono (by simp)).trans s11
    exact q D us b1 H11 ((s011.drop np1).drop nKL) nD hD11 (h4.less (by simp)) ok pn
end
end FT
namespace FT
open PySem PySem.W PySem.Spec PyProof.Rows L2
section
variable {P : Program} {w : World} {K : PySem.W.Frag} {mg : Str → Option Value} {base : Heap} {f : Addr} {fd : FuncData}
abbrev N__law_kind : List Str := ["_law_kinds_here", "_law_name", "_law_kind_here"]
theorem sc__law_kind : FnScope N__law_kind ["_law_kinds_here", "_law_name"] (defScope s__law_kind) := ⟨rfl, rfl, rfl, by decide +kernel, rfl, by decide +kernel, by decide +kernel⟩
theorem ok__law_kind (B : BI mg) (F : Fun K "_law_kind" "_law_kind" s__law_kind f fd) : FnOk P w K mg base CX0 (1) f fd ["_law_kinds_here", "_law_name"] (spKindP K) := by
  refine F.ok sc__law_kind (fun vs H Q E h => ?_) (fun cdv A outer s H vs Q E hr h => ?_)
  · obtain ⟨l, xs, b, k, rfl, _⟩ := h
    rfl
  obtain ⟨l, xs, b, k, rfl, hl, ha, hk, nd, b8, q⟩ := h
  have hun2 : A.units + 3 + 200 < cLine := by have := hr.un; have h3 : (A.deeper (envOfC "_law_kind" (defScope s__law_kind) s.heap.objs.size f cdv)).units = A.units + 3 := rfl; omega
  refine ⟨_, pss_one (ps_ret (pe_ix ix_list (pe_lc (own := [("_law_kind_here", 2)]) (g := (gName 2)) (tt := (tTest (tOp rEq (tOp (rIxT K) (tVar 2) (tC (.int 0))) (tVar 1)))) (te := (tVar 2)) rfl sc__law_kind.nd (pi_list (pv 0)) (blkOk_by (N := N__law_kind) (sc := defScope s__law_kind) (by decide +kernel)) (fun _ _ _ _ _ => (pg_name (i := 2) sc__law_kind.nd rfl (.inl rfl))) (fun _ _ _ _ _ => (pts_one (pt_cmpR op_eq (pe_ix ix_tup (pv 2) pe_int (fun _ _ => rfl)) (pv 1) (nomark _)))) (fun _ _ _ _ _ => (pv 2))) pe_int (fun _ _ => rfl))), ?_⟩
  have szl := sizeLine_eq
  have xl := ha.length
  obtain ⟨j0, e0⟩ := List.getElem?_of_mem hk
  have hj0 : j0 < xs.length := by have := (List.getElem?_eq_some_iff.mp e0).1; omega
  obtain ⟨k', ek', hk'⟩ := ha.get (List.getElem?_eq_getElem hj0)
  obtain rfl : k' = k := Option.some.inj (ek'.symm.trans e0)
  refine ⟨_, rfl, l, rfl, ⟨_, SqL.of hl⟩, fun D nD => ?_⟩
  refine lc_seq (walk_list (xs := xs)) nD (by omega) (fun i us _ => us = if j0 < i then [xs[j0]] else []) (by simp) (fun H2 s2 => s2.sqL List.not_mem_nil (SqL.of hl)) (fun _ _ _ _ _ h => h) (fun Pv i x Hq H2 us hi s2 y hR hu fin skip => ?_) (fun us H2 s2 hD2 hR hu => ?_)
  · obtain ⟨rfl, ey⟩ := y
    obtain ⟨ki, eki, t, r, zs, ex, h1, h2, h3, _⟩ := ha.get ey
    refine ⟨rfl, _, rfl, t, _, _, _, ex, rfl, s2.sqT h1, atI_nat (j := 0) rfl, _, rfl, rfl, _, rfl, ?_⟩
    by_cases e : ki.n = k'.n
    · rw [show decide (V.str ki.n = V.str k'.n) = true from decide_eq_true (by rw [e])]
      have ei : i = j0 := by
        refine (List.getElem?_inj (l := b.names) (i := i) (j := j0) (by rw [List.length_map]; omega) nd).mp ?_
        rw [List.getElem?_map, List.getElem?_map, eki, e0]
        show some ki.n = some k'.n
        rw [e]
      subst ei
      refine iteT ⟨_, rfl, fin _ _ SB.refl ?_⟩
      rw [hR, if_neg (by omega), if_pos (by omega)]
      rw [List.getElem?_eq_getElem hi] at ey
      rw [Option.some.inj ey]; rfl
    · rw [show decide (V.str ki.n = V.str k'.n) = false from decide_eq_false (fun z => e (V.str.inj z))]
      have ei : i ≠ j0 := fun z => by
        rw [z, e0] at eki
        exact e (congrArg Kd.n (Option.some.inj eki)).symm
      refine iteF (skip _ SB.refl ?_)
      rw [hR]
      by_cases z : j0 < i
      · rw [if_pos z, if_pos (by omega)]
      · rw [if_neg z, if_neg (by omega)]
  · rw [if_pos hj0] at hR
    subst hR
    exact ⟨D, _, _, _, rfl, rfl, SqL.of hD2, atI_nat (j := 0) rfl, q _ _ s2 (hk'.sb s2 NoLst.nil)⟩
end
end FT
namespace FT
open PySem PySem.W PySem.Spec PyProof.Rows L2
section
variable {P : Program} {w : World} {K : PySem.W.Frag} {mg : Str → Option Value} {base : Heap} {f : Addr} {fd : FuncData}
abbrev N__law_grove : List Str := ["_law_script", "_law_names_here", "_law_purse_here", "_law_room"]
theorem sc__law_grove : FnScope N__law_grove ["_law_script", "_law_names_here"] (defScope s__law_grove) := ⟨rfl, rfl, rfl, by decide +kernel, rfl, by decide +kernel, by decide +kernel⟩
theorem ok__law_grove (B : BI mg) (G__law_purse : Got P w K mg base "_law_purse" ["_law_script", "_law_k"] (1) (spPurseW K)) (G__law_take : Got P w K mg base "_law_take" ["_law_purse_here", "_law_many_here"] (1) (spTakeW)) (G__law_wood : Got P w K mg base "_law_wood" ["_law_purse_here", "_law_pool", "_law_room", "_law_low", "_law_most"] (15) (spWood K 13)) (F : Fun K "_law_grove" "_law_grove" s__law_grove f fd) : FnOk P w K mg base CX0 (16) f fd ["_law_script", "_law_names_here"] (spGroveP K) := by
  refine F.ok sc__law_grove (fun vs H Q E h => ?_) (fun cdv A outer s H vs Q E hr h => ?_)
  · obtain ⟨a, l, ns, ks, rfl, _⟩ := h
    rfl
  obtain ⟨a, l, ns, ks, rfl, hs, nl, hl, k8, kn, q⟩ := h
  have hun2 : A.units + 3 + 200 < cLine := by have := hr.un; have h3 : (A.deeper (envOfC "_law_grove" (defScope s__law_grove) s.heap.objs.size f cdv)).units = A.units + 3 := rfl; omega
  refine ⟨_, pss_cons (ps_set (i := 2) sc__law_grove.nd rfl (.inl rfl) (pe_got G__law_purse (hr.mono (by omega)) rfl (pa_cons (pv 0) (pa_cons pe_int pa_nil))))
    (pss_cons (ps_set (i := 3) sc__law_grove.nd rfl (.inl rfl) (pe_lst (pa_cons (pe_ix ix_list (pe_lst (pa_cons pe_int (pa_cons pe_int (pa_cons pe_int (pa_cons pe_int pa_nil))))) (pe_got G__law_take (hr.mono (by omega)) rfl (pa_cons (pv 2) (pa_cons pe_int pa_nil))) (fun _ _ => rfl)) (pa_cons (pe_ix ix_list (pe_lst (pa_cons pe_int (pa_cons pe_int (pa_cons pe_int (pa_cons pe_int pa_nil))))) (pe_got G__law_take (hr.mono (by omega)) rfl (pa_cons (pv 2) (pa_cons pe_int pa_nil))) (fun _ _ => rfl)) pa_nil))))
    (pss_one (ps_ret (pe_got G__law_wood (hr.mono (by omega)) rfl (pa_cons (pv 2) (pa_cons (pv 1) (pa_cons (pv 3) (pa_cons (pe_op op_add pe_int (pe_got G__law_take (hr.mono (by omega)) rfl (pa_cons (pv 2) (pa_cons pe_int pa_nil)))) (pa_cons (pe_op op_pow pe_int pe_int) pa_nil))))))))), ?_⟩
  have szl := sizeLine_eq
  refine ⟨_, rfl, a, ns, 9, rfl, hs, nl, by omega, fun p H1 s1 np hp1 => ?_⟩
  refine ⟨by show 4 ≤ sizeLine; decide, fun A1 hA1 => ?_⟩
  have t2 := SB.new (ps := []) hA1 (.lst [.int 3, .int 8, .int 20, .int 60])
  have hp2 := hp1.sb t2
  have hA2 : upd H1 A1 (.lst [.int 3, .int 8, .int 20, .int 60]) A1 = some (.lst [.int 3, .int 8, .int 20, .int 60]) := upd_same
  have Ap : A1 ≠ p := fun z => hp1.ne hA1 z.symm
  generalize upd H1 A1 (.lst [.int 3, .int 8, .int 20, .int 60]) = H2 at t2 hp2 hA2
  refine take_w (i := 2) rfl hp2 (by decide) (by decide) fun r3 H3 r30 r34 s3 hp3 => ?_
  obtain ⟨c1, e1, c60⟩ : ∃ c : Nat, atI [V.int 3, V.int 8, V.int 20, V.int 60] r3 = some (.int (c : Int)) ∧ c ≤ 60 := by
    rcases (by omega : r3 = 0 ∨ r3 = 1 ∨ r3 = 2 ∨ r3 = 3) with rfl | rfl | rfl | rfl
    · exact ⟨3, rfl, by omega⟩
    · exact ⟨8, rfl, by omega⟩
    · exact ⟨20, rfl, by omega⟩
    · exact ⟨60, rfl, by omega⟩
  refine ⟨A1, _, _, _, rfl, rfl, SqL.of (s3.keep _ _ hA2 (by simpa using Ap)), e1, ?_⟩
  have s03 : SB [] H H3 := (((s1.trans t2).nil (ps := [p])).trans s3).drop np
  refine ⟨by show 4 ≤ sizeLine; decide, fun A2 hA2' => ?_⟩
  have t4 := SB.new (ps := []) hA2' (.lst [.int 3, .int 4, .int 5, .int 9])
  have hp4 := hp3.sb t4
  have hA4 : upd H3 A2 (.lst [.int 3, .int 4, .int 5, .int 9]) A2 = some (.lst [.int 3, .int 4, .int 5, .int 9]) := upd_same
  have Ap2 : A2 ≠ p := fun z => hp3.ne hA2' z.symm
  generalize upd H3 A2 (.lst [.int 3, .int 4, .int 5, .int 9]) = H4 at t4 hp4 hA4
  refine take_w (i := 2) rfl hp4 (by decide) (by decide) fun r5 H5 r50 r54 s5 hp5 => ?_
  obtain ⟨c2, e2, c1', c9⟩ : ∃ c : Nat, atI [V.int 3, V.int 4, V.int 5, V.int 9] r5 = some (.int (c : Int)) ∧ 1 ≤ c ∧ c ≤ 9 := by
    rcases (by omega : r5 = 0 ∨ r5 = 1 ∨ r5 = 2 ∨ r5 = 3) with rfl | rfl | rfl | rfl
    · exact ⟨3, rfl, by omega, by omega⟩
    · exact ⟨4, rfl, by omega, by omega⟩
    · exact ⟨5, rfl, by omega, by omega⟩
    · exact ⟨9, rfl, by omega, by omega⟩
  refine ⟨A2, _, _, _, rfl, rfl, SqL.of (s5.keep _ _ hA4 (by simpa using Ap2)), e2, ?_⟩
  have s05 : SB [] H H5 := (((s03.trans t4).nil (ps := [p])).trans s5).drop np
  refine ⟨by show 2 ≤ sizeLine; decide, fun R hR => ?_⟩
  have t6 := SB.new (ps := []) hR (.lst [.int (c1 : Int), .int (c2 : Int)])
  have hp6 := hp5.sb t6
  have hR6 : upd H5 R (.lst [.int (c1 : Int), .int (c2 : Int)]) R = some (.lst [.int (c1 : Int), .int (c2 : Int)]) := upd_same
  have Rp : R ≠ p := fun z => hp5.ne hR z.symm
  have hl5 := s05.keep _ _ hl List.not_mem_nil
  have lR : l ≠ R := ne_of_none hl5 hR
  have lp : l ≠ p := fun z => by rw [z, np] at hl; cases hl
  have s06 := s05.trans t6
  have nR : H R = none := s05.dom _ hR
  generalize upd H5 R (.lst [.int (c1 : Int), .int (c2 : Int)]) = H6 at t6 hp6 hR6 s06
  refine ⟨_, rfl, _, rfl, _, rfl, ?_⟩
  refine take_w (i := 2) rfl hp6 (by decide) (by decide) fun r7 H7 r70 r712 s7 hp7 => ?_
  obtain ⟨u, rfl⟩ : ∃ u : Nat, r7 = (u : Int) := ⟨r7.toNat, by omega⟩
  have s07 : SB [] H H7 := ((s06.nil (ps := [p])).trans s7).drop np
  refine ⟨_, _, rfl, rfl, _, _, rfl, rfl, ⟨by decide, by decide, by decide⟩, p, l, R, ks, c1, c2, 1 + u, 10 ^ 30, (by show [V.ref p, V.ref l, V.ref R, V.int (1 + (u : Int)), V.int _] = [V.ref p, V.ref l, V.ref R, V.int ((1 + u : Nat) : Int), V.int (10 ^ 30)]; rw [Int.natCast_add]; rfl), hp7, s07.keep _ _ hl List.not_mem_nil, s7.keep _ _ hR6 (by simpa using Rp), lp, lR, Rp, by omega, by omega, ⟨by decide, by decide⟩, ⟨k8, kn⟩, fun v g a' H8 s8 _ _ hg ok pt dp wi => ?_⟩
  exact q v g H8 ((((s07.nil (ps := [p, R])).trans s8).drop np).drop nR) hg ok (by omega) (by omega) wi
end
end FT
namespace FT
open PySem PySem.W PySem.Spec PyProof.Rows L2
section
variable {P : Program} {w : World} {K : PySem.W.Frag} {mg : Str → Option Value} {base : Heap} {f : Addr} {fd : FuncData}
abbrev N__law_bare : List Str := ["_law_grove_here", "_law_ahead", "_law_found", "_law_k", "_law_tree", "_law_many_here"]
theorem sc__law_bare : FnScope N__law_bare ["_law_grove_here", "_law_ahead"] (defScope s__law_bare) := ⟨rfl, rfl, rfl, by decide +kernel, rfl, by decide +kernel, by decide +kernel⟩
theorem none__law_bare {ps : List Str} {k : Nat} : FnOk P w K mg base CX0 k f fd ps (spBareL K 0) := none_sp fun vs H Q E ⟨v, u, g, pl, _, _, _, h, _⟩ => by omega
theorem ok__law_bare {n : Nat} (B : BI mg) (G__law_bare : Got P w K mg base "_law_bare" ["_law_grove_here", "_law_ahead"] (n) (spBareL K n)) (F : Fun K "_law_bare" "_law_bare" s__law_bare f fd) : FnOk P w K mg base CX0 (n + 1) f fd ["_law_grove_here", "_law_ahead"] (spBareL K (n + 1)) := by
  refine F.ok sc__law_bare (fun vs H Q E h => ?_) (fun cdv A outer s H vs Q E hr h => ?_)
  · obtain ⟨v, u, g, pl, rfl, _⟩ := h
    rfl
  obtain ⟨v, u, g, pl, rfl, hv, hu, hd, hd100, hp, hpl, q⟩ := h
  have hun2 : A.units + 3 + 200 < cLine := by have := hr.un; have h3 : (A.deeper (envOfC "_law_bare" (defScope s__law_bare) s.heap.objs.size f cdv)).units = A.units + 3 := rfl; omega
  refine ⟨_, pss_cons (ps_set (i := 2) sc__law_bare.nd rfl (.inl rfl) (pe_lst pa_nil))
    (pss_cons (ps_for PassesOwn.never rfl (pi_enumT rfl B.enumerate (pv 0)) (pg_tup rfl (pgs_cons (pg_name (i := 3) sc__law_bare.nd rfl (.inl rfl)) (pgs_cons (pg_tup rfl (pgs_cons (pg_name (i := 4) sc__law_bare.nd rfl (.inl rfl)) (pgs_cons (pg_name (i := 5) sc__law_bare.nd rfl (.inl rfl)) pgs_nil))) pgs_nil)))
      (pss_cons (ps_if (pt_cmpR (op_eqD (by show A.units + 3 + 64 < cLine; omega)) (pe_ix ix_tup (pv 4) pe_int (fun _ _ => rfl)) (pe_tup pa_nil) (nomark _)) (pss_one (ps_expr (pe_bm PySem.F.plainAttrs_list PySem.F.slot_list_append PySem.F.type_list_append mt_append (pv 2) (pa_cons (pe_tup (pa_cons (pe_op op_catB (pv 1) (pe_tup (pa_cons (pv 3) pa_nil))) (pa_cons (pe_ix ix_tup (pv 4) pe_int (fun _ _ => rfl)) pa_nil))) pa_nil)))) pss_nil)
    (pss_one (ps_set (i := 2) sc__law_bare.nd rfl (.inl rfl) (pe_op op_cat (pv 2) (pe_got G__law_bare (hr.mono (by omega)) rfl (pa_cons (pe_ix ix_tup (pv 4) pe_int (fun _ _ => rfl)) (pa_cons (pe_op op_catB (pv 1) (pe_tup (pa_cons (pv 3) pa_nil))) pa_nil))))))))
    (pss_one (ps_ret (pv 2)))), ?_⟩
  have szl := sizeLine_eq
  obtain ⟨a, xs, rfl, hs, hb⟩ := GA_bears hv
  obtain ⟨ua, rfl, hua⟩ := PL_ints hu
  have bl := hb.length
  have lenb := g.bk_len 0
  have oki := Gr.ok_iff.mp hpl
  refine ⟨(by show 0 ≤ sizeLine; decide), fun D hD => ?_⟩
  have t1 := SB.new (ps := []) hD (.lst [])
  refine ⟨_, rfl, a, xs, rfl, t1.sqT hs, ?_⟩
  refine for_it (walk_enumT (xs := xs)) (fun i σ H2 => SB [] H H2 ∧ ∃ (E : Addr) (us : List V) (o3 o4 o5 : Option V), σ = [some (.ref a), some (.ref ua), some (.ref E), o3, o4, o5] ∧ H E = none ∧ H2 E = some (.lst us) ∧ Bears K H2 bkE us ((Gr.bks (g.ps.take i) 0).map fun x => (pl ++ x.1, x.2))) ⟨t1, D, [], none, none, none, rfl, hD, upd_same, .nil⟩ (fun i σ H2 hi h2 => h2.1.sqT hs) (fun i x σ H2 H' hi h2 y => ?_) (fun σ H2 h2 => ?_)
  · obtain ⟨s2, E, us, o3, o4, o5, rfl, nE, hE2, hb2⟩ := h2
    obtain ⟨T, e1, e2, rfl, hT, rfl, ee1, ee2⟩ := y
    have he1 : e1 = .int (i : Nat) := (Option.some.inj ee1).symm
    subst he1
    obtain ⟨p, ep, hpd⟩ := hb.get ee2
    have pm := List.mem_of_getElem? ep
    have pd := g.mem_deep p pm
    have pp := g.mem_parts p pm
    obtain ⟨pn, po, p1, pB⟩ := oki.1 p pm
    obtain ⟨ad, td, ux, rfl, hs2, hs3, hga, _⟩ := PA_parts hpd
    have t3 := SB.new (ps := []) hT (.tup [.int (i : Nat), .ref ad])
    have hT3 : SqT K (upd H2 T (.tup [.int (i : Nat), .ref ad])) T [.int (i : Nat), .ref ad] := SqT.of upd_same
    have s3 := s2.trans t3
    have hE3 := t3.keep _ _ hE2 List.not_mem_nil
    have hb3 := hb2.sb t3 bkE_noList
    generalize upd H2 T (.tup [.int (i : Nat), .ref ad]) = H3 at t3 hT3 s3 hE3 hb3
    have ul := hb3.length
    rw [List.length_map] at ul
    have hsp : g.bk 0 = Gr.bks (g.ps.take i) 0 ++ Gr.bkP p i ++ Gr.bks (g.ps.drop (i + 1)) (i + 1) := by
      rw [Gr.bk_ps]
      conv => lhs; rw [← List.take_append_drop (i + 1) g.ps]
      rw [Gr.bks_append, Gr.bks_take ep, List.length_take, Nat.min_eq_left (by omega), Nat.zero_add]
    have hlen := congrArg List.length hsp
    rw [List.length_append, List.length_append] at hlen
    have pbl := p.1.2.bk_len 0
    refine ⟨T, _, rfl, hT3, rfl, _, _, rfl, _, _, rfl, ⟨ad, _, rfl, s3.sqT hs2, rfl, _, _, rfl, _, _, rfl, rfl, rfl, ?_⟩⟩
    refine seq_via (fun σ' H' => ∃ (us' : List V), σ' = [some (.ref a), some (.ref ua), some (.ref E), some (.int (i : Nat)), some (.ref td), some (.int p.2)] ∧ SB [] H H' ∧ H' E = some (.lst us') ∧ Bears K H' bkE us' ((Gr.bks (g.ps.take i) 0 ++ if p.1.2 = .nil then [([i], p.1.1)] else []).map fun x => (pl ++ x.1, x.2))) (fun nx hnx => ?_) (fun σ' H5 h => ?_)
    · refine ⟨_, rfl, td, _, _, _, rfl, rfl, s3.sqT hs3, atI_nat (j := 1) rfl, by show 0 ≤ sizeLine; decide, fun e0 he0 => ?_⟩
      have t4 := SB.new (ps := []) he0 (.tup [])
      have hE4 := t4.keep _ _ hE3 List.not_mem_nil
      have s4 := s3.trans t4
      have h04 : SqT K (upd H3 e0 (.tup [])) e0 [] := SqT.of upd_same
      have hb4 := hb3.sb t4 bkE_noList
      generalize upd H3 e0 (.tup []) = H4 at t4 hE4 s4 h04 hb4
      refine ⟨p.1.2.enc, .tuple [], hga.sb s4, .tup h04 .nil, Gr.shaped_enc po (by omega), by decide +kernel, _, rfl, ?_⟩
      rw [Gr.enc_eq_nil]
      by_cases hn : p.1.2 = .nil
      · rw [show decide (p.1.2 = .nil) = true from decide_eq_true hn]
        refine iteT ⟨_, rfl, .inl ⟨rfl, _, SqL.of hE4⟩, _, rfl, _, rfl, by show 1 ≤ sizeLine; decide, fun t ht => ?_⟩
        have t5 := SB.new (ps := []) ht (.tup [.int (i : Nat)])
        have s5 := s4.trans t5
        refine ⟨ua, t, _, _, rfl, rfl, s5.sqT hua, SqT.of upd_same, ?_, fun c H6 s6 hc => ?_⟩
        · rw [List.length_map, List.length_singleton]
          have := small5 (n := pl.length + 1) (by omega)
          omega
        have s46 := t5.trans s6
        have s06 := s4.trans s46
        refine ⟨_, rfl, td, _, _, _, rfl, rfl, s06.sqT hs3, atI_nat (j := 0) rfl, by show 2 ≤ sizeLine; decide, fun T2 hT2 => ?_⟩
        have t7 := SB.new (ps := []) hT2 (.tup [.ref c, .str p.1.1])
        have hE7 := t7.keep _ _ (s46.keep _ _ hE4 List.not_mem_nil) List.not_mem_nil
        have hT7 : SqT K (upd H6 T2 (.tup [.ref c, .str p.1.1])) T2 [.ref c, .str p.1.1] := SqT.of upd_same
        have hc7 := t7.sqT hc
        have s07 := s06.trans t7
        have hb7 := (hb4.sb s46 bkE_noList).sb t7 bkE_noList
        generalize upd H6 T2 (.tup [.ref c, .str p.1.1]) = H7 at t7 hE7 hT7 hc7 s07 hb7
        refine ⟨E, us, _, rfl, rfl, hE7, by omega, ?_⟩
        have t8 := SB.set (ps := [E]) hE7 (by simp) (.lst (us ++ [.ref T2]))
        refine hnx _ _ ⟨us ++ [.ref T2], rfl, ((s07.nil (ps := [E])).trans t8).drop nE, upd_same, ?_⟩
        rw [if_pos hn, List.map_append]
        refine (hb7.sb t8 bkE_noList).append (.cons ?_ .nil)
        refine .tup (t8.sqT hT7) (.cons ?_ (.cons (.str _) .nil))
        refine PL_of (p := pl ++ [i]) (t8.sqT ?_)
        rw [List.map_append]; exact hc7
      · rw [show decide (p.1.2 = .nil) = false from decide_eq_false hn]
        refine iteF (hnx _ _ ⟨us, rfl, s4, hE4, ?_⟩)
        rw [if_neg hn, List.append_nil]; exact hb4
    obtain ⟨us', rfl, s5, hE5, hb5⟩ := h
    have ul5 := hb5.length
    rw [List.length_map, List.length_append] at ul5
    have hif : (if p.1.2 = .nil then [(([i] : Pl), p.1.1)] else []).length ≤ 1 := by split <;> simp
    refine ⟨_, rfl, _, rfl, td, _, _, _, rfl, rfl, s5.sqT hs3, atI_nat (j := 1) rfl, _, rfl, _, rfl, by show 1 ≤ sizeLine; decide, fun t ht => ?_⟩
    have t6 := SB.new (ps := []) ht (.tup [.int (i : Nat)])
    have s6 := s5.trans t6
    refine ⟨ua, t, _, _, rfl, rfl, s6.sqT hua, SqT.of upd_same, ?_, fun c H7 s7 hc => ?_⟩
    · rw [List.length_map, List.length_singleton]
      have := small5 (n := pl.length + 1) (by omega)
      omega
    have s57 := t6.trans s7
    have s07 := s5.trans s57
    have hc' : Dp K H7 (.ref c) (plEnc (pl ++ [i])) := PL_of (p := pl ++ [i]) (by rw [List.map_append]; exact hc)
    refine ⟨ux, .ref c, p.1.2, pl ++ [i], rfl, hga.sb s07, hc', by omega, by rw [List.length_append]; show _ + (_ + 1) ≤ _; omega, by omega, po, fun L vs H8 s8 nL hL hb8 => ?_⟩
    have hE8 := (s57.trans s8).keep _ _ hE5 List.not_mem_nil
    have vl := hb8.length
    rw [List.length_map] at vl
    refine ⟨E, L, _, _, rfl, rfl, hE8, hL, by omega, fun M hM => ?_⟩
    have t9 := SB.new (ps := []) hM (.lst (us' ++ vs))
    have s08 := s07.trans s8
    refine ⟨s08.trans t9, M, us' ++ vs, _, _, _, rfl, s08.dom _ hM, upd_same, ?_⟩
    have eP : (Gr.bks (g.ps.take (i + 1)) 0).map (fun x => (pl ++ x.1, x.2)) = (Gr.bks (g.ps.take i) 0 ++ if p.1.2 = .nil then [([i], p.1.1)] else []).map (fun x => (pl ++ x.1, x.2)) ++ (p.1.2.bk 0).map (fun x => ((pl ++ [i]) ++ x.1, x.2)) := by
      rw [Gr.bks_take ep]
      unfold Gr.bkP
      by_cases hn : p.1.2 = .nil
      · rw [if_pos hn, if_pos hn, hn]; simp [Gr.bk]
      · rw [if_neg hn, if_neg hn]; simp
    rw [eP]
    exact ((hb5.sb (s57.trans s8) bkE_noList).sb t9 bkE_noList).append (hb8.sb t9 bkE_noList)
  · obtain ⟨s2, E, us, o3, o4, o5, rfl, nE, hE2, hb2⟩ := h2
    rw [bl, List.take_length, ← Gr.bk_ps] at hb2
    exact ⟨_, rfl, q E us H2 s2 nE hE2 hb2⟩
end
end FT
namespace FT
open PySem PySem.W PySem.Spec PyProof.Rows L2
section
variable {P : Program} {w : World} {K : PySem.W.Frag} {mg : Str → Option Value} {base : Heap} {f : Addr} {fd : FuncData}
theorem sc_NoKind___init__ : FnScope ["self", "kind"] ["self", "kind"] (defScope s_NoKind___init__) := ⟨rfl, rfl, rfl, by decide +kernel, rfl, by decide +kernel, by decide +kernel⟩
theorem ok_NoKind___init__ {C : Addr} (F : Fun K "__init__" "NoKind.__init__" s_NoKind___init__ f fd) : FnOk P w K mg base CX0 1 f fd ["self", "kind"] (spKindI K C) := by
  refine F.ok sc_NoKind___init__ (fun vs H Q E h => ?_) (fun cdv A outer s H vs Q E hr h => ?_)
  · obtain ⟨a, y, rfl, _⟩ := h
    rfl
  obtain ⟨a, y, rfl, T, no, ha, q⟩ := h
  refine ⟨_, pss_one (ps_ost (pv 0) (pv 1)), ?_⟩
  exact ⟨_, rfl, _, rfl, a, C, rfl, T, no, .inl ⟨ha, q⟩⟩
end
end FT
namespace FT
open PySem PySem.W PySem.Spec PyProof.Rows L2
section
variable {P : Program} {w : World} {K : PySem.W.Frag} {mg : Str → Option Value} {base : Heap} {f : Addr} {fd : FuncData}
abbrev N_Book___init__ : List Str := ["self", "kinds", "name", "spreading", "rows"]
theorem sc_Book___init__ : FnScope N_Book___init__ ["self", "kinds"] (defScope s_Book___init__) := ⟨rfl, rfl, rfl, by decide +kernel, rfl, by decide +kernel, by decide +kernel⟩
theorem ok_Book___init__ {C_NoBook C_Book : Addr} (B : BI mg) (O_NoBook : Own K mg "NoBook" C_NoBook) (T_Book : ClsF K C_Book ["spread_by_name", "rows_by_name"]) (G_are_kinds : Got P w K mg base "are_kinds" ["things"] (87) (spAreKinds K)) (F : Fun K "__init__" "Book.__init__" s_Book___init__ f fd) : FnOk P w K mg base (L2.CX P w) (88) f fd ["self", "kinds"] (spBInit K C_Book C_NoBook) := by
  refine F.okX sc_Book___init__ (fun vs H Q E h => ?_) (fun cdv A outer s H vs Q E hr h => ?_)
  · obtain ⟨x, dx, l, xs, ts, rfl, _⟩ := h
    rfl
  obtain ⟨x, dx, l, xs, ts, rfl, hx, hdx, hs, ha, hf, hl, q, qE⟩ := h
  have hun2 : A.units + 3 + 200 < cLine := by have := hr.un; have h3 : (A.deeper (envOfC "Book.__init__" (defScope s_Book___init__) s.heap.objs.size f cdv)).units = A.units + 3 := rfl; omega
  refine ⟨_, pss_cons (ps_if (pt_not (pt_val (pe_got G_are_kinds (hr.mono (by omega)) rfl (pa_cons (pv 1) pa_nil)))) (pss_one (ps_raise rfl (takes_of rfl rfl rfl rfl) (pmk_own PySem.F.excBase_ValueError O_NoBook.q O_NoBook.gC O_NoBook.k (raises_own O_NoBook.s O_NoBook.t) rfl))) pss_nil)
    (pss_cons (ps_fld (pv 0) (pe_dc (own := [("name", 2), ("spreading", 3), ("rows", 4)]) (g := (gTup K 3 (gCons (gName 2) (gCons (gName 3) (gCons (gName 4) gNil))))) (tt := tYes) (tk := (tVar 2)) (tv := (tVar 3)) rfl sc_Book___init__.nd (pi_list (pv 1)) (blkOk_by (N := N_Book___init__) (sc := defScope s_Book___init__) (by decide +kernel)) (fun _ _ _ _ _ => (pg_tup rfl (pgs_cons (pg_name (i := 2) sc_Book___init__.nd rfl (.inl rfl)) (pgs_cons (pg_name (i := 3) sc_Book___init__.nd rfl (.inl rfl)) (pgs_cons (pg_name (i := 4) sc_Book___init__.nd rfl (.inl rfl)) pgs_nil))))) (fun _ _ _ _ _ => pts_nil) (fun _ _ _ _ _ => (pv 2)) (fun _ _ _ _ _ => (pv 3))) rfl)
    (pss_one (ps_fld (pv 0) (pe_dc (own := [("name", 2), ("spreading", 3), ("rows", 4)]) (g := (gTup K 3 (gCons (gName 2) (gCons (gName 3) (gCons (gName 4) gNil))))) (tt := tYes) (tk := (tVar 2)) (tv := (tCB (fun xs H Q => ∃ p ys, xs = [.ref p] ∧ ((SqL K H p ys ∧ ∀ l, H l = none → Q (.ref l) (upd H l (.tup ys))) ∨ (SqT K H p ys ∧ Q (.ref p) H))) (tCons (tVar 4) tNil))) rfl sc_Book___init__.nd (pi_list (pv 1)) (blkOk_by (N := N_Book___init__) (sc := defScope s_Book___init__) (by decide +kernel)) (fun _ _ _ _ _ => (pg_tup rfl (pgs_cons (pg_name (i := 2) sc_Book___init__.nd rfl (.inl rfl)) (pgs_cons (pg_name (i := 3) sc_Book___init__.nd rfl (.inl rfl)) (pgs_cons (pg_name (i := 4) sc_Book___init__.nd rfl (.inl rfl)) pgs_nil))))) (fun _ _ _ _ _ => pts_nil) (fun _ _ _ _ _ => (pv 2)) (fun _ _ _ _ _ => (pe_callTy call_tuple_of rfl B.tuple boot_tuple (pa_cons (pv 4) pa_nil)))) rfl))), ?_⟩
  refine ⟨_, rfl, l, xs, ts, rfl, SqL.of hs, ha, hf, hl, fun b H1 s1 hb => ?_⟩
  refine ⟨_, rfl, ?_⟩
  cases b with
  | false => exact iteT (qE (fun z => nomatch (hb.mpr z)) H1 s1)
  | true =>
  refine iteF ?_
  obtain ⟨bk, et, ok⟩ := hb.mp rfl
  subst et
  have q2 := q bk rfl ok
  have ha1 := (ha.sb s1).kd
  have hs1 := s1.keep _ _ hs List.not_mem_nil
  have hx1 := s1.keep _ _ hx List.not_mem_nil
  have xlen := ha1.length
  have szl := sizeLine_eq
  have b8 := ok.len
  have hlx : l ≠ x := ne_of hs hx (fun z => nomatch z)
  refine ⟨_, rfl, l, rfl, ⟨_, SqL.of hs1⟩, fun D hD => ?_⟩
  refine dc_seq (walk_list (xs := xs)) hD (by omega) (fun i kvs _ => kvs = Bk.spKV (bk.take i)) rfl (fun H2 s2 => s2.sqL List.not_mem_nil (SqL.of hs1)) (fun _ _ _ _ _ h => h) (fun Pv i y H2 H' kvs hi s2 yy hR hl2 fin _ => ?_) (fun kvs H2 s2 hD2 hR _ => ?_)
  · obtain ⟨rfl, ey⟩ := yy
    obtain ⟨k, ek, t, r, zs, rfl, h1, h2, h3, _⟩ := ha1.get ey
    refine ⟨t, _, rfl, s2.sqT h1, rfl, _, _, rfl, _, _, rfl, _, _, rfl, rfl, rfl, ?_⟩
    refine ⟨_, rfl, _, rfl, fin (Sum.inr k.n) _ _ SB.refl ?_⟩
    rw [hR, putK_new, List.take_add_one, ek, Option.toList_some, Bk.spKV, Bk.spKV, List.map_append]
    · rfl
    · intro p hp e
      obtain ⟨j, hj, rfl⟩ := List.mem_map.mp hp
      injection e with e
      exact Bk.nodup_at ok.nd ek j hj e
  · rw [xlen, List.take_length] at hR
    subst hR
    have hx2 := s2.keep _ _ hx1 List.not_mem_nil
    have hl2 := s2.keep _ _ hs1 List.not_mem_nil
    have ha2 := ha1.sb s2 NoLst.nil
    refine ⟨_, rfl, x, _, dx, _, rfl, hx2, T_Book.c, T_Book.no _ (by simp), by decide, ?_⟩
    have e1 : putF (Str.ofString "spread_by_name") (V.ref D) [] = [(Str.ofString "spread_by_name", V.ref D)] := rfl
    rw [e1]
    have t3 : SB [x] H2 (upd H2 x (.ins C_Book dx [(Str.ofString "spread_by_name", V.ref D)])) := SB.setG hx2 (by simp) (fun _ z => nomatch z) (fun _ _ z => nomatch z) _
    have nl3 : NoLst H2 [] [x] := fun p hp => .inr fun xs z => by rw [List.mem_singleton.mp hp, hx2] at z; cases z
    have ha3 := ha2.sb t3 nl3
    have hl3 := t3.keep _ _ hl2 (by simpa using hlx)
    have hx3 : upd H2 x (.ins C_Book dx [(Str.ofString "spread_by_name", V.ref D)]) x = some (.ins C_Book dx [(Str.ofString "spread_by_name", V.ref D)]) := upd_same
    have hD3 := t3.keep _ _ hD2 (by simpa using ne_of hD2 hx2 (fun z => nomatch z))
    have s03 := ((s1.trans s2).nil (ps := [x])).trans t3
    generalize upd H2 x (.ins C_Book dx [(Str.ofString "spread_by_name", V.ref D)]) = H3 at t3 ha3 hl3 hx3 hD3 s03
    refine ⟨_, rfl, l, rfl, ⟨_, SqL.of hl3⟩, fun D2 hn2 => ?_⟩
    refine dc_seq (walk_list (xs := xs)) hn2 (by omega) (fun i kvs H4 => ∃ us, kvs = Bk.rowKV (bk.take i) us ∧ Bears K H4 Kd.rowE us (bk.take i)) ⟨[], rfl, .nil⟩ (fun H4 s4 => s4.sqL List.not_mem_nil (SqL.of hl3)) (fun i us H4 H5 s5 ⟨us', e, hb⟩ => ⟨us', e, hb.sb s5 Kd.noList_rowE⟩) (fun Pv i y H4 H' kvs hi s4 yy hR hl4 fin _ => ?_) (fun kvs H4 s4 hD4 hR _ => ?_)
    · obtain ⟨rfl, ey⟩ := yy
      obtain ⟨us, rfl, hb⟩ := hR
      obtain ⟨k, ek, t, r, zs, rfl, h1, h2, h3, _⟩ := ha3.get ey
      refine ⟨t, _, rfl, s4.sqT h1, rfl, _, _, rfl, _, _, rfl, _, _, rfl, rfl, rfl, ?_⟩
      refine ⟨_, rfl, _, rfl, r, zs, rfl, .inl ⟨SqL.of (s4.keep _ _ h2 List.not_mem_nil), fun p hp => ?_⟩⟩
      have t5 := SB.new (ps := []) hp (.tup zs)
      refine fin (Sum.inr k.n) _ _ t5 ⟨us ++ [.ref p], ?_, ?_⟩
      · rw [putK_new, List.take_add_one, ek, Option.toList_some, Bk.rowKV, Bk.rowKV, List.zipWith_append hb.length.symm]
        · rfl
        · intro p hp e
          obtain ⟨j, hj, e2⟩ := rowKV_mem hp
          rw [e2] at e
          injection e with e
          exact Bk.nodup_at ok.nd ek j hj e
      · rw [List.take_add_one, ek, Option.toList_some]
        exact Bears.append (hb.sb t5 Kd.noList_rowE) (.cons (.tup (.inl (.inl upd_same)) (Bears.dp ((h3.sb s4 Ru.noList_enc).sb t5 Ru.noList_enc))) .nil)
    · rw [xlen, List.take_length] at hR
      obtain ⟨us, rfl, hb⟩ := hR
      have hx4 := s4.keep _ _ hx3 List.not_mem_nil
      refine ⟨_, rfl, x, _, dx, _, rfl, hx4, T_Book.c, T_Book.no _ (by simp), by simp, ?_⟩
      have t5 : SB [x] H4 (upd H4 x (.ins C_Book dx (bkF D D2))) := SB.setG hx4 (by simp) (fun _ z => nomatch z) (fun _ _ z => nomatch z) _
      refine q2 _ ((s03.trans s4.nil).trans t5) ⟨x, dx, D, D2, us, rfl, upd_same, ?_, ?_, hb.sb t5 Kd.noList_rowE⟩
      · exact t5.keep _ _ (s4.keep _ _ hD3 List.not_mem_nil) (by simpa using ne_of (s4.keep _ _ hD3 List.not_mem_nil) hx4 (fun z => nomatch z))
      · exact t5.keep _ _ hD4 (by simpa using ne_of hD4 hx4 (fun z => nomatch z))
end
end FT
namespace FT
open PySem PySem.W PySem.Spec PyProof.Rows L2
section
variable {P : Program} {w : World} {K : PySem.W.Frag} {mg : Str → Option Value} {base : Heap} {f : Addr} {fd : FuncData}
abbrev N_Book_names : List Str := ["self"]
theorem sc_Book_names : FnScope N_Book_names ["self"] (defScope s_Book_names) := ⟨rfl, rfl, rfl, by decide +kernel, rfl, by decide +kernel, by decide +kernel⟩
theorem ok_Book_names {C_Book : Addr} (B : BI mg) (T_Book : ClsF K C_Book ["spread_by_name", "rows_by_name"]) (F : Fun K "names" "Book.names" s_Book_names f fd) : FnOk P w K mg base CX0 (1) f fd ["self"] (spBNames K C_Book) := by
  refine F.ok sc_Book_names (fun vs H Q E h => ?_) (fun cdv A outer s H vs Q E hr h => ?_)
  · obtain ⟨v, b, rfl, _⟩ := h
    rfl
  obtain ⟨v, b, rfl, hb, hl, q⟩ := h
  have hun2 : A.units + 3 + 200 < cLine := by have := hr.un; have h3 : (A.deeper (envOfC "Book.names" (defScope s_Book_names) s.heap.objs.size f cdv)).units = A.units + 3 := rfl; omega
  refine ⟨_, pss_one (ps_ret (pe_callTy (call_listD rfl) rfl B.list boot_list (pa_cons (pe_fld (pv 0) rfl) pa_nil))), ?_⟩
  obtain ⟨a, dx, d1, d2, us, rfl, h1, h2, h3, h4⟩ := hb
  refine ⟨_, rfl, a, _, dx, _, _, rfl, h1, T_Book.c, T_Book.no _ (by simp), rfl, d1, _, rfl, .inl h2, fun p hp => ?_⟩
  exact q p _ (SB.new hp _) hp (by rw [upd_same, Bk.spKV, List.map_map, List.map_map]; rfl)
end
end FT
namespace FT
open PySem PySem.W PySem.Spec PyProof.Rows L2
section
variable {P : Program} {w : World} {K : PySem.W.Frag} {mg : Str → Option Value} {base : Heap} {f : Addr} {fd : FuncData}
abbrev N_Book_rules : List Str := ["self", "name"]
theorem sc_Book_rules : FnScope N_Book_rules ["self", "name"] (defScope s_Book_rules) := ⟨rfl, rfl, rfl, by decide +kernel, rfl, by decide +kernel, by decide +kernel⟩
theorem ok_Book_rules {C_Book C_NoKind : Addr} (B : BI mg) (T_Book : ClsF K C_Book ["spread_by_name", "rows_by_name"]) (G_check_kind : GotX P w K mg base "check_kind" ["book", "name"] (3) (spCheckK K C_Book C_NoKind)) (F : Fun K "rules" "Book.rules" s_Book_rules f fd) : FnOk P w K mg base (L2.CX P w) (4) f fd ["self", "name"] (spBRules K C_Book C_NoKind) := by
  refine F.okX sc_Book_rules (fun vs H Q E h => ?_) (fun cdv A outer s H vs Q E hr h => ?_)
  · obtain ⟨v, b, n, rfl, _⟩ := h
    rfl
  obtain ⟨v, b, n, rfl, hb, hl, hr4, qk, qE⟩ := h
  have hun2 : A.units + 3 + 200 < cLine := by have := hr.un; have h3 : (A.deeper (envOfC "Book.rules" (defScope s_Book_rules) s.heap.objs.size f cdv)).units = A.units + 3 := rfl; omega
  refine ⟨_, pss_cons (ps_expr (pe_gotS G_check_kind (hr.mono (by omega)) rfl (takes_of rfl rfl rfl rfl) (pa_cons (pv 0) (pa_cons (pv 1) pa_nil))))
    (pss_one (ps_ret (pe_callTy call_list_of rfl B.list boot_list (pa_cons (pe_dget (by show A.units + 3 + 1 < cLine; omega) (pe_fld (pv 0) rfl) (pv 1) (fun _ _ => rfl)) pa_nil)))), ?_⟩
  refine ⟨_, rfl, _, rfl, _, b, n, rfl, hb, hl, fun k e H1 s1 => ?_, qE⟩
  obtain ⟨a, dx, d1, d2, us, rfl, h1, h2, h3, h4⟩ := hb.sb0 s1
  obtain ⟨u, hv, hu⟩ := Bk.rowKV_val n h4 e
  refine ⟨_, rfl, a, _, dx, _, _, rfl, h1, T_Book.c, T_Book.no _ (by simp), rfl, _, rfl, d2, u, rfl, getK h3 hv, ?_⟩
  cases hu with
  | tup ht hd => exact ⟨_, _, rfl, .inr ht, fun l hl => qk k e l _ _ (s1.trans (SB.new hl _)) (s1.dom l hl) upd_same ((Bears.of hd).sb (SB.new (ps := []) hl _) Ru.noList_enc)⟩
end
end FT
namespace FT
open PySem PySem.W PySem.Spec PyProof.Rows L2
section
variable {P : Program} {w : World} {K : PySem.W.Frag} {mg : Str → Option Value} {base : Heap} {f : Addr} {fd : FuncData}
abbrev N__law_is_choice : List Str := ["_law_thing", "_law_some", "_law_one"]
theorem sc__law_is_choice : FnScope N__law_is_choice ["_law_thing"] (defScope s__law_is_choice) := ⟨rfl, rfl, rfl, by decide +kernel, rfl, by decide +kernel, by decide +kernel⟩
theorem ok__law_is_choice (B : BI mg) (F : Fun K "_law_is_choice" "_law_is_choice" s__law_is_choice f fd) : FnOk P w K mg base CX0 (1) f fd ["_law_thing"] (spIsCh K) := by
  refine F.ok sc__law_is_choice (fun vs H Q E h => ?_) (fun cdv A outer s H vs Q E hr h => ?_)
  · obtain ⟨v, pl, r, rfl, _⟩ := h
    rfl
  obtain ⟨v, pl, r, rfl, hv, hpl, q⟩ := h
  have hun2 : A.units + 3 + 200 < cLine := by have := hr.un; have h3 : (A.deeper (envOfC "_law_is_choice" (defScope s__law_is_choice) s.heap.objs.size f cdv)).units = A.units + 3 := rfl; omega
  refine ⟨_, pss_cons (ps_if (PW.pt (pw_or (pt_not (pt_val (pe_isi B (pv 0) B.tuple boot_tuple))) (pw_or (pt_cmpR op_ne (pe_callB call_len_seq rfl B.len PySem.boot_len (pa_cons (pv 0) pa_nil)) pe_int (nomark _)) (pw_or1 (pt_not (pt_val (pe_isi B (pe_ix ix_tup (pv 0) pe_int (fun _ _ => rfl)) B.tuple boot_tuple))))))) (pss_one (ps_ret pe_bl)) pss_nil)
    (pss_cons (ps_set (i := 1) sc__law_is_choice.nd rfl (.inl rfl) (pe_op op_catB (pe_ix ix_tup (pv 0) pe_int (fun _ _ => rfl)) (pe_slice sl_tupB (pv 0) (po_some pe_int) po_none)))
    (pss_one (ps_ret (pe_cmpR (op_eqD (by show A.units + 3 + 64 < cLine; omega)) (pe_lc (own := [("_law_one", 2)]) (g := (gName 2)) (tt := (tOr (tNot (tB (tCB (rIsiN K) (tCons (tVar 2) (tCons (tC (.ty "int")) tNil))))) (tB (tCB (rIsiN K) (tCons (tVar 2) (tCons (tC (.ty "bool")) tNil)))))) (te := (tVar 2)) rfl sc__law_is_choice.nd (pi_tup (pv 1)) (blkOk_by (N := N__law_is_choice) (sc := defScope s__law_is_choice) (by decide +kernel)) (fun _ _ _ _ _ => (pg_name (i := 2) sc__law_is_choice.nd rfl (.inl rfl))) (fun _ _ _ _ _ => (pts_one (PW.pt (pw_or (pt_not (pt_val (pe_isi B (pv 2) B.int boot_int))) (pw_or1 (pt_val (pe_isi B (pv 2) B.bool boot_bool))))))) (fun _ _ _ _ _ => (pv 2))) (pe_lst pa_nil) (nomark _))))), ?_⟩
  have szl := sizeLine_eq
  cases (hv : Dp K H v (.tuple [plEnc pl, .int (r : Int)])) with
  | @tup ad us' _ hs' hda =>
  cases hda with
  | cons g1 hda =>
  cases hda with
  | cons g2 hda =>
  cases hda
  cases g2
  obtain ⟨pa, rfl, hpa⟩ := PL_ints g1
  refine ⟨_, rfl, _, _, "tuple", true, rfl, SqT_ty hs', by decide +kernel, _, rfl, iteF ?_⟩
  refine ⟨_, rfl, ad, _, rfl, .inr hs', rfl, _, rfl, ?_⟩
  refine iteF ?_
  refine ⟨_, rfl, ad, _, _, _, rfl, rfl, hs', atI_nat (j := 0) rfl, _, _, "tuple", true, rfl, SqT_ty hpa, by decide +kernel, _, rfl, iteF ?_⟩
  refine ⟨_, rfl, ad, _, _, _, rfl, rfl, hs', atI_nat (j := 0) rfl, _, rfl, _, rfl, ad, _, rfl, hs', fun c H1 s1 hc => ?_⟩
  refine ⟨pa, c, _, _, rfl, rfl, s1.sqT hpa, hc, ?_, fun c2 H2 s2 hc2 => ?_⟩
  · rw [List.length_map]
    have := small5 (n := pl.length + 1) (by omega)
    show pl.length + 1 ≤ _
    omega
  have ecut : cutV [V.ref pa, V.int (r : Int)] (some 1) none = [V.int (r : Int)] := rfl
  rw [ecut] at hc2
  have s02 := s1.trans s2
  refine ⟨_, rfl, c2, rfl, ⟨_, hc2⟩, fun D nD => ?_⟩
  refine lc_seq (walk_tup (xs := pl.map (fun n : Nat => V.int (n : Int)) ++ [V.int (r : Int)])) nD (by rw [List.length_append, List.length_map]; show _ + 1 < _; omega) (fun j us _ => us = []) rfl (fun H3 s3 => s3.sqT hc2) (fun _ _ _ _ _ h => h) (fun Pv j x Hq H3 us hj s3 y hR hu fin skip => ?_) (fun us H3 s3 hD3 hR hu => ?_)
  · obtain ⟨rfl, ey⟩ := y
    obtain ⟨z, rfl⟩ : ∃ z : Int, x = .int z := by
      rcases List.mem_append.mp (List.mem_of_getElem? ey) with h | h
      · obtain ⟨n, _, rfl⟩ := List.mem_map.mp h
        exact ⟨_, rfl⟩
      · exact ⟨_, List.mem_singleton.mp h⟩
    refine ⟨rfl, _, rfl, _, _, "int", true, rfl, .base (.int z), by decide +kernel, _, rfl, iteF ?_⟩
    exact ⟨_, rfl, _, _, "int", false, rfl, .base (.int z), by decide +kernel, _, rfl, iteF (skip _ SB.refl hR)⟩
  · subst hR
    refine ⟨by show 0 ≤ sizeLine; decide, fun L hL => ?_⟩
    have t4 := SB.new (ps := []) hL (.lst [])
    refine ⟨.list [], .list [], .lst (t4.sqL List.not_mem_nil (SqL.of hD3)) .nil, .lst (SqL.of upd_same) .nil, by decide +kernel, by decide +kernel, ?_⟩
    rw [show PyData.eqv (.list []) (.list []) = true by simp [PyData.eqv, PyData.eqvAll]]
    exact q _ ((s02.trans s3).trans t4)
abbrev N_law : List Str := ["_law_script", "_law_names_here", "_law_kinds_here", "_law_grove_here", "_law_due", "_law_place", "_law_name", "_law_handed", "_law_book", "_law_wild", "_law_rules", "_law_turn", "_law_told", "_law_many_here", "_law_turned", "_law_later", "_law_rule", "_law_one", "_law_k"]
theorem sc_law : FnScope N_law ["_law_script"] (defScope s_law) := ⟨rfl, rfl, rfl, by decide +kernel, rfl, by decide +kernel, by decide +kernel⟩
theorem ok_law {C_Book C_NoBook C_NoKind : Addr} (B : BI mg) (G__law_names : Got P w K mg base "_law_names" ["_law_purse_here", "_law_many_here"] (2) (spWords K)) (G__law_take : Got P w K mg base "_law_take" ["_law_purse_here", "_law_many_here"] (1) (spTakeW)) (G__law_purse : Got P w K mg base "_law_purse" ["_law_script", "_law_k"] (1) (spPurseW K)) (G__law_kinds : Got P w K mg base "_law_kinds" ["_law_script", "_law_names_here"] (16) (spKindsP K)) (G__law_grove : Got P w K mg base "_law_grove" ["_law_script", "_law_names_here"] (16) (spGroveP K)) (G__law_bare : Got P w K mg base "_law_bare" ["_law_grove_here", "_law_ahead"] (20) (spBareL K 20)) (G__law_kind : Got P w K mg base "_law_kind" ["_law_kinds_here", "_law_name"] (1) (spKindP K)) (G_Book___init__ : GotI P w K mg base "Book" C_Book ["self", "kinds"] (88) (spBInit K C_Book C_NoBook)) (G_choices : GotX P w K mg base "choices" ["book", "grove"] (23) (spChoices K C_Book C_NoKind)) (G__law_is_choice : Got P w K mg base "_law_is_choice" ["_law_thing"] (1) (spIsCh K)) (F : Fun K "law" "law" s_law f fd) : FnOk P w K mg base CX0 (95) f fd ["_law_script"] (spLaw K) := by
  refine F.ok sc_law (fun vs H Q E h => ?_) (fun cdv A outer s H vs Q E hr h => ?_)
  · obtain ⟨a, ns, rfl, _⟩ := h
    rfl
  obtain ⟨a, ns, rfl, hs, nl, q⟩ := h
  have hun2 : A.units + 3 + 200 < cLine := by have := hr.un; have h3 : (A.deeper (envOfC "law" (defScope s_law) s.heap.objs.size f cdv)).units = A.units + 3 := rfl; omega
  refine ⟨_, pss_cons (ps_set (i := 1) sc_law.nd rfl (.inl rfl) (pe_got G__law_names (hr.mono (by omega)) rfl (pa_cons (pe_got G__law_purse (hr.mono (by omega)) rfl (pa_cons (pv 0) (pa_cons pe_int pa_nil))) (pa_cons (pe_op op_add pe_int (pe_got G__law_take (hr.mono (by omega)) rfl (pa_cons (pe_got G__law_purse (hr.mono (by omega)) rfl (pa_cons (pv 0) (pa_cons pe_int pa_nil))) (pa_cons pe_int pa_nil)))) pa_nil))))
    (pss_cons (ps_set (i := 2) sc_law.nd rfl (.inr rfl) (pe_got G__law_kinds (hr.mono (by omega)) rfl (pa_cons (pv 0) (pa_cons (pv 1) pa_nil))))
    (pss_cons (ps_set (i := 3) sc_law.nd rfl (.inl rfl) (pe_got G__law_grove (hr.mono (by omega)) rfl (pa_cons (pv 0) (pa_cons (pv 1) pa_nil))))
    (pss_cons (ps_set (i := 4) sc_law.nd rfl (.inl rfl) (pe_lst pa_nil))
    (pss_cons (ps_for PassesOwn.never rfl (pi_list (pe_got G__law_bare (hr.mono (by omega)) rfl (pa_cons (pv 3) (pa_cons (pe_tup pa_nil) pa_nil)))) (pg_tup rfl (pgs_cons (pg_name (i := 5) sc_law.nd rfl (.inr rfl)) (pgs_cons (pg_name (i := 6) sc_law.nd rfl (.inl rfl)) pgs_nil)))
      (pss_one (ps_set (i := 4) sc_law.nd rfl (.inl rfl) (pe_op op_cat (pv 4) (pe_lc (own := [("_law_rule", 16)]) (g := (gName 16)) (tt := tYes) (te := (tTup (tCons (tVar 5) (tCons (tVar 16) tNil)))) rfl sc_law.nd (pi_range1 rfl B.range (pa_cons (pe_op op_add (pe_callB call_len_seq rfl B.len PySem.boot_len (pa_cons (pe_ix ix_tup (pe_got G__law_kind (hr.mono (by omega)) rfl (pa_cons (pv 2) (pa_cons (pv 6) pa_nil))) pe_int (fun _ _ => rfl)) pa_nil)) pe_int) pa_nil)) (blkOk_by (N := N_law) (sc := defScope s_law) (by decide +kernel)) (fun _ _ _ _ _ => (pg_name (i := 16) sc_law.nd rfl (.inl rfl))) (fun _ _ _ _ _ => pts_nil) (fun _ _ _ _ _ => (pe_tup (pa_cons (pv 5) (pa_cons (pv 16) pa_nil)))))))))
    (pss_cons (ps_setLc (i := 7) (own := [("_law_name", 6), ("_law_wild", 9), ("_law_rules", 10)]) (g := (gTup K 3 (gCons (gName 6) (gCons (gName 9) (gCons (gName 10) gNil))))) (tt := tYes) (te := (tTup (tCons (tVar 6) (tCons (tVar 9) (tCons (tCB (fun xs H Q => ∃ p ys, xs = [.ref p] ∧ (SqL K H p ys ∨ SqT K H p ys) ∧ ∀ l, H l = none → Q (.ref l) (upd H l (.lst ys))) (tCons (tVar 10) tNil)) tNil))))) rfl sc_law.nd rfl rfl (sw_true rfl rfl rfl (by decide +kernel)) (pi_list (pv 2)) (blkOk_by (N := N_law) (sc := defScope s_law) (by decide +kernel)) (fun _ _ _ _ _ => (pg_tup rfl (pgs_cons (pg_name (i := 6) sc_law.nd rfl (.inl rfl)) (pgs_cons (pg_name (i := 9) sc_law.nd rfl (.inl rfl)) (pgs_cons (pg_name (i := 10) sc_law.nd rfl (.inl rfl)) pgs_nil))))) (fun _ _ _ _ _ => pts_nil) (fun _ _ _ _ _ => (pe_tup (pa_cons (pv 6) (pa_cons (pv 9) (pa_cons (pe_callTy call_list_of rfl B.list boot_list (pa_cons (pv 10) pa_nil)) pa_nil))))))
    (pss_cons (ps_set (i := 8) sc_law.nd rfl (.inl rfl) (pe_gotI G_Book___init__ (hr.mono (by omega)) rfl (pa_cons (pv 7) pa_nil)))
    (pss_cons (ps_for PassesOwn.never rfl (pi_list (pv 7)) (pg_tup rfl (pgs_cons (pg_name (i := 6) sc_law.nd rfl (.inl rfl)) (pgs_cons (pg_name (i := 9) sc_law.nd rfl (.inl rfl)) (pgs_cons (pg_name (i := 10) sc_law.nd rfl (.inl rfl)) pgs_nil))))
      (pss_one (ps_expr (pe_bm0 PySem.F.plainAttrs_list PySem.F.slot_list_clear PySem.F.type_list_clear mt_clear (pv 10)))))
    (pss_cons (ps_expr (pe_bm0 PySem.F.plainAttrs_list PySem.F.slot_list_clear PySem.F.type_list_clear mt_clear (pv 7)))
    (pss_cons (ps_for PassesOwn.never rfl (pi_range1 rfl B.range (pa_cons pe_int pa_nil)) (pg_name (i := 11) sc_law.nd rfl (.inl rfl))
      (pss_cons (ps_set (i := 12) sc_law.nd rfl (.inl rfl) (pe_gotX G_choices (hr.mono (by omega)) rfl (pa_cons (pv 8) (pa_cons (pv 3) pa_nil))))
    (pss_cons (ps_if (PW.pt (pw_or (pt_not (pt_val (pe_isi B (pv 12) B.list boot_list))) (pw_or1 (pt_cmpR (op_neD (by show A.units + 3 + 64 < cLine; omega)) (pv 12) (pv 4) (nomark _))))) (pss_one (ps_ret pe_bl)) pss_nil)
    (pss_cons (ps_if (pt_not (pt_val (pe_callB (cr_all rfl) rfl B.all boot_all (pa_cons (pe_lc (own := [("_law_one", 17)]) (g := (gName 17)) (tt := tYes) (te := (tCall (spIsCh K) [] E0 (tCons (tVar 17) tNil))) rfl sc_law.nd (pi_list (pv 12)) (blkOk_by (N := N_law) (sc := defScope s_law) (by decide +kernel)) (fun _ _ _ _ _ => (pg_name (i := 17) sc_law.nd rfl (.inl rfl))) (fun _ _ _ _ _ => pts_nil) (fun _ _ _ _ _ => (pe_got G__law_is_choice (hr.mono (by omega)) rfl (pa_cons (pv 17) pa_nil)))) pa_nil)))) (pss_one (ps_ret pe_bl)) pss_nil)
    (pss_cons (ps_expr (pe_bm0 PySem.F.plainAttrs_list PySem.F.slot_list_clear PySem.F.type_list_clear mt_clear (pv 12)))
    (pss_cons (ps_set (i := 13) sc_law.nd rfl (.inr rfl) (pe_callB call_len_seq rfl B.len PySem.boot_len (pa_cons (pv 2) pa_nil)))
    (pss_cons (ps_setLc (i := 14) (own := [("_law_k", 18)]) (g := (gName 18)) (tt := tYes) (te := (tTup (tCons (tOp (rIxT K) (tOp (rIxL K) (tVar 2) (tVar 18)) (tC (.int 0))) (tCons (tOp (rIxT K) (tOp (rIxL K) (tVar 2) (tVar 18)) (tC (.int 1))) (tCons (tOp (rIxT K) (tOp (rIxL K) (tVar 2) (tOp (rI (fun _ j => 0 < j) fun i j => .int (i % j)) (tOp (rI0 fun i j => .int (i + j)) (tVar 18) (tC (.int 1))) (tVar 13))) (tC (.int 2))) tNil))))) rfl sc_law.nd rfl rfl (sw_true rfl rfl rfl (by decide +kernel)) (pi_range1 rfl B.range (pa_cons (pv 13) pa_nil)) (blkOk_by (N := N_law) (sc := defScope s_law) (by decide +kernel)) (fun _ _ _ _ _ => (pg_name (i := 18) sc_law.nd rfl (.inl rfl))) (fun _ _ _ _ _ => pts_nil) (fun _ _ _ _ _ => (pe_tup (pa_cons (pe_ix ix_tup (pe_ix ix_list (pv 2) (pv 18) (fun _ _ => rfl)) pe_int (fun _ _ => rfl)) (pa_cons (pe_ix ix_tup (pe_ix ix_list (pv 2) (pv 18) (fun _ _ => rfl)) pe_int (fun _ _ => rfl)) (pa_cons (pe_ix ix_tup (pe_ix ix_list (pv 2) (pe_op op_mod (pe_op op_add (pv 18) pe_int) (pv 13)) (fun _ _ => rfl)) pe_int (fun _ _ => rfl)) pa_nil))))))
    (pss_cons (ps_set (i := 15) sc_law.nd rfl (.inl rfl) (pe_lst pa_nil))
    (pss_cons (ps_for PassesOwn.never rfl (pi_list (pe_got G__law_bare (hr.mono (by omega)) rfl (pa_cons (pv 3) (pa_cons (pe_tup pa_nil) pa_nil)))) (pg_tup rfl (pgs_cons (pg_name (i := 5) sc_law.nd rfl (.inr rfl)) (pgs_cons (pg_name (i := 6) sc_law.nd rfl (.inl rfl)) pgs_nil)))
      (pss_one (ps_set (i := 15) sc_law.nd rfl (.inl rfl) (pe_op op_cat (pv 15) (pe_lc (own := [("_law_rule", 16)]) (g := (gName 16)) (tt := tYes) (te := (tTup (tCons (tVar 5) (tCons (tVar 16) tNil)))) rfl sc_law.nd (pi_range1 rfl B.range (pa_cons (pe_op op_add (pe_callB call_len_seq rfl B.len PySem.boot_len (pa_cons (pe_ix ix_tup (pe_got G__law_kind (hr.mono (by omega)) rfl (pa_cons (pv 14) (pa_cons (pv 6) pa_nil))) pe_int (fun _ _ => rfl)) pa_nil)) pe_int) pa_nil)) (blkOk_by (N := N_law) (sc := defScope s_law) (by decide +kernel)) (fun _ _ _ _ _ => (pg_name (i := 16) sc_law.nd rfl (.inl rfl))) (fun _ _ _ _ _ => pts_nil) (fun _ _ _ _ _ => (pe_tup (pa_cons (pv 5) (pa_cons (pv 16) pa_nil)))))))))
    (pss_one (ps_if (pt_cmpR (op_neD (by show A.units + 3 + 64 < cLine; omega)) (pe_gotX G_choices (hr.mono (by omega)) rfl (pa_cons (pe_gotI G_Book___init__ (hr.mono (by omega)) rfl (pa_cons (pe_lc (own := [("_law_name", 6), ("_law_wild", 9), ("_law_rules", 10)]) (g := (gTup K 3 (gCons (gName 6) (gCons (gName 9) (gCons (gName 10) gNil))))) (tt := tYes) (te := (tTup (tCons (tVar 6) (tCons (tVar 9) (tCons (tCB (fun xs H Q => ∃ p ys, xs = [.ref p] ∧ (SqL K H p ys ∨ SqT K H p ys) ∧ ∀ l, H l = none → Q (.ref l) (upd H l (.lst ys))) (tCons (tVar 10) tNil)) tNil))))) rfl sc_law.nd (pi_list (pv 14)) (blkOk_by (N := N_law) (sc := defScope s_law) (by decide +kernel)) (fun _ _ _ _ _ => (pg_tup rfl (pgs_cons (pg_name (i := 6) sc_law.nd rfl (.inl rfl)) (pgs_cons (pg_name (i := 9) sc_law.nd rfl (.inl rfl)) (pgs_cons (pg_name (i := 10) sc_law.nd rfl (.inl rfl)) pgs_nil))))) (fun _ _ _ _ _ => pts_nil) (fun _ _ _ _ _ => (pe_tup (pa_cons (pv 6) (pa_cons (pv 9) (pa_cons (pe_callTy call_list_of rfl B.list boot_list (pa_cons (pv 10) pa_nil)) pa_nil)))))) pa_nil)) (pa_cons (pv 3) pa_nil))) (pv 15) (nomark _)) (pss_one (ps_ret pe_bl)) pss_nil)))))))))))
    (pss_one (ps_ret pe_bl))))))))))), ?_⟩
  have szl := sizeLine_eq
  refine ⟨_, rfl, a, ns, 0, rfl, hs, nl, by omega, fun p1 H1 s1 np1 hp1 => ?_⟩
  refine ⟨_, rfl, a, ns, 8, rfl, s1.sqL List.not_mem_nil hs, nl, by omega, fun p2 H2 s2 np2 hp2 => ?_⟩
  refine ⟨p2, 6, rfl, hp2, by decide, by decide, fun r3 H3 r30 r36 s3 hp3 => ?_⟩
  obtain ⟨m, hm, m1, m8⟩ : ∃ m : Nat, 1 + r3 = (m : Int) ∧ 1 ≤ m ∧ m ≤ 8 := ⟨(1 + r3).toNat, by omega, by omega, by omega⟩
  have p12 : p1 ≠ p2 := hp1.ne np2
  have hp13 : PuW H3 p1 := (hp1.sb s2).keep s3 (by simpa using p12)
  refine ⟨_, _, rfl, rfl, p1, m, by simp only [hm]; rfl, hp13, m1, m8, fun cl ks H4 s4 _ ncl hcl kl kn knd => ?_⟩
  have s14 : SB [p1] H1 H4 := (((s2.nil (ps := [p2])).trans s3).drop np2).nil.trans s4
  have s04 : SB [] H H4 := ((s1.nil (ps := [p1])).trans s14).drop np1
  clear s14 s4 s3 s2 s1 hp13 hp3 hp2 hp1
  refine ⟨_, rfl, _, rfl, a, cl, ns, ks, rfl, s04.sqL List.not_mem_nil hs, nl, hcl, by omega, by omega, knd, kn, fun kh xs b H5 s5 nkh hkh hb0 ok pn => ?_⟩
  have s05 := s04.trans s5
  refine ⟨_, rfl, _, rfl, a, cl, ns, ks, rfl, s05.sqL List.not_mem_nil hs, nl, s5.keep _ _ hcl List.not_mem_nil, by omega, kn, fun gv g H6 s6 hg gok gp gd gw => ?_⟩
  have b8 := ok.len
  have b1 := ok.pos
  have hkh6 := s6.keep _ _ hkh List.not_mem_nil
  have hb6 : KdAll K H6 [] xs b := (hb0.less (bad' := []) (by simp)).sb s6 NoLst.nil
  have xl := hb6.length
  have gnm : ∀ x ∈ g.within, x.1.1 ∈ b.names := fun x hx => pn.mem_iff.mpr (gw x hx)
  have gno : ∀ x ∈ g.within, NameOk x.1.1 := fun x hx => kn _ (gw x hx)
  have gok1 : g.Ok (10 ^ 31) := Gr.Ok.mono (by decide) gok
  have bks : ∀ x ∈ g.bk 0, x.2 ∈ b.names := fun x hx => by
    have h1 : x.2 ∈ (g.ak 0).map (·.2) := List.mem_map.mpr ⟨x, Gr.bk_ak g 0 x hx, rfl⟩
    rw [Gr.ak_kinds] at h1
    obtain ⟨p, hp, e⟩ := List.mem_map.mp h1
    rw [← e]; exact gnm p hp
  have bkl := g.bk_len 0
  have cl5 : ∀ (c : Bk), (∀ k ∈ c, k.rs.length ≤ 4) → ∀ ys : List (Pl × Str), (ys.flatMap (chs c)).length ≤ 5 * ys.length := by
    intro c hc ys
    induction ys with
    | nil => simp
    | cons x ys ih =>
      have h3 : c.cnt x.2 ≤ 5 := by
        unfold Bk.cnt
        split
        · rename_i k e
          have := hc k (Bk.get_some e).1
          omega
        · omega
      have h4 : (chs c x).length = c.cnt x.2 := by unfold chs; rw [List.length_map, List.length_range]
      rw [List.flatMap_cons, List.length_append, List.length_cons, h4]
      omega
  have r4 : ∀ k ∈ b, k.rs.length ≤ 4 := fun k hk => (ok.kd k hk).2.1
  have okt := ok.turn
  have r4t : ∀ k ∈ b.turn, k.rs.length ≤ 4 := fun k hk => (okt.kd k hk).2.1
  have s06 := s05.trans s6
  clear s05 s5 s6 s04 hb0 hkh hcl
  refine ⟨by show 0 ≤ sizeLine; decide, fun E0 nE0 => ?_⟩
  have u1 := SB.new (ps := []) nE0 (.lst [])
  have hE1 : upd H6 E0 (.lst []) E0 = some (.lst []) := upd_same
  generalize upd H6 E0 (.lst []) = G1 at u1 hE1
  refine ⟨_, rfl, by show 0 ≤ sizeLine; decide, fun e0 ne0 => ?_⟩
  have u2 := SB.new (ps := []) ne0 (.tup [])
  have he2 : SqT K (upd G1 e0 (.tup [])) e0 [] := SqT.of upd_same
  generalize upd G1 e0 (.tup []) = G2 at u2 he2
  have u12 := u1.trans u2
  refine ⟨gv, .ref e0, g, [], rfl, GA.sb hg u12, .tup he2 .nil, by omega, by show g.deep + 0 ≤ 20; omega, gp, gok1, fun BL us G3 u3 nBL hBL hbb => ?_⟩
  have u13 := u12.trans u3
  have hE3 := u3.keep _ _ (u2.keep _ _ hE1 List.not_mem_nil) List.not_mem_nil
  have ebk : (g.bk 0).map (fun x => (([] : Pl) ++ x.1, x.2)) = g.bk 0 := by simp
  rw [ebk] at hbb
  have ul := hbb.length
  refine ⟨BL, rfl, ⟨_, SqL.of hBL⟩, ?_⟩
  refine for_it (walk_list (xs := us)) (fun i σ G4 => SB [] G3 G4 ∧ ∃ (E : Addr) (ws : List V) (o5 o6 : Option V), σ = [some (.ref a), some (.ref cl), some (.ref kh), some gv, some (.ref E), o5, o6, none, none, none, none, none, none, none, none, none, none, none, none] ∧ H6 E = none ∧ G4 E = some (.lst ws) ∧ Bears K G4 chE ws (((g.bk 0).take i).flatMap (chs b)))
    ⟨SB.refl, E0, [], _, _, rfl, nE0, hE3, .nil⟩ (fun i σ G4 hi h4 => h4.1.sqL List.not_mem_nil (SqL.of hBL)) (fun i x σ Gq G4 hi h4 y => ?_) (fun σ G4 h4 => ?_)
  · obtain ⟨u4, E, ws, o5, o6, rfl, nE, hE4, hb4⟩ := h4
    obtain ⟨rfl, ey⟩ := y
    obtain ⟨x, ex, hx⟩ := hbb.get ey
    have xm := List.mem_of_getElem? ex
    cases (hx : Dp K G3 _ (.tuple [plEnc x.1, .str x.2])) with
    | @tup ad us' _ hs' hda =>
    cases hda with
    | cons g1 hda =>
    cases hda with
    | cons g2 hda =>
    cases hda
    cases g2
    rename_i pv
    obtain ⟨kd, eg⟩ := Bk.get_of (b := b) (bks x xm)
    obtain ⟨km, en⟩ := Bk.get_some eg
    have k4 := r4 kd km
    have ecn : Bk.cnt b x.2 = 1 + kd.rs.length := by unfold Bk.cnt; rw [eg]
    have wl := hb4.length
    have hcl := cl5 b r4 ((g.bk 0).take i)
    rw [List.length_take] at hcl
    have u14 := u13.trans u4
    refine ⟨ad, _, rfl, u4.sqT hs', rfl, _, _, rfl, _, _, rfl, rfl, ?_⟩
    refine ⟨_, rfl, _, rfl, _, rfl, kh, xs, b, kd, by rw [en]; rfl, u14.keep _ _ hkh6 List.not_mem_nil, KdAll.sb u14 NoLst.nil hb6, km, ok.nd, b8, fun kv G5 u5 hkd => ?_⟩
    obtain ⟨t, r, rz, rfl, h1, h2, h3, _⟩ := hkd
    have rl := h3.length
    refine ⟨t, _, _, _, rfl, rfl, h1, atI_nat (j := 2) rfl, r, rz, rfl, .inl (SqL.of h2), _, _, rfl, rfl, _, rfl, by omega, by omega, fun L nL => ?_⟩
    have re : ((rz.length : Int) + 1).toNat = 1 + kd.rs.length := by omega
    refine lc_seq (walk_range (lo := 0) (n := ((rz.length : Int) + 1).toNat)) nL (by omega) (fun j us7 H7 => Bears K H7 chE us7 ((List.range j).map fun r => (x.1, r))) .nil (fun _ _ => trivial) (fun _ _ _ _ e h => h.sb e chE_noList) (fun Pv j z Hq H7 us7 hj s7 y hR7 hu7 fin _ => ?_) (fun us7 H7 s7 hL7 hR7 hu7 => ?_)
    · obtain ⟨rfl, rfl⟩ := y
      refine ⟨rfl, _, rfl, _, rfl, by show 2 ≤ sizeLine; decide, fun T hT => ?_⟩
      refine fin _ _ (SB.new (ps := []) hT _) ?_
      rw [List.range_succ, List.map_append]
      refine Bears.append (hR7.sb (SB.new (ps := []) hT _) chE_noList) (.cons ?_ .nil)
      refine .tup (SqT.of upd_same) (.cons (Dp_sb (SB.new (ps := []) hT _) _ _ (pl_noList _) (Dp_sb ((u4.trans u5).trans s7) _ _ (pl_noList _) g1)) (.cons ?_ .nil))
      show Dp K _ (.int (0 + (j : Int))) (.int ((j : Nat) : Int))
      rw [Int.zero_add]; exact .int _
    · rw [re, ← ecn] at hR7
      have hR7 : Bears K H7 chE us7 (chs b x) := hR7
      have u7 := hR7.length
      have cxl : (chs b x).length = 1 + kd.rs.length := by unfold chs; rw [List.length_map, List.length_range, ecn]
      have u47 := u5.trans s7
      have hE7 := u47.keep _ _ hE4 List.not_mem_nil
      refine ⟨E, L, _, _, rfl, rfl, hE7, hL7, by omega, fun M nM => ?_⟩
      have t8 := SB.new (ps := []) nM (.lst (ws ++ us7))
      refine ⟨(u4.trans u47).trans t8, M, _, _, _, rfl, (u14.trans u47).dom _ nM, upd_same, ?_⟩
      rw [List.take_add_one, ex, List.flatMap_append]
      refine Bears.append ((hb4.sb u47 chE_noList).sb t8 chE_noList) ?_
      simpa using hR7.sb t8 chE_noList
  obtain ⟨u4, DE, dws, o5a, o6a, rfl, nDE, hDE, hbDE⟩ := h4
  rw [ul, List.take_length] at hbDE
  have sd := u13.trans u4
  clear u4 u13 u12 u1 u2 u3 hE1 hE3 he2 hbb hBL nBL nE0 ne0 ul ebk
  have nDE6 := nDE
  have hkd := sd.keep _ _ hkh6 List.not_mem_nil
  have hbd := hb6.sb sd NoLst.nil
  have hgd := GA.sb hg sd
  dsimp only
  refine seqI (asgI (copy_lc (i := 2) (a1 := 6) (a2 := 9) (a3 := 10) rfl (fun _ _ _ => rfl) (fun _ _ _ => rfl) (fun _ _ _ => rfl) (fun _ _ _ => rfl) hkd hbd b8 fun D us ls He se nD hD hKD Dls hls hus => ?_))
  refine nameI (seqI (asgI (make_var (i := 7) rfl hD hKD ok fun y Hf sf ny hbk => ?_)))
  have hDf := sf.keep _ _ hD List.not_mem_nil
  have hlsf : ∀ p ∈ ls, ∃ zs, Hf p = some (.lst zs) := fun p hp => (hls p hp).2.imp fun zs hz => sf.keep _ _ hz List.not_mem_nil
  have husf : ∀ u ∈ us, ∃ t x y l, u = .ref t ∧ SqT K Hf t [x, y, .ref l] ∧ l ∈ ls := fun u hu => by
    obtain ⟨t, x, y, l, e, h5, h6⟩ := hus u hu
    exact ⟨t, x, y, l, e, sf.sqT h5, h6⟩
  refine nameI ⟨_, rfl, D, rfl, ⟨_, SqL.of hDf⟩, ?_⟩
  refine for_it (walk_list (xs := us)) (fun i σ H2 => SB ls Hf H2 ∧ (∀ p ∈ ls, ∃ zs, H2 p = some (.lst zs)) ∧ ∃ o6 o9 o10, σ = [some (.ref a), some (.ref cl), some (.ref kh), some gv, some (.ref DE), o5a, o6, some (.ref D), some (.ref y), o9, o10, none, none, none, none, none, none, none, none])
    ⟨SB.refl, hlsf, _, _, _, rfl⟩ (fun i σ H2 hi h2 => h2.1.sqL Dls (SqL.of hDf)) (fun i x σ Hq H2 hi h2 y => ?_) (fun σ H2 h2 => ?_)
  · obtain ⟨s2, hl2, o6, o9, o10, rfl⟩ := h2
    obtain ⟨rfl, ey⟩ := y
    obtain ⟨t, x1, y1, l, rfl, h5, h6⟩ := husf _ (List.mem_of_getElem? ey)
    obtain ⟨zs, hz⟩ := hl2 l h6
    refine ⟨t, _, rfl, s2.sqT h5, rfl, _, _, rfl, _, _, rfl, _, _, rfl, rfl, ?_⟩
    refine ⟨_, rfl, .inl ⟨rfl, _, SqL.of hz⟩, l, _, rfl, rfl, hz, ?_⟩
    refine ⟨s2.trans (SB.set hz h6 _), fun p hp => ?_, _, _, _, rfl⟩
    by_cases e : p = l
    · rw [e]; exact ⟨_, upd_same⟩
    · rw [upd_ne e]; exact hl2 p hp
  obtain ⟨s2, hl2, o6b, o9b, o10b, rfl⟩ := h2
  have hD2 := s2.keep _ _ hDf Dls
  refine ⟨_, rfl, .inl ⟨rfl, _, SqL.of hD2⟩, D, _, rfl, rfl, hD2, ?_⟩
  have s3 : SB (D :: ls) Hf (upd H2 D (.lst [])) := (s2.mono fun p hp => List.mem_cons_of_mem _ hp).trans (SB.set hD2 List.mem_cons_self _)
  have nls : ∀ p ∈ D :: ls, G4 p = none := fun p hp => by
    rcases List.mem_cons.mp hp with e | e
    · rw [e]; exact nD
    · exact (hls p e).1
  have sc : SB [] G4 (upd H2 D (.lst [])) := (((se.trans sf).nil (ps := D :: ls)).trans s3).drops nls
  have lst3 : Lsts Hf (D :: ls) := fun p hp => by
    rcases List.mem_cons.mp hp with e | e
    · rw [e]; exact .inr ⟨_, hDf⟩
    · exact .inr (hlsf p e)
  have hbk3 := hbk.sb s3 lst3
  generalize upd H2 D (.lst []) = Hc at s3 sc hbk3
  have hkc := sc.keep _ _ hkd List.not_mem_nil
  have hbc := hbd.sb sc NoLst.nil
  have hgc := GA.sb hgd sc
  have hDEc := sc.keep _ _ hDE List.not_mem_nil
  have hbDEc := hbDE.sb sc chE_noList
  clear s3 s2 hl2 hD2 hDf hlsf husf hD hKD hus lst3 hbk hbDE hDE hgd hbd hkd se sf
  refine ⟨_, rfl, by decide, by decide, ?_⟩
  refine for_it walk_range (fun i σ H2 => SB [] Hc H2 ∧ ∃ o5 o6 o9 o10 o11 o12 o13 o14 o15, σ = [some (.ref a), some (.ref cl), some (.ref kh), some gv, some (.ref DE), o5, o6, some (.ref D), some (.ref y), o9, o10, o11, o12, o13, o14, o15, none, none, none])
    ⟨SB.refl, _, _, _, _, _, _, _, _, _, rfl⟩ (fun _ _ _ _ _ => trivial) (fun it x σ Hq I0 hit h2 y => ?_) (fun σ I0 h2 => ?_)
  · obtain ⟨s0, o5, o6, o9, o10, o11, o12, o13, o14, o15, rfl⟩ := h2
    obtain ⟨rfl, rfl⟩ := y
    refine ⟨_, rfl, _, rfl, _, gv, b, g, rfl, hbk3.sb0 s0, hgc.sb s0, ok, by omega, gp, gno, gnm, fun TL ts I1 s1 nTL hTL hbT => ?_⟩
    have s01 := s0.trans s1
    have tl5 := cl5 b r4 (g.bk 0)
    have tln := hbT.length
    refine ⟨_, rfl, _, _, "list", true, rfl, SqL_ty (SqL.of hTL), by decide +kernel, _, rfl, iteF ?_⟩
    refine ⟨_, rfl, _, rfl, .list (((g.bk 0).flatMap (chs b)).map chE), .list (((g.bk 0).flatMap (chs b)).map chE), .lst (SqL.of hTL) hbT.dp, .lst (SqL.of (s01.keep _ _ hDEc List.not_mem_nil)) (hbDEc.sb s01 chE_noList).dp, chs_shaped _, chs_shaped _, ?_⟩
    rw [plain_eqv (chs_pl _)]
    refine ⟨_, rfl, iteF ?_⟩
    refine ⟨_, rfl, TL, rfl, ⟨_, SqL.of hTL⟩, fun D2 nD2 => ?_⟩
    refine lc_seq (walk_list (xs := ts)) nD2 (by omega) (fun j us _ => us = (List.replicate j true).map V.bl) rfl (fun H4 s4 => s4.sqL List.not_mem_nil (SqL.of hTL)) (fun _ _ _ _ _ h => h) (fun Pv j z Hq I2 us2 hj s2 y hR hu fin _ => ?_) (fun us2 I2 s2 hD2 hR hu => ?_)
    · obtain ⟨rfl, ez⟩ := y
      obtain ⟨c, ec, hc⟩ := hbT.get ez
      obtain ⟨x, hx, hc2⟩ := List.mem_flatMap.mp (List.mem_of_getElem? ec)
      have lx := g.bk_long 0 x hx
      have e1 : c.1 = x.1 := by
        obtain ⟨r, _, rfl⟩ := List.mem_map.mp hc2
        rfl
      refine ⟨rfl, _, rfl, z, c.1, c.2, rfl, Dp_sb s2 _ _ (chE_noList _) hc, by rw [e1]; omega, fun H5 s5 => fin _ _ s5 ?_⟩
      rw [hR, List.replicate_succ']
      simp
    subst hR
    have hTL2 := s2.keep _ _ hTL List.not_mem_nil
    refine ⟨D2, _, rfl, SqL.of hD2, ?_⟩
    rw [show (List.replicate ts.length true).all id = true by simp]
    refine ⟨_, rfl, iteF ?_⟩
    refine ⟨_, rfl, .inl ⟨rfl, _, SqL.of hTL2⟩, TL, _, rfl, rfl, hTL2, ?_⟩
    have s3 : SB [] I0 (upd I2 TL (.lst [])) := (((s1.trans s2).nil (ps := [TL])).trans (SB.set hTL2 (by simp) _)).drop nTL
    have s03 := s0.trans s3
    generalize upd I2 TL (.lst []) = I3 at s3 s03
    clear hTL2 hD2 s2 nD2 hbT hTL nTL s1 s01
    have hk3 := s03.keep _ _ hkc List.not_mem_nil
    refine ⟨_, rfl, kh, xs, rfl, .inl (SqL.of hk3), ?_⟩
    refine nameI ⟨_, rfl, _, rfl, by omega, by omega, fun D3 nD3 => ?_⟩
    have xe : ((xs.length : Nat) : Int).toNat = xs.length := Int.toNat_natCast _
    have hb3 := hbc.sb s03 NoLst.nil
    refine lc_seqQ (walk_range (lo := 0) (n := ((xs.length : Nat) : Int).toNat)) [] nD3 (by simp) (by omega) (fun i us H2 => KdAll K H2 [D3] us ((List.range i).map b.tk)) .nil (fun _ _ => trivial) (fun i us H2 H3 s3 h => h.sb s3 NoLst.self) (fun Pv i x Hq I4 us2 hi2 s4 y hR hu hD4 fin _ => ?_) (fun us2 I4 s4 hD4 hR hul => ?_)
    · obtain ⟨rfl, rfl⟩ := y
      rw [xe] at hi2
      have hm : (i + 1) % b.length < b.length := Nat.mod_lt _ (by omega)
      obtain ⟨k, ek, t, r, zs, ex, h1, h2, h3, _⟩ := hb3.get (List.getElem?_eq_getElem hi2)
      obtain ⟨k2, ek2, t2, r2, zs2, ex2, h12, h22, h32, _⟩ := hb3.get (List.getElem?_eq_getElem (l := xs) (i := (i + 1) % b.length) (by omega))
      have hk4 := s4.keep _ _ hk3 List.not_mem_nil
      have ai : atI xs (0 + (i : Int)) = some (.ref t) := by rw [show (0 + (i : Int)) = ((i : Nat) : Int) by omega]; exact atI_nat (by rw [List.getElem?_eq_getElem hi2, ex])
      have ai2 : atI xs ((0 + (i : Int) + 1) % ((xs.length : Nat) : Int)) = some (.ref t2) := by
        rw [show (0 + (i : Int) + 1) % ((xs.length : Nat) : Int) = (((i + 1) % b.length : Nat) : Int) by rw [xl, Int.natCast_emod]; congr 1; omega]
        exact atI_nat (by rw [List.getElem?_eq_getElem (by omega), ex2])
      refine ⟨rfl, _, rfl, _, rfl, kh, xs, _, _, rfl, rfl, SqL.of hk4, ai, t, _, _, _, rfl, rfl, s4.sqT h1, atI_nat (j := 0) rfl, ?_⟩
      refine ⟨_, rfl, _, rfl, kh, xs, _, _, rfl, rfl, SqL.of hk4, ai, t, _, _, _, rfl, rfl, s4.sqT h1, atI_nat (j := 1) rfl, ?_⟩
      refine ⟨_, rfl, _, rfl, _, _, rfl, rfl, _, rfl, _, _, rfl, rfl, by omega, kh, xs, _, _, rfl, rfl, SqL.of hk4, ai2, t2, _, _, _, rfl, rfl, s4.sqT h12, atI_nat (j := 2) rfl, ?_⟩
      refine ⟨by show 3 ≤ sizeLine; decide, fun T hT => ?_⟩
      have t4 := SB.new (ps := []) hT (.tup [.str k.n, .bl k.w, .ref r2])
      refine fin _ _ t4 ?_
      rw [List.range_succ, List.map_append]
      have rD : r2 ≠ D3 := fun z => by rw [z] at h22; rw [h22] at nD3; cases nD3
      refine (hR.sb t4 NoLst.nil).append (.cons ⟨T, r2, zs2, rfl, ?_, t4.keep _ _ (s4.keep _ _ h22 List.not_mem_nil) List.not_mem_nil, ?_, by simpa using rD⟩ .nil)
      · show SqT K _ T [.str (b.getD i kd0).n, .bl (b.getD i kd0).w, .ref r2]
        rw [Bk.getD_at ek]; exact SqT.of upd_same
      · show Bears K _ Ru.enc zs2 (b.getD ((i + 1) % b.length) kd0).rs
        rw [Bk.getD_at ek2]; exact (h32.sb s4 Ru.noList_enc).sb t4 Ru.noList_enc
    rw [xe, xl] at hR
    have hR : KdAll K I4 [D3] us2 b.turn := hR
    have hR0 := hR.less (bad' := []) (by simp)
    have s04 := s03.trans s4
    have hg4 := GA.sb hgc s04
    have bkt : ∀ x ∈ g.bk 0, x.2 ∈ b.turn.names := fun x hx => by rw [b.turn_names]; exact bks x hx
    have bt8 : b.turn.length ≤ 8 := by rw [b.turn_len]; exact b8
    refine ⟨by show 0 ≤ sizeLine; decide, fun E0 nE0 => ?_⟩
    have u1 := SB.new (ps := []) nE0 (.lst [])
    have hE1 : upd I4 E0 (.lst []) E0 = some (.lst []) := upd_same
    generalize upd I4 E0 (.lst []) = G1 at u1 hE1
    refine ⟨_, rfl, by show 0 ≤ sizeLine; decide, fun e0 ne0 => ?_⟩
    have u2 := SB.new (ps := []) ne0 (.tup [])
    have he2 : SqT K (upd G1 e0 (.tup [])) e0 [] := SqT.of upd_same
    generalize upd G1 e0 (.tup []) = G2 at u2 he2
    have u12 := u1.trans u2
    refine ⟨gv, .ref e0, g, [], rfl, GA.sb hg4 u12, .tup he2 .nil, by omega, by show g.deep + 0 ≤ 20; omega, gp, gok1, fun BL us G3 u3 nBL hBL hbb => ?_⟩
    have u13 := u12.trans u3
    have hE3 := u3.keep _ _ (u2.keep _ _ hE1 List.not_mem_nil) List.not_mem_nil
    have ebk : (g.bk 0).map (fun x => (([] : Pl) ++ x.1, x.2)) = g.bk 0 := by simp
    rw [ebk] at hbb
    have ul := hbb.length
    refine ⟨BL, rfl, ⟨_, SqL.of hBL⟩, ?_⟩
    refine for_it (walk_list (xs := us)) (fun i σ G4 => SB [] G3 G4 ∧ ∃ (E : Addr) (ws : List V) (o5 o6 : Option V), σ = [some (.ref a), some (.ref cl), some (.ref kh), some gv, some (.ref DE), o5, o6, some (.ref D), some (.ref y), o9, o10, some (.int (0 + (it : Int))), some (.ref TL), some (.int ((xs.length : Nat) : Int)), some (.ref D3), some (.ref E), none, none, none] ∧ I4 E = none ∧ G4 E = some (.lst ws) ∧ Bears K G4 chE ws (((g.bk 0).take i).flatMap (chs b.turn)))
      ⟨SB.refl, E0, [], _, _, rfl, nE0, hE3, .nil⟩ (fun i σ G4 hi h4 => h4.1.sqL List.not_mem_nil (SqL.of hBL)) (fun i x σ Gq G4 hi h4 y => ?_) (fun σ G4 h4 => ?_)
    · obtain ⟨u4, E, ws, o5, o6, rfl, nE, hE4, hb4⟩ := h4
      obtain ⟨rfl, ey⟩ := y
      obtain ⟨x, ex, hx⟩ := hbb.get ey
      have xm := List.mem_of_getElem? ex
      cases (hx : Dp K G3 _ (.tuple [plEnc x.1, .str x.2])) with
      | @tup ad us' _ hs' hda =>
      cases hda with
      | cons g1 hda =>
      cases hda with
      | cons g2 hda =>
      cases hda
      cases g2
      rename_i pv
      obtain ⟨kd, eg⟩ := Bk.get_of (b := b.turn) (bkt x xm)
      obtain ⟨km, en⟩ := Bk.get_some eg
      have k4 := r4t kd km
      have ecn : Bk.cnt b.turn x.2 = 1 + kd.rs.length := by unfold Bk.cnt; rw [eg]
      have wl := hb4.length
      have hcl := cl5 b.turn r4t ((g.bk 0).take i)
      rw [List.length_take] at hcl
      have u14 := u13.trans u4
      refine ⟨ad, _, rfl, u4.sqT hs', rfl, _, _, rfl, _, _, rfl, rfl, ?_⟩
      refine ⟨_, rfl, _, rfl, _, rfl, D3, us2, b.turn, kd, by rw [en]; rfl, u14.keep _ _ hD4 List.not_mem_nil, KdAll.sb u14 NoLst.nil hR0, km, okt.nd, bt8, fun kv G5 u5 hkd => ?_⟩
      obtain ⟨t, r, rz, rfl, h1, h2, h3, _⟩ := hkd
      have rl := h3.length
      refine ⟨t, _, _, _, rfl, rfl, h1, atI_nat (j := 2) rfl, r, rz, rfl, .inl (SqL.of h2), _, _, rfl, rfl, _, rfl, by omega, by omega, fun L nL => ?_⟩
      have re : ((rz.length : Int) + 1).toNat = 1 + kd.rs.length := by omega
      refine lc_seq (walk_range (lo := 0) (n := ((rz.length : Int) + 1).toNat)) nL (by omega) (fun j us7 H7 => Bears K H7 chE us7 ((List.range j).map fun r => (x.1, r))) .nil (fun _ _ => trivial) (fun _ _ _ _ e h => h.sb e chE_noList) (fun Pv j z Hq H7 us7 hj s7 y hR7 hu7 fin _ => ?_) (fun us7 H7 s7 hL7 hR7 hu7 => ?_)
      · obtain ⟨rfl, rfl⟩ := y
        refine ⟨rfl, _, rfl, _, rfl, by show 2 ≤ sizeLine; decide, fun T hT => ?_⟩
        refine fin _ _ (SB.new (ps := []) hT _) ?_
        rw [List.range_succ, List.map_append]
        refine Bears.append (hR7.sb (SB.new (ps := []) hT _) chE_noList) (.cons ?_ .nil)
        refine .tup (SqT.of upd_same) (.cons (Dp_sb (SB.new (ps := []) hT _) _ _ (pl_noList _) (Dp_sb ((u4.trans u5).trans s7) _ _ (pl_noList _) g1)) (.cons ?_ .nil))
        show Dp K _ (.int (0 + (j : Int))) (.int ((j : Nat) : Int))
        rw [Int.zero_add]; exact .int _
      · rw [re, ← ecn] at hR7
        have hR7 : Bears K H7 chE us7 (chs b.turn x) := hR7
        have u7 := hR7.length
        have cxl : (chs b.turn x).length = 1 + kd.rs.length := by unfold chs; rw [List.length_map, List.length_range, ecn]
        have u47 := u5.trans s7
        have hE7 := u47.keep _ _ hE4 List.not_mem_nil
        refine ⟨E, L, _, _, rfl, rfl, hE7, hL7, by omega, fun M nM => ?_⟩
        have t8 := SB.new (ps := []) nM (.lst (ws ++ us7))
        refine ⟨(u4.trans u47).trans t8, M, _, _, _, rfl, (u14.trans u47).dom _ nM, upd_same, ?_⟩
        rw [List.take_add_one, ex, List.flatMap_append]
        refine Bears.append ((hb4.sb u47 chE_noList).sb t8 chE_noList) ?_
        simpa using hR7.sb t8 chE_noList
    obtain ⟨u4, LE, lws, o5c, o6c, rfl, nLE, hLE, hbLE⟩ := h4
    rw [ul, List.take_length] at hbLE
    have sl := u13.trans u4
    clear u4 u13 u12 u1 u2 u3 hE1 hE3 he2 hbb hBL nBL nE0 ne0 ul ebk
    have hD4' := sl.keep _ _ hD4 List.not_mem_nil
    have hR4 := hR0.sb sl NoLst.nil
    dsimp only
    refine ifI (testI (opI (callI (consI (copy_make (i := 14) (a1 := 6) (a2 := 9) (a3 := 10) rfl (fun _ _ _ => rfl) (fun _ _ _ => rfl) (fun _ _ _ => rfl) (fun _ _ _ => rfl) hD4' hR4 okt fun y5 I7 s67 ny5 hbk5 => ?_)))))
    refine ⟨_, rfl, _, gv, b.turn, g, rfl, hbk5, (GA.sb hg4 sl).sb s67, okt, by omega, gp, gno, fun x hx => by rw [b.turn_names]; exact gnm x hx, fun TL2 ts2 I8 s8 nTL2 hTL2 hbT2 => ?_⟩
    have s68 := s67.trans s8
    refine ⟨_, rfl, .list (((g.bk 0).flatMap (chs b.turn)).map chE), .list (((g.bk 0).flatMap (chs b.turn)).map chE), .lst (SqL.of hTL2) hbT2.dp, .lst (SqL.of (s68.keep _ _ hLE List.not_mem_nil)) (hbLE.sb s68 chE_noList).dp, chs_shaped _, chs_shaped _, ?_⟩
    rw [plain_eqv (chs_pl _)]
    exact ⟨_, rfl, iteF ⟨(s04.trans sl).trans s68, _, _, _, _, _, _, _, _, _, rfl⟩⟩
  · exact q _
end
end FT
namespace FT
open PySem PySem.W PySem.Spec PyProof.Rows L2
def d__wall : He.DefD := ⟨("_wall", none), "_wall", "_wall", defArgs s__wall, defBody s__wall, defScope s__wall, [], []⟩
def d_is_whole : He.DefD := ⟨("is_whole", none), "is_whole", "is_whole", defArgs s_is_whole, defBody s_is_whole, defScope s_is_whole, [], []⟩
def d_is_many : He.DefD := ⟨("is_many", none), "is_many", "is_many", defArgs s_is_many, defBody s_is_many, defScope s_is_many, [], []⟩
def d_is_name : He.DefD := ⟨("is_name", none), "is_name", "is_name", defArgs s_is_name, defBody s_is_name, defScope s_is_name, [], []⟩
def d_is_rising : He.DefD := ⟨("is_rising", none), "is_rising", "is_rising", defArgs s_is_rising, defBody s_is_rising, defScope s_is_rising, [], []⟩
def d_run_of : He.DefD := ⟨("run_of", none), "run_of", "run_of", defArgs s_run_of, defBody s_run_of, defScope s_run_of, [], []⟩
def d_is_tree : He.DefD := ⟨("is_tree", none), "is_tree", "is_tree", defArgs s_is_tree, defBody s_is_tree, defScope s_is_tree, [], []⟩
def d_is_grove : He.DefD := ⟨("is_grove", none), "is_grove", "is_grove", defArgs s_is_grove, defBody s_is_grove, defScope s_is_grove, [], []⟩
def d_are_grove_pairs : He.DefD := ⟨("are_grove_pairs", none), "are_grove_pairs", "are_grove_pairs", defArgs s_are_grove_pairs, defBody s_are_grove_pairs, defScope s_are_grove_pairs, [], []⟩
def d_pairs_within : He.DefD := ⟨("pairs_within", none), "pairs_within", "pairs_within", defArgs s_pairs_within, defBody s_pairs_within, defScope s_pairs_within, [], []⟩
def d_kinds_within : He.DefD := ⟨("kinds_within", none), "kinds_within", "kinds_within", defArgs s_kinds_within, defBody s_kinds_within, defScope s_kinds_within, [], []⟩
def d_rules_from_nought : He.DefD := ⟨("rules_from_nought", none), "rules_from_nought", "rules_from_nought", defArgs s_rules_from_nought, defBody s_rules_from_nought, defScope s_rules_from_nought, [], []⟩
def d_check_kind : He.DefD := ⟨("check_kind", none), "check_kind", "check_kind", defArgs s_check_kind, defBody s_check_kind, defScope s_check_kind, [], []⟩
def d_check_kinds : He.DefD := ⟨("check_kinds", none), "check_kinds", "check_kinds", defArgs s_check_kinds, defBody s_check_kinds, defScope s_check_kinds, [], []⟩
def d_are_kinds : He.DefD := ⟨("are_kinds", none), "are_kinds", "are_kinds", defArgs s_are_kinds, defBody s_are_kinds, defScope s_are_kinds, [], []⟩
def d_is_kind : He.DefD := ⟨("is_kind", none), "is_kind", "is_kind", defArgs s_is_kind, defBody s_is_kind, defScope s_is_kind, [], []⟩
def d_is_rule : He.DefD := ⟨("is_rule", none), "is_rule", "is_rule", defArgs s_is_rule, defBody s_is_rule, defScope s_is_rule, [], []⟩
def d_is_rule_of : He.DefD := ⟨("is_rule_of", none), "is_rule_of", "is_rule_of", defArgs s_is_rule_of, defBody s_is_rule_of, defScope s_is_rule_of, [], []⟩
def d_tree_at : He.DefD := ⟨("tree_at", none), "tree_at", "tree_at", defArgs s_tree_at, defBody s_tree_at, defScope s_tree_at, [], []⟩
def d_bare_places : He.DefD := ⟨("bare_places", none), "bare_places", "bare_places", defArgs s_bare_places, defBody s_bare_places, defScope s_bare_places, [], []⟩
def d_choices : He.DefD := ⟨("choices", none), "choices", "choices", defArgs s_choices, defBody s_choices, defScope s_choices, [], []⟩
def d__law_purse : He.DefD := ⟨("_law_purse", none), "_law_purse", "_law_purse", defArgs s__law_purse, defBody s__law_purse, defScope s__law_purse, [], []⟩
def d__law_take : He.DefD := ⟨("_law_take", none), "_law_take", "_law_take", defArgs s__law_take, defBody s__law_take, defScope s__law_take, [], []⟩
def d__law_names : He.DefD := ⟨("_law_names", none), "_law_names", "_law_names", defArgs s__law_names, defBody s__law_names, defScope s__law_names, [], []⟩
def d__law_many : He.DefD := ⟨("_law_many", none), "_law_many", "_law_many", defArgs s__law_many, defBody s__law_many, defScope s__law_many, [], []⟩
def d__law_wood : He.DefD := ⟨("_law_wood", none), "_law_wood", "_law_wood", defArgs s__law_wood, defBody s__law_wood, defScope s__law_wood, [], []⟩
def d__law_kinds : He.DefD := ⟨("_law_kinds", none), "_law_kinds", "_law_kinds", defArgs s__law_kinds, defBody s__law_kinds, defScope s__law_kinds, [], []⟩
def d__law_kind : He.DefD := ⟨("_law_kind", none), "_law_kind", "_law_kind", defArgs s__law_kind, defBody s__law_kind, defScope s__law_kind, [], []⟩
def d__law_grove : He.DefD := ⟨("_law_grove", none), "_law_grove", "_law_grove", defArgs s__law_grove, defBody s__law_grove, defScope s__law_grove, [], []⟩
def d__law_bare : He.DefD := ⟨("_law_bare", none), "_law_bare", "_law_bare", defArgs s__law_bare, defBody s__law_bare, defScope s__law_bare, [], []⟩
def d__law_is_choice : He.DefD := ⟨("_law_is_choice", none), "_law_is_choice", "_law_is_choice", defArgs s__law_is_choice, defBody s__law_is_choice, defScope s__law_is_choice, [], []⟩
def d_law : He.DefD := ⟨("law", none), "law", "law", defArgs s_law, defBody s_law, defScope s_law, [], []⟩
def d_NoKind___init__ : He.DefD := ⟨("NoKind", some "__init__"), "__init__", "NoKind.__init__", defArgs s_NoKind___init__, defBody s_NoKind___init__, defScope s_NoKind___init__, [], []⟩
def d_Book___init__ : He.DefD := ⟨("Book", some "__init__"), "__init__", "Book.__init__", defArgs s_Book___init__, defBody s_Book___init__, defScope s_Book___init__, [], []⟩
def d_Book_names : He.DefD := ⟨("Book", some "names"), "names", "Book.names", defArgs s_Book_names, defBody s_Book_names, defScope s_Book_names, [], []⟩
def d_Book_spreads : He.DefD := ⟨("Book", some "spreads"), "spreads", "Book.spreads", defArgs s_Book_spreads, defBody s_Book_spreads, defScope s_Book_spreads, [], []⟩
def d_Book_rules : He.DefD := ⟨("Book", some "rules"), "rules", "Book.rules", defArgs s_Book_rules, defBody s_Book_rules, defScope s_Book_rules, [], []⟩
def fn : List He.DefD := [d__wall, d_is_whole, d_is_many, d_is_name, d_is_rising, d_run_of, d_is_tree, d_is_grove, d_are_grove_pairs, d_pairs_within, d_kinds_within, d_rules_from_nought, d_check_kind, d_check_kinds, d_are_kinds, d_is_kind, d_is_rule, d_is_rule_of, d_tree_at, d_bare_places, d_choices, d__law_purse, d__law_take, d__law_names, d__law_many, d__law_wood, d__law_kinds, d__law_kind, d__law_grove, d__law_bare, d__law_is_choice, d_law, d_NoKind___init__, d_Book___init__, d_Book_names, d_Book_spreads, d_Book_rules]
def fa : List He.Fa := [.glo "_wall", .glo "is_whole", .glo "is_many", .glo "is_name", .glo "is_rising", .glo "run_of", .glo "is_tree", .glo "is_grove", .glo "are_grove_pairs", .glo "pairs_within", .glo "kinds_within", .glo "rules_from_nought", .glo "check_kind", .glo "check_kinds", .glo "are_kinds", .glo "is_kind", .glo "is_rule", .glo "is_rule_of", .glo "tree_at", .glo "bare_places", .glo "choices", .glo "_law_purse", .glo "_law_take", .glo "_law_names", .glo "_law_many", .glo "_law_wood", .glo "_law_kinds", .glo "_law_kind", .glo "_law_grove", .glo "_law_bare", .glo "_law_is_choice", .glo "law", .free "len", .free "isinstance", .free "int", .free "bool", .free "str", .free "tuple", .free "list", .free "all", .free "zip", .free "sum", .free "max", .free "range", .free "enumerate", .free "abs", .free "sorted", .free "min", .free "reversed", .free "any", .free "set", .free "dict", .free "repr", .str "LETTERS" "abcdefghijklmnopqrstuvwxyz", .int "LONGEST_NAME" (8), .int "MOST_KINDS" (8), .int "MOST_RULES" (4), .int "MOST_RULE_PARTS" (4), .int "MOST_MANY" (1000000000), .glo "NO_GROVES", .exc "NoBook", .glo "NoBook", .exc "NoPlace", .glo "NoPlace", .glo "NoKind", .meth "NoKind" "__init__", .noat "NoKind" "kind", .glo "Book", .cls "Book", .noat "Book" "spread_by_name", .noat "Book" "rows_by_name", .mkr "Book", .meth "Book" "names", .meth "Book" "spreads", .meth "Book" "rules"]
def exOk (K : PySem.W.Frag) : Bool := oexCB K (He.ga K "NoKind") && (no2B K (He.ga K "NO_GROVES") && (true))
abbrev R : PySem.W.OpenRow := PySem.W.OpenLaw.row PySem.Challenge.rw_felltimber_k30_choices_told
abbrev hk : PySem.W.Hook := hookE 6 fa fn exOk
def ob (s : PySem.W.SharedT) : AlE := obsE 6 fa fn exOk (HandSHeadRun.getT s)
theorem ob_eq (s : PySem.W.SharedT) : ob s = hk.obs s.abs := obsE_eq (HandSHeadRun.getT_eq s)
def loose : List PySem.Str := (["_wall", "is_whole", "is_many", "is_name", "is_rising", "run_of", "FellError", "NoPlace", "NoBook", "NoKind", "is_tree", "is_grove"] : List PySem.Str) ++ (["are_grove_pairs", "pairs_within", "kinds_within", "Book", "rules_from_nought", "check_kind", "check_kinds", "are_kinds", "is_kind", "is_rule", "is_rule_of", "tree_at"] : List PySem.Str) ++ (["bare_places", "choices", "_law_purse", "_law_take", "_law_names", "_law_many", "_law_wood", "_law_kinds", "_law_kind", "_law_grove", "_law_bare", "_law_is_choice"] : List PySem.Str) ++ (["LETTERS", "LONGEST_NAME", "MOST_KINDS", "MOST_MANY", "MOST_RULES", "MOST_RULE_PARTS", "NO_GROVES"] : List PySem.Str)
theorem run (w : World) : HandSHeadRun.RunEq R (PySem.W.view R.prog [50]) hk ob 6000 loose w := by
  intro os
  kernel_rfl
theorem facts {P : Program} {w : World} {K : PySem.W.Frag} {h : Heap} {mg : Str → Option Value} {f : Addr} (X : K.In h) (G : h.Ns mainGlobals mg) (hfa : mg ("law" : Str) = some (.ref f)) (c : He.SaysD fa fn K) (cx : exOk K = true) :
    ∃ fd : FuncData, (∀ (s : Shared) (v : Value), BindsTo s fd ⟨[v], []⟩ [("_law_script", v)]) ∧ ∀ base : Heap, K.In base → base.Ns mainGlobals mg → FnOk P w K mg base CX0 95 f fd ["_law_script"] (spLaw K) := by
  obtain ⟨fd__wall, D__wall⟩ := c.def_ 0 (d := d__wall) rfl
  have F__wall : Fun K "_wall" "_wall" s__wall _ fd__wall := He5.fun_of D__wall
  have m__wall := He.glo_ok X G (c.fact 0 (f := .glo "_wall") rfl)
  have b__wall := F__wall.binds (ps := ["k"]) fun _ _ _ _ _ _ us hl => match us, hl with | [_], _ => rfl
  obtain ⟨fd_is_whole, D_is_whole⟩ := c.def_ 1 (d := d_is_whole) rfl
  have F_is_whole : Fun K "is_whole" "is_whole" s_is_whole _ fd_is_whole := He5.fun_of D_is_whole
  have m_is_whole := He.glo_ok X G (c.fact 1 (f := .glo "is_whole") rfl)
  have b_is_whole := F_is_whole.binds (ps := ["thing"]) fun _ _ _ _ _ _ us hl => match us, hl with | [_], _ => rfl
  obtain ⟨fd_is_many, D_is_many⟩ := c.def_ 2 (d := d_is_many) rfl
  have F_is_many : Fun K "is_many" "is_many" s_is_many _ fd_is_many := He5.fun_of D_is_many
  have m_is_many := He.glo_ok X G (c.fact 2 (f := .glo "is_many") rfl)
  have b_is_many := F_is_many.binds (ps := ["thing"]) fun _ _ _ _ _ _ us hl => match us, hl with | [_], _ => rfl
  obtain ⟨fd_is_name, D_is_name⟩ := c.def_ 3 (d := d_is_name) rfl
  have F_is_name : Fun K "is_name" "is_name" s_is_name _ fd_is_name := He5.fun_of D_is_name
  have m_is_name := He.glo_ok X G (c.fact 3 (f := .glo "is_name") rfl)
  have b_is_name := F_is_name.binds (ps := ["thing"]) fun _ _ _ _ _ _ us hl => match us, hl with | [_], _ => rfl
  obtain ⟨fd_is_rising, D_is_rising⟩ := c.def_ 4 (d := d_is_rising) rfl
  have F_is_rising : Fun K "is_rising" "is_rising" s_is_rising _ fd_is_rising := He5.fun_of D_is_rising
  have m_is_rising := He.glo_ok X G (c.fact 4 (f := .glo "is_rising") rfl)
  have b_is_rising := F_is_rising.binds (ps := ["things"]) fun _ _ _ _ _ _ us hl => match us, hl with | [_], _ => rfl
  obtain ⟨fd_run_of, D_run_of⟩ := c.def_ 5 (d := d_run_of) rfl
  have F_run_of : Fun K "run_of" "run_of" s_run_of _ fd_run_of := He5.fun_of D_run_of
  have m_run_of := He.glo_ok X G (c.fact 5 (f := .glo "run_of") rfl)
  have b_run_of := F_run_of.binds (ps := ["text", "at", "signs"]) fun _ _ _ _ _ _ us hl => match us, hl with | [_, _, _], _ => rfl
  obtain ⟨fd_is_tree, D_is_tree⟩ := c.def_ 6 (d := d_is_tree) rfl
  have F_is_tree : Fun K "is_tree" "is_tree" s_is_tree _ fd_is_tree := He5.fun_of D_is_tree
  have m_is_tree := He.glo_ok X G (c.fact 6 (f := .glo "is_tree") rfl)
  have b_is_tree := F_is_tree.binds (ps := ["thing"]) fun _ _ _ _ _ _ us hl => match us, hl with | [_], _ => rfl
  obtain ⟨fd_is_grove, D_is_grove⟩ := c.def_ 7 (d := d_is_grove) rfl
  have F_is_grove : Fun K "is_grove" "is_grove" s_is_grove _ fd_is_grove := He5.fun_of D_is_grove
  have m_is_grove := He.glo_ok X G (c.fact 7 (f := .glo "is_grove") rfl)
  have b_is_grove := F_is_grove.binds (ps := ["thing"]) fun _ _ _ _ _ _ us hl => match us, hl with | [_], _ => rfl
  obtain ⟨fd_are_grove_pairs, D_are_grove_pairs⟩ := c.def_ 8 (d := d_are_grove_pairs) rfl
  have F_are_grove_pairs : Fun K "are_grove_pairs" "are_grove_pairs" s_are_grove_pairs _ fd_are_grove_pairs := He5.fun_of D_are_grove_pairs
  have m_are_grove_pairs := He.glo_ok X G (c.fact 8 (f := .glo "are_grove_pairs") rfl)
  have b_are_grove_pairs := F_are_grove_pairs.binds (ps := ["things"]) fun _ _ _ _ _ _ us hl => match us, hl with | [_], _ => rfl
  obtain ⟨fd_pairs_within, D_pairs_within⟩ := c.def_ 9 (d := d_pairs_within) rfl
  have F_pairs_within : Fun K "pairs_within" "pairs_within" s_pairs_within _ fd_pairs_within := He5.fun_of D_pairs_within
  have m_pairs_within := He.glo_ok X G (c.fact 9 (f := .glo "pairs_within") rfl)
  have b_pairs_within := F_pairs_within.binds (ps := ["grove"]) fun _ _ _ _ _ _ us hl => match us, hl with | [_], _ => rfl
  obtain ⟨fd_kinds_within, D_kinds_within⟩ := c.def_ 10 (d := d_kinds_within) rfl
  have F_kinds_within : Fun K "kinds_within" "kinds_within" s_kinds_within _ fd_kinds_within := He5.fun_of D_kinds_within
  have m_kinds_within := He.glo_ok X G (c.fact 10 (f := .glo "kinds_within") rfl)
  have b_kinds_within := F_kinds_within.binds (ps := ["grove"]) fun _ _ _ _ _ _ us hl => match us, hl with | [_], _ => rfl
  obtain ⟨fd_rules_from_nought, D_rules_from_nought⟩ := c.def_ 11 (d := d_rules_from_nought) rfl
  have F_rules_from_nought : Fun K "rules_from_nought" "rules_from_nought" s_rules_from_nought _ fd_rules_from_nought := He5.fun_of D_rules_from_nought
  have m_rules_from_nought := He.glo_ok X G (c.fact 11 (f := .glo "rules_from_nought") rfl)
  have b_rules_from_nought := F_rules_from_nought.binds (ps := ["book", "name"]) fun _ _ _ _ _ _ us hl => match us, hl with | [_, _], _ => rfl
  obtain ⟨fd_check_kind, D_check_kind⟩ := c.def_ 12 (d := d_check_kind) rfl
  have F_check_kind : Fun K "check_kind" "check_kind" s_check_kind _ fd_check_kind := He5.fun_of D_check_kind
  have m_check_kind := He.glo_ok X G (c.fact 12 (f := .glo "check_kind") rfl)
  have b_check_kind := F_check_kind.binds (ps := ["book", "name"]) fun _ _ _ _ _ _ us hl => match us, hl with | [_, _], _ => rfl
  obtain ⟨fd_check_kinds, D_check_kinds⟩ := c.def_ 13 (d := d_check_kinds) rfl
  have F_check_kinds : Fun K "check_kinds" "check_kinds" s_check_kinds _ fd_check_kinds := He5.fun_of D_check_kinds
  have m_check_kinds := He.glo_ok X G (c.fact 13 (f := .glo "check_kinds") rfl)
  have b_check_kinds := F_check_kinds.binds (ps := ["book", "grove"]) fun _ _ _ _ _ _ us hl => match us, hl with | [_, _], _ => rfl
  obtain ⟨fd_are_kinds, D_are_kinds⟩ := c.def_ 14 (d := d_are_kinds) rfl
  have F_are_kinds : Fun K "are_kinds" "are_kinds" s_are_kinds _ fd_are_kinds := He5.fun_of D_are_kinds
  have m_are_kinds := He.glo_ok X G (c.fact 14 (f := .glo "are_kinds") rfl)
  have b_are_kinds := F_are_kinds.binds (ps := ["things"]) fun _ _ _ _ _ _ us hl => match us, hl with | [_], _ => rfl
  obtain ⟨fd_is_kind, D_is_kind⟩ := c.def_ 15 (d := d_is_kind) rfl
  have F_is_kind : Fun K "is_kind" "is_kind" s_is_kind _ fd_is_kind := He5.fun_of D_is_kind
  have m_is_kind := He.glo_ok X G (c.fact 15 (f := .glo "is_kind") rfl)
  have b_is_kind := F_is_kind.binds (ps := ["thing"]) fun _ _ _ _ _ _ us hl => match us, hl with | [_], _ => rfl
  obtain ⟨fd_is_rule, D_is_rule⟩ := c.def_ 16 (d := d_is_rule) rfl
  have F_is_rule : Fun K "is_rule" "is_rule" s_is_rule _ fd_is_rule := He5.fun_of D_is_rule
  have m_is_rule := He.glo_ok X G (c.fact 16 (f := .glo "is_rule") rfl)
  have b_is_rule := F_is_rule.binds (ps := ["thing"]) fun _ _ _ _ _ _ us hl => match us, hl with | [_], _ => rfl
  obtain ⟨fd_is_rule_of, D_is_rule_of⟩ := c.def_ 17 (d := d_is_rule_of) rfl
  have F_is_rule_of : Fun K "is_rule_of" "is_rule_of" s_is_rule_of _ fd_is_rule_of := He5.fun_of D_is_rule_of
  have m_is_rule_of := He.glo_ok X G (c.fact 17 (f := .glo "is_rule_of") rfl)
  have b_is_rule_of := F_is_rule_of.binds (ps := ["rule", "names"]) fun _ _ _ _ _ _ us hl => match us, hl with | [_, _], _ => rfl
  obtain ⟨fd_tree_at, D_tree_at⟩ := c.def_ 18 (d := d_tree_at) rfl
  have F_tree_at : Fun K "tree_at" "tree_at" s_tree_at _ fd_tree_at := He5.fun_of D_tree_at
  have m_tree_at := He.glo_ok X G (c.fact 18 (f := .glo "tree_at") rfl)
  have b_tree_at := F_tree_at.binds (ps := ["grove", "place"]) fun _ _ _ _ _ _ us hl => match us, hl with | [_, _], _ => rfl
  obtain ⟨fd_bare_places, D_bare_places⟩ := c.def_ 19 (d := d_bare_places) rfl
  have F_bare_places : Fun K "bare_places" "bare_places" s_bare_places _ fd_bare_places := He5.fun_of D_bare_places
  have m_bare_places := He.glo_ok X G (c.fact 19 (f := .glo "bare_places") rfl)
  have b_bare_places := F_bare_places.binds (ps := ["grove"]) fun _ _ _ _ _ _ us hl => match us, hl with | [_], _ => rfl
  obtain ⟨fd_choices, D_choices⟩ := c.def_ 20 (d := d_choices) rfl
  have F_choices : Fun K "choices" "choices" s_choices _ fd_choices := He5.fun_of D_choices
  have m_choices := He.glo_ok X G (c.fact 20 (f := .glo "choices") rfl)
  have b_choices := F_choices.binds (ps := ["book", "grove"]) fun _ _ _ _ _ _ us hl => match us, hl with | [_, _], _ => rfl
  obtain ⟨fd__law_purse, D__law_purse⟩ := c.def_ 21 (d := d__law_purse) rfl
  have F__law_purse : Fun K "_law_purse" "_law_purse" s__law_purse _ fd__law_purse := He5.fun_of D__law_purse
  have m__law_purse := He.glo_ok X G (c.fact 21 (f := .glo "_law_purse") rfl)
  have b__law_purse := F__law_purse.binds (ps := ["_law_script", "_law_k"]) fun _ _ _ _ _ _ us hl => match us, hl with | [_, _], _ => rfl
  obtain ⟨fd__law_take, D__law_take⟩ := c.def_ 22 (d := d__law_take) rfl
  have F__law_take : Fun K "_law_take" "_law_take" s__law_take _ fd__law_take := He5.fun_of D__law_take
  have m__law_take := He.glo_ok X G (c.fact 22 (f := .glo "_law_take") rfl)
  have b__law_take := F__law_take.binds (ps := ["_law_purse_here", "_law_many_here"]) fun _ _ _ _ _ _ us hl => match us, hl with | [_, _], _ => rfl
  obtain ⟨fd__law_names, D__law_names⟩ := c.def_ 23 (d := d__law_names) rfl
  have F__law_names : Fun K "_law_names" "_law_names" s__law_names _ fd__law_names := He5.fun_of D__law_names
  have m__law_names := He.glo_ok X G (c.fact 23 (f := .glo "_law_names") rfl)
  have b__law_names := F__law_names.binds (ps := ["_law_purse_here", "_law_many_here"]) fun _ _ _ _ _ _ us hl => match us, hl with | [_, _], _ => rfl
  obtain ⟨fd__law_many, D__law_many⟩ := c.def_ 24 (d := d__law_many) rfl
  have F__law_many : Fun K "_law_many" "_law_many" s__law_many _ fd__law_many := He5.fun_of D__law_many
  have m__law_many := He.glo_ok X G (c.fact 24 (f := .glo "_law_many") rfl)
  have b__law_many := F__law_many.binds (ps := ["_law_purse_here", "_law_most"]) fun _ _ _ _ _ _ us hl => match us, hl with | [_, _], _ => rfl
  obtain ⟨fd__law_wood, D__law_wood⟩ := c.def_ 25 (d := d__law_wood) rfl
  have F__law_wood : Fun K "_law_wood" "_law_wood" s__law_wood _ fd__law_wood := He5.fun_of D__law_wood
  have m__law_wood := He.glo_ok X G (c.fact 25 (f := .glo "_law_wood") rfl)
  have b__law_wood := F__law_wood.binds (ps := ["_law_purse_here", "_law_pool", "_law_room", "_law_low", "_law_most"]) fun _ _ _ _ _ _ us hl => match us, hl with | [_, _, _, _, _], _ => rfl
  obtain ⟨fd__law_kinds, D__law_kinds⟩ := c.def_ 26 (d := d__law_kinds) rfl
  have F__law_kinds : Fun K "_law_kinds" "_law_kinds" s__law_kinds _ fd__law_kinds := He5.fun_of D__law_kinds
  have m__law_kinds := He.glo_ok X G (c.fact 26 (f := .glo "_law_kinds") rfl)
  have b__law_kinds := F__law_kinds.binds (ps := ["_law_script", "_law_names_here"]) fun _ _ _ _ _ _ us hl => match us, hl with | [_, _], _ => rfl
  obtain ⟨fd__law_kind, D__law_kind⟩ := c.def_ 27 (d := d__law_kind) rfl
  have F__law_kind : Fun K "_law_kind" "_law_kind" s__law_kind _ fd__law_kind := He5.fun_of D__law_kind
  have m__law_kind := He.glo_ok X G (c.fact 27 (f := .glo "_law_kind") rfl)
  have b__law_kind := F__law_kind.binds (ps := ["_law_kinds_here", "_law_name"]) fun _ _ _ _ _ _ us hl => match us, hl with | [_, _], _ => rfl
  obtain ⟨fd__law_grove, D__law_grove⟩ := c.def_ 28 (d := d__law_grove) rfl
  have F__law_grove : Fun K "_law_grove" "_law_grove" s__law_grove _ fd__law_grove := He5.fun_of D__law_grove
  have m__law_grove := He.glo_ok X G (c.fact 28 (f := .glo "_law_grove") rfl)
  have b__law_grove := F__law_grove.binds (ps := ["_law_script", "_law_names_here"]) fun _ _ _ _ _ _ us hl => match us, hl with | [_, _], _ => rfl
  obtain ⟨fd__law_bare, D__law_bare⟩ := c.def_ 29 (d := d__law_bare) rfl
  have F__law_bare : Fun K "_law_bare" "_law_bare" s__law_bare _ fd__law_bare := He5.fun_of D__law_bare
  have m__law_bare := He.glo_ok X G (c.fact 29 (f := .glo "_law_bare") rfl)
  have b__law_bare := F__law_bare.binds (ps := ["_law_grove_here", "_law_ahead"]) fun _ _ _ _ _ _ us hl => match us, hl with | [_, _], _ => rfl
  obtain ⟨fd__law_is_choice, D__law_is_choice⟩ := c.def_ 30 (d := d__law_is_choice) rfl
  have F__law_is_choice : Fun K "_law_is_choice" "_law_is_choice" s__law_is_choice _ fd__law_is_choice := He5.fun_of D__law_is_choice
  have m__law_is_choice := He.glo_ok X G (c.fact 30 (f := .glo "_law_is_choice") rfl)
  have b__law_is_choice := F__law_is_choice.binds (ps := ["_law_thing"]) fun _ _ _ _ _ _ us hl => match us, hl with | [_], _ => rfl
  obtain ⟨fd_law, D_law⟩ := c.def_ 31 (d := d_law) rfl
  have F_law : Fun K "law" "law" s_law _ fd_law := He5.fun_of D_law
  have m_law := He.glo_ok X G (c.fact 31 (f := .glo "law") rfl)
  obtain ⟨fd_NoKind___init__, D_NoKind___init__⟩ := c.def_ 32 (d := d_NoKind___init__) rfl
  have F_NoKind___init__ : Fun K "__init__" "NoKind.__init__" s_NoKind___init__ _ fd_NoKind___init__ := He5.fun_of D_NoKind___init__
  have b_NoKind___init__ := F_NoKind___init__.binds (ps := ["self", "kind"]) fun _ _ _ _ _ _ us hl => match us, hl with | [_, _], _ => rfl
  obtain ⟨fd_Book___init__, D_Book___init__⟩ := c.def_ 33 (d := d_Book___init__) rfl
  have F_Book___init__ : Fun K "__init__" "Book.__init__" s_Book___init__ _ fd_Book___init__ := He5.fun_of D_Book___init__
  have b_Book___init__ := F_Book___init__.binds (ps := ["self", "kinds"]) fun _ _ _ _ _ _ us hl => match us, hl with | [_, _], _ => rfl
  obtain ⟨fd_Book_names, D_Book_names⟩ := c.def_ 34 (d := d_Book_names) rfl
  have F_Book_names : Fun K "names" "Book.names" s_Book_names _ fd_Book_names := He5.fun_of D_Book_names
  have b_Book_names := F_Book_names.binds (ps := ["self"]) fun _ _ _ _ _ _ us hl => match us, hl with | [_], _ => rfl
  obtain ⟨fd_Book_spreads, D_Book_spreads⟩ := c.def_ 35 (d := d_Book_spreads) rfl
  have F_Book_spreads : Fun K "spreads" "Book.spreads" s_Book_spreads _ fd_Book_spreads := He5.fun_of D_Book_spreads
  have b_Book_spreads := F_Book_spreads.binds (ps := ["self", "name"]) fun _ _ _ _ _ _ us hl => match us, hl with | [_, _], _ => rfl
  obtain ⟨fd_Book_rules, D_Book_rules⟩ := c.def_ 36 (d := d_Book_rules) rfl
  have F_Book_rules : Fun K "rules" "Book.rules" s_Book_rules _ fd_Book_rules := He5.fun_of D_Book_rules
  have b_Book_rules := F_Book_rules.binds (ps := ["self", "name"]) fun _ _ _ _ _ _ us hl => match us, hl with | [_, _], _ => rfl
  have B : BI mg := ⟨He.free_ok X G (c.fact 32 (f := .free "len") rfl), He.free_ok X G (c.fact 33 (f := .free "isinstance") rfl), He.free_ok X G (c.fact 34 (f := .free "int") rfl), He.free_ok X G (c.fact 35 (f := .free "bool") rfl), He.free_ok X G (c.fact 36 (f := .free "str") rfl), He.free_ok X G (c.fact 37 (f := .free "tuple") rfl), He.free_ok X G (c.fact 38 (f := .free "list") rfl), He.free_ok X G (c.fact 39 (f := .free "all") rfl), He.free_ok X G (c.fact 40 (f := .free "zip") rfl), He.free_ok X G (c.fact 41 (f := .free "sum") rfl), He.free_ok X G (c.fact 42 (f := .free "max") rfl), He.free_ok X G (c.fact 43 (f := .free "range") rfl), He.free_ok X G (c.fact 44 (f := .free "enumerate") rfl), He.free_ok X G (c.fact 45 (f := .free "abs") rfl), He.free_ok X G (c.fact 46 (f := .free "sorted") rfl), He.free_ok X G (c.fact 47 (f := .free "min") rfl), He.free_ok X G (c.fact 48 (f := .free "reversed") rfl), He.free_ok X G (c.fact 49 (f := .free "any") rfl), He.free_ok X G (c.fact 50 (f := .free "set") rfl), He.free_ok X G (c.fact 51 (f := .free "dict") rfl), He.free_ok X G (c.fact 52 (f := .free "repr") rfl)⟩
  obtain ⟨xk_NoKind, cx⟩ := He.ba cx
  obtain ⟨xt_NO_GROVES, cx⟩ := He.ba cx
  have W_NO_GROVES := no2B_ok xt_NO_GROVES
  have L_LETTERS := He.str_ok X G (c.fact 53 (f := .str "LETTERS" "abcdefghijklmnopqrstuvwxyz") rfl)
  have L_LONGEST_NAME := He.int_ok X G (c.fact 54 (f := .int "LONGEST_NAME" (8)) rfl)
  have L_MOST_KINDS := He.int_ok X G (c.fact 55 (f := .int "MOST_KINDS" (8)) rfl)
  have L_MOST_RULES := He.int_ok X G (c.fact 56 (f := .int "MOST_RULES" (4)) rfl)
  have L_MOST_RULE_PARTS := He.int_ok X G (c.fact 57 (f := .int "MOST_RULE_PARTS" (4)) rfl)
  have L_MOST_MANY := He.int_ok X G (c.fact 58 (f := .int "MOST_MANY" (1000000000)) rfl)
  have V_NO_GROVES := He.glo_ok X G (c.fact 59 (f := .glo "NO_GROVES") rfl)
  have O_NoBook : Own K mg "NoBook" (He.ga K "NoBook") := by
    obtain ⟨y1, y2, y3, y4⟩ := He.exc_ok (c.fact 60 (f := .exc "NoBook") rfl)
    exact ⟨He.glo_ok X G (c.fact 61 (f := .glo "NoBook") rfl), y1, y2, y3, y4⟩
  have O_NoPlace : Own K mg "NoPlace" (He.ga K "NoPlace") := by
    obtain ⟨y1, y2, y3, y4⟩ := He.exc_ok (c.fact 62 (f := .exc "NoPlace") rfl)
    exact ⟨He.glo_ok X G (c.fact 63 (f := .glo "NoPlace") rfl), y1, y2, y3, y4⟩
  have m_NoKind := He.glo_ok X G (c.fact 64 (f := .glo "NoKind") rfl)
  have h_NoKind := He.meth_ok (c.fact 65 (f := .meth "NoKind" "__init__") rfl)
  have n_NoKind := He.noat_ok (c.fact 66 (f := .noat "NoKind" "kind") rfl)
  have m_Book := He.glo_ok X G (c.fact 67 (f := .glo "Book") rfl)
  have c_Book := He.cls_ok (c.fact 68 (f := .cls "Book") rfl)
  have T_Book : ClsF K (He.ga K "Book") ["spread_by_name", "rows_by_name"] := ⟨c_Book, fun f hf => by
      rcases List.mem_cons.mp hf with e | hf
      · rw [e]; exact He.noat_ok (c.fact 69 (f := .noat "Book" "spread_by_name") rfl)
      rcases List.mem_cons.mp hf with e | hf
      · rw [e]; exact He.noat_ok (c.fact 70 (f := .noat "Book" "rows_by_name") rfl)
      exact nomatch hf⟩
  have h_Book___init__ := He.mkr_ok (c.fact 71 (f := .mkr "Book") rfl)
  have h_Book_names := He.meth_ok (c.fact 72 (f := .meth "Book" "names") rfl)
  have h_Book_spreads := He.meth_ok (c.fact 73 (f := .meth "Book" "spreads") rfl)
  have h_Book_rules := He.meth_ok (c.fact 74 (f := .meth "Book" "rules") rfl)
  have e := hfa.symm.trans m_law
  cases e
  have b := FunD.bindsA (ps := ["_law_script"]) D_law fun _ _ _ _ _ _ us hl => match us, hl with | [_], _ => rfl
  refine ⟨fd_law, fun s v => b s [v] rfl, fun base _ _ => ?_⟩
  have g_is_whole : Got P w K mg base "is_whole" ["thing"] 1 (spWhole K) := ⟨_, _, ok_is_whole B F_is_whole, F_is_whole.kp, b_is_whole, m_is_whole⟩
  have g_is_many : Got P w K mg base "is_many" ["thing"] 2 (spMany K []) := ⟨_, _, ok_is_many B g_is_whole F_is_many, F_is_many.kp, b_is_many, m_is_many⟩
  have g_is_rising : Got P w K mg base "is_rising" ["things"] 1 (spRising K) := ⟨_, _, ok_is_rising B F_is_rising, F_is_rising.kp, b_is_rising, m_is_rising⟩
  have g_run_of : Got P w K mg base "run_of" ["text", "at", "signs"] 1 (spRunOf K) := ⟨_, _, ok_run_of B F_run_of, F_run_of.kp, b_run_of, m_run_of⟩
  have g_is_name : Got P w K mg base "is_name" ["thing"] 2 (spName K) := ⟨_, _, ok_is_name B L_LETTERS L_LONGEST_NAME g_run_of F_is_name, F_is_name.kp, b_is_name, m_is_name⟩
  have r_grove : ∀ n, Got P w K mg base "is_tree" ["thing"] (n + 3) (spIsTree K n) ∧ Got P w K mg base "is_grove" ["thing"] (n + 3) (spIsGrove K n) ∧ Got P w K mg base "are_grove_pairs" ["things"] (n + 3) (spPairsQ K true n) := by
    intro n
    induction n with
    | zero => exact ⟨⟨_, _, none_is_tree, F_is_tree.kp, b_is_tree, m_is_tree⟩, ⟨_, _, none_is_grove, F_is_grove.kp, b_is_grove, m_is_grove⟩, ⟨_, _, none_are_grove_pairs, F_are_grove_pairs.kp, b_are_grove_pairs, m_are_grove_pairs⟩⟩
    | succ n ih => exact ⟨⟨_, _, ok_is_tree B g_is_name ih.2.1 F_is_tree, F_is_tree.kp, b_is_tree, m_is_tree⟩, ⟨_, _, ok_is_grove B g_is_rising ih.2.2 F_is_grove, F_is_grove.kp, b_is_grove, m_is_grove⟩, ⟨_, _, ok_are_grove_pairs B g_is_many ih.1 F_are_grove_pairs, F_are_grove_pairs.kp, b_are_grove_pairs, m_are_grove_pairs⟩⟩
  have g_is_tree : Got P w K mg base "is_tree" ["thing"] 84 (spIsTree K 81) := (r_grove 81).1
  have g_is_grove : Got P w K mg base "is_grove" ["thing"] 84 (spIsGrove K 81) := (r_grove 81).2.1
  have gL_are_grove_pairs : Got P w K mg base "are_grove_pairs" ["things"] 63 (spPairsQ K false 60) := ⟨_, _, ok_are_grove_pairsL B g_is_many (r_grove 59).1 F_are_grove_pairs, F_are_grove_pairs.kp, b_are_grove_pairs, m_are_grove_pairs⟩
  have r_pairs_within : ∀ n, Got P w K mg base "pairs_within" ["grove"] (n) (spPairsW K n) := by
    intro n
    induction n with
    | zero => exact ⟨_, _, none_pairs_within, F_pairs_within.kp, b_pairs_within, m_pairs_within⟩
    | succ n ih => exact ⟨_, _, ok_pairs_within ih F_pairs_within, F_pairs_within.kp, b_pairs_within, m_pairs_within⟩
  have g_pairs_within := r_pairs_within 20
  have r_bare_places : ∀ n, Got P w K mg base "bare_places" ["grove"] (n) (spBareP K n) := by
    intro n
    induction n with
    | zero => exact ⟨_, _, none_bare_places, F_bare_places.kp, b_bare_places, m_bare_places⟩
    | succ n ih => exact ⟨_, _, ok_bare_places B ih F_bare_places, F_bare_places.kp, b_bare_places, m_bare_places⟩
  have g_bare_places := r_bare_places 20
  have g_tree_at : GotX P w K mg base "tree_at" ["grove", "place"] 2 (spTreeAt K (He.ga K "NoPlace")) := ⟨_, _, ok_tree_at B O_NoPlace g_is_whole F_tree_at, F_tree_at.kp, b_tree_at, m_tree_at⟩
  have g_kinds_within : Got P w K mg base "kinds_within" ["grove"] (21) (spKindsW K) := ⟨_, _, ok_kinds_within B g_pairs_within F_kinds_within, F_kinds_within.kp, b_kinds_within, m_kinds_within⟩
  have O_NoKind : OwnI P w K mg base "NoKind" (He.ga K "NoKind") 1 := ⟨m_NoKind, oexCB_ok xk_NoKind, n_NoKind, ⟨_, _, h_NoKind.at_, beq_iff_eq.mp h_NoKind.fn, ok_NoKind___init__ F_NoKind___init__, b_NoKind___init__⟩⟩
  have g_Book_names : GotM P w K mg base (He.ga K "Book") "names" ["self"] (1) (spBNames K (He.ga K "Book")) := ⟨_, _, ok_Book_names B T_Book F_Book_names, h_Book_names, b_Book_names, c_Book⟩
  have g_check_kind : GotX P w K mg base "check_kind" ["book", "name"] (3) (spCheckK K (He.ga K "Book") (He.ga K "NoKind")) := ⟨_, _, ok_check_kind B O_NoKind g_Book_names F_check_kind, F_check_kind.kp, b_check_kind, m_check_kind⟩
  have g_Book_rules : GotMX P w K mg base (He.ga K "Book") "rules" ["self", "name"] (4) (spBRules K (He.ga K "Book") (He.ga K "NoKind")) := ⟨_, _, ok_Book_rules B T_Book g_check_kind F_Book_rules, h_Book_rules, b_Book_rules, c_Book⟩
  have g_rules_from_nought : GotX P w K mg base "rules_from_nought" ["book", "name"] (5) (spRulesN K (He.ga K "Book") (He.ga K "NoKind")) := ⟨_, _, ok_rules_from_nought B V_NO_GROVES W_NO_GROVES g_Book_rules F_rules_from_nought, F_rules_from_nought.kp, b_rules_from_nought, m_rules_from_nought⟩
  have g_check_kinds : GotX P w K mg base "check_kinds" ["book", "grove"] (22) (spCheckKs K (He.ga K "Book") (He.ga K "NoKind")) := ⟨_, _, ok_check_kinds B g_kinds_within g_check_kind F_check_kinds, F_check_kinds.kp, b_check_kinds, m_check_kinds⟩
  have g_is_rule : Got P w K mg base "is_rule" ["thing"] (85) (spIsRule K) := ⟨_, _, ok_is_rule B L_MOST_RULE_PARTS L_MOST_MANY g_is_grove g_pairs_within F_is_rule, F_is_rule.kp, b_is_rule, m_is_rule⟩
  have g_is_kind : Got P w K mg base "is_kind" ["thing"] (86) (spIsKind K) := ⟨_, _, ok_is_kind B L_MOST_RULES g_is_name g_is_rule F_is_kind, F_is_kind.kp, b_is_kind, m_is_kind⟩
  have g_is_rule_of : Got P w K mg base "is_rule_of" ["rule", "names"] (21) (spIsRuleOf K) := ⟨_, _, ok_is_rule_of B g_pairs_within F_is_rule_of, F_is_rule_of.kp, b_is_rule_of, m_is_rule_of⟩
  have g_are_kinds : Got P w K mg base "are_kinds" ["things"] (87) (spAreKinds K) := ⟨_, _, ok_are_kinds B L_MOST_KINDS g_is_kind g_is_rule_of F_are_kinds, F_are_kinds.kp, b_are_kinds, m_are_kinds⟩
  have g_choices : GotX P w K mg base "choices" ["book", "grove"] (23) (spChoices K (He.ga K "Book") (He.ga K "NoKind")) := ⟨_, _, ok_choices B g_check_kinds g_bare_places g_rules_from_nought g_tree_at F_choices, F_choices.kp, b_choices, m_choices⟩
  have g__law_purse : Got P w K mg base "_law_purse" ["_law_script", "_law_k"] (1) (spPurseW K) := ⟨_, _, ok__law_purse B F__law_purse, F__law_purse.kp, b__law_purse, m__law_purse⟩
  have g__law_take : Got P w K mg base "_law_take" ["_law_purse_here", "_law_many_here"] (1) (spTakeW) := ⟨_, _, ok__law_take B F__law_take, F__law_take.kp, b__law_take, m__law_take⟩
  have g__law_names : Got P w K mg base "_law_names" ["_law_purse_here", "_law_many_here"] (2) (spWords K) := ⟨_, _, ok__law_names B g__law_take F__law_names, F__law_names.kp, b__law_names, m__law_names⟩
  have g__law_many : Got P w K mg base "_law_many" ["_law_purse_here", "_law_most"] (2) (spManyP) := ⟨_, _, ok__law_many B g__law_take F__law_many, F__law_many.kp, b__law_many, m__law_many⟩
  have r__law_wood : ∀ n, Got P w K mg base "_law_wood" ["_law_purse_here", "_law_pool", "_law_room", "_law_low", "_law_most"] (n + 2) (spWood K n) := by
    intro n
    induction n with
    | zero => exact ⟨_, _, none__law_wood, F__law_wood.kp, b__law_wood, m__law_wood⟩
    | succ n ih => exact ⟨_, _, ok__law_wood B g__law_take ih g__law_many F__law_wood, F__law_wood.kp, b__law_wood, m__law_wood⟩
  have g__law_wood : Got P w K mg base "_law_wood" ["_law_purse_here", "_law_pool", "_law_room", "_law_low", "_law_most"] (13 + 2) (spWood K 13) := r__law_wood 13
  have g__law_kinds : Got P w K mg base "_law_kinds" ["_law_script", "_law_names_here"] (16) (spKindsP K) := ⟨_, _, ok__law_kinds B g__law_purse g__law_take g__law_wood F__law_kinds, F__law_kinds.kp, b__law_kinds, m__law_kinds⟩
  have g__law_kind : Got P w K mg base "_law_kind" ["_law_kinds_here", "_law_name"] (1) (spKindP K) := ⟨_, _, ok__law_kind B F__law_kind, F__law_kind.kp, b__law_kind, m__law_kind⟩
  have g__law_grove : Got P w K mg base "_law_grove" ["_law_script", "_law_names_here"] (16) (spGroveP K) := ⟨_, _, ok__law_grove B g__law_purse g__law_take g__law_wood F__law_grove, F__law_grove.kp, b__law_grove, m__law_grove⟩
  have r__law_bare : ∀ n, Got P w K mg base "_law_bare" ["_law_grove_here", "_law_ahead"] (n) (spBareL K n) := by
    intro n
    induction n with
    | zero => exact ⟨_, _, none__law_bare, F__law_bare.kp, b__law_bare, m__law_bare⟩
    | succ n ih => exact ⟨_, _, ok__law_bare B ih F__law_bare, F__law_bare.kp, b__law_bare, m__law_bare⟩
  have g__law_bare : Got P w K mg base "_law_bare" ["_law_grove_here", "_law_ahead"] (20) (spBareL K 20) := r__law_bare 20
  have g__law_is_choice : Got P w K mg base "_law_is_choice" ["_law_thing"] (1) (spIsCh K) := ⟨_, _, ok__law_is_choice B F__law_is_choice, F__law_is_choice.kp, b__law_is_choice, m__law_is_choice⟩
  have g_Book___init__ : GotI P w K mg base "Book" (He.ga K "Book") ["self", "kinds"] (88) (spBInit K (He.ga K "Book") (He.ga K "NoBook")) := ⟨_, _, ok_Book___init__ B O_NoBook T_Book g_are_kinds F_Book___init__, h_Book___init__, b_Book___init__, m_Book⟩
  exact ok_law B g__law_names g__law_take g__law_purse g__law_kinds g__law_grove g__law_bare g__law_kind g_Book___init__ g_choices g__law_is_choice F_law
end FT
open PySem PySem.W PySem.Calls PyProof.Rows
set_option maxRecDepth 100000 in
set_option maxHeartbeats 0 in
theorem PySem.Challenge.cw_felltimber_k30_choices_told_holds : PySem.Challenge.rw_felltimber_k30_choices_told.Holds := by
  w_on; o_law
  refine HandSHeadRun.head_any (r := OpenLaw.row PySem.Challenge.rw_felltimber_k30_choices_told) (q := view (OpenLaw.row PySem.Challenge.rw_felltimber_k30_choices_told).prog [50]) (H := FT.hk) (ob := FT.ob) (M := 6000) (loose := FT.loose) (d := HandSHeadRun.topDef (OpenLaw.row PySem.Challenge.rw_felltimber_k30_choices_told).prog 50) (kwd := []) FT.ob_eq
    (by kernel_rfl) (fun s => by kernel_rfl) FT.run (by kernel_rfl) (by kernel_rfl) (by kernel_rfl) (by rfl) (by first | assumption | decide +kernel) (by decide +kernel) ⟨rfl, rfl, rfl, rfl, rfl, by decide +kernel⟩ ?hw ?hc
  case hw => w_witness2
  case hc =>
    refine L2.walk_ofE (l := PySem.Challenge.rw_felltimber_k30_choices_told) (n := 63) (k := 95) (x := "_law_script") (CX := L2.CX0) rfl (by decide) (by kernel_rfl) ⟨rfl, by decide, by decide⟩ ?F (fun _ _ _ _ z => z)
    intro w mg fa h Y G hmg0
    obtain ⟨K, KX, c, cx⟩ := Y
    have hmg : mg ("law" : PySem.Str) = some (.ref fa) := by
      have e : (HandSHeadRun.topDef (OpenLaw.row PySem.Challenge.rw_felltimber_k30_choices_told).prog 50).name = ("law" : PySem.Str) := by kernel_rfl
      rw [← e]
      exact hmg0
    obtain ⟨fd, hb, hF⟩ := FT.facts (P := (PySem.Challenge.rw_felltimber_k30_choices_told).prog) (w := w) KX G hmg c cx
    exact ⟨K, fd, FT.spLaw K, KX, hb, fun H a ns hl _ hS => ⟨a, ns, rfl, hS, hl, fun _ => rfl⟩, hF⟩
