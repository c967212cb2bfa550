import PyProof.Rows.All
import Wide.All
import OpenK.AllK
import Wide.FinOn
import KE.KStateDown
import KE.SortData
import HandS.ForMost
import HandS.More
import HandS.Walk
import HandS.Zip
import HandS.Style
import HandS.TupAny
import HandS.IsInst
import HandS.Wide
import HandS.Flow
import HandS.WordsExc
import HandS.Defaults
import HandS.Head0
import HandS.Head1
import HandS.Head2
import HandS.HeadEnd
import HandS.HeadHook1
import HandS.HeadHook2
import HandS.HeadNt
import PySem.Challenge.RW_felltimber_k01_numbers_as_ladders
set_option Elab.async false
set_option linter.all false
set_option maxRecDepth 100000
set_option maxHeartbeats 4000000
namespace FT
open PySem PySem.W PySem.Spec PyProof.Rows L2

/-! ## heaps: what stays but for the places ps -/
structure SB (ps : List Addr) (H H' : Hp) : Prop where
  keep : ∀ b o, H b = some o → b ∉ ps → H' b = some o
  tups : ∀ b xs, H b = some (.tup xs) → H' b = some (.tup xs)
  frzs : ∀ b o u, H b = some (.frz o u) → H' b = some (.frz o u)
  dom : ∀ b, H' b = none → H b = none
section
variable {K : PySem.W.Frag} {ps qs : List Addr} {H H' H1 H2 : Hp} {a p : Addr} {xs : List V}
theorem SB.refl : SB ps H H := ⟨fun _ _ h _ => h, fun _ _ h => h, fun _ _ _ h => h, fun _ h => h⟩
theorem SB.trans (a : SB ps H H1) (b : SB ps H1 H2) : SB ps H H2 :=
  ⟨fun c o h n => b.keep c o (a.keep c o h n) n, fun c x h => b.tups c x (a.tups c x h), fun c o u h => b.frzs c o u (a.frzs c o u h), fun c h => a.dom c (b.dom c h)⟩
theorem SB.mono (h : SB ps H H') (hs : ∀ b ∈ ps, b ∈ qs) : SB qs H H' := ⟨fun c o e n => h.keep c o e fun z => n (hs c z), h.tups, h.frzs, h.dom⟩
theorem SB.nil (h : SB [] H H') : SB ps H H' := h.mono fun _ z => absurd z (List.not_mem_nil)
theorem SB.of_same (e : Same H H') : SB ps H H' := ⟨fun b o h _ => e b o h, fun b x h => e b _ h, fun b o u h => e b _ h, fun b h => e.free h⟩
theorem SB.same (h : SB [] H H') : Same H H' := fun b o e => h.keep b o e List.not_mem_nil
theorem SB.new (h : H p = none) (o : HO) : SB ps H (upd H p o) := by
  refine ⟨fun b u e _ => ?_, fun b u e => ?_, fun b v u e => ?_, fun b e => ?_⟩
  · rw [upd_ne (ne_of_none e h)]; exact e
  · rw [upd_ne (ne_of_none e h)]; exact e
  · rw [upd_ne (ne_of_none e h)]; exact e
  · by_cases q : b = p
    · subst q; exact h
    · rw [upd_ne q] at e; exact e
theorem SB.set (h : H p = some (.lst xs)) (hp : p ∈ ps) (o : HO) : SB ps H (upd H p o) := by
  refine ⟨fun b u e n => ?_, fun b u e => ?_, fun b v u e => ?_, fun b e => ?_⟩
  · rw [upd_ne (fun (z : b = p) => n (by rw [z]; exact hp))]; exact e
  · rw [upd_ne (fun (z : b = p) => by subst z; rw [h] at e; cases e)]; exact e
  · rw [upd_ne (fun (z : b = p) => by subst z; rw [h] at e; cases e)]; exact e
  · by_cases q : b = p
    · subst q; rw [upd_same] at e; cases e
    · rw [upd_ne q] at e; exact e
theorem SB.drop (h : SB (p :: ps) H H') (n : H p = none) : SB ps H H' := by
  refine ⟨fun b o e m => h.keep b o e fun z => ?_, h.tups, h.frzs, h.dom⟩
  rcases List.mem_cons.mp z with z | z
  · subst z; rw [n] at e; cases e
  · exact m z
theorem SB.sqT (e : SB ps H H') (h : SqT K H a xs) : SqT K H' a xs := by
  rcases h with (h | ⟨o, h⟩) | h
  · exact .inl (.inl (e.tups _ _ h))
  · exact .inl (.inr ⟨o, e.frzs _ _ _ h⟩)
  · exact .inr h
theorem SB.sqL (e : SB ps H H') (n : a ∉ ps) (h : SqL K H a xs) : SqL K H' a xs := by
  rcases h with (h | ⟨o, h⟩) | h
  · exact .inl (.inl (e.keep _ _ h n))
  · exact .inl (.inr ⟨o, e.frzs _ _ _ h⟩)
  · exact .inr h
theorem SB.ne (e : SB ps H H') {b : Addr} {o : HO} (h : H b = some o) {q : Addr} (n : H' q = none) : b ≠ q := fun z => by
  subst z; rw [e.dom b n] at h; cases h
end

/-! ## ladders -/
inductive Lad where
  | nil
  | cons (e : Lad) (m : Int) (r : Lad)
  deriving DecidableEq
namespace Lad
def encs : Lad → List PyData
  | .nil => []
  | .cons e m r => .tuple [.tuple e.encs, .int m] :: r.encs
def enc (l : Lad) : PyData := .tuple l.encs
def parts : Lad → Nat
  | .nil => 0
  | .cons e _ r => 1 + e.parts + r.parts
def deep : Lad → Nat
  | .nil => 0
  | .cons e _ r => max (1 + e.deep) r.deep
def len : Lad → Nat
  | .nil => 0
  | .cons _ _ r => 1 + r.len
theorem encs_length : ∀ l : Lad, l.encs.length = l.len
  | .nil => rfl
  | .cons e m r => by show r.encs.length + 1 = 1 + r.len; rw [encs_length r, Nat.add_comm]
theorem len_parts : ∀ l : Lad, l.len ≤ l.parts
  | .nil => Nat.le_refl _
  | .cons e m r => by have := len_parts r; show 1 + r.len ≤ 1 + e.parts + r.parts; omega
theorem alikes : ∀ l k : Lad, alikeAll l.encs k.encs = true
  | .nil, _ => by simp [encs, alikeAll]
  | .cons e m r, .nil => by simp [encs, alikeAll]
  | .cons e m r, .cons e' m' r' => by
    have h1 := alikes e e'
    have h2 := alikes r r'
    simp [encs, alikeAll, alike, h1, h2]
theorem alike_enc (l k : Lad) : alike l.enc k.enc = true := by
  show alike (.tuple l.encs) (.tuple k.encs) = true
  rw [alike]; exact alikes l k
theorem encs_depth : ∀ l : Lad, PyData.depthAll l.encs ≤ 2 * l.deep
  | .nil => by simp [encs, PyData.depthAll, deep]
  | .cons e m r => by
    have h1 := encs_depth e
    have h2 := encs_depth r
    simp only [encs, PyData.depthAll, PyData.depth, deep]
    omega
theorem enc_depth (l : Lad) : l.enc.depth ≤ 2 * l.deep + 1 := by
  have := encs_depth l
  simp only [enc, PyData.depth]
  omega
theorem enc_ne (l : Lad) : l.enc ≠ .none := fun h => nomatch h
end Lad

/-! ## x < y of data -/
def rLtD (K : PySem.W.Frag) : R2 := fun x y H Q => ∃ d e, Dp K H x d ∧ Dp K H y e ∧ alike d e = true ∧ d ≠ .none ∧ d.depth ≤ 100 ∧ Q (.bl (dataLt d e)) H
section
variable {X : Cx}
theorem op_ltD (hu : X.A.units + 100 < cLine) : OpR X (compareOp .Lt) (rLtD X.K) := by
  intro pins s σ H x y v u Q I rx ry h
  obtain ⟨d, e, hd, he, al, hn, hdp, q⟩ := h
  obtain ⟨as, r1⟩ := Dp.reads I d x v hd rx
  obtain ⟨bs, r2⟩ := Dp.reads I e y u he ry
  exact rcLt_alike d e X.A s v u as bs r1 r2 al hn (by have := Nat.min_le_left d.depth e.depth; omega) X.prog X.w X.xe _ ⟨.bl _, H, I, rfl, q⟩
end

/-! ## data of tuples stays -/
mutual
def noList : PyData → Bool
  | .list _ => false
  | .dict _ => false
  | .tuple ds => noLists ds
  | _ => true
def noLists : List PyData → Bool
  | [] => true
  | d :: ds => noList d && noLists ds
end
section
variable {K : PySem.W.Frag} {ps : List Addr} {H H' : Hp}
mutual
theorem Dp_sb (e : SB ps H H') : ∀ (d : PyData) (v : V), noList d = true → Dp K H v d → Dp K H' v d
  | .none, _, _, h => by cases h; exact .non
  | .bool b, _, _, h => by cases h; exact .bl b
  | .int i, _, _, h => by cases h; exact .int i
  | .str x, _, _, h => by cases h; exact .str x
  | .list ds, _, n, _ => by simp [noList] at n
  | .dict ds, _, n, _ => by simp [noList] at n
  | .tuple ds, _, n, h => by
    cases h with
    | tup hs ha => exact .tup (e.sqT hs) (DpAll_sb e ds _ (by simpa [noList] using n) ha)
theorem DpAll_sb (e : SB ps H H') : ∀ (ds : List PyData) (vs : List V), noLists ds = true → DpAll K H vs ds → DpAll K H' vs ds
  | [], _, _, h => by cases h; exact .nil
  | d :: ds, _, n, h => by
    cases h with
    | cons h1 h2 =>
      simp [noLists] at n
      exact .cons (Dp_sb e d _ n.1 h1) (DpAll_sb e ds _ n.2 h2)
end
end
theorem Lad.noLists_encs : ∀ l : Lad, noLists l.encs = true
  | .nil => by simp [Lad.encs, noLists]
  | .cons e m r => by simp [Lad.encs, noLists, noList, Lad.noLists_encs e, Lad.noLists_encs r]
theorem Lad.noList_enc (l : Lad) : noList l.enc = true := by simp [Lad.enc, noList, Lad.noLists_encs l]

/-- at v stands the ladder l -/
def LA (K : PySem.W.Frag) (H : Hp) (v : V) (l : Lad) : Prop := Dp K H v l.enc
section
variable {K : PySem.W.Frag} {ps : List Addr} {H H' : Hp} {v : V} {l : Lad}
theorem LA.sb (h : LA K H v l) (e : SB ps H H') : LA K H' v l := Dp_sb e _ _ l.noList_enc h
theorem LA.tup (h : LA K H v l) : ∃ a xs, v = .ref a ∧ SqT K H a xs ∧ DpAll K H xs l.encs := by
  have h' : Dp K H v (.tuple l.encs) := h
  cases h' with
  | tup hs ha => exact ⟨_, _, rfl, hs, ha⟩
theorem DpAll.length : ∀ {vs : List V} {ds : List PyData}, DpAll K H vs ds → vs.length = ds.length
  | _, _, .nil => rfl
  | _, _, .cons _ t => by rw [List.length_cons, List.length_cons, DpAll.length t]
theorem DpAll.get : ∀ {vs : List V} {ds : List PyData} {i : Nat} {v : V}, DpAll K H vs ds → vs[i]? = some v → ∃ d, ds[i]? = some d ∧ Dp K H v d
  | _, _, _, _, .nil, e => by simp at e
  | _, _, 0, _, .cons h t, e => by simp at e; subst e; exact ⟨_, rfl, h⟩
  | _, _, i + 1, v, .cons h t, e => by
    obtain ⟨d, h1, h2⟩ := DpAll.get (i := i) (v := v) t (by simpa using e)
    exact ⟨d, by simpa using h1, h2⟩
end
end FT
namespace FT
open PySem PySem.W PySem.Spec PyProof.Rows L2

/-! ## built-in names that the module has not -/
structure BI (mg : Str → Option Value) : Prop where
  len : mg "len" = none
  isinstance : mg "isinstance" = none
  int : mg "int" = none
  bool : mg "bool" = none
  str : mg "str" = none
  tuple : mg "tuple" = none
  list : mg "list" = none
  all : mg "all" = none
  zip : mg "zip" = none
  sum : mg "sum" = none
  max : mg "max" = none
  range : mg "range" = none
  enumerate : mg "enumerate" = none
  abs : mg "abs" = none
  sorted : mg "sorted" = none

/-! ## a def of the module, with its promise -/
structure Got (P : Program) (w : World) (K : PySem.W.Frag) (mg : Str → Option Value) (base : Heap) (x : Str) (ps : List Str) (k : Nat) (sp : Sp) : Prop where
  ex : ∃ (f : Addr) (fd : FuncData), FnOk P w K mg base CX0 k f fd ps sp ∧ PySem.W.keepIn K (.ref f) = true ∧ Binds K fd ps [] ∧ mg x = some (.ref f)
section
variable {X : Cx} {x : Str} {ps : List Str} {k : Nat} {sp : Sp} {e : Expr} {es : List Expr} {t : TA} {p pos : Pos}
theorem pe_got (G : Got X.prog X.w X.K X.mg X.base x ps k sp) (hr : Room k X.A) (hg : Gl X x) (ha : PA X (e :: es) t) (hdb : (x == ("__debug__" : Str)) = false := by decide) (he : starEach (e :: es) X.env = (false, eval e X.env) :: starEach es X.env := by rfl) (hpl : (backTo pos (starEach es X.env)).any (·.1) = false := by rfl) :
    PE X (.Call (.Name x p) (e :: es) [] pos) (tCall sp [] E0 t) := by
  obtain ⟨f, fd, h1, h2, h3, h4⟩ := G.ex
  exact pe_call h1 hr hg h4 h2 h3 .nil pass0 ha hdb he hpl
end

/-! ## isinstance(x, T), T a built-in class -/
def rIsiN (K : PySem.W.Frag) : List V → Hp → VK → Prop := fun xs H Q => ∃ (x : V) (T n : String) (b : Bool), xs = [x, .ty T] ∧ TyX K H x (.type n) ∧ kitB n T = some b ∧ Q (.bl b) H
section
variable {X : Cx}
theorem call_isiN : CallR X (.builtin "isinstance") (rIsiN X.K) := by
  intro pins s σ H xs us Q I r h
  obtain ⟨x, T, n, b, rfl, ty, e, q⟩ := h
  exact call_isi pins s σ H _ us Q I r ⟨x, .ty T, .type n, .type T, b, rfl, .ty T, ty, kit_ty e, q⟩
theorem pe_ty {T : Str} {T' : String} {pos : Pos} (hg : Gl X T) (hm : X.mg T = none) (hv : bootBuiltins T = some (.type T')) (hn : T ≠ "__name__" := by decide) (hd : (T == ("__debug__" : Str)) = false := by decide) : PE X (.Name T pos) (tC (.ty T')) := pe_bltn hg hm hv rfl hn hd
theorem pe_isi {e : Expr} {te : TE} {T : Str} {T' : String} {p p2 pos : Pos} (B : BI X.mg) (he : PE X e te) (hm : X.mg T = none) (hv : bootBuiltins T = some (.type T')) (hg : Gl X "isinstance" := by rfl) (hg2 : Gl X T := by rfl) (hn : T ≠ "__name__" := by decide) (hd : (T == ("__debug__" : Str)) = false := by decide)
   (hs : starEach [e, .Name T p2] X.env = (false, eval e X.env) :: starEach [.Name T p2] X.env := by rfl) (hpl : (backTo pos (starEach [.Name T p2] X.env)).any (·.1) = false := by rfl) :
    PE X (.Call (.Name "isinstance" p) [e, .Name T p2] [] pos) (tCB (rIsiN X.K) (tCons te (tCons (tC (.ty T')) tNil))) :=
  pe_callB call_isiN hg B.isinstance boot_isinstance (pa_cons he (pa_cons (pe_ty hg2 hm hv hn hd) pa_nil) hs) (by decide) (by decide) hs hpl
end

/-! ## things of any kind: tuples, whole numbers, others -/
mutual
inductive Th (K : PySem.W.Frag) (ps : List Addr) (H : Hp) : V → PyData → Prop
  | int (i : Int) : Th K ps H (.int i) (.int i)
  | tup {a : Addr} {xs : List V} {ds : List PyData} : SqT K H a xs → ThAll K ps H xs ds → Th K ps H (.ref a) (.tuple ds)
  | oth {v : V} {n : String} : TyX K H v (.type n) → kitB n "tuple" = some false → (kitB n "int" = some false ∨ n = "bool") → (∀ a, v = .ref a → a ∉ ps) → Th K ps H v .none
inductive ThAll (K : PySem.W.Frag) (ps : List Addr) (H : Hp) : List V → List PyData → Prop
  | nil : ThAll K ps H [] []
  | cons {v : V} {vs : List V} {d : PyData} {ds : List PyData} : Th K ps H v d → ThAll K ps H vs ds → ThAll K ps H (v :: vs) (d :: ds)
end
def manyD : PyData → Bool
  | .int i => decide (1 ≤ i)
  | _ => false
section
variable {K : PySem.W.Frag} {ps : List Addr} {H H' : Hp}
theorem SqT_ty {a : Addr} {xs : List V} (h : SqT K H a xs) : TyX K H (.ref a) (.type "tuple") := by
  rcases h with (h | ⟨o, h⟩) | ⟨o, its, n, h, c, _⟩
  · exact .base (.tup h)
  · exact .fTuple h
  · exact .kTuple h c
theorem Th.ty {v : V} {d : PyData} (h : Th K ps H v d) : ∃ n b, TyX K H v (.type n) ∧ kitB n "tuple" = some b ∧ (b = true → ∃ a xs ds, v = .ref a ∧ d = .tuple ds ∧ SqT K H a xs ∧ ThAll K ps H xs ds) ∧ (b = false → (∃ i, d = .int i) ∨ d = .none) := by
  cases h with
  | int i => exact ⟨"int", false, .base (.int i), by decide +kernel, fun z => (nomatch z), fun _ => .inl ⟨i, rfl⟩⟩
  | tup hs ha => exact ⟨"tuple", true, (SqT_ty hs), by decide +kernel, fun _ => ⟨_, _, _, rfl, rfl, hs, ha⟩, fun z => (nomatch z)⟩
  | oth ty k1 k2 _ => exact ⟨_, false, ty, k1, fun z => (nomatch z), fun _ => .inr rfl⟩
theorem Th.whole {v : V} {d : PyData} (h : Th K ps H v d) : ∃ n b1 b2, TyX K H v (.type n) ∧ kitB n "int" = some b1 ∧ (b1 = true → kitB n "bool" = some b2) ∧ ((b1 && !b2) = true → ∃ i, v = .int i ∧ d = .int i) ∧ ((b1 && !b2) = false → manyD d = false) := by
  cases h with
  | int i => exact ⟨"int", true, false, .base (.int i), by decide +kernel, fun _ => by decide +kernel, fun _ => ⟨i, rfl, rfl⟩, fun z => (nomatch z)⟩
  | tup hs ha => exact ⟨"tuple", false, false, (SqT_ty hs), by decide +kernel, fun z => (nomatch z), fun z => (nomatch z), fun _ => rfl⟩
  | @oth v n ty k1 k2 _ =>
    rcases k2 with k2 | k2
    · exact ⟨n, false, false, ty, k2, fun z => (nomatch z), fun z => (nomatch z), fun _ => rfl⟩
    · subst k2
      exact ⟨"bool", true, true, ty, by decide +kernel, fun _ => by decide +kernel, fun z => (nomatch z), fun _ => rfl⟩
theorem ThAll.length : ∀ {vs : List V} {ds : List PyData}, ThAll K ps H vs ds → vs.length = ds.length
  | _, _, .nil => rfl
  | _, _, .cons _ t => by rw [List.length_cons, List.length_cons, ThAll.length t]
theorem ThAll.get : ∀ {vs : List V} {ds : List PyData} {i : Nat} {v : V}, ThAll K ps H vs ds → vs[i]? = some v → ∃ d, ds[i]? = some d ∧ Th K ps H v d
  | _, _, _, _, .nil, e => by simp at e
  | _, _, 0, _, .cons h t, e => by simp at e; subst e; exact ⟨_, rfl, h⟩
  | _, _, i + 1, v, .cons h t, e => by
    obtain ⟨d, h1, h2⟩ := ThAll.get (i := i) (v := v) t (by simpa using e)
    exact ⟨d, by simpa using h1, h2⟩
theorem TyX_sb {v : V} {n : String} (e : SB ps H H') (hn : ∀ a, v = .ref a → a ∉ ps) (h : TyX K H v (.type n)) : TyX K H' v (.type n) := by
  cases h with
  | base h =>
    cases h with
    | non => exact .base .non
    | bl x => exact .base (.bl x)
    | int i => exact .base (.int i)
    | str x => exact .base (.str x)
    | flt x => exact .base (.flt x)
    | lst h => exact .base (.lst (e.keep _ _ h (hn _ rfl)))
    | frz h => exact .base (.frz (e.frzs _ _ _ h))
    | tup h => exact .base (.tup (e.tups _ _ h))
    | dK h => exact .base (.dK (e.keep _ _ h (hn _ rfl)))
    | dT h => exact .base (.dT (e.keep _ _ h (hn _ rfl)))
  | byt b => exact .byt b
  | set h => exact .set (e.keep _ _ h (hn _ rfl))
  | kList h c => exact .kList h c
  | kTuple h c => exact .kTuple h c
  | kDict h c => exact .kDict h c
  | fTuple h => exact .fTuple (e.frzs _ _ _ h)
  | fDict h => exact .fDict (e.frzs _ _ _ h)
mutual
theorem Th_sb (e : SB ps H H') : ∀ {v : V} {d : PyData}, Th K ps H v d → Th K ps H' v d
  | _, _, .int i => .int i
  | _, _, .tup hs ha => .tup (e.sqT hs) (ThAll_sb e ha)
  | _, _, .oth ty k1 k2 hn => .oth (TyX_sb e hn ty) k1 k2 hn
theorem ThAll_sb (e : SB ps H H') : ∀ {vs : List V} {ds : List PyData}, ThAll K ps H vs ds → ThAll K ps H' vs ds
  | _, _, .nil => .nil
  | _, _, .cons h t => .cons (Th_sb e h) (ThAll_sb e t)
end
/-- a ladder is a thing -/
theorem LA_th : ∀ (l : Lad) {v : V}, LA K H v l → Th K ps H v l.enc := by
  intro l
  have key : ∀ (l : Lad) {vs : List V}, DpAll K H vs l.encs → ThAll K ps H vs l.encs := by
    intro l
    induction l with
    | nil => intro vs h; cases h; exact .nil
    | cons e m r ihe ihr =>
      intro vs h
      cases h with
      | cons h1 h2 =>
        refine .cons ?_ (ihr h2)
        cases h1 with
        | tup hs ha =>
          refine .tup hs ?_
          cases ha with
          | cons a1 a2 =>
            cases a2 with
            | cons b1 b2 =>
              cases b2
              cases b1
              cases a1 with
              | tup hs2 ha2 => exact .cons (.tup hs2 (ihe ha2)) (.cons (.int m) .nil)
  intro v h
  obtain ⟨a, xs, rfl, hs, ha⟩ := h.tup
  exact .tup hs (key l ha)
end
end FT
namespace FT
open PySem PySem.W PySem.Spec PyProof.Rows L2
def top (i : Nat) : Stmt := PySem.Challenge.pw_felltimber_k01_numbers_as_ladders.main.body.getD i (.Pass ⟨0, 0, 0, 0⟩)
abbrev s_is_whole : Stmt := top 1
abbrev s_is_many : Stmt := top 2
abbrev s_is_rising : Stmt := top 3
abbrev s_is_ladder : Stmt := top 5
abbrev s_is_ladder_pair : Stmt := top 6
abbrev s_number : Stmt := top 7
abbrev s_is_less : Stmt := top 8
abbrev s_parts : Stmt := top 9
abbrev s_deep : Stmt := top 10
abbrev s__law_at : Stmt := top 12
abbrev s__law_purse : Stmt := top 13
abbrev s__law_draw : Stmt := top 14
abbrev s__law_many : Stmt := top 15
abbrev s__law_alike : Stmt := top 16
abbrev s__law_truth : Stmt := top 17
abbrev s__law_one : Stmt := top 18
abbrev s__law_right : Stmt := top 19
abbrev s_law : Stmt := top 20
end FT
namespace FT
open PySem PySem.W PySem.Spec PyProof.Rows L2
section
variable {P : Program} {w : World} {K : PySem.W.Frag} {mg : Str → Option Value} {base : Heap} {f : Addr} {fd : FuncData}
/-! ### is_whole -/
def spWhole (K : PySem.W.Frag) : Sp := fun vs H Q _ => ∃ (v : V) (n : String) (b1 b2 : Bool), vs = [v] ∧ TyX K H v (.type n) ∧ kitB n "int" = some b1 ∧ (b1 = true → kitB n "bool" = some b2) ∧ Q (.bl (b1 && !b2)) H
theorem sc_is_whole : FnScope ["thing"] ["thing"] (defScope s_is_whole) := ⟨rfl, rfl, rfl, by decide +kernel, rfl, by decide +kernel, by decide +kernel⟩
theorem ok_is_whole (B : BI mg) (F : Fun K "is_whole" "is_whole" s_is_whole f fd) : FnOk P w K mg base CX0 1 f fd ["thing"] (spWhole K) := by
  refine F.ok sc_is_whole (fun vs H Q E h => ?_) (fun cdv A outer s H vs Q E hr h => ?_)
  · obtain ⟨v, n, b1, b2, rfl, _⟩ := h
    rfl
  obtain ⟨v, n, b1, b2, rfl, ty, k1, k2, q⟩ := h
  refine ⟨_, pss_one (ps_ret (pe_and (pe_isi B (pv 0) B.int boot_int) (pe_one (pe_not (pe_isi B (pv 0) B.bool boot_bool))))), ?_⟩
  refine ⟨_, rfl, _, _, n, b1, rfl, ty, k1, b1, rfl, ?_⟩
  cases b1 with
  | false => exact iteF q
  | true =>
    refine iteT ⟨_, rfl, _, _, n, b2, rfl, ty, k2 rfl, b2, rfl, ?_⟩
    exact q
/-! ### is_many -/
def spMany (K : PySem.W.Frag) (ps : List Addr) : Sp := fun vs H Q _ => ∃ (v : V) (d : PyData), vs = [v] ∧ Th K ps H v d ∧ Q (.bl (manyD d)) H
theorem sc_is_many : FnScope ["thing"] ["thing"] (defScope s_is_many) := ⟨rfl, rfl, rfl, by decide +kernel, rfl, by decide +kernel, by decide +kernel⟩
theorem ok_is_many {ps : List Addr} (B : BI mg) (G : Got P w K mg base "is_whole" ["thing"] 1 (spWhole K)) (F : Fun K "is_many" "is_many" s_is_many f fd) : FnOk P w K mg base CX0 2 f fd ["thing"] (spMany K ps) := by
  refine F.ok sc_is_many (fun vs H Q E h => ?_) (fun cdv A outer s H vs Q E hr h => ?_)
  · obtain ⟨v, d, rfl, _⟩ := h
    rfl
  obtain ⟨v, d, rfl, th, q⟩ := h
  refine ⟨_, pss_one (ps_ret (pe_and (pe_got G hr rfl (pa_cons (pv 0) pa_nil)) (pe_one (pe_cmpR op_ge (pv 0) pe_int (nomark _))))), ?_⟩
  obtain ⟨n, b1, b2, ty, k1, k2, y1, y2⟩ := th.whole
  refine ⟨_, rfl, v, n, b1, b2, rfl, ty, k1, k2, b1 && !b2, rfl, ?_⟩
  cases e : (b1 && !b2) with
  | false =>
    refine iteF ?_
    rw [y2 e] at q
    exact q
  | true =>
    obtain ⟨i, rfl, rfl⟩ := y1 e
    exact iteT ⟨_, rfl, _, _, rfl, rfl, q⟩
end
end FT
namespace FT
open PySem PySem.W PySem.Spec PyProof.Rows L2
def ltsD : List PyData → List Bool
  | [] => []
  | [_] => []
  | a :: b :: r => dataLt a b :: ltsD (b :: r)
def risingD (ds : List PyData) : Bool := (ltsD ds).all id
theorem ltsD_length : ∀ ds : List PyData, (ltsD ds).length = ds.length - 1
  | [] => rfl
  | [_] => rfl
  | a :: b :: r => by
    have h := ltsD_length (b :: r)
    show (ltsD (b :: r)).length + 1 = _
    rw [h]; simp
theorem ltsD_get : ∀ (ds : List PyData) (i : Nat) (d e : PyData), ds[i]? = some d → ds[i + 1]? = some e → (ltsD ds)[i]? = some (dataLt d e)
  | [], _, _, _, h, _ => by simp at h
  | [_], _, _, _, _, h => by simp at h
  | a :: b :: r, 0, d, e, h1, h2 => by simp at h1 h2; subst h1 h2; rfl
  | a :: b :: r, i + 1, d, e, h1, h2 => by
    have := ltsD_get (b :: r) i d e (by simpa using h1) (by simpa using h2)
    simpa [ltsD] using this
theorem cut1 (xs : List V) : cutV xs (some 1) none = xs.drop 1 := by
  unfold cutV
  have h1 : HT.sIx xs.length 0 (some 1) = min 1 xs.length := HT.sIx_nat xs.length 0 1
  have h2 : HT.sIx xs.length xs.length none = xs.length := rfl
  rw [h1, h2]
  cases xs with
  | nil => rfl
  | cons x r =>
    have : min 1 (x :: r).length = 1 := by simp
    rw [this]
    simp
section
variable {P : Program} {w : World} {K : PySem.W.Frag} {mg : Str → Option Value} {base : Heap} {f : Addr} {fd : FuncData}
def OkD (d : PyData) : Prop := noList d = true ∧ d ≠ .none ∧ d.depth ≤ 100
def spRising (K : PySem.W.Frag) : Sp := fun vs H Q _ => ∃ (a : Addr) (xs : List V) (ds : List PyData), vs = [.ref a] ∧ SqL K H a xs ∧ DpAll K H xs ds ∧ (∀ d ∈ ds, OkD d) ∧ AllAlike ds ∧ xs.length ≤ 1000 ∧
  ∀ H', SB [] H H' → Q (.bl (risingD ds)) H'
abbrev N_rising : List Str := ["things", "low", "high"]
theorem sc_is_rising : FnScope N_rising ["things"] (defScope s_is_rising) := ⟨rfl, rfl, rfl, by decide +kernel, rfl, by decide +kernel, by decide +kernel⟩
theorem ok_is_rising (B : BI mg) (F : Fun K "is_rising" "is_rising" s_is_rising f fd) : FnOk P w K mg base CX0 1 f fd ["things"] (spRising K) := by
  refine F.ok sc_is_rising (fun vs H Q E h => ?_) (fun cdv A outer s H vs Q E hr h => ?_)
  · obtain ⟨v, n, b1, rfl, _⟩ := h
    rfl
  obtain ⟨a, xs, ds, rfl, hS, hDp, hok, hal, hz, q⟩ := h
  have hu : A.units + 200 < cLine := by have := hr.un; show A.units + 200 < cLine; have h3 : (A.deeper (envOfC "is_rising" (defScope s_is_rising) s.heap.objs.size f cdv)).units = A.units + 3 := rfl; omega
  refine ⟨_, pss_one (ps_ret (pe_callB (cr_all rfl) rfl B.all boot_all (pa_cons
    (pe_lc (own := [("low", 1), ("high", 2)]) (g := gTup K 2 (gCons (gName 1) (gCons (gName 2) gNil))) (tt := tYes) (te := tOp (rLtD K) (tVar 1) (tVar 2)) rfl sc_is_rising.nd
      (pi_zip rfl B.zip (pa_cons (pv 0) (pa_cons (pe_slice sl_list (pv 0) (po_some pe_int) po_none) pa_nil)))
      (blkOk_by (N := N_rising) (sc := defScope s_is_rising) (by decide +kernel))
      (fun _ _ _ _ _ => pg_tup rfl (pgs_cons (pg_name (i := 1) sc_is_rising.nd rfl (.inl rfl)) (pgs_cons (pg_name (i := 2) sc_is_rising.nd rfl (.inl rfl)) pgs_nil)))
      (fun _ _ _ _ _ => pts_nil)
      (fun _ _ _ _ _ => pe_cmpR (op_ltD (by have := hu; show A.units + 3 + 100 < cLine; omega)) (pv 1) (pv 2) (nomark _))) pa_nil))), ?_⟩
  refine ⟨_, rfl, _, rfl, 1, rfl, a, xs, rfl, hS, fun p hp => ?_⟩
  rw [cut1]
  have e1 : SB [] H (upd H p (.lst (xs.drop 1))) := SB.new hp _
  refine ⟨a, p, xs, xs.drop 1, rfl, e1.sqL List.not_mem_nil hS, SqL.of upd_same, fun D hD => ?_⟩
  have hpD : p ≠ D := fun z => by subst z; rw [upd_same] at hD; cases hD
  have dl : ds.length = xs.length := (DpAll.length hDp).symm
  refine lc_it (walk_zip (n := min xs.length (xs.drop 1).length) rfl) (fun i H2 => SB [D] (upd H p (.lst (xs.drop 1))) H2 ∧ H2 D = some (.lst (((ltsD ds).take i).map V.bl))) ⟨SB.new hD _, upd_same⟩ (fun i H2 hi h2 => ?_) (fun i x H2 H' hi h2 y => ?_) (fun H2 h2 => ?_)
  · obtain ⟨h2, h3⟩ := h2
    have h4 := h2.drop hD
    exact ⟨(e1.trans h4).sqL List.not_mem_nil hS, h4.sqL List.not_mem_nil (SqL.of upd_same)⟩
  · obtain ⟨h2, h3⟩ := h2
    have h4 := e1.trans (h2.drop hD)
    obtain ⟨T, x1, y1, rfl, hT, rfl, ex, ey⟩ := y
    have ey : (xs.drop 1)[i]? = some y1 := ey
    rw [List.getElem?_drop, Nat.add_comm] at ey
    obtain ⟨d, ed, hd⟩ := DpAll.get hDp ex
    obtain ⟨d', ed', hd'⟩ := DpAll.get (i := i + 1) hDp ey
    have e5 : SB [] H (upd H2 T (.tup [x1, y1])) := h4.trans (SB.new hT _)
    have m1 := List.mem_of_getElem? ed
    have m2 := List.mem_of_getElem? ed'
    have hTD : D ≠ T := fun z => by subst z; rw [h3] at hT; cases hT
    refine ⟨T, _, rfl, SqT.of upd_same, rfl, _, _, rfl, _, _, rfl, rfl, rfl, ?_⟩
    refine ⟨_, rfl, _, rfl, d, d', Dp_sb e5 _ _ (hok d m1).1 hd, Dp_sb e5 _ _ (hok d' m2).1 hd', hal d m1 d' m2, (hok d m1).2.1, (hok d m1).2.2, _, by rw [upd_ne hTD]; exact h3, ?_, ?_⟩
    · have := ltsD_length ds
      rw [List.length_map, List.length_take]
      exact small1000 (by omega)
    · refine ⟨(h2.trans (SB.new hT _)).trans (SB.set (by rw [upd_ne hTD]; exact h3) (by simp) _), ?_⟩
      rw [upd_same, List.take_add_one, ltsD_get ds i d d' ed ed']
      simp
  · obtain ⟨h2, h3⟩ := h2
    have h4 := e1.trans (h2.drop hD)
    have e6 : (ltsD ds).take (min xs.length (xs.drop 1).length) = ltsD ds := by
      apply List.take_of_length_le
      rw [ltsD_length, List.length_drop]
      omega
    rw [e6] at h3
    exact ⟨D, _, rfl, SqL.of h3, q _ h4⟩
end
end FT
namespace FT
open PySem PySem.W PySem.Spec PyProof.Rows L2
def Lad.num (i : Int) : Lad := if i = 0 then .nil else .cons .nil i .nil
def Lad.lt (l k : Lad) : Bool := dataLt l.enc k.enc
section
variable {P : Program} {w : World} {K : PySem.W.Frag} {mg : Str → Option Value} {base : Heap} {f : Addr} {fd : FuncData}
theorem LA_nil {H : Hp} {p : Addr} (h : SqT K H p []) : LA K H (.ref p) .nil := Dp.tup h .nil
theorem LA_one {H : Hp} {p q : Addr} {u : V} {e : Lad} {m : Int} (h : SqT K H p [.ref q]) (h2 : SqT K H q [u, .int m]) (h3 : LA K H u e) : LA K H (.ref p) (.cons e m .nil) :=
  Dp.tup h (.cons (.tup h2 (.cons h3 (.cons (.int m) .nil))) .nil)
/-! ### number -/
def spNumber (K : PySem.W.Frag) : Sp := fun vs H Q _ => ∃ i : Int, vs = [.int i] ∧ ∀ v H', SB [] H H' → LA K H' v (Lad.num i) → Q v H'
theorem sc_number : FnScope ["many"] ["many"] (defScope s_number) := ⟨rfl, rfl, rfl, by decide +kernel, rfl, by decide +kernel, by decide +kernel⟩
theorem ok_number (F : Fun K "number" "number" s_number f fd) : FnOk P w K mg base CX0 1 f fd ["many"] (spNumber K) := by
  refine F.ok sc_number (fun vs H Q E h => ?_) (fun cdv A outer s H vs Q E hr h => ?_)
  · obtain ⟨v, rfl, _⟩ := h
    rfl
  obtain ⟨i, rfl, q⟩ := h
  refine ⟨_, pss_cons (ps_if (pt_cmpR op_eq (pv 0) pe_int (nomark _)) (pss_one (ps_ret (pe_tup pa_nil))) pss_nil)
    (pss_one (ps_ret (pe_tup (pa_cons (pe_tup (pa_cons (pe_tup pa_nil) (pa_cons (pv 0) pa_nil))) pa_nil)))), ?_⟩
  refine ⟨_, rfl, rfl, _, rfl, ?_⟩
  refine ite2 (fun c => ?_) (fun c => ?_)
  · have c' : V.int i = V.int 0 := of_decide_eq_true c
    injection c' with c'
    subst c'
    refine ⟨(by show 0 ≤ sizeLine; decide), fun p hp => ?_⟩
    exact q _ _ (SB.new hp _) (LA_nil (SqT.of upd_same))
  · have c' : ¬ V.int i = V.int 0 := of_decide_eq_false (Bool.eq_false_iff.mpr c)
    have c2 : ¬ i = 0 := fun z => c' (by rw [z])
    refine ⟨(by show 0 ≤ sizeLine; decide), fun p1 h1 => ?_⟩
    refine ⟨_, rfl, (by show 2 ≤ sizeLine; decide), fun p2 h2 => ?_⟩
    refine ⟨(by show 1 ≤ sizeLine; decide), fun p3 h3 => ?_⟩
    have e1 : SB [] H (upd H p1 (.tup [])) := SB.new h1 _
    have e2 := SB.new (ps := []) h2 (.tup [.ref p1, .int i])
    have e3 := SB.new (ps := []) h3 (.tup [.ref p2])
    refine q _ _ (e1.trans (e2.trans e3)) ?_
    have e : Lad.num i = .cons .nil i .nil := if_neg c2
    rw [e]
    exact LA_one (SqT.of upd_same) (e3.sqT (SqT.of upd_same)) ((LA_nil (SqT.of upd_same)).sb (e2.trans e3))
/-! ### is_less -/
def spLess (K : PySem.W.Frag) : Sp := fun vs H Q _ => ∃ (v u : V) (l k : Lad), vs = [v, u] ∧ LA K H v l ∧ LA K H u k ∧ l.deep ≤ 45 ∧ Q (.bl (l.lt k)) H
theorem sc_is_less : FnScope ["one", "other"] ["one", "other"] (defScope s_is_less) := ⟨rfl, rfl, rfl, by decide +kernel, rfl, by decide +kernel, by decide +kernel⟩
theorem ok_is_less (F : Fun K "is_less" "is_less" s_is_less f fd) : FnOk P w K mg base CX0 1 f fd ["one", "other"] (spLess K) := by
  refine F.ok sc_is_less (fun vs H Q E h => ?_) (fun cdv A outer s H vs Q E hr h => ?_)
  · obtain ⟨v, u, l, k, rfl, _⟩ := h
    rfl
  obtain ⟨v, u, l, k, rfl, hv, hu, hd, q⟩ := h
  refine ⟨_, pss_one (ps_ret (pe_cmpR (op_ltD (by have := hr.un; show A.units + 3 + 100 < cLine; have h3 : (A.deeper (envOfC "is_less" (defScope s_is_less) s.heap.objs.size f cdv)).units = A.units + 3 := rfl; omega)) (pv 0) (pv 1) (nomark _))), ?_⟩
  have := l.enc_depth
  exact ⟨_, rfl, _, rfl, l.enc, k.enc, hv, hu, l.alike_enc k, l.enc_ne, by omega, q⟩
end
end FT
namespace FT
open PySem PySem.W PySem.Spec PyProof.Rows L2
namespace Lad
def ps : Lad → List (Lad × Int)
  | .nil => []
  | .cons e m r => (e, m) :: r.ps
def ofPs : List (Lad × Int) → Lad
  | [] => .nil
  | (e, m) :: r => .cons e m (ofPs r)
def pEnc (p : Lad × Int) : PyData := .tuple [p.1.enc, .int p.2]
theorem ofPs_ps : ∀ l : Lad, ofPs l.ps = l
  | .nil => rfl
  | .cons e m r => by show cons e m (ofPs r.ps) = _; rw [ofPs_ps r]
theorem ps_ofPs : ∀ l : List (Lad × Int), (ofPs l).ps = l
  | [] => rfl
  | (e, m) :: r => by show (e, m) :: (ofPs r).ps = _; rw [ps_ofPs r]
theorem encs_ps : ∀ l : Lad, l.encs = l.ps.map pEnc
  | .nil => rfl
  | .cons e m r => by show _ :: r.encs = pEnc (e, m) :: r.ps.map pEnc; rw [encs_ps r]; rfl
theorem ps_length (l : Lad) : l.ps.length = l.len := by rw [← encs_length, encs_ps, List.length_map]
theorem parts_ps : ∀ l : Lad, (l.parts : Int) = (l.ps.map fun p => (1 : Int) + (p.1.parts : Int)).sum
  | .nil => rfl
  | .cons e m r => by
    have h := parts_ps r
    show ((1 + e.parts + r.parts : Nat) : Int) = (1 + (e.parts : Int)) + (r.ps.map fun p => (1 : Int) + (p.1.parts : Int)).sum
    rw [← h]; omega
theorem mem_parts : ∀ (l : Lad) (p : Lad × Int), p ∈ l.ps → p.1.parts < l.parts
  | .nil, _, h => by simp [ps] at h
  | .cons e m r, p, h => by
    rcases List.mem_cons.mp h with h | h
    · subst h; show e.parts < 1 + e.parts + r.parts; omega
    · have := mem_parts r p h; show p.1.parts < 1 + e.parts + r.parts; omega
theorem mem_deep : ∀ (l : Lad) (p : Lad × Int), p ∈ l.ps → p.1.deep < l.deep
  | .nil, _, h => by simp [ps] at h
  | .cons e m r, p, h => by
    rcases List.mem_cons.mp h with h | h
    · subst h; show e.deep < max (1 + e.deep) r.deep; omega
    · have := mem_deep r p h; show p.1.deep < max (1 + e.deep) r.deep; omega
theorem deep_max : ∀ (l : Lad) (m : Int), m ∈ l.ps.map (fun p => (p.1.deep : Int)) → (∀ y ∈ l.ps.map (fun p => (p.1.deep : Int)), y ≤ m) → 1 + m = (l.deep : Int)
  | .nil, _, h, _ => by simp [ps] at h
  | .cons e k r, m, h, hm => by
    have h1 : (e.deep : Int) ≤ m := hm _ (List.mem_cons_self ..)
    have h2 : ∀ y ∈ r.ps.map (fun p => (p.1.deep : Int)), y ≤ m := fun y hy => hm y (List.mem_cons_of_mem _ hy)
    rcases List.mem_cons.mp h with h | h
    · have h' : m = (e.deep : Int) := h
      have hr : (r.deep : Int) ≤ 1 + m := by
        cases r with
        | nil => show (0 : Int) ≤ 1 + m; omega
        | cons e2 k2 r2 =>
          -- some item is the greatest
          have key : ∀ (l : Lad), (∀ y ∈ l.ps.map (fun p => (p.1.deep : Int)), y ≤ m) → (l.deep : Int) ≤ 1 + m := by
            intro l
            induction l with
            | nil => intro _; show (0 : Int) ≤ 1 + m; omega
            | cons e k r _ ih =>
              intro hh
              have a1 := ih fun y hy => hh y (List.mem_cons_of_mem _ hy)
              have a2 : (e.deep : Int) ≤ m := hh _ (List.mem_cons_self ..)
              show ((max (1 + e.deep) r.deep : Nat) : Int) ≤ 1 + m
              omega
          exact key _ h2
      show 1 + m = ((max (1 + e.deep) r.deep : Nat) : Int)
      omega
    · have := deep_max r m h h2
      show 1 + m = ((max (1 + e.deep) r.deep : Nat) : Int)
      omega
end Lad
section
variable {P : Program} {w : World} {K : PySem.W.Frag} {mg : Str → Option Value} {base : Heap} {f : Addr} {fd : FuncData}
theorem LA_pair {H : Hp} {v : V} {p : Lad × Int} (h : Dp K H v (Lad.pEnc p)) : ∃ a u, v = .ref a ∧ SqT K H a [u, .int p.2] ∧ LA K H u p.1 := by
  have h' : Dp K H v (.tuple [p.1.enc, .int p.2]) := h
  cases h' with
  | tup hs ha =>
    cases ha with
    | cons a1 a2 =>
      cases a2 with
      | cons b1 b2 =>
        cases b2
        cases b1
        exact ⟨_, _, rfl, hs, a1⟩
theorem LA_items {H : Hp} {v : V} {l : Lad} (h : LA K H v l) : ∃ a xs, v = .ref a ∧ SqT K H a xs ∧ xs.length = l.ps.length ∧ ∀ (i : Nat) (x : V), xs[i]? = some x → ∃ (p : Lad × Int) (b : Addr) (u : V), l.ps[i]? = some p ∧ p ∈ l.ps ∧ x = .ref b ∧ SqT K H b [u, .int p.2] ∧ LA K H u p.1 := by
  obtain ⟨a, xs, rfl, hs, ha⟩ := h.tup
  refine ⟨a, xs, rfl, hs, ?_, fun i x hx => ?_⟩
  · rw [DpAll.length ha, Lad.encs_ps, List.length_map]
  obtain ⟨d, e, hd⟩ := DpAll.get ha hx
  rw [Lad.encs_ps, List.getElem?_map] at e
  cases e2 : l.ps[i]? with
  | none => rw [e2] at e; cases e
  | some p =>
    rw [e2] at e
    have e3 : Lad.pEnc p = d := Option.some.inj e
    subst e3
    obtain ⟨b, u, rfl, h1, h2⟩ := LA_pair hd
    exact ⟨p, b, u, rfl, List.mem_of_getElem? e2, rfl, h1, h2⟩
abbrev gPair (K : PySem.W.Frag) : TG := gTup K 2 (gCons (gName 1) (gCons (gName 2) gNil))
abbrev rPlus : R2 := rI0 fun i j => .int (i + j)
/-! ### parts -/
def spParts (K : PySem.W.Frag) (n : Nat) : Sp := fun vs H Q _ => ∃ (v : V) (l : Lad), vs = [v] ∧ LA K H v l ∧ l.deep < n ∧ l.parts ≤ 1000 ∧ ∀ H', SB [] H H' → Q (.int l.parts) H'
abbrev N_parts : List Str := ["ladder", "exponent", "many"]
theorem sc_parts : FnScope N_parts ["ladder"] (defScope s_parts) := ⟨rfl, rfl, rfl, by decide +kernel, rfl, by decide +kernel, by decide +kernel⟩
theorem ok_parts {n : Nat} (B : BI mg) (G : Got P w K mg base "parts" ["ladder"] n (spParts K n)) (F : Fun K "parts" "parts" s_parts f fd) : FnOk P w K mg base CX0 (n + 1) f fd ["ladder"] (spParts K (n + 1)) := by
  refine F.ok sc_parts (fun vs H Q E h => ?_) (fun cdv A outer s H vs Q E hr h => ?_)
  · obtain ⟨v, l, rfl, _⟩ := h
    rfl
  obtain ⟨v, l, rfl, hl, hd, hp, q⟩ := h
  refine ⟨_, pss_one (ps_ret (pe_callB (cr_sum rfl) rfl B.sum boot_sum (pa_cons
    (pe_lc (own := [("exponent", 1), ("many", 2)]) (g := gPair K) (tt := tYes) (te := tOp rPlus (tC (.int 1)) (tCall (spParts K n) [] E0 (tCons (tVar 1) tNil))) rfl sc_parts.nd
      (pi_tup (pv 0))
      (blkOk_by (N := N_parts) (sc := defScope s_parts) (by decide +kernel))
      (fun _ _ _ _ _ => pg_tup rfl (pgs_cons (pg_name (i := 1) sc_parts.nd rfl (.inl rfl)) (pgs_cons (pg_name (i := 2) sc_parts.nd rfl (.inl rfl)) pgs_nil)))
      (fun _ _ _ _ _ => pts_nil)
      (fun _ _ _ _ _ => pe_op op_add pe_int (pe_got G hr rfl (pa_cons (pv 1) pa_nil)))) pa_nil))), ?_⟩
  obtain ⟨a, xs, rfl, hs, hlen, hx⟩ := LA_items hl
  refine ⟨_, rfl, a, rfl, ⟨xs, hs⟩, fun D hD => ?_⟩
  have hz := l.len_parts
  rw [← Lad.ps_length] at hz
  refine lc_it (walk_tup (xs := xs)) (fun i H2 => SB [D] H H2 ∧ H2 D = some (.lst (((l.ps.take i).map fun p => (1 : Int) + (p.1.parts : Int)).map V.int))) ⟨SB.new hD _, upd_same⟩ (fun i H2 hi h2 => (h2.1.drop hD).sqT hs) (fun i x H2 H' hi h2 y => ?_) (fun H2 h2 => ?_)
  · obtain ⟨h2, h3⟩ := h2
    obtain ⟨rfl, ex⟩ := y
    obtain ⟨p, b, u, ep, mp, rfl, hb, hu⟩ := hx i x ex
    have h4 := h2.drop hD
    have m1 := l.mem_deep p mp
    have m2 := l.mem_parts p mp
    refine ⟨b, _, rfl, h4.sqT hb, rfl, _, _, rfl, _, _, rfl, rfl, rfl, ?_⟩
    refine ⟨_, rfl, u, p.1, rfl, hu.sb h4, by omega, by omega, fun H5 h5 => ?_⟩
    have h6 := h5.keep _ _ h3 List.not_mem_nil
    refine ⟨_, _, rfl, rfl, _, h6, ?_, ?_⟩
    · rw [List.length_map, List.length_map, List.length_take]
      exact small1000 (by omega)
    · refine ⟨(h2.trans h5.nil).trans (SB.set h6 (by simp) _), ?_⟩
      rw [upd_same, List.take_add_one, ep]
      simp
  · obtain ⟨h2, h3⟩ := h2
    rw [hlen, List.take_length] at h3
    refine ⟨D, _, rfl, SqL.of h3, ?_⟩
    rw [← Lad.parts_ps]
    exact q _ (h2.drop hD)
/-! ### deep -/
def spDeep (K : PySem.W.Frag) (n : Nat) : Sp := fun vs H Q _ => ∃ (v : V) (l : Lad), vs = [v] ∧ LA K H v l ∧ l.deep < n ∧ l.parts ≤ 1000 ∧ ∀ H', SB [] H H' → Q (.int l.deep) H'
theorem sc_deep : FnScope N_parts ["ladder"] (defScope s_deep) := ⟨rfl, rfl, rfl, by decide +kernel, rfl, by decide +kernel, by decide +kernel⟩
theorem ok_deep {n : Nat} (B : BI mg) (G : Got P w K mg base "deep" ["ladder"] n (spDeep K n)) (F : Fun K "deep" "deep" s_deep f fd) : FnOk P w K mg base CX0 (n + 1) f fd ["ladder"] (spDeep K (n + 1)) := by
  refine F.ok sc_deep (fun vs H Q E h => ?_) (fun cdv A outer s H vs Q E hr h => ?_)
  · obtain ⟨v, l, rfl, _⟩ := h
    rfl
  obtain ⟨v, l, rfl, hl, hd, hp, q⟩ := h
  refine ⟨_, pss_cons (ps_if (pt_not (pt_truth (pv 0) (by intro _; rfl))) (pss_one (ps_ret pe_int)) pss_nil) (pss_one (ps_ret (pe_op op_add pe_int (pe_callB (cr_max rfl) rfl B.max boot_max (pa_cons
    (pe_lc (own := [("exponent", 1), ("many", 2)]) (g := gPair K) (tt := tYes) (te := (tCall (spDeep K n) [] E0 (tCons (tVar 1) tNil))) rfl sc_deep.nd
      (pi_tup (pv 0))
      (blkOk_by (N := N_parts) (sc := defScope s_deep) (by decide +kernel))
      (fun _ _ _ _ _ => pg_tup rfl (pgs_cons (pg_name (i := 1) sc_deep.nd rfl (.inl rfl)) (pgs_cons (pg_name (i := 2) sc_deep.nd rfl (.inl rfl)) pgs_nil)))
      (fun _ _ _ _ _ => pts_nil)
      (fun _ _ _ _ _ => (pe_got G hr rfl (pa_cons (pv 1) pa_nil)))) pa_nil))))), ?_⟩
  obtain ⟨a, xs, rfl, hs, hlen, hx⟩ := LA_items hl
  refine ⟨_, rfl, _, .inr (.inl ⟨xs, hs, rfl⟩), ?_⟩
  cases ex : xs with
  | nil =>
    refine iteT ?_
    have e0 : l.deep = 0 := by
      cases l with
      | nil => rfl
      | cons e m r => rw [ex] at hlen; simp [Lad.ps] at hlen
    have := q H SB.refl
    rw [e0] at this
    exact this
  | cons x0 xr =>
  refine iteF ?_
  refine ⟨_, rfl, a, rfl, ⟨xs, hs⟩, fun D hD => ?_⟩
  have hz := l.len_parts
  rw [← Lad.ps_length] at hz
  refine lc_it (walk_tup (xs := xs)) (fun i H2 => SB [D] H H2 ∧ H2 D = some (.lst (((l.ps.take i).map fun p => (p.1.deep : Int)).map V.int))) ⟨SB.new hD _, upd_same⟩ (fun i H2 hi h2 => (h2.1.drop hD).sqT hs) (fun i x H2 H' hi h2 y => ?_) (fun H2 h2 => ?_)
  · obtain ⟨h2, h3⟩ := h2
    obtain ⟨rfl, ex⟩ := y
    obtain ⟨p, b, u, ep, mp, rfl, hb, hu⟩ := hx i x ex
    have h4 := h2.drop hD
    have m1 := l.mem_deep p mp
    have m2 := l.mem_parts p mp
    refine ⟨b, _, rfl, h4.sqT hb, rfl, _, _, rfl, _, _, rfl, rfl, rfl, ?_⟩
    refine ⟨_, rfl, u, p.1, rfl, hu.sb h4, by omega, by omega, fun H5 h5 => ?_⟩
    have h6 := h5.keep _ _ h3 List.not_mem_nil
    refine ⟨_, h6, ?_, ?_⟩
    · rw [List.length_map, List.length_map, List.length_take]
      exact small1000 (by omega)
    · refine ⟨(h2.trans h5.nil).trans (SB.set h6 (by simp) _), ?_⟩
      rw [upd_same, List.take_add_one, ep]
      simp
  · obtain ⟨h2, h3⟩ := h2
    rw [hlen, List.take_length] at h3
    refine ⟨D, _, rfl, SqL.of h3, ?_, fun m hm hy => ?_⟩
    · rw [List.length_map, ← hlen, ex]; simp
    refine ⟨_, _, rfl, rfl, ?_⟩
    show Q (.int (1 + m)) H2
    rw [Lad.deep_max l m hm hy]
    exact q _ (h2.drop hD)
end
end FT
namespace FT
open PySem PySem.W PySem.Spec PyProof.Rows L2
def exp0 : PyData → PyData
  | .tuple (e :: _) => e
  | _ => .none
mutual
def ladD : PyData → Bool
  | .tuple ds => ladPs ds && risingD (ds.map exp0).reverse
  | _ => false
def ladPs : List PyData → Bool
  | [] => true
  | d :: ds => ladP d && ladPs ds
def ladP : PyData → Bool
  | .tuple ds => ladP2 ds
  | _ => false
def ladP2 : List PyData → Bool
  | [] => false
  | e :: r => ladD e && ladP3 r
def ladP3 : List PyData → Bool
  | [] => false
  | m :: r => manyD m && r.isEmpty
end
theorem ladP_iff {d : PyData} : ladP d = true ↔ ∃ e i, d = .tuple [e, .int i] ∧ ladD e = true ∧ (1 : Int) ≤ i := by
  constructor
  · intro h
    cases d with
    | tuple ds =>
      rw [ladP] at h
      cases ds with
      | nil => simp [ladP2] at h
      | cons e r =>
        simp only [ladP2, Bool.and_eq_true] at h
        obtain ⟨h1, h2⟩ := h
        cases r with
        | nil => simp [ladP3] at h2
        | cons m r =>
          simp only [ladP3, Bool.and_eq_true] at h2
          obtain ⟨h2, h3⟩ := h2
          cases r with
          | cons _ _ => simp at h3
          | nil =>
            cases m with
            | int i => exact ⟨e, i, rfl, h1, of_decide_eq_true h2⟩
            | _ => simp [manyD] at h2
    | _ => simp [ladP] at h
  · rintro ⟨e, i, rfl, h1, h2⟩
    simp [ladP, ladP2, ladP3, manyD, h1, h2]
theorem ladPs_lad (IH : ∀ d, ladD d = true → ∃ l : Lad, d = l.enc) : True := trivial
mutual
theorem ladD_lad : ∀ d : PyData, ladD d = true → ∃ l : Lad, d = l.enc
  | .tuple ds, h => by
    rw [ladD, Bool.and_eq_true] at h
    obtain ⟨l, e⟩ := ladPs_enc ds h.1
    exact ⟨l, by rw [e]; rfl⟩
  | .none, h => by simp [ladD] at h
  | .bool _, h => by simp [ladD] at h
  | .int _, h => by simp [ladD] at h
  | .str _, h => by simp [ladD] at h
  | .list _, h => by simp [ladD] at h
  | .dict _, h => by simp [ladD] at h
theorem ladPs_enc : ∀ ds : List PyData, ladPs ds = true → ∃ l : Lad, ds = l.encs
  | [], _ => ⟨.nil, rfl⟩
  | d :: ds, h => by
    rw [ladPs, Bool.and_eq_true] at h
    obtain ⟨r, er⟩ := ladPs_enc ds h.2
    obtain ⟨e, i, ed, he⟩ := ladP_enc d h.1
    exact ⟨.cons e i r, by rw [er, ed]; rfl⟩
theorem ladP_enc : ∀ d : PyData, ladP d = true → ∃ (e : Lad) (i : Int), d = .tuple [e.enc, .int i] ∧ (1 : Int) ≤ i
  | .tuple ds, h => by
    rw [ladP] at h
    obtain ⟨e, i, ed, he⟩ := ladP2_enc ds h
    exact ⟨e, i, by rw [ed], he⟩
  | .none, h => by simp [ladP] at h
  | .bool _, h => by simp [ladP] at h
  | .int _, h => by simp [ladP] at h
  | .str _, h => by simp [ladP] at h
  | .list _, h => by simp [ladP] at h
  | .dict _, h => by simp [ladP] at h
theorem ladP2_enc : ∀ ds : List PyData, ladP2 ds = true → ∃ (e : Lad) (i : Int), ds = [e.enc, .int i] ∧ (1 : Int) ≤ i
  | [], h => by simp [ladP2] at h
  | d :: r, h => by
    rw [ladP2, Bool.and_eq_true] at h
    obtain ⟨l, el⟩ := ladD_lad d h.1
    have h2 := h.2
    match r, h2 with
    | [], h2 => simp [ladP3] at h2
    | .int i :: [], h2 =>
      simp [ladP3, manyD] at h2
      exact ⟨l, i, by rw [el], h2⟩
    | .int i :: _ :: _, h2 => simp [ladP3] at h2
    | .none :: _, h2 => simp [ladP3, manyD] at h2
    | .bool _ :: _, h2 => simp [ladP3, manyD] at h2
    | .str _ :: _, h2 => simp [ladP3, manyD] at h2
    | .list _ :: _, h2 => simp [ladP3, manyD] at h2
    | .dict _ :: _, h2 => simp [ladP3, manyD] at h2
    | .tuple _ :: _, h2 => simp [ladP3, manyD] at h2
end
/-- a thing that is a ladder's datum is a ladder -/
theorem Th_la {K : PySem.W.Frag} {ps : List Addr} {H : Hp} : ∀ (l : Lad) {v : V}, Th K ps H v l.enc → LA K H v l := by
  have key : ∀ (l : Lad) {vs : List V}, ThAll K ps H vs l.encs → DpAll K H vs l.encs := by
    intro l
    induction l with
    | nil => intro vs h; cases h; exact .nil
    | cons e m r ihe ihr =>
      intro vs h
      cases h with
      | cons h1 h2 =>
        refine .cons ?_ (ihr h2)
        cases h1 with
        | tup hs ha =>
          refine .tup hs ?_
          cases ha with
          | cons a1 a2 =>
            cases a2 with
            | cons b1 b2 =>
              cases b2
              cases b1
              cases a1 with
              | tup hs2 ha2 => exact .cons (.tup hs2 (ihe ha2)) (.cons (.int m) .nil)
  intro l v h
  have h' : Th K ps H v (.tuple l.encs) := h
  cases h' with
  | tup hs ha => exact Dp.tup hs (key l ha)
theorem depthAll_get {ds : List PyData} {i : Nat} {d : PyData} (h : ds[i]? = some d) : d.depth ≤ PyData.depthAll ds := PyData.depth_le_depthAll ds d (List.mem_of_getElem? h)
theorem ladPs_all : ∀ ds : List PyData, ladPs ds = ds.all ladP
  | [] => by simp [ladPs]
  | d :: ds => by rw [ladPs, ladPs_all ds]; rfl
section
variable {P : Program} {w : World} {K : PySem.W.Frag} {mg : Str → Option Value} {base : Heap} {f : Addr} {fd : FuncData} {ps : List Addr}
mutual
def wide : PyData → Nat
  | .tuple ds => max ds.length (wides ds)
  | _ => 0
def wides : List PyData → Nat
  | [] => 0
  | d :: ds => max (wide d) (wides ds)
end
theorem wide_mem : ∀ (ds : List PyData) (d : PyData), d ∈ ds → wide d ≤ wides ds
  | [], _, h => by simp at h
  | e :: ds, d, h => by
    rw [wides]
    rcases List.mem_cons.mp h with h | h
    · subst h; omega
    · have := wide_mem ds d h; omega
theorem wide_tuple (ds : List PyData) : wide (.tuple ds) = max ds.length (wides ds) := by rw [wide]
/-! ### is_ladder, is_ladder_pair -/
def spLadder (K : PySem.W.Frag) (ps : List Addr) (n : Nat) : Sp := fun vs H Q _ => ∃ (v : V) (d : PyData), vs = [v] ∧ Th K ps H v d ∧ d.depth < n ∧ d.depth ≤ 80 ∧ wide d ≤ 1000 ∧ ∀ H', SB [] H H' → Q (.bl (ladD d)) H'
def spLadPair (K : PySem.W.Frag) (ps : List Addr) (n : Nat) : Sp := fun vs H Q _ => ∃ (v : V) (d : PyData), vs = [v] ∧ Th K ps H v d ∧ d.depth < n ∧ d.depth ≤ 80 ∧ wide d ≤ 1000 ∧ ∀ H', SB [] H H' → Q (.bl (ladP d)) H'
theorem sc_is_ladder_pair : FnScope ["thing"] ["thing"] (defScope s_is_ladder_pair) := ⟨rfl, rfl, rfl, by decide +kernel, rfl, by decide +kernel, by decide +kernel⟩
theorem ok_is_ladder_pair {n : Nat} (B : BI mg) (GM : Got P w K mg base "is_many" ["thing"] 2 (spMany K ps)) (G : Got P w K mg base "is_ladder" ["thing"] (n + 3) (spLadder K ps n)) (F : Fun K "is_ladder_pair" "is_ladder_pair" s_is_ladder_pair f fd) :
    FnOk P w K mg base CX0 (n + 4) f fd ["thing"] (spLadPair K ps (n + 1)) := by
  refine F.ok sc_is_ladder_pair (fun vs H Q E h => ?_) (fun cdv A outer s H vs Q E hr h => ?_)
  · obtain ⟨v, l, rfl, _⟩ := h
    rfl
  obtain ⟨v, d, rfl, th, hd, h80, hw, q⟩ := h
  refine ⟨_, pss_one (ps_ret (pe_and (pe_isi B (pv 0) B.tuple boot_tuple) (pe_and (pe_cmpR op_eq (pe_callB call_len_seq rfl B.len PySem.boot_len (pa_cons (pv 0) pa_nil)) pe_int (nomark _))
    (pe_and (pe_got G hr rfl (pa_cons (pe_ix ix_tup (pv 0) pe_int (fun _ _ => rfl)) pa_nil)) (pe_one (pe_got GM (hr.mono (by omega)) rfl (pa_cons (pe_ix ix_tup (pv 0) pe_int (fun _ _ => rfl)) pa_nil))))))), ?_⟩
  obtain ⟨n1, b, ty, kb, y1, y2⟩ := th.ty
  refine ⟨_, rfl, _, _, n1, b, rfl, ty, kb, b, rfl, ?_⟩
  cases b with
  | false =>
    refine iteF ?_
    have e : ladP d = false := by rcases y2 rfl with ⟨i, rfl⟩ | rfl <;> simp [ladP]
    have := q H SB.refl
    rw [e] at this
    exact this
  | true =>
  refine iteT ?_
  obtain ⟨a, xs, ds, rfl, rfl, hs, ha⟩ := y1 rfl
  refine ⟨_, rfl, a, xs, rfl, .inr hs, rfl, _, rfl, ?_⟩
  have hl := ThAll.length ha
  refine ite2 (fun c => ?_) (fun c => ?_)
  · have c' : V.int (xs.length : Nat) = V.int 2 := of_decide_eq_true c
    injection c' with c'
    have c2 : xs.length = 2 := by omega
    cases ha with
    | nil => simp at c2
    | cons t1 ta =>
      cases ta with
      | nil => simp at c2
      | cons t2 ta =>
        cases ta with
        | cons t3 ta => simp at c2
        | nil =>
          rename_i v1 d1 v2 d2
          have q1 : d1.depth < PyData.depth (.tuple [d1, d2]) := by simp only [PyData.depth, PyData.depthAll]; omega
          have q2 : wide d1 ≤ wide (.tuple [d1, d2]) := by simp only [wide, wides]; omega
          refine ⟨_, rfl, a, _, _, _, rfl, rfl, hs, atI_nat (j := 0) rfl, v1, d1, rfl, t1, by omega, by omega, by omega, fun H1 h1 => ?_⟩
          refine ⟨_, rfl, ?_⟩
          cases e1 : ladD d1 with
          | false =>
            refine iteF ?_
            have := q H1 h1
            have e : ladP (.tuple [d1, d2]) = false := by simp [ladP, ladP2, e1]
            rw [e] at this
            exact this
          | true =>
            refine iteT ?_
            refine ⟨_, rfl, a, _, _, _, rfl, rfl, h1.sqT hs, atI_nat (j := 1) rfl, v2, d2, rfl, Th_sb h1.nil t2, ?_⟩
            have := q H1 h1
            have e : ladP (.tuple [d1, d2]) = manyD d2 := by simp [ladP, ladP2, ladP3, e1]
            rw [e] at this
            exact this
  · have c' : ¬ V.int (xs.length : Nat) = V.int 2 := of_decide_eq_false (Bool.eq_false_iff.mpr c)
    have c2 : ¬ xs.length = 2 := fun z => c' (by rw [z]; rfl)
    have e : ladP (.tuple ds) = false := by
      cases e : ladP (.tuple ds) with
      | false => rfl
      | true =>
        obtain ⟨e1, i, e2, _⟩ := ladP_iff.mp e
        injection e2 with e2
        rw [e2] at hl
        exact absurd hl c2
    have := q H SB.refl
    rw [e] at this
    exact this
end
end FT
namespace FT
open PySem PySem.W PySem.Spec PyProof.Rows L2
section
variable {K : PySem.W.Frag} {H : Hp}
theorem DpAll.append : ∀ {xs ys : List V} {ds es : List PyData}, DpAll K H xs ds → DpAll K H ys es → DpAll K H (xs ++ ys) (ds ++ es)
  | _, _, _, _, .nil, h => h
  | _, _, _, _, .cons a b, h => .cons a (DpAll.append b h)
theorem DpAll.reverse : ∀ {xs : List V} {ds : List PyData}, DpAll K H xs ds → DpAll K H xs.reverse ds.reverse
  | _, _, .nil => .nil
  | _, _, .cons a b => by
    rw [List.reverse_cons, List.reverse_cons]
    exact DpAll.append (DpAll.reverse b) (.cons a .nil)
theorem noLists_encl : ∀ l : List (Lad × Int), noLists (l.map fun p => p.1.enc) = true
  | [] => by simp [noLists]
  | p :: l => by simp [noLists, noLists_encl l, Lad.noList_enc]
theorem depth_mem {l : Lad} {p : Lad × Int} (h : p ∈ l.ps) : p.1.enc.depth < l.enc.depth := by
  have h1 : Lad.pEnc p ∈ l.encs := by rw [Lad.encs_ps]; exact List.mem_map_of_mem h
  have h2 := PyData.depth_le_depthAll _ _ h1
  have h3 : p.1.enc.depth < (Lad.pEnc p).depth := by simp only [Lad.pEnc, PyData.depth, PyData.depthAll]; omega
  show _ < PyData.depth (.tuple l.encs)
  simp only [PyData.depth]
  omega
end
section
variable {P : Program} {w : World} {K : PySem.W.Frag} {mg : Str → Option Value} {base : Heap} {f : Addr} {fd : FuncData} {ps : List Addr}
abbrev N_ladder : List Str := ["thing", "pair"]
theorem sc_is_ladder : FnScope N_ladder ["thing"] (defScope s_is_ladder) := ⟨rfl, rfl, rfl, by decide +kernel, rfl, by decide +kernel, by decide +kernel⟩
theorem ok_is_ladder {n : Nat} (B : BI mg) (GR : Got P w K mg base "is_rising" ["things"] 1 (spRising K)) (G : Got P w K mg base "is_ladder_pair" ["thing"] (n + 3) (spLadPair K ps n)) (F : Fun K "is_ladder" "is_ladder" s_is_ladder f fd) :
    FnOk P w K mg base CX0 (n + 4) f fd ["thing"] (spLadder K ps (n + 1)) := by
  refine F.ok sc_is_ladder (fun vs H Q E h => ?_) (fun cdv A outer s H vs Q E hr h => ?_)
  · obtain ⟨v, l, rfl, _⟩ := h
    rfl
  obtain ⟨v, d, rfl, th, hd, h80, hw, q⟩ := h
  refine ⟨_, pss_cons (ps_if (pt_not (pt_val (pe_isi B (pv 0) B.tuple boot_tuple))) (pss_one (ps_ret pe_bl)) pss_nil)
    (pss_cons (ps_for PassesOwn.never rfl (pi_tup (pv 0)) (pg_name (i := 1) sc_is_ladder.nd rfl (.inl rfl)) (pss_one (ps_if (pt_not (pt_val (pe_got G hr rfl (pa_cons (pv 1) pa_nil)))) (pss_one (ps_ret pe_bl)) pss_nil)))
    (pss_one (ps_ret (pe_got GR (hr.mono (by omega)) rfl (pa_cons (pe_revL (pe_lc (own := [("pair", 1)]) (g := gName 1) (tt := tYes) (te := tOp (rIxT K) (tVar 1) (tC (.int 0))) rfl sc_is_ladder.nd
      (pi_tup (pv 0))
      (blkOk_by (N := N_ladder) (sc := defScope s_is_ladder) (by decide +kernel))
      (fun _ _ _ _ _ => pg_name (i := 1) sc_is_ladder.nd rfl (.inl rfl))
      (fun _ _ _ _ _ => pts_nil)
      (fun _ _ _ _ _ => pe_ix ix_tup (pv 1) pe_int (fun _ _ => rfl)))) pa_nil))))), ?_⟩
  obtain ⟨n1, b, ty, kb, y1, y2⟩ := th.ty
  refine ⟨_, rfl, _, _, n1, b, rfl, ty, kb, b, rfl, ?_⟩
  cases b with
  | false =>
    refine iteT ?_
    have e : ladD d = false := by rcases y2 rfl with ⟨i, rfl⟩ | rfl <;> simp [ladD]
    have := q H SB.refl
    rw [e] at this
    exact this
  | true =>
  refine iteF ?_
  obtain ⟨a, xs, ds, rfl, rfl, hs, ha⟩ := y1 rfl
  have hl := ThAll.length ha
  rw [wide_tuple] at hw
  refine ⟨_, rfl, a, rfl, ⟨xs, hs⟩, ?_⟩
  refine for_tup (K := K) (a := a) (xs := xs) (fun i σ H2 => SB [] H H2 ∧ (∃ o, σ = [some (.ref a), o]) ∧ (ds.take i).all ladP = true) ⟨SB.refl, ⟨none, rfl⟩, by simp⟩ (fun i σ H2 hi h2 => h2.1.sqT hs) (fun i x σ H2 hx h2 => ?_) (fun σ H2 h2 => ?_)
  · obtain ⟨h2, ⟨o, rfl⟩, h3⟩ := h2
    obtain ⟨dx, ex, tx⟩ := ThAll.get ha hx
    have mx := List.mem_of_getElem? ex
    have m1 := depthAll_get ex
    have m2 := wide_mem _ _ mx
    have m3 : PyData.depth (.tuple ds) = PyData.depthAll ds + 1 := by simp [PyData.depth]
    refine ⟨_, rfl, x, dx, rfl, Th_sb h2.nil tx, by omega, by omega, by omega, fun H5 h5 => ?_⟩
    refine ⟨_, rfl, ?_⟩
    cases e1 : ladP dx with
    | false =>
      refine iteT ?_
      have e : ladD (.tuple ds) = false := by
        rw [ladD, ladPs_all]
        have : ds.all ladP = false := by
          rw [List.all_eq_false]
          exact ⟨dx, mx, by rw [e1]; exact Bool.false_ne_true⟩
        rw [this]; rfl
      have := q H5 (h2.trans h5)
      rw [e] at this
      exact this
    | true =>
      refine iteF ?_
      refine ⟨h2.trans h5, ⟨_, rfl⟩, ?_⟩
      rw [List.take_add_one, ex, List.all_append, h3]
      simp [e1]
  · obtain ⟨h2, ⟨o, rfl⟩, h3⟩ := h2
    rw [hl, List.take_length] at h3
    rw [← ladPs_all] at h3
    obtain ⟨l, rfl⟩ := ladPs_enc ds h3
    have hla : LA K H (.ref a) l := Th_la (ps := ps) l (.tup hs ha)
    obtain ⟨a', xs', e', hs', hlen, hx⟩ := LA_items (hla.sb h2)
    cases e'
    refine ⟨_, rfl, a, rfl, ⟨xs', hs'⟩, fun D hD => ?_⟩
    have hlw : l.ps.length ≤ 1000 := by
      have : l.encs.length = l.ps.length := by rw [Lad.encs_ps, List.length_map]
      omega
    refine lc_it (walk_tup (xs := xs')) (fun i H3 => SB [D] H2 H3 ∧ ∃ acc, H3 D = some (.lst acc) ∧ DpAll K H3 acc ((l.ps.take i).map fun p => p.1.enc)) ⟨SB.new hD _, [], upd_same, .nil⟩ (fun i H3 hi h3 => (h3.1.drop hD).sqT hs') (fun i x H3 H' hi h3 y => ?_) (fun H3 h3 => ?_)
    · obtain ⟨h3, acc, h4, h5⟩ := h3
      obtain ⟨rfl, ex⟩ := y
      obtain ⟨p, b, u, ep, mp, rfl, hb, hu⟩ := hx i x ex
      have h6 := h3.drop hD
      have hla2 := DpAll.length h5
      refine ⟨rfl, ?_⟩
      refine ⟨_, rfl, b, _, _, _, rfl, rfl, h6.sqT hb, atI_nat (j := 0) rfl, acc, h4, ?_, ?_⟩
      · rw [hla2, List.length_map, List.length_take]
        exact small1000 (by omega)
      · have h7 := SB.set (ps := [D]) h4 (by simp) (.lst (acc ++ [u]))
        refine ⟨h3.trans h7, _, upd_same, ?_⟩
        rw [List.take_add_one, ep, List.map_append]
        exact DpAll.append (DpAll_sb h7 _ _ (noLists_encl _) h5) (.cons ((hu.sb h6).sb h7) .nil)
    · obtain ⟨h3', acc, h4, h5⟩ := h3
      rw [hlen, List.take_length] at h5
      refine ⟨D, acc, rfl, SqL.of h4, fun p hp => ?_⟩
      have h7 := SB.new (ps := []) hp (.lst acc.reverse)
      have h6 := h3'.drop hD
      have hla2 := DpAll.length h5
      refine ⟨p, acc.reverse, (l.ps.map fun p => p.1.enc).reverse, rfl, SqL.of upd_same, DpAll.reverse (DpAll_sb h7 _ _ (noLists_encl _) h5), ?_, ?_, ?_, fun H9 h9 => ?_⟩
      · intro d hd'
        rw [List.mem_reverse] at hd'
        obtain ⟨p1, m1, rfl⟩ := List.mem_map.mp hd'
        have := depth_mem m1
        have h81 : l.enc.depth ≤ 80 := h80
        exact ⟨Lad.noList_enc _, Lad.enc_ne _, by omega⟩
      · intro d hd' d2 hd2
        rw [List.mem_reverse] at hd' hd2
        obtain ⟨p1, _, rfl⟩ := List.mem_map.mp hd'
        obtain ⟨p2, _, rfl⟩ := List.mem_map.mp hd2
        exact Lad.alike_enc _ _
      · rw [List.length_reverse, hla2, List.length_map]; exact hlw
      · have := q H9 (((h2.trans h6).trans h7).trans h9)
        have e : ladD (.tuple l.encs) = risingD (l.ps.map fun p => p.1.enc).reverse := by
          rw [ladD, h3, Bool.true_and, Lad.encs_ps, List.map_map]
          rfl
        rw [e] at this
        exact this
end
end FT
namespace FT
open PySem PySem.W PySem.Spec PyProof.Rows L2
/-- a purse -/
def Pu (H : Hp) (p : Addr) : Prop := ∃ x y : Int, H p = some (.lst [.int x, .int y]) ∧ 0 ≤ x ∧ 0 ≤ y ∧ y < 2147483629
section
variable {P : Program} {w : World} {K : PySem.W.Frag} {mg : Str → Option Value} {base : Heap} {f : Addr} {fd : FuncData}
/-! ### _law_at -/
def spAt (K : PySem.W.Frag) : Sp := fun vs H Q _ => ∃ (a : Addr) (ns : List Int) (k : Nat), vs = [.ref a, .int (k : Int)] ∧ SqL K H a (ns.map V.int) ∧ ∀ i : Int, Q (.int i) H
theorem sc_law_at : FnScope ["_law_script", "_law_k"] ["_law_script", "_law_k"] (defScope s__law_at) := ⟨rfl, rfl, rfl, by decide +kernel, rfl, by decide +kernel, by decide +kernel⟩
theorem ok_law_at (B : BI mg) (F : Fun K "_law_at" "_law_at" s__law_at f fd) : FnOk P w K mg base CX0 1 f fd ["_law_script", "_law_k"] (spAt K) := by
  refine F.ok sc_law_at (fun vs H Q E h => ?_) (fun cdv A outer s H vs Q E hr h => ?_)
  · obtain ⟨a, ns, k, rfl, _⟩ := h
    rfl
  obtain ⟨a, ns, k, rfl, hs, q⟩ := h
  refine ⟨_, pss_cons (ps_if (pt_cmpR op_lt (pv 1) (pe_callB call_len_seq rfl B.len PySem.boot_len (pa_cons (pv 0) pa_nil)) (nomark _)) (pss_one (ps_ret (pe_ix ix_list (pv 0) (pv 1) (fun _ _ => rfl)))) pss_nil) (pss_one (ps_ret pe_int)), ?_⟩
  refine ⟨_, rfl, _, rfl, a, _, rfl, .inl hs, _, _, rfl, rfl, _, rfl, ?_⟩
  refine ite2 (fun c => ?_) (fun c => ?_)
  · have c' : (k : Int) < ((ns.map V.int).length : Nat) := of_decide_eq_true c
    have c2 : k < ns.length := by rw [List.length_map] at c'; omega
    exact ⟨_, rfl, _, rfl, a, _, _, .int ns[k], rfl, rfl, hs, atI_nat (by rw [List.getElem?_map, List.getElem?_eq_getElem c2]; rfl), q _⟩
  · exact q 0
/-! ### _law_purse -/
def spPurse : Sp := fun vs H Q _ => ∃ c s : Int, vs = [.int c, .int s] ∧ 0 ≤ s ∧ s ≤ 1000 ∧ ∀ p H', SB [] H H' → H p = none → Pu H' p → Q (.ref p) H'
abbrev N_purse : List Str := ["_law_cell", "_law_salt", "_law_digits"]
theorem sc_law_purse : FnScope N_purse ["_law_cell", "_law_salt"] (defScope s__law_purse) := ⟨rfl, rfl, rfl, by decide +kernel, rfl, by decide +kernel, by decide +kernel⟩
theorem ok_law_purse (B : BI mg) (F : Fun K "_law_purse" "_law_purse" s__law_purse f fd) : FnOk P w K mg base CX0 1 f fd ["_law_cell", "_law_salt"] spPurse := by
  refine F.ok sc_law_purse (fun vs H Q E h => ?_) (fun cdv A outer s H vs Q E hr h => ?_)
  · obtain ⟨c, k, rfl, _⟩ := h
    rfl
  obtain ⟨c, k, rfl, h0, h1, q⟩ := h
  refine ⟨_, pss_cons (ps_set (i := 2) sc_law_purse.nd rfl (.inl rfl) pe_int)
    (pss_cons (ps_if (PW.pt (pw_or (pt_cmpR op_lt (pv 0) pe_int (nomark _)) (pw_or1 (pt_cmpR op_ge (pv 0) (pe_op op_pow pe_int pe_int) (nomark _)))))
      (pss_one (ps_set (i := 2) sc_law_purse.nd rfl (.inl rfl) (pe_callB call_abs rfl B.abs boot_abs (pa_cons (pv 0) pa_nil)))) pss_nil)
    (pss_one (ps_ret (pe_lst (pa_cons (pv 2) (pa_cons (pe_op op_mod (pe_op op_add (pe_op op_add (pe_op op_mod (pv 0) pe_int) (pe_op op_mul (pe_op op_mul pe_int (pv 1)) (pv 1))) pe_int) pe_int) pa_nil)))))), ?_⟩
  have fin : ∀ x : Int, 0 ≤ x → tRet (tLst (tCons (tVar 2) (tCons (tOp (rI (fun _ j => 0 < j) fun i j => .int (i % j)) (tOp (rI0 fun i j => .int (i + j)) (tOp (rI0 fun i j => .int (i + j)) (tOp (rI (fun _ j => 0 < j) fun i j => .int (i % j)) (tVar 0) (tC (.int 2147483629))) (tOp (rI CMul fun i j => .int (i * j)) (tOp (rI CMul fun i j => .int (i * j)) (tC (.int 104729)) (tVar 1)) (tVar 1))) (tC (.int 77))) (tC (.int 2147483629))) tNil)))
      { nx := fun _ H' => Q .non H', rt := Q } [some (.int c), some (.int k), some (.int x)] H := by
    intro x hx
    refine ⟨_, rfl, _, rfl, _, _, rfl, rfl, (by show (0 : Int) < 2147483629; decide), _, rfl, _, _, rfl, rfl, .inl ⟨by decide, by decide⟩, _, rfl, _, _, rfl, rfl, .inl ⟨by show -(2 ^ 64) < 104729 * k; omega, by show 104729 * k < 2 ^ 64; omega⟩, _, _, rfl, rfl, _, _, rfl, rfl, _, _, rfl, rfl, (by show (0 : Int) < 2147483629; decide), (by show 2 ≤ sizeLine; decide), fun p hp => ?_⟩
    refine q p _ (SB.new hp _) hp ⟨x, _, upd_same, hx, ?_, ?_⟩
    · exact Int.emod_nonneg _ (by decide)
    · exact Int.emod_lt_of_pos _ (by decide)
  refine ⟨_, rfl, _, _, rfl, rfl, _, rfl, ?_⟩
  have habs : 0 ≤ (if c < 0 then -c else c) := by split <;> omega
  refine ite2 (fun z => ?_) (fun z => ?_)
  · exact iteT ⟨_, rfl, c, rfl, fin _ habs⟩
  · refine ⟨_, rfl, _, _, rfl, rfl, ⟨by decide, by decide, by decide⟩, _, _, rfl, rfl, _, rfl, ?_⟩
    refine ite2 (fun z => ?_) (fun z => ?_)
    · exact ⟨_, rfl, c, rfl, fin _ habs⟩
    · exact fin 0 (Int.le_refl 0)
/-! ### _law_draw -/
def spDraw : Sp := fun vs H Q _ => ∃ (p : Addr) (m : Int), vs = [.ref p, .int m] ∧ Pu H p ∧ 1 ≤ m ∧ m < 2 ^ 100 ∧ ∀ r H', 0 ≤ r → r < m → SB [p] H H' → Pu H' p → Q (.int r) H'
abbrev N_draw : List Str := ["_law_purse_here", "_law_many_here", "_law_found", "_law_mixed"]
theorem sc_law_draw : FnScope N_draw ["_law_purse_here", "_law_many_here"] (defScope s__law_draw) := ⟨rfl, rfl, rfl, by decide +kernel, rfl, by decide +kernel, by decide +kernel⟩
theorem ix0 {x y : V} : atI [x, y] 0 = some x := rfl
theorem ix1 {x y : V} : atI [x, y] 1 = some y := rfl
theorem ok_law_draw (F : Fun K "_law_draw" "_law_draw" s__law_draw f fd) : FnOk P w K mg base CX0 1 f fd ["_law_purse_here", "_law_many_here"] spDraw := by
  refine F.ok sc_law_draw (fun vs H Q E h => ?_) (fun cdv A outer s H vs Q E hr h => ?_)
  · obtain ⟨p, m, rfl, _⟩ := h
    rfl
  obtain ⟨p, m, rfl, ⟨x, y, hp, hx, hy, hy2⟩, hm, hm2, q⟩ := h
  refine ⟨_, pss_cons (ps_if (pt_cmpR op_gt (pe_ix ix_list (pv 0) pe_int (fun _ _ => rfl)) pe_int (nomark _))
      (pss_cons (ps_set (i := 2) sc_law_draw.nd rfl (.inl rfl) (pe_op op_mod (pe_ix ix_list (pv 0) pe_int (fun _ _ => rfl)) (pv 1)))
      (pss_cons (ps_asg (pe_op op_fdivW (pe_ix ix_list (pv 0) pe_int (fun _ _ => rfl)) (pv 1)) (pg_sub (pv 0) pe_int set_list)) (pss_one (ps_ret (pv 2))))) pss_nil)
    (pss_cons (ps_asg (pe_op op_mod (pe_op op_add (pe_op op_mul (pe_ix ix_list (pv 0) pe_int (fun _ _ => rfl)) pe_int) pe_int) pe_int) (pg_sub (pv 0) pe_int set_list))
    (pss_cons (ps_set (i := 3) sc_law_draw.nd rfl (.inl rfl) (pe_op op_mod (pe_op op_mul (pe_ix ix_list (pv 0) pe_int (fun _ _ => rfl)) (pe_ix ix_list (pv 0) pe_int (fun _ _ => rfl))) pe_int))
    (pss_one (ps_ret (pe_op op_mod (pe_op op_fdivW (pe_op op_mod (pe_op op_add (pe_op op_mul (pv 3) pe_int) (pe_ix ix_list (pv 0) pe_int (fun _ _ => rfl))) pe_int) pe_int) (pv 1)))))), ?_⟩
  have hS : SqL K H p [.int x, .int y] := SqL.of hp
  refine ⟨_, rfl, p, _, _, _, rfl, rfl, hS, ix0, _, _, rfl, rfl, _, rfl, ?_⟩
  refine ite2 (fun c => ?_) (fun c => ?_)
  · refine ⟨_, rfl, p, _, _, _, rfl, rfl, hS, ix0, _, rfl, _, _, rfl, rfl, (by show (0 : Int) < m; omega), ?_⟩
    refine ⟨_, rfl, p, _, _, _, rfl, rfl, hS, ix0, _, rfl, _, _, rfl, rfl, wide_div (b := 100) (by omega) (by omega) (by decide) (by decide), ?_⟩
    refine ⟨_, rfl, p, _, _, _, rfl, rfl, hp, rfl, ?_⟩
    refine ⟨_, rfl, q _ _ (Int.emod_nonneg _ (by omega)) (Int.emod_lt_of_pos _ (by omega)) (SB.set hp (by simp) _) ⟨x / m, y, upd_same, Int.ediv_nonneg hx (by omega), hy, hy2⟩⟩
  · refine ⟨_, rfl, p, _, _, _, rfl, rfl, hS, ix1, _, _, rfl, rfl, .inr ⟨by decide, by decide⟩, _, _, rfl, rfl, _, _, rfl, rfl, (by show (0 : Int) < 2147483629; decide), ?_⟩
    refine ⟨_, rfl, p, _, _, _, rfl, rfl, hp, rfl, ?_⟩
    have b1 : 0 ≤ (y * 48271 + 2531011) % 2147483629 := Int.emod_nonneg _ (by decide)
    have b2 : (y * 48271 + 2531011) % 2147483629 < 2147483629 := Int.emod_lt_of_pos _ (by decide)
    generalize hz : (y * 48271 + 2531011) % 2147483629 = z at b1 b2
    have hp2 : (upd H p (.lst [.int x, .int z])) p = some (.lst [.int x, .int z]) := upd_same
    have hS2 : SqL K (upd H p (.lst [.int x, .int z])) p [.int x, .int z] := SqL.of hp2
    show tSeq _ _ _ _ (upd H p (.lst [.int x, .int ((y * 48271 + 2531011) % 2147483629)]))
    rw [hz]
    refine ⟨_, rfl, p, _, _, _, rfl, rfl, hS2, ix1, _, rfl, p, _, _, _, rfl, rfl, hS2, ix1, _, _, rfl, rfl, .inl ⟨by omega, by omega⟩, _, _, rfl, rfl, (by show (0 : Int) < 2147483587; decide), ?_⟩
    have c1 : 0 ≤ z * z % 2147483587 := Int.emod_nonneg _ (by decide)
    have c2 : z * z % 2147483587 < 2147483587 := Int.emod_lt_of_pos _ (by decide)
    refine ⟨_, rfl, _, _, rfl, rfl, .inr ⟨by decide, by decide⟩, _, rfl, p, _, _, _, rfl, rfl, hS2, ix1, _, _, rfl, rfl, _, _, rfl, rfl, (by show (0 : Int) < 2147483587; decide), _, _, rfl, rfl, wide_div (b := 100) (by decide) (by decide) (by decide) (by decide), _, rfl, _, _, rfl, rfl, (by show (0 : Int) < m; omega), ?_⟩
    exact q _ _ (Int.emod_nonneg _ (by omega)) (Int.emod_lt_of_pos _ (by omega)) (SB.set hp (by simp) _) ⟨x, z, upd_same, hx, b1, b2⟩
end
end FT
namespace FT
open PySem PySem.W PySem.Spec PyProof.Rows L2
section
variable {P : Program} {w : World} {K : PySem.W.Frag} {mg : Str → Option Value} {base : Heap} {f : Addr} {fd : FuncData}
abbrev GDraw (P : Program) (w : World) (K : PySem.W.Frag) (mg : Str → Option Value) (base : Heap) : Prop := Got P w K mg base "_law_draw" ["_law_purse_here", "_law_many_here"] 1 spDraw
/-! ### _law_many -/
def spLMany : Sp := fun vs H Q _ => ∃ (p : Addr), vs = [.ref p] ∧ Pu H p ∧ ∀ m H', 1 ≤ m → m < 10 ^ 60 → SB [p] H H' → Pu H' p → Q (.int m) H'
abbrev N_many : List Str := ["_law_purse_here", "_law_way", "_law_found", "_law_turn"]
theorem sc_law_many : FnScope N_many ["_law_purse_here"] (defScope s__law_many) := ⟨rfl, rfl, rfl, by decide +kernel, rfl, by decide +kernel, by decide +kernel⟩
theorem ok_law_many (B : BI mg) (G : GDraw P w K mg base) (F : Fun K "_law_many" "_law_many" s__law_many f fd) : FnOk P w K mg base CX0 2 f fd ["_law_purse_here"] spLMany := by
  refine F.ok sc_law_many (fun vs H Q E h => ?_) (fun cdv A outer s H vs Q E hr h => ?_)
  · obtain ⟨p, rfl, _⟩ := h
    rfl
  obtain ⟨p, rfl, hp, q⟩ := h
  refine ⟨_, pss_cons (ps_set (i := 1) sc_law_many.nd rfl (.inl rfl) (pe_got G hr rfl (pa_cons (pv 0) (pa_cons pe_int pa_nil))))
    (pss_cons (ps_if (pt_cmpR op_eq (pv 1) pe_int (nomark _)) (pss_one (ps_ret pe_int)) pss_nil)
    (pss_cons (ps_if (pt_cmpR op_lt (pv 1) pe_int (nomark _)) (pss_one (ps_ret (pe_op op_add pe_int (pe_got G hr rfl (pa_cons (pv 0) (pa_cons (pe_ix ix_list (pe_lst (pa_cons pe_int (pa_cons (pe_op op_pow pe_int pe_int) pa_nil))) (pe_op op_sub (pv 1) pe_int) (fun _ _ => rfl)) pa_nil)))))) pss_nil)
    (pss_cons (ps_set (i := 2) sc_law_many.nd rfl (.inl rfl) pe_int)
    (pss_cons (ps_for PassesOwn.never rfl (pi_range1 rfl B.range (pa_cons pe_int pa_nil)) (pg_name (i := 3) sc_law_many.nd rfl (.inl rfl))
      (pss_one (ps_set (i := 2) sc_law_many.nd rfl (.inl rfl) (pe_op op_add (pe_op op_mul (pv 2) (pe_op op_pow pe_int pe_int)) (pe_got G hr rfl (pa_cons (pv 0) (pa_cons (pe_op op_pow pe_int pe_int) pa_nil)))))))
    (pss_one (ps_ret (pe_callB (call_max2 rfl) rfl B.max boot_max (pa_cons pe_int (pa_cons (pv 2) pa_nil))))))))), ?_⟩
  refine ⟨_, rfl, p, 4, rfl, hp, by decide, by decide, fun r H1 r0 r4 s1 p1 => ?_⟩
  refine ⟨_, rfl, rfl, _, rfl, ?_⟩
  refine ite2 (fun c => ?_) (fun c => ?_)
  · exact q 1 H1 (by decide) (by decide) s1 p1
  have c' : ¬ V.int r = V.int 0 := of_decide_eq_false (Bool.eq_false_iff.mpr c)
  have c0 : r ≠ 0 := fun z => c' (by rw [z])
  refine ⟨_, rfl, _, _, rfl, rfl, _, rfl, ?_⟩
  refine ite2 (fun c3 => ?_) (fun c3 => ?_)
  · have c3' : r < 3 := of_decide_eq_true c3
    refine ⟨_, rfl, _, _, rfl, rfl, ⟨by decide, by decide, by decide⟩, (by show 2 ≤ sizeLine; decide), fun l hl => ?_⟩
    have s2 : SB [p] H1 (upd H1 l (.lst [.int 6, .int (10 ^ (6 : Int).toNat)])) := SB.new hl _
    have hpl : p ≠ l := fun z => by obtain ⟨x, y, h1, _⟩ := p1; subst z; rw [h1] at hl; cases hl
    have p2 : Pu (upd H1 l (.lst [.int 6, .int (10 ^ (6 : Int).toNat)])) p := by
      obtain ⟨x, y, h1, h2⟩ := p1
      exact ⟨x, y, by rw [upd_ne hpl]; exact h1, h2⟩
    have hr12 : r = 1 ∨ r = 2 := by omega
    rcases hr12 with hr1 | hr1
    · subst hr1
      refine ⟨_, rfl, _, _, rfl, rfl, l, _, _, .int 6, rfl, rfl, SqL.of upd_same, rfl, p, 6, rfl, p2, by decide, by decide, fun r2 H2 r20 r26 s3 p3 => ?_⟩
      exact ⟨_, _, rfl, rfl, q _ _ (by show (1 : Int) ≤ 1 + r2; omega) (by show 1 + r2 < 10 ^ 60; omega) (s1.trans (s2.trans s3)) p3⟩
    · subst hr1
      refine ⟨_, rfl, _, _, rfl, rfl, l, _, _, .int (10 ^ (6 : Int).toNat), rfl, rfl, SqL.of upd_same, rfl, p, 10 ^ (6 : Int).toNat, rfl, p2, by decide, by decide, fun r2 H2 r20 r26 s3 p3 => ?_⟩
      have r27 : r2 < 1000000 := r26
      exact ⟨_, _, rfl, rfl, q _ _ (by show (1 : Int) ≤ 1 + r2; omega) (by show 1 + r2 < 10 ^ 60; omega) (s1.trans (s2.trans s3)) p3⟩
  refine ⟨10, rfl, by decide, by decide, ?_⟩
  refine for_range (n := 10) (fun i σ H2 => SB [p] H H2 ∧ Pu H2 p ∧ ∃ fo o, σ = [some (.ref p), some (.int r), some (.int fo), o] ∧ 0 ≤ fo ∧ fo < 1000000 ^ i) ⟨s1, p1, 0, none, rfl, Int.le_refl 0, by decide⟩ (fun i σ H2 hi h2 => ?_) (fun σ H2 h2 => ?_)
  · obtain ⟨s2, p2, fo, o, rfl, f0, f1⟩ := h2
    refine ⟨_, rfl, _, _, rfl, rfl, ⟨by decide, by decide, by decide⟩, _, _, rfl, rfl, .inr ⟨by decide, by decide⟩, ?_⟩
    refine ⟨_, rfl, _, _, rfl, rfl, ⟨by decide, by decide, by decide⟩, p, 10 ^ (6 : Int).toNat, rfl, p2, by decide, by decide, fun r2 H3 r20 r26 s3 p3 => ?_⟩
    have r27 : r2 < 1000000 := r26
    refine ⟨_, _, rfl, rfl, s2.trans s3, p3, fo * 1000000 + r2, _, rfl, by omega, ?_⟩
    rw [Int.pow_succ]
    have : fo + 1 ≤ 1000000 ^ i := f1
    have h3 : (fo + 1) * 1000000 ≤ 1000000 ^ i * 1000000 := Int.mul_le_mul_of_nonneg_right this (by decide)
    omega
  · obtain ⟨s2, p2, fo, o, rfl, f0, f1⟩ := h2
    refine ⟨_, rfl, _, _, rfl, ?_⟩
    have f2 : fo < 10 ^ 60 := f1
    refine q _ _ ?_ ?_ s2 p2
    · split <;> omega
    · split <;> omega
/-! ### _law_truth -/
def spTruth : Sp := fun vs H Q _ => ∃ b : Bool, vs = [.bl b, .bl b] ∧ Q (.bl true) H
theorem sc_law_truth : FnScope ["_law_found", "_law_due"] ["_law_found", "_law_due"] (defScope s__law_truth) := ⟨rfl, rfl, rfl, by decide +kernel, rfl, by decide +kernel, by decide +kernel⟩
theorem ok_law_truth (B : BI mg) (F : Fun K "_law_truth" "_law_truth" s__law_truth f fd) : FnOk P w K mg base CX0 1 f fd ["_law_found", "_law_due"] spTruth := by
  refine F.ok sc_law_truth (fun vs H Q E h => ?_) (fun cdv A outer s H vs Q E hr h => ?_)
  · obtain ⟨b, rfl, _⟩ := h
    rfl
  obtain ⟨b, rfl, q⟩ := h
  refine ⟨_, pss_one (ps_ret (pe_and (pe_isi B (pv 0) B.bool boot_bool) (pe_one (pe_cmpR op_eq (pv 0) (pv 1) (nomark _))))), ?_⟩
  refine ⟨_, rfl, _, _, "bool", true, rfl, .base (.bl b), by decide +kernel, true, rfl, iteT ?_⟩
  refine ⟨_, rfl, _, rfl, rfl, ?_⟩
  have e : decide (V.bl b = V.bl b) = true := decide_eq_true rfl
  rw [e]
  exact q
end
end FT
namespace FT
open PySem PySem.W PySem.Spec PyProof.Rows L2
mutual
def plainD : PyData → Bool
  | .int _ => true
  | .tuple ds => plainDs ds
  | _ => false
def plainDs : List PyData → Bool
  | [] => true
  | d :: ds => plainD d && plainDs ds
end
theorem plainDs_mem : ∀ (ds : List PyData) (d : PyData), plainDs ds = true → d ∈ ds → plainD d = true
  | [], _, _, h => by simp at h
  | e :: ds, d, hp, h => by
    rw [plainDs, Bool.and_eq_true] at hp
    rcases List.mem_cons.mp h with h | h
    · subst h; exact hp.1
    · exact plainDs_mem ds d hp.2 h
mutual
theorem plain_noList : ∀ d : PyData, plainD d = true → noList d = true
  | .int _, _ => by simp [noList]
  | .tuple ds, h => by rw [plainD] at h; rw [noList]; exact plain_noLists ds h
  | .none, h => by simp [plainD] at h
  | .bool _, h => by simp [plainD] at h
  | .str _, h => by simp [plainD] at h
  | .list _, h => by simp [plainD] at h
  | .dict _, h => by simp [plainD] at h
theorem plain_noLists : ∀ ds : List PyData, plainDs ds = true → noLists ds = true
  | [], _ => by simp [noLists]
  | d :: ds, h => by
    rw [plainDs, Bool.and_eq_true] at h
    rw [noLists, plain_noList d h.1, plain_noLists ds h.2]; rfl
end
theorem Lad.plains : ∀ l : Lad, plainDs l.encs = true
  | .nil => by simp [Lad.encs, plainDs]
  | .cons e m r => by simp [Lad.encs, plainDs, plainD, Lad.plains e, Lad.plains r]
theorem Lad.plain (l : Lad) : plainD l.enc = true := by rw [Lad.enc, plainD]; exact l.plains
theorem Lad.wides_encs : ∀ l : Lad, l.len ≤ l.parts ∧ wides l.encs ≤ max 2 l.parts
  | .nil => by simp [Lad.encs, wides, Lad.len, Lad.parts]
  | .cons e m r => by
    have h1 := Lad.wides_encs e
    have h2 := Lad.wides_encs r
    have h3 : e.encs.length = e.len := e.encs_length
    refine ⟨by show 1 + r.len ≤ 1 + e.parts + r.parts; omega, ?_⟩
    simp only [Lad.encs, wides, wide, Lad.parts, List.length_cons, List.length_nil]
    omega
theorem Lad.wide_enc (l : Lad) : wide l.enc ≤ max 2 l.parts := by
  have h1 := l.wides_encs
  have h3 := l.encs_length
  rw [Lad.enc, wide_tuple]
  omega
section
variable {K : PySem.W.Frag} {a b : Addr} {xs ys : List V}
theorem walk_zipT {n : Nat} (hn : n = min xs.length ys.length) : Walk (RZ.ItzT K a b) n (fun H => SqT K H a xs ∧ SqT K H b ys) (YPair (fun i => xs[i]?) (fun i => ys[i]?)) := by
  subst hn
  refine ⟨fun i H hi h => ?_, fun H h => ?_, fun i H x H' hi h y => ?_⟩
  · have h1 : i < xs.length := by omega
    have h2 : i < ys.length := by omega
    exact ⟨xs, ys, xs[i], ys[i], h.1, h.2, List.getElem?_eq_getElem h1, List.getElem?_eq_getElem h2⟩
  · exact ⟨xs, ys, h.1, h.2, by omega⟩
  · obtain ⟨T, x1, y1, e1, e2, e3, e4, e5⟩ := y
    exact ⟨T, x1, y1, e1, e2, e3, e4 xs h.1, e5 ys h.2⟩
end
section
variable {P : Program} {w : World} {K : PySem.W.Frag} {mg : Str → Option Value} {base : Heap} {f : Addr} {fd : FuncData}
/-! ### _law_alike -/
def spAlike (K : PySem.W.Frag) (n : Nat) : Sp := fun vs H Q _ => ∃ (v u : V) (d : PyData), vs = [v, u] ∧ Dp K H v d ∧ Dp K H u d ∧ plainD d = true ∧ d.depth < n ∧ wide d ≤ 1000 ∧ ∀ H', SB [] H H' → Q (.bl true) H'
abbrev N_alike : List Str := ["_law_found", "_law_due", "_law_one_here", "_law_other"]
theorem sc_law_alike : FnScope N_alike ["_law_found", "_law_due"] (defScope s__law_alike) := ⟨rfl, rfl, rfl, by decide +kernel, rfl, by decide +kernel, by decide +kernel⟩
theorem ok_law_alike {n : Nat} (B : BI mg) (G : Got P w K mg base "_law_alike" ["_law_found", "_law_due"] n (spAlike K n)) (F : Fun K "_law_alike" "_law_alike" s__law_alike f fd) :
    FnOk P w K mg base CX0 (n + 1) f fd ["_law_found", "_law_due"] (spAlike K (n + 1)) := by
  refine F.ok sc_law_alike (fun vs H Q E h => ?_) (fun cdv A outer s H vs Q E hr h => ?_)
  · obtain ⟨v, u, d, rfl, _⟩ := h
    rfl
  obtain ⟨v, u, d, rfl, hv, hu, hp, hd, hw, q⟩ := h
  refine ⟨_, pss_cons (ps_if (pt_val (pe_isi B (pv 1) B.tuple boot_tuple))
      (pss_one (ps_ret (pe_and (pe_isi B (pv 0) B.tuple boot_tuple) (pe_and (pe_cmpR op_eq (pe_callB call_len_seq rfl B.len PySem.boot_len (pa_cons (pv 0) pa_nil)) (pe_callB call_len_seq rfl B.len PySem.boot_len (pa_cons (pv 1) pa_nil)) (nomark _))
        (pe_one (pe_callB (cr_all rfl) rfl B.all boot_all (pa_cons
          (pe_lc (own := [("_law_one_here", 2), ("_law_other", 3)]) (g := gTup K 2 (gCons (gName 2) (gCons (gName 3) gNil))) (tt := tYes) (te := tCall (spAlike K n) [] E0 (tCons (tVar 2) (tCons (tVar 3) tNil))) rfl sc_law_alike.nd
            (RZ.pi_zipA rfl B.zip (pa_cons (pv 0) (pa_cons (pv 1) pa_nil)))
            (blkOk_by (N := N_alike) (sc := defScope s__law_alike) (by decide +kernel))
            (fun _ _ _ _ _ => pg_tup rfl (pgs_cons (pg_name (i := 2) sc_law_alike.nd rfl (.inl rfl)) (pgs_cons (pg_name (i := 3) sc_law_alike.nd rfl (.inl rfl)) pgs_nil)))
            (fun _ _ _ _ _ => pts_nil)
            (fun _ _ _ _ _ => pe_got G hr rfl (pa_cons (pv 2) (pa_cons (pv 3) pa_nil)))) pa_nil))))))) pss_nil)
    (pss_one (ps_ret (pe_and (pe_isi B (pv 0) B.int boot_int) (pe_and (pe_not (pe_isi B (pv 0) B.bool boot_bool)) (pe_one (pe_cmpR op_eq (pv 0) (pv 1) (nomark _))))))), ?_⟩
  cases d with
  | int i =>
    cases hv
    cases hu
    refine ⟨_, rfl, _, _, "int", false, rfl, .base (.int i), by decide +kernel, _, rfl, iteF ?_⟩
    refine ⟨_, rfl, _, _, "int", true, rfl, .base (.int i), by decide +kernel, _, rfl, iteT ?_⟩
    refine ⟨_, rfl, _, _, "int", false, rfl, .base (.int i), by decide +kernel, _, rfl, _, rfl, iteT ?_⟩
    refine ⟨_, rfl, _, rfl, rfl, ?_⟩
    have e : decide (V.int i = V.int i) = true := decide_eq_true rfl
    rw [e]
    exact q _ SB.refl
  | none => simp [plainD] at hp
  | bool _ => simp [plainD] at hp
  | str _ => simp [plainD] at hp
  | list _ => simp [plainD] at hp
  | dict _ => simp [plainD] at hp
  | tuple ds =>
    cases hv with
    | @tup a xs _ hs ha =>
      cases hu with
      | @tup b ys _ hs2 hb =>
        rw [plainD] at hp
        rw [wide_tuple] at hw
        have l1 := DpAll.length ha
        have l2 := DpAll.length hb
        have dd : PyData.depth (.tuple ds) = PyData.depthAll ds + 1 := by simp [PyData.depth]
        refine ⟨_, rfl, _, _, "tuple", true, rfl, SqT_ty hs2, by decide +kernel, _, rfl, iteT ?_⟩
        refine ⟨_, rfl, _, _, "tuple", true, rfl, SqT_ty hs, by decide +kernel, _, rfl, iteT ?_⟩
        refine ⟨_, rfl, a, xs, rfl, .inr hs, _, rfl, b, ys, rfl, .inr hs2, rfl, _, rfl, ?_⟩
        have e0 : decide (V.int (xs.length : Nat) = V.int (ys.length : Nat)) = true := decide_eq_true (by rw [l1, l2])
        refine ite2 (fun c => ?_) (fun c => absurd e0 c)
        refine ⟨_, rfl, _, rfl, a, b, xs, ys, rfl, .inr ⟨hs, hs2, fun D hD => ?_⟩⟩
        refine lc_it (walk_zipT (xs := xs) (ys := ys) (n := ds.length) (by omega)) (fun i H2 => SB [D] H H2 ∧ H2 D = some (.lst ((List.replicate i true).map V.bl))) ⟨SB.new hD _, upd_same⟩ (fun i H2 hi h2 => ⟨(h2.1.drop hD).sqT hs, (h2.1.drop hD).sqT hs2⟩) (fun i x H2 H' hi h2 y => ?_) (fun H2 h2 => ?_)
        · obtain ⟨h2, h3⟩ := h2
          have h4 := h2.drop hD
          obtain ⟨T, x1, y1, rfl, hT, rfl, ex, ey⟩ := y
          have ex : xs[i]? = some x1 := ex
          have ey : ys[i]? = some y1 := ey
          obtain ⟨d1, e1, hd1⟩ := DpAll.get ha ex
          obtain ⟨d2, e2, hd2⟩ := DpAll.get hb ey
          rw [e1] at e2
          cases e2
          have m1 := List.mem_of_getElem? e1
          have m2 := plainDs_mem ds d1 hp m1
          have m3 := depthAll_get e1
          have m4 := wide_mem _ _ m1
          have hTD : D ≠ T := fun z => by subst z; rw [h3] at hT; cases hT
          have h5 : SB [] H (upd H2 T (.tup [x1, y1])) := h4.trans (SB.new hT _)
          refine ⟨T, _, rfl, SqT.of upd_same, rfl, _, _, rfl, _, _, rfl, rfl, rfl, ?_⟩
          refine ⟨_, rfl, _, rfl, x1, y1, d1, rfl, Dp_sb h5 _ _ (plain_noList _ m2) hd1, Dp_sb h5 _ _ (plain_noList _ m2) hd2, m2, by omega, by omega, fun H6 h6 => ?_⟩
          have h7 : H6 D = some (.lst ((List.replicate i true).map V.bl)) := h6.keep _ _ (by rw [upd_ne hTD]; exact h3) List.not_mem_nil
          refine ⟨_, h7, ?_, ?_⟩
          · rw [List.length_map, List.length_replicate]
            exact small1000 (by omega)
          · refine ⟨((h2.trans (SB.new hT _)).trans h6.nil).trans (SB.set h7 (by simp) _), ?_⟩
            rw [upd_same, List.replicate_succ']
            simp
        · obtain ⟨h2, h3⟩ := h2
          refine ⟨D, _, rfl, SqL.of h3, ?_⟩
          have e : (List.replicate ds.length true).all id = true := by simp
          rw [e]
          exact q _ (h2.drop hD)
end
end FT
namespace FT
open PySem PySem.W PySem.Spec PyProof.Rows L2
theorem ib (m m' : Int) : (m == m') = decide (m = m') := by by_cases h : m = m' <;> simp [h]
theorem Lad.eqvs : ∀ l k : Lad, PyData.eqvAll l.encs k.encs = decide (l = k)
  | .nil, .nil => by simp [encs, PyData.eqvAll]
  | .nil, .cons _ _ _ => by simp [encs, PyData.eqvAll]
  | .cons _ _ _, .nil => by simp [encs, PyData.eqvAll]
  | .cons e m r, .cons e' m' r' => by
    have h1 := Lad.eqvs e e'
    have h2 := Lad.eqvs r r'
    simp [encs, PyData.eqvAll, PyData.eqv, h1, h2, Bool.and_assoc, ib]
theorem Lad.eqv_enc (l k : Lad) : PyData.eqv l.enc k.enc = decide (l = k) := by
  rw [Lad.enc, Lad.enc, PyData.eqv]; exact Lad.eqvs l k
theorem Lad.lt_nil_nil : Lad.lt .nil .nil = false := by decide +kernel
theorem Lad.lt_nil_cons (e : Lad) (m : Int) (r : Lad) : Lad.lt .nil (.cons e m r) = true := by
  unfold Lad.lt Lad.enc
  rw [dataLt_tuple, Lad.encs, Lad.encs, toks_all_cons, show keyToksAll [] = [.inl 0] by simp [keyToksAll], lex_atom (by simp), lex_one]
  decide +kernel
theorem Lad.lt_cons_nil (e : Lad) (m : Int) (r : Lad) : Lad.lt (.cons e m r) .nil = false := by
  unfold Lad.lt Lad.enc
  rw [dataLt_tuple, Lad.encs, Lad.encs, toks_all_cons, show keyToksAll [] = [.inl 0] by simp [keyToksAll], lex_atom (by simp), lex_one]
  decide +kernel
theorem Lad.lt_cons (e e' : Lad) (m m' : Int) (r r' : Lad) : Lad.lt (.cons e m r) (.cons e' m' r') = if e = e' then (if m = m' then r.lt r' else decide (m < m')) else e.lt e' := by
  have al : alike (.tuple [e.enc, .int m]) (.tuple [e'.enc, .int m']) = true := by simp [alike, alikeAll, e.alike_enc e']
  have h1 : Lad.lt (.cons e m r) (.cons e' m' r') = if PyData.eqv (.tuple [e.enc, .int m]) (.tuple [e'.enc, .int m']) = true then r.lt r' else dataLt (.tuple [e.enc, .int m]) (.tuple [e'.enc, .int m']) := by
    unfold Lad.lt
    rw [show (Lad.cons e m r).enc = .tuple (.tuple [e.enc, .int m] :: r.encs) from rfl, show (Lad.cons e' m' r').enc = .tuple (.tuple [e'.enc, .int m'] :: r'.encs) from rfl, dataLt_tuple, dataLt_cons al]
    rw [show dataLt r.enc r'.enc = PyProof.Rows.lexLt itemOrd (keyToksAll r.encs) (keyToksAll r'.encs) from dataLt_tuple _ _]
  have h2 : PyData.eqv (.tuple [e.enc, .int m]) (.tuple [e'.enc, .int m']) = (decide (e = e') && decide (m = m')) := by
    simp [PyData.eqv, PyData.eqvAll, Lad.eqv_enc, ib]
  rw [h1, h2, dataLt_pair (e.alike_enc e') (by simp [alike]), Lad.eqv_enc]
  by_cases he : e = e'
  · by_cases hm : m = m'
    · simp [he, hm]
    · simp [he, hm, PyData.eqv, dataLt_int]
  · simp [he, Lad.lt]
end FT
namespace FT
open PySem PySem.W PySem.Spec PyProof.Rows L2
theorem cutInts (ns : List Int) (lo hi : Option Int) : ∃ ms : List Int, cutV (ns.map V.int) lo hi = ms.map V.int ∧ ms.length ≤ ns.length := by
  refine ⟨(ns.drop (HT.sIx (ns.map V.int).length 0 lo)).take (HT.sIx (ns.map V.int).length (ns.map V.int).length hi - HT.sIx (ns.map V.int).length 0 lo), ?_, ?_⟩
  · unfold cutV
    rw [List.map_take, List.map_drop]
  · rw [List.length_take, List.length_drop]; omega
theorem num_ok {i : Int} (h : 0 ≤ i) : ladD (Lad.num i).enc = true := by
  unfold Lad.num
  by_cases h0 : i = 0
  · rw [if_pos h0]; decide +kernel
  · rw [if_neg h0]
    have : (1 : Int) ≤ i := by omega
    simp [Lad.enc, Lad.encs, ladD, ladPs, ladP, ladP2, ladP3, manyD, this, risingD, ltsD, exp0]
theorem num_deep (i : Int) : (Lad.num i).deep ≤ 1 := by
  unfold Lad.num
  split <;> simp [Lad.deep]
theorem num_parts (i : Int) : (Lad.num i).parts ≤ 1 := by
  unfold Lad.num
  split <;> simp [Lad.parts]
theorem num_parts_eq (i : Int) : (Lad.num i).parts = (if i = 0 then 0 else 1) := by
  unfold Lad.num
  split <;> simp [Lad.parts]
theorem num_deep_eq (i : Int) : (Lad.num i).deep = (if i = 0 then 0 else 1) := by
  unfold Lad.num
  split <;> simp [Lad.deep]
theorem num_lt {i j : Int} (hi : 0 ≤ i) (hj : 0 ≤ j) : (Lad.num i).lt (Lad.num j) = decide (i < j) := by
  unfold Lad.num
  by_cases h1 : i = 0
  · by_cases h2 : j = 0
    · rw [if_pos h1, if_pos h2, Lad.lt_nil_nil]; subst h1 h2; rfl
    · rw [if_pos h1, if_neg h2, Lad.lt_nil_cons]; exact (decide_eq_true (by omega)).symm
  · by_cases h2 : j = 0
    · rw [if_neg h1, if_pos h2, Lad.lt_cons_nil]; exact (decide_eq_false (by omega)).symm
    · rw [if_neg h1, if_neg h2, Lad.lt_cons, if_pos rfl]
      by_cases h3 : i = j
      · subst h3; rw [if_pos rfl, Lad.lt_nil_nil]; simp
      · rw [if_neg h3]
section
variable {P : Program} {w : World} {K : PySem.W.Frag} {mg : Str → Option Value} {base : Heap} {f : Addr} {fd : FuncData}
abbrev GLMany (P : Program) (w : World) (K : PySem.W.Frag) (mg : Str → Option Value) (base : Heap) : Prop := Got P w K mg base "_law_many" ["_law_purse_here"] 2 spLMany
/-! ### _law_one -/
def spOne : Sp := fun vs H Q _ => ∃ (p : Addr), vs = [.ref p] ∧ Pu H p ∧ ∀ m H', 0 ≤ m → m < 10 ^ 60 → SB [p] H H' → Pu H' p → Q (.int m) H'
theorem sc_law_one : FnScope ["_law_purse_here"] ["_law_purse_here"] (defScope s__law_one) := ⟨rfl, rfl, rfl, by decide +kernel, rfl, by decide +kernel, by decide +kernel⟩
theorem ok_law_one (B : BI mg) (G : GDraw P w K mg base) (GM : GLMany P w K mg base) (F : Fun K "_law_one" "_law_one" s__law_one f fd) : FnOk P w K mg base CX0 3 f fd ["_law_purse_here"] spOne := by
  refine F.ok sc_law_one (fun vs H Q E h => ?_) (fun cdv A outer s H vs Q E hr h => ?_)
  · obtain ⟨p, rfl, _⟩ := h
    rfl
  obtain ⟨p, rfl, hp, q⟩ := h
  refine ⟨_, pss_cons (ps_if (pt_cmpR op_eq (pe_got G (hr.mono (by decide)) rfl (pa_cons (pv 0) (pa_cons pe_int pa_nil))) pe_int (nomark _)) (pss_one (ps_ret pe_int)) pss_nil)
    (pss_one (ps_ret (pe_got GM hr rfl (pa_cons (pv 0) pa_nil)))), ?_⟩
  refine ⟨_, rfl, p, 8, rfl, hp, by decide, by decide, fun r H1 r0 r8 s1 p1 => ?_⟩
  refine ⟨rfl, _, rfl, ?_⟩
  refine ite2 (fun c => ?_) (fun c => ?_)
  · exact q 0 H1 (by decide) (by decide) s1 p1
  · exact ⟨_, rfl, p, rfl, p1, fun m H2 m1 m2 s2 p2 => q m H2 (by omega) m2 (s1.trans s2) p2⟩
/-! ### _law_right -/
def spRight (K : PySem.W.Frag) : Sp := fun vs H Q _ => ∃ (i : Int) (v : V), vs = [.int i, v] ∧ 0 ≤ i ∧ LA K H v (Lad.num i) ∧ ∀ H', SB [] H H' → Q (.bl true) H'
abbrev N_right : List Str := ["_law_many_here", "_law_found", "_law_due"]
theorem sc_law_right : FnScope N_right ["_law_many_here", "_law_found"] (defScope s__law_right) := ⟨rfl, rfl, rfl, by decide +kernel, rfl, by decide +kernel, by decide +kernel⟩
theorem ok_law_right (B : BI mg) (GA : Got P w K mg base "_law_alike" ["_law_found", "_law_due"] 20 (spAlike K 20)) (GT : Got P w K mg base "_law_truth" ["_law_found", "_law_due"] 1 spTruth)
    (GL : Got P w K mg base "is_ladder" ["thing"] 23 (spLadder K [] 20)) (GP : Got P w K mg base "parts" ["ladder"] 10 (spParts K 10)) (GD : Got P w K mg base "deep" ["ladder"] 10 (spDeep K 10))
    (F : Fun K "_law_right" "_law_right" s__law_right f fd) : FnOk P w K mg base CX0 24 f fd ["_law_many_here", "_law_found"] (spRight K) := by
  refine F.ok sc_law_right (fun vs H Q E h => ?_) (fun cdv A outer s H vs Q E hr h => ?_)
  · obtain ⟨i, v, rfl, _⟩ := h
    rfl
  obtain ⟨i, v, rfl, h0, hv, q⟩ := h
  refine ⟨_, pss_cons (ps_set (i := 2) sc_law_right.nd rfl (.inl rfl) (pe_tup pa_nil))
    (pss_cons (ps_if (pt_cmpR op_gt (pv 0) pe_int (nomark _)) (pss_one (ps_set (i := 2) sc_law_right.nd rfl (.inl rfl) (pe_tup (pa_cons (pe_tup (pa_cons (pe_tup pa_nil) (pa_cons (pv 0) pa_nil))) pa_nil)))) pss_nil)
    (pss_cons (ps_if (PW.pt (pw_or (pt_not (pt_val (pe_got GA (hr.mono (by decide)) rfl (pa_cons (pv 1) (pa_cons (pv 2) pa_nil)))))
        (pw_or1 (pt_not (pt_val (pe_got GT (hr.mono (by decide)) rfl (pa_cons (pe_got GL hr rfl (pa_cons (pv 1) pa_nil)) (pa_cons pe_bl pa_nil)))))))) (pss_one (ps_ret pe_bl)) pss_nil)
    (pss_one (ps_ret (pe_got GA (hr.mono (by decide)) rfl (pa_cons (pe_tup (pa_cons (pe_got GP (hr.mono (by decide)) rfl (pa_cons (pv 1) pa_nil)) (pa_cons (pe_got GD (hr.mono (by decide)) rfl (pa_cons (pv 1) pa_nil)) pa_nil)))
      (pa_cons (pe_tup (pa_cons (pe_callB call_len_seq rfl B.len PySem.boot_len (pa_cons (pv 2) pa_nil)) (pa_cons (pe_callB call_len_seq rfl B.len PySem.boot_len (pa_cons (pv 2) pa_nil)) pa_nil))) pa_nil))))))), ?_⟩
  have fin : ∀ (u : V) (H1 : Hp), SB [] H H1 → LA K H1 u (Lad.num i) →
      tSeq (tIfS (tOr (tNot (tB (tCall (spAlike K 20) [] E0 (tCons (tVar 1) (tCons (tVar 2) tNil))))) (tNot (tB (tCall spTruth [] E0 (tCons (tCall (spLadder K [] 20) [] E0 (tCons (tVar 1) tNil)) (tCons (tC (.bl true)) tNil)))))) (tRet (tC (.bl false))) tNext)
        (tRet (tCall (spAlike K 20) [] E0 (tCons (tTup (tCons (tCall (spParts K 10) [] E0 (tCons (tVar 1) tNil)) (tCons (tCall (spDeep K 10) [] E0 (tCons (tVar 1) tNil)) tNil)))
          (tCons (tTup (tCons (tCB (fun xs H Q => ∃ p ys, xs = [.ref p] ∧ (SqL K H p ys ∨ SqT K H p ys) ∧ Q (.int ys.length) H) (tCons (tVar 2) tNil)) (tCons (tCB (fun xs H Q => ∃ p ys, xs = [.ref p] ∧ (SqL K H p ys ∨ SqT K H p ys) ∧ Q (.int ys.length) H) (tCons (tVar 2) tNil)) tNil))) tNil))))
      { nx := fun _ H' => Q .non H', rt := Q } [some (.int i), some v, some u] H1 := by
    intro u H1 s1 hu
    have hw := (Lad.num i).wide_enc
    have hp1 := num_parts i
    have hd1 := num_deep i
    have hdp := (Lad.num i).enc_depth
    refine ⟨_, rfl, _, rfl, v, u, (Lad.num i).enc, rfl, hv.sb s1, hu, Lad.plain _, by omega, by omega, fun H2 s2 => ?_⟩
    refine ⟨_, rfl, ?_⟩
    refine iteF ?_
    refine ⟨_, rfl, v, (Lad.num i).enc, rfl, LA_th _ (hv.sb (s1.trans s2)), by omega, by omega, by omega, fun H3 s3 => ?_⟩
    refine ⟨true, by rw [num_ok h0]; rfl, true, rfl, ?_⟩
    refine iteF ?_
    have s4 := s1.trans (s2.trans s3)
    refine ⟨_, rfl, v, Lad.num i, rfl, hv.sb s4, by omega, by omega, fun H5 s5 => ?_⟩
    refine ⟨_, rfl, v, Lad.num i, rfl, hv.sb (s4.trans s5), by omega, by omega, fun H6 s6 => ?_⟩
    refine ⟨(by show 2 ≤ sizeLine; decide), fun p hp => ?_⟩
    have s7 := SB.new (ps := []) hp (.tup [.int ((Lad.num i).parts : Nat), .int ((Lad.num i).deep : Nat)])
    have hu7 := (hu.sb (s2.trans s3)).sb ((s5.trans s6).trans s7)
    obtain ⟨b, ys, rfl, hb, hl⟩ := hu7.tup
    have hlen : ys.length = (Lad.num i).parts := by
      rw [DpAll.length hl, Lad.encs_length, num_parts_eq]
      unfold Lad.num
      split <;> simp [Lad.len]
    have hpd : (Lad.num i).deep = (Lad.num i).parts := by rw [num_deep_eq, num_parts_eq]
    refine ⟨_, rfl, b, ys, rfl, .inr hb, _, rfl, b, ys, rfl, .inr hb, (by show 2 ≤ sizeLine; decide), fun p2 hp2 => ?_⟩
    rw [hlen]
    have s8 := SB.new (ps := []) hp2 (.tup [.int ((Lad.num i).parts : Nat), .int ((Lad.num i).parts : Nat)])
    refine ⟨.ref p, .ref p2, .tuple [.int ((Lad.num i).parts : Nat), .int ((Lad.num i).parts : Nat)], rfl, Dp.tup (s8.sqT (SqT.of upd_same)) ?_, Dp.tup (SqT.of upd_same) (.cons (.int _) (.cons (.int _) .nil)), by simp [plainD, plainDs], by simp [PyData.depth, PyData.depthAll], by simp [wide, wides], fun H9 s9 => ?_⟩
    · rw [hpd]
      exact .cons (.int _) (.cons (.int _) .nil)
    · exact q _ ((((s4.trans (s5.trans s6)).trans s7).trans s8).trans s9)
  refine ⟨(by show 0 ≤ sizeLine; decide), fun p0 hp0 => ?_⟩
  refine ⟨_, rfl, _, _, rfl, rfl, _, rfl, ?_⟩
  refine ite2 (fun c => ?_) (fun c => ?_)
  · have c' : i > 0 := of_decide_eq_true c
    refine ⟨(by show 0 ≤ sizeLine; decide), fun p1 h1 => ?_⟩
    refine ⟨_, rfl, (by show 2 ≤ sizeLine; decide), fun p2 h2 => ?_⟩
    refine ⟨(by show 1 ≤ sizeLine; decide), fun p3 h3 => ?_⟩
    have e0 := SB.new (ps := []) hp0 (.tup [])
    have e1 := SB.new (ps := []) h1 (.tup [])
    have e2 := SB.new (ps := []) h2 (.tup [.ref p1, .int i])
    have e3 := SB.new (ps := []) h3 (.tup [.ref p2])
    refine fin _ _ (e0.trans (e1.trans (e2.trans e3))) ?_
    have e : Lad.num i = .cons .nil i .nil := if_neg (by omega)
    rw [e]
    exact LA_one (SqT.of upd_same) (e3.sqT (SqT.of upd_same)) ((LA_nil (SqT.of upd_same)).sb (e2.trans e3))
  · have c' : ¬ i > 0 := of_decide_eq_false (Bool.eq_false_iff.mpr c)
    have e0 := SB.new (ps := []) hp0 (.tup [])
    refine fin _ _ e0 ?_
    have e : Lad.num i = .nil := if_pos (by omega)
    rw [e]
    exact LA_nil (SqT.of upd_same)
end
end FT
namespace FT
open PySem PySem.W PySem.Spec PyProof.Rows L2
theorem Pu.sb {H H' : Hp} {p : Addr} (h : Pu H p) (e : SB [] H H') : Pu H' p := by
  obtain ⟨x, y, h1, h2⟩ := h
  exact ⟨x, y, e.keep _ _ h1 List.not_mem_nil, h2⟩
section
variable {P : Program} {w : World} {K : PySem.W.Frag} {mg : Str → Option Value} {base : Heap} {f : Addr} {fd : FuncData}
def spLaw (K : PySem.W.Frag) : Sp := fun vs H Q _ => ∃ (a : Addr) (ns : List Int), vs = [.ref a] ∧ SqL K H a (ns.map V.int) ∧ ns.length ≤ 63 ∧ ∀ H', Q (.bl true) H'
abbrev N_law : List Str := ["_law_script", "_law_k", "_law_cell", "_law_purse_here", "_law_one_here", "_law_other"]
theorem sc_law : FnScope N_law ["_law_script"] (defScope s_law) := ⟨rfl, rfl, rfl, by decide +kernel, rfl, by decide +kernel, by decide +kernel⟩
theorem ok_law (B : BI mg) (GAt : Got P w K mg base "_law_at" ["_law_script", "_law_k"] 1 (spAt K)) (GPu : Got P w K mg base "_law_purse" ["_law_cell", "_law_salt"] 1 spPurse) (GD : GDraw P w K mg base)
    (GO : Got P w K mg base "_law_one" ["_law_purse_here"] 3 spOne) (GR : Got P w K mg base "_law_right" ["_law_many_here", "_law_found"] 24 (spRight K)) (GT : Got P w K mg base "_law_truth" ["_law_found", "_law_due"] 1 spTruth)
    (GN : Got P w K mg base "number" ["many"] 1 (spNumber K)) (GL : Got P w K mg base "is_less" ["one", "other"] 1 (spLess K))
    (F : Fun K "law" "law" s_law f fd) : FnOk P w K mg base CX0 25 f fd ["_law_script"] (spLaw K) := by
  refine F.ok sc_law (fun vs H Q E h => ?_) (fun cdv A outer s H vs Q E hr h => ?_)
  · obtain ⟨a, ns, rfl, _⟩ := h
    rfl
  obtain ⟨a, ns, rfl, hs, h63, q⟩ := h
  have hr1 := hr.mono (j := 1) (by decide)
  have hr3 := hr.mono (j := 3) (by decide)
  refine ⟨_, pss_cons (ps_for PassesOwn.never rfl (pi_enum rfl B.enumerate (pa_cons (pe_op op_cat (pe_lst (pa_cons (pe_got GAt hr1 rfl (pa_cons (pv 0) (pa_cons pe_int pa_nil))) pa_nil)) (pe_slice sl_list (pv 0) (po_some pe_int) (po_some pe_int))) pa_nil))
      (pg_tup rfl (pgs_cons (pg_name (i := 1) sc_law.nd rfl (.inl rfl)) (pgs_cons (pg_name (i := 2) sc_law.nd rfl (.inl rfl)) pgs_nil)))
      (pss_cons (ps_set (i := 3) sc_law.nd rfl (.inl rfl) (pe_got GPu hr1 rfl (pa_cons (pv 2) (pa_cons (pv 1) pa_nil))))
      (pss_cons (ps_par rfl sc_law.nd (i := 4) (j := 5) rfl rfl (by decide) rfl rfl (pa_cons (pe_got GO hr3 rfl (pa_cons (pv 3) pa_nil)) (pa_cons (pe_got GO hr3 rfl (pa_cons (pv 3) pa_nil)) pa_nil)) rfl)
      (pss_cons (ps_if (pt_cmpR op_eq (pe_got GD hr1 rfl (pa_cons (pv 3) (pa_cons pe_int pa_nil))) pe_int (nomark _)) (pss_one (ps_set (i := 5) sc_law.nd rfl (.inl rfl) (pv 4))) pss_nil)
      (pss_cons (ps_if (PW.pt (pw_or (pt_not (pt_val (pe_got GR hr rfl (pa_cons (pv 4) (pa_cons (pe_got GN hr1 rfl (pa_cons (pv 4) pa_nil)) pa_nil))))) (pw_or1 (pt_not (pt_val (pe_got GR hr rfl (pa_cons (pv 5) (pa_cons (pe_got GN hr1 rfl (pa_cons (pv 5) pa_nil)) pa_nil)))))))) (pss_one (ps_ret pe_bl)) pss_nil)
      (pss_cons (ps_if (pt_not (pt_val (pe_got GT hr1 rfl (pa_cons (pe_got GL hr1 rfl (pa_cons (pe_got GN hr1 rfl (pa_cons (pv 4) pa_nil)) (pa_cons (pe_got GN hr1 rfl (pa_cons (pv 5) pa_nil)) pa_nil))) (pa_cons (pe_cmpR op_lt (pv 4) (pv 5) (nomark _)) pa_nil))))) (pss_one (ps_ret pe_bl)) pss_nil)
      (pss_one (ps_if (pt_not (pt_val (pe_got GT hr1 rfl (pa_cons (pe_got GL hr1 rfl (pa_cons (pe_got GN hr1 rfl (pa_cons (pv 5) pa_nil)) (pa_cons (pe_got GN hr1 rfl (pa_cons (pv 4) pa_nil)) pa_nil))) (pa_cons (pe_cmpR op_lt (pv 5) (pv 4) (nomark _)) pa_nil))))) (pss_one (ps_ret pe_bl)) pss_nil))))))))
    (pss_one (ps_ret pe_bl)), ?_⟩
  refine ⟨_, rfl, a, ns, 0, rfl, hs, fun c0 => ?_⟩
  refine ⟨(by show 1 ≤ sizeLine; decide), fun l1 hl1 => ?_⟩
  have e1 := SB.new (ps := []) hl1 (.lst [.int c0])
  refine ⟨_, rfl, 1, rfl, 40, rfl, a, _, rfl, e1.sqL List.not_mem_nil hs, fun l2 hl2 => ?_⟩
  obtain ⟨ms, em, hml⟩ := cutInts ns (some 1) (some 40)
  rw [em]
  have e2 := SB.new (ps := []) hl2 (.lst (ms.map V.int))
  refine ⟨l1, l2, _, _, rfl, rfl, e2.keep _ _ upd_same List.not_mem_nil, upd_same, ?_, fun l3 hl3 => ?_⟩
  · rw [List.length_map, List.length_singleton, sizeLine_eq]; omega
  have e3 := SB.new (ps := []) hl3 (.lst ([V.int c0] ++ ms.map V.int))
  have ea : ([V.int c0] ++ ms.map V.int : List V) = (c0 :: ms).map V.int := rfl
  refine ⟨l3, _, rfl, SqL.of upd_same, ?_⟩
  rw [ea]
  generalize hH3 : upd (upd (upd H l1 (.lst [.int c0])) l2 (.lst (ms.map V.int))) l3 (.lst ((c0 :: ms).map V.int)) = H3
  have hl3' : H3 l3 = some (.lst ((c0 :: ms).map V.int)) := by rw [← hH3]; exact upd_same
  have n64 : (c0 :: ms).length ≤ 64 := by rw [List.length_cons]; omega
  refine for_it (walk_enum (K := K) (a := l3) (xs := (c0 :: ms).map V.int)) (fun i σ H2 => SB [] H3 H2 ∧ ∃ o1 o2 o3 o4 o5, σ = [some (.ref a), o1, o2, o3, o4, o5]) ⟨SB.refl, _, _, _, _, _, rfl⟩ (fun i σ H2 hi h2 => h2.1.sqL List.not_mem_nil (SqL.of hl3')) (fun i x σ H2 H' hi h2 y => ?_) (fun σ H2 h2 => ?_)
  · obtain ⟨s2, o1, o2, o3, o4, o5, rfl⟩ := h2
    obtain ⟨T, x1, y1, rfl, hT, rfl, ex, ey⟩ := y
    have ex : some (V.int (i : Nat)) = some x1 := ex
    cases ex
    have ey : ((c0 :: ms).map V.int)[i]? = some y1 := ey
    rw [List.getElem?_map] at ey
    rw [List.length_map] at hi
    obtain ⟨c, rfl⟩ : ∃ c : Int, y1 = .int c := by
      cases e : (c0 :: ms)[i]? with
      | none => rw [e] at ey; cases ey
      | some c => rw [e] at ey; exact ⟨c, (Option.some.inj ey).symm⟩
    have s3 : SB [] H3 (upd H2 T (.tup [.int (i : Nat), .int c])) := s2.trans (SB.new hT _)
    refine ⟨T, _, rfl, SqT.of upd_same, rfl, _, _, rfl, _, _, rfl, rfl, ?_⟩
    generalize hHT : upd H2 T (.tup [.int (i : Nat), .int c]) = HT' at s3
    refine ⟨_, rfl, _, rfl, c, (i : Nat), rfl, by omega, by omega, fun p H4 s4 np p4 => ?_⟩
    refine ⟨_, rfl, p, rfl, p4, fun m1 H5 m1a m1b s5 p5 => ?_⟩
    refine ⟨_, rfl, p, rfl, p5, fun m2 H6 m2a m2b s6 p6 => ?_⟩
    refine ⟨_, _, rfl, ?_⟩
    refine ⟨_, rfl, p, 4, rfl, p6, by decide, by decide, fun r H7 r0 r4 s7 p7 => ?_⟩
    have s67 : SB [p] HT' H7 := ((s4.nil.trans s5).trans s6).trans s7
    have s8 := s67.drop np
    refine ⟨rfl, _, rfl, ?_⟩
    refine ite2 (fun z => ⟨_, rfl, ?_⟩) (fun z => ?_)
    all_goals
      refine ⟨_, rfl, _, rfl, m1, rfl, fun v1 G1 t1 a1 => ?_⟩
      refine ⟨m1, v1, rfl, m1a, a1, fun G2 t2 => ⟨true, rfl, iteF ?_⟩⟩
      refine ⟨_, rfl, _, rfl, _, rfl, fun v2 G3 t3 a3 => ?_⟩
      refine ⟨_, v2, rfl, (by first | exact m2a | exact m1a), a3, fun G4 t4 => ⟨true, rfl, iteF ?_⟩⟩
      refine ⟨_, rfl, m1, rfl, fun v5 G5 t5 a5 => ?_⟩
      refine ⟨_, rfl, _, rfl, fun v6 G6 t6 a6 => ?_⟩
      refine ⟨v5, v6, Lad.num m1, _, rfl, a5.sb t6, a6, (by have := num_deep m1; omega), ?_⟩
      refine ⟨_, rfl, _, rfl, _, _, rfl, rfl, ?_⟩
      refine ⟨_, by rw [num_lt m1a (by first | exact m2a | exact m1a)]; rfl, true, rfl, iteF ?_⟩
      refine ⟨_, rfl, _, rfl, fun v7 G7 t7 a7 => ?_⟩
      refine ⟨_, rfl, m1, rfl, fun v8 G8 t8 a8 => ?_⟩
      refine ⟨v7, v8, _, Lad.num m1, rfl, a7.sb t8, a8, (by first | exact Nat.le_trans (num_deep m2) (by decide) | exact Nat.le_trans (num_deep m1) (by decide)), ?_⟩
      refine ⟨_, rfl, _, rfl, _, _, rfl, rfl, ?_⟩
      refine ⟨_, by rw [num_lt (by first | exact m2a | exact m1a) m1a]; rfl, true, rfl, iteF ?_⟩
      refine ⟨s3.trans (s8.trans ((((((((t1.trans t2).trans t3).trans t4).trans t5).trans t6).trans t7).trans t8))), _, _, _, _, _, rfl⟩
  · exact q _
end
/-! ### no call is left: nothing is asked -/
section
variable {P : Program} {w : World} {K : PySem.W.Frag} {mg : Str → Option Value} {base : Heap} {f : Addr} {fd : FuncData}
theorem none_sp {ps : List Str} {k : Nat} {sp : Sp} (no : ∀ vs H Q E, ¬ sp vs H Q E) : FnOk P w K mg base CX0 k f fd ps sp :=
  ⟨fun vs H Q E h => absurd h (no vs H Q E), fun A outer s H args us vs Q E _ _ _ _ h => absurd h (no vs H Q E)⟩
theorem none_parts {ps : List Str} {k : Nat} : FnOk P w K mg base CX0 k f fd ps (spParts K 0) := none_sp fun vs H Q E ⟨v, l, _, _, h, _⟩ => by omega
theorem none_deep {ps : List Str} {k : Nat} : FnOk P w K mg base CX0 k f fd ps (spDeep K 0) := none_sp fun vs H Q E ⟨v, l, _, _, h, _⟩ => by omega
theorem none__law_alike {ps : List Str} {k : Nat} : FnOk P w K mg base CX0 k f fd ps (spAlike K 0) := none_sp fun vs H Q E ⟨v, u, d, _, _, _, _, h, _⟩ => by omega
theorem none_is_ladder {ps : List Str} {qs : List Addr} {k : Nat} : FnOk P w K mg base CX0 k f fd ps (spLadder K qs 0) := none_sp fun vs H Q E ⟨v, d, _, _, h, _⟩ => by omega
theorem none_is_ladder_pair {ps : List Str} {qs : List Addr} {k : Nat} : FnOk P w K mg base CX0 k f fd ps (spLadPair K qs 0) := none_sp fun vs H Q E ⟨v, d, _, _, h, _⟩ => by omega
theorem fun_ofD {x : Str} {st : Stmt} (D : FunD K x x (defArgs st) (defBody st) (defScope st) [] [] f fd) : Fun K x x st f fd := He5.fun_of D
end
end FT
namespace FT
open PySem PySem.W PySem.Spec PyProof.Rows L2
/-! ### the head: what the top leaves, by names -/
def d_is_whole : He.DefD := ⟨("is_whole", none), "is_whole", "is_whole", defArgs s_is_whole, defBody s_is_whole, defScope s_is_whole, [], []⟩
def d_is_many : He.DefD := ⟨("is_many", none), "is_many", "is_many", defArgs s_is_many, defBody s_is_many, defScope s_is_many, [], []⟩
def d_is_rising : He.DefD := ⟨("is_rising", none), "is_rising", "is_rising", defArgs s_is_rising, defBody s_is_rising, defScope s_is_rising, [], []⟩
def d_is_ladder : He.DefD := ⟨("is_ladder", none), "is_ladder", "is_ladder", defArgs s_is_ladder, defBody s_is_ladder, defScope s_is_ladder, [], []⟩
def d_is_ladder_pair : He.DefD := ⟨("is_ladder_pair", none), "is_ladder_pair", "is_ladder_pair", defArgs s_is_ladder_pair, defBody s_is_ladder_pair, defScope s_is_ladder_pair, [], []⟩
def d_number : He.DefD := ⟨("number", none), "number", "number", defArgs s_number, defBody s_number, defScope s_number, [], []⟩
def d_is_less : He.DefD := ⟨("is_less", none), "is_less", "is_less", defArgs s_is_less, defBody s_is_less, defScope s_is_less, [], []⟩
def d_parts : He.DefD := ⟨("parts", none), "parts", "parts", defArgs s_parts, defBody s_parts, defScope s_parts, [], []⟩
def d_deep : He.DefD := ⟨("deep", none), "deep", "deep", defArgs s_deep, defBody s_deep, defScope s_deep, [], []⟩
def d__law_at : He.DefD := ⟨("_law_at", none), "_law_at", "_law_at", defArgs s__law_at, defBody s__law_at, defScope s__law_at, [], []⟩
def d__law_purse : He.DefD := ⟨("_law_purse", none), "_law_purse", "_law_purse", defArgs s__law_purse, defBody s__law_purse, defScope s__law_purse, [], []⟩
def d__law_draw : He.DefD := ⟨("_law_draw", none), "_law_draw", "_law_draw", defArgs s__law_draw, defBody s__law_draw, defScope s__law_draw, [], []⟩
def d__law_many : He.DefD := ⟨("_law_many", none), "_law_many", "_law_many", defArgs s__law_many, defBody s__law_many, defScope s__law_many, [], []⟩
def d__law_alike : He.DefD := ⟨("_law_alike", none), "_law_alike", "_law_alike", defArgs s__law_alike, defBody s__law_alike, defScope s__law_alike, [], []⟩
def d__law_truth : He.DefD := ⟨("_law_truth", none), "_law_truth", "_law_truth", defArgs s__law_truth, defBody s__law_truth, defScope s__law_truth, [], []⟩
def d__law_one : He.DefD := ⟨("_law_one", none), "_law_one", "_law_one", defArgs s__law_one, defBody s__law_one, defScope s__law_one, [], []⟩
def d__law_right : He.DefD := ⟨("_law_right", none), "_law_right", "_law_right", defArgs s__law_right, defBody s__law_right, defScope s__law_right, [], []⟩
def d_law : He.DefD := ⟨("law", none), "law", "law", defArgs s_law, defBody s_law, defScope s_law, [], []⟩
def fn : List He.DefD := [d_is_whole, d_is_many, d_is_rising, d_is_ladder, d_is_ladder_pair, d_number, d_is_less, d_parts, d_deep, d__law_at, d__law_purse, d__law_draw, d__law_many, d__law_alike, d__law_truth, d__law_one, d__law_right, d_law]
def fa : List He.Fa := [.glo "is_whole", .glo "is_many", .glo "is_rising", .glo "is_ladder", .glo "is_ladder_pair", .glo "number", .glo "is_less", .glo "parts", .glo "deep", .glo "_law_at", .glo "_law_purse", .glo "_law_draw", .glo "_law_many", .glo "_law_alike", .glo "_law_truth", .glo "_law_one", .glo "_law_right", .glo "law", .free "len", .free "isinstance", .free "int", .free "bool", .free "str", .free "tuple", .free "list", .free "all", .free "zip", .free "sum", .free "max", .free "range", .free "enumerate", .free "abs", .free "sorted"]
abbrev R : PySem.W.OpenRow := PySem.W.OpenLaw.row PySem.Challenge.rw_felltimber_k01_numbers_as_ladders
abbrev hk : PySem.W.Hook := He.hookD 4 fa fn
def ob (s : PySem.W.SharedT) : He.AlD := He.obsDG 4 fa fn (HandSHeadRun.getT s)
theorem ob_eq (s : PySem.W.SharedT) : ob s = hk.obs s.abs := He.obsDG_eq (HandSHeadRun.getT_eq s)
def loose : List PySem.Str := ["is_whole", "is_many", "is_rising", "is_ladder", "is_ladder_pair", "number", "is_less", "parts", "deep", "_law_at", "_law_purse", "_law_draw", "_law_many", "_law_alike", "_law_truth", "_law_one", "_law_right"]
theorem run (w : World) : HandSHeadRun.RunEq R (PySem.W.view R.prog [20]) hk ob 4000 loose w := by
  intro os
  kernel_rfl
theorem facts {P : Program} {w : World} {K : PySem.W.Frag} {h : Heap} {mg : Str → Option Value} {f : Addr} (X : K.In h) (G : h.Ns mainGlobals mg) (hfa : mg ("law" : Str) = some (.ref f)) (c : He.SaysD fa fn K) :
    ∃ fd : FuncData, (∀ (s : Shared) (v : Value), BindsTo s fd ⟨[v], []⟩ [("_law_script", v)]) ∧ ∀ base : Heap, K.In base → base.Ns mainGlobals mg → FnOk P w K mg base CX0 25 f fd ["_law_script"] (spLaw K) := by
  obtain ⟨fd_is_whole, D_is_whole⟩ := c.def_ 0 (d := d_is_whole) rfl
  have F_is_whole : Fun K "is_whole" "is_whole" s_is_whole _ fd_is_whole := fun_ofD D_is_whole
  have m_is_whole := He.glo_ok X G (c.fact 0 (f := .glo "is_whole") rfl)
  obtain ⟨fd_is_many, D_is_many⟩ := c.def_ 1 (d := d_is_many) rfl
  have F_is_many : Fun K "is_many" "is_many" s_is_many _ fd_is_many := fun_ofD D_is_many
  have m_is_many := He.glo_ok X G (c.fact 1 (f := .glo "is_many") rfl)
  obtain ⟨fd_is_rising, D_is_rising⟩ := c.def_ 2 (d := d_is_rising) rfl
  have F_is_rising : Fun K "is_rising" "is_rising" s_is_rising _ fd_is_rising := fun_ofD D_is_rising
  have m_is_rising := He.glo_ok X G (c.fact 2 (f := .glo "is_rising") rfl)
  obtain ⟨fd_is_ladder, D_is_ladder⟩ := c.def_ 3 (d := d_is_ladder) rfl
  have F_is_ladder : Fun K "is_ladder" "is_ladder" s_is_ladder _ fd_is_ladder := fun_ofD D_is_ladder
  have m_is_ladder := He.glo_ok X G (c.fact 3 (f := .glo "is_ladder") rfl)
  obtain ⟨fd_is_ladder_pair, D_is_ladder_pair⟩ := c.def_ 4 (d := d_is_ladder_pair) rfl
  have F_is_ladder_pair : Fun K "is_ladder_pair" "is_ladder_pair" s_is_ladder_pair _ fd_is_ladder_pair := fun_ofD D_is_ladder_pair
  have m_is_ladder_pair := He.glo_ok X G (c.fact 4 (f := .glo "is_ladder_pair") rfl)
  obtain ⟨fd_number, D_number⟩ := c.def_ 5 (d := d_number) rfl
  have F_number : Fun K "number" "number" s_number _ fd_number := fun_ofD D_number
  have m_number := He.glo_ok X G (c.fact 5 (f := .glo "number") rfl)
  obtain ⟨fd_is_less, D_is_less⟩ := c.def_ 6 (d := d_is_less) rfl
  have F_is_less : Fun K "is_less" "is_less" s_is_less _ fd_is_less := fun_ofD D_is_less
  have m_is_less := He.glo_ok X G (c.fact 6 (f := .glo "is_less") rfl)
  obtain ⟨fd_parts, D_parts⟩ := c.def_ 7 (d := d_parts) rfl
  have F_parts : Fun K "parts" "parts" s_parts _ fd_parts := fun_ofD D_parts
  have m_parts := He.glo_ok X G (c.fact 7 (f := .glo "parts") rfl)
  obtain ⟨fd_deep, D_deep⟩ := c.def_ 8 (d := d_deep) rfl
  have F_deep : Fun K "deep" "deep" s_deep _ fd_deep := fun_ofD D_deep
  have m_deep := He.glo_ok X G (c.fact 8 (f := .glo "deep") rfl)
  obtain ⟨fd__law_at, D__law_at⟩ := c.def_ 9 (d := d__law_at) rfl
  have F__law_at : Fun K "_law_at" "_law_at" s__law_at _ fd__law_at := fun_ofD D__law_at
  have m__law_at := He.glo_ok X G (c.fact 9 (f := .glo "_law_at") rfl)
  obtain ⟨fd__law_purse, D__law_purse⟩ := c.def_ 10 (d := d__law_purse) rfl
  have F__law_purse : Fun K "_law_purse" "_law_purse" s__law_purse _ fd__law_purse := fun_ofD D__law_purse
  have m__law_purse := He.glo_ok X G (c.fact 10 (f := .glo "_law_purse") rfl)
  obtain ⟨fd__law_draw, D__law_draw⟩ := c.def_ 11 (d := d__law_draw) rfl
  have F__law_draw : Fun K "_law_draw" "_law_draw" s__law_draw _ fd__law_draw := fun_ofD D__law_draw
  have m__law_draw := He.glo_ok X G (c.fact 11 (f := .glo "_law_draw") rfl)
  obtain ⟨fd__law_many, D__law_many⟩ := c.def_ 12 (d := d__law_many) rfl
  have F__law_many : Fun K "_law_many" "_law_many" s__law_many _ fd__law_many := fun_ofD D__law_many
  have m__law_many := He.glo_ok X G (c.fact 12 (f := .glo "_law_many") rfl)
  obtain ⟨fd__law_alike, D__law_alike⟩ := c.def_ 13 (d := d__law_alike) rfl
  have F__law_alike : Fun K "_law_alike" "_law_alike" s__law_alike _ fd__law_alike := fun_ofD D__law_alike
  have m__law_alike := He.glo_ok X G (c.fact 13 (f := .glo "_law_alike") rfl)
  obtain ⟨fd__law_truth, D__law_truth⟩ := c.def_ 14 (d := d__law_truth) rfl
  have F__law_truth : Fun K "_law_truth" "_law_truth" s__law_truth _ fd__law_truth := fun_ofD D__law_truth
  have m__law_truth := He.glo_ok X G (c.fact 14 (f := .glo "_law_truth") rfl)
  obtain ⟨fd__law_one, D__law_one⟩ := c.def_ 15 (d := d__law_one) rfl
  have F__law_one : Fun K "_law_one" "_law_one" s__law_one _ fd__law_one := fun_ofD D__law_one
  have m__law_one := He.glo_ok X G (c.fact 15 (f := .glo "_law_one") rfl)
  obtain ⟨fd__law_right, D__law_right⟩ := c.def_ 16 (d := d__law_right) rfl
  have F__law_right : Fun K "_law_right" "_law_right" s__law_right _ fd__law_right := fun_ofD D__law_right
  have m__law_right := He.glo_ok X G (c.fact 16 (f := .glo "_law_right") rfl)
  obtain ⟨fd_law, D_law⟩ := c.def_ 17 (d := d_law) rfl
  have F_law : Fun K "law" "law" s_law _ fd_law := fun_ofD D_law
  have m_law := He.glo_ok X G (c.fact 17 (f := .glo "law") rfl)
  have B : BI mg := ⟨He.free_ok X G (c.fact 18 (f := .free "len") rfl), He.free_ok X G (c.fact 19 (f := .free "isinstance") rfl), He.free_ok X G (c.fact 20 (f := .free "int") rfl), He.free_ok X G (c.fact 21 (f := .free "bool") rfl), He.free_ok X G (c.fact 22 (f := .free "str") rfl), He.free_ok X G (c.fact 23 (f := .free "tuple") rfl), He.free_ok X G (c.fact 24 (f := .free "list") rfl), He.free_ok X G (c.fact 25 (f := .free "all") rfl), He.free_ok X G (c.fact 26 (f := .free "zip") rfl), He.free_ok X G (c.fact 27 (f := .free "sum") rfl), He.free_ok X G (c.fact 28 (f := .free "max") rfl), He.free_ok X G (c.fact 29 (f := .free "range") rfl), He.free_ok X G (c.fact 30 (f := .free "enumerate") rfl), He.free_ok X G (c.fact 31 (f := .free "abs") rfl), He.free_ok X G (c.fact 32 (f := .free "sorted") rfl)⟩
  have e := hfa.symm.trans m_law
  cases e
  have b := FunD.bindsA (ps := ["_law_script"]) D_law fun _ _ _ _ _ _ us hl => match us, hl with | [_], _ => rfl
  refine ⟨fd_law, fun s v => b s [v] rfl, fun base _ _ => ?_⟩
  have b_is_whole := F_is_whole.binds (ps := ["thing"]) fun _ _ _ _ _ _ us hl => match us, hl with | [_], _ => rfl
  have g_is_whole : Got P w K mg base "is_whole" ["thing"] 1 (spWhole K) := ⟨_, _, ok_is_whole B F_is_whole, F_is_whole.kp, b_is_whole, m_is_whole⟩
  have b_is_many := F_is_many.binds (ps := ["thing"]) fun _ _ _ _ _ _ us hl => match us, hl with | [_], _ => rfl
  have g_is_many : Got P w K mg base "is_many" ["thing"] 2 (spMany K []) := ⟨_, _, ok_is_many B g_is_whole F_is_many, F_is_many.kp, b_is_many, m_is_many⟩
  have b_is_rising := F_is_rising.binds (ps := ["things"]) fun _ _ _ _ _ _ us hl => match us, hl with | [_], _ => rfl
  have g_is_rising : Got P w K mg base "is_rising" ["things"] 1 (spRising K) := ⟨_, _, ok_is_rising B F_is_rising, F_is_rising.kp, b_is_rising, m_is_rising⟩
  have b_is_ladder := F_is_ladder.binds (ps := ["thing"]) fun _ _ _ _ _ _ us hl => match us, hl with | [_], _ => rfl
  have b_is_ladder_pair := F_is_ladder_pair.binds (ps := ["thing"]) fun _ _ _ _ _ _ us hl => match us, hl with | [_], _ => rfl
  have r_is_ladder : ∀ n, Got P w K mg base "is_ladder" ["thing"] (n + 3) (spLadder K [] n) ∧ Got P w K mg base "is_ladder_pair" ["thing"] (n + 3) (spLadPair K [] n) := by
    intro n
    induction n with
    | zero => exact ⟨⟨_, _, none_is_ladder, F_is_ladder.kp, b_is_ladder, m_is_ladder⟩, ⟨_, _, none_is_ladder_pair, F_is_ladder_pair.kp, b_is_ladder_pair, m_is_ladder_pair⟩⟩
    | succ n ih => exact ⟨⟨_, _, ok_is_ladder B g_is_rising ih.2 F_is_ladder, F_is_ladder.kp, b_is_ladder, m_is_ladder⟩, ⟨_, _, ok_is_ladder_pair B g_is_many ih.1 F_is_ladder_pair, F_is_ladder_pair.kp, b_is_ladder_pair, m_is_ladder_pair⟩⟩
  have g_is_ladder := (r_is_ladder 20).1
  have b_number := F_number.binds (ps := ["many"]) fun _ _ _ _ _ _ us hl => match us, hl with | [_], _ => rfl
  have g_number : Got P w K mg base "number" ["many"] 1 (spNumber K) := ⟨_, _, ok_number F_number, F_number.kp, b_number, m_number⟩
  have b_is_less := F_is_less.binds (ps := ["one", "other"]) fun _ _ _ _ _ _ us hl => match us, hl with | [_, _], _ => rfl
  have g_is_less : Got P w K mg base "is_less" ["one", "other"] 1 (spLess K) := ⟨_, _, ok_is_less F_is_less, F_is_less.kp, b_is_less, m_is_less⟩
  have b_parts := F_parts.binds (ps := ["ladder"]) fun _ _ _ _ _ _ us hl => match us, hl with | [_], _ => rfl
  have r_parts : ∀ n, Got P w K mg base "parts" ["ladder"] n (spParts K n) := by
    intro n
    induction n with
    | zero => exact ⟨_, _, none_parts, F_parts.kp, b_parts, m_parts⟩
    | succ n ih => exact ⟨_, _, ok_parts B ih F_parts, F_parts.kp, b_parts, m_parts⟩
  have g_parts := r_parts 10
  have b_deep := F_deep.binds (ps := ["ladder"]) fun _ _ _ _ _ _ us hl => match us, hl with | [_], _ => rfl
  have r_deep : ∀ n, Got P w K mg base "deep" ["ladder"] n (spDeep K n) := by
    intro n
    induction n with
    | zero => exact ⟨_, _, none_deep, F_deep.kp, b_deep, m_deep⟩
    | succ n ih => exact ⟨_, _, ok_deep B ih F_deep, F_deep.kp, b_deep, m_deep⟩
  have g_deep := r_deep 10
  have b__law_at := F__law_at.binds (ps := ["_law_script", "_law_k"]) fun _ _ _ _ _ _ us hl => match us, hl with | [_, _], _ => rfl
  have g__law_at : Got P w K mg base "_law_at" ["_law_script", "_law_k"] 1 (spAt K) := ⟨_, _, ok_law_at B F__law_at, F__law_at.kp, b__law_at, m__law_at⟩
  have b__law_purse := F__law_purse.binds (ps := ["_law_cell", "_law_salt"]) fun _ _ _ _ _ _ us hl => match us, hl with | [_, _], _ => rfl
  have g__law_purse : Got P w K mg base "_law_purse" ["_law_cell", "_law_salt"] 1 (spPurse) := ⟨_, _, ok_law_purse B F__law_purse, F__law_purse.kp, b__law_purse, m__law_purse⟩
  have b__law_draw := F__law_draw.binds (ps := ["_law_purse_here", "_law_many_here"]) fun _ _ _ _ _ _ us hl => match us, hl with | [_, _], _ => rfl
  have g__law_draw : Got P w K mg base "_law_draw" ["_law_purse_here", "_law_many_here"] 1 (spDraw) := ⟨_, _, ok_law_draw F__law_draw, F__law_draw.kp, b__law_draw, m__law_draw⟩
  have b__law_many := F__law_many.binds (ps := ["_law_purse_here"]) fun _ _ _ _ _ _ us hl => match us, hl with | [_], _ => rfl
  have g__law_many : Got P w K mg base "_law_many" ["_law_purse_here"] 2 (spLMany) := ⟨_, _, ok_law_many B g__law_draw F__law_many, F__law_many.kp, b__law_many, m__law_many⟩
  have b__law_alike := F__law_alike.binds (ps := ["_law_found", "_law_due"]) fun _ _ _ _ _ _ us hl => match us, hl with | [_, _], _ => rfl
  have r__law_alike : ∀ n, Got P w K mg base "_law_alike" ["_law_found", "_law_due"] n (spAlike K n) := by
    intro n
    induction n with
    | zero => exact ⟨_, _, none__law_alike, F__law_alike.kp, b__law_alike, m__law_alike⟩
    | succ n ih => exact ⟨_, _, ok_law_alike B ih F__law_alike, F__law_alike.kp, b__law_alike, m__law_alike⟩
  have g__law_alike := r__law_alike 20
  have b__law_truth := F__law_truth.binds (ps := ["_law_found", "_law_due"]) fun _ _ _ _ _ _ us hl => match us, hl with | [_, _], _ => rfl
  have g__law_truth : Got P w K mg base "_law_truth" ["_law_found", "_law_due"] 1 (spTruth) := ⟨_, _, ok_law_truth B F__law_truth, F__law_truth.kp, b__law_truth, m__law_truth⟩
  have b__law_one := F__law_one.binds (ps := ["_law_purse_here"]) fun _ _ _ _ _ _ us hl => match us, hl with | [_], _ => rfl
  have g__law_one : Got P w K mg base "_law_one" ["_law_purse_here"] 3 (spOne) := ⟨_, _, ok_law_one B g__law_draw g__law_many F__law_one, F__law_one.kp, b__law_one, m__law_one⟩
  have b__law_right := F__law_right.binds (ps := ["_law_many_here", "_law_found"]) fun _ _ _ _ _ _ us hl => match us, hl with | [_, _], _ => rfl
  have g__law_right : Got P w K mg base "_law_right" ["_law_many_here", "_law_found"] 24 (spRight K) := ⟨_, _, ok_law_right B g__law_alike g__law_truth g_is_ladder g_parts g_deep F__law_right, F__law_right.kp, b__law_right, m__law_right⟩
  exact ok_law B g__law_at g__law_purse g__law_draw g__law_one g__law_right g__law_truth g_number g_is_less F_law
end FT
open PySem PySem.W PySem.Calls PyProof.Rows
set_option maxRecDepth 100000 in
set_option maxHeartbeats 0 in
theorem PySem.Challenge.cw_felltimber_k01_numbers_as_ladders_holds : PySem.Challenge.rw_felltimber_k01_numbers_as_ladders.Holds := by
  w_on; o_law
  refine HandSHeadRun.head_any (r := OpenLaw.row PySem.Challenge.rw_felltimber_k01_numbers_as_ladders) (q := view (OpenLaw.row PySem.Challenge.rw_felltimber_k01_numbers_as_ladders).prog [20]) (H := FT.hk) (ob := FT.ob) (M := 4000) (loose := FT.loose) (d := HandSHeadRun.topDef (OpenLaw.row PySem.Challenge.rw_felltimber_k01_numbers_as_ladders).prog 20) (kwd := []) FT.ob_eq
    (by kernel_rfl) (fun s => by kernel_rfl) FT.run (by kernel_rfl) (by kernel_rfl) (by kernel_rfl) (by rfl) (by first | assumption | decide +kernel) (by decide +kernel) ⟨rfl, rfl, rfl, rfl, rfl, by decide +kernel⟩ ?hw ?hc
  case hw => w_witness2
  case hc =>
    refine L2.walk_ofE (l := PySem.Challenge.rw_felltimber_k01_numbers_as_ladders) (n := 63) (k := 25) (x := "_law_script") (CX := L2.CX0) rfl (by decide) (by kernel_rfl) ⟨rfl, by decide, by decide⟩ ?F (fun _ _ _ _ z => z)
    intro w mg fa h Y G hmg0
    obtain ⟨K, KX, c⟩ := Y
    have hmg : mg ("law" : PySem.Str) = some (.ref fa) := by
      have e : (HandSHeadRun.topDef (OpenLaw.row PySem.Challenge.rw_felltimber_k01_numbers_as_ladders).prog 20).name = ("law" : PySem.Str) := by kernel_rfl
      rw [← e]
      exact hmg0
    obtain ⟨fd, hb, hF⟩ := FT.facts (P := (PySem.Challenge.rw_felltimber_k01_numbers_as_ladders).prog) (w := w) KX G hmg c
    exact ⟨K, fd, FT.spLaw K, KX, hb, fun H a ns hl _ hS => ⟨a, ns, rfl, hS, hl, fun _ => rfl⟩, hF⟩
