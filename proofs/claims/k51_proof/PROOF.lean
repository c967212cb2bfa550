import PyProof.Rows.All
import Wide.All
import OpenK.AllK
import Wide.FinOn
import KE.KStateDown
import KE.SortData
import HandS.ForMost
import HandS.More
import HandS.Walk
import HandS.Zip
import HandS.Style
import HandS.TupAny
import HandS.IsInst
import HandS.Wide
import HandS.Flow
import HandS.WordsExc
import HandS.Defaults
import HandS.Head0
import HandS.Head1
import HandS.Head2
import HandS.HeadEnd
import HandS.HeadHook1
import HandS.HeadHook2
import HandS.HeadNt
import KE.DataCmp
import HandS.SortKw
import PyProof.TupleOfSeq
import HandS.NoneIn
import HandS.ExcIs
import HandS.RevRange
import KE.GoesEnum
import KE.DataAny
import HandS.Conv
import HandS.SortInts
import HandS.FStr
import HandS.Strs
import HandS.TupSets
import HandS.DictComp
import HandS.ExcInit
import HandS.SetKeys
import HandS.SetTxt0
import HandS.SetBool
import HandS.SetFor
import KE.GoesEnumKw
import PyProof.Rows.CallKwBuiltin
import KE.DatumOrd
import HandS.ExcField
import HandS.HotCalls
import HandS.Replace
import HandS.TupLe
import KE.DataMinMax
import PyProof.StrBlock2
import HandS.WordsDict
import HandS.TupMul
import HandS.TryOnly
import PyProof.MaxThree
import PyProof.NeKinds
import PySem.Challenge.RW_felltimber_k51_drops_read
set_option Elab.async false
set_option linter.all false
set_option maxRecDepth 100000
set_option maxHeartbeats 4000000
namespace FT
open PySem PySem.W PySem.Spec PyProof.Rows L2
structure SB (ps : List Addr) (H H' : Hp) : Prop where
  keep : ∀ b o, H b = some o → b ∉ ps → H' b = some o
  tups : ∀ b xs, H b = some (.tup xs) → H' b = some (.tup xs)
  frzs : ∀ b o u, H b = some (.frz o u) → H' b = some (.frz o u)
  dom : ∀ b, H' b = none → H b = none
section
variable {K : PySem.W.Frag} {ps qs : List Addr} {H H' H1 H2 : Hp} {a p : Addr} {xs : List V}
theorem SB.refl : SB ps H H := ⟨fun _ _ h _ => h, fun _ _ h => h, fun _ _ _ h => h, fun _ h => h⟩
theorem SB.trans (a : SB ps H H1) (b : SB ps H1 H2) : SB ps H H2 :=
  ⟨fun c o h n => b.keep c o (a.keep c o h n) n, fun c x h => b.tups c x (a.tups c x h), fun c o u h => b.frzs c o u (a.frzs c o u h), fun c h => a.dom c (b.dom c h)⟩
theorem SB.mono (h : SB ps H H') (hs : ∀ b ∈ ps, b ∈ qs) : SB qs H H' := ⟨fun c o e n => h.keep c o e fun z => n (hs c z), h.tups, h.frzs, h.dom⟩
theorem SB.nil (h : SB [] H H') : SB ps H H' := h.mono fun _ z => absurd z (List.not_mem_nil)
theorem SB.new (h : H p = none) (o : HO) : SB ps H (upd H p o) := by
  refine ⟨fun b u e _ => ?_, fun b u e => ?_, fun b v u e => ?_, fun b e => ?_⟩
  · rw [upd_ne (ne_of_none e h)]; exact e
  · rw [upd_ne (ne_of_none e h)]; exact e
  · rw [upd_ne (ne_of_none e h)]; exact e
  · by_cases q : b = p
    · subst q; exact h
    · rw [upd_ne q] at e; exact e
theorem SB.set (h : H p = some (.lst xs)) (hp : p ∈ ps) (o : HO) : SB ps H (upd H p o) := by
  refine ⟨fun b u e n => ?_, fun b u e => ?_, fun b v u e => ?_, fun b e => ?_⟩
  · rw [upd_ne (fun (z : b = p) => n (by rw [z]; exact hp))]; exact e
  · rw [upd_ne (fun (z : b = p) => by subst z; rw [h] at e; cases e)]; exact e
  · rw [upd_ne (fun (z : b = p) => by subst z; rw [h] at e; cases e)]; exact e
  · by_cases q : b = p
    · subst q; rw [upd_same] at e; cases e
    · rw [upd_ne q] at e; exact e
theorem SB.drop (h : SB (p :: ps) H H') (n : H p = none) : SB ps H H' := by
  refine ⟨fun b o e m => h.keep b o e fun z => ?_, h.tups, h.frzs, h.dom⟩
  rcases List.mem_cons.mp z with z | z
  · subst z; rw [n] at e; cases e
  · exact m z
theorem SB.sqT (e : SB ps H H') (h : SqT K H a xs) : SqT K H' a xs := by
  rcases h with (h | ⟨o, h⟩) | h
  · exact .inl (.inl (e.tups _ _ h))
  · exact .inl (.inr ⟨o, e.frzs _ _ _ h⟩)
  · exact .inr h
theorem SB.sqL (e : SB ps H H') (n : a ∉ ps) (h : SqL K H a xs) : SqL K H' a xs := by
  rcases h with (h | ⟨o, h⟩) | h
  · exact .inl (.inl (e.keep _ _ h n))
  · exact .inl (.inr ⟨o, e.frzs _ _ _ h⟩)
  · exact .inr h
theorem SB.ne (e : SB ps H H') {b : Addr} {o : HO} (h : H b = some o) {q : Addr} (n : H' q = none) : b ≠ q := fun z => by
  subst z; rw [e.dom b n] at h; cases h
end
inductive Lad where
  | nil
  | cons (e : Lad) (m : Int) (r : Lad)
  deriving DecidableEq
namespace Lad
def encs : Lad → List PyData
  | .nil => []
  | .cons e m r => .tuple [.tuple e.encs, .int m] :: r.encs
def enc (l : Lad) : PyData := .tuple l.encs
def parts : Lad → Nat
  | .nil => 0
  | .cons e _ r => 1 + e.parts + r.parts
def deep : Lad → Nat
  | .nil => 0
  | .cons e _ r => max (1 + e.deep) r.deep
def len : Lad → Nat
  | .nil => 0
  | .cons _ _ r => 1 + r.len
theorem encs_length : ∀ l : Lad, l.encs.length = l.len
  | .nil => rfl
  | .cons e m r => by show r.encs.length + 1 = 1 + r.len; rw [encs_length r, Nat.add_comm]
theorem len_parts : ∀ l : Lad, l.len ≤ l.parts
  | .nil => Nat.le_refl _
  | .cons e m r => by have := len_parts r; show 1 + r.len ≤ 1 + e.parts + r.parts; omega
theorem alikes : ∀ l k : Lad, alikeAll l.encs k.encs = true
  | .nil, _ => by simp [encs, alikeAll]
  | .cons e m r, .nil => by simp [encs, alikeAll]
  | .cons e m r, .cons e' m' r' => by
    have h1 := alikes e e'
    have h2 := alikes r r'
    simp [encs, alikeAll, alike, h1, h2]
theorem alike_enc (l k : Lad) : alike l.enc k.enc = true := by
  show alike (.tuple l.encs) (.tuple k.encs) = true
  rw [alike]; exact alikes l k
theorem encs_depth : ∀ l : Lad, PyData.depthAll l.encs ≤ 2 * l.deep
  | .nil => by simp [encs, PyData.depthAll, deep]
  | .cons e m r => by
    have h1 := encs_depth e
    have h2 := encs_depth r
    simp only [encs, PyData.depthAll, PyData.depth, deep]
    omega
theorem enc_depth (l : Lad) : l.enc.depth ≤ 2 * l.deep + 1 := by
  have := encs_depth l
  simp only [enc, PyData.depth]
  omega
theorem enc_ne (l : Lad) : l.enc ≠ .none := fun h => nomatch h
end Lad
def rLtD (K : PySem.W.Frag) : R2 := fun x y H Q => ∃ d e, Dp K H x d ∧ Dp K H y e ∧ alike d e = true ∧ d ≠ .none ∧ d.depth ≤ 100 ∧ Q (.bl (dataLt d e)) H
section
variable {X : Cx}
theorem op_ltD (hu : X.A.units + 100 < cLine) : OpR X (compareOp .Lt) (rLtD X.K) := by
  intro pins s σ H x y v u Q I rx ry h
  obtain ⟨d, e, hd, he, al, hn, hdp, q⟩ := h
  obtain ⟨as, r1⟩ := Dp.reads I d x v hd rx
  obtain ⟨bs, r2⟩ := Dp.reads I e y u he ry
  exact rcLt_alike d e X.A s v u as bs r1 r2 al hn (by have := Nat.min_le_left d.depth e.depth; omega) X.prog X.w X.xe _ ⟨.bl _, H, I, rfl, q⟩
end
mutual
def noList : PyData → Bool
  | .list _ => false
  | .dict _ => false
  | .tuple ds => noLists ds
  | _ => true
def noLists : List PyData → Bool
  | [] => true
  | d :: ds => noList d && noLists ds
end
section
variable {K : PySem.W.Frag} {ps : List Addr} {H H' : Hp}
mutual
theorem Dp_sb (e : SB ps H H') : ∀ (d : PyData) (v : V), noList d = true → Dp K H v d → Dp K H' v d
  | .none, _, _, h => by cases h; exact .non
  | .bool b, _, _, h => by cases h; exact .bl b
  | .int i, _, _, h => by cases h; exact .int i
  | .str x, _, _, h => by cases h; exact .str x
  | .list ds, _, n, _ => by simp [noList] at n
  | .dict ds, _, n, _ => by simp [noList] at n
  | .tuple ds, _, n, h => by
    cases h with
    | tup hs ha => exact .tup (e.sqT hs) (DpAll_sb e ds _ (by simpa [noList] using n) ha)
theorem DpAll_sb (e : SB ps H H') : ∀ (ds : List PyData) (vs : List V), noLists ds = true → DpAll K H vs ds → DpAll K H' vs ds
  | [], _, _, h => by cases h; exact .nil
  | d :: ds, _, n, h => by
    cases h with
    | cons h1 h2 =>
      simp [noLists] at n
      exact .cons (Dp_sb e d _ n.1 h1) (DpAll_sb e ds _ n.2 h2)
end
end
theorem Lad.noLists_encs : ∀ l : Lad, noLists l.encs = true
  | .nil => by simp [Lad.encs, noLists]
  | .cons e m r => by simp [Lad.encs, noLists, noList, Lad.noLists_encs e, Lad.noLists_encs r]
theorem Lad.noList_enc (l : Lad) : noList l.enc = true := by simp [Lad.enc, noList, Lad.noLists_encs l]
/-- at v stands the ladder l -/
def LA (K : PySem.W.Frag) (H : Hp) (v : V) (l : Lad) : Prop := Dp K H v l.enc
section
variable {K : PySem.W.Frag} {ps : List Addr} {H H' : Hp} {v : V} {l : Lad}
theorem LA.sb (h : LA K H v l) (e : SB ps H H') : LA K H' v l := Dp_sb e _ _ l.noList_enc h
theorem LA.tup (h : LA K H v l) : ∃ a xs, v = .ref a ∧ SqT K H a xs ∧ DpAll K H xs l.encs := by
  have h' : Dp K H v (.tuple l.encs) := h
  cases h' with
  | tup hs ha => exact ⟨_, _, rfl, hs, ha⟩
theorem DpAll.length : ∀ {vs : List V} {ds : List PyData}, DpAll K H vs ds → vs.length = ds.length
  | _, _, .nil => rfl
  | _, _, .cons _ t => by rw [List.length_cons, List.length_cons, DpAll.length t]
theorem DpAll.get : ∀ {vs : List V} {ds : List PyData} {i : Nat} {v : V}, DpAll K H vs ds → vs[i]? = some v → ∃ d, ds[i]? = some d ∧ Dp K H v d
  | _, _, _, _, .nil, e => by simp at e
  | _, _, 0, _, .cons h t, e => by simp at e; subst e; exact ⟨_, rfl, h⟩
  | _, _, i + 1, v, .cons h t, e => by
    obtain ⟨d, h1, h2⟩ := DpAll.get (i := i) (v := v) t (by simpa using e)
    exact ⟨d, by simpa using h1, h2⟩
end
end FT
namespace FT
open PySem PySem.W PySem.Spec PyProof.Rows L2
structure BI (mg : Str → Option Value) : Prop where
  len : mg "len" = none
  isinstance : mg "isinstance" = none
  int : mg "int" = none
  bool : mg "bool" = none
  str : mg "str" = none
  tuple : mg "tuple" = none
  list : mg "list" = none
  all : mg "all" = none
  zip : mg "zip" = none
  sum : mg "sum" = none
  max : mg "max" = none
  range : mg "range" = none
  enumerate : mg "enumerate" = none
  abs : mg "abs" = none
  sorted : mg "sorted" = none
  min : mg "min" = none
  reversed : mg "reversed" = none
  any : mg "any" = none
  set : mg "set" = none
  dict : mg "dict" = none
  repr : mg "repr" = none
structure Got (P : Program) (w : World) (K : PySem.W.Frag) (mg : Str → Option Value) (base : Heap) (x : Str) (ps : List Str) (k : Nat) (sp : Sp) : Prop where
  ex : ∃ (f : Addr) (fd : FuncData), FnOk P w K mg base CX0 k f fd ps sp ∧ PySem.W.keepIn K (.ref f) = true ∧ Binds K fd ps [] ∧ mg x = some (.ref f)
section
variable {X : Cx} {x : Str} {ps : List Str} {k : Nat} {sp : Sp} {e : Expr} {es : List Expr} {t : TA} {p pos : Pos}
theorem pe_got (G : Got X.prog X.w X.K X.mg X.base x ps k sp) (hr : Room k X.A) (hg : Gl X x) (ha : PA X (e :: es) t) (hdb : (x == ("__debug__" : Str)) = false := by decide) (he : starEach (e :: es) X.env = (false, eval e X.env) :: starEach es X.env := by rfl) (hpl : (backTo pos (starEach es X.env)).any (·.1) = false := by rfl) :
    PE X (.Call (.Name x p) (e :: es) [] pos) (tCall sp [] E0 t) := by
  obtain ⟨f, fd, h1, h2, h3, h4⟩ := G.ex
  exact pe_call h1 hr hg h4 h2 h3 .nil pass0 ha hdb he hpl
end
def rIsiN (K : PySem.W.Frag) : List V → Hp → VK → Prop := fun xs H Q => ∃ (x : V) (T n : String) (b : Bool), xs = [x, .ty T] ∧ TyX K H x (.type n) ∧ kitB n T = some b ∧ Q (.bl b) H
section
variable {X : Cx}
theorem call_isiN : CallR X (.builtin "isinstance") (rIsiN X.K) := by
  intro pins s σ H xs us Q I r h
  obtain ⟨x, T, n, b, rfl, ty, e, q⟩ := h
  exact call_isi pins s σ H _ us Q I r ⟨x, .ty T, .type n, .type T, b, rfl, .ty T, ty, kit_ty e, q⟩
theorem pe_ty {T : Str} {T' : String} {pos : Pos} (hg : Gl X T) (hm : X.mg T = none) (hv : bootBuiltins T = some (.type T')) (hn : T ≠ "__name__" := by decide) (hd : (T == ("__debug__" : Str)) = false := by decide) : PE X (.Name T pos) (tC (.ty T')) := pe_bltn hg hm hv rfl hn hd
theorem pe_isi {e : Expr} {te : TE} {T : Str} {T' : String} {p p2 pos : Pos} (B : BI X.mg) (he : PE X e te) (hm : X.mg T = none) (hv : bootBuiltins T = some (.type T')) (hg : Gl X "isinstance" := by rfl) (hg2 : Gl X T := by rfl) (hn : T ≠ "__name__" := by decide) (hd : (T == ("__debug__" : Str)) = false := by decide)
   (hs : starEach [e, .Name T p2] X.env = (false, eval e X.env) :: starEach [.Name T p2] X.env := by rfl) (hpl : (backTo pos (starEach [.Name T p2] X.env)).any (·.1) = false := by rfl) :
    PE X (.Call (.Name "isinstance" p) [e, .Name T p2] [] pos) (tCB (rIsiN X.K) (tCons te (tCons (tC (.ty T')) tNil))) :=
  pe_callB call_isiN hg B.isinstance boot_isinstance (pa_cons he (pa_cons (pe_ty hg2 hm hv hn hd) pa_nil) hs) (by decide) (by decide) hs hpl
end
mutual
inductive Th (K : PySem.W.Frag) (ps : List Addr) (H : Hp) : V → PyData → Prop
  | int (i : Int) : Th K ps H (.int i) (.int i)
  | tup {a : Addr} {xs : List V} {ds : List PyData} : SqT K H a xs → ThAll K ps H xs ds → Th K ps H (.ref a) (.tuple ds)
  | oth {v : V} {n : String} : TyX K H v (.type n) → kitB n "tuple" = some false → (kitB n "int" = some false ∨ n = "bool") → (∀ a, v = .ref a → a ∉ ps) → Th K ps H v .none
inductive ThAll (K : PySem.W.Frag) (ps : List Addr) (H : Hp) : List V → List PyData → Prop
  | nil : ThAll K ps H [] []
  | cons {v : V} {vs : List V} {d : PyData} {ds : List PyData} : Th K ps H v d → ThAll K ps H vs ds → ThAll K ps H (v :: vs) (d :: ds)
end
section
variable {K : PySem.W.Frag} {ps : List Addr} {H H' : Hp}
theorem SqT_ty {a : Addr} {xs : List V} (h : SqT K H a xs) : TyX K H (.ref a) (.type "tuple") := by
  rcases h with (h | ⟨o, h⟩) | ⟨o, its, n, h, c, _⟩
  · exact .base (.tup h)
  · exact .fTuple h
  · exact .kTuple h c
theorem Th.ty {v : V} {d : PyData} (h : Th K ps H v d) : ∃ n b, TyX K H v (.type n) ∧ kitB n "tuple" = some b ∧ (b = true → ∃ a xs ds, v = .ref a ∧ d = .tuple ds ∧ SqT K H a xs ∧ ThAll K ps H xs ds) ∧ (b = false → (∃ i, d = .int i) ∨ d = .none) := by
  cases h with
  | int i => exact ⟨"int", false, .base (.int i), by decide +kernel, fun z => (nomatch z), fun _ => .inl ⟨i, rfl⟩⟩
  | tup hs ha => exact ⟨"tuple", true, (SqT_ty hs), by decide +kernel, fun _ => ⟨_, _, _, rfl, rfl, hs, ha⟩, fun z => (nomatch z)⟩
  | oth ty k1 k2 _ => exact ⟨_, false, ty, k1, fun z => (nomatch z), fun _ => .inr rfl⟩
theorem ThAll.length : ∀ {vs : List V} {ds : List PyData}, ThAll K ps H vs ds → vs.length = ds.length
  | _, _, .nil => rfl
  | _, _, .cons _ t => by rw [List.length_cons, List.length_cons, ThAll.length t]
theorem ThAll.get : ∀ {vs : List V} {ds : List PyData} {i : Nat} {v : V}, ThAll K ps H vs ds → vs[i]? = some v → ∃ d, ds[i]? = some d ∧ Th K ps H v d
  | _, _, _, _, .nil, e => by simp at e
  | _, _, 0, _, .cons h t, e => by simp at e; subst e; exact ⟨_, rfl, h⟩
  | _, _, i + 1, v, .cons h t, e => by
    obtain ⟨d, h1, h2⟩ := ThAll.get (i := i) (v := v) t (by simpa using e)
    exact ⟨d, by simpa using h1, h2⟩
theorem TyX_sb {v : V} {n : String} (e : SB ps H H') (hn : ∀ a, v = .ref a → a ∉ ps) (h : TyX K H v (.type n)) : TyX K H' v (.type n) := by
  cases h with
  | base h =>
    cases h with
    | non => exact .base .non
    | bl x => exact .base (.bl x)
    | int i => exact .base (.int i)
    | str x => exact .base (.str x)
    | flt x => exact .base (.flt x)
    | lst h => exact .base (.lst (e.keep _ _ h (hn _ rfl)))
    | frz h => exact .base (.frz (e.frzs _ _ _ h))
    | tup h => exact .base (.tup (e.tups _ _ h))
    | dK h => exact .base (.dK (e.keep _ _ h (hn _ rfl)))
    | dT h => exact .base (.dT (e.keep _ _ h (hn _ rfl)))
  | byt b => exact .byt b
  | set h => exact .set (e.keep _ _ h (hn _ rfl))
  | kList h c => exact .kList h c
  | kTuple h c => exact .kTuple h c
  | kDict h c => exact .kDict h c
  | fTuple h => exact .fTuple (e.frzs _ _ _ h)
  | fDict h => exact .fDict (e.frzs _ _ _ h)
end
end FT
namespace FT
open PySem PySem.W PySem.Spec PyProof.Rows L2
/-- the values vs bear the data bs -/
inductive Bears (K : PySem.W.Frag) (H : Hp) {β : Type} (enc : β → PyData) : List V → List β → Prop
  | nil : Bears K H enc [] []
  | cons {v : V} {vs : List V} {b : β} {bs : List β} : Dp K H v (enc b) → Bears K H enc vs bs → Bears K H enc (v :: vs) (b :: bs)
section
variable {K : PySem.W.Frag} {H H' : Hp} {β : Type} {enc : β → PyData} {ps : List Addr}
theorem Bears.length : ∀ {vs : List V} {bs : List β}, Bears K H enc vs bs → vs.length = bs.length
  | _, _, .nil => rfl
  | _, _, .cons _ t => by rw [List.length_cons, List.length_cons, Bears.length t]
theorem Bears.dp : ∀ {vs : List V} {bs : List β}, Bears K H enc vs bs → DpAll K H vs (bs.map enc)
  | _, _, .nil => .nil
  | _, _, .cons h t => .cons h (Bears.dp t)
theorem Bears.of : ∀ {vs : List V} {bs : List β}, DpAll K H vs (bs.map enc) → Bears K H enc vs bs
  | [], [], _ => .nil
  | _ :: _, [], h => by cases h
  | [], _ :: _, h => by cases h
  | v :: vs, b :: bs, h => by
    cases h with
    | cons h1 h2 => exact .cons h1 (Bears.of h2)
theorem Bears.get : ∀ {vs : List V} {bs : List β} {i : Nat} {v : V}, Bears K H enc vs bs → vs[i]? = some v → ∃ b, bs[i]? = some b ∧ Dp K H v (enc b)
  | _, _, _, _, .nil, e => by simp at e
  | _, _, 0, _, .cons h t, e => by simp at e; subst e; exact ⟨_, rfl, h⟩
  | _, _, i + 1, v, .cons h t, e => by
    obtain ⟨d, h1, h2⟩ := Bears.get (i := i) (v := v) t (by simpa using e)
    exact ⟨d, by simpa using h1, h2⟩
theorem Bears.append : ∀ {xs ys : List V} {bs cs : List β}, Bears K H enc xs bs → Bears K H enc ys cs → Bears K H enc (xs ++ ys) (bs ++ cs)
  | _, _, _, _, .nil, h => h
  | _, _, _, _, .cons a b, h => .cons a (Bears.append b h)
theorem Bears.sb (e : SB ps H H') (hn : ∀ b, noList (enc b) = true) : ∀ {xs : List V} {bs : List β}, Bears K H enc xs bs → Bears K H' enc xs bs
  | _, _, .nil => .nil
  | _, _, .cons a b => .cons (Dp_sb e _ _ (hn _) a) (Bears.sb e hn b)
theorem Bears.take (n : Nat) : ∀ {xs : List V} {bs : List β}, Bears K H enc xs bs → Bears K H enc (xs.take n) (bs.take n) := by
  induction n with
  | zero => intro xs bs h; rw [List.take_zero, List.take_zero]; exact .nil
  | succ n ih =>
    intro xs bs h
    cases h with
    | nil => exact .nil
    | cons a b => exact .cons a (ih b)
theorem Bears.drop (n : Nat) : ∀ {xs : List V} {bs : List β}, Bears K H enc xs bs → Bears K H enc (xs.drop n) (bs.drop n) := by
  induction n with
  | zero => intro xs bs h; exact h
  | succ n ih =>
    intro xs bs h
    cases h with
    | nil => exact .nil
    | cons a b => exact ih b
end
end FT
namespace FT
open PySem PySem.W PySem.Spec PyProof.Rows L2
section
variable {P : Program} {w : World} {K : PySem.W.Frag} {mg : Str → Option Value} {base : Heap} {f : Addr} {fd : FuncData}
def spWhole (K : PySem.W.Frag) : Sp := fun vs H Q _ => ∃ (v : V) (n : String) (b1 b2 : Bool), vs = [v] ∧ TyX K H v (.type n) ∧ kitB n "int" = some b1 ∧ (b1 = true → kitB n "bool" = some b2) ∧ Q (.bl (b1 && !b2)) H
end
def Lad.num (i : Int) : Lad := if i = 0 then .nil else .cons .nil i .nil
def Lad.lt (l k : Lad) : Bool := dataLt l.enc k.enc
section
variable {P : Program} {w : World} {K : PySem.W.Frag} {mg : Str → Option Value} {base : Heap} {f : Addr} {fd : FuncData}
theorem LA_nil {H : Hp} {p : Addr} (h : SqT K H p []) : LA K H (.ref p) .nil := Dp.tup h .nil
def spLess (K : PySem.W.Frag) : Sp := fun vs H Q _ => ∃ (v u : V) (l k : Lad), vs = [v, u] ∧ LA K H v l ∧ LA K H u k ∧ l.deep ≤ 45 ∧ Q (.bl (l.lt k)) H
end
namespace Lad
def ps : Lad → List (Lad × Int)
  | .nil => []
  | .cons e m r => (e, m) :: r.ps
def ofPs : List (Lad × Int) → Lad
  | [] => .nil
  | (e, m) :: r => .cons e m (ofPs r)
def pEnc (p : Lad × Int) : PyData := .tuple [p.1.enc, .int p.2]
theorem ofPs_ps : ∀ l : Lad, ofPs l.ps = l
  | .nil => rfl
  | .cons e m r => by show cons e m (ofPs r.ps) = _; rw [ofPs_ps r]
theorem ps_ofPs : ∀ l : List (Lad × Int), (ofPs l).ps = l
  | [] => rfl
  | (e, m) :: r => by show (e, m) :: (ofPs r).ps = _; rw [ps_ofPs r]
theorem encs_ps : ∀ l : Lad, l.encs = l.ps.map pEnc
  | .nil => rfl
  | .cons e m r => by show _ :: r.encs = pEnc (e, m) :: r.ps.map pEnc; rw [encs_ps r]; rfl
theorem ps_length (l : Lad) : l.ps.length = l.len := by rw [← encs_length, encs_ps, List.length_map]
theorem mem_parts : ∀ (l : Lad) (p : Lad × Int), p ∈ l.ps → p.1.parts < l.parts
  | .nil, _, h => by simp [ps] at h
  | .cons e m r, p, h => by
    rcases List.mem_cons.mp h with h | h
    · subst h; show e.parts < 1 + e.parts + r.parts; omega
    · have := mem_parts r p h; show p.1.parts < 1 + e.parts + r.parts; omega
theorem mem_deep : ∀ (l : Lad) (p : Lad × Int), p ∈ l.ps → p.1.deep < l.deep
  | .nil, _, h => by simp [ps] at h
  | .cons e m r, p, h => by
    rcases List.mem_cons.mp h with h | h
    · subst h; show e.deep < max (1 + e.deep) r.deep; omega
    · have := mem_deep r p h; show p.1.deep < max (1 + e.deep) r.deep; omega
end Lad
section
variable {P : Program} {w : World} {K : PySem.W.Frag} {mg : Str → Option Value} {base : Heap} {f : Addr} {fd : FuncData}
theorem LA_pair {H : Hp} {v : V} {p : Lad × Int} (h : Dp K H v (Lad.pEnc p)) : ∃ a u, v = .ref a ∧ SqT K H a [u, .int p.2] ∧ LA K H u p.1 := by
  have h' : Dp K H v (.tuple [p.1.enc, .int p.2]) := h
  cases h' with
  | tup hs ha =>
    cases ha with
    | cons a1 a2 =>
      cases a2 with
      | cons b1 b2 =>
        cases b2
        cases b1
        exact ⟨_, _, rfl, hs, a1⟩
end
section
variable {P : Program} {w : World} {K : PySem.W.Frag} {mg : Str → Option Value} {base : Heap} {f : Addr} {fd : FuncData} {ps : List Addr}
mutual
def wide : PyData → Nat
  | .tuple ds => max ds.length (wides ds)
  | _ => 0
def wides : List PyData → Nat
  | [] => 0
  | d :: ds => max (wide d) (wides ds)
end
end
section
variable {K : PySem.W.Frag} {H : Hp}
theorem DpAll.append : ∀ {xs ys : List V} {ds es : List PyData}, DpAll K H xs ds → DpAll K H ys es → DpAll K H (xs ++ ys) (ds ++ es)
  | _, _, _, _, .nil, h => h
  | _, _, _, _, .cons a b, h => .cons a (DpAll.append b h)
end
/-- a purse -/
def Pu (H : Hp) (p : Addr) : Prop := ∃ x y : Int, H p = some (.lst [.int x, .int y]) ∧ 0 ≤ x ∧ 0 ≤ y ∧ y < 2147483629
section
variable {P : Program} {w : World} {K : PySem.W.Frag} {mg : Str → Option Value} {base : Heap} {f : Addr} {fd : FuncData}
def spTruth : Sp := fun vs H Q _ => ∃ b : Bool, vs = [.bl b, .bl b] ∧ Q (.bl true) H
end
section
variable {K : PySem.W.Frag} {a b : Addr} {xs ys : List V}
theorem walk_zipT {n : Nat} (hn : n = min xs.length ys.length) : Walk (RZ.ItzT K a b) n (fun H => SqT K H a xs ∧ SqT K H b ys) (YPair (fun i => xs[i]?) (fun i => ys[i]?)) := by
  subst hn
  refine ⟨fun i H hi h => ?_, fun H h => ?_, fun i H x H' hi h y => ?_⟩
  · have h1 : i < xs.length := by omega
    have h2 : i < ys.length := by omega
    exact ⟨xs, ys, xs[i], ys[i], h.1, h.2, List.getElem?_eq_getElem h1, List.getElem?_eq_getElem h2⟩
  · exact ⟨xs, ys, h.1, h.2, by omega⟩
  · obtain ⟨T, x1, y1, e1, e2, e3, e4, e5⟩ := y
    exact ⟨T, x1, y1, e1, e2, e3, e4 xs h.1, e5 ys h.2⟩
end
theorem ib (m m' : Int) : (m == m') = decide (m = m') := by by_cases h : m = m' <;> simp [h]
theorem Lad.eqvs : ∀ l k : Lad, PyData.eqvAll l.encs k.encs = decide (l = k)
  | .nil, .nil => by simp [encs, PyData.eqvAll]
  | .nil, .cons _ _ _ => by simp [encs, PyData.eqvAll]
  | .cons _ _ _, .nil => by simp [encs, PyData.eqvAll]
  | .cons e m r, .cons e' m' r' => by
    have h1 := Lad.eqvs e e'
    have h2 := Lad.eqvs r r'
    simp [encs, PyData.eqvAll, PyData.eqv, h1, h2, Bool.and_assoc, ib]
theorem Lad.eqv_enc (l k : Lad) : PyData.eqv l.enc k.enc = decide (l = k) := by
  rw [Lad.enc, Lad.enc, PyData.eqv]; exact Lad.eqvs l k
theorem Lad.lt_nil_nil : Lad.lt .nil .nil = false := by decide +kernel
theorem Lad.lt_nil_cons (e : Lad) (m : Int) (r : Lad) : Lad.lt .nil (.cons e m r) = true := by
  unfold Lad.lt Lad.enc
  rw [dataLt_tuple, Lad.encs, Lad.encs, toks_all_cons, show keyToksAll [] = [.inl 0] by simp [keyToksAll], lex_atom (by simp), lex_one]
  decide +kernel
theorem Lad.lt_cons_nil (e : Lad) (m : Int) (r : Lad) : Lad.lt (.cons e m r) .nil = false := by
  unfold Lad.lt Lad.enc
  rw [dataLt_tuple, Lad.encs, Lad.encs, toks_all_cons, show keyToksAll [] = [.inl 0] by simp [keyToksAll], lex_atom (by simp), lex_one]
  decide +kernel
theorem Lad.lt_cons (e e' : Lad) (m m' : Int) (r r' : Lad) : Lad.lt (.cons e m r) (.cons e' m' r') = if e = e' then (if m = m' then r.lt r' else decide (m < m')) else e.lt e' := by
  have al : alike (.tuple [e.enc, .int m]) (.tuple [e'.enc, .int m']) = true := by simp [alike, alikeAll, e.alike_enc e']
  have h1 : Lad.lt (.cons e m r) (.cons e' m' r') = if PyData.eqv (.tuple [e.enc, .int m]) (.tuple [e'.enc, .int m']) = true then r.lt r' else dataLt (.tuple [e.enc, .int m]) (.tuple [e'.enc, .int m']) := by
    unfold Lad.lt
    rw [show (Lad.cons e m r).enc = .tuple (.tuple [e.enc, .int m] :: r.encs) from rfl, show (Lad.cons e' m' r').enc = .tuple (.tuple [e'.enc, .int m'] :: r'.encs) from rfl, dataLt_tuple, dataLt_cons al]
    rw [show dataLt r.enc r'.enc = PyProof.Rows.lexLt itemOrd (keyToksAll r.encs) (keyToksAll r'.encs) from dataLt_tuple _ _]
  have h2 : PyData.eqv (.tuple [e.enc, .int m]) (.tuple [e'.enc, .int m']) = (decide (e = e') && decide (m = m')) := by
    simp [PyData.eqv, PyData.eqvAll, Lad.eqv_enc, ib]
  rw [h1, h2, dataLt_pair (e.alike_enc e') (by simp [alike]), Lad.eqv_enc]
  by_cases he : e = e'
  · by_cases hm : m = m'
    · simp [he, hm]
    · simp [he, hm, PyData.eqv, dataLt_int]
  · simp [he, Lad.lt]
namespace Lad
theorem lt_irrefl : ∀ l : Lad, l.lt l = false
  | .nil => lt_nil_nil
  | .cons e m r => by rw [lt_cons, if_pos rfl, if_pos rfl]; exact lt_irrefl r
theorem lt_nil_r : ∀ l : Lad, l.lt .nil = false
  | .nil => lt_nil_nil
  | .cons e m r => lt_cons_nil e m r
theorem lt_ne {l k : Lad} (h : l.lt k = true) : l ≠ k := fun z => by subst z; rw [lt_irrefl] at h; cases h
theorem lt_tri : ∀ l k : Lad, l ≠ k → l.lt k = false → k.lt l = true
  | .nil, .nil, h, _ => absurd rfl h
  | .nil, .cons e m r, _, h => by rw [lt_nil_cons] at h; cases h
  | .cons e m r, .nil, _, _ => lt_nil_cons e m r
  | .cons e m r, .cons e' m' r', hne, h => by
    rw [lt_cons] at h ⊢
    by_cases he : e = e'
    · subst he
      rw [if_pos rfl] at h ⊢
      by_cases hm : m = m'
      · subst hm
        rw [if_pos rfl] at h ⊢
        exact lt_tri r r' (fun z => hne (by rw [z])) h
      · rw [if_neg hm] at h
        rw [if_neg (fun z => hm z.symm)]
        have := of_decide_eq_false h
        exact decide_eq_true (by omega)
    · rw [if_neg he] at h
      rw [if_neg (fun z => he z.symm)]
      exact lt_tri e e' he h
theorem lt_trans : ∀ l k j : Lad, l.lt k = true → k.lt j = true → l.lt j = true
  | _, _, .nil, _, h => by rw [lt_nil_r] at h; cases h
  | _, .nil, .cons _ _ _, h, _ => by rw [lt_nil_r] at h; cases h
  | .nil, .cons _ _ _, .cons e m r, _, _ => lt_nil_cons e m r
  | .cons e m r, .cons e' m' r', .cons e'' m'' r'', h1, h2 => by
    rw [lt_cons] at h1 h2 ⊢
    by_cases he : e = e'
    · subst he
      rw [if_pos rfl] at h1
      by_cases he2 : e = e''
      · subst he2
        rw [if_pos rfl] at h2 ⊢
        by_cases hm : m = m'
        · subst hm
          rw [if_pos rfl] at h1
          by_cases hm2 : m = m''
          · subst hm2
            rw [if_pos rfl] at h2 ⊢
            exact lt_trans r r' r'' h1 h2
          · rw [if_neg hm2] at h2 ⊢
            exact h2
        · rw [if_neg hm] at h1
          have a1 := of_decide_eq_true h1
          by_cases hm2 : m' = m''
          · subst hm2
            rw [if_neg hm]
            exact h1
          · rw [if_neg hm2] at h2
            have a2 := of_decide_eq_true h2
            rw [if_neg (by omega)]
            exact decide_eq_true (by omega)
      · rw [if_neg he2] at h2 ⊢
        exact h2
    · rw [if_neg he] at h1
      by_cases he2 : e' = e''
      · subst he2
        rw [if_neg he]
        exact h1
      · rw [if_neg he2] at h2
        have h3 := lt_trans e e' e'' h1 h2
        rw [if_neg (lt_ne h3)]
        exact h3
theorem lt_asymm {l k : Lad} (h : l.lt k = true) : k.lt l = false := by
  cases e : k.lt l with
  | false => rfl
  | true =>
    have := lt_trans l k l h e
    rw [lt_irrefl] at this
    cases this
/-- a right ladder: numbers from 1 to below B, exponents falling, at each depth -/
def Ok (B : Int) : Lad → Prop
  | .nil => True
  | .cons e m r => e.Ok B ∧ 1 ≤ m ∧ m < B ∧ r.Ok B ∧ ∀ p ∈ r.ps, p.1.lt e = true
theorem Ok.mono {B C : Int} (h : B ≤ C) : ∀ {l : Lad}, l.Ok B → l.Ok C
  | .nil, _ => trivial
  | .cons e m r, ⟨h1, h2, h3, h4, h5⟩ => ⟨Ok.mono h h1, h2, by omega, Ok.mono h h4, h5⟩
theorem ok_ps {B : Int} : ∀ {ps : List (Lad × Int)}, (ofPs ps).Ok B ↔ (∀ p ∈ ps, p.1.Ok B ∧ 1 ≤ p.2 ∧ p.2 < B) ∧ ps.Pairwise (fun p q => q.1.lt p.1 = true)
  | [] => by simp [ofPs, Ok]
  | (e, m) :: r => by
    have ih := ok_ps (B := B) (ps := r)
    show (e.Ok B ∧ 1 ≤ m ∧ m < B ∧ (ofPs r).Ok B ∧ ∀ p ∈ (ofPs r).ps, p.1.lt e = true) ↔ _
    rw [ps_ofPs, List.pairwise_cons, ih]
    constructor
    · rintro ⟨h1, h2, h3, ⟨h4, h5⟩, h6⟩
      refine ⟨fun p hp => ?_, h6, h5⟩
      rcases List.mem_cons.mp hp with hp | hp
      · subst hp; exact ⟨h1, h2, h3⟩
      · exact h4 p hp
    · rintro ⟨h1, h2, h3⟩
      have h4 := h1 (e, m) (List.mem_cons_self ..)
      exact ⟨h4.1, h4.2.1, h4.2.2, ⟨fun p hp => h1 p (List.mem_cons_of_mem _ hp), h3⟩, h2⟩
theorem ok_iff {B : Int} {l : Lad} : l.Ok B ↔ (∀ p ∈ l.ps, p.1.Ok B ∧ 1 ≤ p.2 ∧ p.2 < B) ∧ l.ps.Pairwise (fun p q => q.1.lt p.1 = true) := by
  have := ok_ps (B := B) (ps := l.ps)
  rw [ofPs_ps] at this
  exact this
end Lad
theorem Pu.sb {H H' : Hp} {p : Addr} (h : Pu H p) (e : SB [] H H') : Pu H' p := by
  obtain ⟨x, y, h1, h2⟩ := h
  exact ⟨x, y, e.keep _ _ h1 List.not_mem_nil, h2⟩
section
variable {P : Program} {w : World} {K : PySem.W.Frag} {mg : Str → Option Value} {base : Heap} {f : Addr} {fd : FuncData}
def spLaw (K : PySem.W.Frag) : Sp := fun vs H Q _ => ∃ (a : Addr) (ns : List Int), vs = [.ref a] ∧ SqL K H a (ns.map V.int) ∧ ns.length ≤ 63 ∧ ∀ H', Q (.bl true) H'
end
section
variable {P : Program} {w : World} {K : PySem.W.Frag} {mg : Str → Option Value} {base : Heap} {f : Addr} {fd : FuncData}
theorem none_sp {ps : List Str} {k : Nat} {sp : Sp} (no : ∀ vs H Q E, ¬ sp vs H Q E) : FnOk P w K mg base CX0 k f fd ps sp :=
  ⟨fun vs H Q E h => absurd h (no vs H Q E), fun A outer s H args us vs Q E _ _ _ _ h => absurd h (no vs H Q E)⟩
end
end FT
namespace FT
open PySem PySem.W PySem.Spec PyProof.Rows L2
namespace Lad
theorem lays : ∀ l : Lad, PyData.canLayAll0 l.encs = true
  | .nil => by simp [encs, PyData.canLayAll0]
  | .cons e m r => by simp [encs, PyData.canLayAll0, PyData.canLay0, lays e, lays r]
theorem shaped_enc {l : Lad} (h : l.deep ≤ 31) : SeqAt.shaped l.enc = true := by
  have := l.enc_depth
  unfold SeqAt.shaped
  rw [show l.enc.canLay0 = true by rw [enc, PyData.canLay0]; exact lays l]
  simp; omega
theorem pEnc_noList (p : Lad × Int) : noList (pEnc p) = true := by simp [pEnc, noList, noLists, Lad.noList_enc]
theorem pEnc_depth (p : Lad × Int) : (pEnc p).depth ≤ 2 * p.1.deep + 2 := by
  have := p.1.enc_depth
  simp only [pEnc, PyData.depth, PyData.depthAll]; omega
theorem pLt (p q : Lad × Int) : dataLt (pEnc p) (pEnc q) = if p.1 = q.1 then decide (p.2 < q.2) else p.1.lt q.1 := by
  unfold pEnc
  rw [dataLt_pair (p.1.alike_enc q.1) (by simp [alike]), Lad.eqv_enc]
  by_cases h : p.1 = q.1
  · rw [if_pos (by simp [h]), if_pos h, dataLt_int]
    by_cases h2 : p.2 = q.2
    · simp [PyData.eqv, h2]
    · simp [PyData.eqv, h2]
  · rw [if_neg (by simp [h]), if_neg h]; rfl
/-- the parts of pairs -/
def tot : List (Lad × Int) → Nat
  | [] => 0
  | p :: r => 1 + p.1.parts + tot r
theorem parts_ofPs : ∀ bs : List (Lad × Int), (ofPs bs).parts = tot bs
  | [] => rfl
  | (e, m) :: r => by show 1 + e.parts + (ofPs r).parts = 1 + e.parts + tot r; rw [parts_ofPs r]
theorem tot_append : ∀ bs cs : List (Lad × Int), tot (bs ++ cs) = tot bs + tot cs
  | [], cs => by simp [tot]
  | p :: r, cs => by show 1 + p.1.parts + tot (r ++ cs) = _; rw [tot_append r cs, tot]; omega
theorem tot_filter (f : Lad × Int → Bool) : ∀ bs : List (Lad × Int), tot (bs.filter f) ≤ tot bs
  | [] => by simp [tot]
  | p :: r => by
    have := tot_filter f r
    rw [List.filter_cons]
    split
    · show 1 + p.1.parts + tot (r.filter f) ≤ 1 + p.1.parts + tot r; omega
    · show tot (r.filter f) ≤ 1 + p.1.parts + tot r; omega
theorem tot_perm {bs cs : List (Lad × Int)} (h : bs.Perm cs) : tot bs = tot cs := by
  induction h with
  | nil => rfl
  | cons x _ ih => simp only [tot]; omega
  | swap x y l => simp only [tot]; omega
  | trans _ _ h1 h2 => omega
theorem deep_ofPs {n : Nat} : ∀ {bs : List (Lad × Int)}, (∀ b ∈ bs, b.1.deep < n) → (ofPs bs).deep ≤ n
  | [], _ => Nat.zero_le _
  | (e, m) :: r, h => by
    have h1 := deep_ofPs (bs := r) fun b hb => h b (List.mem_cons_of_mem _ hb)
    have h2 : e.deep < n := h (e, m) (List.mem_cons_self ..)
    show max (1 + e.deep) (ofPs r).deep ≤ n
    omega
end Lad
theorem Bears_la {K : PySem.W.Frag} {H : Hp} {a : Addr} {xs : List V} {bs : List (Lad × Int)} (h : SqT K H a xs) (hb : Bears K H Lad.pEnc xs bs) : LA K H (.ref a) (Lad.ofPs bs) := by
  refine Dp.tup h ?_
  rw [Lad.encs_ps, Lad.ps_ofPs]
  exact hb.dp
theorem LA_bears {K : PySem.W.Frag} {H : Hp} {v : V} {l : Lad} (h : LA K H v l) : ∃ a xs, v = .ref a ∧ SqT K H a xs ∧ Bears K H Lad.pEnc xs l.ps := by
  obtain ⟨a, xs, rfl, hs, ha⟩ := h.tup
  rw [Lad.encs_ps] at ha
  exact ⟨a, xs, rfl, hs, Bears.of ha⟩
end FT
namespace FT
open PySem PySem.W PySem.Spec PyProof.Rows L2
def rCatB (K : PySem.W.Frag) : R2 := fun x y H Q => ∃ a b xs ys, x = .ref a ∧ y = .ref b ∧ SqT K H a xs ∧ SqT K H b ys ∧ xs.length + ys.length ≤ 10000 ∧ ∀ c H', SB [] H H' → SqT K H' c (xs ++ ys) → Q (.ref c) H'
def rSlB (K : PySem.W.Frag) : V → Option Int → Option Int → Hp → VK → Prop := fun x lo hi H Q => ∃ a xs, x = .ref a ∧ SqT K H a xs ∧ ∀ c H', SB [] H H' → SqT K H' c (cutV xs lo hi) → Q (.ref c) H'
section
variable {X : Cx}
theorem op_catB : OpR X (binaryOp .Add) (rCatB X.K) := by
  intro pins s σ H x y v u Q I rx ry h
  obtain ⟨a, b, xs, ys, rfl, rfl, ha, hb, hz, q⟩ := h
  refine op_catA pins s σ H _ _ v u Q I rx ry ⟨a, b, xs, ys, rfl, rfl, ha, hb, by rw [sizeLine_eq]; omega, fun e => ?_, fun e1 e2 => ?_, fun e1 e2 p hp => ?_⟩
  · subst e; exact q b H SB.refl hb
  · subst e2; exact q a H SB.refl (by rw [List.append_nil]; exact ha)
  · exact q p _ (SB.new hp _) (SqT.of upd_same)
theorem sl_tupB : SlR X (rSlB X.K) := by
  intro pins s σ H x v vl vu lo hi sl Q I rx hs pl pu h
  obtain ⟨a, xs, rfl, hx, q⟩ := h
  refine sl_tupA pins s σ H _ v vl vu lo hi sl Q I rx hs pl pu ⟨a, xs, rfl, hx, fun e => ?_, fun e p hp => ?_⟩
  · refine q a H SB.refl ?_
    have : cutV xs lo hi = xs := by
      unfold cutV
      rw [e.1, e.2]
      simp
    rw [this]; exact hx
  · exact q p _ (SB.new hp _) (SqT.of upd_same)
end
theorem cutTake (xs : List V) (k : Nat) : cutV xs none (some (k : Int)) = xs.take k := by
  unfold cutV
  have h1 : HT.sIx xs.length 0 none = 0 := rfl
  have h2 : HT.sIx xs.length xs.length (some (k : Int)) = min k xs.length := HT.sIx_nat xs.length xs.length k
  rw [h1, h2]
  simp
namespace Lad
def sumAt (ps : List (Lad × Int)) (e : Lad) : Int := ((ps.filter fun p => decide (p.1 = e)).map (·.2)).sum
/-- the second behind the first -/
def bhd (l k : Lad) : Lad := match k.ps with
  | [] => l
  | (e, m) :: r => ofPs (l.ps.filter (fun p => e.lt p.1) ++ (e, sumAt l.ps e + m) :: r)
theorem bhd_nil (l : Lad) : bhd l .nil = l := rfl
theorem bhd_cons (l e : Lad) (m : Int) (r : Lad) : bhd l (.cons e m r) = ofPs (l.ps.filter (fun p => e.lt p.1) ++ (e, sumAt l.ps e + m) :: r.ps) := rfl
end Lad
end FT
namespace FT
open PySem PySem.W PySem.Spec PyProof.Rows L2
namespace Lad
theorem deep_parts_mem {l : Lad} {n : Nat} (h : l.deep ≤ n) : ∀ p ∈ l.ps, p.1.deep < n := fun p hp => Nat.lt_of_lt_of_le (mem_deep l p hp) h
end Lad
end FT
namespace FT
open PySem PySem.W PySem.Spec PyProof.Rows L2
theorem Pu.ne {H : Hp} {p q : Addr} (h : Pu H p) (n : H q = none) : p ≠ q := by
  obtain ⟨x, y, h1, h2⟩ := h
  exact ne_of_none h1 n
end FT
namespace FT
open PySem PySem.W PySem.Spec PyProof.Rows L2
namespace Lad
theorem bhd_parts (l k : Lad) : (bhd l k).parts ≤ l.parts + k.parts := by
  cases k with
  | nil => rw [bhd_nil]; omega
  | cons e m r =>
    rw [bhd_cons, parts_ofPs, tot_append]
    have h1 : l.parts = tot l.ps := by rw [← parts_ofPs, ofPs_ps]
    have h2 := tot_filter (fun p => e.lt p.1) l.ps
    have h3 : r.parts = tot r.ps := by rw [← parts_ofPs, ofPs_ps]
    simp only [tot, Lad.parts]
    omega
theorem bhd_deep {n : Nat} {l k : Lad} (hl : l.deep ≤ n) (hk : k.deep ≤ n) : (bhd l k).deep ≤ n := by
  cases k with
  | nil => rw [bhd_nil]; exact hl
  | cons e m r =>
    rw [bhd_cons]
    refine deep_ofPs fun b hb => ?_
    rcases List.mem_append.mp hb with hb | hb
    · exact deep_parts_mem hl b (List.mem_filter.mp hb).1
    · rcases List.mem_cons.mp hb with hb | hb
      · subst hb; exact deep_parts_mem hk (e, m) (List.mem_cons_self ..)
      · exact deep_parts_mem hk b (List.mem_cons_of_mem _ hb)
theorem nil_bhd (k : Lad) : bhd .nil k = k := by
  cases k with
  | nil => rfl
  | cons e m r =>
    rw [bhd_cons]
    show ofPs ([] ++ (e, sumAt [] e + m) :: r.ps) = _
    have : sumAt [] e + m = m := by simp [sumAt]
    rw [this]
    show cons e m (ofPs r.ps) = _
    rw [ofPs_ps]
end Lad
end FT
namespace FT
open PySem PySem.W PySem.Spec PyProof.Rows L2
namespace Lad
theorem lt_ps (p q : Lad × Int) (r s : List (Lad × Int)) : (ofPs (p :: r)).lt (ofPs (q :: s)) = if p.1 = q.1 then (if p.2 = q.2 then (ofPs r).lt (ofPs s) else decide (p.2 < q.2)) else p.1.lt q.1 := lt_cons _ _ _ _ _ _
theorem lt_drop {l o : Lad} {k : Nat} {p q : Lad × Int} (hp : l.ps[k]? = some p) (hq : o.ps[k]? = some q) : (ofPs (l.ps.drop k)).lt (ofPs (o.ps.drop k)) = if p.1 = q.1 then (if p.2 = q.2 then (ofPs (l.ps.drop (k + 1))).lt (ofPs (o.ps.drop (k + 1))) else decide (p.2 < q.2)) else p.1.lt q.1 := by
  have h1 : k < l.ps.length := (List.getElem?_eq_some_iff.mp hp).1
  have h2 : k < o.ps.length := (List.getElem?_eq_some_iff.mp hq).1
  have e1 : l.ps[k] = p := (List.getElem?_eq_some_iff.mp hp).2
  have e2 : o.ps[k] = q := (List.getElem?_eq_some_iff.mp hq).2
  rw [List.drop_eq_getElem_cons h1, List.drop_eq_getElem_cons h2, e1, e2, lt_ps]
theorem lt_end {l o : Lad} {k : Nat} (hk : k ≤ l.ps.length) (hk2 : k ≤ o.ps.length) (h : ¬ (k < l.ps.length ∧ k < o.ps.length)) : (ofPs (l.ps.drop k)).lt (ofPs (o.ps.drop k)) = (decide (k = l.ps.length) && decide (k < o.ps.length)) := by
  by_cases h1 : k = l.ps.length
  · rw [List.drop_eq_nil_of_le (show l.ps.length ≤ k by omega)]
    by_cases h2 : k < o.ps.length
    · rw [List.drop_eq_getElem_cons h2]
      show Lad.lt .nil (.cons _ _ _) = _
      rw [lt_nil_cons]; simp [h1]; omega
    · rw [List.drop_eq_nil_of_le (by omega)]
      show Lad.lt .nil .nil = _
      rw [lt_nil_nil]; simp; intro _; omega
  · have h2 : ¬ k < o.ps.length := by omega
    rw [List.drop_eq_nil_of_le (as := o.ps) (by omega)]
    show Lad.lt _ .nil = _
    rw [lt_nil_r]; simp [h1]
end Lad
def spLLess (K : PySem.W.Frag) (n : Nat) : Sp := fun vs H Q _ => ∃ (v u : V) (l k : Lad), vs = [v, u] ∧ LA K H v l ∧ LA K H u k ∧ l.deep < n ∧ l.deep ≤ 30 ∧ k.deep ≤ 30 ∧ ∀ H', SB [] H H' → Q (.bl (l.lt k)) H'
theorem Bears.at {K : PySem.W.Frag} {H : Hp} {β : Type} {enc : β → PyData} : ∀ {vs : List V} {bs : List β} {i : Nat} {b : β}, Bears K H enc vs bs → bs[i]? = some b → ∃ v, vs[i]? = some v ∧ Dp K H v (enc b)
  | _, _, _, _, .nil, e => by simp at e
  | _, _, 0, _, .cons h t, e => by simp at e; subst e; exact ⟨_, rfl, h⟩
  | _, _, i + 1, b, .cons h t, e => by
    obtain ⟨d, h1, h2⟩ := Bears.at (i := i) (b := b) t (by simpa using e)
    exact ⟨d, by simpa using h1, h2⟩
theorem Bears.set {K : PySem.W.Frag} {H : Hp} {β : Type} {enc : β → PyData} {v : V} {b : β} (hv : Dp K H v (enc b)) : ∀ {vs : List V} {bs : List β} (i : Nat), Bears K H enc vs bs → Bears K H enc (vs.set i v) (bs.set i b)
  | _, _, _, .nil => .nil
  | _, _, 0, .cons h t => .cons hv t
  | _, _, i + 1, .cons h t => .cons h (Bears.set hv i t)
namespace Lad
theorem le_trans {a b c : Lad} (h1 : b.lt a = false) (h2 : c.lt b = false) : c.lt a = false := by
  cases e : c.lt a with
  | false => rfl
  | true =>
    by_cases hab : a = b
    · subst hab; rw [e] at h2; cases h2
    · have h3 : a.lt b = true := lt_tri b a (fun z => hab z.symm) h1
      have h4 := lt_trans c a b e h3
      rw [h4] at h2; cases h2
theorem le_of_lt {a b : Lad} (h : a.lt b = true) : b.lt a = false := lt_asymm h
end Lad
end FT
namespace FT
open PySem PySem.W PySem.Spec PyProof.Rows L2
section
variable {γ : Type} [DecidableEq γ]
def pairE (enc : γ → PyData) (p : γ × Int) : PyData := .tuple [enc p.1, .int p.2]
def jstep (acc : List (γ × Int)) (p : γ × Int) : List (γ × Int) := match acc.getLast? with
  | some q => if q.1 = p.1 then acc.dropLast ++ [(p.1, q.2 + p.2)] else acc ++ [p]
  | none => [p]
def jn (bs : List (γ × Int)) : List (γ × Int) := bs.foldl jstep []
theorem jstep_nil (p : γ × Int) : jstep [] p = [p] := rfl
theorem jstep_snoc (acc : List (γ × Int)) (q p : γ × Int) : jstep (acc ++ [q]) p = if q.1 = p.1 then acc ++ [(p.1, q.2 + p.2)] else acc ++ [q] ++ [p] := by
  unfold jstep
  rw [List.getLast?_append]
  simp
theorem jn_keys (bs : List (γ × Int)) : ∀ p ∈ jn bs, ∃ q ∈ bs, q.1 = p.1 := by
  have key : ∀ (bs acc : List (γ × Int)), ∀ p ∈ bs.foldl jstep acc, (∃ q ∈ acc, q.1 = p.1) ∨ ∃ q ∈ bs, q.1 = p.1 := by
    intro bs
    induction bs with
    | nil => intro acc p hp; exact .inl ⟨p, hp, rfl⟩
    | cons x r ih =>
      intro acc p hp
      rcases ih (jstep acc x) p hp with ⟨q, hq, e⟩ | ⟨q, hq, e⟩
      · rcases List.eq_nil_or_concat acc with h | ⟨a, z, h⟩
        · subst h
          rw [jstep_nil] at hq
          have : q = x := by simpa using hq
          subst this
          exact .inr ⟨q, List.mem_cons_self .., e⟩
        · subst h
          rw [List.concat_eq_append] at hq ⊢
          rw [jstep_snoc] at hq
          by_cases hz : z.1 = x.1
          · rw [if_pos hz] at hq
            rcases List.mem_append.mp hq with hq | hq
            · exact .inl ⟨q, List.mem_append_left _ hq, e⟩
            · have : q = (x.1, z.2 + x.2) := by simpa using hq
              subst this
              exact .inr ⟨x, List.mem_cons_self .., e⟩
          · rw [if_neg hz] at hq
            rcases List.mem_append.mp hq with hq | hq
            · exact .inl ⟨q, hq, e⟩
            · have : q = x := by simpa using hq
              subst this
              exact .inr ⟨q, List.mem_cons_self .., e⟩
      · exact .inr ⟨q, List.mem_cons_of_mem _ hq, e⟩
  intro p hp
  rcases key bs [] p hp with ⟨q, hq, _⟩ | h
  · cases hq
  · exact h
/-- unlike neighbours stay as they are -/
theorem jn_id {bs : List (γ × Int)} (h : bs.Pairwise (fun a b => a.1 ≠ b.1)) : jn bs = bs := by
  have key : ∀ (bs acc : List (γ × Int)), (acc ++ bs).Pairwise (fun a b => a.1 ≠ b.1) → bs.foldl jstep acc = acc ++ bs := by
    intro bs
    induction bs with
    | nil => intro acc _; simp
    | cons x r ih =>
      intro acc hp
      have e : jstep acc x = acc ++ [x] := by
        rcases List.eq_nil_or_concat acc with h | ⟨a, z, h⟩
        · subst h; rfl
        · subst h
          rw [List.concat_eq_append] at hp ⊢
          rw [jstep_snoc, if_neg]
          have h2 := (List.pairwise_append.mp hp).2.2 z (by simp) x (List.mem_cons_self ..)
          exact h2
      show r.foldl jstep (jstep acc x) = _
      rw [e, ih]
      · simp
      · simpa using hp
  have := key bs [] (by simpa using h)
  simpa [jn] using this
end
theorem Bears.snoc {K : PySem.W.Frag} {H : Hp} {β : Type} {enc : β → PyData} {vs : List V} {bs : List β} {b : β} (h : Bears K H enc vs (bs ++ [b])) : ∃ us u, vs = us ++ [u] ∧ Bears K H enc us bs ∧ Dp K H u (enc b) := by
  induction bs generalizing vs with
  | nil =>
    cases h with
    | cons h1 h2 => cases h2; exact ⟨[], _, rfl, .nil, h1⟩
  | cons c r ih =>
    cases h with
    | cons h1 h2 =>
      obtain ⟨us, u, e, h3, h4⟩ := ih h2
      exact ⟨_ :: us, u, by rw [e]; rfl, .cons h1 h3, h4⟩
namespace Lad
theorem anti {a b : Lad × Int} (h1 : dataLt (pEnc a) (pEnc b) = false) (h2 : dataLt (pEnc b) (pEnc a) = false) : a = b := by
  rw [pLt] at h1 h2
  by_cases h : a.1 = b.1
  · rw [if_pos h] at h1
    rw [if_pos h.symm] at h2
    have e1 := of_decide_eq_false h1
    have e2 := of_decide_eq_false h2
    exact Prod.ext h (by omega)
  · rw [if_neg h] at h1
    rw [if_neg (fun z : b.1 = a.1 => h z.symm), lt_tri _ _ h h1] at h2
    cases h2
abbrev dsc (bs : List (Lad × Int)) : List (Lad × Int) := bs.mergeSort (dataLe true pEnc)
theorem dsc_perm (bs : List (Lad × Int)) : (dsc bs).Perm bs := List.mergeSort_perm _ _
theorem dsc_le (bs : List (Lad × Int)) : (dsc bs).Pairwise (fun a b => dataLt (pEnc a) (pEnc b) = false) := by
  have h := sort_pairwise (le := dataLe true pEnc) (sortLe_total _ _ _) bs
  refine h.imp fun {a b} hab => ?_
  have h2 : (!dataLt (pEnc a) (pEnc b)) = true := hab
  simpa using h2
/-- two falling arrangements of the same are one -/
theorem falls_one : ∀ {as bs : List (Lad × Int)}, as.Perm bs → as.Pairwise (fun a b => dataLt (pEnc a) (pEnc b) = false) → bs.Pairwise (fun a b => dataLt (pEnc a) (pEnc b) = false) → as = bs
  | [], bs, h, _, _ => (List.nil_perm.mp h).symm
  | a :: as, [], h, _, _ => by have := h.length_eq; simp at this
  | a :: as, b :: bs, h, h1, h2 => by
    have hab : a = b := by
      have ha : a ∈ b :: bs := h.mem_iff.mp (List.mem_cons_self ..)
      have hb : b ∈ a :: as := h.mem_iff.mpr (List.mem_cons_self ..)
      rcases List.mem_cons.mp ha with ha | ha
      · exact ha
      · rcases List.mem_cons.mp hb with hb | hb
        · exact hb.symm
        · exact anti ((List.pairwise_cons.mp h1).1 b hb) ((List.pairwise_cons.mp h2).1 a ha)
    subst hab
    rw [falls_one (List.Perm.cons_inv h) (List.pairwise_cons.mp h1).2 (List.pairwise_cons.mp h2).2]
theorem dsc_of {cs bs : List (Lad × Int)} (hp : cs.Perm bs) (hs : cs.Pairwise (fun a b => dataLt (pEnc a) (pEnc b) = false)) : cs = dsc bs := falls_one (hp.trans (dsc_perm bs).symm) hs (dsc_le bs)
theorem dsc_swap (as bs : List (Lad × Int)) : dsc (as ++ bs) = dsc (bs ++ as) := dsc_of ((dsc_perm _).trans List.perm_append_comm) (dsc_le _)
/-- both together -/
def bth (l k : Lad) : Lad := ofPs (jn (dsc (l.ps ++ k.ps)))
theorem bth_comm (l k : Lad) : bth l k = bth k l := by unfold bth; rw [dsc_swap]
theorem ok_falls {B : Int} {l : Lad} (h : l.Ok B) : l.ps.Pairwise (fun a b => dataLt (pEnc a) (pEnc b) = false) ∧ l.ps.Pairwise (fun a b => a.1 ≠ b.1) := by
  have h2 := (ok_iff.mp h).2
  constructor
  · refine h2.imp fun {a b} hab => ?_
    rw [pLt, if_neg (fun z : a.1 = b.1 => lt_ne hab z.symm)]
    exact lt_asymm hab
  · exact h2.imp fun {a b} hab (z : a.1 = b.1) => lt_ne hab z.symm
theorem bth_nil {B : Int} {l : Lad} (h : l.Ok B) : bth l .nil = l := by
  unfold bth
  rw [show l.ps ++ (Lad.nil).ps = l.ps by simp [ps], ← dsc_of (List.Perm.refl _) (ok_falls h).1, jn_id (ok_falls h).2, ofPs_ps]
theorem tot_jstep (acc : List (Lad × Int)) (p : Lad × Int) : tot (jstep acc p) ≤ tot acc + (1 + p.1.parts) := by
  rcases List.eq_nil_or_concat acc with h | ⟨a, z, h⟩
  · subst h; simp [jstep_nil, tot]
  · subst h
    rw [List.concat_eq_append, jstep_snoc]
    by_cases hz : z.1 = p.1
    · rw [if_pos hz, tot_append, tot_append]; simp only [tot]; rw [hz]; omega
    · rw [if_neg hz, tot_append, tot_append]; simp only [tot]; omega
theorem tot_jn (bs : List (Lad × Int)) : tot (jn bs) ≤ tot bs := by
  have key : ∀ (bs acc : List (Lad × Int)), tot (bs.foldl jstep acc) ≤ tot acc + tot bs := by
    intro bs
    induction bs with
    | nil => intro acc; simp [tot]
    | cons x r ih =>
      intro acc
      have h1 := ih (jstep acc x)
      have h2 := tot_jstep acc x
      show tot (r.foldl jstep (jstep acc x)) ≤ tot acc + (1 + x.1.parts + tot r)
      omega
  have := key bs []
  simpa [jn, tot] using this
theorem bth_parts (l k : Lad) : (bth l k).parts ≤ l.parts + k.parts := by
  unfold bth
  rw [parts_ofPs]
  have h1 := tot_jn (dsc (l.ps ++ k.ps))
  rw [tot_perm (dsc_perm _), tot_append] at h1
  have h2 : l.parts = tot l.ps := by rw [← parts_ofPs, ofPs_ps]
  have h3 : k.parts = tot k.ps := by rw [← parts_ofPs, ofPs_ps]
  omega
theorem bth_deep {n : Nat} {l k : Lad} (hl : l.deep ≤ n) (hk : k.deep ≤ n) : (bth l k).deep ≤ n := by
  unfold bth
  refine deep_ofPs fun b hb => ?_
  obtain ⟨q, hq, e⟩ := jn_keys _ b hb
  rw [← e]
  rcases List.mem_append.mp ((dsc_perm _).mem_iff.mp hq) with h | h
  · exact deep_parts_mem hl q h
  · exact deep_parts_mem hk q h
/-- so many of it -/
def tms (l : Lad) (m : Int) : Lad := if m = 0 then .nil else ofPs (l.ps.map fun p => (p.1, p.2 * m))
theorem tot_map (f : Int → Int) : ∀ bs : List (Lad × Int), tot (bs.map fun p => (p.1, f p.2)) = tot bs
  | [] => rfl
  | p :: r => by show 1 + p.1.parts + tot _ = 1 + p.1.parts + tot r; rw [tot_map f r]
theorem tms_parts (l : Lad) (m : Int) : (tms l m).parts ≤ l.parts := by
  unfold tms
  split
  · exact Nat.zero_le _
  · rw [parts_ofPs, tot_map (fun x => x * m), ← parts_ofPs, ofPs_ps]; exact Nat.le_refl _
theorem tms_deep {n : Nat} {l : Lad} (m : Int) (h : l.deep ≤ n) : (tms l m).deep ≤ n := by
  unfold tms
  split
  · exact Nat.zero_le _
  · refine deep_ofPs fun b hb => ?_
    obtain ⟨p, hp, rfl⟩ := List.mem_map.mp hb
    exact deep_parts_mem h p hp
end Lad
theorem Lad.shaped_rows {bs : List (Lad × Int)} (h : ∀ b ∈ bs, b.1.deep ≤ 24) : SeqAt.shaped (.list (bs.map Lad.pEnc)) = true := by
  have h1 : PyData.canLayAll0 (bs.map Lad.pEnc) = true := by
    induction bs with
    | nil => simp [PyData.canLayAll0]
    | cons b r ih =>
      have := ih fun c hc => h c (List.mem_cons_of_mem _ hc)
      rw [List.map_cons, PyData.canLayAll0, this]
      simp [Lad.pEnc, PyData.canLay0, PyData.canLayAll0, Lad.enc, Lad.lays]
  have h2 : PyData.depthAll (bs.map Lad.pEnc) ≤ 50 := by
    induction bs with
    | nil => simp [PyData.depthAll]
    | cons b r ih =>
      have e1 := ih (fun c hc => h c (List.mem_cons_of_mem _ hc)) (by rw [List.map_cons, PyData.canLayAll0, Bool.and_eq_true] at h1; exact h1.2)
      have e2 := h b (List.mem_cons_self ..)
      have e3 := Lad.pEnc_depth b
      rw [List.map_cons, PyData.depthAll]
      omega
  have h3 : (PyData.list (bs.map Lad.pEnc)).depth = PyData.depthAll (bs.map Lad.pEnc) + 1 := by simp [PyData.depth]
  unfold SeqAt.shaped
  rw [PyData.canLay0, h1, Bool.true_and]
  exact decide_eq_true (by omega)
end FT
namespace FT
open PySem PySem.W PySem.Spec PyProof.Rows L2
theorem ThAll.append {K : PySem.W.Frag} {ps : List Addr} {H : Hp} : ∀ {xs ys : List V} {ds es : List PyData}, ThAll K ps H xs ds → ThAll K ps H ys es → ThAll K ps H (xs ++ ys) (ds ++ es)
  | _, _, _, _, .nil, h => h
  | _, _, _, _, .cons a b, h => .cons a (ThAll.append b h)
theorem ThAll.take {K : PySem.W.Frag} {ps : List Addr} {H : Hp} (n : Nat) : ∀ {xs : List V} {ds : List PyData}, ThAll K ps H xs ds → ThAll K ps H (xs.take n) (ds.take n) := by
  induction n with
  | zero => intro xs ds h; rw [List.take_zero, List.take_zero]; exact .nil
  | succ n ih =>
    intro xs ds h
    cases h with
    | nil => exact .nil
    | cons a b => exact .cons a (ih b)
theorem ThAll.drop {K : PySem.W.Frag} {ps : List Addr} {H : Hp} (n : Nat) : ∀ {xs : List V} {ds : List PyData}, ThAll K ps H xs ds → ThAll K ps H (xs.drop n) (ds.drop n) := by
  induction n with
  | zero => intro xs ds h; exact h
  | succ n ih =>
    intro xs ds h
    cases h with
    | nil => exact .nil
    | cons a b => exact ih b
/-- how far a thing goes: depth and width -/
def Fits (n m : Nat) (d : PyData) : Prop := d.depth ≤ n ∧ wide d ≤ m
theorem Fits.mono {n m n' m' : Nat} {d : PyData} (h : Fits n m d) (h1 : n ≤ n') (h2 : m ≤ m') : Fits n' m' d := ⟨Nat.le_trans h.1 h1, Nat.le_trans h.2 h2⟩
end FT
namespace FT
open PySem PySem.W PySem.Spec PyProof.Rows L2
namespace Lad
theorem sumAt_nil (x : Lad) : sumAt [] x = 0 := rfl
theorem sumAt_cons (e : Lad) (m : Int) (r : List (Lad × Int)) (x : Lad) : sumAt ((e, m) :: r) x = (if e = x then m else 0) + sumAt r x := by
  unfold sumAt
  rw [List.filter_cons]
  by_cases h : e = x
  · simp [h]
  · simp [h]
theorem sumAt_append (as bs : List (Lad × Int)) (x : Lad) : sumAt (as ++ bs) x = sumAt as x + sumAt bs x := by
  unfold sumAt
  rw [List.filter_append, List.map_append, List.sum_append]
theorem sumAt_zero {bs : List (Lad × Int)} {x : Lad} (h : ∀ p ∈ bs, p.1 ≠ x) : sumAt bs x = 0 := by
  unfold sumAt
  have : bs.filter (fun p => decide (p.1 = x)) = [] := by
    rw [List.filter_eq_nil_iff]
    intro p hp
    simpa using h p hp
  rw [this]; rfl
theorem sumAt_perm {as bs : List (Lad × Int)} (h : as.Perm bs) (x : Lad) : sumAt as x = sumAt bs x := by
  induction h with
  | nil => rfl
  | cons p _ ih => obtain ⟨e, m⟩ := p; rw [sumAt_cons, sumAt_cons, ih]
  | swap p q l => obtain ⟨e, m⟩ := p; obtain ⟨e', m'⟩ := q; rw [sumAt_cons, sumAt_cons, sumAt_cons, sumAt_cons]; omega
  | trans _ _ h1 h2 => omega
theorem sumAt_jstep (acc : List (Lad × Int)) (p : Lad × Int) (x : Lad) : sumAt (jstep acc p) x = sumAt acc x + (if p.1 = x then p.2 else 0) := by
  obtain ⟨e, m⟩ := p
  rcases List.eq_nil_or_concat acc with h | ⟨a, z, h⟩
  · subst h; rw [jstep_nil, sumAt_cons, sumAt_nil]; show (if e = x then m else 0) + 0 = 0 + (if e = x then m else 0); omega
  · subst h
    obtain ⟨e', m'⟩ := z
    rw [List.concat_eq_append, jstep_snoc]
    by_cases hz : e' = e
    · rw [if_pos hz, sumAt_append, sumAt_append, sumAt_cons, sumAt_cons, sumAt_nil]
      subst hz
      by_cases hx : e' = x
      · simp only [if_pos hx]; omega
      · simp only [if_neg hx]; omega
    · rw [if_neg hz, sumAt_append, sumAt_append, sumAt_cons, sumAt_cons, sumAt_nil]; show _ = _ + (if e = x then m else 0); omega
theorem sumAt_jn (bs : List (Lad × Int)) (x : Lad) : sumAt (jn bs) x = sumAt bs x := by
  have key : ∀ (bs acc : List (Lad × Int)), sumAt (bs.foldl jstep acc) x = sumAt acc x + sumAt bs x := by
    intro bs
    induction bs with
    | nil => intro acc; show sumAt acc x = _; rw [sumAt_nil]; omega
    | cons p r ih =>
      intro acc
      obtain ⟨e, m⟩ := p
      show sumAt (r.foldl jstep (jstep acc (e, m))) x = _
      rw [ih, sumAt_jstep, sumAt_cons]
      show _ + (if e = x then m else 0) + _ = _
      omega
  have := key bs []
  rw [sumAt_nil] at this
  unfold jn
  omega
theorem sumAt_map (f : Int → Int) (hf : f 0 = 0) (hadd : ∀ a b, f (a + b) = f a + f b) : ∀ (bs : List (Lad × Int)) (x : Lad), sumAt (bs.map fun p => (p.1, f p.2)) x = f (sumAt bs x)
  | [], x => by show sumAt [] x = _; rw [sumAt_nil, hf]
  | (e, m) :: r, x => by
    show sumAt ((e, f m) :: r.map _) x = _
    rw [sumAt_cons, sumAt_cons, sumAt_map f hf hadd r x, hadd]
    by_cases h : e = x
    · rw [if_pos h, if_pos h]
    · rw [if_neg h, if_neg h, hf]
/-- the many at an exponent -/
abbrev S (l : Lad) (x : Lad) : Int := sumAt l.ps x
section
variable {B C : Int}
theorem S_top {e : Lad} {m : Int} {r : Lad} (h : (Lad.cons e m r).Ok B) : S (.cons e m r) e = m := by
  show sumAt ((e, m) :: r.ps) e = m
  rw [sumAt_cons, if_pos rfl, sumAt_zero fun p hp => lt_ne (h.2.2.2.2 p hp)]
  omega
theorem S_above {e : Lad} {m : Int} {r x : Lad} (h : (Lad.cons e m r).Ok B) (hx : e.lt x = true) : S (.cons e m r) x = 0 := by
  show sumAt ((e, m) :: r.ps) x = 0
  rw [sumAt_cons, if_neg (lt_ne hx), sumAt_zero fun p hp => lt_ne (lt_trans _ _ _ (h.2.2.2.2 p hp) hx)]
  rfl
theorem S_mem {l : Lad} (h : l.Ok B) {p : Lad × Int} (hp : p ∈ l.ps) : S l p.1 = p.2 := by
  induction l with
  | nil => cases hp
  | cons e m r _ ih =>
    rcases List.mem_cons.mp hp with hp | hp
    · subst hp; exact S_top h
    · show sumAt ((e, m) :: r.ps) p.1 = p.2
      rw [sumAt_cons, if_neg (fun z => lt_ne (h.2.2.2.2 p hp) z.symm)]
      have := ih h.2.2.2.1 hp
      show 0 + S r p.1 = _
      omega
theorem S_none {l x : Lad} (h : ∀ p ∈ l.ps, p.1 ≠ x) : S l x = 0 := sumAt_zero h
theorem S_cases {l : Lad} (h : l.Ok B) (x : Lad) : (S l x = 0 ∧ ∀ p ∈ l.ps, p.1 ≠ x) ∨ (∃ m, (x, m) ∈ l.ps ∧ S l x = m ∧ 1 ≤ m ∧ m < B) := by
  by_cases hx : ∃ p ∈ l.ps, p.1 = x
  · obtain ⟨p, hp, rfl⟩ := hx
    have := (ok_iff.mp h).1 p hp
    exact .inr ⟨p.2, hp, S_mem h hp, this.2⟩
  · have hx' : ∀ p ∈ l.ps, p.1 ≠ x := fun p hp z => hx ⟨p, hp, z⟩
    exact .inl ⟨S_none hx', hx'⟩
theorem S_nonneg {l : Lad} (h : l.Ok B) (x : Lad) : 0 ≤ S l x := by
  rcases S_cases h x with h1 | ⟨m, _, h1, h2, _⟩ <;> omega
/-- less by the first exponent, from above, at which they differ -/
def LT' (l k : Lad) : Prop := ∃ x, S l x < S k x ∧ ∀ y, x.lt y = true → S l y = S k y
theorem lt_of {l k : Lad} : ∀ (_ : l.Ok B) (_ : k.Ok C), l.lt k = true → LT' l k := by
  induction l generalizing k with
  | nil =>
    intro hl hk h
    cases k with
    | nil => rw [lt_nil_nil] at h; cases h
    | cons e m r =>
      refine ⟨e, ?_, fun y hy => ?_⟩
      · rw [S_top hk]; show sumAt [] e < m; rw [sumAt_nil]; have := hk.2.1; omega
      · rw [S_above hk hy]; rfl
  | cons e m r _ ih =>
    intro hl hk h
    cases k with
    | nil => rw [lt_cons_nil] at h; cases h
    | cons e' m' r' =>
      rw [lt_cons] at h
      by_cases he : e = e'
      · subst he
        rw [if_pos rfl] at h
        by_cases hm : m = m'
        · subst hm
          rw [if_pos rfl] at h
          obtain ⟨x, h1, h2⟩ := ih hl.2.2.2.1 hk.2.2.2.1 h
          refine ⟨x, ?_, fun y hy => ?_⟩
          · show sumAt ((e, m) :: r.ps) x < sumAt ((e, m) :: r'.ps) x
            rw [sumAt_cons, sumAt_cons]
            have : sumAt r.ps x < sumAt r'.ps x := h1
            omega
          · show sumAt ((e, m) :: r.ps) y = sumAt ((e, m) :: r'.ps) y
            rw [sumAt_cons, sumAt_cons]
            have : sumAt r.ps y = sumAt r'.ps y := h2 y hy
            omega
        · rw [if_neg hm] at h
          exact ⟨e, by rw [S_top hl, S_top hk]; exact of_decide_eq_true h, fun y hy => by rw [S_above hl hy, S_above hk hy]⟩
      · rw [if_neg he] at h
        refine ⟨e', ?_, fun y hy => ?_⟩
        · rw [S_above hl h, S_top hk]; have := hk.2.1; omega
        · rw [S_above hl (lt_trans _ _ _ h hy), S_above hk hy]
theorem LT'.asymm {l k : Lad} (h : LT' l k) (h2 : LT' k l) : False := by
  obtain ⟨x, a1, a2⟩ := h
  obtain ⟨y, b1, b2⟩ := h2
  by_cases e : x = y
  · subst e; omega
  · cases hxy : x.lt y with
    | true => have := a2 y hxy; omega
    | false => have := b2 x (lt_tri x y e hxy); omega
theorem lt_iff {l k : Lad} (hl : l.Ok B) (hk : k.Ok C) : l.lt k = true ↔ LT' l k := by
  constructor
  · exact lt_of hl hk
  · intro h
    cases e : l.lt k with
    | true => rfl
    | false =>
      by_cases hlk : l = k
      · subst hlk; obtain ⟨x, h1, _⟩ := h; omega
      · exact (LT'.asymm h (lt_of hk hl (lt_tri l k hlk e))).elim
theorem le_iff {l k : Lad} (hl : l.Ok B) (hk : k.Ok C) (h : ¬ LT' l k) : l.lt k = false := by
  cases e : l.lt k with
  | false => rfl
  | true => exact (h (lt_of hl hk e)).elim
/-- two right ladders with the same numbers are one -/
theorem ext {l k : Lad} (hl : l.Ok B) (hk : k.Ok C) (h : ∀ x, S l x = S k x) : l = k := by
  by_cases e : l = k
  · exact e
  · cases hlk : l.lt k with
    | true => obtain ⟨x, h1, _⟩ := lt_of hl hk hlk; have := h x; omega
    | false => obtain ⟨x, h1, _⟩ := lt_of hk hl (lt_tri l k e hlk); have := h x; omega
theorem jn_desc {bs : List (Lad × Int)} (h : bs.Pairwise (fun a b => a.1.lt b.1 = false)) : (jn bs).Pairwise (fun p q => q.1.lt p.1 = true) := by
  have key : ∀ (bs acc : List (Lad × Int)), acc.Pairwise (fun p q => q.1.lt p.1 = true) → (∀ a ∈ acc, ∀ b ∈ bs, a.1.lt b.1 = false) → bs.Pairwise (fun a b => a.1.lt b.1 = false) → (bs.foldl jstep acc).Pairwise (fun p q => q.1.lt p.1 = true) := by
    intro bs
    induction bs with
    | nil => intro acc h _ _; exact h
    | cons p r ih =>
      intro acc h1 h2 h3
      obtain ⟨h31, h32⟩ := List.pairwise_cons.mp h3
      refine ih (jstep acc p) ?_ ?_ h32
      · rcases List.eq_nil_or_concat acc with h | ⟨a, z, h⟩
        · subst h; rw [jstep_nil]; exact List.pairwise_singleton _ _
        · subst h
          rw [List.concat_eq_append] at h1 h2 ⊢
          rw [jstep_snoc]
          obtain ⟨a1, _, a3⟩ := List.pairwise_append.mp h1
          by_cases hz : z.1 = p.1
          · rw [if_pos hz, List.pairwise_append]
            refine ⟨a1, List.pairwise_singleton _ _, fun x hx y hy => ?_⟩
            have hy' : y = (p.1, z.2 + p.2) := by simpa using hy
            subst hy'
            show p.1.lt x.1 = true
            rw [← hz]; exact a3 x hx z (by simp)
          · rw [if_neg hz, List.pairwise_append]
            refine ⟨h1, List.pairwise_singleton _ _, fun x hx y hy => ?_⟩
            have hy' : y = p := by simpa using hy
            subst hy'
            have hzp : y.1.lt z.1 = true := lt_tri _ _ hz (h2 z (by simp) y (List.mem_cons_self ..))
            rcases List.mem_append.mp hx with hx | hx
            · exact lt_trans _ _ _ hzp (a3 x hx z (by simp))
            · have hx' : x = z := by simpa using hx
              subst hx'; exact hzp
      · intro a ha b hb
        have hpb := h31 b hb
        rcases List.eq_nil_or_concat acc with h | ⟨c, z, h⟩
        · subst h
          rw [jstep_nil] at ha
          have : a = p := by simpa using ha
          subst this; exact hpb
        · subst h
          rw [List.concat_eq_append] at ha h2
          rw [jstep_snoc] at ha
          by_cases hz : z.1 = p.1
          · rw [if_pos hz] at ha
            rcases List.mem_append.mp ha with ha | ha
            · exact h2 a (List.mem_append_left _ ha) b (List.mem_cons_of_mem _ hb)
            · have : a = (p.1, z.2 + p.2) := by simpa using ha
              subst this; exact hpb
          · rw [if_neg hz] at ha
            rcases List.mem_append.mp ha with ha | ha
            · exact h2 a ha b (List.mem_cons_of_mem _ hb)
            · have : a = p := by simpa using ha
              subst this; exact hpb
  exact key bs [] List.Pairwise.nil (by simp) h
theorem dsc_keys (bs : List (Lad × Int)) : (dsc bs).Pairwise (fun a b => a.1.lt b.1 = false) := by
  refine (dsc_le bs).imp fun {a b} hab => ?_
  rw [pLt] at hab
  by_cases h : a.1 = b.1
  · rw [h]; exact lt_irrefl _
  · rw [if_neg h] at hab; exact hab
theorem S_bth (l k x : Lad) : S (bth l k) x = S l x + S k x := by
  show sumAt (ofPs (jn (dsc (l.ps ++ k.ps)))).ps x = _
  rw [ps_ofPs, sumAt_jn, sumAt_perm (dsc_perm _), sumAt_append]
theorem ok_pos {l : Lad} (h : l.Ok B) (hB : 0 ≤ B) (x : Lad) : S l x ≤ B := by
  rcases S_cases h x with h1 | ⟨m, _, h1, h2, h3⟩ <;> omega
theorem bth_ok {l k : Lad} (hl : l.Ok B) (hk : k.Ok C) (hB : 1 ≤ B) (hC : 1 ≤ C) : (bth l k).Ok (B + C) := by
  have hd : (jn (dsc (l.ps ++ k.ps))).Pairwise (fun p q => q.1.lt p.1 = true) := jn_desc (dsc_keys _)
  show (ofPs (jn (dsc (l.ps ++ k.ps)))).Ok (B + C)
  rw [ok_ps]
  refine ⟨fun p hp => ?_, hd⟩
  have hs : sumAt (jn (dsc (l.ps ++ k.ps))) p.1 = p.2 := by
    have hnd : ∀ (bs : List (Lad × Int)), bs.Pairwise (fun p q => q.1.lt p.1 = true) → ∀ p ∈ bs, sumAt bs p.1 = p.2 := by
      intro bs
      induction bs with
      | nil => intro _ p hp; cases hp
      | cons q r ih =>
        intro hpw p hp
        obtain ⟨e, m⟩ := q
        obtain ⟨h1, h2⟩ := List.pairwise_cons.mp hpw
        rw [sumAt_cons]
        rcases List.mem_cons.mp hp with hp | hp
        · subst hp
          rw [if_pos rfl, sumAt_zero fun q hq => lt_ne (h1 q hq)]
          omega
        · rw [if_neg (fun z => lt_ne (h1 p hp) z.symm), ih h2 p hp]
          omega
    exact hnd _ hd p hp
  have hs2 : p.2 = S l p.1 + S k p.1 := by
    rw [← hs, sumAt_jn, sumAt_perm (dsc_perm _), sumAt_append]
  obtain ⟨q, hq, eq⟩ := jn_keys _ p hp
  have hq' := (dsc_perm _).mem_iff.mp hq
  have n1 := S_nonneg hl p.1
  have n2 := S_nonneg hk p.1
  have hlt : S l p.1 < B := by rcases S_cases hl p.1 with h1 | ⟨m, _, h1, h2, h3⟩ <;> omega
  have hkt : S k p.1 < C := by rcases S_cases hk p.1 with h1 | ⟨m, _, h1, h2, h3⟩ <;> omega
  have grow : ∀ (e : Lad), e.Ok B → e.Ok (B + C) := fun e h => h.mono (by omega)
  have grow2 : ∀ (e : Lad), e.Ok C → e.Ok (B + C) := fun e h => h.mono (by omega)
  rcases List.mem_append.mp hq' with hq2 | hq2
  · have o := (ok_iff.mp hl).1 q hq2
    have sm := S_mem hl hq2
    rw [eq] at sm o
    exact ⟨grow _ o.1, by omega, by omega⟩
  · have o := (ok_iff.mp hk).1 q hq2
    have sm := S_mem hk hq2
    rw [eq] at sm o
    exact ⟨grow2 _ o.1, by omega, by omega⟩
/-- no exponent is above x -/
def cov (k x : Lad) : Bool := k.ps.all fun p => !x.lt p.1
theorem cov_iff {k : Lad} (hk : k.Ok B) (x : Lad) : cov k x = true ↔ ∀ y, x.lt y = true → S k y = 0 := by
  unfold cov
  rw [List.all_eq_true]
  constructor
  · intro h y hy
    refine S_none fun p hp z => ?_
    have := h p hp
    rw [z, hy] at this
    cases this
  · intro h p hp
    cases e : x.lt p.1 with
    | false => rfl
    | true =>
      have h1 := h p.1 e
      rw [S_mem hk hp] at h1
      have := (ok_iff.mp hk).1 p hp
      omega
theorem S_bhd {l k : Lad} (hk : k.Ok B) (x : Lad) : S (bhd l k) x = (if cov k x = true then S l x else 0) + S k x := by
  cases k with
  | nil =>
    rw [bhd_nil]
    show S l x = (if cov .nil x = true then S l x else 0) + sumAt [] x
    rw [sumAt_nil, if_pos (show cov .nil x = true from rfl)]; omega
  | cons e m r =>
    have hcov : cov (.cons e m r) x = !x.lt e := by
      unfold cov
      show (!x.lt e && r.ps.all fun p => !x.lt p.1) = _
      cases h : x.lt e with
      | true => rfl
      | false =>
        have : r.ps.all (fun p => !x.lt p.1) = true := by
          rw [List.all_eq_true]
          intro p hp
          rw [le_trans (le_of_lt (hk.2.2.2.2 p hp)) h]; rfl
        rw [this]; rfl
    rw [bhd_cons]
    show sumAt (ofPs _).ps x = _
    rw [ps_ofPs, sumAt_append, sumAt_cons, hcov]
    show sumAt (l.ps.filter fun p => e.lt p.1) x + ((if e = x then sumAt l.ps e + m else 0) + sumAt r.ps x) = (if (!x.lt e) = true then sumAt l.ps x else 0) + sumAt ((e, m) :: r.ps) x
    rw [sumAt_cons]
    have hf : sumAt (l.ps.filter fun p => e.lt p.1) x = if e.lt x = true then sumAt l.ps x else 0 := by
      unfold sumAt
      rw [List.filter_filter]
      by_cases h : e.lt x = true
      · rw [if_pos h]
        congr 2
        refine List.filter_congr fun p hp => ?_
        by_cases hp2 : p.1 = x
        · simp [hp2, h]
        · simp [hp2]
      · rw [if_neg h]
        have : l.ps.filter (fun p => decide (p.1 = x) && e.lt p.1) = [] := by
          rw [List.filter_eq_nil_iff]
          intro p hp hc
          rw [Bool.and_eq_true] at hc
          have h1 : p.1 = x := of_decide_eq_true hc.1
          rw [h1] at hc
          exact h hc.2
        rw [this]; rfl
    rw [hf]
    by_cases hx : e = x
    · subst hx
      rw [lt_irrefl]
      simp
      omega
    · cases h1 : e.lt x with
      | true =>
        rw [lt_asymm h1]
        simp [hx]
      | false =>
        rw [lt_tri e x hx h1]
        simp [hx]
theorem bhd_ok {l k : Lad} (hl : l.Ok B) (hk : k.Ok C) (hB : 1 ≤ B) (hC : 1 ≤ C) : (bhd l k).Ok (B + C) := by
  cases k with
  | nil => rw [bhd_nil]; exact hl.mono (by omega)
  | cons e m r =>
    rw [bhd_cons, ok_ps]
    obtain ⟨h1, h2, h3, h4, h5⟩ := hk
    obtain ⟨a1, a2⟩ := ok_iff.mp hl
    obtain ⟨b1, b2⟩ := ok_iff.mp h4
    have n1 := S_nonneg hl e
    have hlt : S l e < B := by rcases S_cases hl e with g1 | ⟨m, _, g1, g2, g3⟩ <;> omega
    constructor
    · intro p hp
      rcases List.mem_append.mp hp with hp | hp
      · have := a1 p (List.mem_filter.mp hp).1
        exact ⟨this.1.mono (by omega), this.2.1, by omega⟩
      · rcases List.mem_cons.mp hp with hp | hp
        · subst hp
          exact ⟨h1.mono (by omega), by show 1 ≤ S l e + m; omega, by show S l e + m < B + C; omega⟩
        · have := b1 p hp
          exact ⟨this.1.mono (by omega), this.2.1, by omega⟩
    · rw [List.pairwise_append, List.pairwise_cons]
      refine ⟨a2.sublist List.filter_sublist, ⟨h5, b2⟩, fun a ha b hb => ?_⟩
      have ha' := (List.mem_filter.mp ha).2
      rcases List.mem_cons.mp hb with hb | hb
      · subst hb; exact ha'
      · exact lt_trans _ _ _ (h5 b hb) ha'
theorem bth_ge_bhd {a b : Lad} (ha : a.Ok B) (hb : b.Ok C) (hB : 1 ≤ B) (hC : 1 ≤ C) : (bth a b).lt (bhd a b) = false := by
  refine le_iff (bth_ok ha hb hB hC) (bhd_ok ha hb hB hC) ?_
  rintro ⟨x, h1, _⟩
  rw [S_bth, S_bhd hb] at h1
  have := S_nonneg ha x
  split at h1 <;> omega
theorem cov_same {b c : Lad} (hb : b.Ok B) (hc : c.Ok C) {x : Lad} (h : ∀ y, x.lt y = true → S b y = S c y) : cov b x = cov c x := by
  rw [Bool.eq_iff_iff, cov_iff hb, cov_iff hc]
  exact ⟨fun g y hy => by rw [← h y hy]; exact g y hy, fun g y hy => by rw [h y hy]; exact g y hy⟩
theorem bhd_mono {a b c : Lad} {D : Int} (ha : a.Ok B) (hb : b.Ok C) (hc : c.Ok D) (hB : 1 ≤ B) (hC : 1 ≤ C) (hD : 1 ≤ D) (h : b.lt c = true) : (bhd a b).lt (bhd a c) = true := by
  rw [lt_iff (bhd_ok ha hb hB hC) (bhd_ok ha hc hB hD)]
  obtain ⟨x, h1, h2⟩ := lt_of hb hc h
  refine ⟨x, ?_, fun y hy => ?_⟩
  · rw [S_bhd hb, S_bhd hc, cov_same hb hc h2]; omega
  · rw [S_bhd hb, S_bhd hc, cov_same hb hc (x := y) (fun z hz => h2 z (lt_trans _ _ _ hy hz)), h2 y hy]
theorem bth_mono {a b c : Lad} {D : Int} (ha : a.Ok B) (hb : b.Ok C) (hc : c.Ok D) (hB : 1 ≤ B) (hC : 1 ≤ C) (hD : 1 ≤ D) (h : b.lt c = true) : (bth a b).lt (bth a c) = true := by
  rw [lt_iff (bth_ok ha hb hB hC) (bth_ok ha hc hB hD)]
  obtain ⟨x, h1, h2⟩ := lt_of hb hc h
  exact ⟨x, by rw [S_bth, S_bth]; omega, fun y hy => by rw [S_bth, S_bth, h2 y hy]⟩
theorem bhd_first {a b c : Lad} {D : Int} (ha : a.Ok B) (hb : b.Ok C) (hc : c.Ok D) (hB : 1 ≤ B) (hC : 1 ≤ C) (hD : 1 ≤ D) (h : b.lt c = true) : (bhd c a).lt (bhd b a) = false := by
  refine le_iff (bhd_ok hc ha hD hB) (bhd_ok hb ha hC hB) ?_
  rintro ⟨y, h1, h2⟩
  rw [S_bhd ha, S_bhd ha] at h1
  have hcov : cov a y = true := by
    cases e : cov a y with
    | true => rfl
    | false => rw [e] at h1; simp at h1
  rw [hcov] at h1
  refine LT'.asymm (lt_of hb hc h) ⟨y, by simpa using h1, fun z hz => ?_⟩
  have h3 := h2 z hz
  have hz' : cov a z = true := by
    rw [cov_iff ha] at hcov ⊢
    exact fun u hu => hcov u (lt_trans _ _ _ hz hu)
  rw [S_bhd ha, S_bhd ha, if_pos hz', if_pos hz'] at h3
  omega
theorem S_tms (l : Lad) (m : Int) (x : Lad) : S (tms l m) x = S l x * m := by
  unfold tms
  by_cases h : m = 0
  · rw [if_pos h, h]; show sumAt [] x = _; rw [sumAt_nil, Int.mul_zero]
  · rw [if_neg h]
    show sumAt (ofPs _).ps x = _
    rw [ps_ofPs]
    exact sumAt_map (fun a => a * m) (Int.zero_mul m) (fun a b => Int.add_mul a b m) l.ps x
theorem tms_ok {l : Lad} {m : Int} (hl : l.Ok B) (hm : 0 ≤ m) : (tms l m).Ok (B * m + B) := by
  unfold tms
  by_cases h : m = 0
  · rw [if_pos h]; trivial
  · rw [if_neg h, ok_ps]
    obtain ⟨a1, a2⟩ := ok_iff.mp hl
    constructor
    · intro p hp
      obtain ⟨q, hq, rfl⟩ := List.mem_map.mp hp
      obtain ⟨g1, g2, g3⟩ := a1 q hq
      have hB : 0 ≤ B := by omega
      have b1 : q.2 * m ≤ B * m := Int.mul_le_mul_of_nonneg_right (by omega) hm
      have b2 : 1 * 1 ≤ q.2 * m := Int.mul_le_mul g2 (by omega) (by omega) (by omega)
      have b3 : 0 ≤ B * m := Int.mul_nonneg hB hm
      exact ⟨g1.mono (by omega), by show 1 ≤ q.2 * m; omega, by show q.2 * m < B * m + B; omega⟩
    · rw [List.pairwise_map]
      exact a2
end
end Lad
end FT
namespace FT
open PySem PySem.W PySem.Spec PyProof.Rows L2
namespace Lad
section
variable {B C : Int}
def rst : Lad → Lad → Lad
  | .nil, k => k
  | .cons _ _ _, .nil => .nil
  | .cons e m r, .cons e' m' r' => if e = e' then (if m = m' then rst r r' else .cons e (m' - m) r') else .cons e' m' r'
theorem rst_cons (e e' : Lad) (m m' : Int) (r r' : Lad) : rst (.cons e m r) (.cons e' m' r') = if e = e' then (if m = m' then rst r r' else .cons e (m' - m) r') else .cons e' m' r' := by rw [rst]
theorem nil_le (k : Lad) : k ≠ .nil → Lad.lt .nil k = true := by
  cases k with
  | nil => intro h; exact absurd rfl h
  | cons e m r => intro _; exact lt_nil_cons e m r
theorem bhd_ge {l k : Lad} (hl : l.Ok B) (hk : k.Ok C) (hB : 1 ≤ B) (hC : 1 ≤ C) : (bhd l k).lt l = false := by
  by_cases h : k = .nil
  · subst h; rw [bhd_nil]; exact lt_irrefl _
  · have := bhd_mono (a := l) (b := .nil) (c := k) (C := 1) hl trivial hk hB (by decide) hC (nil_le k h)
    rw [bhd_nil] at this
    exact lt_asymm this
theorem eqv_pEnc (p q : Lad × Int) : PyData.eqv (pEnc p) (pEnc q) = (decide (p.1 = q.1) && decide (p.2 = q.2)) := by
  simp [pEnc, PyData.eqv, PyData.eqvAll, Lad.eqv_enc, ib]
theorem shaped_pEnc {p : Lad × Int} (h : p.1.deep ≤ 29) : SeqAt.shaped (pEnc p) = true := by
  have h1 := pEnc_depth p
  have h2 := shaped_enc (l := p.1) (by omega)
  unfold SeqAt.shaped at h2 ⊢
  rw [Bool.and_eq_true] at h2 ⊢
  refine ⟨?_, by simp; omega⟩
  simp [pEnc, PyData.canLay0, PyData.canLayAll0, h2.1]
end
end Lad
/-- a class of errors of the program's own -/
structure Own (K : PySem.W.Frag) (mg : Str → Option Value) (x : Str) (C : Addr) : Prop where
  gC : mg x = some (.ref C)
  q : PySem.W.excIn K C He.veBase "ValueError.__new__" = true
  k : PySem.W.keepIn K (.ref C) = true
  s : PySem.W.subIn K (.ref C) (.type "BaseException") = some true
  t : PySem.W.typeIn K (.ref C) = some (.type "type")
end FT
namespace FT
open PySem PySem.W PySem.Spec PyProof.Rows L2
/-- as Got, for a def that may raise -/
structure GotX (P : Program) (w : World) (K : PySem.W.Frag) (mg : Str → Option Value) (base : Heap) (x : Str) (ps : List Str) (k : Nat) (sp : Sp) : Prop where
  ex : ∃ (f : Addr) (fd : FuncData), FnOk P w K mg base (L2.CX P w) k f fd ps sp ∧ PySem.W.keepIn K (.ref f) = true ∧ Binds K fd ps [] ∧ mg x = some (.ref f)
section
variable {X : Cx} {x : Str} {ps : List Str} {k : Nat} {sp : Sp} {e : Expr} {es : List Expr} {t : TA} {p pos : Pos}
theorem pe_gotX (G : GotX X.prog X.w X.K X.mg X.base x ps k sp) (hr : Room k X.A) (hg : Gl X x) (ha : PA X (e :: es) t) (hdb : (x == ("__debug__" : Str)) = false := by decide) (he : starEach (e :: es) X.env = (false, eval e X.env) :: starEach es X.env := by rfl) (hpl : (backTo pos (starEach es X.env)).any (·.1) = false := by rfl) :
    PE X (.Call (.Name x p) (e :: es) [] pos) (tCall sp [] E0 t) := by
  obtain ⟨f, fd, h1, h2, h3, h4⟩ := G.ex
  exact pe_call h1 hr hg h4 h2 h3 .nil passL ha hdb he hpl
theorem pe_gotS {W : WX} (G : GotX X.prog X.w X.K X.mg X.base x ps k sp) (hr : Room k X.A) (hg : Gl X x) (tk : Takes X W) (ha : PA X (e :: es) t) (hdb : (x == ("__debug__" : Str)) = false := by decide) (he : starEach (e :: es) X.env = (false, eval e X.env) :: starEach es X.env := by rfl) (hpl : (backTo pos (starEach es X.env)).any (·.1) = false := by rfl) :
    PE X (.Call (.Name x p) (e :: es) [] pos) (tCallS sp (WE W) t) := by
  obtain ⟨f, fd, h1, h2, h3, h4⟩ := G.ex
  exact pe_callS h1 hr hg h4 h2 h3 (fun σ => passAt tk σ) ha hdb he hpl
end
abbrev AlE : Type := He.AlD × Bool
def obsE (n : Nat) (fa : List He.Fa) (fn : List He.DefD) (ex : PySem.W.Frag → Bool) (g : Addr → Option Obj) : AlE := (He.obsD fa fn (He.frG g (He.asD g n)), ex (He.frG g (He.asD g n)))
def hookE (n : Nat) (fa : List He.Fa) (fn : List He.DefD) (ex : PySem.W.Frag → Bool) : PySem.W.Hook where
  α := AlE
  obs := fun s => obsE n fa fn ex s.heap.get?
  val := fun _ => (He.valD fn, true)
  says := fun _ h => ∃ K : PySem.W.Frag, K.In h ∧ He.SaysD fa fn K ∧ ex K = true
  of := fun _ _ e => ⟨_, He.frG_in, congrArg (fun z : AlE => z.1) e, congrArg (fun z : AlE => z.2) e⟩
  keeps := fun _ _ _ ⟨K, hK, c⟩ k => ⟨K, PySem.W.Frag.In.keeps hK k, c⟩
theorem obsE_eq {n : Nat} {fa : List He.Fa} {fn : List He.DefD} {ex : PySem.W.Frag → Bool} {g : Addr → Option Obj} {s : Shared} (h : ∀ a, g a = s.heap.get? a) : obsE n fa fn ex g = (hookE n fa fn ex).obs s := by
  have e : g = s.heap.get? := funext h
  rw [e] <;> rfl
end FT
namespace FT
open PySem PySem.W PySem.Spec PyProof.Rows L2
namespace Lad
/-- how many pairs two ladders begin with that are alike -/
def alh : Lad → Lad → Nat
  | .cons e m r, .cons e' m' r' => if e = e' ∧ m = m' then 1 + alh r r' else 0
  | _, _ => 0
theorem alh_cons (e e' : Lad) (m m' : Int) (r r' : Lad) : alh (.cons e m r) (.cons e' m' r') = if e = e' ∧ m = m' then 1 + alh r r' else 0 := by rw [alh]
theorem alh_nil_l (k : Lad) : alh .nil k = 0 := by cases k <;> rfl
theorem alh_nil_r (k : Lad) : alh k .nil = 0 := by cases k <;> rfl
theorem alh_drop {l o : Lad} {k : Nat} {p q : Lad × Int} (hp : l.ps[k]? = some p) (hq : o.ps[k]? = some q) : alh (ofPs (l.ps.drop k)) (ofPs (o.ps.drop k)) = if p.1 = q.1 ∧ p.2 = q.2 then 1 + alh (ofPs (l.ps.drop (k + 1))) (ofPs (o.ps.drop (k + 1))) else 0 := by
  have h1 : k < l.ps.length := (List.getElem?_eq_some_iff.mp hp).1
  have h2 : k < o.ps.length := (List.getElem?_eq_some_iff.mp hq).1
  have e1 : l.ps[k] = p := (List.getElem?_eq_some_iff.mp hp).2
  have e2 : o.ps[k] = q := (List.getElem?_eq_some_iff.mp hq).2
  rw [List.drop_eq_getElem_cons h1, List.drop_eq_getElem_cons h2, e1, e2]
  exact alh_cons _ _ _ _ _ _
theorem alh_end {l o : Lad} {k : Nat} (h : ¬ (k < l.ps.length ∧ k < o.ps.length)) : alh (ofPs (l.ps.drop k)) (ofPs (o.ps.drop k)) = 0 := by
  rcases Nat.lt_or_ge k l.ps.length with h1 | h1
  · rw [List.drop_eq_nil_of_le (show o.ps.length ≤ k by omega)]; exact alh_nil_r _
  · rw [List.drop_eq_nil_of_le h1]; exact alh_nil_l _
theorem alh_spec : ∀ l o : Lad, alh l o ≤ l.ps.length ∧ alh l o ≤ o.ps.length ∧ l.lt o = (ofPs (l.ps.drop (alh l o))).lt (ofPs (o.ps.drop (alh l o))) ∧ o.lt l = (ofPs (o.ps.drop (alh l o))).lt (ofPs (l.ps.drop (alh l o))) ∧ rst l o = rst (ofPs (l.ps.drop (alh l o))) (ofPs (o.ps.drop (alh l o))) ∧ (∀ p q, l.ps[alh l o]? = some p → o.ps[alh l o]? = some q → ¬ (p.1 = q.1 ∧ p.2 = q.2))
  | .nil, o => by
    rw [alh_nil_l]
    refine ⟨Nat.zero_le _, Nat.zero_le _, ?_, ?_, ?_, fun p q h => by simp [ps] at h⟩
    · rw [List.drop_zero, List.drop_zero, ofPs_ps, ofPs_ps]
    · rw [List.drop_zero, List.drop_zero, ofPs_ps, ofPs_ps]
    · rw [List.drop_zero, List.drop_zero, ofPs_ps, ofPs_ps]
  | .cons e m r, .nil => by
    rw [alh_nil_r]
    refine ⟨Nat.zero_le _, Nat.zero_le _, ?_, ?_, ?_, fun p q _ h => by simp [ps] at h⟩
    · rw [List.drop_zero, List.drop_zero, ofPs_ps, ofPs_ps]
    · rw [List.drop_zero, List.drop_zero, ofPs_ps, ofPs_ps]
    · rw [List.drop_zero, List.drop_zero, ofPs_ps, ofPs_ps]
  | .cons e m r, .cons e' m' r' => by
    rw [alh_cons]
    by_cases h : e = e' ∧ m = m'
    · rw [if_pos h]
      obtain ⟨rfl, rfl⟩ := h
      obtain ⟨h1, h2, h3, h4, h5, h6⟩ := alh_spec r r'
      have d1 : (Lad.cons e m r).ps.drop (1 + alh r r') = r.ps.drop (alh r r') := by rw [Nat.add_comm]; rfl
      have d2 : (Lad.cons e m r').ps.drop (1 + alh r r') = r'.ps.drop (alh r r') := by rw [Nat.add_comm]; rfl
      rw [d1, d2, ← h3, ← h4, ← h5]
      refine ⟨?_, ?_, ?_, ?_, ?_, ?_⟩
      · show _ ≤ r.ps.length + 1; omega
      · show _ ≤ r'.ps.length + 1; omega
      · rw [lt_cons, if_pos rfl, if_pos rfl]
      · rw [lt_cons, if_pos rfl, if_pos rfl]
      · rw [rst_cons, if_pos rfl, if_pos rfl]
      · rw [Nat.add_comm]; exact h6
    · rw [if_neg h]
      refine ⟨Nat.zero_le _, Nat.zero_le _, ?_, ?_, ?_, fun p q hp hq => ?_⟩
      · rw [List.drop_zero, List.drop_zero, ofPs_ps, ofPs_ps]
      · rw [List.drop_zero, List.drop_zero, ofPs_ps, ofPs_ps]
      · rw [List.drop_zero, List.drop_zero, ofPs_ps, ofPs_ps]
      · have e1 : (e, m) = p := Option.some.inj hp
        have e2 : (e', m') = q := Option.some.inj hq
        rw [← e1, ← e2]; exact h
/-- all of some ladders together -/
def bths (ls : List Lad) : Lad := ofPs (jn (dsc (ls.flatMap ps)))
end Lad
theorem Got.imp {P : Program} {w : World} {K : PySem.W.Frag} {mg : Str → Option Value} {base : Heap} {x : Str} {ps : List Str} {k : Nat} {sp sp' : Sp} (G : Got P w K mg base x ps k sp) (h : ∀ vs H Q E, sp' vs H Q E → sp vs H Q E) : Got P w K mg base x ps k sp' := by
  obtain ⟨f, fd, h1, h2⟩ := G.ex
  exact ⟨f, fd, h1.imp h, h2⟩
def spAhead (K : PySem.W.Frag) : Sp := fun vs H Q _ => ∃ (v u : V) (l k : Lad), vs = [v, u] ∧ LA K H v l ∧ LA K H u k ∧ l.deep ≤ 29 ∧ k.deep ≤ 29 ∧ l.parts ≤ 1000 ∧ k.parts ≤ 1000 ∧ Q (.int (Lad.alh l k : Nat)) H
end FT
namespace FT
open PySem PySem.W PySem.Spec PyProof.Rows L2
namespace Lad
section
variable {B C D : Int}
abbrev uno : Lad := .cons .nil 1 .nil
theorem uno_ok : uno.Ok 2 := ⟨trivial, by decide, by decide, trivial, by simp [ps]⟩
theorem S_uno (e x : Lad) : S (.cons e 1 .nil) x = if e = x then 1 else 0 := by
  show sumAt ((e, 1) :: []) x = _
  rw [sumAt_cons, sumAt_nil, Int.add_zero]
theorem S_suc (e x : Lad) : S (bhd e uno) x = S e x + if Lad.nil = x then 1 else 0 := by
  rw [S_bhd uno_ok, S_uno]
  have : cov uno x = true := by simp [cov, ps, lt_nil_r]
  rw [if_pos this]
theorem suc_lt {e : Lad} (he : e.Ok B) (hB : 1 ≤ B) : e.lt (bhd e uno) = true := by
  rw [lt_iff he (bhd_ok he uno_ok hB (by decide))]
  refine ⟨.nil, ?_, fun y hy => ?_⟩
  · rw [S_suc, if_pos rfl]; omega
  · rw [S_suc, if_neg (lt_ne hy), Int.add_zero]
theorem suc_least {e y : Lad} (he : e.Ok B) (hy : y.Ok C) (hB : 1 ≤ B) (h : e.lt y = true) : bhd e uno = y ∨ (bhd e uno).lt y = true := by
  have ho := bhd_ok he uno_ok hB (by decide)
  obtain ⟨x, hx, hup⟩ := (lt_iff he hy).mp h
  by_cases hn : x = .nil
  · subst hn
    have hz : ∀ z, Lad.nil ≠ z → S e z = S y z := fun z hz => hup z (nil_le z fun q => hz q.symm)
    by_cases hq : S e .nil + 1 = S y .nil
    · left
      refine ext ho hy fun z => ?_
      rw [S_suc]
      by_cases z0 : Lad.nil = z
      · subst z0; rw [if_pos rfl]; exact hq
      · rw [if_neg z0, Int.add_zero]; exact hz z z0
    · right
      rw [lt_iff ho hy]
      refine ⟨.nil, ?_, fun z hz' => ?_⟩
      · rw [S_suc, if_pos rfl]; omega
      · rw [S_suc, if_neg (lt_ne hz'), Int.add_zero]; exact hz z (lt_ne hz')
  · right
    rw [lt_iff ho hy]
    refine ⟨x, ?_, fun z hz => ?_⟩
    · rw [S_suc, if_neg (fun h => hn h.symm), Int.add_zero]; exact hx
    · have : Lad.nil ≠ z := fun h => by subst h; rw [lt_nil_r] at hz; cases hz
      rw [S_suc, if_neg this, Int.add_zero]; exact hup z hz
theorem sumAt_filter (e x : Lad) : ∀ bs : List (Lad × Int), sumAt (bs.filter fun p => e.lt p.1) x = if e.lt x = true then sumAt bs x else 0
  | [] => by simp [sumAt_nil]
  | (a, m) :: r => by
    have ih := sumAt_filter e x r
    rw [List.filter_cons]
    by_cases h : e.lt a = true
    · rw [if_pos h, sumAt_cons, sumAt_cons, ih]
      by_cases hx : e.lt x = true
      · rw [if_pos hx, if_pos hx]
      · have : a ≠ x := fun z => hx (z ▸ h)
        rw [if_neg hx, if_neg hx, if_neg this]; rfl
    · rw [if_neg h, ih, sumAt_cons]
      by_cases hx : e.lt x = true
      · have : a ≠ x := fun z => h (z ▸ hx)
        rw [if_pos hx, if_pos hx, if_neg this, Int.zero_add]
      · rw [if_neg hx, if_neg hx]
theorem filter_ok {l : Lad} (h : l.Ok B) (g : Lad × Int → Bool) : (ofPs (l.ps.filter g)).Ok B := by
  have := ok_iff.mp h
  rw [ok_ps]
  exact ⟨fun p hp => this.1 p (List.mem_filter.mp hp).1, this.2.filter _⟩
theorem filter_parts (l : Lad) (g : Lad × Int → Bool) : (ofPs (l.ps.filter g)).parts ≤ l.parts := by
  have h := tot_filter g l.ps
  rw [parts_ofPs]
  have h2 : tot l.ps = l.parts := by rw [← parts_ofPs, ofPs_ps]
  omega
theorem filter_deep {n : Nat} {l : Lad} (g : Lad × Int → Bool) (h : l.deep ≤ n) : (ofPs (l.ps.filter g)).deep ≤ n :=
  deep_ofPs fun b hb => Nat.lt_of_lt_of_le (mem_deep l b (List.mem_filter.mp hb).1) h
def abv (l : Lad) : Lad → Lad
  | .nil => bth l uno
  | .cons e _ _ => bth (ofPs (l.ps.filter fun p => e.lt p.1)) (.cons (bhd e uno) 1 .nil)
theorem pow_ok {e : Lad} (h : e.Ok B) (hB : 2 ≤ B) : (Lad.cons e 1 .nil).Ok B := ⟨h, by decide, by omega, trivial, by simp [ps]⟩
theorem abv_ok {l k : Lad} (hl : l.Ok B) (hk : k.Ok C) (hB : 1 ≤ B) (hC : 1 ≤ C) : (abv l k).Ok (B + (C + 2)) := by
  cases k with
  | nil => exact (bth_ok hl uno_ok hB (by decide)).mono (by omega)
  | cons e m r => exact bth_ok (filter_ok hl _) (pow_ok (bhd_ok hk.1 uno_ok hC (by decide)) (by omega)) hB (by omega)
theorem abv_parts (l k : Lad) : (abv l k).parts ≤ l.parts + k.parts + 2 := by
  cases k with
  | nil => have := bth_parts l uno; show (bth l uno).parts ≤ _; have h1 : uno.parts = 1 := rfl; omega
  | cons e m r =>
    have h1 := bth_parts (ofPs (l.ps.filter fun p => e.lt p.1)) (.cons (bhd e uno) 1 .nil)
    have h2 := filter_parts l fun p => e.lt p.1
    have h3 := bhd_parts e uno
    have h4 : (Lad.cons (bhd e uno) 1 .nil).parts = 1 + (bhd e uno).parts + 0 := rfl
    have h5 : (Lad.cons e m r).parts = 1 + e.parts + r.parts := rfl
    have h6 : uno.parts = 1 := rfl
    show (bth _ _).parts ≤ _
    omega
theorem abv_deep {n : Nat} {l k : Lad} (hl : l.deep ≤ n) (hk : k.deep ≤ n) (hn : 2 ≤ n) : (abv l k).deep ≤ n := by
  cases k with
  | nil => exact bth_deep hl (by show 1 ≤ n; omega)
  | cons e m r =>
    refine bth_deep (filter_deep _ hl) ?_
    have h1 : 1 + e.deep ≤ n := Nat.le_trans (Nat.le_max_left _ _) hk
    have h2 := bhd_deep (n := n - 1) (l := e) (k := uno) (by omega) (by show 1 ≤ n - 1; omega)
    show max (1 + (bhd e uno).deep) 0 ≤ n
    omega
theorem S_abv (l e : Lad) (m : Int) (r x : Lad) : S (abv l (.cons e m r)) x = (if e.lt x = true then S l x else 0) + if bhd e uno = x then 1 else 0 := by
  show S (bth _ _) x = _
  rw [S_bth, S_uno]
  show sumAt (ofPs _).ps x + _ = _
  rw [ps_ofPs, sumAt_filter]
theorem btm_ok {l k : Lad} {n : Int} (hl : l.Ok B) (hk : k.Ok C) (hB : 1 ≤ B) (hC : 1 ≤ C) (hn : 0 ≤ n) : (bth l (tms k n)).Ok (B + (C * n + C)) := by
  have : 0 ≤ C * n := Int.mul_nonneg (by omega) hn
  exact bth_ok hl (tms_ok hk hn) hB (by omega)
theorem S_btm (l k x : Lad) (n : Int) : S (bth l (tms k n)) x = S l x + S k x * n := by rw [S_bth, S_tms]
theorem abv_gt {l k : Lad} {n : Int} (hl : l.Ok B) (hk : k.Ok C) (hB : 1 ≤ B) (hC : 1 ≤ C) (hn : 0 ≤ n) : (bth l (tms k n)).lt (abv l k) = true := by
  rw [lt_iff (btm_ok hl hk hB hC hn) (abv_ok hl hk hB hC)]
  cases k with
  | nil =>
    have e0 : ∀ x, S Lad.nil x = 0 := fun x => rfl
    refine ⟨.nil, ?_, fun y hy => ?_⟩
    · rw [S_btm]
      show _ < S (bth l uno) .nil
      rw [S_bth, S_uno, if_pos rfl, e0, Int.zero_mul]; omega
    · rw [S_btm]
      show _ = S (bth l uno) y
      rw [S_bth, S_uno, if_neg (lt_ne hy), e0, Int.zero_mul]
  | cons e m r =>
    have hes := suc_lt hk.1 hC
    refine ⟨bhd e uno, ?_, fun y hy => ?_⟩
    · rw [S_btm, S_abv, if_pos hes, if_pos rfl, S_above hk hes, Int.zero_mul]; omega
    · have hy2 := lt_trans _ _ _ hes hy
      rw [S_btm, S_abv, if_pos hy2, if_neg (lt_ne hy), S_above hk hy2, Int.zero_mul]
/-- so many are enough to reach a lesser ladder -/
def eno : Lad → Lad → Int
  | .nil, _ => 0
  | .cons e _ _, t => 1 + S t e
theorem eno_nonneg {k t : Lad} (ht : t.Ok D) : 0 ≤ eno k t := by
  cases k with
  | nil => exact Int.le_refl _
  | cons e m r => have := S_nonneg ht e; show 0 ≤ 1 + S t e; omega
theorem abv_least {l k t : Lad} (hl : l.Ok B) (hk : k.Ok C) (ht : t.Ok D) (hB : 1 ≤ B) (hC : 1 ≤ C) (h : t.lt (abv l k) = true) : (bth l (tms k (eno k t))).lt t = false := by
  cases k with
  | nil =>
    rw [show eno .nil t = 0 from rfl, show tms .nil 0 = .nil from if_pos rfl, bth_nil hl]
    cases hlt : l.lt t with
    | false => rfl
    | true =>
      exfalso
      have e : abv l .nil = bhd l uno := ext (bth_ok hl uno_ok hB (by decide)) (bhd_ok hl uno_ok hB (by decide)) fun x => by
        show S (bth l uno) x = _
        rw [S_bth, S_suc, S_uno]
      rw [e] at h
      rcases suc_least hl ht hB hlt with h1 | h1
      · rw [h1, lt_irrefl] at h; cases h
      · rw [lt_asymm h1] at h; cases h
  | cons e m r =>
    have he : e.Ok C := hk.1
    have hN := eno_nonneg (k := .cons e m r) ht
    have hU := btm_ok (n := eno (.cons e m r) t) hl hk hB hC hN
    have hes : e.lt (bhd e uno) = true := suc_lt he hC
    have Ua : ∀ y, e.lt y = true → S (bth l (tms (.cons e m r) (eno (.cons e m r) t))) y = S l y := fun y hy => by
      rw [S_btm, S_above hk hy, Int.zero_mul, Int.add_zero]
    refine le_iff hU ht fun hlt => ?_
    obtain ⟨x, hx, hup⟩ := (lt_iff ht (abv_ok hl hk hB hC)).mp h
    have up2 : ∀ y, (x = y ∨ x.lt y = true) → (bhd e uno).lt y = true → x.lt y = true → S t y = S (bth l (tms (.cons e m r) (eno (.cons e m r) t))) y := fun y _ hsy hxy => by
      have h2 := lt_trans _ _ _ hes hsy
      rw [hup y hxy, S_abv, if_pos h2, if_neg (lt_ne hsy), Int.add_zero, Ua y h2]
    by_cases hxs : bhd e uno = x
    · subst hxs
      rw [S_abv, if_pos hes, if_pos rfl] at hx
      by_cases hq : S t (bhd e uno) < S l (bhd e uno)
      · exact LT'.asymm hlt ⟨bhd e uno, by rw [Ua _ hes]; exact hq, fun y hy => up2 y (.inr hy) hy hy⟩
      · refine LT'.asymm hlt ⟨e, ?_, fun y hy => ?_⟩
        · rw [S_btm, S_top hk]
          have h1 := S_nonneg hl e
          have h2 := S_nonneg ht e
          have h3 := hk.2.1
          show S t e < S l e + m * (1 + S t e)
          have h4 : 1 * (1 + S t e) ≤ m * (1 + S t e) := Int.mul_le_mul_of_nonneg_right h3 (by omega)
          omega
        · by_cases hys : bhd e uno = y
          · subst hys
            rw [Ua _ hes]; omega
          · have okc : (∃ E, y.Ok E) → S t y = S (bth l (tms (.cons e m r) (eno (.cons e m r) t))) y := fun ⟨E, hyo⟩ => by
              rcases suc_least he hyo hC hy with h1 | h1
              · exact absurd h1 hys
              · exact up2 y (.inr h1) h1 h1
            rcases S_cases ht y with ⟨z, _⟩ | ⟨mm, hm, _⟩
            · rcases S_cases hl y with ⟨z2, _⟩ | ⟨mm, hm, _⟩
              · rw [Ua y hy, z, z2]
              · exact okc ⟨_, ((ok_iff.mp hl).1 _ hm).1⟩
            · exact okc ⟨_, ((ok_iff.mp ht).1 _ hm).1⟩
    · by_cases hsx : (bhd e uno).lt x = true
      · have hex := lt_trans _ _ _ hes hsx
        rw [S_abv, if_pos hex, if_neg hxs, Int.add_zero] at hx
        exact LT'.asymm hlt ⟨x, by rw [Ua x hex]; exact hx, fun y hy => up2 y (.inr hy) (lt_trans _ _ _ hsx hy) hy⟩
      · have hx0 := S_nonneg ht x
        rw [S_abv, if_neg hxs, Int.add_zero] at hx
        by_cases hex : e.lt x = true
        · rw [if_pos hex] at hx
          rcases S_cases hl x with ⟨z, _⟩ | ⟨mm, hm, _⟩
          · omega
          · rcases suc_least he ((ok_iff.mp hl).1 _ hm).1 hC hex with h1 | h1
            · exact hxs h1
            · exact hsx h1
        · rw [if_neg hex] at hx; omega
def spd : Lad → Lad → Lad
  | .cons e m r, .nil => .cons e m r
  | .nil, .nil => .nil
  | .nil, k => k
  | .cons e _ _, k => .cons (bhd e k) 1 .nil
end
end Lad
end FT
namespace FT
open PySem PySem.W PySem.Spec PyProof.Rows L2
theorem dl_irrefl (x : PyData) : dataLt x x = false := lex_irrefl (O := itemOrd) _
theorem dl_trans {x y z : PyData} (h : dataLt x y = true) (h2 : dataLt y z = true) : dataLt x z = true := lex_trans (O := itemOrd) _ _ _ h h2
theorem dl_total {x y : PyData} (al : alike x y = true) (h : dataLt x y = false) (h2 : dataLt y x = false) : PyData.eqv x y = true := by
  have e : keyToks x = keyToks y := lex_total (O := itemOrd) _ _ h h2
  cases hq : PyData.eqv x y with
  | true => rfl
  | false =>
    have t := (toks_eqv x y al).2 hq [.inl 0] [.inl 1]
    rw [e] at t
    have t2 : PyProof.Rows.lexLt itemOrd (keyToks y ++ [.inl 0]) (keyToks y ++ [.inl 1]) = PyProof.Rows.lexLt itemOrd [.inl 0] [.inl 1] := lex_pre _ _ _
    have t3 : PyProof.Rows.lexLt itemOrd (keyToks y) (keyToks y) = false := lex_irrefl (O := itemOrd) _
    rw [t2, t3, lex_one] at t
    revert t
    decide
theorem dl_asymm {x y : PyData} (h : dataLt x y = true) : dataLt y x = false := by
  cases e : dataLt y x with
  | false => rfl
  | true => have := dl_trans h e; rw [dl_irrefl] at this; cases this
/-- things whose data are alike and like only where they are the same -/
class Orderly {γ : Type} [DecidableEq γ] (enc : γ → PyData) : Prop where
  al : ∀ a b, alike (enc a) (enc b) = true
  eq : ∀ a b, PyData.eqv (enc a) (enc b) = decide (a = b)
section
variable {γ : Type} [DecidableEq γ] {enc : γ → PyData} [O : Orderly enc]
theorem ol_tri {a b : γ} (hne : a ≠ b) (h : dataLt (enc a) (enc b) = false) : dataLt (enc b) (enc a) = true := by
  cases e : dataLt (enc b) (enc a) with
  | true => rfl
  | false =>
    have := dl_total (O.al a b) h e
    rw [O.eq] at this
    exact absurd (of_decide_eq_true this) hne
theorem ol_ne {a b : γ} (h : dataLt (enc a) (enc b) = true) : a ≠ b := fun z => by subst z; rw [dl_irrefl] at h; cases h
instance : Orderly (pairE enc) where
  al a b := by simp [pairE, alike, alikeAll, O.al a.1 b.1]
  eq a b := by
    simp only [pairE, PyData.eqv, PyData.eqvAll, O.eq, Bool.and_true, ib]
    by_cases h : a = b
    · subst h; simp
    · rw [decide_eq_false h]
      rw [Bool.and_eq_false_iff]
      by_cases h1 : a.1 = b.1
      · exact .inr (decide_eq_false fun h2 => h (Prod.ext h1 h2))
      · exact .inl (decide_eq_false h1)
theorem pairE_lt (p q : γ × Int) : dataLt (pairE enc p) (pairE enc q) = if p.1 = q.1 then decide (p.2 < q.2) else dataLt (enc p.1) (enc q.1) := by
  unfold pairE
  rw [dataLt_pair (O.al p.1 q.1) (by simp [alike]), O.eq]
  by_cases h : p.1 = q.1
  · rw [if_pos (by simp [h]), if_pos h, dataLt_int]
    by_cases h2 : p.2 = q.2
    · simp [PyData.eqv, h2]
    · simp [PyData.eqv, h2]
  · rw [if_neg (by simp [h]), if_neg h]
/-- in order -/
def srtE (enc : γ → PyData) (bs : List γ) : List γ := bs.mergeSort (dataLe false enc)
theorem srtE_perm (bs : List γ) : (srtE enc bs).Perm bs := List.mergeSort_perm _ _
theorem srtE_le (bs : List γ) : (srtE enc bs).Pairwise (fun a b => dataLt (enc b) (enc a) = false) := by
  have h := List.pairwise_mergeSort (le := dataLe false enc) (fun a b c h1 h2 => ?_) (fun a b => ?_) bs
  · refine h.imp fun {a b} hab => ?_
    rw [dataLe_eq] at hab
    simpa using hab
  · rw [dataLe_eq] at h1 h2 ⊢
    simp only [cond_false, Bool.not_eq_true'] at h1 h2 ⊢
    by_cases hab : a = b
    · subst hab; exact h2
    · by_cases hbc : b = c
      · subst hbc; exact h1
      · exact dl_asymm (dl_trans (ol_tri (fun z => hab z.symm) h1) (ol_tri (fun z => hbc z.symm) h2))
  · rw [dataLe_eq]
    simp only [cond_false]
    cases e : dataLt (enc b) (enc a) with
    | false => rfl
    | true => rw [dl_asymm e]; rfl
/-- how many of a thing -/
def sumE (ps : List (γ × Int)) (x : γ) : Int := match ps with
  | [] => 0
  | p :: r => (if p.1 = x then p.2 else 0) + sumE r x
theorem sumE_append (x : γ) : ∀ (as bs : List (γ × Int)), sumE (as ++ bs) x = sumE as x + sumE bs x
  | [], bs => by simp [sumE]
  | p :: r, bs => by show _ + sumE (r ++ bs) x = _; rw [sumE_append x r bs, sumE]; omega
theorem sumE_perm {as bs : List (γ × Int)} (h : as.Perm bs) (x : γ) : sumE as x = sumE bs x := by
  induction h with
  | nil => rfl
  | cons y _ ih => simp only [sumE]; omega
  | swap y z l => simp only [sumE]; omega
  | trans _ _ h1 h2 => omega
theorem sumE_jstep (acc : List (γ × Int)) (p : γ × Int) (x : γ) : sumE (jstep acc p) x = sumE acc x + (if p.1 = x then p.2 else 0) := by
  rcases List.eq_nil_or_concat acc with h | ⟨a, z, h⟩
  · subst h; rw [jstep_nil]; simp [sumE]
  · subst h
    rw [List.concat_eq_append, jstep_snoc]
    by_cases hz : z.1 = p.1
    · rw [if_pos hz, sumE_append, sumE_append]
      simp only [sumE, hz]
      by_cases hx : p.1 = x
      · simp only [if_pos hx]; omega
      · simp only [if_neg hx]; omega
    · rw [if_neg hz, sumE_append]; simp only [sumE]; omega
theorem sumE_jn (bs : List (γ × Int)) (x : γ) : sumE (jn bs) x = sumE bs x := by
  have key : ∀ (bs acc : List (γ × Int)), sumE (bs.foldl jstep acc) x = sumE acc x + sumE bs x := by
    intro bs
    induction bs with
    | nil => intro acc; simp [sumE]
    | cons p r ih =>
      intro acc
      show sumE (r.foldl jstep (jstep acc p)) x = _
      rw [ih, sumE_jstep, sumE]; omega
  have := key bs []
  simpa [jn, sumE] using this
/-- keys that do not fall rise strictly when like ones are put together -/
theorem jn_rise {bs : List (γ × Int)} (h : bs.Pairwise (fun a b => dataLt (enc b.1) (enc a.1) = false)) : (jn bs).Pairwise (fun p q => dataLt (enc p.1) (enc q.1) = true) := by
  have key : ∀ (bs acc : List (γ × Int)), acc.Pairwise (fun p q => dataLt (enc p.1) (enc q.1) = true) → (∀ a ∈ acc, ∀ b ∈ bs, dataLt (enc b.1) (enc a.1) = false) → bs.Pairwise (fun a b => dataLt (enc b.1) (enc a.1) = false) → (bs.foldl jstep acc).Pairwise (fun p q => dataLt (enc p.1) (enc q.1) = true) := by
    intro bs
    induction bs with
    | nil => intro acc h _ _; exact h
    | cons p r ih =>
      intro acc h1 h2 h3
      obtain ⟨h31, h32⟩ := List.pairwise_cons.mp h3
      refine ih (jstep acc p) ?_ ?_ h32
      · rcases List.eq_nil_or_concat acc with h | ⟨a, z, h⟩
        · subst h; rw [jstep_nil]; exact List.pairwise_singleton _ _
        · subst h
          rw [List.concat_eq_append] at h1 h2 ⊢
          rw [jstep_snoc]
          obtain ⟨a1, _, a3⟩ := List.pairwise_append.mp h1
          by_cases hz : z.1 = p.1
          · rw [if_pos hz, List.pairwise_append]
            refine ⟨a1, List.pairwise_singleton _ _, fun x hx y hy => ?_⟩
            have hy' : y = (p.1, z.2 + p.2) := by simpa using hy
            subst hy'
            show dataLt (enc x.1) (enc p.1) = true
            rw [← hz]; exact a3 x hx z (by simp)
          · rw [if_neg hz, List.pairwise_append]
            refine ⟨h1, List.pairwise_singleton _ _, fun x hx y hy => ?_⟩
            have hy' : y = p := by simpa using hy
            subst hy'
            have hzp : dataLt (enc z.1) (enc y.1) = true := ol_tri (fun q => hz q.symm) (h2 z (by simp) y (List.mem_cons_self ..))
            rcases List.mem_append.mp hx with hx | hx
            · exact dl_trans (a3 x hx z (by simp)) hzp
            · have hx' : x = z := by simpa using hx
              subst hx'; exact hzp
      · intro a ha b hb
        have hpb := h31 b hb
        rcases List.eq_nil_or_concat acc with h | ⟨c, z, h⟩
        · subst h
          rw [jstep_nil] at ha
          have : a = p := by simpa using ha
          subst this; exact hpb
        · subst h
          rw [List.concat_eq_append] at ha h2
          rw [jstep_snoc] at ha
          by_cases hz : z.1 = p.1
          · rw [if_pos hz] at ha
            rcases List.mem_append.mp ha with ha | ha
            · exact h2 a (List.mem_append_left _ ha) b (List.mem_cons_of_mem _ hb)
            · have : a = (p.1, z.2 + p.2) := by simpa using ha
              subst this; exact hpb
          · rw [if_neg hz] at ha
            rcases List.mem_append.mp ha with ha | ha
            · exact h2 a ha b (List.mem_cons_of_mem _ hb)
            · have : a = p := by simpa using ha
              subst this; exact hpb
  exact key bs [] List.Pairwise.nil (by simp) h
theorem srt_keys (bs : List (γ × Int)) : (srtE (pairE enc) bs).Pairwise (fun a b => dataLt (enc b.1) (enc a.1) = false) := by
  refine (srtE_le (enc := pairE enc) bs).imp fun {a b} hab => ?_
  rw [pairE_lt] at hab
  by_cases h : b.1 = a.1
  · rw [h]; exact dl_irrefl _
  · rw [if_neg h] at hab; exact hab
/-- put in order, like ones together -/
def tdy (enc : γ → PyData) (bs : List (γ × Int)) : List (γ × Int) := jn (srtE (pairE enc) bs)
theorem tdy_rise (bs : List (γ × Int)) : (tdy enc bs).Pairwise (fun p q => dataLt (enc p.1) (enc q.1) = true) := jn_rise (srt_keys bs)
theorem tdy_sum (bs : List (γ × Int)) (x : γ) : sumE (tdy enc bs) x = sumE bs x := by
  unfold tdy
  rw [sumE_jn, sumE_perm (srtE_perm bs)]
theorem tdy_keys (bs : List (γ × Int)) : ∀ p ∈ tdy enc bs, ∃ q ∈ bs, q.1 = p.1 := fun p hp => by
  obtain ⟨q, hq, e⟩ := jn_keys _ p hp
  exact ⟨q, (srtE_perm bs).mem_iff.mp hq, e⟩
/-- how many in all -/
def allE : List (γ × Int) → Int
  | [] => 0
  | p :: r => p.2 + allE r
theorem allE_append : ∀ as bs : List (γ × Int), allE (as ++ bs) = allE as + allE bs
  | [], bs => by simp [allE]
  | p :: r, bs => by show _ + allE (r ++ bs) = _; rw [allE_append r bs, allE]; omega
theorem allE_perm {as bs : List (γ × Int)} (h : as.Perm bs) : allE as = allE bs := by
  induction h with
  | nil => rfl
  | cons y _ ih => simp only [allE]; omega
  | swap y z l => simp only [allE]; omega
  | trans _ _ h1 h2 => omega
theorem jn_all (bs : List (γ × Int)) : allE (jn bs) = allE bs := by
  have key : ∀ (bs acc : List (γ × Int)), allE (bs.foldl jstep acc) = allE acc + allE bs := by
    intro bs
    induction bs with
    | nil => intro acc; simp [allE]
    | cons p r ih =>
      intro acc
      show allE (r.foldl jstep (jstep acc p)) = _
      rw [ih]
      have e : allE (jstep acc p) = allE acc + p.2 := by
        rcases List.eq_nil_or_concat acc with h | ⟨a, z, h⟩
        · subst h; rw [jstep_nil]; simp [allE]
        · subst h
          rw [List.concat_eq_append, jstep_snoc]
          split
          · rw [allE_append, allE_append]; simp only [allE]; omega
          · rw [allE_append]; simp only [allE]; omega
      rw [e, allE]; omega
  have := key bs []
  simpa [jn, allE] using this
theorem jn_pos {bs : List (γ × Int)} (h : ∀ p ∈ bs, 1 ≤ p.2) : ∀ p ∈ jn bs, 1 ≤ p.2 := by
  have key : ∀ (bs acc : List (γ × Int)), (∀ p ∈ acc, 1 ≤ p.2) → (∀ p ∈ bs, 1 ≤ p.2) → ∀ p ∈ bs.foldl jstep acc, 1 ≤ p.2 := by
    intro bs
    induction bs with
    | nil => intro acc h _; exact h
    | cons p r ih =>
      intro acc h1 h2
      refine ih (jstep acc p) (fun q hq => ?_) fun q hq => h2 q (List.mem_cons_of_mem _ hq)
      have hp := h2 p (List.mem_cons_self ..)
      rcases List.eq_nil_or_concat acc with h | ⟨a, z, h⟩
      · subst h
        rw [jstep_nil] at hq
        have : q = p := by simpa using hq
        subst this; exact hp
      · subst h
        rw [List.concat_eq_append] at h1 hq
        rw [jstep_snoc] at hq
        have hz := h1 z (by simp)
        by_cases e : z.1 = p.1
        · rw [if_pos e] at hq
          rcases List.mem_append.mp hq with hq | hq
          · exact h1 q (List.mem_append_left _ hq)
          · have : q = (p.1, z.2 + p.2) := by simpa using hq
            subst this; show 1 ≤ z.2 + p.2; omega
        · rw [if_neg e] at hq
          rcases List.mem_append.mp hq with hq | hq
          · exact h1 q hq
          · have : q = p := by simpa using hq
            subst this; exact hp
  exact key bs [] (by simp) h
theorem le_all {bs : List (γ × Int)} (h : ∀ p ∈ bs, 1 ≤ p.2) : ∀ p ∈ bs, p.2 ≤ allE bs := by
  induction bs with
  | nil => intro p hp; cases hp
  | cons a r ih =>
    intro p hp
    have hr : 0 ≤ allE r := by
      clear ih hp
      have : ∀ p ∈ r, 1 ≤ p.2 := fun p hp => h p (List.mem_cons_of_mem _ hp)
      clear h
      induction r with
      | nil => exact Int.le_refl _
      | cons b r ih2 =>
        have h1 := this b (List.mem_cons_self ..)
        have h2 := ih2 fun p hp => this p (List.mem_cons_of_mem _ hp)
        show 0 ≤ b.2 + allE r; omega
    have ha := h a (List.mem_cons_self ..)
    rcases List.mem_cons.mp hp with hp | hp
    · subst hp; show p.2 ≤ p.2 + allE r; omega
    · have := ih (fun p hp => h p (List.mem_cons_of_mem _ hp)) p hp
      show p.2 ≤ a.2 + allE r; omega
theorem tdy_pos {bs : List (γ × Int)} (h : ∀ p ∈ bs, 1 ≤ p.2) : ∀ p ∈ tdy enc bs, 1 ≤ p.2 ∧ p.2 ≤ allE bs := fun p hp => by
  have h0 : ∀ p ∈ srtE (pairE enc) bs, 1 ≤ p.2 := fun p hp => h p ((srtE_perm bs).mem_iff.mp hp)
  have h1 := jn_pos h0
  refine ⟨h1 p hp, ?_⟩
  have h2 := le_all h1 p hp
  rw [jn_all, allE_perm (srtE_perm bs)] at h2
  exact h2
end
end FT
namespace FT
open PySem PySem.W PySem.Spec PyProof.Rows L2
inductive Gr where
  | nil
  | cons (k : Str) (g : Gr) (m : Int) (r : Gr)
  deriving DecidableEq
abbrev Tr := Str × Gr
/-- a name: one to eight small letters -/
def NameOk (k : Str) : Prop := 1 ≤ k.cps.toList.length ∧ k.cps.toList.length ≤ 8 ∧ ∀ c ∈ k.cps.toList, 97 ≤ c ∧ c ≤ 122
namespace Gr
def encs : Gr → List PyData
  | .nil => []
  | .cons k g m r => .tuple [.tuple [.str k, .tuple g.encs], .int m] :: r.encs
def enc (g : Gr) : PyData := .tuple g.encs
def tEnc (t : Tr) : PyData := .tuple [.str t.1, t.2.enc]
def ps : Gr → List (Tr × Int)
  | .nil => []
  | .cons k g m r => ((k, g), m) :: r.ps
def ofPs : List (Tr × Int) → Gr
  | [] => .nil
  | p :: r => .cons p.1.1 p.1.2 p.2 (ofPs r)
theorem ofPs_ps : ∀ g : Gr, ofPs g.ps = g
  | .nil => rfl
  | .cons k g m r => by show Gr.cons k g m (ofPs r.ps) = _; rw [ofPs_ps r]
theorem ps_ofPs : ∀ bs : List (Tr × Int), (ofPs bs).ps = bs
  | [] => rfl
  | p :: r => by show ((p.1.1, p.1.2), p.2) :: (ofPs r).ps = _; rw [ps_ofPs r]
def parts : Gr → Nat
  | .nil => 0
  | .cons _ g _ r => 1 + g.parts + r.parts
def deep : Gr → Nat
  | .nil => 0
  | .cons _ g _ r => max (1 + g.deep) r.deep
def size : Gr → Int
  | .nil => 0
  | .cons _ g m r => m * (1 + g.size) + r.size
def tot : List (Tr × Int) → Nat
  | [] => 0
  | p :: r => 1 + p.1.2.parts + tot r
theorem parts_ofPs : ∀ bs : List (Tr × Int), (ofPs bs).parts = tot bs
  | [] => rfl
  | p :: r => by show 1 + p.1.2.parts + (ofPs r).parts = 1 + p.1.2.parts + tot r; rw [parts_ofPs r]
theorem tot_ps (g : Gr) : tot g.ps = g.parts := by rw [← parts_ofPs, ofPs_ps]
theorem tot_append : ∀ bs cs : List (Tr × Int), tot (bs ++ cs) = tot bs + tot cs
  | [], cs => by simp [tot]
  | p :: r, cs => by show 1 + p.1.2.parts + tot (r ++ cs) = _; rw [tot_append r cs, tot]; omega
theorem tot_perm {bs cs : List (Tr × Int)} (h : bs.Perm cs) : tot bs = tot cs := by
  induction h with
  | nil => rfl
  | cons x _ ih => simp only [tot]; omega
  | swap x y l => simp only [tot]; omega
  | trans _ _ h1 h2 => omega
theorem len_tot : ∀ bs : List (Tr × Int), bs.length ≤ tot bs
  | [] => Nat.le_refl _
  | p :: r => by have := len_tot r; show r.length + 1 ≤ 1 + p.1.2.parts + tot r; omega
theorem tot_jn (bs : List (Tr × Int)) : tot (jn bs) ≤ tot bs := by
  have key : ∀ (bs acc : List (Tr × Int)), tot (bs.foldl jstep acc) ≤ tot acc + tot bs := by
    intro bs
    induction bs with
    | nil => intro acc; simp [tot]
    | cons x r ih =>
      intro acc
      have h1 := ih (jstep acc x)
      have h2 : tot (jstep acc x) ≤ tot acc + (1 + x.1.2.parts) := by
        rcases List.eq_nil_or_concat acc with h | ⟨a, z, h⟩
        · subst h; simp [jstep_nil, tot]
        · subst h
          rw [List.concat_eq_append, jstep_snoc]
          by_cases hz : z.1 = x.1
          · rw [if_pos hz, tot_append, tot_append]; simp only [tot]; rw [hz]; omega
          · rw [if_neg hz, tot_append, tot_append]; simp only [tot]; omega
      show tot (r.foldl jstep (jstep acc x)) ≤ tot acc + (1 + x.1.2.parts + tot r)
      omega
  have := key bs []
  simpa [jn, tot] using this
theorem mem_deep : ∀ (g : Gr) (p : Tr × Int), p ∈ g.ps → p.1.2.deep < g.deep
  | .nil, p, h => by cases h
  | .cons k g m r, p, h => by
    rcases List.mem_cons.mp h with h | h
    · subst h; show g.deep < max (1 + g.deep) r.deep; omega
    · have := mem_deep r p h; show _ < max (1 + g.deep) r.deep; omega
theorem mem_parts : ∀ (g : Gr) (p : Tr × Int), p ∈ g.ps → p.1.2.parts < g.parts
  | .nil, p, h => by cases h
  | .cons k g m r, p, h => by
    rcases List.mem_cons.mp h with h | h
    · subst h; show g.parts < 1 + g.parts + r.parts; omega
    · have := mem_parts r p h; show _ < 1 + g.parts + r.parts; omega
theorem deep_le {n : Nat} : ∀ {g : Gr}, (∀ p ∈ g.ps, p.1.2.deep < n) → g.deep ≤ n
  | .nil, _ => Nat.zero_le _
  | .cons k g m r, h => by
    have h1 := h ((k, g), m) (List.mem_cons_self ..)
    have h2 := deep_le (g := r) fun p hp => h p (List.mem_cons_of_mem _ hp)
    show max (1 + g.deep) r.deep ≤ n
    have : g.deep < n := h1
    omega
theorem len_parts (g : Gr) : g.ps.length ≤ g.parts := by have := len_tot g.ps; rw [tot_ps] at this; exact this
theorem alikes : ∀ g h : Gr, alikeAll g.encs h.encs = true
  | .nil, _ => by simp [encs, alikeAll]
  | .cons _ _ _ _, .nil => by simp [encs, alikeAll]
  | .cons k g m r, .cons k' g' m' r' => by
    have h1 := alikes g g'
    have h2 := alikes r r'
    simp [encs, alikeAll, alike, h1, h2]
theorem alike_enc (g h : Gr) : alike g.enc h.enc = true := by
  show alike (.tuple g.encs) (.tuple h.encs) = true
  rw [alike]; exact alikes g h
theorem sb (a b : Str) : (a == b) = decide (a = b) := by by_cases h : a = b <;> simp [h]
theorem eqvs : ∀ g h : Gr, PyData.eqvAll g.encs h.encs = decide (g = h)
  | .nil, .nil => by simp [encs, PyData.eqvAll]
  | .nil, .cons _ _ _ _ => by simp [encs, PyData.eqvAll]
  | .cons _ _ _ _, .nil => by simp [encs, PyData.eqvAll]
  | .cons k g m r, .cons k' g' m' r' => by
    have h1 := eqvs g g'
    have h2 := eqvs r r'
    simp [encs, PyData.eqvAll, PyData.eqv, h1, h2, Bool.and_assoc, ib, sb]
theorem eqv_enc (g h : Gr) : PyData.eqv g.enc h.enc = decide (g = h) := by
  rw [enc, enc, PyData.eqv]; exact eqvs g h
instance : Orderly tEnc where
  al a b := by simp [tEnc, alike, alikeAll, alike_enc]
  eq a b := by
    simp only [tEnc, PyData.eqv, PyData.eqvAll, eqv_enc, Bool.and_true, sb]
    by_cases h : a = b
    · subst h; simp
    · rw [decide_eq_false h, Bool.and_eq_false_iff]
      by_cases h1 : a.1 = b.1
      · exact .inr (decide_eq_false fun h2 => h (Prod.ext h1 h2))
      · exact .inl (decide_eq_false h1)
theorem noLists_encs : ∀ g : Gr, noLists g.encs = true
  | .nil => by simp [encs, noLists]
  | .cons k g m r => by simp [encs, noLists, noList, noLists_encs g, noLists_encs r]
theorem noList_enc (g : Gr) : noList g.enc = true := by simp [enc, noList, noLists_encs g]
theorem encs_depth : ∀ g : Gr, PyData.depthAll g.encs ≤ 3 * g.deep
  | .nil => by simp [encs, PyData.depthAll, deep]
  | .cons k g m r => by
    have h1 := encs_depth g
    have h2 := encs_depth r
    simp only [encs, PyData.depthAll, PyData.depth, deep]
    omega
theorem enc_depth (g : Gr) : g.enc.depth ≤ 3 * g.deep + 1 := by
  have := encs_depth g
  simp only [enc, PyData.depth]
  omega
/-- all names are names, numbers from 1 to below C, trees in order -/
def Ok (C : Int) : Gr → Prop
  | .nil => True
  | .cons k g m r => NameOk k ∧ g.Ok C ∧ 1 ≤ m ∧ m < C ∧ r.Ok C ∧ ∀ p ∈ r.ps, dataLt (tEnc (k, g)) (tEnc p.1) = true
theorem Ok.mono {B C : Int} (h : B ≤ C) : ∀ {g : Gr}, g.Ok B → g.Ok C
  | .nil, _ => trivial
  | .cons k g m r, ⟨h0, h1, h2, h3, h4, h5⟩ => ⟨h0, Ok.mono h h1, h2, by omega, Ok.mono h h4, h5⟩
theorem ok_ps {C : Int} : ∀ {bs : List (Tr × Int)}, (ofPs bs).Ok C ↔ (∀ p ∈ bs, NameOk p.1.1 ∧ p.1.2.Ok C ∧ 1 ≤ p.2 ∧ p.2 < C) ∧ bs.Pairwise (fun p q => dataLt (tEnc p.1) (tEnc q.1) = true)
  | [] => by simp [ofPs, Ok]
  | x :: r => by
    have ih := ok_ps (C := C) (bs := r)
    show (NameOk x.1.1 ∧ x.1.2.Ok C ∧ 1 ≤ x.2 ∧ x.2 < C ∧ (ofPs r).Ok C ∧ ∀ p ∈ (ofPs r).ps, dataLt (tEnc x.1) (tEnc p.1) = true) ↔ _
    rw [ps_ofPs, List.pairwise_cons, ih]
    constructor
    · rintro ⟨h0, h1, h2, h3, ⟨h4, h5⟩, h6⟩
      refine ⟨fun p hp => ?_, h6, h5⟩
      rcases List.mem_cons.mp hp with hp | hp
      · subst hp; exact ⟨h0, h1, h2, h3⟩
      · exact h4 p hp
    · rintro ⟨h1, h2, h3⟩
      have h4 := h1 x (List.mem_cons_self ..)
      exact ⟨h4.1, h4.2.1, h4.2.2.1, h4.2.2.2, ⟨fun p hp => h1 p (List.mem_cons_of_mem _ hp), h3⟩, h2⟩
theorem ok_iff {C : Int} {g : Gr} : g.Ok C ↔ (∀ p ∈ g.ps, NameOk p.1.1 ∧ p.1.2.Ok C ∧ 1 ≤ p.2 ∧ p.2 < C) ∧ g.ps.Pairwise (fun p q => dataLt (tEnc p.1) (tEnc q.1) = true) := by
  have := ok_ps (C := C) (bs := g.ps)
  rw [ofPs_ps] at this
  exact this
theorem strOk_name {k : Str} (h : NameOk k) : PySem.PyData.strOk k = true := by
  show k.cps.all (· < 0x110000) = true
  rw [Array.all_eq_true']
  intro c hc
  have := h.2.2 c (by simpa using hc)
  simp; omega
theorem lays {C : Int} : ∀ {g : Gr}, g.Ok C → PyData.canLayAll0 g.encs = true
  | .nil, _ => by simp [encs, PyData.canLayAll0]
  | .cons k g m r, ⟨h0, h1, _, _, h4, _⟩ => by
    have e1 := lays h1
    have e2 := lays h4
    simp [encs, PyData.canLayAll0, PyData.canLay0, e1, e2, strOk_name h0]
/-- the grove of some pairs -/
def tidy (bs : List (Tr × Int)) : Gr := ofPs (tdy tEnc bs)
theorem tidy_parts (bs : List (Tr × Int)) : (tidy bs).parts ≤ tot bs := by
  unfold tidy
  rw [parts_ofPs]
  have h1 := tot_jn (srtE (pairE tEnc) bs)
  rw [tot_perm (srtE_perm bs)] at h1
  exact h1
end Gr
/-- at v stands the grove g -/
def GA (K : PySem.W.Frag) (H : Hp) (v : V) (g : Gr) : Prop := Dp K H v g.enc
section
variable {K : PySem.W.Frag} {ps : List Addr} {H H' : Hp} {v : V} {g : Gr}
theorem GA.sb (h : GA K H v g) (e : SB ps H H') : GA K H' v g := Dp_sb e _ _ g.noList_enc h
end
def PuG (H : Hp) (p : Addr) : Prop := ∃ x y : Int, H p = some (.lst [.int x, .int y]) ∧ 0 ≤ x ∧ 1 ≤ y ∧ y ≤ 18446744073709551557
theorem PuG.sb {H H' : Hp} {p : Addr} (h : PuG H p) (e : SB [] H H') : PuG H' p := by
  obtain ⟨x, y, h1, h2⟩ := h
  exact ⟨x, y, e.keep _ _ h1 List.not_mem_nil, h2⟩
theorem PuG.keep {H H' : Hp} {p : Addr} {ps : List Addr} (h : PuG H p) (e : SB ps H H') (n : p ∉ ps) : PuG H' p := by
  obtain ⟨x, y, h1, h2⟩ := h
  exact ⟨x, y, e.keep _ _ h1 n, h2⟩
theorem PuG.ne {H : Hp} {p q : Addr} (h : PuG H p) (n : H q = none) : p ≠ q := by
  obtain ⟨x, y, h1, h2⟩ := h
  exact ne_of_none h1 n
end FT
namespace FT
open PySem PySem.W PySem.Spec PyProof.Rows L2
def Ltr (z : Str) (n : Nat) : Prop := z.cps.toList.length = n ∧ ∀ c ∈ z.cps.toList, 97 ≤ c ∧ c ≤ 122
theorem Ltr.name {z : Str} {n : Nat} (h : Ltr z n) (h1 : 1 ≤ n) (h8 : n ≤ 8) : NameOk z := ⟨by have := h.1; omega, by have := h.1; omega, h.2⟩
theorem Ltr.len {z : Str} {n : Nat} (h : Ltr z n) : z.length = n := by have := h.1; simpa [Str.length] using this
theorem Ltr.one {c : Nat} (h : 97 ≤ c ∧ c ≤ 122) : Ltr ⟨#[c]⟩ 1 := ⟨rfl, fun x hx => by simp at hx; subst hx; exact h⟩
theorem Ltr.append {a b : Str} {n m : Nat} (ha : Ltr a n) (hb : Ltr b m) : Ltr (a ++ b) (n + m) := by
  have e : (a ++ b).cps.toList = a.cps.toList ++ b.cps.toList := by show (a.cps ++ b.cps).toList = _; simp
  unfold Ltr
  rw [e, List.length_append, ha.1, hb.1]
  refine ⟨rfl, fun c hc => ?_⟩
  rcases List.mem_append.mp hc with hc | hc
  · exact ha.2 c hc
  · exact hb.2 c hc
theorem Ltr.take {z : Str} {n : Nat} (h : Ltr z n) (k : Nat) : Ltr (cutS z none (some (k : Int))) (min k n) := by
  have hl := h.len
  have e : (cutS z none (some (k : Int))).cps.toList = z.cps.toList.take (min k n) := by
    unfold cutS
    rw [HT.sIx_none, HT.sIx_nat, hl]
    simp
  unfold Ltr
  rw [e, List.length_take, h.1]
  exact ⟨by omega, fun c hc => h.2 c (List.mem_of_mem_take hc)⟩
theorem Ltr.cut {z : Str} {n : Nat} (h : Ltr z n) (a b : Nat) : Ltr (cutS z (some (a : Int)) (some (b : Int))) (min b n - min a n) := by
  have hl := h.len
  have e : (cutS z (some (a : Int)) (some (b : Int))).cps.toList = (z.cps.toList.drop (min a n)).take (min b n - min a n) := by
    unfold cutS
    rw [HT.sIx_nat, HT.sIx_nat, hl]
  unfold Ltr
  rw [e, List.length_take, List.length_drop, h.1]
  exact ⟨by omega, fun c hc => h.2 c (List.mem_of_mem_drop (List.mem_of_mem_take hc))⟩
end FT
namespace FT
open PySem PySem.W PySem.Spec PyProof.Rows L2
namespace Gr
/-- all pairs that stand anywhere -/
def within : Gr → List (Tr × Int)
  | .nil => []
  | .cons k g m r => ((k, g), m) :: (g.within ++ r.within)
theorem within_ps : ∀ g : Gr, g.within = g.ps.flatMap fun p => p :: p.1.2.within
  | .nil => rfl
  | .cons k g m r => by show ((k, g), m) :: (g.within ++ r.within) = _; rw [within_ps r]; rfl
end Gr
end FT
namespace FT
open PySem PySem.W PySem.Spec PyProof.Rows L2
namespace Gr
def tgt (g k : Gr) : Gr := tidy (g.ps ++ k.ps)
theorem tgt_ps (g k : Gr) : (tgt g k).ps = tdy tEnc (g.ps ++ k.ps) := ps_ofPs _
theorem tgt_parts (g k : Gr) : (tgt g k).parts ≤ g.parts + k.parts := by
  have := tidy_parts (g.ps ++ k.ps)
  rw [tot_append, tot_ps, tot_ps] at this
  exact this
/-- how many of a tree -/
abbrev S (g : Gr) (t : Tr) : Int := sumE g.ps t
theorem S_tgt (g k : Gr) (t : Tr) : S (tgt g k) t = S g t + S k t := by
  show sumE (tgt g k).ps t = _
  rw [tgt_ps, tdy_sum, sumE_append]
theorem S_zero {bs : List (Tr × Int)} {t : Tr} (h : ∀ p ∈ bs, p.1 ≠ t) : sumE bs t = 0 := by
  induction bs with
  | nil => rfl
  | cons p r ih =>
    show (if p.1 = t then p.2 else 0) + sumE r t = 0
    rw [if_neg (h p (List.mem_cons_self ..)), ih fun q hq => h q (List.mem_cons_of_mem _ hq)]; rfl
/-- two right groves with as many of each tree are the same -/
theorem ext_ps : ∀ {as bs : List (Tr × Int)}, as.Pairwise (fun p q => dataLt (tEnc p.1) (tEnc q.1) = true) → bs.Pairwise (fun p q => dataLt (tEnc p.1) (tEnc q.1) = true) → (∀ p ∈ as, 1 ≤ p.2) → (∀ p ∈ bs, 1 ≤ p.2) → (∀ t, sumE as t = sumE bs t) → as = bs
  | [], [], _, _, _, _, _ => rfl
  | [], b :: bs, _, h2, _, p2, h => by
    have := h b.1
    have hz : sumE bs b.1 = 0 := S_zero fun q hq z => by have := (List.pairwise_cons.mp h2).1 q hq; rw [z, dl_irrefl] at this; cases this
    have e : sumE (b :: bs) b.1 = b.2 + sumE bs b.1 := by show (if b.1 = b.1 then b.2 else 0) + _ = _; rw [if_pos rfl]
    rw [e, hz] at this
    have := p2 b (List.mem_cons_self ..)
    have z : sumE ([] : List (Tr × Int)) b.1 = 0 := rfl
    omega
  | a :: as, [], h1, _, p1, _, h => by
    have := h a.1
    have hz : sumE as a.1 = 0 := S_zero fun q hq z => by have := (List.pairwise_cons.mp h1).1 q hq; rw [z, dl_irrefl] at this; cases this
    have e : sumE (a :: as) a.1 = a.2 + sumE as a.1 := by show (if a.1 = a.1 then a.2 else 0) + _ = _; rw [if_pos rfl]
    rw [e, hz] at this
    have := p1 a (List.mem_cons_self ..)
    have z : sumE ([] : List (Tr × Int)) a.1 = 0 := rfl
    omega
  | a :: as, b :: bs, h1, h2, p1, p2, h => by
    obtain ⟨a1, a2⟩ := List.pairwise_cons.mp h1
    obtain ⟨b1, b2⟩ := List.pairwise_cons.mp h2
    have pa := p1 a (List.mem_cons_self ..)
    have pb := p2 b (List.mem_cons_self ..)
    have za : ∀ t, (t = a.1 ∨ dataLt (tEnc t) (tEnc a.1) = true) → sumE as t = 0 := fun t ht => S_zero fun q hq z => by
      have q1 := a1 q hq
      rw [z] at q1
      rcases ht with ht | ht
      · rw [ht, dl_irrefl] at q1; cases q1
      · rw [dl_asymm ht] at q1; cases q1
    have zb : ∀ t, (t = b.1 ∨ dataLt (tEnc t) (tEnc b.1) = true) → sumE bs t = 0 := fun t ht => S_zero fun q hq z => by
      have q1 := b1 q hq
      rw [z] at q1
      rcases ht with ht | ht
      · rw [ht, dl_irrefl] at q1; cases q1
      · rw [dl_asymm ht] at q1; cases q1
    have ea : ∀ t, sumE (a :: as) t = (if a.1 = t then a.2 else 0) + sumE as t := fun t => rfl
    have eb : ∀ t, sumE (b :: bs) t = (if b.1 = t then b.2 else 0) + sumE bs t := fun t => rfl
    have hab : a.1 = b.1 := by
      by_cases e : a.1 = b.1
      · exact e
      · exfalso
        cases hlt : dataLt (tEnc a.1) (tEnc b.1) with
        | true =>
          have := h a.1
          rw [ea, eb, if_pos rfl, if_neg (fun z => e z.symm), za _ (.inl rfl), zb _ (.inr hlt)] at this
          omega
        | false =>
          have hlt2 := ol_tri (enc := tEnc) e hlt
          have := h b.1
          rw [ea, eb, if_pos rfl, if_neg e, zb _ (.inl rfl), za _ (.inr hlt2)] at this
          omega
    have hm : a.2 = b.2 := by
      have := h a.1
      rw [ea, eb, if_pos rfl, if_pos hab.symm, za _ (.inl rfl), zb _ (.inl hab)] at this
      omega
    have he : a = b := Prod.ext hab hm
    subst he
    rw [ext_ps a2 b2 (fun p hp => p1 p (List.mem_cons_of_mem _ hp)) (fun p hp => p2 p (List.mem_cons_of_mem _ hp)) fun t => by have := h t; rw [ea, eb] at this; omega]
theorem ext {C D : Int} {g k : Gr} (hg : g.Ok C) (hk : k.Ok D) (h : ∀ t, S g t = S k t) : g = k := by
  have h1 := ok_iff.mp hg
  have h2 := ok_iff.mp hk
  have := ext_ps h1.2 h2.2 (fun p hp => (h1.1 p hp).2.2.1) (fun p hp => (h2.1 p hp).2.2.1) h
  rw [← ofPs_ps g, ← ofPs_ps k, this]
end Gr
end FT
namespace FT
open PySem PySem.W PySem.Spec PyProof.Rows L2
/-- the head of a law over groves: a head's purse, names, and what is kept -/
structure Hd (K : PySem.W.Frag) (H H3 : Hp) (p0 nm : Addr) (ks : List Str) : Prop where
  hp : PuG H3 p0
  hnm : H3 nm = some (.lst (ks.map V.str))
  k1 : 1 ≤ ks.length
  k8 : ks.length ≤ 8
  kn : ∀ k ∈ ks, NameOk k
  ne : nm ≠ p0
  sb : SB [p0] H H3
  np : H p0 = none
theorem Hd.step {K : PySem.W.Frag} {H H3 H4 : Hp} {p0 nm : Addr} {ks : List Str} (h : Hd K H H3 p0 nm ks) (s : SB [p0] H3 H4) (hp : PuG H4 p0) : Hd K H H4 p0 nm ks :=
  ⟨hp, s.keep _ _ h.hnm (by simpa using h.ne), h.k1, h.k8, h.kn, h.ne, h.sb.trans s, h.np⟩
end FT
namespace FT
open PySem PySem.W PySem.Spec PyProof.Rows L2
abbrev Pl := List Nat
def plInts (p : Pl) : List PyData := p.map fun n : Nat => .int (n : Int)
def plEnc (p : Pl) : PyData := .tuple (plInts p)
theorem pl_alikes : ∀ p q : Pl, alikeAll (plInts p) (plInts q) = true
  | [], _ => by simp [plInts, alikeAll]
  | _ :: _, [] => by simp [plInts, alikeAll]
  | a :: p, b :: q => by
    have := pl_alikes p q
    show alikeAll (.int a :: plInts p) (.int b :: plInts q) = true
    simp [alikeAll, alike, this]
theorem pl_eqvs : ∀ p q : Pl, PyData.eqvAll (plInts p) (plInts q) = decide (p = q)
  | [], [] => by simp [plInts, PyData.eqvAll]
  | [], _ :: _ => by simp [plInts, PyData.eqvAll]
  | _ :: _, [] => by simp [plInts, PyData.eqvAll]
  | a :: p, b :: q => by
    have ih := pl_eqvs p q
    show PyData.eqvAll (.int a :: plInts p) (.int b :: plInts q) = _
    simp only [PyData.eqvAll, PyData.eqv, ih, ib]
    by_cases h : a = b
    · subst h; simp
    · have : ¬ ((a : Int) = (b : Int)) := by omega
      simp [h, this]
instance : Orderly plEnc where
  al a b := by show alike (.tuple _) (.tuple _) = true; rw [alike]; exact pl_alikes a b
  eq a b := by show PyData.eqv (.tuple _) (.tuple _) = _; rw [PyData.eqv]; exact pl_eqvs a b
theorem pl_noList (p : Pl) : noList (plEnc p) = true := by
  have : ∀ p : Pl, noLists (plInts p) = true := by
    intro p
    induction p with
    | nil => simp [plInts, noLists]
    | cons a r ih => show noLists (.int a :: plInts r) = true; simp [noLists, noList, ih]
  show noList (.tuple _) = true
  rw [noList]; exact this p
end FT
namespace FT
open PySem PySem.W PySem.Spec PyProof.Rows L2
/-- a thing in a place: which whole number it is, if it is one -/
def Wh (K : PySem.W.Frag) (H : Hp) (v : V) (o : Option Int) : Prop := (∃ i, v = .int i ∧ o = some i) ∨ (o = none ∧ ∃ (n : String) (b1 b2 : Bool), TyX K H v (.type n) ∧ kitB n "int" = some b1 ∧ (b1 = true → kitB n "bool" = some b2) ∧ (b1 && !b2) = false)
inductive Whs (K : PySem.W.Frag) (H : Hp) : List V → List (Option Int) → Prop where
  | nil : Whs K H [] []
  | cons {v : V} {o : Option Int} {vs : List V} {os : List (Option Int)} : Wh K H v o → Whs K H vs os → Whs K H (v :: vs) (o :: os)
section
variable {K : PySem.W.Frag} {H H' : Hp}
theorem Whs.length : ∀ {vs : List V} {os : List (Option Int)}, Whs K H vs os → vs.length = os.length
  | _, _, .nil => rfl
  | _, _, .cons _ h => congrArg (· + 1) h.length
theorem Whs.get : ∀ {vs : List V} {os : List (Option Int)}, Whs K H vs os → ∀ {i : Nat} {v : V}, vs[i]? = some v → ∃ o, os[i]? = some o ∧ Wh K H v o
  | _, _, .nil, i, v, e => by simp at e
  | _, _, .cons (o := o) h hs, 0, v, e => by
    have : _ = v := Option.some.inj e
    subst this; exact ⟨o, rfl, h⟩
  | _, _, .cons h hs, i + 1, v, e => hs.get (i := i) e
theorem Whs.append : ∀ {vs us : List V} {os ps : List (Option Int)}, Whs K H vs os → Whs K H us ps → Whs K H (vs ++ us) (os ++ ps)
  | _, _, _, _, .nil, h => h
  | _, _, _, _, .cons a b, h => .cons a (b.append h)
theorem Wh.sb {v : V} {o : Option Int} (h : Wh K H v o) (e : SB [] H H') : Wh K H' v o := by
  rcases h with h | ⟨h, n, b1, b2, ty, k⟩
  · exact .inl h
  · exact .inr ⟨h, n, b1, b2, TyX_sb e (fun _ _ => List.not_mem_nil) ty, k⟩
theorem Whs.sb (e : SB [] H H') : ∀ {vs : List V} {os : List (Option Int)}, Whs K H vs os → Whs K H' vs os
  | _, _, .nil => .nil
  | _, _, .cons h hs => .cons (h.sb e) (Whs.sb e hs)
end
end FT
namespace FT
open PySem PySem.W PySem.Spec PyProof.Rows L2
mutual
inductive Tg (K : PySem.W.Frag) (H : Hp) : V → PyData → Prop
  | int (i : Int) : Tg K H (.int i) (.int i)
  | str (z : Str) : z.length ≤ 1000 → Tg K H (.str z) (.str z)
  | tup {a : Addr} {xs : List V} {ds : List PyData} : SqT K H a xs → TgAll K H xs ds → Tg K H (.ref a) (.tuple ds)
  | oth {v : V} {n : String} : TyX K H v (.type n) → kitB n "tuple" = some false → kitB n "str" = some false → (kitB n "int" = some false ∨ n = "bool") → Tg K H v .none
inductive TgAll (K : PySem.W.Frag) (H : Hp) : List V → List PyData → Prop
  | nil : TgAll K H [] []
  | cons {v : V} {vs : List V} {d : PyData} {ds : List PyData} : Tg K H v d → TgAll K H vs ds → TgAll K H (v :: vs) (d :: ds)
end
section
variable {K : PySem.W.Frag} {H H' : Hp}
mutual
theorem Tg_sb (e : SB [] H H') : ∀ {v : V} {d : PyData}, Tg K H v d → Tg K H' v d
  | _, _, .int i => .int i
  | _, _, .str z hz => .str z hz
  | _, _, .tup hs ha => .tup (e.sqT hs) (TgAll_sb e ha)
  | _, _, .oth ty k0 k1 k2 => .oth (TyX_sb e (fun _ _ => List.not_mem_nil) ty) k0 k1 k2
theorem TgAll_sb (e : SB [] H H') : ∀ {vs : List V} {ds : List PyData}, TgAll K H vs ds → TgAll K H' vs ds
  | _, _, .nil => .nil
  | _, _, .cons h t => .cons (Tg_sb e h) (TgAll_sb e t)
end
theorem TgAll.length : ∀ {vs : List V} {ds : List PyData}, TgAll K H vs ds → vs.length = ds.length
  | _, _, .nil => rfl
  | _, _, .cons _ t => by rw [List.length_cons, List.length_cons, TgAll.length t]
theorem TgAll.get : ∀ {vs : List V} {ds : List PyData} {i : Nat} {v : V}, TgAll K H vs ds → vs[i]? = some v → ∃ d, ds[i]? = some d ∧ Tg K H v d
  | _, _, _, _, .nil, e => by simp at e
  | _, _, 0, _, .cons h t, e => by simp at e; subst e; exact ⟨_, rfl, h⟩
  | _, _, i + 1, v, .cons h t, e => by
    obtain ⟨d, h1, h2⟩ := TgAll.get (i := i) (v := v) t (by simpa using e)
    exact ⟨d, by simpa using h1, h2⟩
theorem Tg.ty {v : V} {d : PyData} (h : Tg K H v d) : ∃ n b, TyX K H v (.type n) ∧ kitB n "tuple" = some b ∧ (b = true → ∃ a xs ds, v = .ref a ∧ d = .tuple ds ∧ SqT K H a xs ∧ TgAll K H xs ds) ∧ (b = false → ∀ ds, d ≠ .tuple ds) := by
  cases h with
  | int i => exact ⟨"int", false, .base (.int i), by decide +kernel, fun z => (nomatch z), fun _ ds z => nomatch z⟩
  | str z hz => exact ⟨"str", false, .base (.str z), by decide +kernel, fun z => (nomatch z), fun _ ds z => nomatch z⟩
  | tup hs ha => exact ⟨"tuple", true, (SqT_ty hs), by decide +kernel, fun _ => ⟨_, _, _, rfl, rfl, hs, ha⟩, fun z => (nomatch z)⟩
  | oth ty k1 _ k2 => exact ⟨_, false, ty, k1, fun z => (nomatch z), fun _ ds z => nomatch z⟩
end
instance (z : Str) : Decidable (NameOk z) := inferInstanceAs (Decidable (_ ∧ _ ∧ _))
section
variable {K : PySem.W.Frag} {H : Hp}
theorem GA_tg {C : Int} : ∀ (g : Gr) {vs : List V}, g.Ok C → DpAll K H vs g.encs → TgAll K H vs g.encs
  | .nil, vs, _, h => by cases h; exact .nil
  | .cons k g m r, vs, ho, h => by
    cases h with
    | cons h1 h2 =>
      refine .cons ?_ (GA_tg r ho.2.2.2.2.1 h2)
      cases h1 with
      | tup hs ha =>
        cases ha with
        | cons h3 h4 =>
          cases h4 with
          | cons h5 h6 =>
            cases h6; cases h5
            refine .tup hs (.cons ?_ (.cons (.int _) .nil))
            cases h3 with
            | tup hs2 hb =>
              cases hb with
              | cons h7 h8 =>
                cases h8 with
                | cons h9 h10 =>
                  cases h10; cases h7
                  cases h9 with
                  | tup hs3 hc => exact .tup hs2 (.cons (.str _ (by have := ho.1.2.1; simp [Str.length]; simp at this; omega)) (.cons (.tup hs3 (GA_tg g ho.2.1 hc)) .nil))
theorem Tg_ga : ∀ (g : Gr) {vs : List V}, TgAll K H vs g.encs → DpAll K H vs g.encs
  | .nil, vs, h => by cases h; exact .nil
  | .cons k g m r, vs, h => by
    cases h with
    | cons h1 h2 =>
      refine .cons ?_ (Tg_ga r h2)
      cases h1 with
      | tup hs ha =>
        cases ha with
        | cons h3 h4 =>
          cases h4 with
          | cons h5 h6 =>
            cases h6; cases h5
            refine .tup hs (.cons ?_ (.cons (.int _) .nil))
            cases h3 with
            | tup hs2 hb =>
              cases hb with
              | cons h7 h8 =>
                cases h8 with
                | cons h9 h10 =>
                  cases h10; cases h7
                  cases h9 with
                  | tup hs3 hc => exact .tup hs2 (.cons (.str _) (.cons (.tup hs3 (Tg_ga g hc)) .nil))
end
theorem len_cps (z : Str) : z.cps.toList.length = z.length := by simp [Str.length]
end FT
namespace FT
open PySem PySem.W PySem.Spec PyProof.Rows L2
section
variable {K : PySem.W.Frag} {H : Hp} {C : Int}
theorem GA_thing {g : Gr} {v : V} (ho : g.Ok C) (h : GA K H v g) : Tg K H v g.enc := by
  cases (h : Dp K H v (.tuple g.encs)) with
  | tup hs ha => exact .tup hs (GA_tg g ho ha)
theorem name_short {z : Str} (h : NameOk z) : z.length ≤ 1000 := by
  have := h.2.1
  rw [len_cps] at this
  omega
end
end FT
namespace FT
open PySem PySem.W PySem.Spec PyProof.Rows L2
section
variable {K : PySem.W.Frag} {H H3 H4 : Hp} {p0 nm S : Addr} {ks : List Str}
theorem Hd.other (h : Hd K H H3 p0 nm ks) (s : SB [S] H3 H4) (n : H S = none) (n1 : p0 ≠ S) (n2 : nm ≠ S) : Hd K H H4 p0 nm ks := by
  refine ⟨h.hp.keep s (by simpa using n1), s.keep _ _ h.hnm (by simpa using n2), h.k1, h.k8, h.kn, h.ne, ?_, h.np⟩
  have h1 : SB [S, p0] H H3 := h.sb.mono fun b hb => List.mem_cons_of_mem _ hb
  have h2 : SB [S, p0] H3 H4 := s.mono fun b hb => by have : b = S := by simpa using hb
                                                      subst this; simp
  exact (h1.trans h2).drop n
end
/-- a list that stands is kept where another is changed -/
theorem SB.lst {H H' : Hp} {ps : List Addr} {D : Addr} {us : List V} (s : SB ps H H') (h : H D = some (.lst us)) (n : D ∉ ps) : H' D = some (.lst us) := s.keep _ _ h n
theorem TgAll.append {K : PySem.W.Frag} {H : Hp} : ∀ {xs ys : List V} {ds es : List PyData}, TgAll K H xs ds → TgAll K H ys es → TgAll K H (xs ++ ys) (ds ++ es)
  | _, _, _, _, .nil, h => h
  | _, _, _, _, .cons a b, h => .cons a (TgAll.append b h)
end FT
namespace FT
open PySem PySem.W PySem.Spec PyProof.Rows L2
theorem SB.setD {H : Hp} {p : Addr} {kvs : List (Key × V)} {ps : List Addr} (h : H p = some (.dK kvs)) (hp : p ∈ ps) (o : HO) : SB ps H (upd H p o) := by
  refine ⟨fun b u e n => ?_, fun b u e => ?_, fun b v u e => ?_, fun b e => ?_⟩
  · rw [upd_ne (fun (z : b = p) => n (by rw [z]; exact hp))]; exact e
  · rw [upd_ne (fun (z : b = p) => by subst z; rw [h] at e; cases e)]; exact e
  · rw [upd_ne (fun (z : b = p) => by subst z; rw [h] at e; cases e)]; exact e
  · by_cases q : b = p
    · subst q; rw [upd_same] at e; cases e
    · rw [upd_ne q] at e; exact e
end FT
namespace FT
open PySem PySem.W PySem.Spec PyProof.Rows L2
open TL (tl)
def numT (m : Int) : List Nat := if m = 1 then [] else TL.numL m.toNat ++ [32]
namespace Gr
def body : Gr → List Nat
  | .nil => []
  | .cons k g m r => numT m ++ (tl k ++ ((if g = .nil then [] else 123 :: (g.body ++ [125])) ++ (if r = .nil then [] else 44 :: 32 :: r.body)))
def held (g : Gr) : List Nat := if g = .nil then [] else 123 :: (g.body ++ [125])
def more (r : Gr) : List Nat := if r = .nil then [] else 44 :: 32 :: r.body
def text (g : Gr) : List Nat := if g = .nil then [45] else g.body
theorem body_cons (k : Str) (g : Gr) (m : Int) (r : Gr) : (Gr.cons k g m r).body = numT m ++ (tl k ++ (g.held ++ r.more)) := rfl
theorem text_cons (k : Str) (g : Gr) (m : Int) (r : Gr) : (Gr.cons k g m r).text = (Gr.cons k g m r).body := if_neg (fun z => nomatch z)
end Gr
theorem numT_len {m : Int} {C : Nat} (hC : 0 < C) (h0 : 0 ≤ m) (h : m < 10 ^ C) : (numT m).length ≤ C + 1 := by
  unfold numT
  split
  · simp
  · obtain ⟨n, rfl⟩ : ∃ n : Nat, m = (n : Int) := ⟨m.toNat, by omega⟩
    have h' : n < 10 ^ C := by exact_mod_cast h
    have := TL.numL_len hC h'
    rw [List.length_append, Int.toNat_natCast]; simp; omega
namespace Gr
theorem body_len {C : Nat} (hC : 0 < C) : ∀ {g : Gr}, g.Ok (10 ^ C) → g.body.length ≤ (C + 13) * g.parts
  | .nil, _ => Nat.zero_le _
  | .cons k g m r, ⟨h0, h1, h2, h3, h4, _⟩ => by
    have a := body_len hC h1
    have b := body_len hC h4
    have c := numT_len hC (by omega) h3
    have d := h0.2.1
    have e1 : g.held.length ≤ (C + 13) * g.parts + 2 := by unfold held; split <;> simp <;> omega
    have e2 : r.more.length ≤ (C + 13) * r.parts + 2 := by unfold more; split <;> simp <;> omega
    rw [body_cons]
    simp only [List.length_append, parts]
    have e3 : (C + 13) * (1 + g.parts + r.parts) = (C + 13) + (C + 13) * g.parts + (C + 13) * r.parts := by rw [Nat.mul_add, Nat.mul_add, Nat.mul_one]
    have d' : (tl k).length ≤ 8 := d
    omega
theorem text_len {C : Nat} (hC : 0 < C) {g : Gr} (h : g.Ok (10 ^ C)) : g.text.length ≤ (C + 13) * g.parts + 1 := by
  have := body_len hC h
  unfold text
  split
  · simp
  · omega
end Gr
def isFig (c : Nat) : Bool := decide (48 ≤ c ∧ c ≤ 57)
def isLtr (c : Nat) : Bool := decide (97 ≤ c ∧ c ≤ 122)
abbrev Rd (α : Type) := List Nat → Option (α × List Nat)
def rdPairOf (rdT : Rd Tr) : Rd (Tr × Int) := fun l =>
  if l.takeWhile isFig = [] then (rdT l).map fun x => ((x.1, 1), x.2)
  else if (l.takeWhile isFig).length > 60 ∨ (l.dropWhile isFig).head? ≠ some 32 then none
  else (rdT (l.dropWhile isFig).tail).map fun x => ((x.1, (NumText.digitsVal (l.takeWhile isFig) : Int)), x.2)
def rdTail (rdP : Rd (Tr × Int)) : Nat → Rd (List (Tr × Int))
  | 0, l => some ([], l)
  | f + 1, l => if l.take 2 = [44, 32] then (rdP (l.drop 2)).bind fun x => (rdTail rdP f x.2).map fun y => (x.1 :: y.1, y.2) else some ([], l)
def rdPairs (rdP : Rd (Tr × Int)) : Rd (List (Tr × Int)) := fun l => (rdP l).bind fun x => (rdTail rdP 100000 x.2).map fun y => (x.1 :: y.1, y.2)
def rdTree : Nat → Rd Tr
  | 0, l => if (l.dropWhile isLtr).head? ≠ some 123 then some ((⟨(l.takeWhile isLtr).toArray⟩, .nil), l.dropWhile isLtr) else none
  | n + 1, l => if (l.dropWhile isLtr).head? ≠ some 123 then some ((⟨(l.takeWhile isLtr).toArray⟩, .nil), l.dropWhile isLtr) else
      (rdPairs (rdPairOf (rdTree n)) (l.dropWhile isLtr).tail).bind fun x => if x.2.head? = some 125 then some ((⟨(l.takeWhile isLtr).toArray⟩, Gr.ofPs x.1), x.2.tail) else none
abbrev rdPair (n : Nat) : Rd (Tr × Int) := rdPairOf (rdTree n)
theorem takeWhile_app {p : Nat → Bool} : ∀ {as bs : List Nat}, (∀ a ∈ as, p a = true) → (∀ b, bs.head? = some b → p b = false) → (as ++ bs).takeWhile p = as ∧ (as ++ bs).dropWhile p = bs
  | [], bs, _, hb => by
    cases bs with
    | nil => exact ⟨rfl, rfl⟩
    | cons b r =>
      have := hb b rfl
      exact ⟨by simp [List.takeWhile, this], by simp [List.dropWhile, this]⟩
  | a :: as, bs, ha, hb => by
    obtain ⟨h1, h2⟩ := takeWhile_app (fun x hx => ha x (List.mem_cons_of_mem _ hx)) hb
    have := ha a (List.mem_cons_self ..)
    exact ⟨by rw [List.cons_append, List.takeWhile_cons, if_pos this, h1], by rw [List.cons_append, List.dropWhile_cons, if_pos this, h2]⟩
theorem name_ltrs {k : Str} (h : NameOk k) : ∀ c ∈ tl k, isLtr c = true := fun c hc => decide_eq_true (h.2.2 c hc)
theorem name_head {k : Str} (h : NameOk k) (r : List Nat) : ∃ c s, tl k ++ r = c :: s ∧ 97 ≤ c ∧ c ≤ 122 := by
  cases e : tl k with
  | nil => have := h.1; rw [show k.cps.toList = tl k from rfl, e] at this; simp at this
  | cons c s => exact ⟨c, s ++ r, rfl, h.2.2 c (by rw [show k.cps.toList = tl k from rfl, e]; simp)⟩
/-- what may stand behind a pair -/
def Stop (l : List Nat) : Prop := ∀ c, l.head? = some c → c = 44 ∨ c = 125
theorem rdPairOf_show {rdT : Rd Tr} {t : Tr} {m : Int} {l rest : List Nat} (hn : NameOk t.1) (h1 : 1 ≤ m) (hB : m < 10 ^ 60) (h : rdT (tl t.1 ++ l) = some (t, rest)) : rdPairOf rdT (numT m ++ (tl t.1 ++ l)) = some ((t, m), rest) := by
  obtain ⟨c, s, ec, hc1, hc2⟩ := name_head hn l
  unfold rdPairOf numT
  by_cases hm : m = 1
  · subst hm
    rw [if_pos rfl, List.nil_append]
    have e1 : (tl t.1 ++ l).takeWhile isFig = [] := by
      rw [ec, List.takeWhile_cons, if_neg]
      simp [isFig]; omega
    rw [if_pos e1, h]; rfl
  · rw [if_neg hm]
    obtain ⟨n, rfl⟩ : ∃ n : Nat, m = (n : Int) := ⟨m.toNat, by omega⟩
    rw [Int.toNat_natCast, List.append_assoc]
    have hd : ∀ a ∈ TL.numL n, isFig a = true := fun a ha => by
      have := TL.numL_digits n a ha
      exact decide_eq_true (by omega)
    obtain ⟨e1, e2⟩ := takeWhile_app (p := isFig) (as := TL.numL n) (bs := [32] ++ (tl t.1 ++ l)) hd (fun b hb => by
      have : (32 : Nat) = b := by simpa using hb
      subst this; rfl)
    rw [e1, e2, if_neg (TL.numL_ne n)]
    have hl : (TL.numL n).length ≤ 60 := TL.numL_len (by decide) (by exact_mod_cast hB)
    rw [if_neg (by simp; omega)]
    show (rdT (tl t.1 ++ l)).map _ = _
    rw [h, TL.numL_val]; rfl
theorem rdTree_show0 {n : Nat} {k : Str} {rest : List Nat} (hn : NameOk k) (hs : Stop rest) : rdTree n (tl k ++ rest) = some ((k, .nil), rest) := by
  obtain ⟨e1, e2⟩ := takeWhile_app (p := isLtr) (as := tl k) (bs := rest) (name_ltrs hn) (fun b hb => by
    rcases hs b hb with h | h <;> subst h <;> rfl)
  have hh : rest.head? ≠ some 123 := fun h => by rcases hs 123 h with e | e <;> cases e
  cases n with
  | zero => unfold rdTree; rw [e1, e2, if_pos hh, TL.mk_tl]
  | succ n => unfold rdTree; rw [e1, e2, if_pos hh, TL.mk_tl]
theorem rdTree_show1 {n : Nat} {k : Str} {g : Gr} {rest : List Nat} (hn : NameOk k) (hg : g ≠ .nil) (h : rdPairs (rdPair n) (g.body ++ ([125] ++ rest)) = some (g.ps, [125] ++ rest)) : rdTree (n + 1) (tl k ++ (g.held ++ rest)) = some ((k, g), rest) := by
  have e0 : g.held ++ rest = 123 :: (g.body ++ ([125] ++ rest)) := by
    unfold Gr.held; rw [if_neg hg]; simp
  rw [e0]
  obtain ⟨e1, e2⟩ := takeWhile_app (p := isLtr) (as := tl k) (bs := 123 :: (g.body ++ ([125] ++ rest))) (name_ltrs hn) (fun b hb => by
    have : (123 : Nat) = b := by simpa using hb
    subst this; rfl)
  unfold rdTree
  rw [e1, e2, if_neg (by simp)]
  show (rdPairs (rdPair n) (g.body ++ ([125] ++ rest))).bind _ = _
  rw [h]
  show (if ([125] ++ rest).head? = some 125 then some (((⟨(tl k).toArray⟩ : Str), Gr.ofPs g.ps), rest) else none) = _
  rw [TL.mk_tl, Gr.ofPs_ps]
  rfl
theorem Stop.nil : Stop [] := fun c h => by cases h
theorem Stop.comma (r : List Nat) : Stop (44 :: r) := fun c h => by have : (44 : Nat) = c := by simpa using h
                                                                    exact .inl this.symm
/-- what may stand behind pairs -/
def End (l : List Nat) : Prop := ∀ c, l.head? = some c → c = 125
theorem End.stop {l : List Nat} (h : End l) : Stop l := fun c hc => .inr (h c hc)
theorem more_stop (r : Gr) {rest : List Nat} (he : End rest) : Stop (r.more ++ rest) := by
  unfold Gr.more
  split
  · exact he.stop
  · exact Stop.comma _
theorem tail_end {rdP : Rd (Tr × Int)} {rest : List Nat} (he : End rest) (f : Nat) : rdTail rdP f rest = some ([], rest) := by
  cases f with
  | zero => rfl
  | succ f =>
    show (if rest.take 2 = [44, 32] then _ else _) = _
    rw [if_neg]
    intro z
    cases rest with
    | nil => simp at z
    | cons c s =>
      have hc := he c rfl
      subst hc
      simp at z
mutual
theorem rdTail_show : ∀ (r : Gr), r.Ok (10 ^ 60) → r.parts ≤ 100000 → ∀ (n f : Nat), r.ps.length ≤ f → r.deep ≤ n + 1 → ∀ rest, End rest → rdTail (rdPair n) f (r.more ++ rest) = some (r.ps, rest)
  | .nil, _, _, n, f, _, _, rest, he => by
    show rdTail (rdPair n) f rest = some ([], rest)
    exact tail_end he f
  | .cons k g m r, ho, hp, n, f, hf, hd, rest, he => by
    have hp2 : r.parts ≤ 100000 := by have : 1 + g.parts + r.parts ≤ 100000 := hp; omega
    cases f with
    | zero => simp [Gr.ps] at hf
    | succ f =>
      have hd2 : r.deep ≤ n + 1 := by have : max (1 + g.deep) r.deep ≤ n + 1 := hd; omega
      have hf' : r.ps.length ≤ f := by have : r.ps.length + 1 ≤ f + 1 := hf; omega
      have e : (Gr.cons k g m r).more ++ rest = 44 :: 32 :: (numT m ++ (tl k ++ (g.held ++ (r.more ++ rest)))) := by
        unfold Gr.more; rw [if_neg (fun z => nomatch z), Gr.body_cons]
        simp [Gr.more]
      rw [e]
      show (if (44 :: 32 :: (numT m ++ (tl k ++ (g.held ++ (r.more ++ rest))))).take 2 = [44, 32] then (rdPair n (numT m ++ (tl k ++ (g.held ++ (r.more ++ rest))))).bind (fun x => (rdTail (rdPair n) f x.2).map fun y => (x.1 :: y.1, y.2)) else _) = _
      rw [if_pos (show (44 :: 32 :: (numT m ++ (tl k ++ (g.held ++ (r.more ++ rest))))).take 2 = [44, 32] from rfl), rdPair_show k g m r ho hp n hd (r.more ++ rest) (more_stop r he)]
      show (rdTail (rdPair n) f (r.more ++ rest)).map _ = _
      rw [rdTail_show r ho.2.2.2.2.1 hp2 n f hf' hd2 rest he]; rfl
theorem rdPair_show : ∀ (k : Str) (g : Gr) (m : Int) (r : Gr), (Gr.cons k g m r).Ok (10 ^ 60) → (Gr.cons k g m r).parts ≤ 100000 → ∀ (n : Nat), (Gr.cons k g m r).deep ≤ n + 1 → ∀ rest, Stop rest → rdPair n (numT m ++ (tl k ++ (g.held ++ rest))) = some (((k, g), m), rest)
  | k, g, m, r, ⟨h0, h1, h2, h3, h4, _⟩, hp, n, hd, rest, hs => by
    have hp1 : g.parts ≤ 100000 := by have : 1 + g.parts + r.parts ≤ 100000 := hp; omega
    have hd1 : g.deep ≤ n := by have : max (1 + g.deep) r.deep ≤ n + 1 := hd; omega
    refine rdPairOf_show (t := (k, g)) h0 h2 h3 ?_
    match g, h1, hd1, hp1 with
    | .nil, _, _, _ =>
      show rdTree n (tl k ++ ([] ++ rest)) = _
      exact rdTree_show0 h0 hs
    | .cons k2 g2 m2 r2, h1, hd1, hp1 =>
      match n, hd1 with
      | 0, hd1 => have : max (1 + g2.deep) r2.deep ≤ 0 := hd1; omega
      | n + 1, hd1 =>
        refine rdTree_show1 h0 (fun z => nomatch z) ?_
        have e : (Gr.cons k2 g2 m2 r2).body ++ ([125] ++ rest) = numT m2 ++ (tl k2 ++ (g2.held ++ (r2.more ++ ([125] ++ rest)))) := by
          rw [Gr.body_cons]; simp
        have he : End ([125] ++ rest) := fun c hc => by
          have : (125 : Nat) = c := by simpa using hc
          exact this.symm
        rw [e]
        unfold rdPairs
        rw [rdPair_show k2 g2 m2 r2 h1 hp1 n hd1 _ (more_stop r2 he)]
        show (rdTail (rdPair n) 100000 (r2.more ++ ([125] ++ rest))).map _ = _
        have hd2 : r2.deep ≤ n + 1 := by have : max (1 + g2.deep) r2.deep ≤ n + 1 := hd1; omega
        have hp2 : r2.parts ≤ 100000 := by have : 1 + g2.parts + r2.parts ≤ 100000 := hp1; omega
        rw [rdTail_show r2 h1.2.2.2.2.1 hp2 n 100000 (Nat.le_trans r2.len_parts hp2) hd2 _ he]; rfl
end
theorem rdPairs_show {g : Gr} (ho : g.Ok (10 ^ 60)) (hp : g.parts ≤ 100000) (hne : g ≠ .nil) {n : Nat} (hd : g.deep ≤ n + 1) {rest : List Nat} (he : End rest) : rdPairs (rdPair n) (g.body ++ rest) = some (g.ps, rest) := by
  cases g with
  | nil => exact absurd rfl hne
  | cons k g m r =>
    have e : (Gr.cons k g m r).body ++ rest = numT m ++ (tl k ++ (g.held ++ (r.more ++ rest))) := by rw [Gr.body_cons]; simp
    rw [e]
    unfold rdPairs
    rw [rdPair_show k g m r ho hp n hd _ (more_stop r he)]
    show (rdTail (rdPair n) 100000 (r.more ++ rest)).map _ = _
    have hd2 : r.deep ≤ n + 1 := by have : max (1 + g.deep) r.deep ≤ n + 1 := hd; omega
    have hp2 : r.parts ≤ 100000 := by have : 1 + g.parts + r.parts ≤ 100000 := hp; omega
    rw [rdTail_show r ho.2.2.2.2.1 hp2 n 100000 (Nat.le_trans r.len_parts hp2) hd2 _ he]; rfl
end FT
namespace FT
open PySem PySem.W PySem.Spec PyProof.Rows L2
open TL (tl)
theorem none_spX {P : Program} {w : World} {K : PySem.W.Frag} {mg : Str → Option Value} {base : Heap} {f : Addr} {fd : FuncData} {ps : List Str} {k : Nat} {sp : Sp} (no : ∀ vs H Q E, ¬ sp vs H Q E) : FnOk P w K mg base (L2.CX P w) k f fd ps sp :=
  ⟨fun vs H Q E h => absurd h (no vs H Q E), fun A outer s H args us vs Q E _ _ _ _ h => absurd h (no vs H Q E)⟩
theorem deep_ofPs {n : Nat} {ps : List (Tr × Int)} (h : ∀ p ∈ ps, p.1.2.deep ≤ n) : (Gr.ofPs ps).deep ≤ n + 1 := by
  refine Gr.deep_le fun p hp => ?_
  rw [Gr.ps_ofPs] at hp
  have := h p hp; omega
/-- a text that shows a grove within the bounds -/
structure Shows (z : Str) (g : Gr) : Prop where
  tx : tl z = g.text
  ok : g.Ok (10 ^ 60)
  parts : g.parts ≤ 60
  deep : g.deep ≤ 12
theorem text_dash {g : Gr} (h : g.Ok (10 ^ 60)) (e : g.text = [45]) : g = .nil := by
  cases g with
  | nil => rfl
  | cons k g m r =>
    rw [Gr.text_cons, Gr.body_cons] at e
    exfalso
    obtain ⟨c, s, ec, hc1, hc2⟩ := name_head h.1 (g.held ++ r.more)
    rw [ec] at e
    unfold numT at e
    split at e
    · rw [List.nil_append] at e
      injection e with e1 e2
      omega
    · have hd := TL.numL_digits m.toNat
      have hne := TL.numL_ne m.toNat
      cases hx : TL.numL m.toNat with
      | nil => exact hne hx
      | cons a b =>
        rw [hx] at e hd
        injection e with e1 e2
        have := hd a (List.mem_cons_self ..)
        omega
theorem Shows.len {z : Str} {g : Gr} (h : Shows z g) : z.length ≤ 4381 := by
  have := Gr.text_len (C := 60) (by decide) h.ok
  rw [← h.tx, ← TL.len_tl] at this
  have := h.parts
  omega
theorem Shows.read {z : Str} {g : Gr} (h : Shows z g) (hne : g ≠ .nil) : rdPairs (rdPair 12) (tl z) = some (g.ps, []) := by
  have := rdPairs_show h.ok (by have := h.parts; omega) hne (n := 12) (by have := h.deep; omega) (rest := []) (fun c hc => by cases hc)
  rw [List.append_nil] at this
  rw [h.tx]
  unfold Gr.text
  rw [if_neg hne]; exact this
end FT
namespace FT
open PySem PySem.W PySem.Spec PyProof.Rows L2
abbrev SetOfS (P : Program) (w : World) (h : Heap) (a : Addr) (L : List Str) : Prop := h.SetOf (PySem.strKind P w) a (fun k => L.any (· == k)) L.length
theorem SetOfS.keep {P : Program} {w : World} {h h' : Heap} {a : Addr} {L : List Str} (S : SetOfS P w h a L) (k : ∀ o, h.get? a = some o → h'.get? a = some o) : SetOfS P w h' a L := by
  obtain ⟨o, es, ep, t, ho, r⟩ := S; exact ⟨o, es, ep, t, k o ho, r⟩
end FT
namespace FT
open PySem PySem.W PySem.Spec PyProof.Rows L2
/-- a reading that asks less -/
theorem _root_.L2.PE.wide {X : Cx} {e : Expr} {te : TE} (h : PE X e te) : PE X e (fun σ H Q => ∃ Q' : VK, te σ H Q' ∧ ∀ v H', Q' v H' → Q v H') :=
  ⟨fun pins s σ H Q I ⟨Q', h1, h2⟩ => thn (h.run pins s σ H Q' I h1) fun v s1 ⟨y, H1, I1, r, q⟩ => ⟨y, H1, I1, r, h2 _ _ q⟩⟩
end FT
namespace FT
open PySem PySem.W PySem.Spec PyProof.Rows L2
abbrev Ru := Gr × Gr
def Ru.enc (r : Ru) : PyData := .tuple [r.1.enc, r.2.enc]
def Ru.within (r : Ru) : List (Tr × Int) := r.1.within ++ r.2.within
structure Kd where
  n : Str
  w : Bool
  rs : List Ru
abbrev Bk := List Kd
abbrev Bk.names (b : Bk) : List Str := b.map (·.n)
def Kd.rowE (k : Kd) : PyData := .tuple (k.rs.map Ru.enc)
def Bk.get (b : Bk) (n : Str) : Option Kd := b.find? fun k => decide (k.n = n)
def RuOk (r : Ru) : Prop := r.1.Ok 1000000001 ∧ r.2.Ok 1000000001 ∧ r.1.parts + r.2.parts ≤ 4
def KdOk (ns : List Str) (k : Kd) : Prop := NameOk k.n ∧ k.rs.length ≤ 4 ∧ ∀ r ∈ k.rs, RuOk r ∧ ∀ p ∈ Ru.within r, p.1.1 ∈ ns
structure Bk.Ok (b : Bk) : Prop where
  pos : 1 ≤ b.length
  len : b.length ≤ 8
  nd : b.names.Nodup
  kd : ∀ k ∈ b, KdOk b.names k
theorem Ru.noList_enc (r : Ru) : noList (Ru.enc r) = true := by simp [Ru.enc, noList, noLists, Gr.noList_enc]
theorem Kd.noList_rowE (k : Kd) : noList k.rowE = true := by
  unfold Kd.rowE noList
  induction k.rs with
  | nil => rfl
  | cons r l ih => rw [List.map_cons, noLists, Ru.noList_enc, ih]; rfl
theorem Bk.get_some {b : Bk} {n : Str} {k : Kd} (h : b.get n = some k) : k ∈ b ∧ k.n = n :=
  ⟨List.mem_of_find?_eq_some h, of_decide_eq_true (List.find?_some (p := fun k : Kd => decide (k.n = n)) h)⟩
theorem Bk.get_none {b : Bk} {n : Str} (h : b.get n = none) : n ∉ b.names := fun z => by
  obtain ⟨k, hk, e⟩ := List.mem_map.mp z
  have := List.find?_eq_none.mp h k hk
  exact this (decide_eq_true e)
theorem Bk.get_of {b : Bk} {n : Str} (h : n ∈ b.names) : ∃ k, b.get n = some k := by
  cases e : b.get n with
  | none => exact absurd h (Bk.get_none e)
  | some k => exact ⟨k, rfl⟩
theorem Bk.get_self {b : Bk} (nd : b.names.Nodup) {k : Kd} (hk : k ∈ b) : b.get k.n = some k := by
  induction b with
  | nil => cases hk
  | cons x r ih =>
    have nd' : (x.n :: Bk.names r).Nodup := nd
    unfold Bk.get
    rcases List.mem_cons.mp hk with e | e
    · subst e; rw [List.find?_cons_of_pos (by simp)]
    · have : ¬ x.n = k.n := fun z => (List.nodup_cons.mp nd').1 (by rw [z]; exact List.mem_map.mpr ⟨k, e, rfl⟩)
      rw [List.find?_cons_of_neg (by simpa using this)]
      exact ih (List.nodup_cons.mp nd').2 e
/-- the rows of a book, by their names -/
def Bk.rowKV (b : Bk) (us : List V) : List (Key × V) := List.zipWith (fun (k : Kd) (u : V) => (Sum.inr k.n, u)) b us
def Bk.spKV (b : Bk) : List (Key × V) := b.map fun k => (Sum.inr k.n, V.bl k.w)
abbrev bkF (d1 d2 : Addr) : List (Str × V) := [("spread_by_name", .ref d1), ("rows_by_name", .ref d2)]
/-- v is an instance of the class at C that holds the book b -/
def BkA (K : PySem.W.Frag) (C : Addr) (H : Hp) (v : V) (b : Bk) : Prop := ∃ (a dx d1 d2 : Addr) (us : List V), v = .ref a ∧ H a = some (.ins C dx (bkF d1 d2)) ∧ H d1 = some (.dK b.spKV) ∧ H d2 = some (.dK (b.rowKV us)) ∧ Bears K H Kd.rowE us b
def Lsts (H : Hp) (ps : List Addr) : Prop := ∀ p ∈ ps, H p = none ∨ ∃ xs, H p = some (.lst xs)
theorem Lsts.nil {H : Hp} : Lsts H [] := fun _ h => nomatch h
theorem Lsts.one {H : Hp} {p : Addr} {xs : List V} (h : H p = some (.lst xs)) : Lsts H [p] := fun q z => by rw [List.mem_singleton.mp z]; exact .inr ⟨xs, h⟩
theorem Lsts.cons {H : Hp} {p : Addr} {xs : List V} {ps : List Addr} (h : H p = some (.lst xs)) (hs : Lsts H ps) : Lsts H (p :: ps) := fun q z => by
  rcases List.mem_cons.mp z with z | z
  · rw [z]; exact .inr ⟨xs, h⟩
  · exact hs q z
theorem Lsts.notin {H : Hp} {ps : List Addr} (h : Lsts H ps) {a : Addr} {o : HO} (e : H a = some o) (n : ∀ xs, o ≠ .lst xs) : a ∉ ps := fun z => by
  rcases h a z with q | ⟨xs, q⟩
  · rw [e] at q; cases q
  · rw [e] at q; exact n xs (Option.some.inj q)
section
variable {K : PySem.W.Frag} {C : Addr} {H H' : Hp} {v : V} {b : Bk} {ps : List Addr}
theorem BkA.sb (h : BkA K C H v b) (e : SB ps H H') (hp : Lsts H ps) : BkA K C H' v b := by
  obtain ⟨a, dx, d1, d2, us, rfl, h1, h2, h3, h4⟩ := h
  exact ⟨a, dx, d1, d2, us, rfl, e.keep _ _ h1 (hp.notin h1 fun _ z => nomatch z), e.keep _ _ h2 (hp.notin h2 fun _ z => nomatch z), e.keep _ _ h3 (hp.notin h3 fun _ z => nomatch z), h4.sb e Kd.noList_rowE⟩
theorem BkA.at (h : BkA K C H v b) : ∃ a dx d1 d2, v = .ref a ∧ H a = some (.ins C dx (bkF d1 d2)) := by
  obtain ⟨a, dx, d1, d2, us, e, h1, _⟩ := h
  exact ⟨a, dx, d1, d2, e, h1⟩
end
inductive KT where
  | other
  | three (d : PyData) (w : Option Bool) (rs : Option (List PyData))
def Kd.kt (k : Kd) : KT := .three (.str k.n) (some k.w) (some (k.rs.map Ru.enc))
/-- a thing that is no tuple of three, or a tuple of three: of any thing, a truth or not, a list of things or not -/
def KTA (K : PySem.W.Frag) (H : Hp) (v : V) : KT → Prop
  | .other => ∃ d, Tg K H v d ∧ ∀ ds, d = .tuple ds → ds.length ≠ 3
  | .three d w rs => ∃ (t : Addr) (x y z : V), v = .ref t ∧ SqT K H t [x, y, z] ∧ Tg K H x d ∧ (match w with
      | some b => y = .bl b
      | none => ∃ n, TyX K H y (.type n) ∧ kitB n "bool" = some false) ∧ (match rs with
      | some ds => ∃ (l : Addr) (zs : List V), z = .ref l ∧ H l = some (.lst zs) ∧ TgAll K H zs ds
      | none => ∃ n, TyX K H z (.type n) ∧ kitB n "list" = some false)
inductive KTAll (K : PySem.W.Frag) (H : Hp) : List V → List KT → Prop
  | nil : KTAll K H [] []
  | cons {v : V} {t : KT} {vs : List V} {ts : List KT} : KTA K H v t → KTAll K H vs ts → KTAll K H (v :: vs) (t :: ts)
theorem getK {H : Hp} {d : Addr} {kvs : List (Key × V)} {n : Str} {v : V} (h : H d = some (.dK kvs)) (e : valV kvs (Sum.inr n) = some v) : DGet H d (.str n) (some v) := .inl ⟨kvs, Sum.inr n, .inl h, rfl, e.symm⟩
end FT
namespace FT
open PySem PySem.W PySem.Spec PyProof.Rows L2
theorem within_deep : ∀ g : Gr, g.deep ≤ g.parts
  | .nil => Nat.le_refl _
  | .cons k g m r => by
    have h1 := within_deep g
    have h2 := within_deep r
    show max (1 + g.deep) r.deep ≤ 1 + g.parts + r.parts
    omega
section
variable {K : PySem.W.Frag} {H H' : Hp}
theorem KTA_sb (e : SB [] H H') : ∀ {t : KT} {v : V}, KTA K H v t → KTA K H' v t
  | .other, v, ⟨d, h1, h2⟩ => ⟨d, Tg_sb e h1, h2⟩
  | .three d w rs, v, ⟨t, x, y, z, e0, h1, h2, h3, h4⟩ => by
    refine ⟨t, x, y, z, e0, e.sqT h1, Tg_sb e h2, ?_, ?_⟩
    · cases w with
      | some b => exact h3
      | none =>
        obtain ⟨n, a, b⟩ := h3
        exact ⟨n, TyX_sb e (fun _ _ => List.not_mem_nil) a, b⟩
    · cases rs with
      | some ds =>
        obtain ⟨l, zs, e1, h5, h6⟩ := h4
        exact ⟨l, zs, e1, e.keep _ _ h5 List.not_mem_nil, TgAll_sb e h6⟩
      | none =>
        obtain ⟨n, a, b⟩ := h4
        exact ⟨n, TyX_sb e (fun _ _ => List.not_mem_nil) a, b⟩
theorem KTAll.sb (e : SB [] H H') : ∀ {vs : List V} {ts : List KT}, KTAll K H vs ts → KTAll K H' vs ts
  | _, _, .nil => .nil
  | _, _, .cons h t => .cons (KTA_sb e h) (KTAll.sb e t)
theorem KTAll.length : ∀ {vs : List V} {ts : List KT}, KTAll K H vs ts → vs.length = ts.length
  | _, _, .nil => rfl
  | _, _, .cons h t => by rw [List.length_cons, List.length_cons, KTAll.length t]
theorem KTAll.get : ∀ {vs : List V} {ts : List KT} {i : Nat} {v : V}, KTAll K H vs ts → vs[i]? = some v → ∃ t, ts[i]? = some t ∧ KTA K H v t
  | _, _, i, v, .nil, h => by simp at h
  | _, _, 0, v, .cons h t, e => by simp at e; subst e; exact ⟨_, rfl, h⟩
  | _, _, i + 1, v, .cons h t, e => by
    simp at e
    obtain ⟨t', e', h'⟩ := KTAll.get (i := i) t e
    exact ⟨t', by simpa using e', h'⟩
theorem TgAll_rules : ∀ {rs : List Ru} {zs : List V}, TgAll K H zs (rs.map Ru.enc) → Bears K H Ru.enc zs rs
  | [], _, .nil => .nil
  | r :: rs, _, .cons h t => by
    refine .cons ?_ (TgAll_rules t)
    cases (h : Tg K H _ (.tuple [r.1.enc, r.2.enc])) with
    | tup hs ha =>
      cases ha with
      | cons h1 ha =>
      cases ha with
      | cons h2 ha =>
      cases ha
      cases h1 with
      | tup a1 b1 =>
      cases h2 with
      | tup a2 b2 => exact .tup hs (.cons (.tup a1 (Tg_ga r.1 b1)) (.cons (.tup a2 (Tg_ga r.2 b2)) .nil))
/-- v is a tuple of a name, a truth and a list of rules, which is none of bad: those of k -/
def KdA (K : PySem.W.Frag) (H : Hp) (bad : List Addr) (v : V) (k : Kd) : Prop := ∃ (t l : Addr) (zs : List V), v = .ref t ∧ SqT K H t [.str k.n, .bl k.w, .ref l] ∧ H l = some (.lst zs) ∧ Bears K H Ru.enc zs k.rs ∧ l ∉ bad
theorem KTA_kd {k : Kd} {v : V} (h : KTA K H v k.kt) : KdA K H [] v k := by
  obtain ⟨t, x, y, z, e0, h1, h2, h3, l, zs, rfl, h5, h6⟩ := h
  have h3 : y = .bl k.w := h3
  subst h3
  cases h2
  exact ⟨t, l, zs, e0, h1, h5, TgAll_rules h6, List.not_mem_nil⟩
def NoLst (H : Hp) (bad ps : List Addr) : Prop := ∀ p ∈ ps, p ∈ bad ∨ ∀ xs, H p ≠ some (.lst xs)
theorem NoLst.nil {bad : List Addr} : NoLst H bad [] := fun _ z => nomatch z
theorem KdA.sb {k : Kd} {v : V} {ps bad : List Addr} (h : KdA K H bad v k) (e : SB ps H H') (n : NoLst H bad ps) : KdA K H' bad v k := by
  obtain ⟨t, l, zs, e0, h1, h2, h3, h4⟩ := h
  exact ⟨t, l, zs, e0, e.sqT h1, e.keep _ _ h2 fun z => (n _ z).elim h4 fun y => y _ h2, h3.sb e Ru.noList_enc, h4⟩
inductive KdAll (K : PySem.W.Frag) (H : Hp) (bad : List Addr) : List V → Bk → Prop
  | nil : KdAll K H bad [] []
  | cons {v : V} {k : Kd} {vs : List V} {b : Bk} : KdA K H bad v k → KdAll K H bad vs b → KdAll K H bad (v :: vs) (k :: b)
theorem KdAll.sb {ps bad : List Addr} (e : SB ps H H') (n : NoLst H bad ps) : ∀ {vs : List V} {b : Bk}, KdAll K H bad vs b → KdAll K H' bad vs b
  | _, _, .nil => .nil
  | _, _, .cons h t => .cons (h.sb e n) (KdAll.sb e n t)
theorem KdAll.append {bad : List Addr} : ∀ {xs ys : List V} {bs cs : Bk}, KdAll K H bad xs bs → KdAll K H bad ys cs → KdAll K H bad (xs ++ ys) (bs ++ cs)
  | _, _, _, _, .nil, h => h
  | _, _, _, _, .cons a b, h => .cons a (KdAll.append b h)
theorem KdAll.length {bad : List Addr} : ∀ {vs : List V} {ts : Bk}, KdAll K H bad vs ts → vs.length = ts.length
  | _, _, .nil => rfl
  | _, _, .cons h t => by rw [List.length_cons, List.length_cons, KdAll.length t]
theorem KdAll.get {bad : List Addr} : ∀ {vs : List V} {ts : Bk} {i : Nat} {v : V}, KdAll K H bad vs ts → vs[i]? = some v → ∃ t, ts[i]? = some t ∧ KdA K H bad v t
  | _, _, i, v, .nil, h => by simp at h
  | _, _, 0, v, .cons h t, e => by simp at e; subst e; exact ⟨_, rfl, h⟩
  | _, _, i + 1, v, .cons h t, e => by
    simp at e
    obtain ⟨t', e', h'⟩ := KdAll.get (i := i) t e
    exact ⟨t', by simpa using e', h'⟩
theorem KTAll.kd : ∀ {b : Bk} {vs : List V}, KTAll K H vs (b.map Kd.kt) → KdAll K H [] vs b
  | [], _, .nil => .nil
  | k :: b, _, .cons h t => .cons (KTA_kd h) (KTAll.kd t)
theorem rules_TgAll {zs : List V} : ∀ {rs : List Ru} {zs : List V}, (∀ r ∈ rs, RuOk r) → Bears K H Ru.enc zs rs → TgAll K H zs (rs.map Ru.enc)
  | [], _, _, .nil => .nil
  | r :: rs, _, ok, .cons h t => by
    refine .cons ?_ (rules_TgAll (zs := zs) (fun x hx => ok x (List.mem_cons_of_mem _ hx)) t)
    obtain ⟨o1, o2, _⟩ := ok r (List.mem_cons_self ..)
    cases (h : Dp K H _ (.tuple [r.1.enc, r.2.enc])) with
    | tup hs ha =>
      cases ha with
      | cons h1 ha =>
      cases ha with
      | cons h2 ha =>
      cases ha
      exact .tup hs (.cons (GA_thing o1 h1) (.cons (GA_thing o2 h2) .nil))
theorem KdAll.kt {bad : List Addr} : ∀ {b : Bk} {vs : List V}, (∀ k ∈ b, NameOk k.n ∧ ∀ r ∈ k.rs, RuOk r) → KdAll K H bad vs b → KTAll K H vs (b.map Kd.kt)
  | [], _, _, .nil => .nil
  | k :: b, _, ok, .cons h t => by
    refine .cons ?_ (KdAll.kt (fun x hx => ok x (List.mem_cons_of_mem _ hx)) t)
    obtain ⟨t, l, zs, e0, h1, h2, h3, _⟩ := h
    obtain ⟨o1, o2⟩ := ok k (List.mem_cons_self ..)
    exact ⟨t, _, _, _, e0, h1, .str _ (name_short o1), rfl, l, zs, rfl, h2, rules_TgAll (zs := zs) o2 h3⟩
end
theorem putK_new {kvs : List (Key × V)} {k : Key} {v : V} (h : ∀ p ∈ kvs, p.1 ≠ k) : putK kvs k v = kvs ++ [(k, v)] := by
  unfold putK
  rw [if_neg]
  intro z
  obtain ⟨p, hp, e⟩ := List.any_eq_true.mp z
  exact h p hp (of_decide_eq_true e)
end FT
namespace FT
open PySem PySem.W PySem.Spec PyProof.Rows L2
def PuW (H : Hp) (p : Addr) : Prop := ∃ x y : Int, H p = some (.lst [.int x, .int y]) ∧ 0 ≤ x ∧ 0 ≤ y ∧ y < 2 ^ 62
theorem PuW.sb {H H' : Hp} {p : Addr} (h : PuW H p) (e : SB [] H H') : PuW H' p := by
  obtain ⟨x, y, h1, h2⟩ := h
  exact ⟨x, y, e.keep _ _ h1 List.not_mem_nil, h2⟩
theorem PuW.keep {H H' : Hp} {p : Addr} {ps : List Addr} (h : PuW H p) (e : SB ps H H') (n : p ∉ ps) : PuW H' p := by
  obtain ⟨x, y, h1, h2⟩ := h
  exact ⟨x, y, e.keep _ _ h1 n, h2⟩
theorem PuW.ne {H : Hp} {p q : Addr} (h : PuW H p) (n : H q = none) : p ≠ q := by
  obtain ⟨x, y, h1, h2⟩ := h
  exact ne_of_none h1 n
theorem PuW.some {H : Hp} {p : Addr} (h : PuW H p) : ∀ q ∈ [p], H q ≠ none := fun q hq z => by
  obtain ⟨x, y, h1, _⟩ := h
  rw [List.mem_singleton.mp hq, h1] at z
  cases z
section
variable {D : Ends} {σ : L2.St} {H : Hp} {t u : TS} {te : TE} {g : TG} {c : TT}
theorem seqI (h : t { D with nx := u D } σ H) : tSeq t u D σ H := h
end
theorem tot_filter (c : Tr × Int → Bool) : ∀ bs : List (Tr × Int), Gr.tot (bs.filter c) ≤ Gr.tot bs
  | [] => Nat.le_refl _
  | p :: r => by
    have := tot_filter c r
    rw [List.filter_cons]
    split
    · simp only [Gr.tot]; omega
    · simp only [Gr.tot]; omega
end FT
namespace FT
open PySem PySem.W PySem.Spec PyProof.Rows L2
def Kd.dat (k : Kd) : PyData := .tuple [.str k.n, .bool k.w, .list (k.rs.map Ru.enc)]
section
variable {K : PySem.W.Frag} {H H' : Hp}
theorem Bears_dp {α : Type} {enc : α → PyData} : ∀ {vs : List V} {xs : List α}, Bears K H enc vs xs → DpAll K H vs (xs.map enc)
  | _, _, .nil => .nil
  | _, _, .cons h t => .cons h (Bears_dp t)
theorem KdAll.dp {bad : List Addr} : ∀ {vs : List V} {b : Bk}, KdAll K H bad vs b → DpAll K H vs (b.map Kd.dat)
  | _, _, .nil => .nil
  | _, _, .cons ⟨t, l, zs, e, h1, h2, h3, _⟩ r => by
    subst e
    exact .cons (.tup h1 (.cons (.str _) (.cons (.bl _) (.cons (.lst (SqL.of h2) (Bears_dp h3)) .nil)))) (KdAll.dp r)
theorem KdAll.bad {bad : List Addr} (hb : ∀ p ∈ bad, H p = none) : ∀ {vs : List V} {b : Bk}, KdAll K H [] vs b → KdAll K H bad vs b
  | _, _, .nil => .nil
  | _, _, .cons ⟨t, l, zs, e, h1, h2, h3, _⟩ r => .cons ⟨t, l, zs, e, h1, h2, h3, fun z => by rw [hb l z] at h2; cases h2⟩ (KdAll.bad hb r)
end
end FT
namespace FT
open PySem PySem.W PySem.Spec PyProof.Rows L2
open TL (tl)
def Ru.text (r : Ru) : List Nat := [32, 62, 32] ++ (r.1.text ++ ([32, 47, 32] ++ r.2.text))
def Kd.mark (k : Kd) : List Nat := if k.w = true then [32, 42] else []
def Kd.text (k : Kd) : List Nat := tl k.n ++ (k.mark ++ (k.rs.map Ru.text).flatten)
def Bk.text (b : Bk) : List Nat := TL.joinL [59, 32] (b.map Kd.text)
/-- a step, the rest behind it known by what it needs -/
theorem seq_via {t rest : TS} {D : Ends} {σ : L2.St} {H : Hp} (R : L2.St → Hp → Prop) (h : ∀ nx : L2.St → Hp → Prop, (∀ σ' H', R σ' H' → nx σ' H') → t { D with nx := nx } σ H) (k : ∀ σ' H', R σ' H' → rest D σ' H') : tSeq t rest D σ H := h (rest D) k
theorem nameI {i : Nat} {v : V} {σ : L2.St} {H : Hp} {f : L2.St → Hp → Prop} {r : VK} {b c : L2.St → Hp → Prop} (h : f (σ.set i (some v)) H) : gName i v σ H (Ends.mk f r b c).nx := h
theorem Bk.Ok.two {b : Bk} (ok : b.Ok) : ∀ k ∈ b, k.rs.length ≤ 4 ∧ ∀ r ∈ k.rs, RuOk r := fun k hk => ⟨(ok.kd k hk).2.1, fun r hr => ((ok.kd k hk).2.2 r hr).1⟩
theorem Bk.Ok.three {b : Bk} (ok : b.Ok) : ∀ k ∈ b, NameOk k.n ∧ ∀ r ∈ k.rs, RuOk r := fun k hk => ⟨(ok.kd k hk).1, (ok.two k hk).2⟩
end FT
namespace FT
open PySem PySem.W PySem.Spec PyProof.Rows L2
open TL (tl)
def Ru.tail (r : Ru) : List Nat := r.1.text ++ ([32, 47, 32] ++ r.2.text)
def Kd.head (k : Kd) : List Nat := tl k.n ++ k.mark
theorem Shows.inj {z : Str} {g k : Gr} (h : Shows z g) (h' : Shows z k) : k = g := by
  by_cases e : g = .nil
  · subst e
    exact text_dash h'.ok (by rw [← h'.tx, h.tx]; rfl)
  · by_cases e' : k = .nil
    · subst e'
      exact absurd (text_dash h.ok (by rw [← h.tx, h'.tx]; rfl)) e
    · have a := h.read e
      have b := h'.read e'
      rw [a] at b
      injection b with b
      injection b with b _
      rw [← Gr.ofPs_ps k, ← Gr.ofPs_ps g, b]
structure InsC (K : PySem.W.Frag) (mg : Str → Option Value) (n : Str) (C : Addr) : Prop where
  c : Cls K C
  ha : PySem.W.findIn K (.ref C) "__class__" = some (some (.builtin "object.__class__"))
  hn : PySem.W.specialIn K (.builtin "object.__class__") "__get__" = some (some (.builtin "getset_descriptor.__get__"))
  htk : PySem.W.takesIn K (.builtin "object.__class__") = some true
  hm : PySem.W.mroIn K C (.type "object") = some true
  g : mg n = some (.ref C)
theorem InsC.ty {K : PySem.W.Frag} {mg : Str → Option Value} {n : Str} {C a dx : Addr} {H : Hp} {fs : List (Str × V)} (i : InsC K mg n C) (h : H a = some (.ins C dx fs)) : TyX K H (.ref a) (.ref C) := .base (.ins h i.c i.ha i.hn i.htk i.hm)
end FT
namespace FT
open PySem PySem.W PySem.Spec PyProof.Rows L2
open PySem.Froz (SD sObj TxOk addTx tailTx)
/-- the payload D holds the texts l, each once, and its table rises -/
structure TxS (P : Program) (w : World) (D : SD) (l : List Str) : Prop where
  ok : TxOk P w D l
  nd : l.Nodup
  ris : Ris D.2.2.place.toList
  led : w.params.followText "set-order" = true ∨ D.2.2.led = true
section
variable {P : Program} {w : World} {A : Around} {E : Value → Shared → Prop} {s : Shared} {D : SD} {l : List Str} {k : Str} {u : Tok} {a : Addr} {T : String}
theorem tail_walk {es : Array (Int × Value)} {ep : Nat} {t : SetTable} {b : Bool} (r : Ris t.place.toList) (d : w.params.followText "set-order" = true ∨ t.led = true) :
    Ris (tailTx ep es t b).2.2.place.toList ∧ (w.params.followText "set-order" = true ∨ (tailTx ep es t b).2.2.led = true) := by
  unfold tailTx
  split
  · exact ⟨relayAll_ris .., d.imp id fun z => by rw [relayAll_led]; exact z⟩
  · exact ⟨r, d⟩
theorem TxS.add (F : TxS P w D l) (hk : k ∉ l) : TxS P w (addTx (hashStr w k) (.str k u) D) (k :: l) := by
  obtain ⟨es, ep, t⟩ := D
  have r1 := layNew_ris t es (hashStr w k) (.str k u) F.ris
  have d1 := F.led.imp id fun z => (layNew_led t es (hashStr w k) (.str k u)).trans z
  have key : ∀ t' : SetTable, t'.place = (layNew t es (hashStr w k) (.str k u)).2.1.place → t'.led = (layNew t es (hashStr w k) (.str k u)).2.1.led → ∀ es' b, Ris (tailTx ep es' t' b).2.2.place.toList ∧ (w.params.followText "set-order" = true ∨ (tailTx ep es' t' b).2.2.led = true) :=
    fun t' e1 e2 es' b => tail_walk (by rw [e1]; exact r1) (by rw [e2]; exact d1)
  have z := key (if (layNew t es (hashStr w k) (.str k u)).2.1.plain = true then { (layNew t es (hashStr w k) (.str k u)).2.1 with plain := false } else (layNew t es (hashStr w k) (.str k u)).2.1) (by split <;> rfl) (by split <;> rfl) (layNew t es (hashStr w k) (.str k u)).1 (layNew t es (hashStr w k) (.str k u)).2.2.1
  exact ⟨PySem.Froz.add_ok u F.ok, List.nodup_cons.mpr ⟨hk, F.nd⟩, z.1, z.2⟩
end
end FT
namespace FT
open PySem PySem.W PySem.Spec PyProof.Rows L2
open PySem.Froz (SD sObj TxOk addTx tailTx)
def TxAt (P : Program) (w : World) (h : Heap) (a : Addr) (l : List Str) : Prop := ∃ D : SD, h.get? a = some (sObj "set" D) ∧ TxS P w D l
theorem TxAt.keep {P : Program} {w : World} {h h' : Heap} {a : Addr} {l : List Str} (S : TxAt P w h a l) (k : ∀ o, h.get? a = some o → h'.get? a = some o) : TxAt P w h' a l := by
  obtain ⟨D, e, F⟩ := S
  exact ⟨D, k _ e, F⟩
end FT
namespace FT
open PySem PySem.W PySem.Spec PyProof.Rows L2
namespace Gr
def ak : Gr → Nat → List (Pl × Str)
  | .nil, _ => []
  | .cons k g _ r, i => (([i], k) :: (g.ak 0).map fun x => (i :: x.1, x.2)) ++ r.ak (i + 1)
theorem deep_parts : ∀ g : Gr, g.deep ≤ g.parts
  | .nil => Nat.le_refl _
  | .cons k g m r => by
    have h1 := deep_parts g
    have h2 := deep_parts r
    show max (1 + g.deep) r.deep ≤ 1 + g.parts + r.parts
    omega
end Gr
structure Sx where
  n : Str
  i : Nat
  wd : Str
  p : Pl
  k : Str
def Sx.st (s : Sx) : PyData := .tuple [.str s.n, .int (s.i : Int), .str s.wd, plEnc s.p]
def Sx.enc (s : Sx) : PyData := .tuple [s.st, .str s.k]
theorem Sx.noList_st (s : Sx) : noList s.st = true := by simp [Sx.st, noList, noLists, pl_noList]
theorem Sx.noList_enc (s : Sx) : noList s.enc = true := by simp [Sx.enc, noList, noLists, Sx.noList_st]
def stG (n : Str) (i : Nat) (wd : Str) (g : Gr) : List Sx := (g.ak 0).map fun x => ⟨n, i, wd, x.1, x.2⟩
def stR (n : Str) (x : Ru × Nat) : List Sx := stG n x.2 "once" x.1.1 ++ stG n x.2 "each" x.1.2
def Kd.steps (k : Kd) : List Sx := (k.rs.zipIdx 1).flatMap (stR k.n)
/-- the kinds that stand in the rules -/
def ledR (rs : List Ru) : List Str := rs.flatMap fun r => r.within.map (·.1.1)
/-- the texts of ks, each once, sorted -/
structure SrtOf (ss ks : List Str) : Prop where
  srt : sortedS ss = true
  nd : ss.Nodup
  mem : ∀ x, x ∈ ss ↔ x ∈ ks
end FT
namespace FT
open PySem PySem.W PySem.Spec PyProof.Rows L2
theorem Bk.Ok.led {b : Bk} (ok : b.Ok) {k : Kd} (hk : k ∈ b) : ∀ x ∈ ledR k.rs, x ∈ b.names := fun x hx => by
  obtain ⟨r, hr, hx⟩ := List.mem_flatMap.mp hx
  obtain ⟨p, hp, rfl⟩ := List.mem_map.mp hx
  exact ((ok.kd k hk).2.2 r hr).2 p hp
theorem Bk.Ok.names {b : Bk} (ok : b.Ok) : ∀ x ∈ b.names, NameOk x := fun x hx => by
  obtain ⟨k, hk, rfl⟩ := List.mem_map.mp hx
  exact (ok.kd k hk).1
end FT
namespace FT
open PySem PySem.W PySem.Spec PyProof.Rows L2
def adj (b : Bk) (n : Str) : List Str := match b.get n with
  | some k => ledR k.rs
  | none => []
inductive EndK (b : Bk) : Str → Prop
  | mk {n : Str} : (∀ k, k ∈ adj b n → EndK b k) → EndK b n
inductive Rch (b : Bk) : Str → Str → Prop
  | one {n k : Str} : k ∈ adj b n → Rch b n k
  | step {n m k : Str} : Rch b n m → k ∈ adj b m → Rch b n k
section
variable {b : Bk}
theorem adj_get {n : Str} {k : Kd} (h : b.get n = some k) : adj b n = ledR k.rs := by unfold adj; rw [h]
theorem adj_names (ok : b.Ok) {n k : Str} (h : k ∈ adj b n) : k ∈ b.names := by
  unfold adj at h
  split at h
  · rename_i kd e
    exact ok.led (Bk.get_some e).1 k h
  · cases h
theorem adj_self {k : Kd} (ok : b.Ok) (hk : k ∈ b) : adj b k.n = ledR k.rs := adj_get (Bk.get_self ok.nd hk)
theorem Rch.trans {n m k : Str} (h : Rch b n m) (g : Rch b m k) : Rch b n k := by
  induction g with
  | one e => exact .step h e
  | step _ e ih => exact .step ih e
theorem Rch.cons {n m k : Str} (h : m ∈ adj b n) (g : Rch b m k) : Rch b n k := (Rch.one h).trans g
theorem Rch.split {n k : Str} (h : Rch b n k) : ∃ m, m ∈ adj b n ∧ (m = k ∨ Rch b m k) := by
  induction h with
  | one e => exact ⟨_, e, .inl rfl⟩
  | step _ e ih =>
    obtain ⟨m, hm, h⟩ := ih
    refine ⟨m, hm, .inr ?_⟩
    rcases h with h | h
    · rw [h]; exact .one e
    · exact .step h e
theorem EndK.next {n k : Str} (h : EndK b n) (e : k ∈ adj b n) : EndK b k := by
  cases h with
  | mk h => exact h k e
theorem EndK.noring {n : Str} (h : EndK b n) : ¬ Rch b n n := by
  induction h with
  | mk h ih =>
    intro g
    obtain ⟨m, hm, e⟩ := g.split
    refine ih m hm ?_
    rcases e with e | e
    · rw [e]; exact g
    · exact .step e hm
end
inductive LedAll (K : PySem.W.Frag) (H : Hp) : List (Key × V) → Bk → Prop
  | nil : LedAll K H [] []
  | cons {l : Addr} {ss : List Str} {k : Kd} {kvs : List (Key × V)} {b : Bk} : H l = some (.lst (ss.map V.str)) → SrtOf ss (ledR k.rs) → LedAll K H kvs b → LedAll K H ((Sum.inr k.n, .ref l) :: kvs) (k :: b)
section
variable {K : PySem.W.Frag} {H H' : Hp}
theorem LedAll.length : ∀ {kvs : List (Key × V)} {b : Bk}, LedAll K H kvs b → kvs.length = b.length
  | _, _, .nil => rfl
  | _, _, .cons _ _ t => congrArg (· + 1) t.length
theorem LedAll.keep (h : ∀ l xs, H l = some (.lst xs) → H' l = some (.lst xs)) : ∀ {kvs : List (Key × V)} {b : Bk}, LedAll K H kvs b → LedAll K H' kvs b
  | _, _, .nil => .nil
  | _, _, .cons a s t => .cons (h _ _ a) s (LedAll.keep h t)
theorem LedAll.append : ∀ {kvs kws : List (Key × V)} {b c : Bk}, LedAll K H kvs b → LedAll K H kws c → LedAll K H (kvs ++ kws) (b ++ c)
  | _, _, _, _, .nil, h => h
  | _, _, _, _, .cons a s t, h => .cons a s (t.append h)
theorem LedAll.val {n : Str} {k : Kd} : ∀ {kvs : List (Key × V)} {b : Bk}, LedAll K H kvs b → b.get n = some k → ∃ l ss, valV kvs (Sum.inr n) = some (.ref l) ∧ H l = some (.lst (ss.map V.str)) ∧ SrtOf ss (ledR k.rs)
  | _, _, .nil, e => by simp [Bk.get] at e
  | _, _, .cons (l := l) (ss := ss) (k := kk) (b := bb) a s t, e => by
    by_cases h : kk.n = n
    · have e' : kk = k := by
        have : Bk.get (kk :: bb) n = some kk := by simp [Bk.get, h]
        rw [this] at e; exact Option.some.inj e
      subst e'
      exact ⟨l, ss, valV_pos (by rw [h]), a, s⟩
    · have e' : Bk.get bb n = some k := by
        unfold Bk.get at e
        rw [List.find?_cons_of_neg (by simpa using h)] at e
        exact e
      obtain ⟨l', ss', h1, h2, h3⟩ := t.val e'
      exact ⟨l', ss', by rw [valV_neg (fun z => h (Sum.inr.inj z))]; exact h1, h2, h3⟩
theorem LedAll.get : ∀ {kvs : List (Key × V)} {b : Bk} {i : Nat} {p : Key × V}, LedAll K H kvs b → kvs[i]? = some p → ∃ k, b[i]? = some k ∧ p.1 = Sum.inr k.n
  | _, _, _, _, .nil, e => by simp at e
  | _, _, 0, _, .cons a s t, e => by
    obtain rfl := Option.some.inj e
    exact ⟨_, rfl, rfl⟩
  | _, _, i + 1, _, .cons a s t, e => t.get (i := i) e
end
theorem LedAll.sb {K : PySem.W.Frag} {H H' : Hp} {ps : List Addr} (e : SB ps H H') : ∀ {kvs : List (Key × V)} {b : Bk}, LedAll K H kvs b → (∀ p ∈ kvs, ∀ q ∈ ps, p.2 ≠ .ref q) → LedAll K H' kvs b
  | _, _, .nil, _ => .nil
  | _, _, .cons a s t, h => .cons (e.keep _ _ a fun z => h _ List.mem_cons_self _ z rfl) s (LedAll.sb e t fun p hp => h p (List.mem_cons_of_mem _ hp))
theorem LedAll.ne {K : PySem.W.Frag} {H : Hp} {q : Addr} (hq : H q = none) : ∀ {kvs : List (Key × V)} {b : Bk}, LedAll K H kvs b → ∀ p ∈ kvs, p.2 ≠ .ref q
  | _, _, .nil, p, hp => by cases hp
  | _, _, .cons a s t, p, hp => by
    rcases List.mem_cons.mp hp with e | e
    · rw [e]
      intro z
      rw [V.ref.inj z] at a
      rw [a] at hq; cases hq
    · exact LedAll.ne hq t p e
theorem LedAll.keys {K : PySem.W.Frag} {H : Hp} : ∀ {kvs : List (Key × V)} {b : Bk}, LedAll K H kvs b → kvs.map (·.1) = b.names.map Sum.inr
  | _, _, .nil => rfl
  | _, _, .cons a s t => by rw [List.map_cons, LedAll.keys t]; rfl
end FT
namespace FT
open PySem PySem.W PySem.Spec PyProof.Rows L2
inductive Wlk (b : Bk) (n : Str) : List Sx → Str → Prop
  | nil : Wlk b n [] n
  | step {p : List Sx} {m : Str} {kd : Kd} {s : Sx} : Wlk b n p m → b.get m = some kd → s ∈ kd.steps → Wlk b n (p ++ [s]) s.k
section
variable {b : Bk} {K : PySem.W.Frag} {H H' : Hp} {F F' : Addr → Prop} {n k h : Str} {l : Addr} {A B A' B' : Nat} {ps : List Addr}
/-- l holds a walk from n to k, of at least A and at most B steps -/
def Wy (K : PySem.W.Frag) (H : Hp) (F : Addr → Prop) (b : Bk) (n : Str) (A B : Nat) (k : Str) (l : Addr) : Prop := ∃ us q, H l = some (.lst us) ∧ Bears K H Sx.st us q ∧ Wlk b n q k ∧ A ≤ q.length ∧ q.length ≤ B ∧ F l
theorem Wy.sb (e : SB ps H H') (hn : ∀ p ∈ ps, ¬ F p ∨ ∀ us, H p ≠ some (.lst us)) : Wy K H F b n A B k l → Wy K H' F b n A B k l := by
  rintro ⟨us, q, h1, h2, h3, h4, h5, h6⟩
  exact ⟨us, q, e.keep _ _ h1 (fun z => (hn _ z).elim (fun y => y h6) fun y => y _ h1), h2.sb e Sx.noList_st, h3, h4, h5, h6⟩
theorem Wy.imp (hA : A' ≤ A) (hB : B ≤ B') (hF : ∀ l us, H l = some (.lst us) → F l → F' l) : Wy K H F b n A B k l → Wy K H F' b n A' B' k l := by
  rintro ⟨us, q, h1, h2, h3, h4, h5, h6⟩
  exact ⟨us, q, h1, h2, h3, by omega, by omega, hF _ _ h1 h6⟩
inductive WyD (K : PySem.W.Frag) (H : Hp) (F : Addr → Prop) (b : Bk) (n : Str) (A B : Nat) : List (Key × V) → List Str → Prop
  | nil : WyD K H F b n A B [] []
  | cons {k : Str} {l : Addr} {kvs : List (Key × V)} {ks : List Str} : Wy K H F b n A B k l → WyD K H F b n A B kvs ks → WyD K H F b n A B ((Sum.inr k, .ref l) :: kvs) (k :: ks)
theorem WyD.map (f : ∀ k l, Wy K H F b n A B k l → Wy K H' F' b n A' B' k l) : ∀ {kvs : List (Key × V)} {ks : List Str}, WyD K H F b n A B kvs ks → WyD K H' F' b n A' B' kvs ks
  | _, _, .nil => .nil
  | _, _, .cons h t => .cons (f _ _ h) (WyD.map f t)
theorem WyD.sb {kvs : List (Key × V)} {ks : List Str} (h : WyD K H F b n A B kvs ks) (e : SB ps H H') (hn : ∀ p ∈ ps, ¬ F p ∨ ∀ us, H p ≠ some (.lst us)) : WyD K H' F b n A B kvs ks := h.map fun _ _ => Wy.sb e hn
theorem WyD.imp {kvs : List (Key × V)} {ks : List Str} (h : WyD K H F b n A B kvs ks) (hA : A' ≤ A) (hB : B ≤ B') (hF : ∀ l us, H l = some (.lst us) → F l → F' l) : WyD K H F' b n A' B' kvs ks := h.map fun _ _ => Wy.imp hA hB hF
theorem WyD.append : ∀ {kvs kws : List (Key × V)} {ks js : List Str}, WyD K H F b n A B kvs ks → WyD K H F b n A B kws js → WyD K H F b n A B (kvs ++ kws) (ks ++ js)
  | _, _, _, _, .nil, h => h
  | _, _, _, _, .cons a t, h => .cons a (t.append h)
theorem WyD.length : ∀ {kvs : List (Key × V)} {ks : List Str}, WyD K H F b n A B kvs ks → kvs.length = ks.length
  | _, _, .nil => rfl
  | _, _, .cons _ t => congrArg (· + 1) t.length
theorem WyD.keys : ∀ {kvs : List (Key × V)} {ks : List Str}, WyD K H F b n A B kvs ks → kvs.map (·.1) = ks.map Sum.inr
  | _, _, .nil => rfl
  | _, _, .cons _ t => by rw [List.map_cons, t.keys]; rfl
theorem WyD.val : ∀ {kvs : List (Key × V)} {ks : List Str}, WyD K H F b n A B kvs ks → k ∈ ks → ∃ l, valV kvs (Sum.inr k) = some (.ref l) ∧ Wy K H F b n A B k l
  | _, _, .nil, h => by cases h
  | _, _, .cons (k := j) (l := l) a t, h => by
    by_cases e : j = k
    · subst e
      exact ⟨l, valV_pos rfl, a⟩
    · obtain ⟨l', h1, h2⟩ := t.val ((List.mem_cons.mp h).resolve_left fun z => e z.symm)
      exact ⟨l', by rw [valV_neg (fun z => e (Sum.inr.inj z))]; exact h1, h2⟩
theorem WyD.none : ∀ {kvs : List (Key × V)} {ks : List Str}, WyD K H F b n A B kvs ks → k ∉ ks → valV kvs (Sum.inr k) = none
  | _, _, .nil, h => rfl
  | _, _, .cons (k := j) a t, h => by
    rw [valV_neg (fun z => h (by rw [← Sum.inr.inj z]; exact List.mem_cons_self))]
    exact t.none fun z => h (List.mem_cons_of_mem _ z)
theorem WyD.put {kvs : List (Key × V)} {ks : List Str} (h : WyD K H F b n A B kvs ks) (hk : k ∉ ks) (w : Wy K H F b n A B k l) : WyD K H F b n A B (putK kvs (Sum.inr k) (.ref l)) (ks ++ [k]) := by
  rw [putK_new fun p hp z => ?_]
  · exact h.append (.cons w .nil)
  · have : p.1 ∈ ks.map (Sum.inr (α := Int)) := by rw [← h.keys]; exact List.mem_map.mpr ⟨p, hp, rfl⟩
    rw [z] at this
    obtain ⟨m, hm, e⟩ := List.mem_map.mp this
    exact hk (by rw [← Sum.inr.inj e]; exact hm)
/-- heads with their walks -/
inductive HdAll (K : PySem.W.Frag) (H : Hp) (F : Addr → Prop) (b : Bk) (n : Str) (A B : Nat) : List V → List Str → Prop
  | nil : HdAll K H F b n A B [] []
  | cons {k : Str} {t l : Addr} {vs : List V} {ks : List Str} : SqT K H t [.str k, .ref l] → Wy K H F b n A B k l → HdAll K H F b n A B vs ks → HdAll K H F b n A B (.ref t :: vs) (k :: ks)
theorem HdAll.sb (e : SB ps H H') (hn : ∀ p ∈ ps, ¬ F p ∨ ∀ us, H p ≠ some (.lst us)) : ∀ {vs : List V} {ks : List Str}, HdAll K H F b n A B vs ks → HdAll K H' F b n A B vs ks
  | _, _, .nil => .nil
  | _, _, .cons a w t => .cons (e.sqT a) (w.sb e hn) (HdAll.sb e hn t)
theorem HdAll.imp (hA : A' ≤ A) (hB : B ≤ B') (hF : ∀ l us, H l = some (.lst us) → F l → F' l) : ∀ {vs : List V} {ks : List Str}, HdAll K H F b n A B vs ks → HdAll K H F' b n A' B' vs ks
  | _, _, .nil => .nil
  | _, _, .cons a w t => .cons a (w.imp hA hB hF) (HdAll.imp hA hB hF t)
theorem HdAll.append : ∀ {vs ws : List V} {ks js : List Str}, HdAll K H F b n A B vs ks → HdAll K H F b n A B ws js → HdAll K H F b n A B (vs ++ ws) (ks ++ js)
  | _, _, _, _, .nil, h => h
  | _, _, _, _, .cons a w t, h => .cons a w (t.append h)
theorem HdAll.length : ∀ {vs : List V} {ks : List Str}, HdAll K H F b n A B vs ks → vs.length = ks.length
  | _, _, .nil => rfl
  | _, _, .cons _ _ t => congrArg (· + 1) t.length
theorem HdAll.get : ∀ {vs : List V} {ks : List Str} {i : Nat} {v : V}, HdAll K H F b n A B vs ks → vs[i]? = some v → ∃ k t l, ks[i]? = some k ∧ v = .ref t ∧ SqT K H t [.str k, .ref l] ∧ Wy K H F b n A B k l
  | _, _, _, _, .nil, e => by simp at e
  | _, _, 0, _, .cons a w t, e => by
    obtain rfl := Option.some.inj e
    exact ⟨_, _, _, rfl, rfl, a, w⟩
  | _, _, i + 1, _, .cons a w t, e => t.get (i := i) e
/-- within a round of ways_from: gs are the kinds newly found, with their heads in G -/
structure WSt (K : PySem.W.Frag) (H H2 : Hp) (b : Bk) (n : Str) (Wd Fa G : Addr) (vs : List V) (hs ks gs : List Str) : Prop where
  sb : SB [] H H2
  wd : ∃ kvs, H2 Wd = some (.dK kvs) ∧ WyD K H2 (fun l => H l = none ∧ l ≠ G) b n 1 (ks.length + 1) kvs (ks ++ gs)
  g : ∃ ws, H2 G = some (.lst ws) ∧ HdAll K H2 (fun l => H l = none ∧ l ≠ G) b n 1 (ks.length + 1) ws gs
  fa : H2 Fa = some (.lst vs)
  hd : HdAll K H2 (fun l => H l = none ∧ l ≠ G) b n 0 ks.length vs hs
  nd : (ks ++ gs).Nodup
  rc : ∀ x ∈ ks ++ gs, Rch b n x
theorem WSt.keep {H2 H3 : Hp} {Wd Fa G : Addr} {vs : List V} {hs ks gs : List Str} (h : WSt K H H2 b n Wd Fa G vs hs ks gs) (s : SB [] H2 H3) : WSt K H H3 b n Wd Fa G vs hs ks gs := by
  obtain ⟨h1, ⟨kvs, h2, h3⟩, ⟨ws, h4, h5⟩, h6, h7, h8, h9⟩ := h
  have z : ∀ p ∈ ([] : List Addr), ¬ (fun l => H l = none ∧ l ≠ G) p ∨ ∀ us, H2 p ≠ some (.lst us) := fun _ y => nomatch y
  exact ⟨h1.trans s, ⟨kvs, s.keep _ _ h2 List.not_mem_nil, h3.sb s z⟩, ⟨ws, s.keep _ _ h4 List.not_mem_nil, h5.sb s z⟩, s.keep _ _ h6 List.not_mem_nil, h7.sb s z, h8, h9⟩
/-- a kind more -/
theorem WSt.add {H2 : Hp} {Wd Fa G a T : Addr} {vs ws : List V} {hs ks gs : List Str} {kvs : List (Key × V)} {k : Str} (h : WSt K H H2 b n Wd Fa G vs hs ks gs) (nW : H Wd = none) (nG : H G = none) (FG : Fa ≠ G)
    (hW : H2 Wd = some (.dK kvs)) (hk : k ∉ ks ++ gs) (r : Rch b n k) (w : Wy K H2 (fun l => H l = none ∧ l ≠ G) b n 1 (ks.length + 1) k a) (hT : upd H2 Wd (.dK (putK kvs (Sum.inr k) (.ref a))) T = none)
    (hG : upd (upd H2 Wd (.dK (putK kvs (Sum.inr k) (.ref a)))) T (.tup [.str k, .ref a]) G = some (.lst ws)) :
    WSt K H (upd (upd (upd H2 Wd (.dK (putK kvs (Sum.inr k) (.ref a)))) T (.tup [.str k, .ref a])) G (.lst (ws ++ [.ref T]))) b n Wd Fa G vs hs ks (gs ++ [k]) := by
  obtain ⟨h1, ⟨kvs', h2, h3⟩, ⟨ws', h4, h5⟩, h6, h7, h8, h9⟩ := h
  rw [hW] at h2
  injection h2 with h2
  injection h2 with h2
  subst h2
  have t1 : SB [Wd] H2 (upd H2 Wd (.dK (putK kvs (Sum.inr k) (.ref a)))) := SB.setD hW (by simp) _
  have t2 : SB [Wd] _ (upd (upd H2 Wd (.dK (putK kvs (Sum.inr k) (.ref a)))) T (.tup [.str k, .ref a])) := SB.new hT _
  have t12 := t1.trans t2
  have WG : Wd ≠ G := fun z => by rw [z, h4] at hW; cases hW
  have WF : Wd ≠ Fa := fun z => by rw [z, h6] at hW; cases hW
  have zW : ∀ p ∈ [Wd], ¬ (fun l => H l = none ∧ l ≠ G) p ∨ ∀ us, H2 p ≠ some (.lst us) := fun p hp => .inr fun us => by rw [List.mem_singleton.mp hp, hW]; exact fun y => nomatch y
  have eG := t12.keep _ _ h4 (by simpa using fun z => WG z.symm)
  rw [hG] at eG
  injection eG with eG
  injection eG with eG
  subst eG
  have hT2 : upd (upd H2 Wd (.dK (putK kvs (Sum.inr k) (.ref a)))) T (.tup [.str k, .ref a]) T = some (.tup [.str k, .ref a]) := upd_same
  have hW2 : upd (upd H2 Wd (.dK (putK kvs (Sum.inr k) (.ref a)))) T (.tup [.str k, .ref a]) Wd = some (.dK (putK kvs (Sum.inr k) (.ref a))) := by
    rw [upd_ne (fun z => by rw [← z, upd_same] at hT; cases hT), upd_same]
  have f6 := t12.keep _ _ h6 (by simpa using fun z => WF z.symm)
  have g3 := (h3.put hk w).sb t12 zW
  have g5 := h5.sb t12 zW
  have g7 := h7.sb t12 zW
  have gw := w.sb t12 zW
  have s12 : SB [] H (upd (upd H2 Wd (.dK (putK kvs (Sum.inr k) (.ref a)))) T (.tup [.str k, .ref a])) := ((h1.nil (ps := [Wd])).trans t12).drop nW
  generalize upd (upd H2 Wd (.dK (putK kvs (Sum.inr k) (.ref a)))) T (.tup [.str k, .ref a]) = H4 at *
  have t3 : SB [G] H4 (upd H4 G (.lst (ws ++ [.ref T]))) := SB.set hG (by simp) _
  have zG : ∀ p ∈ [G], ¬ (fun l => H l = none ∧ l ≠ G) p ∨ ∀ us, H4 p ≠ some (.lst us) := fun p hp => .inl fun y => y.2 (List.mem_singleton.mp hp)
  have e0 : ks ++ (gs ++ [k]) = ks ++ gs ++ [k] := by rw [List.append_assoc]
  refine ⟨((s12.nil (ps := [G])).trans t3).drop nG, ⟨_, t3.keep _ _ hW2 (by simpa using WG), by rw [e0]; exact g3.sb t3 zG⟩, ⟨_, upd_same, (g5.sb t3 zG).append (.cons (t3.sqT (SqT.of hT2)) (gw.sb t3 zG) .nil)⟩, t3.keep _ _ f6 (by simpa using FG), g7.sb t3 zG, ?_, ?_⟩
  · rw [e0]
    exact List.nodup_append.mpr ⟨h8, by simp, fun x hx y hy e => by rw [List.mem_singleton.mp hy] at e; rw [e] at hx; exact hk hx⟩
  · rw [e0]
    intro x hx
    rcases List.mem_append.mp hx with hx | hx
    · exact h9 x hx
    · rw [List.mem_singleton.mp hx]; exact r
end
end FT
namespace FT
open PySem PySem.W PySem.Spec PyProof.Rows L2
theorem Rd.sb {H H' : Hp} {d : Addr} {kvs : List (Key × V)} (h : L2.Rd H d (.dK kvs)) (s : SB [] H H') : L2.Rd H' d (.dK kvs) := by
  rcases h with h | ⟨o, h⟩
  · exact .inl (s.keep _ _ h List.not_mem_nil)
  · exact .inr ⟨o, s.frzs _ _ _ h⟩
end FT
namespace FT
open PySem PySem.W PySem.Spec PyProof.Rows L2
theorem sumE_cons {γ : Type} [DecidableEq γ] (p : γ × Int) (r : List (γ × Int)) (x : γ) : sumE (p :: r) x = (if p.1 = x then p.2 else 0) + sumE r x := rfl
namespace Gr
def woL (t : Tr) (m : Int) : List (Tr × Int) → List (Tr × Int)
  | [] => []
  | p :: r => if p.1 ≠ t then p :: woL t m r else if m < p.2 then (p.1, p.2 - m) :: woL t m r else woL t m r
theorem woL_none {t : Tr} {m : Int} : ∀ {bs : List (Tr × Int)}, (∀ p ∈ bs, p.1 ≠ t) → woL t m bs = bs
  | [], _ => rfl
  | p :: r, h => by
    rw [woL, if_pos (h p (by simp)), woL_none fun q hq => h q (by simp [hq])]
theorem woL_mem {t : Tr} {m : Int} (hm : 0 ≤ m) : ∀ {bs : List (Tr × Int)} {p : Tr × Int}, p ∈ woL t m bs → ∃ q ∈ bs, q.1 = p.1 ∧ p.2 ≤ q.2 ∧ (1 ≤ q.2 → 1 ≤ p.2)
  | [], _, h => nomatch h
  | q :: r, p, h => by
    rw [woL] at h
    split at h
    · rcases List.mem_cons.mp h with e | h
      · exact ⟨q, by simp, by rw [e], by rw [e]; exact Int.le_refl _, by rw [e]; exact id⟩
      · obtain ⟨q', h1, h2⟩ := woL_mem hm h; exact ⟨q', by simp [h1], h2⟩
    · split at h
      · rcases List.mem_cons.mp h with e | h
        · exact ⟨q, by simp, by rw [e], by rw [e]; show q.2 - m ≤ q.2; omega, by rw [e]; show _ → 1 ≤ q.2 - m; omega⟩
        · obtain ⟨q', h1, h2⟩ := woL_mem hm h; exact ⟨q', by simp [h1], h2⟩
      · obtain ⟨q', h1, h2⟩ := woL_mem hm h; exact ⟨q', by simp [h1], h2⟩
theorem woL_key {t : Tr} {m : Int} : ∀ {bs : List (Tr × Int)} {p : Tr × Int}, p ∈ woL t m bs → ∃ q ∈ bs, q.1 = p.1
  | [], _, h => nomatch h
  | q :: r, p, h => by
    rw [woL] at h
    split at h
    · rcases List.mem_cons.mp h with e | h
      · exact ⟨q, by simp, by rw [e]⟩
      · obtain ⟨q', h1, h2⟩ := woL_key h; exact ⟨q', by simp [h1], h2⟩
    · split at h
      · rcases List.mem_cons.mp h with e | h
        · exact ⟨q, by simp, by rw [e]⟩
        · obtain ⟨q', h1, h2⟩ := woL_key h; exact ⟨q', by simp [h1], h2⟩
      · obtain ⟨q', h1, h2⟩ := woL_key h; exact ⟨q', by simp [h1], h2⟩
theorem woL_pair {R : Tr → Tr → Prop} {t : Tr} {m : Int} : ∀ {bs : List (Tr × Int)}, bs.Pairwise (fun p q => R p.1 q.1) → (woL t m bs).Pairwise (fun p q => R p.1 q.1)
  | [], _ => .nil
  | p :: r, h => by
    obtain ⟨h1, h2⟩ := List.pairwise_cons.mp h
    have ih := woL_pair (t := t) (m := m) h2
    have hk : ∀ q ∈ woL t m r, R p.1 q.1 := fun q hq => by
      obtain ⟨q', hq', e⟩ := woL_key hq
      rw [← e]; exact h1 q' hq'
    rw [woL]
    split
    · exact List.pairwise_cons.mpr ⟨hk, ih⟩
    · split
      · exact List.pairwise_cons.mpr ⟨hk, ih⟩
      · exact ih
theorem woL_tot (t : Tr) (m : Int) : ∀ bs : List (Tr × Int), tot (woL t m bs) ≤ tot bs
  | [] => Nat.le_refl _
  | p :: r => by
    have ih := woL_tot t m r
    rw [woL]
    split
    · simp only [tot]; omega
    · split
      · simp only [tot]; omega
      · simp only [tot]; omega
theorem woL_len (t : Tr) (m : Int) : ∀ bs : List (Tr × Int), (woL t m bs).length ≤ bs.length
  | [] => Nat.le_refl _
  | p :: r => by
    have ih := woL_len t m r
    rw [woL]
    split
    · simp only [List.length_cons]; omega
    · split
      · simp only [List.length_cons]; omega
      · simp only [List.length_cons]; omega
theorem sumE_woL {t : Tr} {m : Int} (x : Tr) : ∀ {bs : List (Tr × Int)}, bs.Pairwise (fun p q => p.1 ≠ q.1) → (∀ p ∈ bs, 0 < p.2) → 0 ≤ m → sumE (woL t m bs) x = if x = t then (if m < sumE bs t then sumE bs t - m else 0) else sumE bs x
  | [], _, _, hm => by
    show (0 : Int) = if x = t then (if m < 0 then 0 - m else 0) else 0
    split
    · rw [if_neg (by omega)]
    · rfl
  | p :: r, h, hp, hm => by
    obtain ⟨h1, h2⟩ := List.pairwise_cons.mp h
    have ih := sumE_woL (t := t) (m := m) x h2 (fun q hq => hp q (by simp [hq])) hm
    rw [woL]
    by_cases e : p.1 = t
    · rw [if_neg (by simpa using e)]
      have hr : ∀ q ∈ r, q.1 ≠ t := fun q hq z => h1 q hq (by rw [e, z])
      have z0 : sumE r t = 0 := S_zero hr
      rw [woL_none hr, sumE_cons p r t, if_pos e, z0, Int.add_zero]
      by_cases hlt : m < p.2
      · rw [if_pos hlt, if_pos hlt, sumE_cons]
        by_cases hx : x = t
        · rw [if_pos hx, hx, if_pos (by exact e), z0]; simp
        · rw [if_neg hx, if_neg (by rw [e]; exact fun z => hx z.symm), sumE_cons, if_neg (by rw [e]; exact fun z => hx z.symm)]
      · rw [if_neg hlt, if_neg hlt]
        by_cases hx : x = t
        · rw [if_pos hx, hx, z0]
        · rw [if_neg hx, sumE_cons, if_neg (by rw [e]; exact fun z => hx z.symm), Int.zero_add]
    · rw [if_pos e, sumE_cons, ih, sumE_cons p r t, if_neg e, Int.zero_add]
      by_cases hx : x = t
      · rw [if_pos hx, if_pos hx, hx, if_neg e, Int.zero_add]
      · rw [if_neg hx, if_neg hx, sumE_cons]
/-- without so many of a tree -/
def wo (g : Gr) (t : Tr) (m : Int) : Gr := ofPs (woL t m g.ps)
theorem wo_ps (g : Gr) (t : Tr) (m : Int) : (wo g t m).ps = woL t m g.ps := ps_ofPs _
variable {C D E : Int} {g k : Gr}
theorem ok_ne (h : g.Ok C) : g.ps.Pairwise (fun p q => p.1 ≠ q.1) := (ok_iff.mp h).2.imp fun z => ol_ne z
theorem ok_pos (h : g.Ok C) : ∀ p ∈ g.ps, 0 < p.2 := fun p hp => by have := ((ok_iff.mp h).1 p hp).2.2.1; omega
theorem wo_ok (h : g.Ok C) {t : Tr} {m : Int} (hm : 0 ≤ m) : (wo g t m).Ok C := by
  obtain ⟨h1, h2⟩ := ok_iff.mp h
  refine ok_ps.mpr ⟨fun p hp => ?_, woL_pair (R := fun a b => dataLt (tEnc a) (tEnc b) = true) h2⟩
  obtain ⟨q, hq, e, l, o⟩ := woL_mem hm hp
  obtain ⟨a, b, c, d⟩ := h1 q hq
  rw [← e]
  exact ⟨a, b, o c, by omega⟩
theorem S_wo (h : g.Ok C) {t : Tr} {m : Int} (hm : 0 ≤ m) (x : Tr) : S (wo g t m) x = if x = t then (if m < S g t then S g t - m else 0) else S g x := by
  show sumE (wo g t m).ps x = _
  rw [wo_ps]; exact sumE_woL x (ok_ne h) (ok_pos h) hm
theorem wo_parts (g : Gr) (t : Tr) (m : Int) : (wo g t m).parts ≤ g.parts := by
  rw [wo, parts_ofPs, ← tot_ps g]; exact woL_tot _ _ _
theorem wo_len (g : Gr) (t : Tr) (m : Int) : (wo g t m).ps.length ≤ g.ps.length := by rw [wo_ps]; exact woL_len _ _ _
theorem wo_deep (g : Gr) (t : Tr) (m : Int) : (wo g t m).deep ≤ g.deep := by
  refine deep_le fun p hp => ?_
  rw [wo_ps] at hp
  obtain ⟨q, hq, e⟩ := woL_key hp
  rw [← e]; exact mem_deep g q hq
theorem sumE_mem : ∀ {bs : List (Tr × Int)}, bs.Pairwise (fun p q => p.1 ≠ q.1) → ∀ p ∈ bs, sumE bs p.1 = p.2
  | [], _, _, h => nomatch h
  | q :: r, h, p, hp => by
    obtain ⟨h1, h2⟩ := List.pairwise_cons.mp h
    rw [sumE_cons]
    rcases List.mem_cons.mp hp with e | hp
    · rw [e, if_pos rfl, S_zero fun q' hq' z => h1 q' hq' z.symm, Int.add_zero]
    · rw [if_neg (h1 p hp), Int.zero_add]; exact sumE_mem h2 p hp
theorem S_mem (h : g.Ok C) {p : Tr × Int} (hp : p ∈ g.ps) : S g p.1 = p.2 := sumE_mem (ok_ne h) p hp
theorem S_cases (h : g.Ok C) (x : Tr) : (S g x = 0 ∧ ∀ p ∈ g.ps, p.1 ≠ x) ∨ ∃ m, (x, m) ∈ g.ps ∧ S g x = m ∧ 1 ≤ m ∧ m < C := by
  by_cases e : ∃ p ∈ g.ps, p.1 = x
  · obtain ⟨p, hp, rfl⟩ := e
    obtain ⟨_, _, c, d⟩ := (ok_iff.mp h).1 p hp
    exact .inr ⟨p.2, hp, S_mem h hp, c, d⟩
  · have h' : ∀ p ∈ g.ps, p.1 ≠ x := fun p hp z => e ⟨p, hp, z⟩
    exact .inl ⟨S_zero h', h'⟩
theorem S_nonneg (h : g.Ok C) (x : Tr) : 0 ≤ S g x := by
  rcases S_cases h x with ⟨e, _⟩ | ⟨m, _, e, h1, _⟩
  · omega
  · omega
theorem S_lt (h : g.Ok C) (hC : 1 ≤ C) (x : Tr) : S g x < C := by
  rcases S_cases h x with ⟨e, _⟩ | ⟨m, _, e, _, h1⟩
  · omega
  · omega
/-- two groves together, by what the numbers come to -/
theorem tgt_okM (hg : ∀ p ∈ g.ps, NameOk p.1.1 ∧ p.1.2.Ok E ∧ 1 ≤ p.2) (hk : ∀ p ∈ k.ps, NameOk p.1.1 ∧ p.1.2.Ok E ∧ 1 ≤ p.2) (h : ∀ t, S g t + S k t < E) : (tgt g k).Ok E := by
  have hr := tdy_rise (enc := tEnc) (g.ps ++ k.ps)
  have hall : ∀ p ∈ g.ps ++ k.ps, NameOk p.1.1 ∧ p.1.2.Ok E ∧ 1 ≤ p.2 := fun p hp => (List.mem_append.mp hp).elim (hg p) (hk p)
  refine ok_ps.mpr ⟨fun p hp => ?_, hr⟩
  obtain ⟨q, hq, e⟩ := tdy_keys (enc := tEnc) _ p hp
  obtain ⟨a, b, _⟩ := hall q hq
  have h1 := (tdy_pos (enc := tEnc) (fun p hp => (hall p hp).2.2) p hp).1
  have e2 : sumE (tdy tEnc (g.ps ++ k.ps)) p.1 = p.2 := sumE_mem (hr.imp fun z => ol_ne z) p hp
  rw [tdy_sum, sumE_append] at e2
  have := h p.1
  refine ⟨e ▸ a, e ▸ b, h1, ?_⟩
  show p.2 < E
  rw [← e2]; exact this
theorem ok_three (h : g.Ok C) (hC : C ≤ E) : ∀ p ∈ g.ps, NameOk p.1.1 ∧ p.1.2.Ok E ∧ 1 ≤ p.2 := fun p hp => by
  obtain ⟨a, b, c, _⟩ := (ok_iff.mp h).1 p hp
  exact ⟨a, b.mono hC, c⟩
theorem tgt_ok2 (hg : g.Ok C) (hk : k.Ok D) (hC : 1 ≤ C) (hD : 1 ≤ D) : (tgt g k).Ok (C + D) := by
  refine tgt_okM (ok_three hg (by omega)) (ok_three hk (by omega)) fun t => ?_
  have := S_lt hg hC t
  have := S_lt hk hD t
  omega
theorem tgt_nil (hg : g.Ok C) : tgt g .nil = g := by
  have hS : ∀ t, S (tgt g .nil) t = S g t := fun t => by rw [S_tgt]; exact Int.add_zero _
  cases g with
  | nil => exact ext (tgt_ok2 (C := 1) (D := 1) (g := .nil) (k := .nil) trivial trivial (by omega) (by omega)) hg hS
  | cons n h m r =>
    have hC : 1 ≤ C := by have := hg.2.2.1; have := hg.2.2.2.1; omega
    exact ext (tgt_ok2 hg (k := .nil) (D := 1) trivial hC (by omega)) hg hS
/-- so many of each tree -/
def tmsL (m : Int) (bs : List (Tr × Int)) : List (Tr × Int) := bs.map fun p => (p.1, p.2 * m)
def tmsG (g : Gr) (m : Int) : Gr := if m = 0 then .nil else ofPs (tmsL m g.ps)
theorem tms_key {m : Int} {p : Tr × Int} (hp : p ∈ (tmsG g m).ps) : ∃ q ∈ g.ps, q.1 = p.1 := by
  rw [tmsG] at hp
  split at hp
  · exact nomatch hp
  · rw [ps_ofPs] at hp
    obtain ⟨q, hq, e⟩ := List.mem_map.mp hp
    exact ⟨q, hq, by rw [← e]⟩
theorem tms_ok (h : g.Ok C) (hC : 1 ≤ C) {m : Int} (hm : 0 ≤ m) : (tmsG g m).Ok (C * m + C) := by
  have hle : C ≤ C * m + C := by have := Int.mul_nonneg (show (0 : Int) ≤ C by omega) hm; omega
  rw [tmsG]
  split
  · trivial
  · obtain ⟨h1, h2⟩ := ok_iff.mp h
    refine ok_ps.mpr ⟨fun p hp => ?_, ?_⟩
    · obtain ⟨q, hq, rfl⟩ := List.mem_map.mp hp
      obtain ⟨a, b, c, d⟩ := h1 q hq
      have m1 : 1 ≤ m := by omega
      refine ⟨a, b.mono hle, ?_, ?_⟩
      · show 1 ≤ q.2 * m
        have := Int.mul_le_mul c m1 (by omega) (by omega)
        omega
      · show q.2 * m < C * m + C
        have := Int.mul_le_mul_of_nonneg_right (show q.2 ≤ C by omega) hm
        omega
    · exact List.pairwise_map.mpr (h2.imp fun z => z)
/-- the place of a tree among the trees of a grove -/
def pos (g : Gr) (t : Tr) : Nat := (g.ps.map (·.1)).idxOf t
/-- all names of a grove are among these -/
def Named (ns : List Str) (g : Gr) : Prop := ∀ x ∈ g.within, x.1.1 ∈ ns
theorem named_iff {ns : List Str} : Named ns g ↔ ∀ p ∈ g.ps, p.1.1 ∈ ns ∧ Named ns p.1.2 := by
  unfold Named
  rw [within_ps]
  constructor
  · intro h p hp
    exact ⟨h p (List.mem_flatMap.mpr ⟨p, hp, by simp⟩), fun x hx => h x (List.mem_flatMap.mpr ⟨p, hp, by simp [hx]⟩)⟩
  · intro h x hx
    obtain ⟨p, hp, hx⟩ := List.mem_flatMap.mp hx
    rcases List.mem_cons.mp hx with e | hx
    · rw [e]; exact (h p hp).1
    · exact (h p hp).2 x hx
theorem named_wo {ns : List Str} (h : Named ns g) (t : Tr) (m : Int) : Named ns (wo g t m) := named_iff.mpr fun p hp => by
  rw [wo_ps] at hp
  obtain ⟨q, hq, e⟩ := woL_key hp
  rw [← e]; exact named_iff.mp h q hq
theorem named_tms {ns : List Str} (h : Named ns g) (m : Int) : Named ns (tmsG g m) := named_iff.mpr fun p hp => by
  obtain ⟨q, hq, e⟩ := tms_key hp
  rw [← e]; exact named_iff.mp h q hq
theorem named_tgt {ns : List Str} (h : Named ns g) (h2 : Named ns k) : Named ns (tgt g k) := named_iff.mpr fun p hp => by
  rw [tgt_ps] at hp
  obtain ⟨q, hq, e⟩ := tdy_keys (enc := tEnc) _ p hp
  rw [← e]
  rcases List.mem_append.mp hq with hq | hq
  · exact named_iff.mp h q hq
  · exact named_iff.mp h2 q hq
/-- one kind of tree, so many -/
def one (t : Tr) (m : Int) : Gr := .cons t.1 t.2 m .nil
theorem one_ps (t : Tr) (m : Int) : (one t m).ps = [(t, m)] := rfl
theorem S_one (t : Tr) (m : Int) (x : Tr) : S (one t m) x = if t = x then m else 0 := by
  show sumE [(t, m)] x = _
  rw [sumE_cons]; exact Int.add_zero _
theorem named_one {ns : List Str} {t : Tr} (h : t.1 ∈ ns) (h2 : Named ns t.2) (m : Int) : Named ns (one t m) := named_iff.mpr fun p hp => by
  rw [one_ps] at hp
  rw [List.mem_singleton.mp hp]; exact ⟨h, h2⟩
end Gr
end FT
namespace FT
open PySem PySem.W PySem.Spec PyProof.Rows L2
def Wd (d : PyData) : Prop := d.canLay0 = true ∧ d.depth ≤ 190
theorem Wd.of {d : PyData} (h : SeqAt.shaped d = true) : Wd d := ⟨SeqAt.canLay_of_shaped h, by have := SeqAt.depth_of_shaped h; omega⟩
theorem Gr.wd {C : Int} {g : Gr} (h : g.Ok C) (hd : g.deep ≤ 63) : Wd g.enc := ⟨by simp [Gr.enc, PyData.canLay0, Gr.lays h], by have := g.enc_depth; omega⟩
end FT
namespace FT
open PySem PySem.W PySem.Spec PyProof.Rows L2
/-- how many further ones a kind that spreads is grown by -/
def Bk.far (b : Bk) (k : Str) (n : Int) : Int := match b.get k with
  | some kd => if kd.w = true then n else 0
  | none => 0
theorem Bk.far_le (b : Bk) (k : Str) {n : Int} (h : 0 ≤ n) : 0 ≤ b.far k n ∧ b.far k n ≤ n := by
  unfold Bk.far
  split
  · split <;> omega
  · omega
namespace Gr
variable {b : Bk} {n : Int} {C F E : Int} {g fr : Gr}
/-- a rule's groves, grown -/
def grw (r : Ru) (n : Int) : Gr := tgt r.1 (tmsG r.2 n)
theorem grw_nil (hn : 0 ≤ n) : grw (.nil, .nil) n = .nil := by
  have h : (tmsG .nil n) = .nil := by
    unfold tmsG
    split <;> rfl
  show tgt .nil (tmsG .nil n) = .nil
  rw [h]; exact tgt_nil (C := 1) trivial
/-- struck: the grove at a place, with what is laid there, and the new place of what holds it -/
def stk (b : Bk) (n : Int) (fr : Gr) : Pl → Gr → Gr × Pl
  | [], g => (g, [])
  | i :: r, g => match g.ps[i]? with
    | none => (g, [])
    | some p => if r = [] then (tgt (wo g p.1 1) fr, []) else
        (tgt (wo g p.1 1) (one (p.1.1, (stk b n fr r p.1.2).1) (1 + b.far p.1.1 n)), pos (tgt (wo g p.1 1) (one (p.1.1, (stk b n fr r p.1.2).1) (1 + b.far p.1.1 n))) (p.1.1, (stk b n fr r p.1.2).1) :: (stk b n fr r p.1.2).2)
/-- a place of a tree that holds nothing, of this kind -/
def bareAt : Gr → Pl → Option Str
  | _, [] => none
  | g, i :: r => match g.ps[i]? with
    | none => none
    | some p => if r = [] then (if p.1.2 = .nil then some p.1.1 else none) else bareAt p.1.2 r
theorem stk_one {i : Nat} {p : Tr × Int} (e : g.ps[i]? = some p) : stk b n fr [i] g = (tgt (wo g p.1 1) fr, []) := by
  rw [stk, e]; rfl
/-- the changed tree, and the changed row -/
def chg (b : Bk) (n : Int) (fr : Gr) (r : Pl) (p : Tr × Int) : Tr := (p.1.1, (stk b n fr r p.1.2).1)
def chR (b : Bk) (n : Int) (fr : Gr) (r : Pl) (g : Gr) (p : Tr × Int) : Gr := tgt (wo g p.1 1) (one (chg b n fr r p) (1 + b.far p.1.1 n))
theorem stk_more {i : Nat} {r : Pl} {p : Tr × Int} (e : g.ps[i]? = some p) (hr : r ≠ []) : stk b n fr (i :: r) g = (chR b n fr r g p, pos (chR b n fr r g p) (chg b n fr r p) :: (stk b n fr r p.1.2).2) := by
  rw [stk, e]
  simp only [if_neg hr]
  rfl
theorem bare_one {i : Nat} {k : Str} (h : bareAt g [i] = some k) : ∃ p, g.ps[i]? = some p ∧ p.1 = (k, .nil) := by
  rw [bareAt] at h
  cases e : g.ps[i]? with
  | none => rw [e] at h; cases h
  | some p =>
    rw [e] at h
    simp only [if_true] at h
    by_cases z : p.1.2 = .nil
    · rw [if_pos z] at h
      exact ⟨p, rfl, Prod.ext (Option.some.inj h) z⟩
    · rw [if_neg z] at h; cases h
theorem bare_more {i : Nat} {r : Pl} {k : Str} (hr : r ≠ []) (h : bareAt g (i :: r) = some k) : ∃ p, g.ps[i]? = some p ∧ bareAt p.1.2 r = some k := by
  rw [bareAt] at h
  cases e : g.ps[i]? with
  | none => rw [e] at h; cases h
  | some p =>
    rw [e] at h
    simp only [if_neg hr] at h
    exact ⟨p, rfl, h⟩
theorem wo_okM {t : Tr} {m : Int} (h : g.Ok C) (hm : 0 ≤ m) (hC : C ≤ E) : ∀ p ∈ (wo g t m).ps, NameOk p.1.1 ∧ p.1.2.Ok E ∧ 1 ≤ p.2 := ok_three (wo_ok h hm) hC
theorem S_wo_le (h : g.Ok C) {t : Tr} {m : Int} (hm : 0 ≤ m) (x : Tr) : S (wo g t m) x ≤ S g x := by
  rw [S_wo h hm]
  split
  · next e => 
    subst e
    have := S_nonneg h x
    split <;> omega
  · exact Int.le_refl _
theorem ok_mem (h : g.Ok C) {p : Tr × Int} (hp : p ∈ g.ps) : NameOk p.1.1 ∧ p.1.2.Ok C ∧ 1 ≤ p.2 ∧ p.2 < C := (ok_iff.mp h).1 p hp
theorem C_pos {p : Tr × Int} (h : g.Ok C) (hp : p ∈ g.ps) : 2 ≤ C := by have := (ok_mem h hp).2.2; omega
theorem stk_ok (hn : 0 ≤ n) (hF : 1 ≤ F) (hfr : fr.Ok F) : ∀ {pl : Pl} {g : Gr} {k : Str}, g.Ok C → bareAt g pl = some k → (stk b n fr pl g).1.Ok (C + F + n + 2)
  | [], _, _, _, h => nomatch h
  | i :: r, g, k, ho, h => by
    by_cases hr : r = []
    · subst hr
      obtain ⟨p, e, _⟩ := bare_one h
      rw [stk_one e]
      have hC := C_pos ho (List.mem_of_getElem? e)
      exact (tgt_ok2 (wo_ok ho (by omega)) hfr (by omega) hF).mono (by omega)
    · obtain ⟨p, e, h2⟩ := bare_more hr h
      rw [stk_more e hr]
      have pm := List.mem_of_getElem? e
      have hC := C_pos ho pm
      obtain ⟨a, o, _, _⟩ := ok_mem ho pm
      have ih := stk_ok hn hF hfr o h2
      obtain ⟨f1, f2⟩ := Bk.far_le b p.1.1 hn
      refine tgt_okM (wo_okM ho (by omega) (by omega)) (fun q hq => ?_) fun t => ?_
      · rw [one_ps] at hq
        rw [List.mem_singleton.mp hq]
        exact ⟨a, ih, by show 1 ≤ 1 + b.far p.1.1 n; omega⟩
      · have h1 := S_wo_le ho (t := p.1) (m := 1) (by omega) t
        have h3 := S_lt ho (by omega) t
        rw [S_one]
        split <;> omega
theorem stk_named {ns : List Str} (hfr : Named ns fr) : ∀ {pl : Pl} {g : Gr} {k : Str}, bareAt g pl = some k → Named ns g → Named ns (stk b n fr pl g).1
  | [], _, _, h, _ => nomatch h
  | i :: r, g, k, h, hg => by
    by_cases hr : r = []
    · subst hr
      obtain ⟨p, e, _⟩ := bare_one h
      rw [stk_one e]
      exact named_tgt (named_wo hg _ _) hfr
    · obtain ⟨p, e, h2⟩ := bare_more hr h
      rw [stk_more e hr]
      obtain ⟨h3, h4⟩ := named_iff.mp hg p (List.mem_of_getElem? e)
      exact named_tgt (named_wo hg _ _) (named_one (t := chg b n fr r p) h3 (stk_named hfr h2 h4) _)
end Gr
end FT
namespace FT
open PySem PySem.W PySem.Spec PyProof.Rows L2
abbrev noR : Ru := (.nil, .nil)
end FT
namespace FT
open PySem PySem.W PySem.Spec PyProof.Rows L2
theorem Wh.int {K : PySem.W.Frag} {H : Hp} {v : V} {n : Int} (h : Wh K H v (some n)) : v = .int n := by
  rcases h with ⟨i, rfl, e⟩ | ⟨e, _⟩
  · rw [Option.some.inj e]
  · cases e
end FT
namespace FT
open PySem PySem.W PySem.Spec PyProof.Rows L2
/-- taken away one by one, if there is enough -/
def Gr.exc (g : Gr) : List (Tr × Int) → Option Gr
  | [] => some g
  | p :: r => if Gr.S g p.1 < p.2 then none else Gr.exc (Gr.wo g p.1 p.2) r
namespace Gr
variable {C F : Int} {g : Gr} {b : Bk} {n : Int}
theorem exc_ok : ∀ {ps : List (Tr × Int)} {g l : Gr}, g.Ok C → (∀ p ∈ ps, 0 ≤ p.2) → exc g ps = some l → l.Ok C ∧ l.parts ≤ g.parts ∧ l.deep ≤ g.deep ∧ l.ps.length ≤ g.ps.length
  | [], g, l, ho, _, h => by rw [← Option.some.inj h]; exact ⟨ho, Nat.le_refl _, Nat.le_refl _, Nat.le_refl _⟩
  | p :: r, g, l, ho, hp, h => by
    rw [exc] at h
    split at h
    · cases h
    · have h0 := hp p (by simp)
      obtain ⟨a1, a2, a3, a4⟩ := exc_ok (wo_ok ho h0) (fun q hq => hp q (by simp [hq])) h
      have := wo_parts g p.1 p.2
      have := wo_deep g p.1 p.2
      have := wo_len g p.1 p.2
      exact ⟨a1, by omega, by omega, by omega⟩
end Gr
end FT
namespace FT
open PySem PySem.W PySem.Spec PyProof.Rows L2
theorem nilI {σ : L2.St} {H : Hp} {Q : List V → Hp → Prop} (h : Q [] H) : tNil σ H Q := h
end FT
namespace FT
open PySem PySem.W PySem.Spec PyProof.Rows L2
inductive RowAll (K : PySem.W.Frag) (H : Hp) : List (Key × V) → Bk → Prop
  | nil : RowAll K H [] []
  | cons {l : Addr} {zs : List V} {k : Kd} {kvs : List (Key × V)} {b : Bk} : H l = some (.lst zs) → Bears K H Ru.enc zs k.rs → RowAll K H kvs b → RowAll K H ((Sum.inr k.n, .ref l) :: kvs) (k :: b)
section
variable {K : PySem.W.Frag} {H H' : Hp}
theorem RowAll.sb {ps : List Addr} (e : SB ps H H') : ∀ {kvs : List (Key × V)} {b : Bk}, RowAll K H kvs b → (∀ p ∈ kvs, ∀ q ∈ ps, p.2 ≠ .ref q) → RowAll K H' kvs b
  | _, _, .nil, _ => .nil
  | _, _, .cons h1 h2 h3, n => .cons (e.keep _ _ h1 fun z => n _ (List.mem_cons_self ..) _ z rfl) (h2.sb e Ru.noList_enc) (RowAll.sb e h3 fun p hp => n p (List.mem_cons_of_mem _ hp))
theorem RowAll.append : ∀ {kvs kws : List (Key × V)} {b c : Bk}, RowAll K H kvs b → RowAll K H kws c → RowAll K H (kvs ++ kws) (b ++ c)
  | _, _, _, _, .nil, h => h
  | _, _, _, _, .cons h1 h2 h3, h => .cons h1 h2 (RowAll.append h3 h)
theorem RowAll.ne {q : Addr} (hq : H q = none) : ∀ {kvs : List (Key × V)} {b : Bk}, RowAll K H kvs b → ∀ p ∈ kvs, p.2 ≠ .ref q
  | _, _, .nil, _, hp => nomatch hp
  | _, _, .cons h1 _ h3, p, hp => by
    rcases List.mem_cons.mp hp with e | hp
    · rw [e]; intro z; rw [V.ref.inj z] at h1; rw [hq] at h1; cases h1
    · exact RowAll.ne hq h3 p hp
theorem RowAll.length : ∀ {kvs : List (Key × V)} {b : Bk}, RowAll K H kvs b → kvs.length = b.length
  | _, _, .nil => rfl
  | _, _, .cons _ _ h => by rw [List.length_cons, List.length_cons, RowAll.length h]
theorem RowAll.keys : ∀ {kvs : List (Key × V)} {b : Bk}, RowAll K H kvs b → kvs.map (·.1) = b.names.map Sum.inr
  | _, _, .nil => rfl
  | _, _, .cons _ _ h => by simp only [List.map_cons, RowAll.keys h]
theorem RowAll.val {n : Str} {k : Kd} : ∀ {kvs : List (Key × V)} {b : Bk}, RowAll K H kvs b → b.get n = some k → ∃ l zs, valV kvs (Sum.inr n) = some (.ref l) ∧ H l = some (.lst zs) ∧ Bears K H Ru.enc zs k.rs
  | _, _, .nil, e => nomatch e
  | _, _, .cons (l := l) (zs := zs) (k := k') h1 h2 h3, e => by
    unfold Bk.get at e
    rw [List.find?_cons] at e
    by_cases z : k'.n = n
    · rw [decide_eq_true z] at e
      have e := Option.some.inj e
      subst e
      exact ⟨l, zs, by rw [valV, List.find?_cons, decide_eq_true (by rw [z])]; rfl, h1, h2⟩
    · rw [decide_eq_false z] at e
      obtain ⟨l', zs', a, b', c⟩ := RowAll.val h3 e
      exact ⟨l', zs', by rw [valV, List.find?_cons, decide_eq_false (fun y => z (Sum.inr.inj y))]; exact a, b', c⟩
end
theorem Wlk.snoc {b : Bk} {n : Str} {p : List Sx} {s : Sx} {k : Str} (h : Wlk b n (p ++ [s]) k) : ∃ m kd, Wlk b n p m ∧ b.get m = some kd ∧ s ∈ kd.steps ∧ k = s.k := by
  generalize e : p ++ [s] = l at h
  cases h with
  | nil => exact absurd e (by simp)
  | step w eg hs =>
    obtain ⟨e1, e2⟩ := List.append_inj' e rfl
    have e2 := (List.cons.inj e2).1
    subst e1 e2
    exact ⟨_, _, w, eg, hs, rfl⟩
theorem Wlk.of_nil {b : Bk} {n k : Str} (h : Wlk b n [] k) : k = n := by
  generalize e : ([] : List Sx) = l at h
  cases h with
  | nil => rfl
  | step _ _ _ => exact absurd e (by simp)
theorem Wlk.det {b : Bk} {n : Str} : ∀ {p : List Sx} {k j : Str}, Wlk b n p k → Wlk b n p j → k = j := by
  intro p k j h g
  rcases List.eq_nil_or_concat p with rfl | ⟨q, s, rfl⟩
  · rw [h.of_nil, g.of_nil]
  · rw [List.concat_eq_append] at h g
    obtain ⟨_, _, _, _, _, e1⟩ := h.snoc
    obtain ⟨_, _, _, _, _, e2⟩ := g.snoc
    rw [e1, e2]
theorem Wlk.at {b : Bk} {n : Str} : ∀ {p : List Sx} {k : Str} {j : Nat} {s : Sx}, Wlk b n p k → p[j]? = some s → ∀ m, Wlk b n (p.take j) m → ∃ kd, b.get m = some kd ∧ s ∈ kd.steps := by
  intro p k j s h
  induction h with
  | nil => intro e; exact nomatch e
  | @step p m' kd s' w eg hs ih =>
    intro e m wm
    by_cases hj : j < p.length
    · rw [List.getElem?_append_left hj] at e
      rw [List.take_append_of_le_length (by omega)] at wm
      exact ih e m wm
    · rw [List.getElem?_append_right (by omega)] at e
      have hj2 : j = p.length := by
        obtain ⟨h1, _⟩ := List.getElem?_eq_some_iff.mp e
        simp only [List.length_cons, List.length_nil] at h1
        omega
      subst hj2
      rw [List.take_left] at wm
      rw [Nat.sub_self] at e
      have e := Option.some.inj e
      subst e
      have := wm.det w
      subst this
      exact ⟨kd, eg, hs⟩
end FT
namespace FT
open PySem PySem.W PySem.Spec PyProof.Rows L2
section
variable {γ : Type} [DecidableEq γ]
/-- a weighted sum -/
def wsum (f : γ → Int) (l : List (γ × Int)) : Int := match l with
  | [] => 0
  | p :: r => f p.1 * p.2 + wsum f r
theorem wsum_append (f : γ → Int) : ∀ as bs : List (γ × Int), wsum f (as ++ bs) = wsum f as + wsum f bs
  | [], bs => by simp [wsum]
  | p :: r, bs => by show _ + wsum f (r ++ bs) = _; rw [wsum_append f r bs, wsum]; omega
theorem wsum_out (f : γ → Int) (t : γ) : ∀ l : List (γ × Int), wsum f l = f t * sumE l t + wsum f (l.filter fun p => decide (p.1 ≠ t))
  | [] => by simp [wsum, sumE]
  | p :: r => by
    have ih := wsum_out f t r
    by_cases e : p.1 = t
    · rw [List.filter_cons_of_neg (by simpa using e)]
      show f p.1 * p.2 + wsum f r = f t * ((if p.1 = t then p.2 else 0) + sumE r t) + _
      rw [if_pos e, Int.mul_add, e, ih]; omega
    · rw [List.filter_cons_of_pos (by simpa using e)]
      show f p.1 * p.2 + wsum f r = f t * ((if p.1 = t then p.2 else 0) + sumE r t) + (f p.1 * p.2 + _)
      rw [if_neg e, Int.zero_add, ih]; omega
theorem sumE_out (t x : γ) : ∀ l : List (γ × Int), sumE (l.filter fun p => decide (p.1 ≠ t)) x = if x = t then 0 else sumE l x
  | [] => by simp [sumE]
  | p :: r => by
    have ih := sumE_out t x r
    by_cases e : p.1 = t
    · rw [List.filter_cons_of_neg (by simpa using e), ih]
      by_cases hx : x = t
      · rw [if_pos hx, if_pos hx]
      · rw [if_neg hx, if_neg hx, sumE_cons, if_neg (by rw [e]; exact fun z => hx z.symm), Int.zero_add]
    · rw [List.filter_cons_of_pos (by simpa using e), sumE_cons, ih]
      by_cases hx : x = t
      · rw [if_pos hx, if_pos hx, if_neg (by rw [hx]; exact e)]; rfl
      · rw [if_neg hx, if_neg hx, sumE_cons]
theorem filter_short {p : γ × Int} {r : List (γ × Int)} : ((p :: r).filter fun q => decide (q.1 ≠ p.1)).length ≤ r.length := by
  rw [List.filter_cons_of_neg (by simp)]; exact List.length_filter_le _ _
theorem wsum_ext (f : γ → Int) : ∀ (n : Nat) (as bs : List (γ × Int)), as.length + bs.length ≤ n → (∀ x, sumE as x = sumE bs x) → wsum f as = wsum f bs
  | n, [], [], _, _ => rfl
  | 0, p :: r, bs, h, _ => by simp at h
  | 0, [], p :: r, h, _ => by simp at h
  | n + 1, p :: r, bs, h, e => by
    rw [wsum_out f p.1 (p :: r), wsum_out f p.1 bs, e p.1, wsum_ext f n ((p :: r).filter fun q => decide (q.1 ≠ p.1)) (bs.filter fun q => decide (q.1 ≠ p.1)) ?_ fun x => ?_]
    · have h1 := filter_short (p := p) (r := r)
      have h2 := List.length_filter_le (fun q : γ × Int => decide (q.1 ≠ p.1)) bs
      simp only [List.length_cons] at h
      omega
    · rw [sumE_out, sumE_out, e]
  | n + 1, [], p :: r, h, e => by
    rw [wsum_out f p.1 (p :: r), wsum_out f p.1 [], ← e p.1, wsum_ext f n (([] : List (γ × Int)).filter fun q => decide (q.1 ≠ p.1)) ((p :: r).filter fun q => decide (q.1 ≠ p.1)) ?_ fun x => ?_]
    · have h1 := filter_short (p := p) (r := r)
      simp only [List.length_cons, List.length_nil, List.filter_nil] at h ⊢
      omega
    · rw [sumE_out, sumE_out, e]
end
namespace Gr
theorem wsum_tms (f : Tr → Int) (m : Int) : ∀ l : List (Tr × Int), wsum f (tmsL m l) = wsum f l * m
  | [] => by show (0 : Int) = 0 * m; rw [Int.zero_mul]
  | p :: r => by
    show f p.1 * (p.2 * m) + wsum f (tmsL m r) = (f p.1 * p.2 + wsum f r) * m
    rw [wsum_tms f m r, Int.add_mul, Int.mul_assoc]
end Gr
section
variable {K : PySem.W.Frag} {H H' : Hp} {d : Addr} {f : Str → Int} {L : Nat}
def kvI (p : Str × Int) : Key × V := (Sum.inr p.1, .int p.2)
def DN (H : Hp) (d : Addr) (f : Str → Int) (L : Nat) : Prop := ∃ l : List (Str × Int), H d = some (.dK (l.map kvI)) ∧ (l.map (·.1)).Nodup ∧ l.length ≤ L ∧ ∀ x, sumE l x = f x
def putI (l : List (Str × Int)) (k : Str) (v : Int) : List (Str × Int) := if k ∈ l.map (·.1) then l.map (fun p => if p.1 = k then (p.1, v) else p) else l ++ [(k, v)]
theorem sumE_key : ∀ (l : List (Str × Int)) {k : Str}, k ∉ l.map (·.1) → sumE l k = 0
  | [], _, _ => rfl
  | p :: r, k, h => by
    rw [List.map_cons, List.mem_cons, not_or] at h
    rw [sumE_cons, if_neg fun z => h.1 z.symm, sumE_key r h.2]; rfl
theorem valI : ∀ (l : List (Str × Int)), (l.map (·.1)).Nodup → ∀ k, (valV (l.map kvI) (Sum.inr k)).getD (.int 0) = .int (sumE l k)
  | [], _, _ => rfl
  | p :: r, h, k => by
    rw [List.map_cons, List.nodup_cons] at h
    rw [List.map_cons, sumE_cons]
    by_cases e : p.1 = k
    · rw [valV_pos (by rw [kvI, e]), if_pos e, sumE_key r (by rw [← e]; exact h.1)]
      show V.int p.2 = _
      rw [Int.add_zero]
    · rw [valV_neg (by rw [kvI]; exact fun z => e (Sum.inr.inj z)), if_neg e, Int.zero_add]
      exact valI r h.2 k
theorem putI_kv (l : List (Str × Int)) (k : Str) (v : Int) : (putI l k v).map kvI = putK (l.map kvI) (Sum.inr k) (.int v) := by
  unfold putI putK
  have e : ((l.map kvI).any fun kv => decide (kv.1 = Sum.inr k)) = true ↔ k ∈ l.map (·.1) := by
    rw [List.any_eq_true]
    constructor
    · rintro ⟨q, hq, e⟩
      obtain ⟨p, hp, rfl⟩ := List.mem_map.mp hq
      exact List.mem_map.mpr ⟨p, hp, Sum.inr.inj (of_decide_eq_true e)⟩
    · intro h
      obtain ⟨p, hp, e⟩ := List.mem_map.mp h
      exact ⟨kvI p, List.mem_map.mpr ⟨p, hp, rfl⟩, decide_eq_true (by rw [kvI, e])⟩
  by_cases h : k ∈ l.map (·.1)
  · rw [if_pos h, if_pos (e.mpr h), List.map_map, List.map_map]
    refine List.map_congr_left fun p _ => ?_
    show kvI (if p.1 = k then (p.1, v) else p) = if (kvI p).1 = Sum.inr k then _ else _
    by_cases z : p.1 = k
    · rw [if_pos z, if_pos (by rw [kvI, z])]; rfl
    · rw [if_neg z, if_neg (by rw [kvI]; exact fun y => z (Sum.inr.inj y))]
  · rw [if_neg h, if_neg fun z => h (e.mp z), List.map_append]; rfl
theorem putI_keys (l : List (Str × Int)) (k : Str) (v : Int) : (putI l k v).map (·.1) = if k ∈ l.map (·.1) then l.map (·.1) else l.map (·.1) ++ [k] := by
  unfold putI
  by_cases h : k ∈ l.map (·.1)
  · rw [if_pos h, if_pos h, List.map_map]
    refine List.map_congr_left fun p _ => ?_
    show (if p.1 = k then (p.1, v) else p).1 = p.1
    split <;> rfl
  · rw [if_neg h, if_neg h, List.map_append]; rfl
theorem putI_nodup {l : List (Str × Int)} (h : (l.map (·.1)).Nodup) (k : Str) (v : Int) : ((putI l k v).map (·.1)).Nodup := by
  rw [putI_keys]
  split
  · exact h
  · rename_i z
    exact List.nodup_append.mpr ⟨h, by simp, fun a ha b hb => by rw [List.mem_singleton.mp hb]; exact fun e => z (e ▸ ha)⟩
theorem putI_len (l : List (Str × Int)) (k : Str) (v : Int) : (putI l k v).length ≤ l.length + 1 := by
  unfold putI; split <;> simp
theorem putI_sum {l : List (Str × Int)} (h : (l.map (·.1)).Nodup) (k : Str) (v : Int) (x : Str) : sumE (putI l k v) x = if x = k then v else sumE l x := by
  unfold putI
  by_cases hk : k ∈ l.map (·.1)
  · rw [if_pos hk]
    induction l with
    | nil => cases hk
    | cons p r ih =>
      rw [List.map_cons, List.nodup_cons] at h
      rw [List.map_cons, sumE_cons, sumE_cons]
      by_cases e : p.1 = k
      · have hr : k ∉ r.map (·.1) := by rw [← e]; exact h.1
        have er : (r.map fun p => if p.1 = k then (p.1, v) else p) = r := by
          rw [List.map_congr_left (g := id) fun q hq => ?_, List.map_id]
          rw [if_neg fun z => hr (List.mem_map.mpr ⟨q, hq, z⟩)]; rfl
        rw [if_pos e, er]
        show (if p.1 = x then v else 0) + _ = _
        by_cases hx : x = k
        · rw [if_pos hx, if_pos (by rw [e, hx]), hx, sumE_key r hr, Int.add_zero]
        · rw [if_neg hx, if_neg (by rw [e]; exact fun z => hx z.symm), if_neg (by rw [e]; exact fun z => hx z.symm)]
      · rw [if_neg e]
        have hkr : k ∈ r.map (·.1) := by
          rcases List.mem_cons.mp hk with z | z
          · exact absurd z.symm e
          · exact z
        rw [ih h.2 hkr]
        by_cases hx : x = k
        · rw [if_pos hx, if_pos hx, if_neg (by rw [hx]; exact e), Int.zero_add]
        · rw [if_neg hx, if_neg hx]
  · rw [if_neg hk, sumE_append, sumE_cons]
    by_cases hx : x = k
    · rw [if_pos hx, hx, sumE_key l hk, if_pos rfl, Int.zero_add]; exact Int.add_zero _
    · rw [if_neg hx, if_neg fun z => hx z.symm, Int.zero_add]; exact Int.add_zero _
theorem DN.get (h : DN H d f L) (k : Str) : ∃ o, DGet H d (.str k) o ∧ o.getD (.int 0) = .int (f k) := by
  obtain ⟨l, e, nd, _, s⟩ := h
  exact ⟨_, DGet.k (k := Sum.inr k) e, by rw [valI l nd, s]⟩
theorem DN.put (h : DN H d f L) (hL : L < sizeLine) (k : Str) (v : Int) : ∃ H', DPut H d (.str k) (.int v) H' ∧ SB [d] H H' ∧ DN H' d (fun x => if x = k then v else f x) (L + 1) := by
  obtain ⟨l, e, nd, ll, s⟩ := h
  refine ⟨_, .inl ⟨_, Sum.inr k, e, rfl, by rw [List.length_map]; omega, rfl⟩, SB.setD e (by simp) _, putI l k v, ?_, putI_nodup nd k v, ?_, fun x => ?_⟩
  · rw [upd_same, putI_kv]
  · have := putI_len l k v; omega
  · rw [putI_sum nd, s]
theorem DN.sb {ps : List Addr} (h : DN H d f L) (s : SB ps H H') (hd : d ∉ ps) : DN H' d f L := by
  obtain ⟨l, e, r⟩ := h
  exact ⟨l, s.keep _ _ e hd, r⟩
theorem DN.at (h : DN H d f L) : ∃ kvs, H d = some (.dK kvs) := by obtain ⟨l, e, _⟩ := h; exact ⟨_, e⟩
theorem DN.ext {g : Str → Int} {M : Nat} (h : DN H d f L) (e : ∀ x, f x = g x) (hl : L ≤ M) : DN H d g M := by
  obtain ⟨l, a, b, c, s⟩ := h
  exact ⟨l, a, b, by omega, fun x => by rw [s, e]⟩
end
end FT
namespace FT
open PySem PySem.W PySem.Spec PyProof.Rows L2
/-- no dict, or one that stands -/
def ExD (H : Hp) (d : Option Addr) : Prop := d = none ∨ ∃ dd fs, d = some dd ∧ H dd = some (.xd fs)
theorem ExD.sb {H H' : Hp} {d : Option Addr} (h : ExD H d) (s : SB [] H H') : ExD H' d := by
  rcases h with h | ⟨dd, fs, h, g⟩
  · exact .inl h
  · exact .inr ⟨dd, fs, h, s.keep _ _ g List.not_mem_nil⟩
structure ErrsM (K : PySem.W.Frag) (mg : Str → Option Value) (c : Str → Addr) (caught names kinds : List Str) : Prop where
  glo : ∀ n ∈ names, mg n = some (.ref (c n))
  FellError : mg "FellError" = some (.ref (c "FellError"))
  ve : mg "ValueError" = none
  exc : ∀ n ∈ caught, ExcC K (c n)
  exm : ∀ n ∈ caught, PySem.W.exmOne K (.ref (c n)) (.ref (c "FellError")) = some true
  kve : ∀ n ∈ caught, PySem.W.kitOne K (.ref (c n)) (.type "ValueError") = some true
  kit : ∀ n ∈ caught, ∀ m ∈ names, PySem.W.kitOne K (.ref (c n)) (.ref (c m)) = some (decide (n = m))
  nok : ∀ n ∈ kinds, PySem.W.findIn K (.ref (c n)) "kind" = some none
  exo : ∀ n ∈ caught, ∀ m ∈ names, PySem.W.exmOne K (.ref (c n)) (.ref (c m)) = some (decide (n = m))
theorem ErrsM.any {K : PySem.W.Frag} {mg : Str → Option Value} {c : Str → Addr} {caught names kinds : List Str} (T : ErrsM K mg c caught names kinds) {n : Str} (hn : n ∈ caught) : ∀ {ms : List Str}, (∀ m ∈ ms, m ∈ names) → PySem.W.kitAny K (.ref (c n)) (ms.map fun m => .ref (c m)) = some (decide (n ∈ ms))
  | [], _ => by simp [PySem.W.kitAny]
  | m :: r, h => by
    have e := T.kit n hn m (h m List.mem_cons_self)
    have e2 := T.any hn (ms := r) fun x hx => h x (List.mem_cons_of_mem _ hx)
    rw [List.map_cons, PySem.W.kitAny, e]
    by_cases z : n = m
    · simp [z]
    · simp [z, e2]
theorem ErrsM.no {K : PySem.W.Frag} {mg : Str → Option Value} {c : Str → Addr} {caught names kinds : List Str} (T : ErrsM K mg c caught names kinds) {n : Str} (hn : n ∈ caught) {ms : List Str} (h : ∀ m ∈ ms, m ∈ names) (k : n ∉ ms) : PySem.W.kitAny K (.ref (c n)) (ms.map fun m => .ref (c m)) = some false := (T.any hn h).trans (by rw [decide_eq_false k])
theorem ErrsM.is {K : PySem.W.Frag} {mg : Str → Option Value} {c : Str → Addr} {caught names kinds : List Str} (T : ErrsM K mg c caught names kinds) {n : Str} (hn : n ∈ caught) (h : n ∈ names) : PySem.W.kitOne K (.ref (c n)) (.ref (c n)) = some true := (T.kit n hn n h).trans (by rw [decide_eq_true rfl])
end FT
namespace FT
open PySem PySem.W PySem.Spec PyProof.Rows L2
abbrev Rw := Pl × Tr × Int
def arE (x : Rw) : PyData := .tuple [plEnc x.1, Gr.tEnc x.2.1, .int x.2.2]
instance : Orderly arE where
  al a b := by simp [arE, alike, alikeAll, Orderly.al (enc := plEnc) a.1 b.1, Orderly.al (enc := Gr.tEnc) a.2.1 b.2.1]
  eq a b := by
    simp only [arE, PyData.eqv, PyData.eqvAll, Orderly.eq (enc := plEnc), Orderly.eq (enc := Gr.tEnc), Bool.and_true, ib]
    by_cases h : a = b
    · subst h; simp
    · rw [decide_eq_false h]
      refine Bool.eq_false_iff.mpr fun z => h ?_
      simp only [Bool.and_eq_true, decide_eq_true_eq] at z
      exact Prod.ext z.1 (Prod.ext z.2.1 z.2.2)
end FT
namespace FT
open PySem PySem.W PySem.Spec PyProof.Rows L2
namespace Lad
def maxL (x : Lad) (xs : List Lad) : Lad := xs.foldl (fun a y => if a.lt y = true then y else a) x
theorem maxL_mem : ∀ (xs : List Lad) (x : Lad), maxL x xs ∈ x :: xs
  | [], x => List.mem_cons_self ..
  | y :: r, x => by
    show maxL (if x.lt y = true then y else x) r ∈ _
    by_cases h : x.lt y = true
    · rw [if_pos h]; exact List.mem_cons_of_mem _ (maxL_mem r y)
    · rw [if_neg h]
      rcases List.mem_cons.mp (maxL_mem r x) with e | e
      · rw [e]; exact List.mem_cons_self ..
      · exact List.mem_cons_of_mem _ (List.mem_cons_of_mem _ e)
theorem maxL_ge : ∀ (xs : List Lad) (x : Lad), ∀ y ∈ x :: xs, (maxL x xs).lt y = false
  | [], x, y, hy => by rw [List.mem_singleton.mp hy]; exact lt_irrefl _
  | z :: r, x, y, hy => by
    show (maxL (if x.lt z = true then z else x) r).lt y = false
    by_cases h : x.lt z = true
    · rw [if_pos h]
      have g := maxL_ge r z
      rcases List.mem_cons.mp hy with rfl | hy
      · cases e : (maxL z r).lt y with
        | false => rfl
        | true =>
          have := lt_trans _ _ _ e h
          rw [g z (List.mem_cons_self ..)] at this; cases this
      · exact g y hy
    · rw [if_neg h]
      have g := maxL_ge r x
      rcases List.mem_cons.mp hy with rfl | hy
      · exact g _ (List.mem_cons_self ..)
      rcases List.mem_cons.mp hy with rfl | hy
      · cases e : (maxL x r).lt y with
        | false => rfl
        | true =>
          have h := eq_false_of_ne_true h
          have gx := g x (List.mem_cons_self ..)
          by_cases e1 : x = y
          · subst e1; rw [gx] at e; cases e
          · have := lt_trans _ _ _ e (lt_tri x y e1 h)
            rw [gx] at this; cases this
      · exact g y (List.mem_cons_of_mem _ hy)
end Lad
/-- the ladder of a tree, by that of its kind, its width and that of what it holds -/
def lad (w : Bool) (o l : Lad) : Lad := if w = true then Lad.spd o l else Lad.bhd o l
def Bk.wide (b : Bk) (n : Str) : Bool := match b.get n with
  | some k => k.w
  | none => false
namespace Gr
def rkT (b : Bk) (ρ : Str → Lad) : Gr → List Lad
  | .nil => []
  | .cons k g m r => Lad.tms (lad (b.wide k) (ρ k) (Lad.bths (rkT b ρ g))) m :: rkT b ρ r
def rk (b : Bk) (ρ : Str → Lad) (g : Gr) : Lad := Lad.bths (rkT b ρ g)
def rkt (b : Bk) (ρ : Str → Lad) (t : Tr) : Lad := lad (b.wide t.1) (ρ t.1) (rk b ρ t.2)
variable {b : Bk} {ρ : Str → Lad} {C : Int}
theorem rkT_ps : ∀ g : Gr, rkT b ρ g = g.ps.map fun p => Lad.tms (rkt b ρ p.1) p.2
  | .nil => rfl
  | .cons k g m r => by
    show _ :: rkT b ρ r = _ :: r.ps.map _
    rw [rkT_ps r]; rfl
theorem rk_ps (g : Gr) : rk b ρ g = Lad.bths (g.ps.map fun p => Lad.tms (rkt b ρ p.1) p.2) := by unfold rk; rw [rkT_ps]
theorem S_bths (ls : List Lad) (x : Lad) : Lad.S (Lad.bths ls) x = (ls.map fun l => Lad.S l x).sum := by
  have e : Lad.S (Lad.bths ls) x = Lad.sumAt (ls.flatMap Lad.ps) x := by
    unfold Lad.bths Lad.S
    rw [Lad.ps_ofPs, Lad.sumAt_jn, Lad.sumAt_perm (Lad.dsc_perm _)]
  rw [e]
  clear e
  induction ls with
  | nil => rfl
  | cons l r ih => rw [List.flatMap_cons, Lad.sumAt_append, ih]; rfl
theorem S_rk (g : Gr) (x : Lad) : Lad.S (rk b ρ g) x = wsum (fun t => Lad.S (rkt b ρ t) x) g.ps := by
  rw [rk_ps, S_bths]
  induction g.ps with
  | nil => rfl
  | cons p r ih =>
    rw [List.map_cons, List.map_cons, List.sum_cons, ih, Lad.S_tms]
    rfl
end Gr
/-- what all those can do with -/
structure LFit (l : Lad) : Prop where
  deep : l.deep ≤ 25
  parts : l.parts ≤ 900
  num : ∀ p ∈ l.ps, 0 ≤ p.2 ∧ p.2 < 2 ^ 2000
/-- the ladders of a grove stay within what all those can do with -/
def Gr.Fit (b : Bk) (ρ : Str → Lad) (ns : List Str) : Gr → Prop
  | .nil => True
  | .cons k g m r => (k ∈ ns ∧ k ∈ b.names ∧ ρ k ≠ .nil ∧ LFit (ρ k) ∧ LFit (Gr.rk b ρ g) ∧ LFit (Gr.rkt b ρ (k, g)) ∧ 0 ≤ m ∧ m < 2 ^ 2000 ∧ ((Gr.rkT b ρ (.cons k g m r)).flatMap Lad.ps).length ≤ 900) ∧ Gr.Fit b ρ ns g ∧ Gr.Fit b ρ ns r
/-- at d stands a dict: for each of ns, in their order, its ladder -/
def RkD (K : PySem.W.Frag) (H : Hp) (d : Addr) (ρ : Str → Lad) (ns : List Str) : Prop := ∃ us : List V, H d = some (.dK (List.zipWith (fun (n : Str) (u : V) => ((Sum.inr n : Key), u)) ns us)) ∧ Bears K H Lad.enc us (ns.map ρ)
theorem zip_val {K : PySem.W.Frag} {H : Hp} {ρ : Str → Lad} {n : Str} : ∀ {ns : List Str} {us : List V}, Bears K H Lad.enc us (ns.map ρ) → n ∈ ns → ∃ u, valV (List.zipWith (fun (n : Str) (u : V) => ((Sum.inr n : Key), u)) ns us) (Sum.inr n) = some u ∧ LA K H u (ρ n)
  | [], _, _, hn => nomatch hn
  | m :: r, us, h, hn => by
    cases h with
    | @cons u us' _ _ h1 h2 =>
    by_cases e : m = n
    · subst e
      exact ⟨u, by simp [valV], h1⟩
    · obtain ⟨v, h3, h4⟩ := zip_val h2 (by rcases List.mem_cons.mp hn with z | z; exact absurd z.symm e; exact z)
      refine ⟨v, ?_, h4⟩
      rw [List.zipWith_cons_cons]
      unfold valV
      rw [List.find?_cons_of_neg (by simp only [decide_eq_true_eq]; exact fun z => e (Sum.inr.inj z))]
      exact h3
theorem RkD.val {K : PySem.W.Frag} {H : Hp} {d : Addr} {ρ : Str → Lad} {ns : List Str} {n : Str} (h : RkD K H d ρ ns) (hn : n ∈ ns) : ∃ u, DGet H d (.str n) (some u) ∧ LA K H u (ρ n) := by
  obtain ⟨us, h1, h2⟩ := h
  obtain ⟨u, h3, h4⟩ := zip_val h2 hn
  exact ⟨u, getK h1 h3, h4⟩
theorem RkD.sb {K : PySem.W.Frag} {H H' : Hp} {d : Addr} {ρ : Str → Lad} {ns : List Str} {ps : List Addr} (h : RkD K H d ρ ns) (s : SB ps H H') (hd : d ∉ ps) : RkD K H' d ρ ns := by
  obtain ⟨us, h1, h2⟩ := h
  exact ⟨us, s.keep _ _ h1 hd, h2.sb s Lad.noList_enc⟩
/-- the ladder of a rule -/
def clm (b : Bk) (ρ : Str → Lad) (r : Ru) : Lad := Lad.abv (Gr.rk b ρ r.1) (Gr.rk b ρ r.2)
def RFit (b : Bk) (ρ : Str → Lad) (ns : List Str) (r : Ru) : Prop := Gr.Fit b ρ ns r.1 ∧ Gr.Fit b ρ ns r.2 ∧ (Gr.rk b ρ r.1).deep ≤ 24 ∧ (Gr.rk b ρ r.2).deep ≤ 24 ∧ (Gr.rk b ρ r.1).parts ≤ 390 ∧ (Gr.rk b ρ r.2).parts ≤ 390
theorem clm_no (b : Bk) (ρ : Str → Lad) : clm b ρ (.nil, .nil) = Lad.uno := by
  show Lad.abv (Gr.rk b ρ .nil) (Gr.rk b ρ .nil) = Lad.uno
  have e : Gr.rk b ρ .nil = .nil := by
    show Lad.ofPs (jn (Lad.dsc [])) = .nil
    have : Lad.dsc [] = [] := List.Perm.eq_nil (Lad.dsc_perm [])
    rw [this]; rfl
  rw [e]
  show Lad.bth .nil Lad.uno = Lad.uno
  rw [Lad.bth_comm]
  exact Lad.bth_nil Lad.uno_ok
theorem RFit_no (b : Bk) (ρ : Str → Lad) (ns : List Str) : RFit b ρ ns (.nil, .nil) := by
  have e : Gr.rk b ρ .nil = .nil := by
    show Lad.ofPs (jn (Lad.dsc [])) = .nil
    have : Lad.dsc [] = [] := List.Perm.eq_nil (Lad.dsc_perm [])
    rw [this]; rfl
  exact ⟨trivial, trivial, by show (Gr.rk b ρ .nil).deep ≤ 24; rw [e]; decide, by show (Gr.rk b ρ .nil).deep ≤ 24; rw [e]; decide, by show (Gr.rk b ρ .nil).parts ≤ 390; rw [e]; decide, by show (Gr.rk b ρ .nil).parts ≤ 390; rw [e]; decide⟩
/-- ρ tells the own rank of each kind that is not endless -/
structure OwnR (b : Bk) (ρ : Str → Lad) : Prop where
  own : ∀ k ∈ b, EndK b k.n → ρ k.n = Lad.maxL Lad.uno (k.rs.map (clm b ρ))
  fit : ∀ k ∈ b, EndK b k.n → ∀ ns, (∀ n, n ∈ adj b k.n → n ∈ ns) → ∀ r ∈ k.rs, RFit b ρ ns r
  deep : ∀ k ∈ b, EndK b k.n → ∀ r ∈ k.rs, (clm b ρ r).deep ≤ 45
namespace Gr
variable {b : Bk} {ρ : Str → Lad} {ns : List Str}
theorem Fit.at : ∀ {g : Gr}, Fit b ρ ns g → ∀ p ∈ g.ps, (p.1.1 ∈ ns ∧ p.1.1 ∈ b.names ∧ ρ p.1.1 ≠ .nil ∧ LFit (ρ p.1.1) ∧ LFit (rk b ρ p.1.2) ∧ LFit (rkt b ρ p.1) ∧ 0 ≤ p.2 ∧ p.2 < 2 ^ 2000) ∧ Fit b ρ ns p.1.2
  | .nil, _, p, hp => nomatch hp
  | .cons k g m r, h, p, hp => by
    obtain ⟨⟨h1, h2, h3, h4, h5, h6, h7, h8, _⟩, hg, hr⟩ := h
    rcases List.mem_cons.mp hp with rfl | hp
    · exact ⟨⟨h1, h2, h3, h4, h5, h6, h7, h8⟩, hg⟩
    · exact Fit.at hr p hp
theorem Fit.len : ∀ {g : Gr}, Fit b ρ ns g → ((rkT b ρ g).flatMap Lad.ps).length ≤ 900
  | .nil, _ => by simp [rkT]
  | .cons k g m r, h => h.1.2.2.2.2.2.2.2.2
end Gr
theorem Bears.len {K : PySem.W.Frag} {H : Hp} {β : Type} {enc : β → PyData} {us : List V} {bs : List β} (h : Bears K H enc us bs) : us.length = bs.length := h.length
theorem RkD.put {K : PySem.W.Frag} {H : Hp} {d : Addr} {ρ : Str → Lad} {ns : List Str} {n : Str} {x : V} (h : RkD K H d ρ ns) (hn : n ∉ ns) (hl : ns.length ≤ 1000) (hx : LA K H x (ρ n)) : ∃ H', DPut H d (.str n) x H' ∧ SB [d] H H' ∧ RkD K H' d ρ (ns ++ [n]) := by
  obtain ⟨us, h1, h2⟩ := h
  have szl := sizeLine_eq
  have ul : us.length = ns.length := by rw [h2.length, List.length_map]
  have t := SB.setD (ps := [d]) h1 (by simp) (.dK (putK (List.zipWith (fun (n : Str) (u : V) => ((Sum.inr n : Key), u)) ns us) (Sum.inr n) x))
  have e : putK (List.zipWith (fun (n : Str) (u : V) => ((Sum.inr n : Key), u)) ns us) (Sum.inr n) x = List.zipWith (fun (n : Str) (u : V) => ((Sum.inr n : Key), u)) (ns ++ [n]) (us ++ [x]) := by
    rw [putK_new fun p hp z => ?_, List.zipWith_append (by omega)]
    · rfl
    · clear t h1 h2 ul
      induction ns generalizing us with
      | nil => cases hp
      | cons m r ih =>
        cases us with
        | nil => cases hp
        | cons u us =>
          rw [List.zipWith_cons_cons] at hp
          rcases List.mem_cons.mp hp with rfl | hp
          · exact hn (List.mem_cons.mpr (.inl (Sum.inr.inj z).symm))
          · exact ih (fun h => hn (List.mem_cons_of_mem _ h)) (by simp at hl; omega) us hp
  refine ⟨_, DPut.k (k := Sum.inr n) h1 (by rw [List.length_zipWith]; omega), t, us ++ [x], ?_, ?_⟩
  · rw [upd_same, e]
  · rw [List.map_append]
    exact (h2.sb t Lad.noList_enc).append (.cons (LA.sb hx t) .nil)
end FT
namespace FT
open PySem PySem.W PySem.Spec PyProof.Rows L2
namespace Lad
theorem deep_le' {n : Nat} : ∀ {l : Lad}, (∀ p ∈ l.ps, p.1.deep < n) → l.deep ≤ n
  | .nil, _ => Nat.zero_le _
  | .cons e m r, h => by
    have h1 := h (e, m) (List.mem_cons_self ..)
    have h2 := deep_le' (l := r) fun p hp => h p (List.mem_cons_of_mem _ hp)
    have h1 : e.deep < n := h1
    show max (1 + e.deep) r.deep ≤ n
    omega
end Lad
end FT
namespace FT
open PySem PySem.W PySem.Spec PyProof.Rows L2
theorem Pu.keep {H H' : Hp} {p : Addr} {ps : List Addr} (h : Pu H p) (e : SB ps H H') (n : p ∉ ps) : Pu H' p := by
  obtain ⟨x, y, h1, h2⟩ := h
  exact ⟨x, y, e.keep _ _ h1 n, h2⟩
theorem Pu.some {H : Hp} {p : Addr} (h : Pu H p) : ∀ q ∈ [p], H q ≠ none := fun q hq z => by
  obtain ⟨x, y, h1, _⟩ := h
  rw [List.mem_singleton.mp hq, h1] at z
  cases z
theorem ok_one {n : Str} {m : Int} {C : Int} (hn : NameOk n) (hm : 1 ≤ m) (hC : m < C) : (Gr.cons n .nil m .nil).Ok C := ⟨hn, trivial, hm, hC, trivial, by simp [Gr.ps]⟩
end FT
namespace FT
open PySem PySem.W PySem.Spec PyProof.Rows L2
theorem fold_rep (c : Nat) : ∀ (n : Nat) (b : Array Nat), ((List.replicate n (#[c] : Array Nat)).foldl (· ++ ·) b).toList = b.toList ++ List.replicate n c
  | 0, b => by simp
  | n + 1, b => by
    rw [List.replicate_succ, List.foldl_cons, fold_rep c n]
    simp [List.replicate_succ]
theorem mul_one (c n : Nat) : (Txt.mul ⟨#[c]⟩ (n : Int)).cps.toList = List.replicate n c := by
  unfold Txt.mul
  by_cases h1 : (n : Int) < 1
  · rw [if_pos h1]
    have : n = 0 := by omega
    subst this; rfl
  · rw [if_neg h1]
    by_cases h2 : ((n : Int) == 1 || (⟨#[c]⟩ : Str).length == 0) = true
    · rw [if_pos h2]
      have : n = 1 := by
        have e : ((⟨#[c]⟩ : Str).length == 0) = false := rfl
        rw [e, Bool.or_false] at h2
        have := beq_iff_eq.mp h2
        omega
      subst this; rfl
    · rw [if_neg h2, Int.toNat_natCast]
      exact (fold_rep c n #[]).trans (by simp)
theorem Ltr.mul {c : Nat} (n : Nat) (h : 97 ≤ c ∧ c ≤ 122) : Ltr (Txt.mul ⟨#[c]⟩ (n : Int)) n := by
  refine ⟨?_, fun x hx => ?_⟩
  · rw [mul_one]; simp
  · rw [mul_one] at hx
    rw [List.eq_of_mem_replicate hx]; exact h
def Dr (H : Hp) (p : Addr) : Prop := ∃ ns : List Int, H p = some (.lst (ns.map V.int)) ∧ (∀ x ∈ ns, 0 ≤ x ∧ x < 2147483629) ∧ ns.length ≤ 1000
theorem Dr.keep {H H' : Hp} {p : Addr} {ps : List Addr} (h : Dr H p) (e : SB ps H H') (n : p ∉ ps) : Dr H' p := by
  obtain ⟨ns, h1, h2⟩ := h
  exact ⟨ns, e.keep _ _ h1 n, h2⟩
theorem Dr.sb {H H' : Hp} {p : Addr} (h : Dr H p) (e : SB [] H H') : Dr H' p := h.keep e List.not_mem_nil
theorem Dr.ne {H : Hp} {p q : Addr} (h : Dr H p) (n : H q = none) : p ≠ q := by
  obtain ⟨ns, h1, h2⟩ := h
  exact ne_of_none h1 n
theorem Dr.some {H : Hp} {p : Addr} (h : Dr H p) : ∀ q ∈ [p], H q ≠ none := fun q hq z => by
  obtain ⟨ns, h1, _⟩ := h
  rw [List.mem_singleton.mp hq, h1] at z
  cases z
/-- the kinds of a drawn book: few trees in a rule, and unless roundabout by earlier names only -/
structure Kinds40 (ks : List Str) (rounds : Bool) (b : Bk) : Prop where
  names : b.names.Perm ks
  nums : ∀ k ∈ b, ∀ r ∈ k.rs, r.1.Ok (3 * 10 ^ 8 + 1) ∧ r.2.Ok (3 * 10 ^ 8 + 1)
  size : ∀ k ∈ b, ∀ r ∈ k.rs, r.1.parts + r.2.parts ≤ if ks.length > 3 then 2 else 3
  rules : ∀ k ∈ b, k.rs.length ≤ 4
  early : rounds = false → ∀ k ∈ b, ∀ i, ks[i]? = some k.n → ∀ r ∈ k.rs, Gr.Named (ks.take i) r.1 ∧ Gr.Named (ks.take i) r.2
  known : ∀ k ∈ b, ∀ r ∈ k.rs, Gr.Named ks r.1 ∧ Gr.Named ks r.2
theorem RkD.none {K : PySem.W.Frag} {H : Hp} {d : Addr} {ρ : Str → Lad} {ns : List Str} {n : Str} (h : RkD K H d ρ ns) (hn : n ∉ ns) : DGet H d (.str n) none := by
  obtain ⟨us, h1, h2⟩ := h
  refine .inl ⟨_, Sum.inr n, .inl h1, rfl, ?_⟩
  unfold valV
  have : List.find? (fun kv : Key × V => decide (kv.1 = Sum.inr n)) (List.zipWith (fun (n : Str) (u : V) => ((Sum.inr n : Key), u)) ns us) = Option.none := by
    refine List.find?_eq_none.mpr fun x hx => ?_
    have key : ∀ (ns : List Str) (us : List V), x ∈ List.zipWith (fun (n : Str) (u : V) => ((Sum.inr n : Key), u)) ns us → ∃ m ∈ ns, x.1 = Sum.inr m := by
      intro ns
      induction ns with
      | nil => intro us h; cases h
      | cons m r ih =>
        intro us h
        cases us with
        | nil => cases h
        | cons u us =>
          rw [List.zipWith_cons_cons] at h
          rcases List.mem_cons.mp h with rfl | h
          · exact ⟨m, List.mem_cons_self .., rfl⟩
          · obtain ⟨m', h1, h2⟩ := ih us h
            exact ⟨m', List.mem_cons_of_mem _ h1, h2⟩
    obtain ⟨m, hm, e⟩ := key ns us hx
    rw [e]
    simp only [decide_eq_true_eq]
    exact fun z => hn (by rw [← Sum.inr.inj z]; exact hm)
  rw [this]; rfl
theorem KdAll.cut {K : PySem.W.Frag} {H : Hp} {bad : List Addr} : ∀ (n : Nat) {vs : List V} {b : Bk}, KdAll K H bad vs b → KdAll K H bad (vs.take n) (b.take n) ∧ KdAll K H bad (vs.drop n) (b.drop n)
  | 0, _, _, h => ⟨.nil, h⟩
  | n + 1, _, _, .nil => ⟨.nil, .nil⟩
  | n + 1, _, _, .cons a t => ⟨.cons a (KdAll.cut n t).1, (KdAll.cut n t).2⟩
theorem KdAll.more {K : PySem.W.Frag} {H : Hp} {bad : List Addr} {R : Addr} (hR : H R = none) : ∀ {vs : List V} {b : Bk}, KdAll K H bad vs b → KdAll K H (R :: bad) vs b
  | _, _, .nil => .nil
  | _, _, .cons a t => by
    obtain ⟨t1, l, zs, e, h1, h2, h3, h4⟩ := a
    refine .cons ⟨t1, l, zs, e, h1, h2, h3, fun z => ?_⟩ (KdAll.more hR t)
    rcases List.mem_cons.mp z with z | z
    · rw [z, hR] at h2; cases h2
    · exact h4 z
end FT
namespace FT
open PySem PySem.W PySem.Spec PyProof.Rows L2
theorem two_pos (n : Nat) : (1 : Int) ≤ 2 ^ n := by
  have : (0 : Int) < 2 ^ n := Int.pow_pos (by decide)
  omega
theorem two_mono {a b : Nat} (h : a ≤ b) : (2 : Int) ^ a ≤ 2 ^ b := by
  obtain ⟨k, rfl⟩ := Nat.le.dest h
  rw [Int.pow_add]
  have h1 := two_pos a
  have h2 := two_pos k
  have := Int.mul_le_mul_of_nonneg_left h2 (show (0 : Int) ≤ 2 ^ a by omega)
  omega
theorem two_succ (a : Nat) : (2 : Int) ^ (a + 1) = 2 * 2 ^ a := by rw [Int.pow_succ]; omega
namespace Lad
theorem lad_ok {B C : Int} {w : Bool} {o l : Lad} (ho : o.Ok B) (hl : l.Ok C) (hB : 1 ≤ B) (hC : 1 ≤ C) : (lad w o l).Ok (B + C) := by
  unfold lad
  cases w with
  | false => exact bhd_ok ho hl hB hC
  | true =>
    rw [if_pos rfl]
    cases o with
    | nil =>
      cases l with
      | nil => trivial
      | cons e m r => exact hl.mono (by omega)
    | cons e m r =>
      cases l with
      | nil => exact ho.mono (by omega)
      | cons e2 m2 r2 =>
        show (Lad.cons (bhd e (.cons e2 m2 r2)) 1 .nil).Ok _
        exact ⟨bhd_ok ho.1 hl hB hC, by decide, by omega, trivial, by simp [ps]⟩
theorem lad_parts (w : Bool) (o l : Lad) : (lad w o l).parts ≤ o.parts + l.parts := by
  unfold lad
  cases w with
  | false => exact bhd_parts o l
  | true =>
    rw [if_pos rfl]
    cases o with
    | nil => cases l <;> simp [spd, parts]
    | cons e m r =>
      cases l with
      | nil => show (Lad.cons e m r).parts ≤ _; omega
      | cons e2 m2 r2 =>
        have := bhd_parts e (.cons e2 m2 r2)
        show 1 + (bhd e (.cons e2 m2 r2)).parts + 0 ≤ 1 + e.parts + r.parts + _
        omega
theorem lad_deep {w : Bool} {o l : Lad} {n : Nat} (ho : o.deep ≤ n) (hl : l.deep ≤ n) : (lad w o l).deep ≤ n + 1 := by
  unfold lad
  cases w with
  | false => exact Nat.le_succ_of_le (bhd_deep ho hl)
  | true =>
    rw [if_pos rfl]
    cases o with
    | nil => cases l with
      | nil => exact Nat.zero_le _
      | cons e m r => exact Nat.le_succ_of_le hl
    | cons e m r =>
      cases l with
      | nil => exact Nat.le_succ_of_le ho
      | cons e2 m2 r2 =>
        have he : e.deep ≤ n := by
          have : max (1 + e.deep) r.deep ≤ n := ho
          omega
        have := bhd_deep he hl
        show max (1 + (bhd e (.cons e2 m2 r2)).deep) 0 ≤ n + 1
        omega
/-- all of some ladders together is a right one -/
theorem bths_ok {ls : List Lad} {B D : Int} (h : ∀ l ∈ ls, l.Ok B) (hB : 0 ≤ B) (hD : B ≤ D) (hs : ∀ x, (ls.map fun l => S l x).sum < D) : (bths ls).Ok D := by
  have hd : (jn (dsc (ls.flatMap ps))).Pairwise (fun p q => q.1.lt p.1 = true) := jn_desc (dsc_keys _)
  show (ofPs (jn (dsc (ls.flatMap ps)))).Ok D
  rw [ok_ps]
  refine ⟨fun p hp => ?_, hd⟩
  have hnd : ∀ (bs : List (Lad × Int)), bs.Pairwise (fun p q => q.1.lt p.1 = true) → ∀ p ∈ bs, sumAt bs p.1 = p.2 := by
    intro bs
    induction bs with
    | nil => intro _ p hp; cases hp
    | cons q r ih =>
      intro hpw p hp
      obtain ⟨e, m⟩ := q
      obtain ⟨h1, h2⟩ := List.pairwise_cons.mp hpw
      rw [sumAt_cons]
      rcases List.mem_cons.mp hp with hp | hp
      · subst hp
        rw [if_pos rfl, sumAt_zero fun q hq => lt_ne (h1 q hq)]
        omega
      · rw [if_neg (fun z => lt_ne (h1 p hp) z.symm), ih h2 p hp]
        omega
  have e1 : sumAt (jn (dsc (ls.flatMap ps))) p.1 = p.2 := hnd _ hd p hp
  have e2 : p.2 = (ls.map fun l => S l p.1).sum := by
    rw [← e1, ← Gr.S_bths]
    show _ = sumAt (bths ls).ps p.1
    unfold bths
    rw [ps_ofPs]
  obtain ⟨q, hq, eq⟩ := jn_keys _ p hp
  have hq' := (dsc_perm _).mem_iff.mp hq
  obtain ⟨l, hl, hql⟩ := List.mem_flatMap.mp hq'
  have qo := (ok_iff.mp (h l hl)).1 q hql
  have pos : ∀ (ks : List Lad), (∀ l ∈ ks, l.Ok B) → 0 ≤ (ks.map fun l => S l p.1).sum ∧ ∀ l ∈ ks, S l p.1 ≤ (ks.map fun l => S l p.1).sum := by
    intro ks
    induction ks with
    | nil => intro _; exact ⟨Int.le_refl _, fun l hl => nomatch hl⟩
    | cons k r ih =>
      intro hk
      obtain ⟨i1, i2⟩ := ih fun l hl => hk l (List.mem_cons_of_mem _ hl)
      have n1 := S_nonneg (hk k (List.mem_cons_self ..)) p.1
      rw [List.map_cons, List.sum_cons]
      refine ⟨by omega, fun l hl => ?_⟩
      rcases List.mem_cons.mp hl with rfl | hl
      · omega
      · have := i2 l hl; omega
  have s1 := (pos ls h).2 l hl
  have s2 : S l p.1 = q.2 := by rw [← eq]; exact S_mem (h l hl) hql
  have s3 := hs p.1
  refine ⟨?_, by omega, by omega⟩
  rw [← eq]; exact qo.1.mono hD
theorem bths_parts (ls : List Lad) : (bths ls).parts ≤ (ls.map parts).sum := by
  have e : ∀ ls : List Lad, tot (ls.flatMap ps) = (ls.map parts).sum := by
    intro ls
    induction ls with
    | nil => rfl
    | cons l r ih =>
      rw [List.flatMap_cons, tot_append, ih, List.map_cons, List.sum_cons]
      have : tot l.ps = l.parts := by
        have := parts_ofPs l.ps
        rw [ofPs_ps] at this; exact this.symm
      rw [this]
  show (ofPs (jn (dsc (ls.flatMap ps)))).parts ≤ _
  rw [parts_ofPs, ← e]
  exact Nat.le_trans (tot_jn _) (Nat.le_of_eq (tot_perm (dsc_perm _)))
theorem bths_deep {ls : List Lad} {n : Nat} (h : ∀ l ∈ ls, l.deep ≤ n) : (bths ls).deep ≤ n := by
  refine deep_le' fun p hp => ?_
  unfold bths at hp
  rw [ps_ofPs] at hp
  obtain ⟨q, hq, e⟩ := jn_keys _ p hp
  obtain ⟨l, hl, hql⟩ := List.mem_flatMap.mp ((dsc_perm _).mem_iff.mp hq)
  have := l.mem_deep q hql
  have := h l hl
  rw [← e]; omega
end Lad
namespace Gr
variable {b : Bk} {ρ σ : Str → Lad} {C : Int} {ns : List Str}
theorem rk_nil : rk b ρ .nil = .nil := by
  show Lad.ofPs (jn (Lad.dsc [])) = .nil
  have : Lad.dsc [] = [] := List.Perm.eq_nil (Lad.dsc_perm [])
  rw [this]; rfl
theorem rkT_congr : ∀ {g : Gr}, (∀ x ∈ g.within, ρ x.1.1 = σ x.1.1) → rkT b ρ g = rkT b σ g
  | .nil, _ => rfl
  | .cons k g m r, h => by
    have e1 := h ((k, g), m) (List.mem_cons_self ..)
    have e2 := rkT_congr (g := g) fun x hx => h x (List.mem_cons_of_mem _ (List.mem_append_left _ hx))
    have e3 := rkT_congr (g := r) fun x hx => h x (List.mem_cons_of_mem _ (List.mem_append_right _ hx))
    show Lad.tms (lad (b.wide k) (ρ k) (Lad.bths (rkT b ρ g))) m :: rkT b ρ r = _ :: rkT b σ r
    rw [e2, e3, show ρ k = σ k from e1]
theorem rk_congr {g : Gr} (h : ∀ x ∈ g.within, ρ x.1.1 = σ x.1.1) : rk b ρ g = rk b σ g := by unfold rk; rw [rkT_congr h]
/-- how great the ladder of a grove is, by those of its kinds -/
theorem rk_size {P D : Nat} (hk : ∀ n ∈ ns, (ρ n).parts ≤ P ∧ (ρ n).deep ≤ D) : ∀ {g : Gr}, Named ns g → ((rkT b ρ g).map Lad.parts).sum ≤ P * g.parts ∧ ∀ l ∈ rkT b ρ g, l.deep ≤ D + g.deep
  | .nil, _ => And.intro (Nat.zero_le _) (fun l hl => nomatch hl)
  | .cons k g m r, h => by
    have hkn : k ∈ ns := h ((k, g), m) (List.mem_cons_self ..)
    obtain ⟨g1, g2⟩ := rk_size hk (g := g) fun x hx => h x (List.mem_cons_of_mem _ (List.mem_append_left _ hx))
    obtain ⟨r1, r2⟩ := rk_size hk (g := r) fun x hx => h x (List.mem_cons_of_mem _ (List.mem_append_right _ hx))
    obtain ⟨k1, k2⟩ := hk k hkn
    have ip : (Lad.bths (rkT b ρ g)).parts ≤ P * g.parts := Nat.le_trans (Lad.bths_parts _) g1
    have idp : (Lad.bths (rkT b ρ g)).deep ≤ D + g.deep := Lad.bths_deep g2
    have lp := Lad.lad_parts (b.wide k) (ρ k) (Lad.bths (rkT b ρ g))
    have tp := Lad.tms_parts (lad (b.wide k) (ρ k) (Lad.bths (rkT b ρ g))) m
    have ld := Lad.lad_deep (w := b.wide k) (o := ρ k) (l := Lad.bths (rkT b ρ g)) (n := D + g.deep) (by omega) idp
    have e1 : (Gr.cons k g m r).parts = 1 + g.parts + r.parts := rfl
    have e2 : (Gr.cons k g m r).deep = max (1 + g.deep) r.deep := rfl
    refine ⟨?_, fun l hl => ?_⟩
    · show (Lad.tms (lad (b.wide k) (ρ k) (Lad.bths (rkT b ρ g))) m).parts + ((rkT b ρ r).map Lad.parts).sum ≤ _
      rw [e1, Nat.mul_add, Nat.mul_add, Nat.mul_one]
      omega
    · rw [e2]
      rcases List.mem_cons.mp hl with rfl | hl
      · have := Lad.tms_deep (n := D + g.deep + 1) m ld
        omega
      · have := r2 l hl; omega
theorem rk_nums {x : Nat} (hk : ∀ n ∈ ns, (ρ n).Ok (2 ^ x)) : ∀ {g : Gr}, Named ns g → g.Ok (2 ^ 29) → (∀ l ∈ rkT b ρ g, l.Ok (2 ^ (x + 31 * g.parts))) ∧ ∀ y, ((rkT b ρ g).map fun l => Lad.S l y).sum < 2 ^ (x + 31 * g.parts)
  | .nil, _, _ => And.intro (fun l hl => nomatch hl) (fun y => by
    show (0 : Int) < _
    have := two_pos (x + 31 * Gr.nil.parts); omega)
  | .cons k g m r, h, ho => by
    obtain ⟨_, hg, hm1, hm2, hr, _⟩ := ho
    have hkn : k ∈ ns := h ((k, g), m) (List.mem_cons_self ..)
    obtain ⟨g1, g2⟩ := rk_nums hk (g := g) (fun x hx => h x (List.mem_cons_of_mem _ (List.mem_append_left _ hx))) hg
    obtain ⟨r1, r2⟩ := rk_nums hk (g := r) (fun x hx => h x (List.mem_cons_of_mem _ (List.mem_append_right _ hx))) hr
    have e1 : (Gr.cons k g m r).parts = 1 + g.parts + r.parts := rfl
    have p0 := two_pos (x + 31 * g.parts)
    have px := two_pos x
    have io : (Lad.bths (rkT b ρ g)).Ok (2 ^ (x + 31 * g.parts)) := Lad.bths_ok g1 (by omega) (Int.le_refl _) g2
    have lo := Lad.lad_ok (w := b.wide k) (hk k hkn) io px p0
    have m1 := two_mono (show x ≤ x + 31 * g.parts by omega)
    have lo2 : (lad (b.wide k) (ρ k) (Lad.bths (rkT b ρ g))).Ok (2 ^ (x + 31 * g.parts + 1)) := lo.mono (by rw [two_succ]; omega)
    have to := Lad.tms_ok lo2 (show 0 ≤ m by omega)
    have q0 := two_pos (x + 31 * g.parts + 1)
    have hb : 2 ^ (x + 31 * g.parts + 1) * m + 2 ^ (x + 31 * g.parts + 1) ≤ 2 ^ (x + 31 * g.parts + 30) := by
      have : (2 : Int) ^ (x + 31 * g.parts + 30) = 2 ^ (x + 31 * g.parts + 1) * 2 ^ 29 := by rw [← Int.pow_add]
      rw [this]
      have h2 : (2 : Int) ^ (x + 31 * g.parts + 1) * (m + 1) ≤ 2 ^ (x + 31 * g.parts + 1) * 2 ^ 29 := Int.mul_le_mul_of_nonneg_left (by omega) (by omega)
      rw [Int.mul_add, Int.mul_one] at h2
      exact h2
    have to2 := to.mono hb
    have w1 := two_mono (show x + 31 * g.parts + 30 ≤ x + 31 * (1 + g.parts + r.parts) - 1 by omega)
    have w2 := two_mono (show x + 31 * r.parts ≤ x + 31 * (1 + g.parts + r.parts) - 1 by omega)
    have w3 := two_succ (x + 31 * (1 + g.parts + r.parts) - 1)
    rw [show x + 31 * (1 + g.parts + r.parts) - 1 + 1 = x + 31 * (1 + g.parts + r.parts) by omega] at w3
    have w0 := two_pos (x + 31 * (1 + g.parts + r.parts) - 1)
    rw [e1]
    refine ⟨fun l hl => ?_, fun y => ?_⟩
    · rcases List.mem_cons.mp hl with rfl | hl
      · exact to2.mono (by omega)
      · exact (r1 l hl).mono (by omega)
    · show Lad.S (Lad.tms (lad (b.wide k) (ρ k) (Lad.bths (rkT b ρ g))) m) y + ((rkT b ρ r).map fun l => Lad.S l y).sum < _
      have s2 := r2 y
      have s3 : Lad.S (Lad.tms (lad (b.wide k) (ρ k) (Lad.bths (rkT b ρ g))) m) y < 2 ^ (x + 31 * g.parts + 30) ∨ Lad.S (Lad.tms (lad (b.wide k) (ρ k) (Lad.bths (rkT b ρ g))) m) y ≤ 0 := by
        rcases Lad.S_cases to2 y with ⟨h1, _⟩ | ⟨mm, _, h2, _, h4⟩
        · right; omega
        · left; omega
      have w4 := two_pos (x + 31 * g.parts + 30)
      rcases s3 with s3 | s3 <;> omega
end Gr
namespace Gr
variable {b : Bk} {ρ : Str → Lad} {ns : List Str}
/-- fit, by how great the ladders of the kinds are -/
theorem rk_fit {P D x : Nat} (hk : ∀ n ∈ ns, n ∈ b.names ∧ ρ n ≠ .nil ∧ (ρ n).parts ≤ P ∧ (ρ n).deep ≤ D ∧ (ρ n).Ok (2 ^ x)) (hP : 1 ≤ P) : ∀ {g : Gr}, Named ns g → g.Ok (2 ^ 29) → P * g.parts ≤ 390 → D + g.deep ≤ 24 → x + 31 * g.parts ≤ 2000 → Fit b ρ ns g
  | .nil, _, _, _, _, _ => trivial
  | .cons k g m r, h, ho, hp, hd, hx => by
    have hP' : ∀ n ∈ ns, (ρ n).parts ≤ P ∧ (ρ n).deep ≤ D := fun n hn => ⟨(hk n hn).2.2.1, (hk n hn).2.2.2.1⟩
    have hX' : ∀ n ∈ ns, (ρ n).Ok (2 ^ x) := fun n hn => (hk n hn).2.2.2.2
    have nm : 2 ^ 29 ≤ (2 : Int) ^ 2000 := two_mono (by decide)
    obtain ⟨hkn, hnn⟩ : k ∈ ns ∧ (Named ns g ∧ Named ns r) := ⟨h ((k, g), m) (List.mem_cons_self ..), fun x hx => h x (List.mem_cons_of_mem _ (List.mem_append_left _ hx)), fun x hx => h x (List.mem_cons_of_mem _ (List.mem_append_right _ hx))⟩
    obtain ⟨ok0, hg, hm1, hm2, hr, hrise⟩ := ho
    have ho : (Gr.cons k g m r).Ok (2 ^ 29) := ⟨ok0, hg, hm1, hm2, hr, hrise⟩
    have e1 : (Gr.cons k g m r).parts = 1 + g.parts + r.parts := rfl
    have e2 : (Gr.cons k g m r).deep = max (1 + g.deep) r.deep := rfl
    rw [e1, Nat.mul_add, Nat.mul_add, Nat.mul_one] at hp
    rw [e1] at hx
    obtain ⟨s1, s2⟩ := rk_size hP' h
    obtain ⟨g1, g2⟩ := rk_size hP' hnn.1
    obtain ⟨n1, n2⟩ := rk_nums hX' hnn.1 hg
    have p0 := two_pos (x + 31 * g.parts)
    have px := two_pos x
    have io : (Lad.bths (rkT b ρ g)).Ok (2 ^ (x + 31 * g.parts)) := Lad.bths_ok n1 (by omega) (Int.le_refl _) n2
    have lo := (Lad.lad_ok (w := b.wide k) (hX' k hkn) io px p0)
    have m1 := two_mono (show x ≤ x + 31 * g.parts by omega)
    have m2 := two_mono (show x + 31 * g.parts + 1 ≤ 2000 by omega)
    have m3 := two_succ (x + 31 * g.parts)
    obtain ⟨kb, kne, kp, kd, kx⟩ := hk k hkn
    have num : ∀ {l : Lad}, l.Ok (2 ^ 2000) → ∀ p ∈ l.ps, 0 ≤ p.2 ∧ p.2 < 2 ^ 2000 := fun hl p hp => by
      have := (Lad.ok_iff.mp hl).1 p hp
      exact ⟨by omega, this.2.2⟩
    have ip : (Lad.bths (rkT b ρ g)).parts ≤ P * g.parts := Nat.le_trans (Lad.bths_parts _) g1
    have idp : (Lad.bths (rkT b ρ g)).deep ≤ D + g.deep := Lad.bths_deep g2
    have lp := Lad.lad_parts (b.wide k) (ρ k) (Lad.bths (rkT b ρ g))
    have ld := Lad.lad_deep (w := b.wide k) (o := ρ k) (l := Lad.bths (rkT b ρ g)) (n := D + g.deep) (by omega) idp
    refine ⟨⟨hkn, kb, kne, ⟨by omega, by omega, num (kx.mono (by omega))⟩, ⟨by show (Lad.bths (rkT b ρ g)).deep ≤ 25; omega, by show (Lad.bths (rkT b ρ g)).parts ≤ 900; omega, num (io.mono (by omega))⟩, ⟨by show (lad (b.wide k) (ρ k) (Lad.bths (rkT b ρ g))).deep ≤ 25; omega, by show (lad (b.wide k) (ρ k) (Lad.bths (rkT b ρ g))).parts ≤ 900; omega, num (lo.mono (by omega))⟩, by omega, by omega, ?_⟩, rk_fit hk hP hnn.1 hg (by omega) (by omega) (by omega), rk_fit hk hP hnn.2 hr (by omega) (by omega) (by omega)⟩
    have key : ∀ ls : List Lad, (ls.flatMap Lad.ps).length ≤ (ls.map Lad.parts).sum := by
      intro ls
      induction ls with
      | nil => exact Nat.le_refl _
      | cons l r ih =>
        rw [List.flatMap_cons, List.length_append, List.map_cons, List.sum_cons, Lad.ps_length]
        have := l.len_parts
        omega
    have := key (rkT b ρ (.cons k g m r))
    rw [e1, Nat.mul_add, Nat.mul_add, Nat.mul_one] at s1
    exact Nat.le_trans (Nat.le_trans this s1) (by omega)
end Gr
theorem ledR_within {rs : List Ru} {r : Ru} (hr : r ∈ rs) {x : Tr × Int} (hx : x ∈ Ru.within r) : x.1.1 ∈ ledR rs := List.mem_flatMap.mpr ⟨r, hr, List.mem_map.mpr ⟨x, hx, rfl⟩⟩
theorem clm_congr {b : Bk} {ρ σ : Str → Lad} {r : Ru} (h : ∀ x ∈ Ru.within r, ρ x.1.1 = σ x.1.1) : clm b ρ r = clm b σ r := by
  unfold clm
  rw [Gr.rk_congr fun x hx => h x (List.mem_append_left _ hx), Gr.rk_congr fun x hx => h x (List.mem_append_right _ hx)]
def Bk.rules (b : Bk) (n : Str) : List Ru := match b.get n with
  | some k => k.rs
  | none => []
def leadsTo (b : Bk) (k n : Str) : Prop := k ∈ adj b n ∧ EndK b n
theorem leads_wf (b : Bk) : WellFounded (leadsTo b) := by
  have h1 : ∀ n, EndK b n → Acc (leadsTo b) n := fun n h => by
    induction h with
    | mk _ ih => exact ⟨_, fun y hy => ih y hy.1⟩
  exact ⟨fun n => ⟨n, fun y hy => h1 y (hy.2.next hy.1)⟩⟩
open Classical in
noncomputable def ownF (b : Bk) (n : Str) (rec : ∀ k, leadsTo b k n → Lad) : Lad := Lad.maxL Lad.uno ((b.rules n).map (clm b fun k => if h : leadsTo b k n then rec k h else Lad.uno))
noncomputable def ownOf (b : Bk) : Str → Lad := (leads_wf b).fix (ownF b)
theorem ownOf_eq {b : Bk} (ok : b.Ok) {k : Kd} (hk : k ∈ b) (he : EndK b k.n) : ownOf b k.n = Lad.maxL Lad.uno (k.rs.map (clm b (ownOf b))) := by
  unfold ownOf
  rw [WellFounded.fix_eq]
  unfold ownF
  have er : b.rules k.n = k.rs := by unfold Bk.rules; rw [Bk.get_self ok.nd hk]
  rw [er]
  congr 1
  refine List.map_congr_left fun r hr => clm_congr fun x hx => ?_
  have hl : leadsTo b x.1.1 k.n := ⟨by rw [adj_self ok hk]; exact ledR_within hr hx, he⟩
  rw [dif_pos hl]
theorem Gr.Fit.mono {b : Bk} {ρ : Str → Lad} {ns ms : List Str} (h : ∀ n ∈ ns, n ∈ ms) : ∀ {g : Gr}, Gr.Fit b ρ ns g → Gr.Fit b ρ ms g
  | .nil, _ => trivial
  | .cons k g m r, hf => by
    obtain ⟨⟨h1, h2, h3, h4, h5, h6, h7, h8, h9⟩, hg, hr⟩ := hf
    exact ⟨⟨h _ h1, h2, h3, h4, h5, h6, h7, h8, h9⟩, Gr.Fit.mono h hg, Gr.Fit.mono h hr⟩
theorem filter_lt {α : Type} {p q : α → Bool} : ∀ {l : List α}, (∀ x ∈ l, p x = true → q x = true) → (∃ x ∈ l, q x = true ∧ p x = false) → (l.filter p).length < (l.filter q).length
  | [], _, ⟨x, hx, _⟩ => nomatch hx
  | a :: r, h, ⟨x, hx, hq, hp⟩ => by
    have hr : ∀ x ∈ r, p x = true → q x = true := fun y hy => h y (List.mem_cons_of_mem _ hy)
    have le : ∀ l : List α, (∀ x ∈ l, p x = true → q x = true) → (l.filter p).length ≤ (l.filter q).length := by
      intro l
      induction l with
      | nil => intro _; exact Nat.le_refl _
      | cons c s ih =>
        intro hc
        have := ih fun y hy => hc y (List.mem_cons_of_mem _ hy)
        cases hpc : p c with
        | true =>
          rw [List.filter_cons_of_pos hpc, List.filter_cons_of_pos (hc c (List.mem_cons_self ..) hpc)]
          simpa using this
        | false =>
          rw [List.filter_cons_of_neg (by simp [hpc])]
          cases hqc : q c with
          | true => rw [List.filter_cons_of_pos hqc, List.length_cons]; omega
          | false => rw [List.filter_cons_of_neg (by simp [hqc])]; exact this
    rcases List.mem_cons.mp hx with rfl | hx
    · rw [List.filter_cons_of_neg (by simp [hp]), List.filter_cons_of_pos hq, List.length_cons]
      have := le r hr
      omega
    · have ih := filter_lt hr ⟨x, hx, hq, hp⟩
      cases hpc : p a with
      | true =>
        rw [List.filter_cons_of_pos hpc, List.filter_cons_of_pos (h a (List.mem_cons_self ..) hpc)]
        simpa using ih
      | false =>
        rw [List.filter_cons_of_neg (by simp [hpc])]
        cases hqc : q a with
        | true => rw [List.filter_cons_of_pos hqc, List.length_cons]; omega
        | false => rw [List.filter_cons_of_neg (by simp [hqc])]; exact ih
open Classical in
/-- to how many kinds one comes from a kind -/
noncomputable def cntR (b : Bk) (n : Str) : Nat := (b.names.filter fun k => decide (Rch b n k)).length
theorem cntR_lt {b : Bk} (ok : b.Ok) {n k : Str} (he : EndK b n) (hk : k ∈ adj b n) : cntR b k < cntR b n := by
  refine filter_lt (fun x _ hx => ?_) ⟨k, adj_names ok hk, ?_, ?_⟩
  · simp only [decide_eq_true_eq] at hx ⊢
    exact Rch.cons hk hx
  · simp only [decide_eq_true_eq]; exact .one hk
  · simp only [decide_eq_false_iff_not]; exact (he.next hk).noring
theorem cntR_top {b : Bk} {n : Str} (he : EndK b n) (hn : n ∈ b.names) : cntR b n < b.length := by
  have h := filter_lt (p := fun k => @decide (Rch b n k) (Classical.propDecidable _)) (q := fun _ => true) (l := b.names) (fun _ _ _ => rfl) ⟨n, hn, rfl, by simp only [decide_eq_false_iff_not]; exact he.noring⟩
  have e : (b.names.filter fun _ => true).length = b.length := by rw [List.filter_eq_self.mpr (fun _ _ => rfl), List.length_map]
  rw [e] at h
  exact h
def Pm (m : Nat) : Nat → Nat
  | 0 => 2
  | c + 1 => m * Pm m c + 2
theorem Pm_two (m : Nat) : ∀ c, 2 ≤ Pm m c
  | 0 => Nat.le_refl _
  | c + 1 => Nat.le_add_left _ _
structure Bnd (m c : Nat) (l : Lad) : Prop where
  ne : l ≠ .nil
  parts : l.parts ≤ Pm m c
  deep : l.deep ≤ 2 + m * c
  ok : l.Ok (2 ^ (2 + (31 * m + 2) * c))
theorem clm_bnd {b : Bk} {ρ : Str → Lad} {ns : List Str} {P D x m : Nat} {r : Ru} (hk : ∀ n ∈ ns, (ρ n).parts ≤ P ∧ (ρ n).deep ≤ D) (hx : ∀ n ∈ ns, (ρ n).Ok (2 ^ x)) (h1 : Gr.Named ns r.1) (h2 : Gr.Named ns r.2) (o1 : r.1.Ok (2 ^ 29)) (o2 : r.2.Ok (2 ^ 29)) (hs : r.1.parts + r.2.parts ≤ m) (hD : 2 ≤ D) :
    (clm b ρ r).parts ≤ m * P + 2 ∧ (clm b ρ r).deep ≤ D + m ∧ (clm b ρ r).Ok (2 ^ (x + 31 * m + 2)) ∧ (Gr.rk b ρ r.1).deep ≤ D + m ∧ (Gr.rk b ρ r.2).deep ≤ D + m ∧ (Gr.rk b ρ r.1).parts ≤ m * P ∧ (Gr.rk b ρ r.2).parts ≤ m * P := by
  obtain ⟨a1, a2⟩ := Gr.rk_size (b := b) hk h1
  obtain ⟨b1, b2⟩ := Gr.rk_size (b := b) hk h2
  obtain ⟨c1, c2⟩ := Gr.rk_nums (b := b) hx h1 o1
  obtain ⟨d1, d2⟩ := Gr.rk_nums (b := b) hx h2 o2
  have w1 := within_deep r.1
  have w2 := within_deep r.2
  have p1 : (Gr.rk b ρ r.1).parts ≤ P * r.1.parts := Nat.le_trans (Lad.bths_parts _) a1
  have p2 : (Gr.rk b ρ r.2).parts ≤ P * r.2.parts := Nat.le_trans (Lad.bths_parts _) b1
  have q1 : (Gr.rk b ρ r.1).deep ≤ D + r.1.deep := Lad.bths_deep a2
  have q2 : (Gr.rk b ρ r.2).deep ≤ D + r.2.deep := Lad.bths_deep b2
  have e1 := two_pos (x + 31 * r.1.parts)
  have e2 := two_pos (x + 31 * r.2.parts)
  have k1 : (Gr.rk b ρ r.1).Ok (2 ^ (x + 31 * r.1.parts)) := Lad.bths_ok c1 (by omega) (Int.le_refl _) c2
  have k2 : (Gr.rk b ρ r.2).Ok (2 ^ (x + 31 * r.2.parts)) := Lad.bths_ok d1 (by omega) (Int.le_refl _) d2
  have ko := Lad.abv_ok k1 k2 e1 e2
  have hm : P * r.1.parts + P * r.2.parts ≤ m * P := by
    rw [← Nat.mul_add, Nat.mul_comm m P]
    exact Nat.mul_le_mul_left _ hs
  have ap := Lad.abv_parts (Gr.rk b ρ r.1) (Gr.rk b ρ r.2)
  have ad := Lad.abv_deep (n := D + m) (l := Gr.rk b ρ r.1) (k := Gr.rk b ρ r.2) (by omega) (by omega) (by omega)
  have m1 := two_mono (show x + 31 * r.1.parts ≤ x + 31 * m by omega)
  have m2 := two_mono (show x + 31 * r.2.parts ≤ x + 31 * m by omega)
  have m3 := two_succ (x + 31 * m)
  have m4 : (2 : Int) ^ (x + 31 * m + 2) = 2 * 2 ^ (x + 31 * m + 1) := two_succ (x + 31 * m + 1)
  have m5 := two_pos (x + 31 * m)
  exact ⟨by unfold clm; omega, ad, ko.mono (by omega), by omega, by omega, by omega, by omega⟩
/-- the ladders that own ranks are, of a book of few trees in a rule -/
theorem own_bnd {b : Bk} (ok : b.Ok) {m : Nat} (hm : ∀ k ∈ b, ∀ r ∈ k.rs, r.1.Ok (2 ^ 29) ∧ r.2.Ok (2 ^ 29) ∧ r.1.parts + r.2.parts ≤ m) : ∀ (c : Nat) (k : Kd), k ∈ b → EndK b k.n → cntR b k.n ≤ c → Bnd m c (ownOf b k.n)
  | c, k, hk, he, hc => by
    have hadj := adj_self ok hk
    have nm : ∀ r ∈ k.rs, Gr.Named (adj b k.n) r.1 ∧ Gr.Named (adj b k.n) r.2 := fun r hr => ⟨fun x hx => by rw [hadj]; exact ledR_within hr (List.mem_append_left _ hx), fun x hx => by rw [hadj]; exact ledR_within hr (List.mem_append_right _ hx)⟩
    have eq := ownOf_eq ok hk he
    have ne : ownOf b k.n ≠ .nil := fun z => by
      have := Lad.maxL_ge (k.rs.map (clm b (ownOf b))) Lad.uno Lad.uno (List.mem_cons_self ..)
      rw [← eq, z] at this
      rw [Lad.lt_nil_cons] at this; cases this
    have p2 := Pm_two m c
    have x0 : (2 : Int) ≤ 2 ^ (2 + (31 * m + 2) * c) := by
      have := two_mono (show 1 ≤ 2 + (31 * m + 2) * c by omega)
      exact this
    have ofClm : (∀ r ∈ k.rs, (clm b (ownOf b) r).parts ≤ Pm m c ∧ (clm b (ownOf b) r).deep ≤ 2 + m * c ∧ (clm b (ownOf b) r).Ok (2 ^ (2 + (31 * m + 2) * c))) → Bnd m c (ownOf b k.n) := fun h => by
      refine ⟨ne, ?_, ?_, ?_⟩ <;> rw [eq] <;> rcases List.mem_cons.mp (Lad.maxL_mem (k.rs.map (clm b (ownOf b))) Lad.uno) with e | e
      · rw [e]; show 1 ≤ _; omega
      · obtain ⟨r, hr, e⟩ := List.mem_map.mp e
        rw [← e]; exact (h r hr).1
      · rw [e]; show 1 ≤ _; omega
      · obtain ⟨r, hr, e⟩ := List.mem_map.mp e
        rw [← e]; exact (h r hr).2.1
      · rw [e]; exact Lad.uno_ok.mono x0
      · obtain ⟨r, hr, e⟩ := List.mem_map.mp e
        rw [← e]; exact (h r hr).2.2
    cases c with
    | zero =>
      have h0 : adj b k.n = [] := by
        cases ha : adj b k.n with
        | nil => rfl
        | cons y ys =>
          have := cntR_lt ok he (k := y) (by rw [ha]; exact List.mem_cons_self ..)
          omega
      refine ofClm fun r hr => ?_
      obtain ⟨n1, n2⟩ := nm r hr
      rw [h0] at n1 n2
      have nil_of : ∀ g : Gr, Gr.Named [] g → g = .nil := fun g h => by
        cases g with
        | nil => rfl
        | cons k g m r => exact absurd (h ((k, g), m) (List.mem_cons_self ..)) (by simp)
      have e : r = (.nil, .nil) := Prod.ext (nil_of _ n1) (nil_of _ n2)
      rw [e, clm_no]
      exact ⟨by show 1 ≤ 2; decide, by show 1 ≤ _; omega, Lad.uno_ok.mono x0⟩
    | succ c =>
      have hch : ∀ n ∈ adj b k.n, Bnd m c (ownOf b n) := fun n hn => by
        have hlt := cntR_lt ok he hn
        obtain ⟨kd, eg⟩ := Bk.get_of (adj_names ok hn)
        obtain ⟨hkd, rfl⟩ := Bk.get_some eg
        exact own_bnd ok hm c kd hkd (he.next hn) (by omega)
      refine ofClm fun r hr => ?_
      obtain ⟨n1, n2⟩ := nm r hr
      obtain ⟨o1, o2, hs⟩ := hm k hk r hr
      obtain ⟨c1, c2, c3, _⟩ := clm_bnd (b := b) (ρ := ownOf b) (P := Pm m c) (D := 2 + m * c) (x := 2 + (31 * m + 2) * c) (fun n hn => ⟨(hch n hn).parts, (hch n hn).deep⟩) (fun n hn => (hch n hn).ok) n1 n2 o1 o2 hs (by omega)
      refine ⟨c1, by rw [Nat.mul_succ]; omega, ?_⟩
      have : 2 + (31 * m + 2) * (c + 1) = 2 + (31 * m + 2) * c + 31 * m + 2 := by rw [Nat.mul_succ]; omega
      rw [this]; exact c3
theorem own_good {b : Bk} (ok : b.Ok) {m : Nat} (hm : ∀ k ∈ b, ∀ r ∈ k.rs, r.1.Ok (2 ^ 29) ∧ r.2.Ok (2 ^ 29) ∧ r.1.parts + r.2.parts ≤ m) (hP : m * Pm m (b.length - 1) ≤ 390) (hD : 2 + m * (b.length - 1) + m ≤ 24) (hX : 2 + (31 * m + 2) * (b.length - 1) + 31 * m ≤ 2000) : OwnR b (ownOf b) ∧ ∀ n ∈ b.names, EndK b n → Bnd m (b.length - 1) (ownOf b n) := by
  have hb : ∀ n ∈ b.names, EndK b n → Bnd m (b.length - 1) (ownOf b n) := fun n hn he => by
    obtain ⟨kd, eg⟩ := Bk.get_of hn
    obtain ⟨hkd, rfl⟩ := Bk.get_some eg
    have := cntR_top he hn
    exact own_bnd ok hm _ kd hkd he (by omega)
  have hch : ∀ k ∈ b, EndK b k.n → ∀ n ∈ adj b k.n, Bnd m (b.length - 1) (ownOf b n) := fun k hk he n hn => hb n (adj_names ok hn) (he.next hn)
  have p2 := Pm_two m (b.length - 1)
  refine ⟨⟨fun k hk he => ownOf_eq ok hk he, fun k hk he ns hns r hr => ?_, fun k hk he r hr => ?_⟩, hb⟩
  · have hadj := adj_self ok hk
    have n1 : Gr.Named (adj b k.n) r.1 := fun x hx => by rw [hadj]; exact ledR_within hr (List.mem_append_left _ hx)
    have n2 : Gr.Named (adj b k.n) r.2 := fun x hx => by rw [hadj]; exact ledR_within hr (List.mem_append_right _ hx)
    obtain ⟨o1, o2, hs⟩ := hm k hk r hr
    have hc := hch k hk he
    obtain ⟨_, _, _, d1, d2, q1, q2⟩ := clm_bnd (b := b) (ρ := ownOf b) (P := Pm m (b.length - 1)) (D := 2 + m * (b.length - 1)) (x := 2 + (31 * m + 2) * (b.length - 1)) (fun n hn => ⟨(hc n hn).parts, (hc n hn).deep⟩) (fun n hn => (hc n hn).ok) n1 n2 o1 o2 hs (by omega)
    have w1 := within_deep r.1
    have w2 := within_deep r.2
    have hP1 : Pm m (b.length - 1) * r.1.parts ≤ 390 := Nat.le_trans (Nat.mul_le_mul_left _ (show r.1.parts ≤ m by omega)) (by rw [Nat.mul_comm]; exact hP)
    have hP2 : Pm m (b.length - 1) * r.2.parts ≤ 390 := Nat.le_trans (Nat.mul_le_mul_left _ (show r.2.parts ≤ m by omega)) (by rw [Nat.mul_comm]; exact hP)
    have hk' : ∀ n ∈ adj b k.n, n ∈ b.names ∧ ownOf b n ≠ .nil ∧ (ownOf b n).parts ≤ Pm m (b.length - 1) ∧ (ownOf b n).deep ≤ 2 + m * (b.length - 1) ∧ (ownOf b n).Ok (2 ^ (2 + (31 * m + 2) * (b.length - 1))) := fun n hn => ⟨adj_names ok hn, (hc n hn).ne, (hc n hn).parts, (hc n hn).deep, (hc n hn).ok⟩
    exact ⟨(Gr.rk_fit hk' (by omega) n1 o1 hP1 (by omega) (by omega)).mono hns, (Gr.rk_fit hk' (by omega) n2 o2 hP2 (by omega) (by omega)).mono hns, by omega, by omega, by omega, by omega⟩
  · have hadj := adj_self ok hk
    have n1 : Gr.Named (adj b k.n) r.1 := fun x hx => by rw [hadj]; exact ledR_within hr (List.mem_append_left _ hx)
    have n2 : Gr.Named (adj b k.n) r.2 := fun x hx => by rw [hadj]; exact ledR_within hr (List.mem_append_right _ hx)
    obtain ⟨o1, o2, hs⟩ := hm k hk r hr
    have hc := hch k hk he
    obtain ⟨_, d0, _⟩ := clm_bnd (b := b) (ρ := ownOf b) (P := Pm m (b.length - 1)) (D := 2 + m * (b.length - 1)) (x := 2 + (31 * m + 2) * (b.length - 1)) (fun n hn => ⟨(hc n hn).parts, (hc n hn).deep⟩) (fun n hn => (hc n hn).ok) n1 n2 o1 o2 hs (by omega)
    omega
/-- the drawn books: each has its own ranks -/
theorem own_drawn {b : Bk} (ok : b.Ok) {ks : List Str} {rounds : Bool} (h : Kinds40 ks rounds b) (hl : ks.length ≤ 6) : OwnR b (ownOf b) ∧ ∀ n ∈ b.names, EndK b n → Bnd (if ks.length > 3 then 2 else 3) (b.length - 1) (ownOf b n) := by
  have bl : b.length = ks.length := by have := h.names.length_eq; rwa [List.length_map] at this
  have hm : ∀ k ∈ b, ∀ r ∈ k.rs, r.1.Ok (2 ^ 29) ∧ r.2.Ok (2 ^ 29) ∧ r.1.parts + r.2.parts ≤ if ks.length > 3 then 2 else 3 := fun k hk r hr => ⟨(h.nums k hk r hr).1.mono (by decide), (h.nums k hk r hr).2.mono (by decide), h.size k hk r hr⟩
  by_cases h3 : ks.length > 3
  · rw [if_pos h3] at hm ⊢
    have hb : b.length = 4 ∨ b.length = 5 ∨ b.length = 6 := by omega
    refine own_good ok hm ?_ ?_ ?_ <;> rcases hb with e | e | e <;> rw [e] <;> decide
  · rw [if_neg h3] at hm ⊢
    have hb : b.length = 0 ∨ b.length = 1 ∨ b.length = 2 ∨ b.length = 3 := by omega
    refine own_good ok hm ?_ ?_ ?_ <;> rcases hb with e | e | e | e <;> rw [e] <;> decide
end FT
namespace FT
open PySem PySem.W PySem.Spec PyProof.Rows L2
/-- all trees that stand in a grove, in their order -/
def Gr.ins : Gr → List Tr
  | .nil => []
  | .cons k g m r => (k, g) :: (g.ins ++ r.ins)
/-- a list of pairs, falling -/
structure FallL (B : Int) (ls : List (Lad × Int)) : Prop where
  ok : ∀ p ∈ ls, p.1.Ok B ∧ 1 ≤ p.2
  fall : ls.Pairwise fun p q => q.1.lt p.1 = true
theorem FallL.sum {B : Int} {ls : List (Lad × Int)} (h : FallL B ls) : ∀ p ∈ ls, Lad.sumAt ls p.1 = p.2 := by
  have hf := h.fall
  clear h
  induction ls with
  | nil => intro p hp; cases hp
  | cons q r ih =>
    intro p hp
    obtain ⟨h1, h2⟩ := List.pairwise_cons.mp hf
    obtain ⟨e, m⟩ := q
    rw [Lad.sumAt_cons]
    rcases List.mem_cons.mp hp with rfl | hp
    · rw [if_pos rfl, Lad.sumAt_zero fun q hq => Lad.lt_ne (h1 q hq)]; omega
    · rw [if_neg (fun z => Lad.lt_ne (h1 p hp) z.symm), ih h2 p hp]; omega
/-- put in: where the exponent stands, or before the first that is less -/
theorem FallL.ins {B : Int} {ls : List (Lad × Int)} (h : FallL B ls) {e : Lad} {m : Int} (ho : e.Ok B) (hm : 1 ≤ m) {n : Nat} (hn : n ≤ ls.length) (h1 : ∀ p ∈ ls.take n, e.lt p.1 = true) (h2 : ∀ p, ls[n]? = some p → p.1.lt e = true) : FallL B (ls.take n ++ [(e, m)] ++ ls.drop n) ∧ ∀ x, Lad.sumAt (ls.take n ++ [(e, m)] ++ ls.drop n) x = Lad.sumAt ls x + if e = x then m else 0 := by
  have hd : ∀ p ∈ ls.drop n, p.1.lt e = true := fun p hp => by
    cases hdr : ls.drop n with
    | nil => rw [hdr] at hp; cases hp
    | cons q r =>
      have hq : ls[n]? = some q := by
        have := congrArg (·[0]?) hdr
        rw [List.getElem?_drop] at this
        simpa using this
      have hpw := h.fall.sublist (List.drop_sublist n ls)
      rw [hdr] at hp hpw
      rcases List.mem_cons.mp hp with rfl | hp
      · exact h2 _ hq
      · exact Lad.lt_trans _ _ _ ((List.pairwise_cons.mp hpw).1 p hp) (h2 q hq)
  have hsplit := List.take_append_drop n ls
  refine ⟨⟨fun p hp => ?_, ?_⟩, fun x => ?_⟩
  · rcases List.mem_append.mp hp with hp | hp
    · rcases List.mem_append.mp hp with hp | hp
      · exact h.ok p (List.mem_of_mem_take hp)
      · rw [List.mem_singleton.mp hp]; exact ⟨ho, hm⟩
    · exact h.ok p (List.mem_of_mem_drop hp)
  · have hf := h.fall
    rw [← hsplit] at hf
    obtain ⟨f1, f2, f3⟩ := List.pairwise_append.mp hf
    refine List.pairwise_append.mpr ⟨List.pairwise_append.mpr ⟨f1, List.pairwise_singleton _ _, fun p hp q hq => by rw [List.mem_singleton.mp hq]; exact h1 p hp⟩, f2, fun p hp q hq => ?_⟩
    rcases List.mem_append.mp hp with hp | hp
    · exact f3 p hp q hq
    · rw [List.mem_singleton.mp hp]; exact hd q hq
  · rw [Lad.sumAt_append, Lad.sumAt_append, Lad.sumAt_cons]
    have : Lad.sumAt ls x = Lad.sumAt (ls.take n) x + Lad.sumAt (ls.drop n) x := by rw [← Lad.sumAt_append, hsplit]
    rw [this]
    have z : Lad.sumAt [] x = 0 := rfl
    rw [z]
    omega
theorem FallL.add {B : Int} {ls : List (Lad × Int)} (h : FallL B ls) {e : Lad} {m c : Int} (hm : 1 ≤ m) {n : Nat} (hp : ls[n]? = some (e, c)) : FallL B (ls.set n (e, c + m)) ∧ ∀ x, Lad.sumAt (ls.set n (e, c + m)) x = Lad.sumAt ls x + if e = x then m else 0 := by
  obtain ⟨hn, hpe⟩ := List.getElem?_eq_some_iff.mp hp
  have e1 : ls.set n (e, c + m) = ls.take n ++ (e, c + m) :: ls.drop (n + 1) := List.set_eq_take_append_cons_drop .. |>.trans (by rw [if_pos hn])
  have e2 : ls = ls.take n ++ (e, c) :: ls.drop (n + 1) := by
    have := List.take_append_drop n ls
    rw [List.drop_eq_getElem_cons hn, hpe] at this
    exact this.symm
  have hf := h.fall
  have hok := h.ok
  rw [e1]
  have hsum : ∀ x, Lad.sumAt ls x = Lad.sumAt (ls.take n) x + ((if e = x then c else 0) + Lad.sumAt (ls.drop (n + 1)) x) := fun x => by
    have this : Lad.sumAt ls x = Lad.sumAt (ls.take n ++ (e, c) :: ls.drop (n + 1)) x := congrArg (fun l => Lad.sumAt l x) e2
    rw [this, Lad.sumAt_append, Lad.sumAt_cons]
  have hm1 := hok _ (List.mem_of_getElem? hp)
  refine ⟨⟨fun p hp => ?_, ?_⟩, fun x => ?_⟩
  · rcases List.mem_append.mp hp with hp | hp
    · exact hok p (List.mem_of_mem_take hp)
    · rcases List.mem_cons.mp hp with rfl | hp
      · exact ⟨hm1.1, by have : (1 : Int) ≤ c := hm1.2; show 1 ≤ c + m; omega⟩
      · exact hok p (List.mem_of_mem_drop hp)
  · rw [e2] at hf
    obtain ⟨f1, f2, f3⟩ := List.pairwise_append.mp hf
    obtain ⟨g1, g2⟩ := List.pairwise_cons.mp f2
    refine List.pairwise_append.mpr ⟨f1, List.pairwise_cons.mpr ⟨g1, g2⟩, fun p hp q hq => ?_⟩
    rcases List.mem_cons.mp hq with rfl | hq
    · exact f3 p hp (e, c) (List.mem_cons_self ..)
    · exact f3 p hp q (List.mem_cons_of_mem _ hq)
  · rw [Lad.sumAt_append, Lad.sumAt_cons, hsum]
    split <;> omega
theorem Bears.cut {K : PySem.W.Frag} {H : Hp} {β : Type} {enc : β → PyData} : ∀ (n : Nat) {us : List V} {bs : List β}, Bears K H enc us bs → Bears K H enc (us.take n) (bs.take n) ∧ Bears K H enc (us.drop n) (bs.drop n)
  | 0, _, _, h => ⟨.nil, h⟩
  | n + 1, _, _, .nil => ⟨.nil, .nil⟩
  | n + 1, _, _, .cons a t => ⟨.cons a (Bears.cut n t).1, (Bears.cut n t).2⟩
end FT
namespace FT
open PySem PySem.W PySem.Spec PyProof.Rows L2
/-- a dict from kinds to where their rules lead, in their order -/
inductive LedB (K : PySem.W.Frag) (H : Hp) : List (Key × V) → Bk → Prop
  | nil : LedB K H [] []
  | cons {l : Addr} {k : Kd} {kvs : List (Key × V)} {b : Bk} : H l = some (.lst ((ledR k.rs).map V.str)) → LedB K H kvs b → LedB K H ((Sum.inr k.n, .ref l) :: kvs) (k :: b)
section
variable {K : PySem.W.Frag} {H H' : Hp}
theorem LedB.length : ∀ {kvs : List (Key × V)} {b : Bk}, LedB K H kvs b → kvs.length = b.length
  | _, _, .nil => rfl
  | _, _, .cons _ t => congrArg (· + 1) t.length
theorem LedB.append : ∀ {kvs kws : List (Key × V)} {b c : Bk}, LedB K H kvs b → LedB K H kws c → LedB K H (kvs ++ kws) (b ++ c)
  | _, _, _, _, .nil, h => h
  | _, _, _, _, .cons a t, h => .cons a (t.append h)
theorem LedB.val {n : Str} {k : Kd} : ∀ {kvs : List (Key × V)} {b : Bk}, LedB K H kvs b → b.get n = some k → ∃ l, valV kvs (Sum.inr n) = some (.ref l) ∧ H l = some (.lst ((ledR k.rs).map V.str))
  | _, _, .nil, e => by simp [Bk.get] at e
  | _, _, .cons (l := l) (k := kk) (b := bb) a t, e => by
    by_cases h : kk.n = n
    · have e' : kk = k := by
        have : Bk.get (kk :: bb) n = some kk := by simp [Bk.get, h]
        rw [this] at e; exact Option.some.inj e
      subst e'
      exact ⟨l, valV_pos (by rw [h]), a⟩
    · have e' : Bk.get bb n = some k := by
        unfold Bk.get at e
        rw [List.find?_cons_of_neg (by simpa using h)] at e
        exact e
      obtain ⟨l', h1, h2⟩ := t.val e'
      exact ⟨l', by rw [valV_neg (fun z => h (Sum.inr.inj z))]; exact h1, h2⟩
theorem LedB.sb {ps : List Addr} (e : SB ps H H') : ∀ {kvs : List (Key × V)} {b : Bk}, LedB K H kvs b → (∀ p ∈ kvs, ∀ q ∈ ps, p.2 ≠ .ref q) → LedB K H' kvs b
  | _, _, .nil, _ => .nil
  | _, _, .cons a t, h => .cons (e.keep _ _ a fun z => h _ List.mem_cons_self _ z rfl) (LedB.sb e t fun p hp => h p (List.mem_cons_of_mem _ hp))
theorem LedB.ne {q : Addr} (hq : H q = none) : ∀ {kvs : List (Key × V)} {b : Bk}, LedB K H kvs b → ∀ p ∈ kvs, p.2 ≠ .ref q
  | _, _, .nil, p, hp => nomatch hp
  | _, _, .cons a t, p, hp => by
    rcases List.mem_cons.mp hp with e | e
    · rw [e]
      intro z
      rw [V.ref.inj z] at a
      rw [a] at hq; cases hq
    · exact LedB.ne hq t p e
theorem LedB.keys : ∀ {kvs : List (Key × V)} {b : Bk}, LedB K H kvs b → kvs.map (·.1) = b.names.map Sum.inr
  | _, _, .nil => rfl
  | _, _, .cons a t => by rw [List.map_cons, LedB.keys t]; rfl
end
structure Own40 (b : Bk) (ρ : Str → Lad) (P : Nat) : Prop where
  own : OwnR b ρ
  bnd : ∃ x D : Nat, D ≤ 12 ∧ x ≤ 330 ∧ ∀ n ∈ b.names, EndK b n → ρ n ≠ .nil ∧ (ρ n).parts ≤ P ∧ (ρ n).deep ≤ D ∧ (ρ n).Ok (2 ^ x)
  ru : ∀ k ∈ b, ∀ r ∈ k.rs, r.1.Ok (2 ^ 29) ∧ r.2.Ok (2 ^ 29)
theorem Own40.of {b : Bk} (ok : b.Ok) {ks : List Str} {rounds : Bool} (h : Kinds40 ks rounds b) (hl : ks.length ≤ 6) : Own40 b (ownOf b) (if ks.length ≤ 5 then 62 else 126) := by
  obtain ⟨o1, o2⟩ := own_drawn ok h hl
  have bl : b.length = ks.length := by have := h.names.length_eq; rwa [List.length_map] at this
  have b1 := ok.pos
  have ru : ∀ k ∈ b, ∀ r ∈ k.rs, r.1.Ok (2 ^ 29) ∧ r.2.Ok (2 ^ 29) := fun k hk r hr => ⟨(h.nums k hk r hr).1.mono (by decide), (h.nums k hk r hr).2.mono (by decide)⟩
  by_cases h3 : ks.length > 3
  · rw [if_pos h3] at o2
    refine ⟨o1, ⟨2 + (31 * 2 + 2) * (b.length - 1), 2 + 2 * (b.length - 1), by omega, by omega, fun n hn he => ⟨(o2 n hn he).ne, Nat.le_trans (o2 n hn he).parts ?_, (o2 n hn he).deep, (o2 n hn he).ok⟩⟩, ru⟩
    have hb : b.length = 4 ∨ b.length = 5 ∨ b.length = 6 := by omega
    rw [← bl]
    rcases hb with e | e | e <;> rw [e] <;> decide
  · rw [if_neg h3] at o2
    refine ⟨o1, ⟨2 + (31 * 3 + 2) * (b.length - 1), 2 + 3 * (b.length - 1), by omega, by omega, fun n hn he => ⟨(o2 n hn he).ne, Nat.le_trans (o2 n hn he).parts ?_, (o2 n hn he).deep, (o2 n hn he).ok⟩⟩, ru⟩
    have hb : b.length = 1 ∨ b.length = 2 ∨ b.length = 3 := by omega
    rw [← bl]
    rcases hb with e | e | e <;> rw [e] <;> decide
end FT
namespace FT
open PySem PySem.W PySem.Spec PyProof.Rows L2
namespace Lad
variable {B C D : Int} {l k : Lad}
theorem bths_nil : bths [] = .nil := by
  show ofPs (jn (dsc [])) = .nil
  have : dsc [] = [] := List.Perm.eq_nil (dsc_perm [])
  rw [this]; rfl
theorem bths_one (hl : l.Ok B) (hB : 0 ≤ B) : bths [l] = l := by
  refine ext (B := B + 1) (C := B) (bths_ok (B := B) (fun k hk => by rw [List.mem_singleton.mp hk]; exact hl) hB (by omega) fun x => ?_) hl fun x => ?_
  · have := ok_pos hl hB x
    simp only [List.map_cons, List.map_nil, List.sum_cons, List.sum_nil]
    omega
  · rw [Gr.S_bths]; simp
theorem sum_take_le (f : Lad → Int) : ∀ (ls : List Lad) (i : Nat), (∀ l ∈ ls, 0 ≤ f l) → 0 ≤ ((ls.take i).map f).sum ∧ ((ls.take i).map f).sum ≤ (ls.map f).sum
  | [], i, _ => by simp
  | l :: r, 0, h => by
    obtain ⟨h1, h2⟩ := sum_take_le f r 0 fun x hx => h x (List.mem_cons_of_mem _ hx)
    have h3 := h l (List.mem_cons_self ..)
    simp only [List.take_zero, List.map_nil, List.sum_nil, List.map_cons, List.sum_cons] at h1 h2 ⊢
    omega
  | l :: r, i + 1, h => by
    obtain ⟨h1, h2⟩ := sum_take_le f r i fun x hx => h x (List.mem_cons_of_mem _ hx)
    have h3 := h l (List.mem_cons_self ..)
    simp only [List.take_succ_cons, List.map_cons, List.sum_cons]
    omega
end Lad
/-- all that a grove's ladders keep to -/
structure GL (b : Bk) (ρ : Str → Lad) (P : Nat) (g : Gr) : Prop where
  fit : ∀ ns, (∀ n ∈ b.names, EndK b n → n ∈ ns) → Gr.Fit b ρ ns g
  each : ∀ l ∈ Gr.rkT b ρ g, l.Ok (2 ^ 1600)
  sum : ∀ y, ((Gr.rkT b ρ g).map fun l => Lad.S l y).sum < 2 ^ 1600
  parts : ((Gr.rkT b ρ g).map Lad.parts).sum ≤ P * g.parts
  deep : ∀ l ∈ Gr.rkT b ρ g, l.deep ≤ 12 + g.deep
theorem GL.ok {b : Bk} {ρ : Str → Lad} {P : Nat} {g : Gr} (h : GL b ρ P g) (i : Nat) : (Lad.bths ((Gr.rkT b ρ g).take i)).Ok (2 ^ 1600) := by
  have p0 := two_pos 1600
  refine Lad.bths_ok (fun l hl => h.each l (List.mem_of_mem_take hl)) (by omega) (Int.le_refl _) fun x => ?_
  have h1 := (Lad.sum_take_le (fun l => Lad.S l x) (Gr.rkT b ρ g) i fun l hl => Lad.S_nonneg (h.each l hl) x).2
  have h2 := h.sum x
  omega
theorem GL.dp {b : Bk} {ρ : Str → Lad} {P : Nat} {g : Gr} (h : GL b ρ P g) (i : Nat) : (Lad.bths ((Gr.rkT b ρ g).take i)).deep ≤ 12 + g.deep :=
  Lad.bths_deep fun l hl => h.deep l (List.mem_of_mem_take hl)
def Ends (b : Bk) (g : Gr) : Prop := ∀ x ∈ g.within, EndK b x.1.1
theorem Ends.at {b : Bk} {g : Gr} (h : Ends b g) {p : Tr × Int} (hp : p ∈ g.ps) : EndK b p.1.1 ∧ Ends b p.1.2 := by
  have hw := Gr.within_ps g
  refine ⟨h p (by rw [hw]; exact List.mem_flatMap.mpr ⟨p, hp, List.mem_cons_self ..⟩), fun x hx => h x (by rw [hw]; exact List.mem_flatMap.mpr ⟨p, hp, List.mem_cons_of_mem _ hx⟩)⟩
theorem Named.at {ns : List Str} {g : Gr} (h : Gr.Named ns g) {p : Tr × Int} (hp : p ∈ g.ps) : p.1.1 ∈ ns ∧ Gr.Named ns p.1.2 := by
  have hw := Gr.within_ps g
  refine ⟨h p (by rw [hw]; exact List.mem_flatMap.mpr ⟨p, hp, List.mem_cons_self ..⟩), fun x hx => h x (by rw [hw]; exact List.mem_flatMap.mpr ⟨p, hp, List.mem_cons_of_mem _ hx⟩)⟩
theorem rk_joined {b : Bk} {ρ : Str → Lad} {g k : Gr} {B C D : Int} (hg : (Gr.rk b ρ g).Ok B) (hk : (Gr.rk b ρ k).Ok C) (hB : 1 ≤ B) (hC : 1 ≤ C) (hj : (Gr.rk b ρ (Gr.tidy (g.ps ++ k.ps))).Ok D) : (Gr.rk b ρ (Gr.tidy (g.ps ++ k.ps))) = (Gr.rk b ρ g).bth (Gr.rk b ρ k) := by
  refine Lad.ext hj (Lad.bth_ok hg hk hB hC) fun x => ?_
  rw [Lad.S_bth, Gr.S_rk, Gr.S_rk, Gr.S_rk, ← wsum_append]
  refine wsum_ext _ _ _ _ (Nat.le_refl _) fun t => ?_
  unfold Gr.tidy
  rw [Gr.ps_ofPs, tdy_sum]
end FT
namespace FT
open PySem PySem.W PySem.Spec PyProof.Rows L2
def zk (ns : List Str) (us : List V) : List (Key × V) := List.zipWith (fun (n : Str) (u : V) => ((Sum.inr n : Key), u)) ns us
/-- at d stands a dict of the ladders ρ of ns, at us -/
structure RkU (K : PySem.W.Frag) (H : Hp) (d : Addr) (ρ : Str → Lad) (ns : List Str) (us : List V) : Prop where
  at_ : H d = some (.dK (zk ns us))
  lad : Bears K H Lad.enc us (ns.map ρ)
theorem RkU.sb {K : PySem.W.Frag} {H H' : Hp} {d : Addr} {ρ : Str → Lad} {ns : List Str} {us : List V} {ps : List Addr} (h : RkU K H d ρ ns us) (s : SB ps H H') (hd : d ∉ ps) : RkU K H' d ρ ns us := ⟨s.keep _ _ h.at_ hd, h.lad.sb s Lad.noList_enc⟩
theorem zk_keys : ∀ {ns : List Str} {us : List V}, us.length = ns.length → (zk ns us).map (·.1) = ns.map Sum.inr
  | [], [], _ => rfl
  | [], _ :: _, h => by simp at h
  | _ :: _, [], h => by simp at h
  | n :: r, u :: us, h => by
    have := zk_keys (ns := r) (us := us) (by simpa using h)
    show Sum.inr n :: (zk r us).map (·.1) = _
    rw [this]; rfl
theorem zk_len {ns : List Str} {us : List V} (h : us.length = ns.length) : (zk ns us).length = ns.length := by
  have := congrArg List.length (zk_keys h)
  simpa using this
theorem Bears.ref {K : PySem.W.Frag} {H : Hp} {us : List V} {ls : List Lad} (h : Bears K H Lad.enc us ls) : ∀ u ∈ us, ∃ a, u = .ref a := fun u hu => by
  obtain ⟨i, hi⟩ := List.getElem?_of_mem hu
  obtain ⟨l, _, hl⟩ := h.get hi
  obtain ⟨a, _, e, _⟩ := LA_bears hl
  exact ⟨a, e⟩
/-- ρ but l at n -/
def setL (ρ : Str → Lad) (n : Str) (l : Lad) : Str → Lad := fun m => if m = n then l else ρ m
theorem putK_zk (x : V) : ∀ {ns : List Str} {us : List V} {i : Nat} {n : Str}, us.length = ns.length → ns.Nodup → ns[i]? = some n → putK (zk ns us) (Sum.inr n) x = zk ns (us.set i x)
  | [], _, _, _, _, _, e => by simp at e
  | m :: r, [], _, _, h, _, _ => by simp at h
  | m :: r, u :: us, 0, n, h, nd, e => by
    obtain rfl := Option.some.inj (show some m = some n from e)
    obtain ⟨h1, h2⟩ := List.nodup_cons.mp nd
    show putK ((Sum.inr m, u) :: zk r us) (Sum.inr m) x = (Sum.inr m, x) :: zk r us
    have hm : List.map (fun kv : Key × V => if kv.1 = Sum.inr m then (kv.1, x) else kv) (zk r us) = zk r us := by
      refine (List.map_congr_left fun p hp => ?_).trans (List.map_id _)
      rw [if_neg fun z => ?_]; rfl
      have : p.1 ∈ (zk r us).map (·.1) := List.mem_map.mpr ⟨p, hp, rfl⟩
      rw [zk_keys (by simpa using h), z] at this
      obtain ⟨y, hy, e⟩ := List.mem_map.mp this
      exact h1 (by rw [← Sum.inr.inj e]; exact hy)
    unfold putK
    simp [hm]
  | m :: r, u :: us, i + 1, n, h, nd, e => by
    obtain ⟨h1, h2⟩ := List.nodup_cons.mp nd
    have e' : r[i]? = some n := e
    have hne : m ≠ n := fun z => h1 (by rw [z]; exact List.mem_of_getElem? e')
    have ih := putK_zk x (ns := r) (us := us) (i := i) (n := n) (by simpa using h) h2 e'
    show putK ((Sum.inr m, u) :: zk r us) (Sum.inr n) x = (Sum.inr m, u) :: zk r (us.set i x)
    rw [← ih]
    unfold putK
    have hs : ¬ ((Sum.inr m : Key) = Sum.inr n) := fun z => hne (Sum.inr.inj z)
    have hd : decide ((Sum.inr m : Key) = Sum.inr n) = false := decide_eq_false hs
    simp only [List.any_cons, hd, Bool.false_or, List.map_cons, if_neg hs]
    split <;> rfl
/-- worths[n] = x, n among the names -/
theorem RkU.set {K : PySem.W.Frag} {H : Hp} {d : Addr} {ρ : Str → Lad} {ns : List Str} {us : List V} {n : Str} {x : V} {l : Lad} (h : RkU K H d ρ ns us) (nd : ns.Nodup) (hl : ns.length ≤ 1000) {i : Nat} (hn : ns[i]? = some n) (hx : LA K H x l) : ∃ H', DPut H d (.str n) x H' ∧ SB [d] H H' ∧ RkU K H' d (setL ρ n l) ns (us.set i x) := by
  have szl := sizeLine_eq
  have ul : us.length = ns.length := by rw [h.lad.length, List.length_map]
  have zl := zk_len ul
  have t := SB.setD (ps := [d]) h.at_ (by simp) (.dK (putK (zk ns us) (Sum.inr n) x))
  have e := putK_zk x ul nd hn
  refine ⟨_, DPut.k (k := Sum.inr n) h.at_ (by rw [zl]; omega), t, ⟨by rw [upd_same, e], ?_⟩⟩
  have hb := (h.lad.sb t Lad.noList_enc).set (i := i) (LA.sb hx t)
  have : ns.map (setL ρ n l) = (ns.map ρ).set i l := by
    clear hb e t zl h ul
    induction ns generalizing i with
    | nil => simp at hn
    | cons m r ih =>
      obtain ⟨h1, h2⟩ := List.nodup_cons.mp nd
      cases i with
      | zero =>
        obtain rfl := Option.some.inj (show some m = some n from hn)
        simp only [List.map_cons, List.set_cons_zero]
        refine List.cons_eq_cons.mpr ⟨by simp [setL], List.map_congr_left fun y hy => ?_⟩
        unfold setL
        rw [if_neg fun z => h1 (by rw [← z]; exact hy)]
      | succ i =>
        have e' : r[i]? = some n := hn
        have hne : m ≠ n := fun z => h1 (by rw [z]; exact List.mem_of_getElem? e')
        simp only [List.map_cons, List.set_cons_succ]
        refine List.cons_eq_cons.mpr ⟨by simp [setL, hne], ih h2 (by simp at hl; omega) e'⟩
  rw [this]; exact hb
theorem RkU.put {K : PySem.W.Frag} {H : Hp} {d : Addr} {ρ : Str → Lad} {ns : List Str} {us : List V} {n : Str} {x : V} {l : Lad} (h : RkU K H d ρ ns us) (hn : n ∉ ns) (hl : ns.length ≤ 1000) (hx : LA K H x l) : ∃ H', DPut H d (.str n) x H' ∧ SB [d] H H' ∧ RkU K H' d (setL ρ n l) (ns ++ [n]) (us ++ [x]) := by
  have szl := sizeLine_eq
  have ul : us.length = ns.length := by rw [h.lad.length, List.length_map]
  have zl := zk_len ul
  have t := SB.setD (ps := [d]) h.at_ (by simp) (.dK (putK (zk ns us) (Sum.inr n) x))
  have e : putK (zk ns us) (Sum.inr n) x = zk (ns ++ [n]) (us ++ [x]) := by
    rw [putK_new fun p hp z => ?_]
    · unfold zk
      rw [List.zipWith_append (by omega)]; rfl
    · have : p.1 ∈ (zk ns us).map (·.1) := List.mem_map.mpr ⟨p, hp, rfl⟩
      rw [zk_keys ul, z] at this
      obtain ⟨m, hm, e⟩ := List.mem_map.mp this
      exact hn (by rw [← Sum.inr.inj e]; exact hm)
  refine ⟨_, DPut.k (k := Sum.inr n) h.at_ (by rw [zl]; omega), t, ⟨by rw [upd_same, e], ?_⟩⟩
  rw [List.map_append, show ns.map (setL ρ n l) = ns.map ρ from List.map_congr_left fun y hy => by unfold setL; rw [if_neg fun z => hn (by rw [← z]; exact hy)]]
  exact (h.lad.sb t Lad.noList_enc).append (.cons (by show LA K _ x (setL ρ n l n); unfold setL; rw [if_pos rfl]; exact LA.sb hx t) .nil)
structure Wor (b : Bk) (ρ : Str → Lad) (P : Nat) : Prop where
  each : ∀ n ∈ b.names, ρ n ≠ .nil ∧ (ρ n).parts ≤ P ∧ (ρ n).deep ≤ 12 ∧ (ρ n).Ok (2 ^ 340)
/-- what fault tells -/
def FV (K : PySem.W.Frag) (H : Hp) (x : V) : Option (Str × Nat) → Prop
  | none => x = .non
  | some (n, i) => ∃ t, x = .ref t ∧ SqT K H t [.str n, .int (i : Int)]
theorem FV.sb {K : PySem.W.Frag} {H H' : Hp} {x : V} {o : Option (Str × Nat)} {ps : List Addr} (h : FV K H x o) (s : SB ps H H') : FV K H' x o := by
  cases o with
  | none => exact h
  | some p =>
    obtain ⟨n, i⟩ := p
    obtain ⟨t, e, ht⟩ := h
    exact ⟨t, e, s.sqT ht⟩
/-- what a worth may be, ahead of being raised -/
structure Wp (l : Lad) : Prop where
  ne : l ≠ .nil
  parts : l.parts ≤ 126
  deep : l.deep ≤ 12
  ok : l.Ok (2 ^ 330)
theorem Wor.set {b : Bk} {ρ : Str → Lad} (h : Wor b ρ 126) {n : Str} {l : Lad} (h1 : l ≠ .nil) (h2 : l.parts ≤ 126) (h3 : l.deep ≤ 12) (h4 : l.Ok (2 ^ 340)) : Wor b (setL ρ n l) 126 := ⟨fun m hm => by
  unfold setL
  by_cases e : m = n
  · rw [if_pos e]; exact ⟨h1, h2, h3, h4⟩
  · rw [if_neg e]; exact h.each m hm⟩
theorem Wp.set {ns : List Str} {ρ : Str → Lad} (h : ∀ m ∈ ns, Wp (ρ m)) {n : Str} {l : Lad} (hl : Wp l) : ∀ m ∈ ns ++ [n], Wp (setL ρ n l m) := fun m hm => by
  unfold setL
  by_cases e : m = n
  · rw [if_pos e]; exact hl
  · rw [if_neg e]
    rcases List.mem_append.mp hm with hm | hm
    · exact h m hm
    · exact absurd (List.mem_singleton.mp hm) e
end FT
namespace FT
open PySem PySem.W PySem.Spec PyProof.Rows L2
namespace Lad
/-- a right ladder, of any numbers -/
def R (l : Lad) : Prop := ∃ B : Int, 1 ≤ B ∧ l.Ok B
variable {a b c d l k o : Lad} {m n : Int} {w : Bool}
theorem R.nil : R .nil := ⟨1, by decide, trivial⟩
theorem R.bth (h : R l) (g : R k) : R (l.bth k) := by
  obtain ⟨B, hB, h⟩ := h
  obtain ⟨C, hC, g⟩ := g
  exact ⟨B + C, by omega, bth_ok h g hB hC⟩
theorem R.bhd (h : R l) (g : R k) : R (l.bhd k) := by
  obtain ⟨B, hB, h⟩ := h
  obtain ⟨C, hC, g⟩ := g
  exact ⟨B + C, by omega, bhd_ok h g hB hC⟩
theorem R.tms (h : R l) (hm : 0 ≤ m) : R (l.tms m) := by
  obtain ⟨B, hB, h⟩ := h
  have := Int.mul_nonneg (show 0 ≤ B by omega) hm
  exact ⟨B * m + B, by omega, tms_ok h hm⟩
theorem R.abv (h : R l) (g : R k) : R (l.abv k) := by
  obtain ⟨B, hB, h⟩ := h
  obtain ⟨C, hC, g⟩ := g
  exact ⟨B + (C + 2), by omega, abv_ok h g hB hC⟩
theorem R.lad (h : R o) (g : R l) : R (lad w o l) := by
  obtain ⟨B, hB, h⟩ := h
  obtain ⟨C, hC, g⟩ := g
  exact ⟨B + C, by omega, lad_ok h g hB hC⟩
theorem R.uno : R uno := ⟨2, by decide, uno_ok⟩
theorem R.ext (h : R l) (g : R k) (e : ∀ x, S l x = S k x) : l = k := by
  obtain ⟨B, hB, h⟩ := h
  obtain ⟨C, hC, g⟩ := g
  exact Lad.ext h g e
theorem R.lt_iff (h : R l) (g : R k) : l.lt k = true ↔ LT' l k := by
  obtain ⟨B, hB, h⟩ := h
  obtain ⟨C, hC, g⟩ := g
  exact Lad.lt_iff h g
theorem R.common : ∀ {ls : List Lad}, (∀ l ∈ ls, R l) → ∃ B : Int, 1 ≤ B ∧ ∀ l ∈ ls, l.Ok B
  | [], _ => ⟨1, by decide, fun l h => nomatch h⟩
  | x :: r, h => by
    obtain ⟨B, hB, hx⟩ := h x (List.mem_cons_self ..)
    obtain ⟨C, hC, hr⟩ := R.common (ls := r) fun l hl => h l (List.mem_cons_of_mem _ hl)
    refine ⟨B + C, by omega, fun l hl => ?_⟩
    rcases List.mem_cons.mp hl with e | e
    · rw [e]; exact hx.mono (by omega)
    · exact (hr l e).mono (by omega)
theorem sum_len_le {B : Int} (hB : 0 ≤ B) (x : Lad) : ∀ {ls : List Lad}, (∀ l ∈ ls, l.Ok B) → (ls.map fun l => S l x).sum ≤ ls.length * B
  | [], _ => by simp
  | y :: r, h => by
    have h1 := ok_pos (h y (List.mem_cons_self ..)) hB x
    have h2 := sum_len_le hB x (ls := r) fun l hl => h l (List.mem_cons_of_mem _ hl)
    rw [List.map_cons, List.sum_cons, List.length_cons]
    have : ((r.length + 1 : Nat) : Int) * B = r.length * B + B := by rw [Int.natCast_add, Int.add_mul]; simp
    omega
theorem R.bths {ls : List Lad} (h : ∀ l ∈ ls, R l) : R (bths ls) := by
  obtain ⟨B, hB, hb⟩ := R.common h
  have hl : (0 : Int) ≤ ls.length * B := Int.mul_nonneg (Int.natCast_nonneg _) (by omega)
  exact ⟨ls.length * B + B + 1, by omega, bths_ok hb (by omega) (by omega) fun x => by have := sum_len_le (by omega) x hb; omega⟩
/-- no greater -/
def Le (a b : Lad) : Prop := b.lt a = false
theorem Le.refl : Le a a := lt_irrefl a
theorem Le.trans (h : Le a b) (g : Le b c) : Le a c := le_trans h g
theorem Le.of_lt (h : a.lt b = true) : Le a b := le_of_lt h
theorem Le.nil : Le .nil a := lt_nil_r a
theorem Le.cases (h : Le a b) : a = b ∨ a.lt b = true := by
  by_cases e : a = b
  · exact .inl e
  · exact .inr (lt_tri b a (fun z => e z.symm) h)
theorem Le.lt (h : Le a b) (g : b.lt c = true) : a.lt c = true := by
  rcases h.cases with e | e
  · rw [e]; exact g
  · exact lt_trans _ _ _ e g
theorem lt_le (g : a.lt b = true) (h : Le b c) : a.lt c = true := by
  rcases h.cases with e | e
  · rw [← e]; exact g
  · exact lt_trans _ _ _ g e
theorem bth_lt (ra : R a) (rb : R b) (rc : R c) (h : b.lt c = true) : (a.bth b).lt (a.bth c) = true := by
  obtain ⟨A, hA, ra⟩ := ra
  obtain ⟨B, hB, rb⟩ := rb
  obtain ⟨C, hC, rc⟩ := rc
  exact bth_mono ra rb rc hA hB hC h
theorem Le.bth (ra : R a) (rb : R b) (rc : R c) (rd : R d) (h : Le a b) (g : Le c d) : Le (a.bth c) (b.bth d) := by
  refine Le.trans (b := a.bth d) ?_ ?_
  · rcases g.cases with e | e
    · rw [e]; exact Le.refl
    · exact Le.of_lt (bth_lt ra rc rd e)
  · rw [bth_comm a d, bth_comm b d]
    rcases h.cases with e | e
    · rw [e]; exact Le.refl
    · exact Le.of_lt (bth_lt rd ra rb e)
theorem tms_lt (ra : R a) (rb : R b) (hm : 1 ≤ m) (h : a.lt b = true) : (a.tms m).lt (b.tms m) = true := by
  obtain ⟨x, h1, h2⟩ := (ra.lt_iff rb).mp h
  refine ((ra.tms (by omega)).lt_iff (rb.tms (by omega))).mpr ⟨x, ?_, fun y hy => ?_⟩
  · rw [S_tms, S_tms]; exact Int.mul_lt_mul_of_pos_right h1 (by omega)
  · rw [S_tms, S_tms, h2 y hy]
theorem tms_zero : tms l 0 = .nil := by simp [tms]
theorem Le.tms (ra : R a) (rb : R b) (hm : 0 ≤ m) (h : Le a b) : Le (a.tms m) (b.tms m) := by
  by_cases m0 : m = 0
  · rw [m0, tms_zero]; exact Le.nil
  rcases h.cases with e | e
  · rw [e]; exact Le.refl
  · exact Le.of_lt (tms_lt ra rb (by omega) e)
theorem le_bth (ra : R a) (rb : R b) : Le a (a.bth b) := by
  obtain ⟨A, hA, ra⟩ := ra
  obtain ⟨B, hB, rb⟩ := rb
  exact Le.trans (bhd_ge ra rb hA hB) (bth_ge_bhd ra rb hA hB)
theorem tms_le (r : R l) (h0 : 0 ≤ m) (h : m ≤ n) : Le (l.tms m) (l.tms n) := by
  have e : l.tms n = (l.tms m).bth (l.tms (n - m)) := by
    refine R.ext (r.tms (by omega)) ((r.tms h0).bth (r.tms (by omega))) fun x => ?_
    rw [S_bth, S_tms, S_tms, S_tms, Int.mul_sub]; omega
  rw [e]
  exact le_bth (r.tms h0) (r.tms (by omega))
theorem bhd_lt (ra : R a) (rb : R b) (rc : R c) (h : b.lt c = true) : (a.bhd b).lt (a.bhd c) = true := by
  obtain ⟨A, hA, ra⟩ := ra
  obtain ⟨B, hB, rb⟩ := rb
  obtain ⟨C, hC, rc⟩ := rc
  exact bhd_mono ra rb rc hA hB hC h
theorem Le.bhd1 (ra : R a) (rb : R b) (rc : R c) (h : Le b c) : Le (b.bhd a) (c.bhd a) := by
  rcases h.cases with e | e
  · rw [e]; exact Le.refl
  obtain ⟨A, hA, ra⟩ := ra
  obtain ⟨B, hB, rb⟩ := rb
  obtain ⟨C, hC, rc⟩ := rc
  exact bhd_first ra rb rc hA hB hC e
theorem R.exp {e : Lad} {m : Int} {r : Lad} (h : R (.cons e m r)) : R e := by
  obtain ⟨B, hB, h⟩ := h
  exact ⟨B, hB, h.1⟩
theorem exp_grows (re : R a) (rl : R l) (h : l ≠ .nil) : a.lt (a.bhd l) = true := by
  have h1 := bhd_lt re R.nil rl (nil_le l h)
  rwa [bhd_nil] at h1
theorem top_lt {e e2 : Lad} {m m2 : Int} {r r2 : Lad} (h : e.lt e2 = true) : Lad.lt (.cons e m r) (.cons e2 m2 r2) = true := by
  rw [lt_cons, if_neg (lt_ne h)]; exact h
theorem spd_cons {e : Lad} {m : Int} {r : Lad} (h : l ≠ .nil) : spd (.cons e m r) l = .cons (e.bhd l) 1 .nil := by
  cases l with
  | nil => exact absurd rfl h
  | cons _ _ _ => rfl
theorem lad_lt (ro : R o) (rl : R l) (rk : R k) (ho : o ≠ .nil) (h : l.lt k = true) : (lad w o l).lt (lad w o k) = true := by
  cases w with
  | false => exact bhd_lt ro rl rk h
  | true =>
    show (spd o l).lt (spd o k) = true
    have hk : k ≠ .nil := fun z => by rw [z, lt_nil_r] at h; cases h
    cases o with
    | nil => exact absurd rfl ho
    | cons e m r =>
      rw [spd_cons hk]
      by_cases hl : l = .nil
      · rw [hl]
        show Lad.lt (.cons e m r) _ = true
        exact top_lt (exp_grows ro.exp rk hk)
      · rw [spd_cons hl]
        exact top_lt (bhd_lt ro.exp rl rk h)
theorem Le.lad (ro : R o) (ra : R a) (rl : R l) (rk : R k) (ho : o ≠ .nil) (ha : a ≠ .nil) (h : Le o a) (g : Le l k) : Le (lad w o l) (lad w a k) := by
  refine Le.trans (b := FT.lad w o k) ?_ ?_
  · rcases g.cases with e | e
    · rw [e]; exact Le.refl
    · exact Le.of_lt (lad_lt ro rl rk ho e)
  · cases w with
    | false => exact Le.bhd1 rk ro ra h
    | true =>
      show Le (spd o k) (spd a k)
      cases o with
      | nil => exact absurd rfl ho
      | cons e m r =>
        cases a with
        | nil => exact absurd rfl ha
        | cons e2 m2 r2 =>
          by_cases hk : k = .nil
          · rw [hk]; exact h
          · rw [spd_cons hk, spd_cons hk]
            have he : Le e e2 := by
              unfold Le at h ⊢
              rw [lt_cons] at h
              split at h
              · rename_i e0; rw [e0]; exact lt_irrefl _
              · exact h
            rcases (Le.bhd1 rk ro.exp ra.exp he).cases with e0 | e0
            · rw [e0]; exact Le.refl
            · exact Le.of_lt (top_lt e0)
theorem above_gt (rl : R l) (rk : R k) (hn : 0 ≤ n) : (l.bth (k.tms n)).lt (l.abv k) = true := by
  obtain ⟨B, hB, rl⟩ := rl
  obtain ⟨C, hC, rk⟩ := rk
  exact abv_gt rl rk hB hC hn
theorem above_least (rl : R l) (rk : R k) (ra : R a) (h : a.lt (l.abv k) = true) (hn : eno k a ≤ n) : Le a (l.bth (k.tms n)) := by
  obtain ⟨A, hA, ra'⟩ := ra
  have e0 := eno_nonneg (k := k) ra'
  have rl' := rl
  have rk' := rk
  obtain ⟨B, hB, rl⟩ := rl
  obtain ⟨C, hC, rk⟩ := rk
  have h1 : Le a (l.bth (k.tms (eno k a))) := abv_least rl rk ra' hB hC h
  exact h1.trans (Le.bth rl' rl' (rk'.tms e0) (rk'.tms (by omega)) Le.refl (tms_le rk' e0 hn))
theorem Le.abv (rl : R l) (ra : R a) (rk : R k) (rb : R b) (h : Le l a) (g : Le k b) : Le (l.abv k) (a.abv b) := by
  cases e : (a.abv b).lt (l.abv k) with
  | false => exact e
  | true =>
    exfalso
    have e0 : 0 ≤ eno k (a.abv b) := by
      obtain ⟨A, hA, x⟩ := ra.abv rb
      exact eno_nonneg x
    have h1 := above_least rl rk (ra.abv rb) e (Int.le_refl _)
    have h2 := Le.bth rl ra (rk.tms e0) (rb.tms e0) h (Le.tms rk rb e0 g)
    have h3 := (h1.trans h2).lt (above_gt ra rb e0)
    rw [lt_irrefl] at h3; cases h3
theorem uno_le (rl : R l) (h : l ≠ .nil) : Le uno l := by
  cases l with
  | nil => exact absurd rfl h
  | cons e m r =>
    show Lad.lt (.cons e m r) (.cons .nil 1 .nil) = false
    obtain ⟨B, hB, h1, h2, _⟩ := rl
    rw [lt_cons]
    split
    · split
      · exact lt_nil_r _
      · exact decide_eq_false (by omega)
    · exact lt_nil_r _
end Lad
namespace Gr
variable {b : Bk} {ρ σ : Str → Lad} {C : Int}
/-- the ladders of the kinds of a grove are right ones -/
def RN (ρ : Str → Lad) (g : Gr) : Prop := ∀ x ∈ g.within, Lad.R (ρ x.1.1) ∧ ρ x.1.1 ≠ .nil
theorem RN.cons {k : Str} {g r : Gr} {m : Int} (h : RN ρ (.cons k g m r)) : (Lad.R (ρ k) ∧ ρ k ≠ .nil) ∧ RN ρ g ∧ RN ρ r :=
  ⟨h ((k, g), m) (List.mem_cons_self ..), fun x hx => h x (List.mem_cons_of_mem _ (List.mem_append_left _ hx)), fun x hx => h x (List.mem_cons_of_mem _ (List.mem_append_right _ hx))⟩
theorem rkT_R : ∀ {g : Gr}, g.Ok C → RN ρ g → ∀ l ∈ rkT b ρ g, Lad.R l
  | .nil, _, _, l, hl => nomatch hl
  | .cons k g m r, ho, h, l, hl => by
    obtain ⟨h1, h2, h3⟩ := h.cons
    obtain ⟨o1, o2, o3, o4, o5, _⟩ := ho
    rcases List.mem_cons.mp hl with e | e
    · rw [e]; exact (h1.1.lad (Lad.R.bths (rkT_R o2 h2))).tms (by omega)
    · exact rkT_R o5 h3 l e
theorem rk_R {g : Gr} (ho : g.Ok C) (h : RN ρ g) : Lad.R (rk b ρ g) := Lad.R.bths (rkT_R ho h)
theorem rk_tmsG {g : Gr} {m : Int} (hm : 0 ≤ m) (hg : Lad.R (rk b ρ g)) (hk : Lad.R (rk b ρ (tmsG g m))) : rk b ρ (tmsG g m) = Lad.tms (rk b ρ g) m := by
  refine Lad.R.ext hk (hg.tms hm) fun x => ?_
  rw [S_rk, Lad.S_tms, S_rk]
  by_cases h0 : m = 0
  · subst h0; simp [tmsG, Gr.ps, wsum]
  · rw [tmsG, if_neg h0, ps_ofPs, wsum_tms]
theorem rk_tgtG {g k : Gr} (hg : Lad.R (rk b ρ g)) (hk : Lad.R (rk b ρ k)) (hj : Lad.R (rk b ρ (tgt g k))) : rk b ρ (tgt g k) = (rk b ρ g).bth (rk b ρ k) := by
  obtain ⟨B, hB, hg⟩ := hg
  obtain ⟨C, hC, hk⟩ := hk
  obtain ⟨D, hD, hj⟩ := hj
  exact rk_joined hg hk hB hC hj
theorem RN.named {ns : List Str} {g : Gr} (h : ∀ n ∈ ns, Lad.R (ρ n) ∧ ρ n ≠ .nil) (hn : Named ns g) : RN ρ g := fun x hx => h _ (hn x hx)
/-- a rule's groves, grown: their ladder -/
theorem rk_grw {r : Ru} {n : Int} {ns : List Str} (rok : RuOk r) (hn : 0 ≤ n) (h : ∀ n ∈ ns, Lad.R (ρ n) ∧ ρ n ≠ .nil) (h1 : Named ns r.1) (h2 : Named ns r.2) : rk b ρ (grw r n) = (rk b ρ r.1).bth (Lad.tms (rk b ρ r.2) n) := by
  obtain ⟨o1, o2, _⟩ := rok
  have r1 := rk_R (b := b) o1 (RN.named h h1)
  have r2 := rk_R (b := b) o2 (RN.named h h2)
  have ot := tms_ok o2 (by decide) hn
  have nt := named_tms h2 n
  have rt := rk_R (b := b) ot (RN.named h nt)
  have z := Int.mul_nonneg (show (0 : Int) ≤ 1000000001 by decide) hn
  have rj := rk_R (b := b) (tgt_ok2 o1 ot (by decide) (by omega)) (RN.named h (named_tgt h1 nt))
  unfold grw
  rw [rk_tgtG r1 rt rj, rk_tmsG hn r2 rt]
end Gr
/-- no rule asks for more than its kind has -/
def NoF (b : Bk) (ρ : Str → Lad) : Prop := ∀ k ∈ b, ∀ r ∈ k.rs, (ρ k.n).lt (clm b ρ r) = false
def RB (b : Bk) (ρ : Str → Lad) : Prop := ∀ n ∈ b.names, Lad.R (ρ n) ∧ ρ n ≠ .nil
theorem Bk.Ok.named {b : Bk} (ok : b.Ok) {k : Kd} (hk : k ∈ b) {r : Ru} (hr : r ∈ k.rs) : RuOk r ∧ Gr.Named b.names r.1 ∧ Gr.Named b.names r.2 := by
  obtain ⟨h1, h2⟩ := (ok.kd k hk).2.2 r hr
  exact ⟨h1, fun x hx => h2 x (List.mem_append_left _ hx), fun x hx => h2 x (List.mem_append_right _ hx)⟩
end FT
namespace FT
open PySem PySem.W PySem.Spec PyProof.Rows L2
namespace Gr
variable {b : Bk} {ρ σ : Str → Lad} {C : Int} {ns : List Str}
theorem rk_numsX {x : Nat} (hk : ∀ n ∈ ns, (ρ n).Ok (2 ^ x)) : ∀ {g : Gr}, Named ns g → g.Ok (2 ^ 119) → (∀ l ∈ rkT b ρ g, l.Ok (2 ^ (x + 121 * g.parts))) ∧ ∀ y, ((rkT b ρ g).map fun l => Lad.S l y).sum < 2 ^ (x + 121 * g.parts)
  | .nil, _, _ => And.intro (fun l hl => nomatch hl) (fun y => by
    show (0 : Int) < _
    have := two_pos (x + 121 * Gr.nil.parts); omega)
  | .cons k g m r, h, ho => by
    obtain ⟨_, hg, hm1, hm2, hr, _⟩ := ho
    have hkn : k ∈ ns := h ((k, g), m) (List.mem_cons_self ..)
    obtain ⟨g1, g2⟩ := rk_numsX hk (g := g) (fun x hx => h x (List.mem_cons_of_mem _ (List.mem_append_left _ hx))) hg
    obtain ⟨r1, r2⟩ := rk_numsX hk (g := r) (fun x hx => h x (List.mem_cons_of_mem _ (List.mem_append_right _ hx))) hr
    have e1 : (Gr.cons k g m r).parts = 1 + g.parts + r.parts := rfl
    have p0 := two_pos (x + 121 * g.parts)
    have px := two_pos x
    have io : (Lad.bths (rkT b ρ g)).Ok (2 ^ (x + 121 * g.parts)) := Lad.bths_ok g1 (by omega) (Int.le_refl _) g2
    have lo := Lad.lad_ok (w := b.wide k) (hk k hkn) io px p0
    have m1 := two_mono (show x ≤ x + 121 * g.parts by omega)
    have lo2 : (lad (b.wide k) (ρ k) (Lad.bths (rkT b ρ g))).Ok (2 ^ (x + 121 * g.parts + 1)) := lo.mono (by rw [two_succ]; omega)
    have to := Lad.tms_ok lo2 (show 0 ≤ m by omega)
    have q0 := two_pos (x + 121 * g.parts + 1)
    have hb : 2 ^ (x + 121 * g.parts + 1) * m + 2 ^ (x + 121 * g.parts + 1) ≤ 2 ^ (x + 121 * g.parts + 120) := by
      have : (2 : Int) ^ (x + 121 * g.parts + 120) = 2 ^ (x + 121 * g.parts + 1) * 2 ^ 119 := by rw [← Int.pow_add]
      rw [this]
      have h2 : (2 : Int) ^ (x + 121 * g.parts + 1) * (m + 1) ≤ 2 ^ (x + 121 * g.parts + 1) * 2 ^ 119 := Int.mul_le_mul_of_nonneg_left (by omega) (by omega)
      rw [Int.mul_add, Int.mul_one] at h2
      exact h2
    have to2 := to.mono hb
    have w1 := two_mono (show x + 121 * g.parts + 120 ≤ x + 121 * (1 + g.parts + r.parts) - 1 by omega)
    have w2 := two_mono (show x + 121 * r.parts ≤ x + 121 * (1 + g.parts + r.parts) - 1 by omega)
    have w3 := two_succ (x + 121 * (1 + g.parts + r.parts) - 1)
    rw [show x + 121 * (1 + g.parts + r.parts) - 1 + 1 = x + 121 * (1 + g.parts + r.parts) by omega] at w3
    have w0 := two_pos (x + 121 * (1 + g.parts + r.parts) - 1)
    rw [e1]
    refine ⟨fun l hl => ?_, fun y => ?_⟩
    · rcases List.mem_cons.mp hl with rfl | hl
      · exact to2.mono (by omega)
      · exact (r1 l hl).mono (by omega)
    · show Lad.S (Lad.tms (lad (b.wide k) (ρ k) (Lad.bths (rkT b ρ g))) m) y + ((rkT b ρ r).map fun l => Lad.S l y).sum < _
      have s2 := r2 y
      have s3 : Lad.S (Lad.tms (lad (b.wide k) (ρ k) (Lad.bths (rkT b ρ g))) m) y < 2 ^ (x + 121 * g.parts + 120) ∨ Lad.S (Lad.tms (lad (b.wide k) (ρ k) (Lad.bths (rkT b ρ g))) m) y ≤ 0 := by
        rcases Lad.S_cases to2 y with ⟨h1, _⟩ | ⟨mm, _, h2, _, h4⟩
        · right; omega
        · left; omega
      have w4 := two_pos (x + 121 * g.parts + 120)
      rcases s3 with s3 | s3 <;> omega
theorem rk_fitX {P D x : Nat} (hk : ∀ n ∈ ns, n ∈ b.names ∧ ρ n ≠ .nil ∧ (ρ n).parts ≤ P ∧ (ρ n).deep ≤ D ∧ (ρ n).Ok (2 ^ x)) (hP : 1 ≤ P) : ∀ {g : Gr}, Named ns g → g.Ok (2 ^ 119) → P * g.parts ≤ 890 → D + g.deep ≤ 24 → x + 121 * g.parts ≤ 2000 → Fit b ρ ns g
  | .nil, _, _, _, _, _ => trivial
  | .cons k g m r, h, ho, hp, hd, hx => by
    have hP' : ∀ n ∈ ns, (ρ n).parts ≤ P ∧ (ρ n).deep ≤ D := fun n hn => ⟨(hk n hn).2.2.1, (hk n hn).2.2.2.1⟩
    have hX' : ∀ n ∈ ns, (ρ n).Ok (2 ^ x) := fun n hn => (hk n hn).2.2.2.2
    have nm : 2 ^ 119 ≤ (2 : Int) ^ 2000 := two_mono (by decide)
    obtain ⟨hkn, hnn⟩ : k ∈ ns ∧ (Named ns g ∧ Named ns r) := ⟨h ((k, g), m) (List.mem_cons_self ..), fun x hx => h x (List.mem_cons_of_mem _ (List.mem_append_left _ hx)), fun x hx => h x (List.mem_cons_of_mem _ (List.mem_append_right _ hx))⟩
    obtain ⟨ok0, hg, hm1, hm2, hr, hrise⟩ := ho
    have ho : (Gr.cons k g m r).Ok (2 ^ 119) := ⟨ok0, hg, hm1, hm2, hr, hrise⟩
    have e1 : (Gr.cons k g m r).parts = 1 + g.parts + r.parts := rfl
    have e2 : (Gr.cons k g m r).deep = max (1 + g.deep) r.deep := rfl
    rw [e1, Nat.mul_add, Nat.mul_add, Nat.mul_one] at hp
    rw [e1] at hx
    obtain ⟨s1, s2⟩ := rk_size hP' h
    obtain ⟨g1, g2⟩ := rk_size hP' hnn.1
    obtain ⟨n1, n2⟩ := rk_numsX hX' hnn.1 hg
    have p0 := two_pos (x + 121 * g.parts)
    have px := two_pos x
    have io : (Lad.bths (rkT b ρ g)).Ok (2 ^ (x + 121 * g.parts)) := Lad.bths_ok n1 (by omega) (Int.le_refl _) n2
    have lo := (Lad.lad_ok (w := b.wide k) (hX' k hkn) io px p0)
    have m1 := two_mono (show x ≤ x + 121 * g.parts by omega)
    have m2 := two_mono (show x + 121 * g.parts + 1 ≤ 2000 by omega)
    have m3 := two_succ (x + 121 * g.parts)
    obtain ⟨kb, kne, kp, kd, kx⟩ := hk k hkn
    have num : ∀ {l : Lad}, l.Ok (2 ^ 2000) → ∀ p ∈ l.ps, 0 ≤ p.2 ∧ p.2 < 2 ^ 2000 := fun hl p hp => by
      have := (Lad.ok_iff.mp hl).1 p hp
      exact ⟨by omega, this.2.2⟩
    have ip : (Lad.bths (rkT b ρ g)).parts ≤ P * g.parts := Nat.le_trans (Lad.bths_parts _) g1
    have idp : (Lad.bths (rkT b ρ g)).deep ≤ D + g.deep := Lad.bths_deep g2
    have lp := Lad.lad_parts (b.wide k) (ρ k) (Lad.bths (rkT b ρ g))
    have ld := Lad.lad_deep (w := b.wide k) (o := ρ k) (l := Lad.bths (rkT b ρ g)) (n := D + g.deep) (by omega) idp
    refine ⟨⟨hkn, kb, kne, ⟨by omega, by omega, num (kx.mono (by omega))⟩, ⟨by show (Lad.bths (rkT b ρ g)).deep ≤ 25; omega, by show (Lad.bths (rkT b ρ g)).parts ≤ 900; omega, num (io.mono (by omega))⟩, ⟨by show (lad (b.wide k) (ρ k) (Lad.bths (rkT b ρ g))).deep ≤ 25; omega, by show (lad (b.wide k) (ρ k) (Lad.bths (rkT b ρ g))).parts ≤ 900; omega, num (lo.mono (by omega))⟩, by omega, by omega, ?_⟩, rk_fitX hk hP hnn.1 hg (by omega) (by omega) (by omega), rk_fitX hk hP hnn.2 hr (by omega) (by omega) (by omega)⟩
    have key : ∀ ls : List Lad, (ls.flatMap Lad.ps).length ≤ (ls.map Lad.parts).sum := by
      intro ls
      induction ls with
      | nil => exact Nat.le_refl _
      | cons l r ih =>
        rw [List.flatMap_cons, List.length_append, List.map_cons, List.sum_cons, Lad.ps_length]
        have := l.len_parts
        omega
    have := key (rkT b ρ (.cons k g m r))
    rw [e1, Nat.mul_add, Nat.mul_add, Nat.mul_one] at s1
    exact Nat.le_trans (Nat.le_trans this s1) (by omega)
end Gr
theorem Gr.named_bare {k : Str} {ns : List Str} {m : Int} (h : k ∈ ns) : Gr.Named ns (.cons k .nil m .nil) := fun x hx => by
  have e : x = ((k, .nil), m) := by simpa [Gr.within] using hx
  rw [e]; exact h
theorem lad_nil {w : Bool} {o : Lad} (ho : o ≠ .nil) : lad w o .nil = o := by
  cases w with
  | false => exact Lad.bhd_nil o
  | true =>
    cases o with
    | nil => exact absurd rfl ho
    | cons e m r => rfl
theorem Gr.rk_bare {b : Bk} {ρ : Str → Lad} {n : Str} {m : Int} (h : Lad.R (ρ n)) (ho : ρ n ≠ .nil) (hm : 0 ≤ m) : Gr.rk b ρ (.cons n .nil m .nil) = Lad.tms (ρ n) m := by
  have e : Gr.rk b ρ (.cons n .nil m .nil) = Lad.bths [Lad.tms (lad (b.wide n) (ρ n) (Lad.bths [])) m] := rfl
  rw [e, Lad.bths_nil, lad_nil ho]
  obtain ⟨B, hB, hr⟩ := h.tms hm
  exact Lad.bths_one hr (by omega)
theorem noR_in {kd : Kd} {i : Nat} {r : Ru} (h : (noR :: kd.rs)[i]? = some r) : r = noR ∨ r ∈ kd.rs := by
  rcases List.mem_cons.mp (List.mem_of_getElem? h) with e | e
  · exact .inl e
  · exact .inr e
theorem RuOk.no : RuOk noR := ⟨trivial, trivial, by decide⟩
theorem noR_facts {b : Bk} (ok : b.Ok) {kd : Kd} (hk : kd ∈ b) {i : Nat} {r : Ru} (h : (noR :: kd.rs)[i]? = some r) : RuOk r ∧ Gr.Named b.names r.1 ∧ Gr.Named b.names r.2 := by
  rcases noR_in h with e | e
  · rw [e]; exact ⟨RuOk.no, (fun x hx => nomatch (show x ∈ ([] : List (Tr × Int)) from hx)), (fun x hx => nomatch (show x ∈ ([] : List (Tr × Int)) from hx))⟩
  · exact ok.named hk e
/-- where no rule is at fault, a fall leaves less -/
theorem NoF.fall {b : Bk} {ρ : Str → Lad} (h : NoF b ρ) (ok : b.Ok) (hR : RB b ρ) {kd : Kd} (hk : kd ∈ b) {i : Nat} {r : Ru} (hr : (noR :: kd.rs)[i]? = some r) {n : Int} (hn : 0 ≤ n) : (Gr.rk b ρ (Gr.grw r n)).lt (ρ kd.n) = true := by
  have hm : kd.n ∈ b.names := List.mem_map.mpr ⟨kd, hk, rfl⟩
  obtain ⟨rok, n1, n2⟩ := noR_facts ok hk hr
  rcases noR_in hr with e | e
  · rw [e, show Gr.grw noR n = .nil from Gr.grw_nil hn, Gr.rk_nil]
    exact Lad.nil_le _ (hR _ hm).2
  · rw [Gr.rk_grw rok hn hR n1 n2]
    exact Lad.lt_le (Lad.above_gt (Gr.rk_R rok.1 (Gr.RN.named hR n1)) (Gr.rk_R rok.2.1 (Gr.RN.named hR n2)) hn) (h kd hk r e)
structure D49 (l : Lad) : Prop where
  ne : l ≠ .nil
  ok : l.Ok (2 ^ 80)
  parts : l.parts ≤ 12
  deep : l.deep ≤ 3
theorem D49.set {ns : List Str} {ρ : Str → Lad} (h : ∀ m ∈ ns, D49 (ρ m)) {n : Str} {l : Lad} (hl : D49 l) : ∀ m ∈ ns ++ [n], D49 (setL ρ n l m) := fun m hm => by
  unfold setL
  split
  · exact hl
  · rename_i hne
    rcases List.mem_append.mp hm with e | e
    · exact h m e
    · exact absurd (List.mem_singleton.mp e) hne
end FT
namespace FT
open PySem PySem.W PySem.Spec PyProof.Rows L2
section
variable {K : PySem.W.Frag} {H : Hp} {bad : List Addr} {v : V} {k : Kd}
theorem KdAll.set (hv : KdA K H bad v k) : ∀ {vs : List V} {b : Bk} (i : Nat), KdAll K H bad vs b → KdAll K H bad (vs.set i v) (b.set i k)
  | _, _, _, .nil => .nil
  | _, _, 0, .cons _ t => .cons hv t
  | _, _, i + 1, .cons h t => .cons h (KdAll.set hv i t)
end
theorem names_set : ∀ {b : Bk} {i : Nat} {k k' : Kd}, b[i]? = some k → k'.n = k.n → Bk.names (b.set i k') = b.names
  | [], _, _, _, h, _ => by simp at h
  | x :: r, 0, k, k', h, e => by
    have : x = k := by simpa using h
    simp [Bk.names, e, this]
  | x :: r, i + 1, k, k', h, e => by
    have h2 : r[i]? = some k := by simpa using h
    have := names_set (b := r) h2 e
    simpa [Bk.names] using this
end FT
namespace FT
open PySem PySem.W PySem.Spec PyProof.Rows L2
/-- so many leaves -/
def lf (x : Str) (m : Int) : Gr := if m = 0 then .nil else .cons x .nil m .nil
theorem lf_ok {x : Str} {m C : Int} (hx : NameOk x) (h0 : 0 ≤ m) (hC : m < C) : (lf x m).Ok C := by
  unfold lf
  split
  · trivial
  · exact ok_one hx (by omega) hC
theorem lf_parts (x : Str) (m : Int) : (lf x m).parts ≤ 1 := by
  unfold lf
  split
  · exact Nat.zero_le _
  · exact Nat.le_refl _
theorem lf_named {x : Str} {ns : List Str} (m : Int) (h : x ∈ ns) : Gr.Named ns (lf x m) := by
  unfold lf
  split
  · intro x hx; exact nomatch (show x ∈ ([] : List (Tr × Int)) from hx)
  · exact Gr.named_bare h
def du39 (once each : Int) : Lad := if 0 < each then .cons Lad.uno 1 .nil else .cons .nil (1 + once) .nil
/-- the second kind's rules, and what its own rank is due to be -/
def Two39 (x : Str) (once each : Int) (rs : List Ru) (due : Lad) : Prop := (rs = [] ∧ due = Lad.uno) ∨ (rs = [(lf x once, lf x each)] ∧ due = du39 once each)
theorem Two39.ladder {x : Str} {once each : Int} {rs : List Ru} {due : Lad} (h : Two39 x once each rs due) (h0 : 0 ≤ once) (h1 : once ≤ 10 ^ 9) : ∃ e c, due = .cons e c .nil ∧ 1 ≤ c ∧ c ≤ 10 ^ 9 + 1 ∧ (e = .nil ∨ (e = Lad.uno ∧ c = 1 ∧ 0 < each)) := by
  rcases h with ⟨_, rfl⟩ | ⟨_, rfl⟩
  · exact ⟨_, _, rfl, by decide, by decide, .inl rfl⟩
  · unfold du39
    split
    · exact ⟨_, _, rfl, by decide, by decide, .inr ⟨rfl, rfl, by assumption⟩⟩
    · exact ⟨_, _, rfl, by omega, by omega, .inl rfl⟩
def rho39 (x : Str) (due : Lad) : Str → Lad := fun n => if n = x then Lad.uno else due
/-- a book of the two kinds -/
structure B39 (b : Bk) (x y : Str) (due : Lad) : Prop where
  ok : b.Ok
  own : OwnR b (rho39 x due)
  mx : x ∈ b.names
  my : y ∈ b.names
  ex : EndK b x
  ey : EndK b y
  each : ∀ n ∈ b.names, rho39 x due n ≠ .nil ∧ (rho39 x due n).parts ≤ 2 ∧ (rho39 x due n).deep ≤ 2 ∧ (rho39 x due n).Ok (2 ^ 31)
theorem ladOk {e : Lad} {c : Int} (hc : 1 ≤ c) (h2 : c ≤ 10 ^ 9 + 1) (he : e = .nil ∨ e = Lad.uno) : (Lad.cons e c .nil).Ok (2 ^ 31) ∧ (Lad.cons e c .nil).parts ≤ 2 ∧ (Lad.cons e c .nil).deep ≤ 2 := by
  have p31 : (10 : Int) ^ 9 + 1 < 2 ^ 31 := by decide
  rcases he with rfl | rfl
  · exact ⟨⟨trivial, hc, by omega, trivial, fun p hp => nomatch hp⟩, by show 1 ≤ 2; decide, by show 1 ≤ 2; decide⟩
  · exact ⟨⟨Lad.uno_ok.mono (by decide), hc, by omega, trivial, fun p hp => nomatch hp⟩, by show 2 ≤ 2; decide, by show 2 ≤ 2; decide⟩
theorem B39.of {b : Bk} {x y : Str} {w0 w1 : Bool} {rs0 rs1 : List Ru} {once each : Int} {due : Lad} (hx : NameOk x) (hy : NameOk y) (hne : y ≠ x) (h0 : rs0 = [] ∨ rs0 = [noR]) (h1 : Two39 x once each rs1 due) (o0 : 0 ≤ once) (o1 : once ≤ 10 ^ 9) (e0 : 0 ≤ each) (e1 : each ≤ 10 ^ 9)
    (hb : b = [⟨x, w0, rs0⟩, ⟨y, w1, rs1⟩] ∨ b = [⟨y, w1, rs1⟩, ⟨x, w0, rs0⟩]) : B39 b x y due := by
  have mem : ∀ k, k ∈ b ↔ k = ⟨x, w0, rs0⟩ ∨ k = ⟨y, w1, rs1⟩ := fun k => by
    rcases hb with e | e <;> rw [e] <;> simp [or_comm]
  have nms : ∀ n, n ∈ b.names ↔ n = x ∨ n = y := fun n => by
    rcases hb with e | e <;> rw [e] <;> simp [Bk.names, or_comm]
  have mx := (nms x).mpr (.inl rfl)
  have my := (nms y).mpr (.inr rfl)
  have r0 : ∀ r ∈ rs0, r = noR := fun r hr => by
    rcases h0 with e | e <;> rw [e] at hr
    · cases hr
    · exact List.mem_singleton.mp hr
  have r1 : ∀ r ∈ rs1, r = (lf x once, lf x each) := fun r hr => by
    rcases h1 with ⟨e, _⟩ | ⟨e, _⟩ <;> rw [e] at hr
    · cases hr
    · exact List.mem_singleton.mp hr
  have rok : RuOk (lf x once, lf x each) := ⟨lf_ok hx o0 (by omega), lf_ok hx e0 (by omega), by have a := lf_parts x once; have c := lf_parts x each; show (lf x once).parts + (lf x each).parts ≤ 4; omega⟩
  have ok : b.Ok := by
    refine ⟨by rcases hb with e | e <;> rw [e] <;> simp, by rcases hb with e | e <;> rw [e] <;> simp, by rcases hb with e | e <;> rw [e] <;> simp [Bk.names, hne, show ¬ x = y from fun z => hne z.symm], fun k hk => ?_⟩
    rcases (mem k).mp hk with e | e
    · rw [e]
      exact ⟨hx, by rcases h0 with e | e <;> rw [e] <;> simp, fun r hr => by rw [r0 r hr]; exact ⟨RuOk.no, fun p hp => nomatch (show p ∈ ([] : List (Tr × Int)) from hp)⟩⟩
    · rw [e]
      refine ⟨hy, by rcases h1 with ⟨e, _⟩ | ⟨e, _⟩ <;> rw [e] <;> simp, fun r hr => ?_⟩
      rw [r1 r hr]
      refine ⟨rok, fun p hp => ?_⟩
      rcases List.mem_append.mp hp with z | z
      · exact lf_named once mx p z
      · exact lf_named each mx p z
  have kx : (⟨x, w0, rs0⟩ : Kd) ∈ b := (mem _).mpr (.inl rfl)
  have ky : (⟨y, w1, rs1⟩ : Kd) ∈ b := (mem _).mpr (.inr rfl)
  have ex : EndK b x := .mk fun k hk => by
    have := adj_self ok kx
    have hk : k ∈ adj b (⟨x, w0, rs0⟩ : Kd).n := hk
    rw [this] at hk
    rcases h0 with e | e <;> rw [e] at hk <;> exact nomatch (show k ∈ ([] : List Str) from hk)
  have ady : ∀ k ∈ adj b y, k = x := fun k hk => by
    have := adj_self ok ky
    have hk : k ∈ adj b (⟨y, w1, rs1⟩ : Kd).n := hk
    rw [this] at hk
    obtain ⟨r, hr, hk⟩ := List.mem_flatMap.mp hk
    rw [r1 r hr] at hk
    obtain ⟨p, hp, rfl⟩ := List.mem_map.mp hk
    have h : p.1.1 ∈ [x] := by
      rcases List.mem_append.mp hp with z | z
      · exact lf_named once (List.mem_singleton.mpr rfl) p z
      · exact lf_named each (List.mem_singleton.mpr rfl) p z
    exact List.mem_singleton.mp h
  have ey : EndK b y := .mk fun k hk => by rw [ady k hk]; exact ex
  obtain ⟨e, c, hd, c1, c2, he⟩ := h1.ladder o0 o1
  have he' : e = .nil ∨ e = Lad.uno := by
    rcases he with h | h
    · exact .inl h
    · exact .inr h.1
  obtain ⟨g1, g2, g3⟩ := ladOk c1 c2 he'
  have hρx : rho39 x due x = Lad.uno := by unfold rho39; rw [if_pos rfl]
  have hρy : rho39 x due y = due := by unfold rho39; rw [if_neg hne]
  have each' : ∀ n ∈ b.names, rho39 x due n ≠ .nil ∧ (rho39 x due n).parts ≤ 2 ∧ (rho39 x due n).deep ≤ 2 ∧ (rho39 x due n).Ok (2 ^ 31) := fun n hn => by
    rcases (nms n).mp hn with e | e
    · rw [e, hρx]; exact ⟨by simp [Lad.uno], by show 1 ≤ 2; decide, by show 1 ≤ 2; decide, Lad.uno_ok.mono (by decide)⟩
    · rw [e, hρy, hd]; exact ⟨by simp, g2, g3, g1⟩
  have hR : ∀ n ∈ [x], Lad.R (rho39 x due n) ∧ rho39 x due n ≠ .nil := fun n hn => by rw [List.mem_singleton.mp hn, hρx]; exact ⟨Lad.R.uno, by simp [Lad.uno]⟩
  have lfrk : ∀ m : Int, 0 ≤ m → Gr.rk b (rho39 x due) (lf x m) = Lad.num m := fun m hm => by
    unfold lf Lad.num
    by_cases m0 : m = 0
    · rw [if_pos m0, if_pos m0]; exact Gr.rk_nil
    · rw [if_neg m0, if_neg m0, Gr.rk_bare (by rw [hρx]; exact Lad.R.uno) (by rw [hρx]; simp [Lad.uno]) hm, hρx]
      unfold Lad.tms
      rw [if_neg m0]
      show Lad.cons .nil (1 * m) .nil = _
      rw [Int.one_mul]
  have clm1 : clm b (rho39 x due) (lf x once, lf x each) = du39 once each := by
    show Lad.abv (Gr.rk b _ (lf x once)) (Gr.rk b _ (lf x each)) = _
    rw [lfrk once o0, lfrk each e0]
    unfold du39
    by_cases hz : 0 < each
    · rw [if_pos hz]
      have : Lad.num each = .cons .nil each .nil := by unfold Lad.num; rw [if_neg (by omega)]
      rw [this]
      refine Lad.R.ext (Lad.R.abv ?_ ⟨each + 1, by omega, trivial, by omega, by omega, trivial, fun p hp => nomatch hp⟩) ⟨2 ^ 31, by decide, (ladOk (by decide) (by decide) (.inr rfl)).1⟩ fun z => ?_
      · unfold Lad.num
        split
        · exact Lad.R.nil
        · exact ⟨once + 1, by omega, trivial, by omega, by omega, trivial, fun p hp => nomatch hp⟩
      · rw [Lad.S_abv, Lad.S_uno, Lad.nil_bhd]
        have : (if Lad.lt .nil z = true then Lad.S (Lad.num once) z else 0) = 0 := by
          split
          · rename_i hlt
            unfold Lad.num
            split
            · rfl
            · show Lad.sumAt [(.nil, once)] z = 0
              rw [Lad.sumAt_cons, if_neg (Lad.lt_ne hlt), Lad.sumAt_nil]; rfl
          · rfl
        rw [this, Int.zero_add]
    · rw [if_neg hz]
      have : each = 0 := by omega
      rw [this]
      show Lad.bth (Lad.num once) Lad.uno = _
      refine Lad.R.ext (Lad.R.bth ?_ Lad.R.uno) ⟨2 ^ 31, by decide, (ladOk (by omega) (by omega) (.inl rfl)).1⟩ fun z => ?_
      · unfold Lad.num
        split
        · exact Lad.R.nil
        · exact ⟨once + 1, by omega, trivial, by omega, by omega, trivial, fun p hp => nomatch hp⟩
      · rw [Lad.S_bth, Lad.S_uno]
        show _ = Lad.sumAt [(.nil, 1 + once)] z
        rw [Lad.sumAt_cons, Lad.sumAt_nil]
        unfold Lad.num
        split
        · rename_i h0'
          subst h0'
          show Lad.sumAt [] z + _ = _
          rw [Lad.sumAt_nil]; split <;> omega
        · show Lad.sumAt [(.nil, once)] z + _ = _
          rw [Lad.sumAt_cons, Lad.sumAt_nil]; split <;> omega
  have max1 : ∀ l : Lad, Lad.R l → l ≠ .nil → Lad.maxL Lad.uno [l] = l := fun l hl hn => by
    show (if Lad.uno.lt l = true then l else Lad.uno) = l
    rcases (Lad.uno_le hl hn).cases with e | e
    · rw [← e]; split <;> rfl
    · rw [if_pos e]
  have lfit : ∀ (ns : List Str) (m : Int), (x ∈ ns ∨ lf x m = .nil) → 0 ≤ m → m ≤ 10 ^ 9 → Gr.Fit b (rho39 x due) ns (lf x m) := fun ns m hns hm hm2 => by
    by_cases m0 : m = 0
    · have : lf x m = .nil := by unfold lf; rw [if_pos m0]
      rw [this]; trivial
    · have hns : x ∈ ns := by
        rcases hns with h | h
        · exact h
        · unfold lf at h; rw [if_neg m0] at h; cases h
      refine (Gr.rk_fitX (P := 2) (D := 2) (x := 31) (ns := [x]) (fun n hn => ?_) (by decide) (lf_named m (List.mem_singleton.mpr rfl)) (lf_ok hx hm ?_) ?_ ?_ ?_).mono fun n hn => by rw [List.mem_singleton.mp hn]; exact hns
      · rw [List.mem_singleton.mp hn]; exact ⟨mx, each' x mx⟩
      · have : (10 : Int) ^ 9 < 2 ^ 119 := by decide
        omega
      · have := lf_parts x m; omega
      · have h1 := lf_parts x m; have h2 := (lf x m).deep_parts; omega
      · have := lf_parts x m; omega
  refine ⟨ok, ⟨fun k hk he => ?_, fun k hk he ns hns r hr => ?_, fun k hk he r hr => ?_⟩, mx, my, ex, ey, each'⟩
  · rcases (mem k).mp hk with z | z
    · rw [z]
      show rho39 x due x = Lad.maxL Lad.uno (rs0.map _)
      rw [hρx]
      rcases h0 with z | z <;> rw [z]
      · rfl
      · show _ = Lad.maxL Lad.uno [clm b _ (.nil, .nil)]
        rw [clm_no, max1 _ Lad.R.uno (by simp [Lad.uno])]
    · rw [z]
      show rho39 x due y = Lad.maxL Lad.uno (rs1.map _)
      rw [hρy]
      rcases h1 with ⟨z, z2⟩ | ⟨z, z2⟩ <;> rw [z, z2]
      · rfl
      · show _ = Lad.maxL Lad.uno [clm b _ _]
        rw [← z2, clm1, z2, max1 _ (by rw [← z2, hd]; exact ⟨_, by decide, g1⟩) (by rw [← z2, hd]; simp)]
  · rcases (mem k).mp hk with z | z
    · rw [z] at hr
      rw [r0 r hr]
      exact RFit_no b _ ns
    · rw [z] at hr hns
      have er := r1 r hr
      rw [er]
      have hns' : ∀ m : Int, (lf x m = (lf x once) ∨ lf x m = lf x each) → (x ∈ ns ∨ lf x m = .nil) := fun m hm => by
        by_cases m0 : lf x m = .nil
        · exact .inr m0
        · refine .inl (hns x ?_)
          have := adj_self ok ky
          show x ∈ adj b (⟨y, w1, rs1⟩ : Kd).n
          rw [this]
          refine ledR_within hr (x := ((x, .nil), m)) ?_
          have hw : ((x, Gr.nil), m) ∈ (lf x m).within := by
            unfold lf at m0 ⊢
            split
            · rename_i h; rw [if_pos h] at m0; exact absurd rfl m0
            · simp [Gr.within]
          rw [er]
          rcases hm with h | h
          · exact List.mem_append_left _ (by rw [← h]; exact hw)
          · exact List.mem_append_right _ (by rw [← h]; exact hw)
      have sz : ∀ m : Int, 0 ≤ m → (Gr.rk b (rho39 x due) (lf x m)).deep ≤ 1 ∧ (Gr.rk b (rho39 x due) (lf x m)).parts ≤ 1 := fun m hm => by
        rw [lfrk m hm]
        unfold Lad.num
        refine ⟨?_, ?_⟩ <;> split
        · exact Nat.zero_le _
        · exact Nat.le_refl _
        · exact Nat.zero_le _
        · exact Nat.le_refl _
      obtain ⟨a1, a2⟩ := sz once o0
      obtain ⟨a3, a4⟩ := sz each e0
      exact ⟨lfit ns once (hns' once (.inl rfl)) o0 o1, lfit ns each (hns' each (.inr rfl)) e0 e1, by show (Gr.rk b _ (lf x once)).deep ≤ 24; omega, by show (Gr.rk b _ (lf x each)).deep ≤ 24; omega, by show (Gr.rk b _ (lf x once)).parts ≤ 390; omega, by show (Gr.rk b _ (lf x each)).parts ≤ 390; omega⟩
  · rcases (mem k).mp hk with z | z
    · rw [z] at hr
      rw [r0 r hr, clm_no]; show 1 ≤ 45; decide
    · rw [z] at hr
      rw [r1 r hr, clm1]
      unfold du39
      split
      · show 2 ≤ 45; decide
      · show 1 ≤ 45; decide
end FT
namespace FT
open PySem PySem.W PySem.Spec PyProof.Rows L2
theorem S_one (e : Lad) (m : Int) (z : Lad) : Lad.S (.cons e m .nil) z = if e = z then m else 0 := by
  show Lad.sumAt [(e, m)] z = _
  rw [Lad.sumAt_cons, Lad.sumAt_nil, Int.add_zero]
end FT
namespace FT
open PySem PySem.W PySem.Spec PyProof.Rows L2
namespace Gr
variable {b : Bk} {C : Int} {g : Gr}
def up88 : List Nat → List Nat
  | [] => []
  | [a] => [a]
  | a :: c :: r => (a + 1 + (up88 (c :: r)).headD 0) :: up88 (c :: r)
def Lv : List Nat → Gr → Prop
  | [], g => g = .nil
  | a :: r, g => g.parts ≤ a ∧ ∀ p ∈ g.ps, Lv r p.1.2
theorem Lv.head : ∀ {as : List Nat} {g : Gr}, Lv as g → g.parts ≤ as.headD 0
  | [], g, h => by rw [show g = .nil from h]; exact Nat.le_refl _
  | a :: r, g, h => h.1
theorem Lv.deep : ∀ {as : List Nat} {g : Gr}, Lv as g → g.deep ≤ as.length
  | [], g, h => by rw [show g = .nil from h]; exact Nat.le_refl _
  | a :: r, g, h => deep_le fun p hp => by
    have := Lv.deep (h.2 p hp)
    show _ < r.length + 1
    omega
theorem Lv.up : ∀ {as : List Nat} {g : Gr}, Lv as g → Lv (up88 as) g
  | [], g, h => h
  | [a], g, h => h
  | a :: c :: r, g, h => ⟨by have := h.1; show g.parts ≤ a + 1 + _; omega, fun p hp => Lv.up (h.2 p hp)⟩
theorem Lv.stk {ns : Unit} : ∀ {pl : Pl} {as : List Nat} {g : Gr} {k : Str}, Lv as g → bareAt g pl = some k → Lv (up88 as) (stk b 0 .nil pl g).1
  | [], _, _, _, _, h => nomatch h
  | i :: r, [], g, k, hl, h => by
    rw [show g = .nil from hl] at h
    cases h
  | i :: r, a :: as, g, k, hl, h => by
    by_cases hr : r = []
    · subst hr
      obtain ⟨p, e, _⟩ := bare_one h
      rw [stk_one e]
      refine Lv.up (as := a :: as) ⟨?_, fun q hq => ?_⟩
      · have h1 := tgt_parts (wo g p.1 1) .nil
        have h2 := wo_parts g p.1 1
        have h3 := hl.1
        have h4 : (Gr.nil).parts = 0 := rfl
        show (tgt (wo g p.1 1) .nil).parts ≤ a
        omega
      · rw [show (tgt (wo g p.1 1) .nil, ([] : Pl)).1 = tgt (wo g p.1 1) .nil from rfl, tgt_ps] at hq
        obtain ⟨q2, hq2, e2⟩ := tdy_keys (enc := tEnc) _ q hq
        rw [← e2]
        rcases List.mem_append.mp hq2 with hq2 | hq2
        · rw [wo_ps] at hq2
          obtain ⟨q3, hq3, e3⟩ := woL_key hq2
          rw [← e3]
          exact hl.2 q3 hq3
        · cases hq2
    · obtain ⟨p, e, h2⟩ := bare_more hr h
      have pm := List.mem_of_getElem? e
      cases as with
      | nil =>
        have := hl.2 p pm
        rw [show p.1.2 = .nil from this] at h2
        cases r with
        | nil => exact absurd rfl hr
        | cons j r => cases h2
      | cons c as =>
        have ih := Lv.stk (ns := ns) (hl.2 p pm) h2
        rw [stk_more e hr]
        refine ⟨?_, fun q hq => ?_⟩
        · have h1 := tgt_parts (wo g p.1 1) (one (chg b 0 .nil r p) (1 + b.far p.1.1 0))
          have h2 := wo_parts g p.1 1
          have h3 := hl.1
          have h4 : (one (chg b 0 .nil r p) (1 + b.far p.1.1 0)).parts = 1 + (Gr.stk b 0 .nil r p.1.2).1.parts + 0 := rfl
          have h5 := ih.head
          show (tgt (wo g p.1 1) (one (chg b 0 .nil r p) (1 + b.far p.1.1 0))).parts ≤ a + 1 + _
          omega
        · have hq : q ∈ (tgt (wo g p.1 1) (one (chg b 0 .nil r p) (1 + b.far p.1.1 0))).ps := hq
          rw [tgt_ps] at hq
          obtain ⟨q2, hq2, e2⟩ := tdy_keys (enc := tEnc) _ q hq
          rw [← e2]
          rcases List.mem_append.mp hq2 with hq2 | hq2
          · rw [wo_ps] at hq2
            obtain ⟨q3, hq3, e3⟩ := woL_key hq2
            rw [← e3]
            exact Lv.up (hl.2 q3 hq3)
          · rw [one_ps, List.mem_singleton] at hq2
            rw [hq2]
            exact ih
def dn88 : Nat → Nat → List Nat
  | 0, _ => []
  | n + 1, m => m :: dn88 n (m - 1)
def lv88 : Nat → List Nat
  | 0 => dn88 4 12
  | j + 1 => up88 (lv88 j)
/-- behind j falls -/
structure At88 (ns : List Str) (j : Nat) (g : Gr) : Prop where
  lv : Lv (lv88 j) g
  ok : g.Ok (60 * 10 ^ 58 + 1 + 3 * j)
  nm : Named ns g
theorem At88.step {ns : List Str} {j : Nat} {g : Gr} {pl : Pl} {k : Str} (h : At88 ns j g) (hb : bareAt g pl = some k) : At88 ns (j + 1) (Gr.stk b 0 .nil pl g).1 :=
  ⟨h.lv.stk (ns := ()) hb, (stk_ok (b := b) (fr := .nil) (F := 1) (Int.le_refl 0) (by decide) trivial h.ok hb).mono (by push_cast; omega), stk_named (fun x hx => absurd hx List.not_mem_nil) hb h.nm⟩
theorem lv88_len : ∀ j, j < 7 → (lv88 j).length = 4 ∧ (lv88 j).headD 0 ≤ 1000 := by decide
end Gr
theorem Gr.At88.size {ns : List Str} {j : Nat} {g : Gr} (h : Gr.At88 ns j g) (hj : j ≤ 6) : g.deep ≤ 4 ∧ g.parts ≤ 1000 ∧ g.Ok (2 ^ 199) := by
  obtain ⟨h1, h2⟩ := Gr.lv88_len j (by omega)
  have h3 := h.lv.deep
  have h4 := h.lv.head
  refine ⟨by omega, by omega, h.ok.mono ?_⟩
  have : (60 * 10 ^ 58 + 1 + 3 * 6 : Int) ≤ 2 ^ 199 := by decide
  omega
end FT
namespace FT
open PySem PySem.W PySem.Spec PyProof.Rows L2
/-- a begin of a grove, with lesser numbers -/
inductive Low : Gr → Gr → Prop
  | nil {g : Gr} : Low .nil g
  | cons {k : Str} {h r s : Gr} {m n : Int} : 1 ≤ m → m ≤ n → Low r s → Low (.cons k h m r) (.cons k h n s)
/-- a book and one with a rule more: of the kind at u -/
structure More (b c : Bk) (u : Nat) (below : Bool) : Prop where
  ok : c.Ok
  few : ∀ k ∈ c, ∀ r ∈ k.rs, r.1.parts + r.2.parts ≤ 3
  is : ∃ (k : Kd) (i : Nat) (r : Ru), b[u]? = some k ∧ c = b.set u ⟨k.n, k.w, k.rs.take i ++ [r] ++ k.rs.drop i⟩ ∧ (below = true → ∃ s ∈ k.rs, Low r.1 s.1 ∧ Low r.2 s.2)
end FT
namespace FT
open PySem PySem.W PySem.Spec PyProof.Rows L2
theorem Low.ok {C : Int} : ∀ {t g : Gr}, Low t g → g.Ok C → t.Ok C ∧ ∀ p ∈ t.ps, ∃ q ∈ g.ps, q.1 = p.1 := by
  intro t g h
  induction h with
  | nil => exact fun _ => ⟨trivial, fun p hp => nomatch hp⟩
  | @cons k h r s m n h1 h2 _ ih =>
    rintro ⟨a, b, c, d, e, f⟩
    obtain ⟨i1, i2⟩ := ih e
    refine ⟨⟨a, b, h1, by omega, i1, fun p hp => ?_⟩, fun p hp => ?_⟩
    · obtain ⟨q, hq, eq⟩ := i2 p hp
      rw [← eq]; exact f q hq
    · rcases List.mem_cons.mp hp with e | hp
      · exact ⟨((k, h), n), List.mem_cons_self .., by rw [e]⟩
      · obtain ⟨q, hq, eq⟩ := i2 p hp
        exact ⟨q, List.mem_cons_of_mem _ hq, eq⟩
theorem Low.parts {t g : Gr} (h : Low t g) : t.parts ≤ g.parts := by
  induction h with
  | nil => exact Nat.zero_le _
  | @cons k h r s m n _ _ _ ih => show 1 + h.parts + r.parts ≤ 1 + h.parts + s.parts; omega
theorem Low.within {t g : Gr} (h : Low t g) : ∀ x ∈ t.within, ∃ y ∈ g.within, y.1 = x.1 := by
  induction h with
  | nil => exact fun x hx => absurd hx List.not_mem_nil
  | @cons k h r s m n _ _ _ ih =>
    intro x hx
    rcases List.mem_cons.mp hx with e | hx
    · exact ⟨((k, h), n), List.mem_cons_self .., by rw [e]⟩
    · rcases List.mem_append.mp hx with hx | hx
      · exact ⟨x, List.mem_cons_of_mem _ (List.mem_append_left _ hx), rfl⟩
      · obtain ⟨y, hy, e⟩ := ih x hx
        exact ⟨y, List.mem_cons_of_mem _ (List.mem_append_right _ hy), e⟩
theorem get_set : ∀ {b : Bk} {u : Nat} {k k' : Kd}, b[u]? = some k → k'.n = k.n → b.names.Nodup → ∀ n, Bk.get (b.set u k') n = if n = k.n then some k' else b.get n
  | [], u, k, k', h, _, _, n => by simp at h
  | x :: r, 0, k, k', h, e, nd, n => by
    have hx : x = k := by simpa using h
    subst hx
    show Bk.get (k' :: r) n = _
    unfold Bk.get
    rw [List.find?_cons, List.find?_cons]
    by_cases hn : n = x.n
    · rw [if_pos hn, decide_eq_true (show k'.n = n by rw [e, hn])]
    · rw [if_neg hn, decide_eq_false (show ¬ k'.n = n from fun z => hn (by rw [← z, e])), decide_eq_false (show ¬ x.n = n from fun z => hn z.symm)]
  | x :: r, u + 1, k, k', h, e, nd, n => by
    have h' : r[u]? = some k := by simpa using h
    have nd' : x.n ∉ Bk.names r ∧ (Bk.names r).Nodup := List.nodup_cons.mp nd
    have ih := get_set (k' := k') h' e nd'.2 n
    have km : k.n ∈ Bk.names r := List.mem_map.mpr ⟨k, List.mem_of_getElem? h', rfl⟩
    show Bk.get (x :: r.set u k') n = _
    unfold Bk.get at ih ⊢
    rw [List.find?_cons, List.find?_cons]
    by_cases hx : x.n = n
    · rw [decide_eq_true hx]
      have : n ≠ k.n := fun z => nd'.1 (by rw [hx, z]; exact km)
      rw [if_neg this]
    · rw [decide_eq_false hx]
      exact ih
namespace More
variable {b c : Bk} {u : Nat} {w : Bool}
/-- what a rule more leaves -/
theorem facts (ok : b.Ok) (h : More b c u w) : ∃ (k k' : Kd) (r : Ru), b.get k.n = some k ∧ k ∈ b ∧ k'.n = k.n ∧ k'.w = k.w ∧ c.names = b.names ∧ (∀ n, c.get n = if n = k.n then some k' else b.get n) ∧ (∀ x, x ∈ k'.rs ↔ x ∈ k.rs ∨ x = r) ∧ (w = true → ∃ s ∈ k.rs, Low r.1 s.1 ∧ Low r.2 s.2) ∧ b[u]? = some k := by
  obtain ⟨k, i, r, hk, rfl, hw⟩ := h.is
  have km := List.mem_of_getElem? hk
  refine ⟨k, ⟨k.n, k.w, k.rs.take i ++ [r] ++ k.rs.drop i⟩, r, Bk.get_self ok.nd km, km, rfl, rfl, names_set hk rfl, get_set hk rfl ok.nd, fun x => ?_, hw, hk⟩
  show x ∈ k.rs.take i ++ [r] ++ k.rs.drop i ↔ _
  have e : x ∈ k.rs ↔ x ∈ k.rs.take i ∨ x ∈ k.rs.drop i := by
    conv => lhs; rw [← List.take_append_drop i k.rs]
    exact List.mem_append
  rw [List.mem_append, List.mem_append, List.mem_singleton, e]
  constructor
  · rintro ((h | h) | h)
    · exact .inl (.inl h)
    · exact .inr h
    · exact .inl (.inr h)
  · rintro ((h | h) | h)
    · exact .inl (.inl h)
    · exact .inr h
    · exact .inl (.inr h)
theorem wide (ok : b.Ok) (h : More b c u w) : ∀ n, b.wide n = c.wide n := fun n => by
  obtain ⟨k, k', r, g1, km, e1, e2, _, g2, _⟩ := h.facts ok
  unfold Bk.wide
  rw [g2 n]
  by_cases hn : n = k.n
  · rw [if_pos hn, hn, g1]; exact e2.symm
  · rw [if_neg hn]
end More
end FT
namespace FT
open PySem PySem.W PySem.Spec PyProof.Rows L2
/-- a dict of counts -/
def CntD (H : Hp) (d : Addr) (κ : Str → Int) (ns : List Str) : Prop := H d = some (.dK (ns.map fun n => ((Sum.inr n : Key), V.int (κ n))))
theorem cnt_val {κ : Str → Int} {n : Str} : ∀ {ns : List Str}, n ∈ ns → valV (ns.map fun n => ((Sum.inr n : Key), V.int (κ n))) (Sum.inr n) = some (.int (κ n))
  | [], h => nomatch h
  | a :: r, h => by
    by_cases e : a = n
    · subst e
      simp [valV]
    · have hn : n ∈ r := by
        rcases List.mem_cons.mp h with z | z
        · exact absurd z.symm e
        · exact z
      have ih := cnt_val (κ := κ) hn
      unfold valV at ih ⊢
      rw [List.map_cons, List.find?_cons]
      have : decide ((Sum.inr a : Key) = Sum.inr n) = false := decide_eq_false fun z => e (Sum.inr.inj z)
      simp only [this]
      exact ih
theorem CntD.val {H : Hp} {d : Addr} {κ : Str → Int} {ns : List Str} {n : Str} (h : CntD H d κ ns) (hn : n ∈ ns) : DGet H d (.str n) (some (.int (κ n))) := getK h (cnt_val hn)
theorem CntD.sb {H H' : Hp} {d : Addr} {κ : Str → Int} {ns : List Str} {ps : List Addr} (h : CntD H d κ ns) (s : SB ps H H') (hd : d ∉ ps) : CntD H' d κ ns := s.keep _ _ h hd
theorem CntD.put {H : Hp} {d : Addr} {κ : Str → Int} {ns : List Str} {n : Str} (h : CntD H d κ ns) (hn : n ∉ ns) (hl : ns.length ≤ 1000) : ∃ H', DPut H d (.str n) (.int (κ n)) H' ∧ SB [d] H H' ∧ CntD H' d κ (ns ++ [n]) := by
  have szl := sizeLine_eq
  have t := SB.setD (ps := [d]) h (by simp) (.dK (putK (ns.map fun n => ((Sum.inr n : Key), V.int (κ n))) (Sum.inr n) (.int (κ n))))
  have e : putK (ns.map fun n => ((Sum.inr n : Key), V.int (κ n))) (Sum.inr n) (.int (κ n)) = (ns ++ [n]).map fun n => ((Sum.inr n : Key), V.int (κ n)) := by
    rw [putK_new fun p hp z => ?_, List.map_append]
    · rfl
    · obtain ⟨m, hm, rfl⟩ := List.mem_map.mp hp
      exact hn (by rw [← Sum.inr.inj z]; exact hm)
  refine ⟨_, DPut.k (k := Sum.inr n) h (by rw [List.length_map]; omega), t, ?_⟩
  unfold CntD
  rw [upd_same, e]
end FT
namespace FT
open PySem PySem.W PySem.Spec PyProof.Rows L2
def potK (c : Addr) (a l s : Int) : List (Key × V) := [(Sum.inr "cells", V.ref c), (Sum.inr "at", V.int a), (Sum.inr "left", V.int l), (Sum.inr "seed", V.int s)]
theorem pot_cells (c : Addr) (a l s : Int) : valV (potK c a l s) (Sum.inr "cells") = some (.ref c) := rfl
theorem pot_at (c : Addr) (a l s : Int) : valV (potK c a l s) (Sum.inr "at") = some (.int a) := rfl
theorem pot_left (c : Addr) (a l s : Int) : valV (potK c a l s) (Sum.inr "left") = some (.int l) := rfl
theorem pot_seed (c : Addr) (a l s : Int) : valV (potK c a l s) (Sum.inr "seed") = some (.int s) := rfl
theorem put_at (c : Addr) (a l s x : Int) : putK (potK c a l s) (Sum.inr "at") (.int x) = potK c x l s := rfl
def PotA (H : Hp) (p : Addr) : Prop := ∃ (c : Addr) (ns : List Int) (a l s : Int), H p = some (.dK (potK c a l s)) ∧ H c = some (.lst (ns.map V.int)) ∧ ns.length ≤ 63 ∧ 0 ≤ a ∧ a ≤ ns.length ∧ (0 ≤ l ∧ l < 10 ^ 320) ∧ (0 ≤ s ∧ s < 2 ^ 31)
theorem PotA.sb {H H' : Hp} {p : Addr} (h : PotA H p) (e : SB [] H H') : PotA H' p := by
  obtain ⟨c, ns, a, l, s, h1, h2, h3⟩ := h
  exact ⟨c, ns, a, l, s, e.keep _ _ h1 List.not_mem_nil, e.keep _ _ h2 List.not_mem_nil, h3⟩
theorem PotA.ne {H : Hp} {p q : Addr} (h : PotA H p) (hq : H q = none) : p ≠ q := fun z => by
  obtain ⟨_, _, _, _, _, e, _⟩ := h
  rw [z, hq] at e; cases e
theorem PotA.some {H : Hp} {p : Addr} (h : PotA H p) : H p ≠ none := fun z => by
  obtain ⟨_, _, _, _, _, e, _⟩ := h
  rw [z] at e; cases e
def spPot (K : PySem.W.Frag) : Sp := fun vs H Q _ => ∃ (a : Addr) (ns : List Int), vs = [.ref a] ∧ SqL K H a (ns.map V.int) ∧ ns.length ≤ 63 ∧ ∀ (p : Addr) (H' : Hp), SB [] H H' → H p = none → PotA H' p → Q (.ref p) H'
def spTakeQ : Sp := fun vs H Q _ => ∃ (p : Addr) (m : Int), vs = [.ref p, .int m] ∧ PotA H p ∧ 1 ≤ m ∧ m < 2 ^ 250 ∧ ∀ r H', 0 ≤ r → r < m → SB [p] H H' → PotA H' p → Q (.int r) H'
inductive Dro
  | fin (i : Nat) | man (i : Nat) | ex (i : Nat) (d : Dro)
deriving DecidableEq
namespace Dro
def up : Dro → Nat → Dro
  | fin i, k => fin (i + k)
  | man i, k => man (i + k)
  | ex i d, k => ex (i + k) d
theorem up_zero (d : Dro) : d.up 0 = d := by cases d <;> rfl
theorem up_up (d : Dro) (i j : Nat) : (d.up i).up j = d.up (j + i) := by cases d <;> simp [up] <;> omega
def enc : Dro → PyData
  | fin i => .tuple [.str "end", .int (i : Nat)]
  | man i => .tuple [.str "many", .int (i : Nat)]
  | ex i d => .tuple [.str "exponent", .int (i : Nat), d.enc]
def deep : Dro → Nat
  | fin _ => 1
  | man _ => 1
  | ex _ d => 1 + d.deep
def word : Dro → Str
  | fin _ => "end"
  | man _ => "many"
  | ex _ _ => "exponent"
def ix : Dro → Nat
  | fin i => i
  | man i => i
  | ex i _ => i
end Dro
namespace Lad
def dro : Lad → Lad → Dro
  | .cons e m r, .cons f n s => if e = f then (if m = n then (dro r s).up 1 else .man 0) else .ex 0 (dro e f)
  | _, _ => .fin 0
theorem dro_nil_r (l : Lad) : dro l .nil = .fin 0 := by cases l <;> rfl
theorem dro_cons (e f : Lad) (m n : Int) (r s : Lad) : dro (.cons e m r) (.cons f n s) = if e = f then (if m = n then (dro r s).up 1 else .man 0) else .ex 0 (dro e f) := by rw [dro]
theorem dro_drop {l o : Lad} {k : Nat} {p q : Lad × Int} (hp : l.ps[k]? = some p) (hq : o.ps[k]? = some q) : dro (ofPs (l.ps.drop k)) (ofPs (o.ps.drop k)) = if p.1 = q.1 then (if p.2 = q.2 then (dro (ofPs (l.ps.drop (k + 1))) (ofPs (o.ps.drop (k + 1)))).up 1 else .man 0) else .ex 0 (dro p.1 q.1) := by
  have h1 : k < l.ps.length := (List.getElem?_eq_some_iff.mp hp).1
  have h2 : k < o.ps.length := (List.getElem?_eq_some_iff.mp hq).1
  have e1 : l.ps[k] = p := (List.getElem?_eq_some_iff.mp hp).2
  have e2 : o.ps[k] = q := (List.getElem?_eq_some_iff.mp hq).2
  rw [List.drop_eq_getElem_cons h1, List.drop_eq_getElem_cons h2, e1, e2]
  exact dro_cons _ _ _ _ _ _
theorem dro_alh : ∀ l o : Lad, dro l o = (dro (ofPs (l.ps.drop (alh l o))) (ofPs (o.ps.drop (alh l o)))).up (alh l o)
  | .nil, o => by
    rw [alh_nil_l, List.drop_zero, List.drop_zero, ofPs_ps, ofPs_ps, Dro.up_zero]
  | .cons e m r, .nil => by
    rw [alh_nil_r, List.drop_zero, List.drop_zero, ofPs_ps, ofPs_ps, Dro.up_zero]
  | .cons e m r, .cons e' m' r' => by
    rw [alh_cons]
    by_cases h : e = e' ∧ m = m'
    · rw [if_pos h]
      obtain ⟨rfl, rfl⟩ := h
      have ih := dro_alh r r'
      have d1 : (Lad.cons e m r).ps.drop (1 + alh r r') = r.ps.drop (alh r r') := by rw [Nat.add_comm]; rfl
      have d2 : (Lad.cons e m r').ps.drop (1 + alh r r') = r'.ps.drop (alh r r') := by rw [Nat.add_comm]; rfl
      rw [d1, d2, dro_cons, if_pos rfl, if_pos rfl, ih, Dro.up_up]
    · rw [if_neg h, List.drop_zero, List.drop_zero, ofPs_ps, ofPs_ps, Dro.up_zero]
theorem dro_deep : ∀ l o : Lad, (dro l o).deep ≤ 1 + l.deep
  | .nil, o => by show 1 ≤ 1 + 0; omega
  | .cons e m r, .nil => by rw [dro_nil_r]; show 1 ≤ _; omega
  | .cons e m r, .cons f n s => by
    have h1 := dro_deep r s
    have h2 := dro_deep e f
    have e1 : (Lad.cons e m r).deep = max (1 + e.deep) r.deep := rfl
    rw [dro_cons]
    split
    · split
      · have : ((dro r s).up 1).deep = (dro r s).deep := by cases dro r s <;> rfl
        omega
      · show 1 ≤ _; omega
    · show 1 + (dro e f).deep ≤ _; omega
def mrg : Lad → Lad → Lad
  | .nil, k => k
  | .cons e m r, .nil => .cons e m r
  | .cons e m r, .cons f n s => if e = f then .cons e (m + n) (mrg r s) else if e.lt f = true then .cons f n (mrg (.cons e m r) s) else .cons e m (mrg r (.cons f n s))
termination_by l k => l.len + k.len
decreasing_by all_goals (simp only [Lad.len]; omega)
theorem mrg_nil_r (l : Lad) : mrg l .nil = l := by cases l <;> simp [mrg]
theorem mrg_nil_l (l : Lad) : mrg .nil l = l := by rw [mrg]
theorem mrg_cons (e f : Lad) (m n : Int) (r s : Lad) : mrg (.cons e m r) (.cons f n s) = if e = f then .cons e (m + n) (mrg r s) else if e.lt f = true then .cons f n (mrg (.cons e m r) s) else .cons e m (mrg r (.cons f n s)) := by rw [mrg]
theorem mrg_size {l k : Lad} : (mrg l k).parts ≤ l.parts + k.parts ∧ (mrg l k).deep ≤ max l.deep k.deep := by
  fun_induction mrg l k with
  | case1 k => exact ⟨by omega, by omega⟩
  | case2 e m r => exact ⟨by omega, by omega⟩
  | case3 m r e n s ih =>
    obtain ⟨a, b⟩ := ih
    refine ⟨?_, ?_⟩
    · show 1 + e.parts + (mrg r s).parts ≤ (1 + e.parts + r.parts) + (1 + e.parts + s.parts); omega
    · show max (1 + e.deep) (mrg r s).deep ≤ max (max (1 + e.deep) r.deep) (max (1 + e.deep) s.deep); omega
  | case4 e m r f n s n1 n2 ih =>
    obtain ⟨a, b⟩ := ih
    have a' : (mrg (.cons e m r) s).parts ≤ (1 + e.parts + r.parts) + s.parts := a
    have b' : (mrg (.cons e m r) s).deep ≤ max (max (1 + e.deep) r.deep) s.deep := b
    refine ⟨?_, ?_⟩
    · show 1 + f.parts + (mrg (.cons e m r) s).parts ≤ (1 + e.parts + r.parts) + (1 + f.parts + s.parts); omega
    · show max (1 + f.deep) (mrg (.cons e m r) s).deep ≤ max (max (1 + e.deep) r.deep) (max (1 + f.deep) s.deep); omega
  | case5 e m r f n s n1 n2 ih =>
    obtain ⟨a, b⟩ := ih
    have a' : (mrg r (.cons f n s)).parts ≤ r.parts + (1 + f.parts + s.parts) := a
    have b' : (mrg r (.cons f n s)).deep ≤ max r.deep (max (1 + f.deep) s.deep) := b
    refine ⟨?_, ?_⟩
    · show 1 + e.parts + (mrg r (.cons f n s)).parts ≤ (1 + e.parts + r.parts) + (1 + f.parts + s.parts); omega
    · show max (1 + e.deep) (mrg r (.cons f n s)).deep ≤ max (max (1 + e.deep) r.deep) (max (1 + f.deep) s.deep); omega
end Lad
def rMax3 : List V → Hp → VK → Prop := fun xs H Q => ∃ i j k, xs = [.int i, .int j, .int k] ∧ ∀ m, Q (.int m) H
theorem call_max3 {X : Cx} (hc : X.calm = true) : CallR X (.builtin "max") rMax3 := by
  intro pins s σ H xs us Q I r h
  obtain ⟨i, j, k, rfl, q⟩ := h
  cases r with
  | cons r1 r =>
  cases r with
  | cons r2 r =>
  cases r with
  | cons r3 r =>
  cases r
  obtain ⟨t1, rfl⟩ := r1
  obtain ⟨t2, rfl⟩ := r2
  obtain ⟨t3, rfl⟩ := r3
  refine max_three_ints (I.ok.hd hc) fun h' tk kk => ?_
  by_cases h1 : j > i
  · by_cases h2 : k > j
    · simp only [h1, h2, if_true]
      exact ⟨.int k, H, I.kept kk, ⟨_, rfl⟩, q _⟩
    · simp only [h1, h2, if_true, if_false]
      exact ⟨.int j, H, I.kept kk, ⟨_, rfl⟩, q _⟩
  · by_cases h2 : k > i
    · simp only [h1, h2, if_true, if_false]
      exact ⟨.int k, H, I.kept kk, ⟨_, rfl⟩, q _⟩
    · simp only [h1, h2, if_false]
      exact ⟨.int i, H, I.kept kk, ⟨_, rfl⟩, q _⟩
def Lad.wid : Lad → Nat
  | .nil => 0
  | .cons e m r => max (1 + r.len) (max e.wid r.wid)
theorem Lad.wid_mem : ∀ (l : Lad) (p : Lad × Int), p ∈ l.ps → p.1.wid ≤ l.wid
  | .nil, p, h => nomatch h
  | .cons e m r, p, h => by
    show p.1.wid ≤ max (1 + r.len) (max e.wid r.wid)
    rcases List.mem_cons.mp h with h | h
    · rw [h]; show e.wid ≤ _; omega
    · have := Lad.wid_mem r p h; omega
theorem Lad.wid_len : ∀ l : Lad, l.ps.length ≤ l.wid
  | .nil => Nat.le_refl _
  | .cons e m r => by
    rw [Lad.ps_length]
    show 1 + r.len ≤ max (1 + r.len) (max e.wid r.wid)
    omega
theorem Lad.wid_le {n : Nat} : ∀ {ps : List (Lad × Int)}, ps.length ≤ n → (∀ p ∈ ps, p.1.wid ≤ n) → (Lad.ofPs ps).wid ≤ n
  | [], _, _ => Nat.zero_le _
  | (e, m) :: r, h, g => by
    have h' : r.length + 1 ≤ n := h
    have ih := Lad.wid_le (ps := r) (by omega) fun p hp => g p (List.mem_cons_of_mem _ hp)
    have h1 := g (e, m) (List.mem_cons_self ..)
    have h2 : (Lad.ofPs r).len = r.length := by rw [← Lad.ps_length, Lad.ps_ofPs]
    show max (1 + (Lad.ofPs r).len) (max e.wid (Lad.ofPs r).wid) ≤ n
    have h1' : e.wid ≤ n := h1
    omega
theorem Lad.wid_parts : ∀ l : Lad, l.wid ≤ l.parts
  | .nil => Nat.le_refl _
  | .cons e m r => by
    have h1 := Lad.wid_parts e
    have h2 := Lad.wid_parts r
    have h3 := r.len_parts
    have h4 := Lad.ps_length r
    show max (1 + r.len) (max e.wid r.wid) ≤ 1 + e.parts + r.parts
    omega
theorem Lad.deep_le {n : Nat} : ∀ {ps : List (Lad × Int)}, (∀ p ∈ ps, p.1.deep < n) → (Lad.ofPs ps).deep ≤ n
  | [], _ => Nat.zero_le _
  | (e, m) :: r, g => by
    have ih := Lad.deep_le (ps := r) fun p hp => g p (List.mem_cons_of_mem _ hp)
    have h1 : e.deep < n := g (e, m) (List.mem_cons_self ..)
    show max (1 + e.deep) (Lad.ofPs r).deep ≤ n
    omega
theorem Lad.parts_snoc : ∀ (ps : List (Lad × Int)) (p : Lad × Int), (Lad.ofPs (ps ++ [p])).parts = (Lad.ofPs ps).parts + (1 + p.1.parts)
  | [], (e, m) => by show 1 + e.parts + 0 = 0 + (1 + e.parts); omega
  | (f, n) :: r, p => by
    have ih := Lad.parts_snoc r p
    show 1 + f.parts + (Lad.ofPs (r ++ [p])).parts = 1 + f.parts + (Lad.ofPs r).parts + (1 + p.1.parts)
    omega
theorem Lad.deep_snoc : ∀ (ps : List (Lad × Int)) (p : Lad × Int), (Lad.ofPs (ps ++ [p])).deep = max (Lad.ofPs ps).deep (1 + p.1.deep)
  | [], (e, m) => by show max (1 + e.deep) 0 = max 0 (1 + e.deep); omega
  | (f, n) :: r, p => by
    have ih := Lad.deep_snoc r p
    show max (1 + f.deep) (Lad.ofPs (r ++ [p])).deep = max (max (1 + f.deep) (Lad.ofPs r).deep) (1 + p.1.deep)
    omega
def Lad.Nm (B : Int) : Lad → Prop
  | .nil => True
  | .cons e m r => (e.Nm B ∧ 1 ≤ m ∧ m < B) ∧ r.Nm B
theorem Lad.nm_iff {B : Int} : ∀ {ps : List (Lad × Int)}, (Lad.ofPs ps).Nm B ↔ ∀ p ∈ ps, p.1.Nm B ∧ 1 ≤ p.2 ∧ p.2 < B
  | [] => ⟨fun _ p hp => (nomatch hp), fun _ => trivial⟩
  | (e, m) :: r => by
    have ih := Lad.nm_iff (B := B) (ps := r)
    constructor
    · rintro ⟨h1, h2⟩ p hp
      rcases List.mem_cons.mp hp with hp | hp
      · rw [hp]; exact h1
      · exact ih.mp h2 p hp
    · intro h
      exact ⟨h (e, m) (List.mem_cons_self ..), ih.mpr fun p hp => h p (List.mem_cons_of_mem _ hp)⟩
theorem Lad.Nm.at {B : Int} {l : Lad} (h : l.Nm B) {p : Lad × Int} (hp : p ∈ l.ps) : p.1.Nm B ∧ 1 ≤ p.2 ∧ p.2 < B := by
  rw [← Lad.ofPs_ps l] at h
  exact Lad.nm_iff.mp h p hp
theorem Lad.mrg_nm {B T U : Int} {l k : Lad} : (∀ p ∈ l.ps, p.1.Nm B ∧ 1 ≤ p.2 ∧ p.2 < T) → (∀ p ∈ k.ps, p.1.Nm B ∧ 1 ≤ p.2 ∧ p.2 < U) → 1 ≤ T → 1 ≤ U → ∀ p ∈ (Lad.mrg l k).ps, p.1.Nm B ∧ 1 ≤ p.2 ∧ p.2 < T + U := by
  fun_induction Lad.mrg l k with
  | case1 k => exact fun _ h t u p hp => by obtain ⟨a, b, c⟩ := h p hp; exact ⟨a, b, by omega⟩
  | case2 e m r => exact fun h _ t u p hp => by obtain ⟨a, b, c⟩ := h p hp; exact ⟨a, b, by omega⟩
  | case3 m r e n s ih =>
    intro h g t u p hp
    rcases List.mem_cons.mp hp with hp | hp
    · obtain ⟨a, b, c⟩ := h (e, m) (List.mem_cons_self ..)
      obtain ⟨_, b', c'⟩ := g (e, n) (List.mem_cons_self ..)
      rw [hp]
      have b : 1 ≤ m := b
      have c : m < T := c
      have b' : 1 ≤ n := b'
      have c' : n < U := c'
      exact ⟨a, by show 1 ≤ m + n; omega, by show m + n < _; omega⟩
    · exact ih (fun p hp => h p (List.mem_cons_of_mem _ hp)) (fun p hp => g p (List.mem_cons_of_mem _ hp)) t u p hp
  | case4 e m r f n s h1 h2 ih =>
    intro h g t u p hp
    rcases List.mem_cons.mp hp with hp | hp
    · obtain ⟨a, b, c⟩ := g (f, n) (List.mem_cons_self ..)
      rw [hp]; exact ⟨a, b, by omega⟩
    · exact ih h (fun p hp => g p (List.mem_cons_of_mem _ hp)) t u p hp
  | case5 e m r f n s h1 h2 ih =>
    intro h g t u p hp
    rcases List.mem_cons.mp hp with hp | hp
    · obtain ⟨a, b, c⟩ := h (e, m) (List.mem_cons_self ..)
      rw [hp]; exact ⟨a, b, by omega⟩
    · exact ih (fun p hp => h p (List.mem_cons_of_mem _ hp)) g t u p hp
def spBothQ (K : PySem.W.Frag) : Sp := fun vs H Q _ => ∃ (v u : V) (l k : Lad), vs = [v, u] ∧ LA K H v l ∧ LA K H u k ∧ l.deep ≤ 25 ∧ k.deep ≤ 25 ∧ l.parts ≤ 5000 ∧ k.parts ≤ 5000 ∧ ∀ (x : V) (H' : Hp), SB [] H H' → LA K H' x (Lad.mrg l k) → Q x H'
/-- a lesser ladder, at most so deep, hardly wider -/
def spLessQ (K : PySem.W.Frag) (n : Nat) : Sp := fun vs H Q _ => ∃ (p : Addr) (v : V) (l : Lad) (t : Nat), vs = [.ref p, v, .int (t : Int)] ∧ PotA H p ∧ LA K H v l ∧ l ≠ .nil ∧ l.deep < n ∧ l.deep ≤ 20 ∧ l.Nm (2 ^ 240) ∧ t ≤ 3 ∧ l.wid + t ≤ 100 ∧ ∀ (x : V) (k : Lad) (H' : Hp), SB [p] H H' → PotA H' p → LA K H' x k → k.deep ≤ l.deep → k.wid ≤ l.wid + t → k.Nm (2 ^ 240) → Q x H'
def spSizesQ (K : PySem.W.Frag) (n : Nat) : Sp := fun vs H Q _ => ∃ (v : V) (l : Lad), vs = [v] ∧ LA K H v l ∧ l.deep < n ∧ l.deep ≤ 25 ∧ ∀ (d : Addr) (m : Int) (H' : Hp), SB [] H H' → H d = none → H' d = some (.lst [.int (l.parts : Nat), .int (l.deep : Nat), .int m]) → Q (.ref d) H'
def spGoalQ (K : PySem.W.Frag) : Sp := fun vs H Q _ => ∃ (p : Addr) (v : V) (l : Lad), vs = [.ref p, v] ∧ PotA H p ∧ LA K H v l ∧ l ≠ .nil ∧ l.deep ≤ 12 ∧ l.parts ≤ 60 ∧ l.Nm (2 ^ 240) ∧ ∀ (x : V) (k : Lad) (H' : Hp), SB [p] H H' → PotA H' p → LA K H' x k → k.deep ≤ 12 → k.parts ≤ 60 → Q x H'
/-- the drop from one ladder to a lesser one -/
def spDrop (K : PySem.W.Frag) (N : Addr) (n : Nat) : Sp := fun vs H Q E => ∃ (v u : V) (l k : Lad), vs = [v, u] ∧ LA K H v l ∧ LA K H u k ∧ l.deep < n ∧ l.deep ≤ 25 ∧ k.deep ≤ 25 ∧ l.parts ≤ 900 ∧ k.parts ≤ 900 ∧ (k.lt l = true → ∀ (x : V) (H' : Hp), SB [] H H' → Dp K H' x (Lad.dro l k).enc → Q x H') ∧ (k.lt l = false → ∀ H', SB [] H H' → E (.ref N) none H')
theorem Dro.noList : ∀ d : Dro, FT.noList d.enc = true
  | .fin i => by simp [Dro.enc, FT.noList, noLists]
  | .man i => by simp [Dro.enc, FT.noList, noLists]
  | .ex i d => by simp [Dro.enc, FT.noList, noLists, Dro.noList d]
end FT
namespace FT
open PySem PySem.W PySem.Spec PyProof.Rows L2
section
open SeqAt MeetsSeq MeetsSeq2 MeetsSeq3
open AutoSeq1 (wpAny_loadPart')
theorem str_ne_dict (b : Str) (u : Tok) (l : Addr) (es : Array DictEntry) (ep : Nat) (dd : Option Addr) (sl : Array (Option Value)) :
    Meets (Builtin.«str.__ne__» ⟨[.str b u, .ref l], []⟩) (fun _ R s => s.heap.get? l = some { cls := .type "dict", dict := dd, data := .dict es ep, slots := sl } ∧ R (.ok (.ret .notImplemented)) s) :=
  .of_wp fun prog w A R s h => by
    obtain ⟨hp, g, d, tk, os⟩ := s; obtain ⟨hl, h⟩ := h
    wp_walk using wpAny_loadPart' hl, wpAny_load hl
    exact ⟨_, rfl, h⟩
theorem ne_dict_str {prog : Program} {w : World} {K : Type} [DecidableEq K] {knd : KeyKind prog w K} {A : Around} {E : Value → Shared → Prop} {s : Shared} {a : Addr} {ka : List (K × Value)} {Q : Value → Shared → Prop} (da : s.heap.DictOf knd a ka) (b : Str) (u : Tok) (hu : A.units < cLine)
    (h : Q (.bool true) s) : wpAny (model prog w) A (compareOp .NotEq (.ref a) (.str b u)) Q E s := by
  obtain ⟨⟨cls, dd, data, sl⟩, es, ep, ho, ⟨hc, hdd, hsl⟩, hd, _⟩ := id da
  simp only at hc hd
  subst hc hd
  refine rc_ne_decline_or (k := false) da.typeIs (typeIs_str s b u) (by decide) F.sub_str_dict F.slot_dict_ne F.slot_str_ne_refl
    (fun Q' hq => wpAny_call_entry F.slot_dict_ne da.typeIs F.entry_dict_ne ?_ (F.args_dict_ne_2 _ _))
    (fun Q' hq => call_meets F.slot_str_ne_refl (typeIs_str s b u) F.entry_str_ne (F.args_str_ne_2 _ _) (str_ne_dict b u a es ep dd sl) ⟨ho, hq⟩)
    (fun _ hq => wpAny_of_eq (rfl : isSame (.ref a) (.str b u) = pure false) hq) (.inr hu) h
  show wpAny _ _ (Builtin.Dict.dictSlotArgs "__ne__" ⟨[.ref a, .str b u], []⟩ >>= _) _ _ s
  refine wpAny_bind ?_
  unfold Builtin.Dict.dictSlotArgs
  refine wpAny_bind (wpAny_notOrdered_dict da.typeIs ?_)
  show wpAny _ _ (pure (Value.ref a, Value.str b u)) _ _ s
  refine wpAny_pure ?_
  refine wpAny_bind (wpAny_isInstance (T := "str") (typeIs_str s b u) F.sub_str_dict ?_)
  simp only [Bool.not_false, if_true]
  refine wpAny_bind (wpAny_rule ?_)
  refine wpAny_bind (wpAny_pure ?_)
  exact wpAny_pure ⟨_, rfl, hq⟩
end
inductive Ot (K : PySem.W.Frag) (H : Hp) : V → Prop
  | non : Ot K H .non
  | bl (b : Bool) : Ot K H (.bl b)
  | int (i : Int) : Ot K H (.int i)
  | lst {a : Addr} {xs : List V} : SqL K H a xs → Ot K H (.ref a)
  | tup {a : Addr} {xs : List V} : SqT K H a xs → Ot K H (.ref a)
  | dct {a : Addr} {ks : List (Key × V)} : H a = some (.dK ks) → Ot K H (.ref a)
def rNeS (K : PySem.W.Frag) : R2 := fun x y H Q => ∃ t, y = .str t ∧ ((∃ s, x = .str s ∧ Q (.bl (!decide (s = t))) H) ∨ (Ot K H x ∧ Q (.bl true) H))
section
variable {X : Cx}
theorem op_neS (hu : X.A.units + 64 < cLine) : OpR X (compareOp .NotEq) (rNeS X.K) := by
  intro pins st H0 H x y v u Q I rx ry h
  obtain ⟨t, rfl, h⟩ := h
  obtain ⟨ut, rfl⟩ := ry
  have hu' : X.A.units < cLine := by omega
  rcases h with ⟨s, rfl, q⟩ | ⟨o, q⟩
  · obtain ⟨us, rfl⟩ := rx
    refine SeqAt.RcNeAt.str_str s us t ut _ _ _ _ ⟨.bl _, H, I, ?_, q⟩
    show Value.bool _ = Value.bool _
    by_cases e : s = t
    · subst e; simp
    · simp [e]
  · cases o with
    | non => cases rx; exact SeqAt.RcNeAt.none_str t ut _ _ _ _ ⟨.bl _, _, I, rfl, q⟩
    | bl b => cases rx; exact SeqAt.RcNeAt.bool_str b t ut _ _ _ _ ⟨.bl _, _, I, rfl, q⟩
    | int i =>
      obtain ⟨ui, rfl⟩ := rx
      exact SeqAt.RcNeAt.int_str i ui t ut _ _ _ _ ⟨.bl _, _, I, rfl, q⟩
    | lst hs =>
      cases rx
      obtain ⟨its, rv, ⟨o, n, ho, hc, _, hd⟩, _⟩ := I.list hs
      exact SeqAt.RcNeAt.list_str t ut ⟨o, ho, hc, n, hd⟩ hu' _ _ _ _ ⟨.bl _, _, I, rfl, q⟩
    | tup hs =>
      cases rx
      obtain ⟨its, rv, ht, _⟩ := I.tuple hs
      exact SeqAt.RcNeAt.tuple_str t ut ht hu' _ _ _ _ ⟨.bl _, _, I, rfl, q⟩
    | @dct a ks e =>
      cases rx
      obtain ⟨_, ya, va, ra, da⟩ := (show ObjOk X.prog X.w H _ a (.dK ks) from I.hok a _ e)
      exact ne_dict_str da t ut hu' ⟨.bl _, _, I, rfl, q⟩
end
inductive Any (K : PySem.W.Frag) (H : Hp) : V → Prop
  | non : Any K H .non
  | bl (b : Bool) : Any K H (.bl b)
  | int (i : Int) : Any K H (.int i)
  | str (s : Str) : Any K H (.str s)
  | lst {a : Addr} {xs : List V} : H a = some (.lst xs) → Any K H (.ref a)
  | dct {a : Addr} {ks : List (Key × V)} : H a = some (.dK ks) → Any K H (.ref a)
  | tup {a : Addr} {xs : List V} : SqT K H a xs → (∀ x ∈ xs, Any K H x) → Any K H (.ref a)
theorem Any.sb {K : PySem.W.Frag} {H H' : Hp} {v : V} (h : Any K H v) (s : SB [] H H') : Any K H' v := by
  induction h with
  | non => exact .non
  | bl b => exact .bl b
  | int i => exact .int i
  | str z => exact .str z
  | lst e => exact .lst (s.keep _ _ e List.not_mem_nil)
  | dct e => exact .dct (s.keep _ _ e List.not_mem_nil)
  | tup h _ ih => exact .tup (s.sqT h) ih
namespace Dro
def len : Dro → Nat
  | fin _ => 2
  | man _ => 2
  | ex _ _ => 3
end Dro
inductive Nw (K : PySem.W.Frag) (H : Hp) (s : Str) : V → Prop
  | str {t : Str} : t ≠ s → Nw K H s (.str t)
  | oth {x : V} {n : String} : TyX K H x (.type n) → kitB n "str" = some false → Ot K H x → Nw K H s x
inductive Nn (K : PySem.W.Frag) (H : Hp) (i : Int) : V → Prop
  | int {j : Int} : j ≠ i → Nn K H i (.int j)
  | oth {x : V} {n : String} {b : Bool} : TyX K H x (.type n) → kitB n "int" = some b → (b = true → kitB n "bool" = some true) → Nn K H i x
inductive Lk (K : PySem.W.Frag) (H : Hp) : Dro → V → Bool → Prop
  | no {d : Dro} {v : V} {n : String} : TyX K H v (.type n) → kitB n "tuple" = some false → Lk K H d v false
  | len {d : Dro} {a : Addr} {xs : List V} : SqT K H a xs → xs.length ≠ d.len → Lk K H d (.ref a) false
  | word {d : Dro} {a : Addr} {x : V} {xs : List V} : SqT K H a (x :: xs) → xs.length + 1 = d.len → Nw K H d.word x → Lk K H d (.ref a) false
  | num {d : Dro} {a : Addr} {y : V} {xs : List V} : SqT K H a (.str d.word :: y :: xs) → xs.length + 2 = d.len → Nn K H d.ix y → Lk K H d (.ref a) false
  | fin {i : Nat} {a : Addr} : SqT K H a [.str "end", .int (i : Int)] → Lk K H (.fin i) (.ref a) true
  | man {i : Nat} {a : Addr} : SqT K H a [.str "many", .int (i : Int)] → Lk K H (.man i) (.ref a) true
  | ex {i : Nat} {d : Dro} {a : Addr} {y : V} {b : Bool} : SqT K H a [.str "exponent", .int (i : Int), y] → Lk K H d y b → Lk K H (.ex i d) (.ref a) b
section
variable {K : PySem.W.Frag} {H H' : Hp}
theorem Ot.sb {v : V} (h : Ot K H v) (s : SB [] H H') : Ot K H' v := by
  cases h with
  | non => exact .non
  | bl b => exact .bl b
  | int i => exact .int i
  | lst e => exact .lst (s.sqL List.not_mem_nil e)
  | tup e => exact .tup (s.sqT e)
  | dct e => exact .dct (s.keep _ _ e List.not_mem_nil)
theorem Lk.sb {d : Dro} {v : V} {b : Bool} (h : Lk K H d v b) (s : SB [] H H') : Lk K H' d v b := by
  induction h with
  | no t k => exact .no (TyX_sb s (fun _ _ => List.not_mem_nil) t) k
  | len h l => exact .len (s.sqT h) l
  | word h l w =>
    refine .word (s.sqT h) l ?_
    cases w with
    | str e => exact .str e
    | oth t k o => exact .oth (TyX_sb s (fun _ _ => List.not_mem_nil) t) k (o.sb s)
  | num h l w =>
    refine .num (s.sqT h) l ?_
    cases w with
    | int e => exact .int e
    | oth t k o => exact .oth (TyX_sb s (fun _ _ => List.not_mem_nil) t) k o
  | fin h => exact .fin (s.sqT h)
  | man h => exact .man (s.sqT h)
  | ex h _ ih => exact .ex (s.sqT h) ih
theorem nw_any {s : Str} {x : V} (h : Any K H x) : Nw K H s x ∨ x = .str s := by
  cases h with
  | non => exact .inl (.oth (.base .non) (by decide +kernel) .non)
  | bl b => exact .inl (.oth (.base (.bl b)) (by decide +kernel) (.bl b))
  | int i => exact .inl (.oth (.base (.int i)) (by decide +kernel) (.int i))
  | str z =>
    by_cases e : z = s
    · exact .inr (by rw [e])
    · exact .inl (.str e)
  | lst e => exact .inl (.oth (.base (.lst e)) (by decide +kernel) (.lst (SqL.of e)))
  | dct e => exact .inl (.oth (.base (.dK e)) (by decide +kernel) (.dct e))
  | tup e _ => exact .inl (.oth (SqT_ty e) (by decide +kernel) (.tup e))
theorem nn_any {i : Int} {x : V} (h : Any K H x) : Nn K H i x ∨ x = .int i := by
  cases h with
  | non => exact .inl (.oth (b := false) (.base .non) (by decide +kernel) (fun z => nomatch z))
  | bl b => exact .inl (.oth (b := true) (.base (.bl b)) (by decide +kernel) (fun _ => by decide +kernel))
  | int j =>
    by_cases e : j = i
    · exact .inr (by rw [e])
    · exact .inl (.int e)
  | str z => exact .inl (.oth (b := false) (.base (.str z)) (by decide +kernel) (fun z => nomatch z))
  | lst e => exact .inl (.oth (b := false) (.base (.lst e)) (by decide +kernel) (fun z => nomatch z))
  | dct e => exact .inl (.oth (b := false) (.base (.dK e)) (by decide +kernel) (fun z => nomatch z))
  | tup e _ => exact .inl (.oth (b := false) (SqT_ty e) (by decide +kernel) (fun z => nomatch z))
theorem lk_head {d : Dro} {a : Addr} {xs : List V} (hs : SqT K H a xs) (hx : ∀ x ∈ xs, Any K H x) (hl : xs.length = d.len) : Lk K H d (.ref a) false ∨ ∃ r, xs = .str d.word :: .int (d.ix : Nat) :: r := by
  match xs, hl with
  | [], hl => exact absurd hl (by cases d <;> simp [Dro.len])
  | [_], hl => exact absurd hl (by cases d <;> simp [Dro.len])
  | x :: y :: r, hl =>
    rcases nw_any (s := d.word) (hx x List.mem_cons_self) with h | rfl
    · exact .inl (.word hs (by simpa using hl) h)
    · rcases nn_any (i := (d.ix : Nat)) (hx y (List.mem_cons_of_mem _ List.mem_cons_self)) with h | rfl
      · exact .inl (.num hs (by simpa using hl) h)
      · exact .inr ⟨r, rfl⟩
theorem lk_any : ∀ (d : Dro) (v : V), Any K H v → ∃ b, Lk K H d v b := by
  intro d
  induction d with
  | fin i =>
    intro v h
    cases h with
    | non => exact ⟨_, .no (.base .non) (by decide +kernel)⟩
    | bl b => exact ⟨_, .no (.base (.bl b)) (by decide +kernel)⟩
    | int i => exact ⟨_, .no (.base (.int i)) (by decide +kernel)⟩
    | str z => exact ⟨_, .no (.base (.str z)) (by decide +kernel)⟩
    | lst e => exact ⟨_, .no (.base (.lst e)) (by decide +kernel)⟩
    | dct e => exact ⟨_, .no (.base (.dK e)) (by decide +kernel)⟩
    | @tup a xs hs hx =>
      by_cases hl : xs.length = (Dro.fin i).len
      · rcases lk_head hs hx hl with h | ⟨r, rfl⟩
        · exact ⟨_, h⟩
        · match r, hl with
          | [], _ => exact ⟨_, .fin hs⟩
      · exact ⟨_, .len hs hl⟩
  | man i =>
    intro v h
    cases h with
    | non => exact ⟨_, .no (.base .non) (by decide +kernel)⟩
    | bl b => exact ⟨_, .no (.base (.bl b)) (by decide +kernel)⟩
    | int i => exact ⟨_, .no (.base (.int i)) (by decide +kernel)⟩
    | str z => exact ⟨_, .no (.base (.str z)) (by decide +kernel)⟩
    | lst e => exact ⟨_, .no (.base (.lst e)) (by decide +kernel)⟩
    | dct e => exact ⟨_, .no (.base (.dK e)) (by decide +kernel)⟩
    | @tup a xs hs hx =>
      by_cases hl : xs.length = (Dro.man i).len
      · rcases lk_head hs hx hl with h | ⟨r, rfl⟩
        · exact ⟨_, h⟩
        · match r, hl with
          | [], _ => exact ⟨_, .man hs⟩
      · exact ⟨_, .len hs hl⟩
  | ex i d ih =>
    intro v h
    cases h with
    | non => exact ⟨_, .no (.base .non) (by decide +kernel)⟩
    | bl b => exact ⟨_, .no (.base (.bl b)) (by decide +kernel)⟩
    | int i => exact ⟨_, .no (.base (.int i)) (by decide +kernel)⟩
    | str z => exact ⟨_, .no (.base (.str z)) (by decide +kernel)⟩
    | lst e => exact ⟨_, .no (.base (.lst e)) (by decide +kernel)⟩
    | dct e => exact ⟨_, .no (.base (.dK e)) (by decide +kernel)⟩
    | @tup a xs hs hx =>
      by_cases hl : xs.length = (Dro.ex i d).len
      · rcases lk_head hs hx hl with h | ⟨r, rfl⟩
        · exact ⟨_, h⟩
        · match r, hl with
          | [y], _ =>
            obtain ⟨b, hb⟩ := ih y (hx y (by simp))
            exact ⟨b, .ex hs hb⟩
      · exact ⟨_, .len hs hl⟩
/-- what a told drop is laid as -/
theorem dro_sq : ∀ {v : V} {d : Dro}, Dp K H v d.enc → ∃ A ts, v = .ref A ∧ SqT K H A ts ∧ ts.length = d.len ∧ atI ts 0 = some (.str d.word) ∧ atI ts 1 = some (.int (d.ix : Nat)) ∧ (∀ i e, d = .ex i e → ∃ y, ts = [.str "exponent", .int (i : Nat), y] ∧ Dp K H y e.enc) ∧ ∀ x ∈ ts, (∃ s, x = .str s) ∨ (∃ i, x = .int i) ∨ ∃ e : Dro, Dp K H x e.enc := by
  intro v d h
  cases d with
  | fin i =>
    cases h with
    | tup hs hd =>
      cases hd with
      | cons h1 hd =>
      cases hd with
      | cons h2 hd =>
      cases hd
      cases h1
      cases h2
      exact ⟨_, _, rfl, hs, rfl, rfl, rfl, fun i e z => (nomatch z), fun x hx => by
        rcases List.mem_cons.mp hx with rfl | hx
        · exact .inl ⟨_, rfl⟩
        rcases List.mem_cons.mp hx with rfl | hx
        · exact .inr (.inl ⟨_, rfl⟩)
        · cases hx⟩
  | man i =>
    cases h with
    | tup hs hd =>
      cases hd with
      | cons h1 hd =>
      cases hd with
      | cons h2 hd =>
      cases hd
      cases h1
      cases h2
      exact ⟨_, _, rfl, hs, rfl, rfl, rfl, fun i e z => (nomatch z), fun x hx => by
        rcases List.mem_cons.mp hx with rfl | hx
        · exact .inl ⟨_, rfl⟩
        rcases List.mem_cons.mp hx with rfl | hx
        · exact .inr (.inl ⟨_, rfl⟩)
        · cases hx⟩
  | ex i e =>
    cases h with
    | tup hs hd =>
      cases hd with
      | cons h1 hd =>
      cases hd with
      | cons h2 hd =>
      cases hd with
      | cons h3 hd =>
      cases hd
      cases h1
      cases h2
      exact ⟨_, _, rfl, hs, rfl, rfl, rfl, fun i' e' z => by injection z with z1 z2; subst z1 z2; exact ⟨_, rfl, h3⟩, fun x hx => by
        rcases List.mem_cons.mp hx with rfl | hx
        · exact .inl ⟨_, rfl⟩
        rcases List.mem_cons.mp hx with rfl | hx
        · exact .inr (.inl ⟨_, rfl⟩)
        rcases List.mem_cons.mp hx with rfl | hx
        · exact .inr (.inr ⟨_, h3⟩)
        · cases hx⟩
theorem any_dro : ∀ (d : Dro) {v : V}, Dp K H v d.enc → Any K H v := by
  intro d
  induction d with
  | fin i =>
    intro v h
    cases h with
    | tup hs hd =>
      cases hd with
      | cons h1 hd =>
      cases hd with
      | cons h2 hd =>
      cases hd
      cases h1
      cases h2
      exact .tup hs (by simp only [List.forall_mem_cons]; exact ⟨.str _, .int _, fun x hx => by cases hx⟩)
  | man i =>
    intro v h
    cases h with
    | tup hs hd =>
      cases hd with
      | cons h1 hd =>
      cases hd with
      | cons h2 hd =>
      cases hd
      cases h1
      cases h2
      exact .tup hs (by simp only [List.forall_mem_cons]; exact ⟨.str _, .int _, fun x hx => by cases hx⟩)
  | ex i e ih =>
    intro v h
    cases h with
    | tup hs hd =>
      cases hd with
      | cons h1 hd =>
      cases hd with
      | cons h2 hd =>
      cases hd with
      | cons h3 hd =>
      cases hd
      cases h1
      cases h2
      exact .tup hs (by simp only [List.forall_mem_cons]; exact ⟨.str _, .int _, ih h3, fun x hx => by cases hx⟩)
/-- things that were laid, one behind the other -/
def AnyAll (K : PySem.W.Frag) (H : Hp) (xs : List V) : Prop := ∀ x ∈ xs, Any K H x
theorem AnyAll.sb {xs : List V} (h : AnyAll K H xs) (s : SB [] H H') : AnyAll K H' xs := fun x hx => (h x hx).sb s
theorem AnyAll.nil : AnyAll K H [] := fun x hx => by cases hx
theorem AnyAll.cons {x : V} {xs : List V} (h : Any K H x) (g : AnyAll K H xs) : AnyAll K H (x :: xs) := fun y hy => by
  rcases List.mem_cons.mp hy with rfl | hy
  · exact h
  · exact g y hy
theorem AnyAll.app {xs ys : List V} (h : AnyAll K H xs) (g : AnyAll K H ys) : AnyAll K H (xs ++ ys) := fun y hy => by
  rcases List.mem_append.mp hy with hy | hy
  · exact h y hy
  · exact g y hy
end
theorem AnyAll.cut {K : PySem.W.Frag} {H : Hp} {xs : List V} (h : AnyAll K H xs) (lo hi : Option Int) : AnyAll K H (cutV xs lo hi) := fun x hx => by
  unfold cutV at hx
  exact h x (List.mem_of_mem_drop (List.mem_of_mem_take hx))
theorem atI_mem {xs : List V} {i : Int} (h0 : 0 ≤ i) (h1 : i < xs.length) : ∃ v, atI xs i = some v ∧ v ∈ xs := by
  obtain ⟨j, rfl⟩ : ∃ j : Nat, i = (j : Int) := ⟨i.toNat, by omega⟩
  have hj : j < xs.length := by omega
  exact ⟨xs[j], atI_nat (List.getElem?_eq_getElem hj), List.getElem_mem hj⟩
/-- what is known while things are laid -/
structure Mk51 (K : PySem.W.Frag) (H : Hp) (A : Addr) (ts : List V) (R : Addr) (rs : List V) (D : List V) : Prop where
  hA : SqT K H A ts
  hR : SqT K H R rs
  aT : AnyAll K H ts
  aR : AnyAll K H rs
  D : AnyAll K H D
  lR : rs.length ≤ 3
theorem Mk51.sb {K : PySem.W.Frag} {H H' : Hp} {A : Addr} {ts : List V} {R : Addr} {rs : List V} {D : List V} (h : Mk51 K H A ts R rs D) (s : SB [] H H') : Mk51 K H' A ts R rs D :=
  ⟨s.sqT h.hA, s.sqT h.hR, h.aT.sb s, h.aR.sb s, h.D.sb s, h.lR⟩
theorem Mk51.add {K : PySem.W.Frag} {H : Hp} {A : Addr} {ts : List V} {R : Addr} {rs : List V} {D : List V} (h : Mk51 K H A ts R rs D) {x : V} (g : Any K H x) : Mk51 K H A ts R rs (x :: D) :=
  ⟨h.hA, h.hR, h.aT, h.aR, AnyAll.cons g h.D, h.lR⟩
namespace Dro
def bg (N : Nat) : Dro → Prop
  | fin i => i ≤ N
  | man i => i ≤ N
  | ex i d => i ≤ N ∧ d.bg N
theorem bg_mono {N M : Nat} (h : N ≤ M) : ∀ d : Dro, d.bg N → d.bg M
  | fin i, g => Nat.le_trans g h
  | man i, g => Nat.le_trans g h
  | ex i d, g => ⟨Nat.le_trans g.1 h, bg_mono h d g.2⟩
theorem bg_up {N : Nat} : ∀ d : Dro, d.bg N → (d.up 1).bg (N + 1)
  | fin i, g => Nat.succ_le_succ g
  | man i, g => Nat.succ_le_succ g
  | ex i d, g => ⟨Nat.succ_le_succ g.1, bg_mono (Nat.le_succ N) d g.2⟩
theorem bg_ix {N : Nat} {d : Dro} (h : d.bg N) : d.ix ≤ N := by
  cases d with
  | fin i => exact h
  | man i => exact h
  | ex i d => exact h.1
end Dro
theorem Lad.dro_bg : ∀ (l k : Lad) (N : Nat), l.parts ≤ N → (Lad.dro l k).bg N
  | .nil, k, N, h => Nat.zero_le _
  | .cons e m r, .nil, N, h => by rw [Lad.dro_nil_r]; exact Nat.zero_le _
  | .cons e m r, .cons f n s, N, h => by
    have hp : 1 + e.parts + r.parts ≤ N := h
    rw [Lad.dro_cons]
    split
    · split
      · obtain ⟨M, rfl⟩ : ∃ M, N = M + 1 := ⟨N - 1, by omega⟩
        exact Dro.bg_up _ (Lad.dro_bg r s M (by omega))
      · exact Nat.zero_le _
    · exact ⟨Nat.zero_le _, Lad.dro_bg e f N (by omega)⟩
theorem Lad.mrg_ne {l k : Lad} (h : k ≠ .nil) : Lad.mrg l k ≠ .nil := by
  cases l with
  | nil => rw [Lad.mrg_nil_l]; exact h
  | cons e m r =>
    cases k with
    | nil => exact absurd rfl h
    | cons f n s =>
      rw [Lad.mrg_cons]
      split
      · exact fun z => nomatch z
      · split
        · exact fun z => nomatch z
        · exact fun z => nomatch z
theorem dro_pr {K : PySem.W.Frag} {H : Hp} {v : V} {s : Str} {i : Int} (h : Dp K H v (.tuple [.str s, .int i])) : ∃ A, v = .ref A ∧ SqT K H A [.str s, .int i] := by
  cases h with
  | tup hs hd =>
    cases hd with
    | cons h1 hd =>
    cases hd with
    | cons h2 hd =>
    cases hd
    cases h1
    cases h2
    exact ⟨_, rfl, hs⟩
theorem dro_tr {K : PySem.W.Frag} {H : Hp} {v : V} {s : Str} {i : Int} {d : PyData} (h : Dp K H v (.tuple [.str s, .int i, d])) : ∃ A y, v = .ref A ∧ SqT K H A [.str s, .int i, y] ∧ Dp K H y d := by
  cases h with
  | tup hs hd =>
    cases hd with
    | cons h1 hd =>
    cases hd with
    | cons h2 hd =>
    cases hd with
    | cons h3 hd =>
    cases hd
    cases h1
    cases h2
    exact ⟨_, _, rfl, hs, h3⟩
def spLike51 (K : PySem.W.Frag) (n : Nat) : Sp := fun vs H Q _ => ∃ (v u : V) (d : Dro) (b : Bool), vs = [v, u] ∧ Dp K H v d.enc ∧ Lk K H d u b ∧ d.deep < n ∧ ∀ H', SB [] H H' → Q (.bl b) H'
def spSame51 (K : PySem.W.Frag) (n : Nat) : Sp := fun vs H Q _ => ∃ (v u : V) (d : Dro) (b : Bool), vs = [u, v] ∧ Dp K H v d.enc ∧ Lk K H d u b ∧ d.deep < n ∧ ∀ H', SB [] H H' → Q (.bl b) H'
def spIsDrop51 (K : PySem.W.Frag) : Sp := fun vs H Q _ => ∃ (v u w : V) (l k : Lad), vs = [v, u, w] ∧ LA K H v l ∧ LA K H u k ∧ l.deep ≤ 25 ∧ k.deep ≤ 25 ∧ l.parts ≤ 900 ∧ k.parts ≤ 900 ∧ (k.lt l = false → ∀ H', SB [] H H' → Q (.bl false) H') ∧ (k.lt l = true → ∃ b, Lk K H (Lad.dro l k) w b ∧ ∀ H', SB [] H H' → Q (.bl b) H')
def spSpoilt51 (K : PySem.W.Frag) (n : Nat) : Sp := fun vs H Q _ => ∃ (p : Addr) (y : V) (d : Dro), vs = [.ref p, y] ∧ PotA H p ∧ Dp K H y d.enc ∧ d.deep < n ∧ d.bg 1000 ∧ ∀ (x : V) (H' : Hp), SB [p] H H' → PotA H' p → Any K H' x → Q x H'
def spOthers51 (K : PySem.W.Frag) : Sp := fun vs H Q _ => ∃ (y : V) (d : Dro), vs = [y] ∧ Dp K H y d.enc ∧ ∀ (a : Addr) (xs : List V) (H' : Hp), SB [] H H' → H' a = some (.lst xs) → AnyAll K H' xs → xs.length ≤ 30 → Q (.ref a) H'
def spDropE (K : PySem.W.Frag) (n : Nat) : Sp := fun vs H Q _ => ∃ (v u : V) (l k : Lad), vs = [v, u] ∧ LA K H v l ∧ LA K H u k ∧ l.deep < n ∧ l.deep ≤ 25 ∧ k.deep ≤ 25 ∧ l.parts ≤ 900 ∧ k.parts ≤ 900 ∧ (k.lt l = true ∨ l = k) ∧ ∀ (x : V) (H' : Hp), SB [] H H' → Dp K H' x (Lad.dro l k).enc → Q x H'
def spLadE (K : PySem.W.Frag) (n : Nat) : Sp := fun vs H Q _ => ∃ (p : Addr) (m : Nat), vs = [.ref p, .int (m : Int)] ∧ PotA H p ∧ m < n ∧ m ≤ 12 ∧ ∀ (v : V) (l : Lad) (H' : Hp), SB [p] H H' → PotA H' p → LA K H' v l → l.parts ≤ m → l.deep ≤ m → l.Nm (2 ^ 240) → (1 ≤ m → l ≠ .nil) → Q v H'
end FT
namespace FT
open PySem PySem.W PySem.Spec PyProof.Rows L2
def top (i : Nat) : Stmt := PySem.Challenge.pw_felltimber_k51_drops_read.main.body.getD i (.Pass ⟨0, 0, 0, 0⟩)
abbrev s_is_whole : Stmt := top 1
abbrev s_is_less : Stmt := top 6
abbrev s_alike_ahead : Stmt := top 7
abbrev s_drop : Stmt := top 9
abbrev s_is_drop : Stmt := top 10
abbrev s_is_like : Stmt := top 11
abbrev s__law_pot : Stmt := top 13
abbrev s__law_take : Stmt := top 14
abbrev s__law_less : Stmt := top 15
abbrev s__law_behind : Stmt := top 16
abbrev s__law_both : Stmt := top 17
abbrev s__law_ladder : Stmt := top 18
abbrev s__law_lesser : Stmt := top 19
abbrev s__law_sizes : Stmt := top 20
abbrev s__law_goal : Stmt := top 21
abbrev s__law_drop : Stmt := top 22
abbrev s__law_same_here : Stmt := top 23
abbrev s__law_spoilt : Stmt := top 24
abbrev s__law_truth : Stmt := top 25
abbrev s__law_others : Stmt := top 26
abbrev s_law : Stmt := top 27
end FT
namespace FT
open PySem PySem.W PySem.Spec PyProof.Rows L2
def d_is_whole : He.DefD := ⟨("is_whole", none), "is_whole", "is_whole", defArgs s_is_whole, defBody s_is_whole, defScope s_is_whole, [], []⟩
def d_is_less : He.DefD := ⟨("is_less", none), "is_less", "is_less", defArgs s_is_less, defBody s_is_less, defScope s_is_less, [], []⟩
def d_alike_ahead : He.DefD := ⟨("alike_ahead", none), "alike_ahead", "alike_ahead", defArgs s_alike_ahead, defBody s_alike_ahead, defScope s_alike_ahead, [], []⟩
def d_drop : He.DefD := ⟨("drop", none), "drop", "drop", defArgs s_drop, defBody s_drop, defScope s_drop, [], []⟩
def d_is_drop : He.DefD := ⟨("is_drop", none), "is_drop", "is_drop", defArgs s_is_drop, defBody s_is_drop, defScope s_is_drop, [], []⟩
def d_is_like : He.DefD := ⟨("is_like", none), "is_like", "is_like", defArgs s_is_like, defBody s_is_like, defScope s_is_like, [], []⟩
def d__law_pot : He.DefD := ⟨("_law_pot", none), "_law_pot", "_law_pot", defArgs s__law_pot, defBody s__law_pot, defScope s__law_pot, [], []⟩
def d__law_take : He.DefD := ⟨("_law_take", none), "_law_take", "_law_take", defArgs s__law_take, defBody s__law_take, defScope s__law_take, [], []⟩
def d__law_less : He.DefD := ⟨("_law_less", none), "_law_less", "_law_less", defArgs s__law_less, defBody s__law_less, defScope s__law_less, [], []⟩
def d__law_behind : He.DefD := ⟨("_law_behind", none), "_law_behind", "_law_behind", defArgs s__law_behind, defBody s__law_behind, defScope s__law_behind, [], []⟩
def d__law_both : He.DefD := ⟨("_law_both", none), "_law_both", "_law_both", defArgs s__law_both, defBody s__law_both, defScope s__law_both, [], []⟩
def d__law_ladder : He.DefD := ⟨("_law_ladder", none), "_law_ladder", "_law_ladder", defArgs s__law_ladder, defBody s__law_ladder, defScope s__law_ladder, [], []⟩
def d__law_lesser : He.DefD := ⟨("_law_lesser", none), "_law_lesser", "_law_lesser", defArgs s__law_lesser, defBody s__law_lesser, defScope s__law_lesser, [], []⟩
def d__law_sizes : He.DefD := ⟨("_law_sizes", none), "_law_sizes", "_law_sizes", defArgs s__law_sizes, defBody s__law_sizes, defScope s__law_sizes, [], []⟩
def d__law_goal : He.DefD := ⟨("_law_goal", none), "_law_goal", "_law_goal", defArgs s__law_goal, defBody s__law_goal, defScope s__law_goal, [], []⟩
def d__law_drop : He.DefD := ⟨("_law_drop", none), "_law_drop", "_law_drop", defArgs s__law_drop, defBody s__law_drop, defScope s__law_drop, [], []⟩
def d__law_same_here : He.DefD := ⟨("_law_same_here", none), "_law_same_here", "_law_same_here", defArgs s__law_same_here, defBody s__law_same_here, defScope s__law_same_here, [], []⟩
def d__law_spoilt : He.DefD := ⟨("_law_spoilt", none), "_law_spoilt", "_law_spoilt", defArgs s__law_spoilt, defBody s__law_spoilt, defScope s__law_spoilt, [], []⟩
def d__law_truth : He.DefD := ⟨("_law_truth", none), "_law_truth", "_law_truth", defArgs s__law_truth, defBody s__law_truth, defScope s__law_truth, [], []⟩
def d__law_others : He.DefD := ⟨("_law_others", none), "_law_others", "_law_others", defArgs s__law_others, defBody s__law_others, defScope s__law_others, [], []⟩
def d_law : He.DefD := ⟨("law", none), "law", "law", defArgs s_law, defBody s_law, defScope s_law, [], []⟩
def fn : List He.DefD := [d_is_whole, d_is_less, d_alike_ahead, d_drop, d_is_drop, d_is_like, d__law_pot, d__law_take, d__law_less, d__law_behind, d__law_both, d__law_ladder, d__law_lesser, d__law_sizes, d__law_goal, d__law_drop, d__law_same_here, d__law_spoilt, d__law_truth, d__law_others, d_law]
def fa1 : List He.Fa := [.glo "is_whole", .glo "is_less", .glo "alike_ahead", .glo "drop", .glo "is_drop", .glo "is_like", .glo "_law_pot", .glo "_law_take", .glo "_law_less", .glo "_law_behind", .glo "_law_both", .glo "_law_ladder", .glo "_law_lesser", .glo "_law_sizes", .glo "_law_goal", .glo "_law_drop", .glo "_law_same_here", .glo "_law_spoilt", .glo "_law_truth", .glo "_law_others", .glo "law", .free "len"]
def fa2 : List He.Fa := [.free "isinstance", .free "int", .free "bool", .free "str", .free "tuple", .free "list", .free "all", .free "zip", .free "sum", .free "max", .free "range", .free "enumerate", .free "abs", .free "sorted", .free "min", .free "reversed", .free "any", .free "set", .free "dict", .free "repr", .exc "NoDrop", .glo "NoDrop"]
def fa : List He.Fa := fa1 ++ fa2
def exOk (K : PySem.W.Frag) : Bool := true
abbrev R : PySem.W.OpenRow := PySem.W.OpenLaw.row PySem.Challenge.rw_felltimber_k51_drops_read
abbrev hk : PySem.W.Hook := hookE 6 fa fn exOk
def ob (s : PySem.W.SharedT) : AlE := obsE 6 fa fn exOk (HandSHeadRun.getT s)
theorem ob_eq (s : PySem.W.SharedT) : ob s = hk.obs s.abs := obsE_eq (HandSHeadRun.getT_eq s)
def loose : List PySem.Str := ["is_whole", "FellError", "NoDrop", "is_less", "alike_ahead", "drop", "is_drop", "is_like", "_law_pot", "_law_take", "_law_less", "_law_behind", "_law_both", "_law_ladder", "_law_lesser", "_law_sizes", "_law_goal", "_law_drop", "_law_same_here", "_law_spoilt", "_law_truth", "_law_others"]
def KTr (s : PySem.W.SharedT) : PySem.W.Frag := He.frG (HandSHeadRun.getT s) (He.asD (HandSHeadRun.getT s) 6)
theorem run1 (w : World) (os : PySem.OsState) : (HandSHeadRun.endF (HandSHeadRun.stepQ (HandSHeadRun.denQ HandSHeadRun.tabQ) R.prog w) 9000 R.prog w os).map (fun s => HandSHeadRun.looksF R.prog (PySem.W.boot_heap w.params) s.abs) = some true := by
  kernel_rfl
theorem run2 (w : World) (os : PySem.OsState) : (HandSHeadRun.endF (HandSHeadRun.stepQ (HandSHeadRun.denQ HandSHeadRun.tabQ) R.prog w) 9000 R.prog w os).map (fun s => HandSHeadRun.seenQ (PySem.W.view R.prog [27]) loose (importedModules R.prog.main.body) (fun s => xlAt (PySem.W.view R.prog [27]) [] s && recOk R.toRowW.records s) s.abs) = some (openGood (PySem.W.view R.prog [27]) loose) := by
  kernel_rfl
theorem run3 (w : World) (os : PySem.OsState) : (HandSHeadRun.endF (HandSHeadRun.stepQ (HandSHeadRun.denQ HandSHeadRun.tabQ) R.prog w) 9000 R.prog w os).map (fun s => fa1.all fun f => f.ok (KTr s)) = some true := by
  kernel_rfl
theorem run4 (w : World) (os : PySem.OsState) : (HandSHeadRun.endF (HandSHeadRun.stepQ (HandSHeadRun.denQ HandSHeadRun.tabQ) R.prog w) 9000 R.prog w os).map (fun s => fa2.all fun f => f.ok (KTr s)) = some true := by
  kernel_rfl
theorem run5 (w : World) (os : PySem.OsState) : (HandSHeadRun.endF (HandSHeadRun.stepQ (HandSHeadRun.denQ HandSHeadRun.tabQ) R.prog w) 9000 R.prog w os).map (fun s => fn.all fun d => d.ok (KTr s)) = some true := by
  kernel_rfl
theorem run6 (w : World) (os : PySem.OsState) : (HandSHeadRun.endF (HandSHeadRun.stepQ (HandSHeadRun.denQ HandSHeadRun.tabQ) R.prog w) 9000 R.prog w os).map (fun s => fn.map fun d => He.fnW (KTr s) d.at_) = some (fn.map He.DefD.val) := by
  kernel_rfl
theorem run7 (w : World) (os : PySem.OsState) : (HandSHeadRun.endF (HandSHeadRun.stepQ (HandSHeadRun.denQ HandSHeadRun.tabQ) R.prog w) 9000 R.prog w os).map (fun s => exOk (KTr s)) = some true := by
  kernel_rfl
theorem map3 {σ α β γ : Type} {o : Option σ} {A : σ → α} {B : σ → β} {C : σ → γ} {a : α} {b : β} {c : γ} (h1 : o.map A = some a) (h2 : o.map B = some b) (h3 : o.map C = some c) : o.map (fun s => (A s, B s, C s)) = some (a, b, c) := by
  cases o with
  | none => cases h1
  | some s => exact congrArg some (Prod.ext (Option.some.inj h1) (Prod.ext (Option.some.inj h2) (Option.some.inj h3)))
theorem mapE {σ : Type} {o : Option σ} {f1 f2 : List He.Fa} {gn : List He.DefD} {ex : PySem.W.Frag → Bool} (K : σ → PySem.W.Frag) (h1 : o.map (fun s => f1.all fun f => f.ok (K s)) = some true) (h2 : o.map (fun s => f2.all fun f => f.ok (K s)) = some true) (h3 : o.map (fun s => gn.all fun d => d.ok (K s)) = some true) (h4 : o.map (fun s => gn.map fun d => He.fnW (K s) d.at_) = some (gn.map He.DefD.val)) (h5 : o.map (fun s => ex (K s)) = some true) : o.map (fun s => (He.obsD (f1 ++ f2) gn (K s), ex (K s))) = some (He.valD gn, true) := by
  cases o with
  | none => cases h1
  | some s =>
    have e1 : (f1.all fun f => f.ok (K s)) = true := Option.some.inj h1
    have e2 : (f2.all fun f => f.ok (K s)) = true := Option.some.inj h2
    have e3 : (gn.all fun d => d.ok (K s)) = true := Option.some.inj h3
    have e4 : (gn.map fun d => He.fnW (K s) d.at_) = gn.map He.DefD.val := Option.some.inj h4
    have e5 : ex (K s) = true := Option.some.inj h5
    refine congrArg some (Prod.ext (Prod.ext ?_ e4) e5)
    show (((f1 ++ f2).all fun f => f.ok (K s)) && gn.all fun d => d.ok (K s)) = true
    rw [List.all_append, e1, e2, e3]; rfl
theorem run (w : World) : HandSHeadRun.RunEq R (PySem.W.view R.prog [27]) hk ob 9000 loose w := by
  intro os
  exact map3 (run1 w os) (run2 w os) (mapE KTr (run3 w os) (run4 w os) (run5 w os) (run6 w os) (run7 w os))
end FT
namespace FT
open PySem PySem.W PySem.Spec PyProof.Rows L2
section
variable {P : Program} {w : World} {K : PySem.W.Frag} {mg : Str → Option Value} {base : Heap} {f : Addr} {fd : FuncData} {ps : List Addr}
theorem sc_is_whole : FnScope ["thing"] ["thing"] (defScope s_is_whole) := ⟨rfl, rfl, rfl, by decide +kernel, rfl, by decide +kernel, by decide +kernel⟩
theorem ok_is_whole (B : BI mg) (F : Fun K "is_whole" "is_whole" s_is_whole f fd) : FnOk P w K mg base CX0 1 f fd ["thing"] (spWhole K) := by
  refine F.ok sc_is_whole (fun vs H Q E h => ?_) (fun cdv A outer s H vs Q E hr h => ?_)
  · obtain ⟨v, n, b1, b2, rfl, _⟩ := h
    rfl
  obtain ⟨v, n, b1, b2, rfl, ty, k1, k2, q⟩ := h
  refine ⟨_, pss_one (ps_ret (pe_and (pe_isi B (pv 0) B.int boot_int) (pe_one (pe_not (pe_isi B (pv 0) B.bool boot_bool))))), ?_⟩
  refine ⟨_, rfl, _, _, n, b1, rfl, ty, k1, b1, rfl, ?_⟩
  cases b1 with
  | false => exact iteF q
  | true =>
    refine iteT ⟨_, rfl, _, _, n, b2, rfl, ty, k2 rfl, b2, rfl, ?_⟩
    exact q
end
end FT
namespace FT
open PySem PySem.W PySem.Spec PyProof.Rows L2
section
variable {P : Program} {w : World} {K : PySem.W.Frag} {mg : Str → Option Value} {base : Heap} {f : Addr} {fd : FuncData} {ps : List Addr}
theorem sc_is_less : FnScope ["one", "other"] ["one", "other"] (defScope s_is_less) := ⟨rfl, rfl, rfl, by decide +kernel, rfl, by decide +kernel, by decide +kernel⟩
theorem ok_is_less (F : Fun K "is_less" "is_less" s_is_less f fd) : FnOk P w K mg base CX0 1 f fd ["one", "other"] (spLess K) := by
  refine F.ok sc_is_less (fun vs H Q E h => ?_) (fun cdv A outer s H vs Q E hr h => ?_)
  · obtain ⟨v, u, l, k, rfl, _⟩ := h
    rfl
  obtain ⟨v, u, l, k, rfl, hv, hu, hd, q⟩ := h
  refine ⟨_, pss_one (ps_ret (pe_cmpR (op_ltD (by have := hr.un; show A.units + 3 + 100 < cLine; have h3 : (A.deeper (envOfC "is_less" (defScope s_is_less) s.heap.objs.size f cdv)).units = A.units + 3 := rfl; omega)) (pv 0) (pv 1) (nomark _))), ?_⟩
  have := l.enc_depth
  exact ⟨_, rfl, _, rfl, l.enc, k.enc, hv, hu, l.alike_enc k, l.enc_ne, by omega, q⟩
end
end FT
namespace FT
open PySem PySem.W PySem.Spec PyProof.Rows L2
section
variable {P : Program} {w : World} {K : PySem.W.Frag} {mg : Str → Option Value} {base : Heap} {f : Addr} {fd : FuncData}
theorem sc_alike_ahead : FnScope ["one", "other", "at"] ["one", "other"] (defScope s_alike_ahead) := ⟨rfl, rfl, rfl, by decide +kernel, rfl, by decide +kernel, by decide +kernel⟩
theorem ok_alike_ahead (B : BI mg) (F : Fun K "alike_ahead" "alike_ahead" s_alike_ahead f fd) : FnOk P w K mg base CX0 1 f fd ["one", "other"] (spAhead K) := by
  refine F.ok sc_alike_ahead (fun vs H Q E h => ?_) (fun cdv A outer s H vs Q E hr h => ?_)
  · obtain ⟨v, u, l, k, rfl, _⟩ := h
    rfl
  obtain ⟨v, u, l, o, rfl, hv, hu, hd, hd2, hp, hp2, q⟩ := h
  have hun2 : A.units + 3 + 200 < cLine := by have := hr.un; have h3 : (A.deeper (envOfC "alike_ahead" (defScope s_alike_ahead) s.heap.objs.size f cdv)).units = A.units + 3 := rfl; omega
  refine ⟨_, pss_cons (ps_set (i := 2) sc_alike_ahead.nd rfl (.inl rfl) pe_int)
    (pss_cons (ps_while PassesOwn.never (PW.pt (pw_and (pt_cmpR op_lt (pv 2) (pe_callB (call_min2 rfl) rfl B.min boot_min (pa_cons (pe_callB call_len_seq rfl B.len PySem.boot_len (pa_cons (pv 0) pa_nil)) (pa_cons (pe_callB call_len_seq rfl B.len PySem.boot_len (pa_cons (pv 1) pa_nil)) pa_nil))) (nomark _)) (pw_and1 (pt_cmpR (op_eqD (by show A.units + 3 + 64 < cLine; omega)) (pe_ix ix_tup (pv 0) (pv 2) (fun _ _ => rfl)) (pe_ix ix_tup (pv 1) (pv 2) (fun _ _ => rfl)) (nomark _)))))
      (pss_one (ps_aug (i := 2) sc_alike_ahead.nd rfl (.inl rfl) pe_int ip_add)))
    (pss_one (ps_ret (pv 2)))), ?_⟩
  obtain ⟨a, xs, rfl, hsa, hba⟩ := LA_bears hv
  obtain ⟨b, ys, rfl, hsb, hbb⟩ := LA_bears hu
  have xl := hba.length
  have yl := hbb.length
  refine ⟨fun mm σ H2 => ∃ k : Nat, mm = l.ps.length - k ∧ H2 = H ∧ σ = [some (.ref a), some (.ref b), some (.int (k : Int))] ∧ k ≤ l.ps.length ∧ k ≤ o.ps.length ∧ l.alh o = k + (Lad.ofPs (l.ps.drop k)).alh (Lad.ofPs (o.ps.drop k)), ⟨_, 0, rfl, rfl, rfl, Nat.zero_le _, Nat.zero_le _, by rw [List.drop_zero, List.drop_zero, Lad.ofPs_ps, Lad.ofPs_ps, Nat.zero_add]⟩, fun mm σ H2 h2 => ?_⟩
  obtain ⟨k, rfl, rfl, rfl, kl, ko, he⟩ := h2
  refine ⟨_, rfl, _, rfl, a, xs, rfl, .inr hsa, _, rfl, b, ys, rfl, .inr hsb, _, _, rfl, _, _, rfl, rfl, _, rfl, ?_⟩
  have fin : ¬ (k < l.ps.length ∧ k < o.ps.length) → Q (.int (k : Nat)) H2 := fun hh => by
    rw [Lad.alh_end hh, Nat.add_zero] at he
    rw [← he]; exact q
  by_cases hlt : k < l.ps.length ∧ k < o.ps.length
  · have c1 : decide ((k : Int) < (if ((ys.length : Nat) : Int) < (xs.length : Nat) then ((ys.length : Nat) : Int) else (xs.length : Nat))) = true := decide_eq_true (by split <;> omega)
    rw [c1]
    refine iteT ?_
    have hxk : xs[k]? = some xs[k] := List.getElem?_eq_getElem (by omega)
    have hyk : ys[k]? = some ys[k] := List.getElem?_eq_getElem (by omega)
    obtain ⟨p1, ep1, hp1⟩ := hba.get hxk
    obtain ⟨p2, ep2, hp2'⟩ := hbb.get hyk
    have d1 := l.mem_deep p1 (List.mem_of_getElem? ep1)
    have d2 := o.mem_deep p2 (List.mem_of_getElem? ep2)
    rw [Lad.alh_drop ep1 ep2] at he
    refine ⟨_, rfl, _, rfl, a, xs, _, _, rfl, rfl, hsa, atI_nat hxk, _, rfl, _, rfl, b, ys, _, _, rfl, rfl, hsb, atI_nat hyk, Lad.pEnc p1, Lad.pEnc p2, hp1, hp2', Lad.shaped_pEnc (by omega), Lad.shaped_pEnc (by omega), _, rfl, ?_⟩
    rw [Lad.eqv_pEnc]
    by_cases hh : p1.1 = p2.1 ∧ p1.2 = p2.2
    · rw [show (decide (p1.1 = p2.1) && decide (p1.2 = p2.2)) = true by simp [hh.1, hh.2]]
      refine iteT ?_
      rw [if_pos hh] at he
      refine ⟨_, fun σ' H' z => z, ?_⟩
      exact ⟨_, rfl, _, _, rfl, rfl, l.ps.length - (k + 1), by omega, k + 1, rfl, rfl, rfl, by omega, by omega, by omega⟩
    · rw [show (decide (p1.1 = p2.1) && decide (p1.2 = p2.2)) = false by
        rw [Bool.and_eq_false_iff]
        by_cases h1 : p1.1 = p2.1
        · exact .inr (decide_eq_false fun h2 => hh ⟨h1, h2⟩)
        · exact .inl (decide_eq_false h1)]
      refine iteF ?_
      rw [if_neg hh, Nat.add_zero] at he
      refine ⟨_, rfl, ?_⟩
      rw [← he]; exact q
  · have c1 : decide ((k : Int) < (if ((ys.length : Nat) : Int) < (xs.length : Nat) then ((ys.length : Nat) : Int) else (xs.length : Nat))) = false := decide_eq_false (by split <;> omega)
    rw [c1]
    refine iteF ?_
    exact ⟨_, rfl, fin hlt⟩
end
end FT
namespace FT
open PySem PySem.W PySem.Spec PyProof.Rows L2
section
variable {P : Program} {w : World} {K : PySem.W.Frag} {mg : Str → Option Value} {base : Heap} {f : Addr} {fd : FuncData}
abbrev N_drop : List Str := ["one", "other", "at", "exponent", "lesser"]
theorem sc_drop : FnScope N_drop ["one", "other"] (defScope s_drop) := ⟨rfl, rfl, rfl, by decide +kernel, rfl, by decide +kernel, by decide +kernel⟩
theorem none_dropq {C_NoDrop : Addr} {ps : List Str} {k : Nat} : FnOk P w K mg base (L2.CX P w) k f fd ps (spDrop K C_NoDrop 0) := none_spX fun vs H Q E ⟨v, u, l, k, _, _, _, h, _⟩ => by omega
theorem ok_drop {n : Nat} {C_NoDrop : Addr} (B : BI mg) (O_NoDrop : Own K mg "NoDrop" C_NoDrop) (G_is_less : Got P w K mg base "is_less" ["one", "other"] (1) (spLess K)) (G_alike_ahead : Got P w K mg base "alike_ahead" ["one", "other"] (1) (spAhead K)) (G_drop : GotX P w K mg base "drop" ["one", "other"] (n + 20) (spDrop K C_NoDrop n)) (F : Fun K "drop" "drop" s_drop f fd) : FnOk P w K mg base (L2.CX P w) (n + 21) f fd ["one", "other"] (spDrop K C_NoDrop (n + 1)) := by
  refine F.okX sc_drop (fun vs H Q E h => ?_) (fun cdv A outer s H vs Q E hr h => ?_)
  · obtain ⟨v, u, l, k, rfl, _⟩ := h
    rfl
  obtain ⟨v, u, l, k, rfl, hv, hu, hdn, hd, hd2, hp, hp2, q, qE⟩ := h
  have hun2 : A.units + 3 + 200 < cLine := by have := hr.un; have h3 : (A.deeper (envOfC "drop" (defScope s_drop) s.heap.objs.size f cdv)).units = A.units + 3 := rfl; omega
  refine ⟨_, pss_cons (ps_if (pt_not (pt_val (pe_got G_is_less (hr.mono (by omega)) rfl (pa_cons (pv 1) (pa_cons (pv 0) pa_nil))))) (pss_one (ps_raise rfl (takes_of rfl rfl rfl rfl) (pmk_own PySem.F.excBase_ValueError O_NoDrop.q O_NoDrop.gC O_NoDrop.k (raises_own O_NoDrop.s O_NoDrop.t) rfl))) pss_nil)
    (pss_cons (ps_set (i := 2) sc_drop.nd rfl (.inl rfl) (pe_got G_alike_ahead (hr.mono (by omega)) rfl (pa_cons (pv 0) (pa_cons (pv 1) pa_nil))))
    (pss_cons (ps_if (pt_cmpR op_eq (pv 2) (pe_callB call_len_seq rfl B.len PySem.boot_len (pa_cons (pv 1) pa_nil)) (nomark _)) (pss_one (ps_ret (pe_tup (pa_cons pe_str (pa_cons (pv 2) pa_nil))))) pss_nil)
    (pss_cons (ps_par (i := 3) (j := 4) rfl sc_drop.nd rfl rfl (by decide) rfl rfl (pa_cons (pe_ix ix_tup (pe_ix ix_tup (pv 0) (pv 2) (fun _ _ => rfl)) pe_int (fun _ _ => rfl)) (pa_cons (pe_ix ix_tup (pe_ix ix_tup (pv 1) (pv 2) (fun _ _ => rfl)) pe_int (fun _ _ => rfl)) pa_nil)) rfl)
    (pss_cons (ps_if (pt_cmpR (op_eqD (by show A.units + 3 + 64 < cLine; omega)) (pv 3) (pv 4) (nomark _)) (pss_one (ps_ret (pe_tup (pa_cons pe_str (pa_cons (pv 2) pa_nil))))) pss_nil)
    (pss_one (ps_ret (pe_tup (pa_cons pe_str (pa_cons (pv 2) (pa_cons (pe_gotS G_drop (hr.mono (by omega)) rfl (takes_of rfl rfl rfl rfl) (pa_cons (pv 3) (pa_cons (pv 4) pa_nil))) pa_nil)))))))))), ?_⟩
  have szl := sizeLine_eq
  obtain ⟨a, xs, rfl, hsa, hba⟩ := LA_bears hv
  obtain ⟨b, ys, rfl, hsb, hbb⟩ := LA_bears hu
  have xl := hba.length
  have yl := hbb.length
  refine ⟨_, rfl, _, rfl, .ref b, .ref a, k, l, rfl, hu, hv, by omega, ?_⟩
  cases hlt : k.lt l with
  | false => exact ⟨_, rfl, iteT (qE hlt H SB.refl)⟩
  | true =>
  refine ⟨_, rfl, iteF ?_⟩
  refine ⟨_, rfl, _, rfl, .ref a, .ref b, l, k, rfl, hv, hu, by omega, by omega, by omega, by omega, ?_⟩
  refine nameI ?_
  obtain ⟨h1, h2, _, h4, _, h6⟩ := Lad.alh_spec l k
  have hdr := Lad.dro_alh l k
  rw [hlt] at h4
  generalize l.alh k = j at h1 h2 h4 h6 hdr
  have llp := l.len_parts
  have klp := k.len_parts
  rw [← Lad.ps_length] at llp klp
  have num : ∀ (G : Hp), Dp K G (.int (j : Int)) (.int ((0 + j : Nat) : Int)) := fun G => by rw [Nat.zero_add]; exact .int _
  refine ⟨_, rfl, _, rfl, b, ys, rfl, .inr hsb, rfl, _, rfl, ?_⟩
  by_cases hj : j = k.ps.length
  · rw [show decide (V.int (j : Int) = V.int (ys.length : Nat)) = true from decide_eq_true (by rw [yl, hj])]
    rw [List.drop_eq_nil_of_le (as := k.ps) (by omega), show Lad.ofPs ([] : List (Lad × Int)) = .nil from rfl, Lad.dro_nil_r] at hdr
    refine iteT ⟨_, rfl, by show 2 ≤ sizeLine; decide, fun T nT => ?_⟩
    refine q hlt (.ref T) _ (SB.new nT _) ?_
    rw [hdr]
    exact Dp.tup (SqT.of upd_same) (.cons (.str _) (.cons (num _) .nil))
  rw [show decide (V.int (j : Int) = V.int (ys.length : Nat)) = false from decide_eq_false (fun z => hj (by injection z with z; omega))]
  refine iteF ?_
  have hkl : j < l.ps.length := by
    refine Classical.byContradiction fun z => ?_
    rw [List.drop_eq_nil_of_le (as := l.ps) (by omega)] at h4
    have e := Lad.lt_nil_r (Lad.ofPs (k.ps.drop j))
    rw [show Lad.ofPs ([] : List (Lad × Int)) = .nil from rfl, e] at h4
    cases h4
  have hxk : xs[j]? = some xs[j] := List.getElem?_eq_getElem (by omega)
  have hyk : ys[j]? = some ys[j] := List.getElem?_eq_getElem (by omega)
  obtain ⟨p1, ep1, hp1⟩ := hba.get hxk
  obtain ⟨p2, ep2, hp2'⟩ := hbb.get hyk
  have d1 := l.mem_deep p1 (List.mem_of_getElem? ep1)
  have d2 := k.mem_deep p2 (List.mem_of_getElem? ep2)
  have q1 := l.mem_parts p1 (List.mem_of_getElem? ep1)
  have q2 := k.mem_parts p2 (List.mem_of_getElem? ep2)
  obtain ⟨a1, u1, ea1, hs1, hl1⟩ := LA_pair hp1
  obtain ⟨a2, u2, ea2, hs2, hl2⟩ := LA_pair hp2'
  rw [Lad.dro_drop ep1 ep2] at hdr
  rw [Lad.lt_drop ep2 ep1] at h4
  have h6' := h6 p1 p2 ep1 ep2
  rw [ea1] at hxk
  rw [ea2] at hyk
  refine ⟨_, rfl, _, rfl, a, xs, _, _, rfl, rfl, hsa, atI_nat hxk, a1, _, _, _, rfl, rfl, hs1, atI_nat (j := 0) rfl, _, rfl, _, rfl, b, ys, _, _, rfl, rfl, hsb, atI_nat hyk, a2, _, _, _, rfl, rfl, hs2, atI_nat (j := 0) rfl, _, _, rfl, ?_⟩
  refine ⟨_, rfl, _, rfl, p1.1.enc, p2.1.enc, hl1, hl2, Lad.shaped_enc (by omega), Lad.shaped_enc (by omega), _, rfl, ?_⟩
  rw [Lad.eqv_enc]
  by_cases he : p1.1 = p2.1
  · have hm : p1.2 ≠ p2.2 := fun z => h6' ⟨he, z⟩
    rw [if_pos he, if_neg hm] at hdr
    rw [decide_eq_true he]
    refine iteT ⟨_, rfl, by show 2 ≤ sizeLine; decide, fun T nT => ?_⟩
    refine q hlt (.ref T) _ (SB.new nT _) ?_
    rw [hdr]
    exact Dp.tup (SqT.of upd_same) (.cons (.str _) (.cons (num _) .nil))
  · rw [if_neg he] at hdr
    rw [if_neg (fun z => he z.symm)] at h4
    rw [decide_eq_false he]
    refine iteF ?_
    refine ⟨_, rfl, _, rfl, _, rfl, u1, u2, p1.1, p2.1, rfl, hl1, hl2, by omega, by omega, by omega, by omega, by omega, fun _ x H3 s3 hx => ?_, fun z => by rw [← h4] at z; cases z⟩
    refine ⟨by show 3 ≤ sizeLine; decide, fun T nT => ?_⟩
    have t4 := SB.new (ps := []) nT (.tup [.str "exponent", .int (j : Int), x])
    refine q hlt (.ref T) _ (s3.trans t4) ?_
    rw [hdr]
    exact Dp.tup (SqT.of upd_same) (.cons (.str _) (.cons (num _) (.cons (Dp_sb t4 _ _ (Dro.noList _) hx) .nil)))
end
end FT
namespace FT
open PySem PySem.W PySem.Spec PyProof.Rows L2
section
variable {P : Program} {w : World} {K : PySem.W.Frag} {mg : Str → Option Value} {base : Heap} {f : Addr} {fd : FuncData}
abbrev N_is_drop : List Str := ["one", "other", "thing"]
theorem sc_is_drop : FnScope N_is_drop ["one", "other", "thing"] (defScope s_is_drop) := ⟨rfl, rfl, rfl, by decide +kernel, rfl, by decide +kernel, by decide +kernel⟩
theorem ok_is_drop {C_NoDrop : Addr} (B : BI mg) (G_is_less : Got P w K mg base "is_less" ["one", "other"] (1) (spLess K)) (G_is_like : Got P w K mg base "is_like" ["told", "thing"] (42) (spLike51 K 40)) (G_drop : GotX P w K mg base "drop" ["one", "other"] (60) (spDrop K C_NoDrop 40)) (F : Fun K "is_drop" "is_drop" s_is_drop f fd) : FnOk P w K mg base CX0 (64) f fd ["one", "other", "thing"] (spIsDrop51 K) := by
  refine F.ok sc_is_drop (fun vs H Q E h => ?_) (fun cdv A outer s H vs Q E hr h => ?_)
  · obtain ⟨v, u, x, l, k, rfl, _⟩ := h
    rfl
  obtain ⟨v, u, x, l, k, rfl, hv, hu, hd, hd2, hp, hp2, q0, q1⟩ := h
  have hun2 : A.units + 3 + 200 < cLine := by have := hr.un; have h3 : (A.deeper (envOfC "is_drop" (defScope s_is_drop) s.heap.objs.size f cdv)).units = A.units + 3 := rfl; omega
  refine ⟨_, pss_one (ps_ret (pe_and (pe_got G_is_less (hr.mono (by omega)) rfl (pa_cons (pv 1) (pa_cons (pv 0) pa_nil))) (pe_one (pe_got G_is_like (hr.mono (by omega)) rfl (pa_cons (pe_gotX G_drop (hr.mono (by omega)) rfl (pa_cons (pv 0) (pa_cons (pv 1) pa_nil))) (pa_cons (pv 2) pa_nil)))))), ?_⟩
  refine ⟨_, rfl, _, rfl, u, v, k, l, rfl, hu, hv, by omega, ?_⟩
  cases hlt : k.lt l with
  | false => exact ⟨false, rfl, iteF (q0 hlt H SB.refl)⟩
  | true =>
    obtain ⟨b, hx, q2⟩ := q1 hlt
    have dd := Lad.dro_deep l k
    refine ⟨true, rfl, iteT ?_⟩
    refine ⟨_, rfl, _, rfl, ?_⟩
    refine nilI ?_
    refine ⟨v, u, l, k, rfl, hv, hu, by omega, by omega, by omega, by omega, by omega, fun _ y H1 s1 hy => ?_, fun z => by rw [hlt] at z; cases z⟩
    exact ⟨_, rfl, y, x, Lad.dro l k, b, rfl, hy, hx.sb s1, by omega, fun H2 s2 => q2 _ (s1.trans s2)⟩
end
end FT
namespace FT
open PySem PySem.W PySem.Spec PyProof.Rows L2
section
variable {P : Program} {w : World} {K : PySem.W.Frag} {mg : Str → Option Value} {base : Heap} {f : Addr} {fd : FuncData}
abbrev N_is_like : List Str := ["told", "thing"]
theorem sc_is_like : FnScope N_is_like ["told", "thing"] (defScope s_is_like) := ⟨rfl, rfl, rfl, by decide +kernel, rfl, by decide +kernel, by decide +kernel⟩
theorem none_is_like {ps : List Str} {k : Nat} : FnOk P w K mg base CX0 k f fd ps (spLike51 K 0) := none_sp fun vs H Q E ⟨v, u, d, b, _, _, _, h, _⟩ => by omega
theorem ok_is_like {n : Nat} (B : BI mg) (G_is_whole : Got P w K mg base "is_whole" ["thing"] (1) (spWhole K)) (G_is_like : Got P w K mg base "is_like" ["told", "thing"] (n + 2) (spLike51 K n)) (F : Fun K "is_like" "is_like" s_is_like f fd) : FnOk P w K mg base CX0 (n + 3) f fd ["told", "thing"] (spLike51 K (n + 1)) := by
  refine F.ok sc_is_like (fun vs H Q E h => ?_) (fun cdv A outer s H vs Q E hr h => ?_)
  · obtain ⟨v, u, d, b, rfl, _⟩ := h
    rfl
  obtain ⟨v, u, d, b, rfl, hv, hk, hd, q⟩ := h
  have hun2 : A.units + 3 + 200 < cLine := by have := hr.un; have h3 : (A.deeper (envOfC "is_like" (defScope s_is_like) s.heap.objs.size f cdv)).units = A.units + 3 := rfl; omega
  refine ⟨_, pss_cons (ps_if (PW.pt (pw_or (pt_not (pt_val (pe_isi B (pv 1) B.tuple boot_tuple))) (pw_or1 (pt_cmpR op_ne (pe_callB call_len_seq rfl B.len PySem.boot_len (pa_cons (pv 1) pa_nil)) (pe_callB call_len_seq rfl B.len PySem.boot_len (pa_cons (pv 0) pa_nil)) (nomark _))))) (pss_one (ps_ret pe_bl)) pss_nil)
    (pss_cons (ps_if (PW.pt (pw_or (pt_not (pt_val (pe_isi B (pe_ix ix_tup (pv 1) pe_int (fun _ _ => rfl)) B.str boot_str))) (pw_or1 (pt_cmpR op_ne (pe_ix ix_tup (pv 1) pe_int (fun _ _ => rfl)) (pe_ix ix_tup (pv 0) pe_int (fun _ _ => rfl)) (nomark _))))) (pss_one (ps_ret pe_bl)) pss_nil)
    (pss_cons (ps_if (PW.pt (pw_or (pt_not (pt_val (pe_got G_is_whole (hr.mono (by omega)) rfl (pa_cons (pe_ix ix_tup (pv 1) pe_int (fun _ _ => rfl)) pa_nil)))) (pw_or1 (pt_cmpR op_ne (pe_ix ix_tup (pv 1) pe_int (fun _ _ => rfl)) (pe_ix ix_tup (pv 0) pe_int (fun _ _ => rfl)) (nomark _))))) (pss_one (ps_ret pe_bl)) pss_nil)
    (pss_one (ps_ret (pe_or (pe_cmpR op_eq (pe_callB call_len_seq rfl B.len PySem.boot_len (pa_cons (pv 0) pa_nil)) pe_int (nomark _)) (pe_one (pe_got G_is_like (hr.mono (by omega)) rfl (pa_cons (pe_ix ix_tup (pv 0) pe_int (fun _ _ => rfl)) (pa_cons (pe_ix ix_tup (pv 1) pe_int (fun _ _ => rfl)) pa_nil))))))))), ?_⟩
  have szl := sizeLine_eq
  cases hk with
  | no ty kt =>
    obtain ⟨A, ts, rfl, hA, tl, t0, t1, tx, _⟩ := dro_sq hv
    exact ⟨_, rfl, _, _, _, false, rfl, ty, kt, _, rfl, iteT (iteT (q _ SB.refl))⟩
  | @len _ a xs hs hl =>
    obtain ⟨A, ts, rfl, hA, tl, t0, t1, tx, _⟩ := dro_sq hv
    refine ⟨_, rfl, _, _, "tuple", true, rfl, SqT_ty hs, by decide +kernel, _, rfl, iteF ?_⟩
    refine ⟨_, rfl, a, xs, rfl, .inr hs, _, rfl, A, ts, rfl, .inr hA, rfl, _, rfl, ?_⟩
    rw [show decide (V.int (xs.length : Nat) = V.int (ts.length : Nat)) = false from decide_eq_false (fun z => hl (by injection z with z; omega))]
    exact iteT (q _ SB.refl)
  | @word _ a x r hs hl hw =>
    obtain ⟨A, ts, rfl, hA, tl, t0, t1, tx, _⟩ := dro_sq hv
    refine ⟨_, rfl, _, _, "tuple", true, rfl, SqT_ty hs, by decide +kernel, _, rfl, iteF ?_⟩
    refine ⟨_, rfl, a, _, rfl, .inr hs, _, rfl, A, ts, rfl, .inr hA, rfl, _, rfl, ?_⟩
    rw [show decide (V.int ((x :: r).length : Nat) = V.int (ts.length : Nat)) = true from decide_eq_true (by rw [tl, ← hl]; rfl)]
    refine iteF ?_
    cases hw with
    | oth ty ks o => exact ⟨_, rfl, a, _, _, _, rfl, rfl, hs, atI_nat (j := 0) rfl, _, _, _, false, rfl, ty, ks, _, rfl, iteT (iteT (q _ SB.refl))⟩
    | str ne =>
      refine ⟨_, rfl, a, _, _, _, rfl, rfl, hs, atI_nat (j := 0) rfl, _, _, "str", true, rfl, .base (.str _), by decide +kernel, _, rfl, iteF ?_⟩
      refine ⟨_, rfl, a, _, _, _, rfl, rfl, hs, atI_nat (j := 0) rfl, _, rfl, A, _, _, _, rfl, rfl, hA, t0, rfl, _, rfl, ?_⟩
      rw [decide_eq_false (fun z => ne (by injection z))]
      exact iteT (q _ SB.refl)
  | @num _ a y r hs hl hn =>
    obtain ⟨A, ts, rfl, hA, tl, t0, t1, tx, _⟩ := dro_sq hv
    refine ⟨_, rfl, _, _, "tuple", true, rfl, SqT_ty hs, by decide +kernel, _, rfl, iteF ?_⟩
    refine ⟨_, rfl, a, _, rfl, .inr hs, _, rfl, A, ts, rfl, .inr hA, rfl, _, rfl, ?_⟩
    rw [show decide (V.int ((V.str d.word :: y :: r).length : Nat) = V.int (ts.length : Nat)) = true from decide_eq_true (by rw [tl, ← hl]; rfl)]
    refine iteF ?_
    refine ⟨_, rfl, a, _, _, _, rfl, rfl, hs, atI_nat (j := 0) rfl, _, _, "str", true, rfl, .base (.str _), by decide +kernel, _, rfl, iteF ?_⟩
    refine ⟨_, rfl, a, _, _, _, rfl, rfl, hs, atI_nat (j := 0) rfl, _, rfl, A, _, _, _, rfl, rfl, hA, t0, rfl, _, rfl, ?_⟩
    rw [decide_eq_true rfl]
    refine iteF ?_
    cases hn with
    | @oth _ _ b ty kb kt =>
      refine ⟨_, rfl, a, _, _, _, rfl, rfl, hs, atI_nat (j := 1) rfl, _, _, _, true, rfl, ty, kb, kt, _, rfl, ?_⟩
      cases b <;> exact iteT (iteT (q _ SB.refl))
    | int ne =>
      refine ⟨_, rfl, a, _, _, _, rfl, rfl, hs, atI_nat (j := 1) rfl, _, "int", true, false, rfl, .base (.int _), by decide +kernel, fun _ => by decide +kernel, _, rfl, iteF ?_⟩
      refine ⟨_, rfl, a, _, _, _, rfl, rfl, hs, atI_nat (j := 1) rfl, _, rfl, A, _, _, _, rfl, rfl, hA, t1, rfl, _, rfl, ?_⟩
      rw [decide_eq_false (fun z => ne (by injection z))]
      exact iteT (q _ SB.refl)
  | @fin i a hs =>
    obtain ⟨A, rfl, hA⟩ := dro_pr hv
    refine ⟨_, rfl, _, _, "tuple", true, rfl, SqT_ty hs, by decide +kernel, _, rfl, iteF ?_⟩
    refine ⟨_, rfl, a, _, rfl, .inr hs, _, rfl, A, _, rfl, .inr hA, rfl, _, rfl, iteF ?_⟩
    refine ⟨_, rfl, a, _, _, _, rfl, rfl, hs, atI_nat (j := 0) rfl, _, _, "str", true, rfl, .base (.str _), by decide +kernel, _, rfl, iteF ?_⟩
    refine ⟨_, rfl, a, _, _, _, rfl, rfl, hs, atI_nat (j := 0) rfl, _, rfl, A, _, _, _, rfl, rfl, hA, atI_nat (j := 0) rfl, rfl, _, rfl, ?_⟩
    rw [decide_eq_true rfl]
    refine iteF ?_
    refine ⟨_, rfl, a, _, _, _, rfl, rfl, hs, atI_nat (j := 1) rfl, _, "int", true, false, rfl, .base (.int _), by decide +kernel, fun _ => by decide +kernel, _, rfl, iteF ?_⟩
    refine ⟨_, rfl, a, _, _, _, rfl, rfl, hs, atI_nat (j := 1) rfl, _, rfl, A, _, _, _, rfl, rfl, hA, atI_nat (j := 1) rfl, rfl, _, rfl, ?_⟩
    rw [decide_eq_true rfl]
    refine iteF ?_
    refine ⟨_, rfl, A, _, rfl, .inr hA, rfl, true, rfl, iteT (q _ SB.refl)⟩
  | @man i a hs =>
    obtain ⟨A, rfl, hA⟩ := dro_pr hv
    refine ⟨_, rfl, _, _, "tuple", true, rfl, SqT_ty hs, by decide +kernel, _, rfl, iteF ?_⟩
    refine ⟨_, rfl, a, _, rfl, .inr hs, _, rfl, A, _, rfl, .inr hA, rfl, _, rfl, iteF ?_⟩
    refine ⟨_, rfl, a, _, _, _, rfl, rfl, hs, atI_nat (j := 0) rfl, _, _, "str", true, rfl, .base (.str _), by decide +kernel, _, rfl, iteF ?_⟩
    refine ⟨_, rfl, a, _, _, _, rfl, rfl, hs, atI_nat (j := 0) rfl, _, rfl, A, _, _, _, rfl, rfl, hA, atI_nat (j := 0) rfl, rfl, _, rfl, ?_⟩
    rw [decide_eq_true rfl]
    refine iteF ?_
    refine ⟨_, rfl, a, _, _, _, rfl, rfl, hs, atI_nat (j := 1) rfl, _, "int", true, false, rfl, .base (.int _), by decide +kernel, fun _ => by decide +kernel, _, rfl, iteF ?_⟩
    refine ⟨_, rfl, a, _, _, _, rfl, rfl, hs, atI_nat (j := 1) rfl, _, rfl, A, _, _, _, rfl, rfl, hA, atI_nat (j := 1) rfl, rfl, _, rfl, ?_⟩
    rw [decide_eq_true rfl]
    refine iteF ?_
    refine ⟨_, rfl, A, _, rfl, .inr hA, rfl, true, rfl, iteT (q _ SB.refl)⟩
  | @ex i d a y b hs hy =>
    obtain ⟨A, z, rfl, hA, hz⟩ := dro_tr hv
    have dd : (Dro.ex i d).deep = 1 + d.deep := rfl
    refine ⟨_, rfl, _, _, "tuple", true, rfl, SqT_ty hs, by decide +kernel, _, rfl, iteF ?_⟩
    refine ⟨_, rfl, a, _, rfl, .inr hs, _, rfl, A, _, rfl, .inr hA, rfl, _, rfl, iteF ?_⟩
    refine ⟨_, rfl, a, _, _, _, rfl, rfl, hs, atI_nat (j := 0) rfl, _, _, "str", true, rfl, .base (.str _), by decide +kernel, _, rfl, iteF ?_⟩
    refine ⟨_, rfl, a, _, _, _, rfl, rfl, hs, atI_nat (j := 0) rfl, _, rfl, A, _, _, _, rfl, rfl, hA, atI_nat (j := 0) rfl, rfl, _, rfl, ?_⟩
    rw [decide_eq_true rfl]
    refine iteF ?_
    refine ⟨_, rfl, a, _, _, _, rfl, rfl, hs, atI_nat (j := 1) rfl, _, "int", true, false, rfl, .base (.int _), by decide +kernel, fun _ => by decide +kernel, _, rfl, iteF ?_⟩
    refine ⟨_, rfl, a, _, _, _, rfl, rfl, hs, atI_nat (j := 1) rfl, _, rfl, A, _, _, _, rfl, rfl, hA, atI_nat (j := 1) rfl, rfl, _, rfl, ?_⟩
    rw [decide_eq_true rfl]
    refine iteF ?_
    refine ⟨_, rfl, A, _, rfl, .inr hA, rfl, false, rfl, iteF ?_⟩
    exact ⟨_, rfl, A, _, _, _, rfl, rfl, hA, atI_nat (j := 2) rfl, _, rfl, a, _, _, _, rfl, rfl, hs, atI_nat (j := 2) rfl, z, y, d, b, rfl, hz, hy, by omega, fun H1 s1 => q _ s1⟩
end
end FT
namespace FT
open PySem PySem.W PySem.Spec PyProof.Rows L2
section
variable {P : Program} {w : World} {K : PySem.W.Frag} {mg : Str → Option Value} {base : Heap} {f : Addr} {fd : FuncData}
abbrev N__law_pot : List Str := ["_law_script"]
theorem sc__law_pot : FnScope N__law_pot ["_law_script"] (defScope s__law_pot) := ⟨rfl, rfl, rfl, by decide +kernel, rfl, by decide +kernel, by decide +kernel⟩
theorem ok__law_pot (B : BI mg) (F : Fun K "_law_pot" "_law_pot" s__law_pot f fd) : FnOk P w K mg base CX0 (1) f fd ["_law_script"] (spPot K) := by
  refine F.ok sc__law_pot (fun vs H Q E h => ?_) (fun cdv A outer s H vs Q E hr h => ?_)
  · obtain ⟨a, ns, rfl, _⟩ := h
    rfl
  obtain ⟨a, ns, rfl, hs, nl, q⟩ := h
  have hun2 : A.units + 3 + 200 < cLine := by have := hr.un; have h3 : (A.deeper (envOfC "_law_pot" (defScope s__law_pot) s.heap.objs.size f cdv)).units = A.units + 3 := rfl; omega
  refine ⟨_, pss_one (ps_ret (pe_disp (pps_cons pe_str (pe_callTy call_list_of rfl B.list boot_list (pa_cons (pv 0) pa_nil)) (pps_cons pe_str pe_int (pps_cons pe_str pe_int (pps_cons pe_str (pe_op op_add pe_int (pe_callB call_len_seq rfl B.len PySem.boot_len (pa_cons (pv 0) pa_nil))) pps_nil)))) (by rfl) (by rfl) (fun z => by cases z) (by decide))), ?_⟩
  have szl := sizeLine_eq
  refine fun p np => ?_
  have t0 := SB.new (ps := []) np (.dK [])
  have hp0 : upd H p (.dK []) p = some (.dK []) := upd_same
  generalize upd H p (.dK []) = H0 at t0 hp0
  refine ⟨_, rfl, a, _, rfl, .inl (t0.sqL List.not_mem_nil hs), fun c nc => ?_⟩
  have t1 := SB.new (ps := []) nc (.lst (ns.map V.int))
  have hc1 : upd H0 c (.lst (ns.map V.int)) c = some (.lst (ns.map V.int)) := upd_same
  have hp1 := t1.keep _ _ hp0 List.not_mem_nil
  have cp : c ≠ p := fun z => by rw [z, hp0] at nc; cases nc
  have s01 := t0.trans t1
  generalize upd H0 c (.lst (ns.map V.int)) = H1 at t1 hc1 hp1 s01
  refine ⟨_, rfl, a, _, rfl, .inl (s01.sqL List.not_mem_nil hs), _, _, rfl, rfl, ?_⟩
  rw [List.length_map]
  refine ⟨hp1, [(Sum.inr "cells", .ref c), (Sum.inr "at", .int 0), (Sum.inr "left", .int 0), (Sum.inr "seed", .int (20011 + (ns.length : Nat)))], rfl, by show 4 ≤ 15; decide, ?_⟩
  have t2 := SB.setD (ps := [p]) hp1 (by simp) (.dK (potK c 0 0 (20011 + (ns.length : Nat))))
  refine q p _ ((s01.nil.trans t2).drop np) np ⟨c, ns, 0, 0, 20011 + (ns.length : Nat), upd_same, t2.keep _ _ hc1 (by simpa using cp), nl, by omega, by omega, ⟨by omega, by decide⟩, by omega, ?_⟩
  have : (2 : Int) ^ 31 = 2147483648 := by decide
  omega
end
end FT
namespace FT
open PySem PySem.W PySem.Spec PyProof.Rows L2
section
variable {P : Program} {w : World} {K : PySem.W.Frag} {mg : Str → Option Value} {base : Heap} {f : Addr} {fd : FuncData}
abbrev N__law_take : List Str := ["_law_pot_here", "_law_many", "_law_cell", "_law_digit", "_law_seed"]
theorem sc__law_take : FnScope N__law_take ["_law_pot_here", "_law_many"] (defScope s__law_take) := ⟨rfl, rfl, rfl, by decide +kernel, rfl, by decide +kernel, by decide +kernel⟩
theorem ok__law_take (B : BI mg) (F : Fun K "_law_take" "_law_take" s__law_take f fd) : FnOk P w K mg base CX0 (1) f fd ["_law_pot_here", "_law_many"] (spTakeQ) := by
  refine F.ok sc__law_take (fun vs H Q E h => ?_) (fun cdv A outer s H vs Q E hr h => ?_)
  · obtain ⟨p, m, rfl, _⟩ := h
    rfl
  obtain ⟨p, m, rfl, hp, m1, m2, q⟩ := h
  have hun2 : A.units + 3 + 200 < cLine := by have := hr.un; have h3 : (A.deeper (envOfC "_law_take" (defScope s__law_take) s.heap.objs.size f cdv)).units = A.units + 3 := rfl; omega
  refine ⟨_, pss_cons (ps_if (PW.pt (pw_and (pt_cmpR op_eq (pe_dget (by show A.units + 3 + 1 < cLine; omega) (pv 0) pe_str (fun _ _ => rfl)) pe_int (nomark _)) (pw_and1 (pt_cmpR op_lt (pe_dget (by show A.units + 3 + 1 < cLine; omega) (pv 0) pe_str (fun _ _ => rfl)) (pe_callB call_len_seq rfl B.len PySem.boot_len (pa_cons (pe_dget (by show A.units + 3 + 1 < cLine; omega) (pv 0) pe_str (fun _ _ => rfl)) pa_nil)) (nomark _))))) (pss_cons (ps_set (i := 2) sc__law_take.nd rfl (.inl rfl) (pe_ix ix_list (pe_dget (by show A.units + 3 + 1 < cLine; omega) (pv 0) pe_str (fun _ _ => rfl)) (pe_dget (by show A.units + 3 + 1 < cLine; omega) (pv 0) pe_str (fun _ _ => rfl)) (fun _ _ => rfl)))
    (pss_cons (ps_daug (by show A.units + 3 + 1 < cLine; omega) (pv 0) pe_str pe_int in_add (fun _ _ _ => rfl))
    (pss_one (ps_if (PW.pt (pw_or (pt_cmpR op_ge (pv 2) (pe_op op_pow pe_int pe_int) (nomark _)) (pw_or1 (pt_cmpR op_lt (pv 2) pe_int (nomark _))))) (pss_one (ps_dput (by show A.units + 3 + 1 < cLine; omega) (pv 0) pe_str (pe_op op_mod (pe_callB call_abs rfl B.abs boot_abs (pa_cons (pv 2) pa_nil)) (pe_op op_mulW (pe_op op_mulW (pe_op op_mulW (pe_op op_mulW (pe_op op_pow pe_int pe_int) (pe_op op_pow pe_int pe_int)) (pe_op op_pow pe_int pe_int)) (pe_op op_pow pe_int pe_int)) (pe_op op_pow pe_int pe_int))) rfl)) (pss_one (ps_dput (by show A.units + 3 + 1 < cLine; omega) (pv 0) pe_str (pe_op op_mod (pe_op op_add (pe_op op_mul (pe_dget (by show A.units + 3 + 1 < cLine; omega) (pv 0) pe_str (fun _ _ => rfl)) pe_int) (pe_op op_mod (pv 2) pe_int)) pe_int) rfl)))))) pss_nil)
    (pss_cons (ps_if (pt_cmpR op_gt (pe_dget (by show A.units + 3 + 1 < cLine; omega) (pv 0) pe_str (fun _ _ => rfl)) pe_int (nomark _)) (pss_cons (ps_set (i := 3) sc__law_take.nd rfl (.inl rfl) (pe_op op_mod (pe_dget (by show A.units + 3 + 1 < cLine; omega) (pv 0) pe_str (fun _ _ => rfl)) (pv 1)))
    (pss_cons (ps_dput (by show A.units + 3 + 1 < cLine; omega) (pv 0) pe_str (pe_op op_fdivW (pe_dget (by show A.units + 3 + 1 < cLine; omega) (pv 0) pe_str (fun _ _ => rfl)) (pv 1)) rfl)
    (pss_one (ps_ret (pv 3))))) pss_nil)
    (pss_cons (ps_set (i := 4) sc__law_take.nd rfl (.inl rfl) (pe_op op_mod (pe_op op_add (pe_op op_mul (pe_dget (by show A.units + 3 + 1 < cLine; omega) (pv 0) pe_str (fun _ _ => rfl)) pe_int) pe_int) pe_int))
    (pss_cons (ps_dput (by show A.units + 3 + 1 < cLine; omega) (pv 0) pe_str (pv 4) rfl)
    (pss_one (ps_ret (pe_op op_mod (pe_op op_add (pe_op op_mul (pe_op op_mod (pe_op op_mul (pv 4) (pv 4)) pe_int) pe_int) (pe_op op_fdivW (pv 4) pe_int)) (pv 1))))))), ?_⟩
  have szl := sizeLine_eq
  obtain ⟨c, ns, a, l, s, hp0, hc, nl, a0, a1, ⟨l0, l1⟩, ⟨s0, s1⟩⟩ := hp
  refine seq_via (fun σ' G => ∃ (a l s : Int) (o2 : Option V), σ' = [some (.ref p), some (.int m), o2, none, none] ∧ SB [p] H G ∧ G p = some (.dK (potK c a l s)) ∧ G c = some (.lst (ns.map V.int)) ∧ 0 ≤ a ∧ a ≤ ns.length ∧ (0 ≤ l ∧ l < 10 ^ 320) ∧ (0 ≤ s ∧ s < 2 ^ 31)) (fun nx hnx => ?_) (fun σ' G h => ?_)
  · have cp : c ≠ p := fun z => by rw [z, hp0] at hc; cases hc
    have stay : SB [p] H H := SB.refl
    have e31 : (2 : Int) ^ 31 = 2147483648 := by decide
    refine ⟨_, rfl, p, _, rfl, getK hp0 (pot_left _ _ _ _), rfl, _, rfl, ?_⟩
    by_cases h0 : l = 0
    · rw [show decide (V.int l = V.int 0) = true from decide_eq_true (by rw [h0])]
      refine iteT ?_
      refine ⟨_, rfl, p, _, rfl, getK hp0 (pot_at _ _ _ _), _, rfl, p, _, rfl, getK hp0 (pot_cells _ _ _ _), c, _, rfl, .inl (SqL.of hc), _, _, rfl, rfl, _, rfl, ?_⟩
      rw [List.length_map]
      by_cases h1 : a < ns.length
      · rw [decide_eq_true h1]
        refine iteT ?_
        obtain ⟨j, rfl⟩ : ∃ j : Nat, a = (j : Int) := ⟨a.toNat, by omega⟩
        have ej : ns[j]? = some ns[j] := List.getElem?_eq_getElem (by omega)
        generalize ns[j] = x at ej
        refine ⟨_, rfl, p, _, rfl, getK hp0 (pot_cells _ _ _ _), _, rfl, p, _, rfl, getK hp0 (pot_at _ _ _ _), c, _, _, _, rfl, rfl, SqL.of hc, atI_nat (j := j) (by rw [List.getElem?_map, ej]; rfl), ?_⟩
        refine nameI ?_
        refine ⟨_, rfl, p, _, rfl, getK hp0 (pot_at _ _ _ _), _, _, rfl, rfl, _, DPut.k (k := Sum.inr "at") hp0 (by show 4 < sizeLine; decide), ?_⟩
        have t1 := SB.setD (ps := [p]) hp0 (by simp) (.dK (potK c ((j : Int) + 1) l s))
        have hp1 : upd H p (.dK (potK c ((j : Int) + 1) l s)) p = some (.dK (potK c ((j : Int) + 1) l s)) := upd_same
        have hc1 := t1.keep _ _ hc (by simpa using cp)
        rw [put_at]
        generalize upd H p (.dK (potK c ((j : Int) + 1) l s)) = H1 at t1 hp1 hc1
        refine ⟨_, rfl, 10, 18, rfl, rfl, ⟨by decide, by decide⟩, _, _, rfl, rfl, _, rfl, ?_⟩
        by_cases g1 : (10 : Int) ^ (18 : Int).toNat ≤ x
        · rw [decide_eq_true g1]
          refine iteT ?_
          refine ⟨_, rfl, x, rfl, 10, 64, rfl, rfl, ⟨by decide, by decide⟩, 10, 64, rfl, rfl, ⟨by decide, by decide⟩, _, _, rfl, rfl, by unfold CMulW; decide +kernel, 10, 64, rfl, rfl, ⟨by decide, by decide⟩, _, _, rfl, rfl, by unfold CMulW; decide +kernel, 10, 64, rfl, rfl, ⟨by decide, by decide⟩, _, _, rfl, rfl, by unfold CMulW; decide +kernel, 10, 64, rfl, rfl, ⟨by decide, by decide⟩, _, _, rfl, rfl, by unfold CMulW; decide +kernel, _, _, rfl, rfl, (by show (0 : Int) < 10 ^ Int.toNat 64 * 10 ^ Int.toNat 64 * 10 ^ Int.toNat 64 * 10 ^ Int.toNat 64 * 10 ^ Int.toNat 64; decide +kernel), ?_⟩
          refine ⟨_, rfl, p, _, rfl, DPut.k (k := Sum.inr "left") hp1 (by show 4 < sizeLine; decide), ?_⟩
          have t2 := SB.setD (ps := [p]) hp1 (by simp) (.dK (potK c ((j : Int) + 1) ((if x < 0 then -x else x) % (10 ^ 320)) s))
          refine hnx _ _ ⟨(j : Int) + 1, (if x < 0 then -x else x) % (10 ^ 320), s, _, rfl, t1.trans t2, upd_same, t2.keep _ _ hc1 (by simpa using cp), by omega, by omega, ⟨Int.emod_nonneg _ (by decide), Int.emod_lt_of_pos _ (by decide)⟩, ⟨s0, s1⟩⟩
        rw [decide_eq_false g1]
        refine iteF ⟨_, rfl, _, _, rfl, rfl, _, rfl, ?_⟩
        by_cases g2 : x < 0
        · rw [decide_eq_true g2]
          refine iteT ?_
          refine ⟨_, rfl, x, rfl, 10, 64, rfl, rfl, ⟨by decide, by decide⟩, 10, 64, rfl, rfl, ⟨by decide, by decide⟩, _, _, rfl, rfl, by unfold CMulW; decide +kernel, 10, 64, rfl, rfl, ⟨by decide, by decide⟩, _, _, rfl, rfl, by unfold CMulW; decide +kernel, 10, 64, rfl, rfl, ⟨by decide, by decide⟩, _, _, rfl, rfl, by unfold CMulW; decide +kernel, 10, 64, rfl, rfl, ⟨by decide, by decide⟩, _, _, rfl, rfl, by unfold CMulW; decide +kernel, _, _, rfl, rfl, (by show (0 : Int) < 10 ^ Int.toNat 64 * 10 ^ Int.toNat 64 * 10 ^ Int.toNat 64 * 10 ^ Int.toNat 64 * 10 ^ Int.toNat 64; decide +kernel), ?_⟩
          refine ⟨_, rfl, p, _, rfl, DPut.k (k := Sum.inr "left") hp1 (by show 4 < sizeLine; decide), ?_⟩
          have t2 := SB.setD (ps := [p]) hp1 (by simp) (.dK (potK c ((j : Int) + 1) ((if x < 0 then -x else x) % (10 ^ 320)) s))
          refine hnx _ _ ⟨(j : Int) + 1, (if x < 0 then -x else x) % (10 ^ 320), s, _, rfl, t1.trans t2, upd_same, t2.keep _ _ hc1 (by simpa using cp), by omega, by omega, ⟨Int.emod_nonneg _ (by decide), Int.emod_lt_of_pos _ (by decide)⟩, ⟨s0, s1⟩⟩
        rw [decide_eq_false g2]
        refine iteF ?_
        refine ⟨_, rfl, p, _, rfl, getK hp1 (pot_seed _ _ _ _), _, _, rfl, rfl, .inr ⟨by decide, by decide⟩, _, rfl, _, _, rfl, rfl, (by show (0 : Int) < 2147483629; decide), _, _, rfl, rfl, _, _, rfl, rfl, (by show (0 : Int) < 2147483647; decide), ?_⟩
        refine ⟨_, rfl, p, _, rfl, DPut.k (k := Sum.inr "seed") hp1 (by show 4 < sizeLine; decide), ?_⟩
        have t2 := SB.setD (ps := [p]) hp1 (by simp) (.dK (potK c ((j : Int) + 1) l ((s * 48271 + x % 2147483629) % 2147483647)))
        have b1 := Int.emod_nonneg (s * 48271 + x % 2147483629) (show (2147483647 : Int) ≠ 0 by decide)
        have b2 := Int.emod_lt_of_pos (s * 48271 + x % 2147483629) (show (0 : Int) < 2147483647 by decide)
        exact hnx _ _ ⟨(j : Int) + 1, l, (s * 48271 + x % 2147483629) % 2147483647, _, rfl, t1.trans t2, upd_same, t2.keep _ _ hc1 (by simpa using cp), by omega, by omega, ⟨l0, l1⟩, by omega, by omega⟩
      · rw [decide_eq_false h1]
        exact iteF (hnx _ _ ⟨a, l, s, _, rfl, stay, hp0, hc, a0, a1, ⟨l0, l1⟩, ⟨s0, s1⟩⟩)
    · rw [show decide (V.int l = V.int 0) = false from decide_eq_false (fun z => h0 (by injection z))]
      exact iteF (hnx _ _ ⟨a, l, s, _, rfl, stay, hp0, hc, a0, a1, ⟨l0, l1⟩, ⟨s0, s1⟩⟩)
  · obtain ⟨a, l, s, o2, rfl, s2, hp2, hc2, a0, a1, ⟨l0, l1⟩, ⟨s0, s1⟩⟩ := h
    have cp : c ≠ p := fun z => by rw [z, hp2] at hc2; cases hc2
    refine seq_via (fun σ' G2 => σ' = [some (.ref p), some (.int m), o2, none, none] ∧ G2 = G ∧ l = 0) (fun nx hnx => ?_) (fun σ' G2 h => ?_)
    · refine ⟨_, rfl, p, _, rfl, getK hp2 (pot_left _ _ _ _), _, _, rfl, rfl, _, rfl, ?_⟩
      by_cases h0 : 0 < l
      · rw [decide_eq_true h0]
        refine iteT ?_
        refine ⟨_, rfl, p, _, rfl, getK hp2 (pot_left _ _ _ _), _, rfl, _, _, rfl, rfl, (show (0 : Int) < m by omega), ?_⟩
        refine nameI ?_
        refine ⟨_, rfl, p, _, rfl, getK hp2 (pot_left _ _ _ _), _, rfl, _, _, rfl, rfl, ⟨by omega, Nat.lt_of_lt_of_le ((Nat.log2_lt (show m.natAbs ≠ 0 by omega)).mpr (show m.natAbs < 2 ^ 250 by omega)) (by decide)⟩, ?_⟩
        refine ⟨_, rfl, p, _, rfl, DPut.k (k := Sum.inr "left") hp2 (by show 4 < sizeLine; decide), ?_⟩
        have t2 := SB.setD (ps := [p]) hp2 (by simp) (.dK (potK c a (l / m) s))
        refine ⟨_, rfl, q _ _ (Int.emod_nonneg _ (by omega)) (Int.emod_lt_of_pos _ (by omega)) (s2.trans t2) ⟨c, ns, a, l / m, s, upd_same, t2.keep _ _ hc2 (by simpa using cp), nl, a0, a1, ⟨Int.ediv_nonneg l0 (by omega), Int.lt_of_le_of_lt (Int.ediv_le_self m l0) l1⟩, ⟨s0, s1⟩⟩⟩
      · rw [decide_eq_false h0]
        exact iteF (hnx _ _ ⟨rfl, rfl, by omega⟩)
    · obtain ⟨rfl, rfl, rfl⟩ := h
      have e31 : (2 : Int) ^ 31 = 2147483648 := by decide
      refine ⟨_, rfl, p, _, rfl, getK hp2 (pot_seed _ _ _ _), _, _, rfl, rfl, .inr ⟨by decide, by decide⟩, _, _, rfl, rfl, _, _, rfl, rfl, (by show (0 : Int) < 2147483629; decide), ?_⟩
      have b1 := Int.emod_nonneg (s * 69621 + 16807) (show (2147483629 : Int) ≠ 0 by decide)
      have b2 := Int.emod_lt_of_pos (s * 69621 + 16807) (show (0 : Int) < 2147483629 by decide)
      refine nameI ?_
      refine ⟨_, rfl, _, rfl, p, _, rfl, DPut.k (k := Sum.inr "seed") hp2 (by show 4 < sizeLine; decide), ?_⟩
      have t2 := SB.setD (ps := [p]) hp2 (by simp) (.dK (potK c a 0 ((s * 69621 + 16807) % 2147483629)))
      have m1 : CMul ((s * 69621 + 16807) % 2147483629) ((s * 69621 + 16807) % 2147483629) := .inl ⟨Int.lt_of_lt_of_le (by decide) b1, Int.lt_trans b2 (by decide)⟩
      refine ⟨_, rfl, _, rfl, _, _, rfl, rfl, m1, _, _, rfl, rfl, (by show (0 : Int) < 2147483587; decide), _, _, rfl, rfl, .inr ⟨by decide, by decide⟩, _, rfl, _, _, rfl, rfl, ⟨by decide, by decide⟩, _, _, rfl, rfl, _, rfl, _, _, rfl, rfl, (show (0 : Int) < m by omega), ?_⟩
      exact q _ _ (Int.emod_nonneg _ (by omega)) (Int.emod_lt_of_pos _ (by omega)) (s2.trans t2) ⟨c, ns, a, 0, ((s * 69621 + 16807) % 2147483629), upd_same, t2.keep _ _ hc2 (by simpa using cp), nl, a0, a1, ⟨by omega, by decide⟩, ⟨b1, by omega⟩⟩
end
end FT
namespace FT
open PySem PySem.W PySem.Spec PyProof.Rows L2
section
variable {P : Program} {w : World} {K : PySem.W.Frag} {mg : Str → Option Value} {base : Heap} {f : Addr} {fd : FuncData}
abbrev N__law_less : List Str := ["_law_one", "_law_other", "_law_pair", "_law_more"]
theorem sc__law_less : FnScope N__law_less ["_law_one", "_law_other"] (defScope s__law_less) := ⟨rfl, rfl, rfl, by decide +kernel, rfl, by decide +kernel, by decide +kernel⟩
theorem none__law_lessq {ps : List Str} {k : Nat} : FnOk P w K mg base CX0 k f fd ps (spLLess K 0) := none_sp fun vs H Q E ⟨v, u, l, k, _, _, _, h, _⟩ => by omega
theorem ok__law_less {n : Nat} (B : BI mg) (G__law_less : Got P w K mg base "_law_less" ["_law_one", "_law_other"] (n) (spLLess K n)) (F : Fun K "_law_less" "_law_less" s__law_less f fd) : FnOk P w K mg base CX0 (n + 1) f fd ["_law_one", "_law_other"] (spLLess K (n + 1)) := by
  refine F.ok sc__law_less (fun vs H Q E h => ?_) (fun cdv A outer s H vs Q E hr h => ?_)
  · obtain ⟨v, u, l, o, rfl, _⟩ := h
    rfl
  obtain ⟨v, u, l, o, rfl, hv, hu, hdn, hd, hd2, q⟩ := h
  have hun2 : A.units + 3 + 200 < cLine := by have := hr.un; have h3 : (A.deeper (envOfC "_law_less" (defScope s__law_less) s.heap.objs.size f cdv)).units = A.units + 3 := rfl; omega
  refine ⟨_, pss_cons (ps_for PassesOwn.never rfl (RZ.pi_zipA rfl B.zip (pa_cons (pv 0) (pa_cons (pv 1) pa_nil))) (pg_tup rfl (pgs_cons (pg_name (i := 2) sc__law_less.nd rfl (.inl rfl)) (pgs_cons (pg_name (i := 3) sc__law_less.nd rfl (.inl rfl)) pgs_nil)))
      (pss_one (ps_if (pt_cmpR (op_neD (by show A.units + 3 + 64 < cLine; omega)) (pv 2) (pv 3) (nomark _)) (pss_cons (ps_if (pt_cmpR (op_neD (by show A.units + 3 + 64 < cLine; omega)) (pe_ix ix_tup (pv 2) pe_int (fun _ _ => rfl)) (pe_ix ix_tup (pv 3) pe_int (fun _ _ => rfl)) (nomark _)) (pss_one (ps_ret (pe_got G__law_less (hr.mono (by omega)) rfl (pa_cons (pe_ix ix_tup (pv 2) pe_int (fun _ _ => rfl)) (pa_cons (pe_ix ix_tup (pv 3) pe_int (fun _ _ => rfl)) pa_nil))))) pss_nil)
    (pss_one (ps_ret (pe_cmpR op_lt (pe_ix ix_tup (pv 2) pe_int (fun _ _ => rfl)) (pe_ix ix_tup (pv 3) pe_int (fun _ _ => rfl)) (nomark _))))) pss_nil)))
    (pss_one (ps_ret (pe_cmpR op_lt (pe_callB call_len_seq rfl B.len PySem.boot_len (pa_cons (pv 0) pa_nil)) (pe_callB call_len_seq rfl B.len PySem.boot_len (pa_cons (pv 1) pa_nil)) (nomark _)))), ?_⟩
  have szl := sizeLine_eq
  obtain ⟨a, xs, rfl, hsa, hba⟩ := LA_bears hv
  obtain ⟨b, ys, rfl, hsb, hbb⟩ := LA_bears hu
  have xl := hba.length
  have yl := hbb.length
  refine ⟨_, rfl, _, rfl, a, b, xs, ys, rfl, .inr ⟨hsa, hsb, ?_⟩⟩
  refine for_it (walk_zipT (xs := xs) (ys := ys) (n := min xs.length ys.length) rfl) (fun i σ H2 => SB [] H H2 ∧ (∃ o2 o3 : Option V, σ = [some (.ref a), some (.ref b), o2, o3]) ∧ i ≤ l.ps.length ∧ i ≤ o.ps.length ∧ l.lt o = (Lad.ofPs (l.ps.drop i)).lt (Lad.ofPs (o.ps.drop i))) ⟨SB.refl, ⟨none, none, rfl⟩, Nat.zero_le _, Nat.zero_le _, by rw [List.drop_zero, List.drop_zero, Lad.ofPs_ps, Lad.ofPs_ps]⟩ (fun i σ H2 hi h2 => ⟨h2.1.sqT hsa, h2.1.sqT hsb⟩) (fun i x σ H2 H' hi h2 y => ?_) (fun σ H2 h2 => ?_)
  · obtain ⟨s2, ⟨o2, o3, rfl⟩, il, io, hlt⟩ := h2
    obtain ⟨T, e1, e2, rfl, hT, rfl, ee1, ee2⟩ := y
    obtain ⟨p1, ep1, hp1⟩ := hba.get ee1
    obtain ⟨p2, ep2, hp2⟩ := hbb.get ee2
    obtain ⟨a1, u1, rfl, hs1, hl1⟩ := LA_pair hp1
    obtain ⟨a2, u2, rfl, hs2, hl2⟩ := LA_pair hp2
    have d1 := l.mem_deep p1 (List.mem_of_getElem? ep1)
    have d2 := o.mem_deep p2 (List.mem_of_getElem? ep2)
    have i1 := (List.getElem?_eq_some_iff.mp ep1).1
    have i2 := (List.getElem?_eq_some_iff.mp ep2).1
    rw [Lad.lt_drop ep1 ep2] at hlt
    have t3 := SB.new (ps := []) hT (.tup [.ref a1, .ref a2])
    have hT3 : SqT K (upd H2 T (.tup [.ref a1, .ref a2])) T [.ref a1, .ref a2] := SqT.of upd_same
    have s3 := s2.trans t3
    generalize upd H2 T (.tup [.ref a1, .ref a2]) = H3 at t3 hT3 s3
    have hp13 := Dp_sb s3 _ _ (Lad.pEnc_noList _) hp1
    have hp23 := Dp_sb s3 _ _ (Lad.pEnc_noList _) hp2
    refine ⟨T, _, rfl, hT3, rfl, _, _, rfl, _, _, rfl, rfl, ?_⟩
    refine ⟨_, rfl, _, rfl, Lad.pEnc p1, Lad.pEnc p2, hp13, hp23, Lad.shaped_pEnc (by omega), Lad.shaped_pEnc (by omega), _, rfl, ?_⟩
    rw [Lad.eqv_pEnc]
    by_cases he : p1.1 = p2.1
    · by_cases hm : p1.2 = p2.2
      · rw [show (!(decide (p1.1 = p2.1) && decide (p1.2 = p2.2))) = false by simp [he, hm]]
        rw [if_pos he, if_pos hm] at hlt
        exact iteF ⟨s3, ⟨_, _, rfl⟩, by omega, by omega, hlt⟩
      · rw [show (!(decide (p1.1 = p2.1) && decide (p1.2 = p2.2))) = true by simp [hm]]
        rw [if_pos he, if_neg hm] at hlt
        refine iteT ?_
        refine ⟨_, rfl, a1, _, _, _, rfl, rfl, s3.sqT hs1, atI_nat (j := 0) rfl, _, rfl, a2, _, _, _, rfl, rfl, s3.sqT hs2, atI_nat (j := 0) rfl, p1.1.enc, p2.1.enc, hl1.sb s3, hl2.sb s3, Lad.shaped_enc (by omega), Lad.shaped_enc (by omega), _, rfl, ?_⟩
        rw [Lad.eqv_enc, show (!decide (p1.1 = p2.1)) = false by simp [he]]
        refine iteF ?_
        refine ⟨_, rfl, a1, _, _, _, rfl, rfl, s3.sqT hs1, atI_nat (j := 1) rfl, _, rfl, a2, _, _, _, rfl, rfl, s3.sqT hs2, atI_nat (j := 1) rfl, _, _, rfl, rfl, ?_⟩
        have := q H3 s3
        rw [hlt] at this
        exact this
    · rw [show (!(decide (p1.1 = p2.1) && decide (p1.2 = p2.2))) = true by simp [he]]
      rw [if_neg he] at hlt
      refine iteT ?_
      refine ⟨_, rfl, a1, _, _, _, rfl, rfl, s3.sqT hs1, atI_nat (j := 0) rfl, _, rfl, a2, _, _, _, rfl, rfl, s3.sqT hs2, atI_nat (j := 0) rfl, p1.1.enc, p2.1.enc, hl1.sb s3, hl2.sb s3, Lad.shaped_enc (by omega), Lad.shaped_enc (by omega), _, rfl, ?_⟩
      rw [Lad.eqv_enc, show (!decide (p1.1 = p2.1)) = true by simp [he]]
      refine iteT ?_
      refine ⟨_, rfl, a1, _, _, _, rfl, rfl, s3.sqT hs1, atI_nat (j := 0) rfl, _, rfl, a2, _, _, _, rfl, rfl, s3.sqT hs2, atI_nat (j := 0) rfl, u1, u2, p1.1, p2.1, rfl, hl1.sb s3, hl2.sb s3, by omega, by omega, by omega, fun H4 s4 => ?_⟩
      have := q H4 (s3.trans s4)
      rw [hlt] at this
      exact this
  · obtain ⟨s2, ⟨o2, o3, rfl⟩, il, io, hlt⟩ := h2
    have hend := Lad.lt_end il io (by omega)
    refine ⟨_, rfl, a, xs, rfl, .inr (s2.sqT hsa), _, rfl, b, ys, rfl, .inr (s2.sqT hsb), _, _, rfl, rfl, ?_⟩
    have := q H2 s2
    rw [hlt, hend] at this
    have e : decide ((xs.length : Int) < (ys.length : Int)) = (decide (min xs.length ys.length = l.ps.length) && decide (min xs.length ys.length < o.ps.length)) := by
      by_cases h : xs.length < ys.length
      · have h1 : min xs.length ys.length = l.ps.length := by omega
        have h2 : min xs.length ys.length < o.ps.length := by omega
        rw [decide_eq_true h1, decide_eq_true h2, decide_eq_true (by omega)]; rfl
      · have h2 : ¬ min xs.length ys.length < o.ps.length := by omega
        rw [decide_eq_false h2, Bool.and_false, decide_eq_false (by omega)]
    rw [← e] at this
    exact this
end
end FT
namespace FT
open PySem PySem.W PySem.Spec PyProof.Rows L2
section
variable {P : Program} {w : World} {K : PySem.W.Frag} {mg : Str → Option Value} {base : Heap} {f : Addr} {fd : FuncData}
abbrev N__law_both : List Str := ["_law_one", "_law_other", "_law_found", "_law_left", "_law_right"]
theorem sc__law_both : FnScope N__law_both ["_law_one", "_law_other"] (defScope s__law_both) := ⟨rfl, rfl, rfl, by decide +kernel, rfl, by decide +kernel, by decide +kernel⟩
theorem ok__law_both (B : BI mg) (G__law_less : Got P w K mg base "_law_less" ["_law_one", "_law_other"] (40) (spLLess K 40)) (F : Fun K "_law_both" "_law_both" s__law_both f fd) : FnOk P w K mg base CX0 (41) f fd ["_law_one", "_law_other"] (spBothQ K) := by
  refine F.ok sc__law_both (fun vs H Q E h => ?_) (fun cdv A outer s H vs Q E hr h => ?_)
  · obtain ⟨v, u, l, k, rfl, _⟩ := h
    rfl
  obtain ⟨v, u, l, k, rfl, hv, hu, hd, hd2, hp, hp2, q⟩ := h
  have hun2 : A.units + 3 + 200 < cLine := by have := hr.un; have h3 : (A.deeper (envOfC "_law_both" (defScope s__law_both) s.heap.objs.size f cdv)).units = A.units + 3 := rfl; omega
  refine ⟨_, pss_cons (ps_set (i := 2) sc__law_both.nd rfl (.inl rfl) (pe_lst pa_nil))
    (pss_cons (ps_set (i := 3) sc__law_both.nd rfl (.inl rfl) (pe_callTy call_list_of rfl B.list boot_list (pa_cons (pv 0) pa_nil)))
    (pss_cons (ps_set (i := 4) sc__law_both.nd rfl (.inl rfl) (pe_callTy call_list_of rfl B.list boot_list (pa_cons (pv 1) pa_nil)))
    (pss_cons (ps_while PassesOwn.never (PW.pt (pw_and (pt_cmpR (op_neD (by show A.units + 3 + 64 < cLine; omega)) (pv 3) (pe_lst pa_nil) (nomark _)) (pw_and1 (pt_cmpR (op_neD (by show A.units + 3 + 64 < cLine; omega)) (pv 4) (pe_lst pa_nil) (nomark _))))) (pss_one (ps_if (pt_cmpR (op_eqD (by show A.units + 3 + 64 < cLine; omega)) (pe_ix ix_tup (pe_ix ix_list (pv 3) pe_int (fun _ _ => rfl)) pe_int (fun _ _ => rfl)) (pe_ix ix_tup (pe_ix ix_list (pv 4) pe_int (fun _ _ => rfl)) pe_int (fun _ _ => rfl)) (nomark _)) (pss_one (ps_expr (pe_bm PySem.F.plainAttrs_list PySem.F.slot_list_append PySem.F.type_list_append mt_append (pv 2) (pa_cons (pe_tup (pa_cons (pe_ix ix_tup (pe_ix ix_list (pv 3) pe_int (fun _ _ => rfl)) pe_int (fun _ _ => rfl)) (pa_cons (pe_op op_add (pe_ix ix_tup (pe_bm PySem.F.plainAttrs_list PySem.F.slot_list_pop PySem.F.type_list_pop mt_popAt (pv 3) (pa_cons pe_int pa_nil)) pe_int (fun _ _ => rfl)) (pe_ix ix_tup (pe_bm PySem.F.plainAttrs_list PySem.F.slot_list_pop PySem.F.type_list_pop mt_popAt (pv 4) (pa_cons pe_int pa_nil)) pe_int (fun _ _ => rfl))) pa_nil))) pa_nil)))) (pss_one (ps_if (pt_val (pe_got G__law_less (hr.mono (by omega)) rfl (pa_cons (pe_ix ix_tup (pe_ix ix_list (pv 3) pe_int (fun _ _ => rfl)) pe_int (fun _ _ => rfl)) (pa_cons (pe_ix ix_tup (pe_ix ix_list (pv 4) pe_int (fun _ _ => rfl)) pe_int (fun _ _ => rfl)) pa_nil)))) (pss_one (ps_expr (pe_bm PySem.F.plainAttrs_list PySem.F.slot_list_append PySem.F.type_list_append mt_append (pv 2) (pa_cons (pe_bm PySem.F.plainAttrs_list PySem.F.slot_list_pop PySem.F.type_list_pop mt_popAt (pv 4) (pa_cons pe_int pa_nil)) pa_nil)))) (pss_one (ps_expr (pe_bm PySem.F.plainAttrs_list PySem.F.slot_list_append PySem.F.type_list_append mt_append (pv 2) (pa_cons (pe_bm PySem.F.plainAttrs_list PySem.F.slot_list_pop PySem.F.type_list_pop mt_popAt (pv 3) (pa_cons pe_int pa_nil)) pa_nil)))))))))
    (pss_one (ps_ret (pe_callTy call_tuple_of rfl B.tuple boot_tuple (pa_cons (pe_op op_cat (pe_op op_cat (pv 2) (pv 3)) (pv 4)) pa_nil))))))), ?_⟩
  have szl := sizeLine_eq
  obtain ⟨a, xs, rfl, hsa, hba⟩ := LA_bears hv
  obtain ⟨b, ys, rfl, hsb, hbb⟩ := LA_bears hu
  have xl := hba.length
  have yl := hbb.length
  have llp := l.len_parts
  have klp := k.len_parts
  rw [← Lad.ps_length] at llp klp
  have ld : ∀ p ∈ l.ps, p.1.deep ≤ 24 := fun p hp => by have := l.mem_deep p hp; omega
  have kd : ∀ p ∈ k.ps, p.1.deep ≤ 24 := fun p hp => by have := k.mem_deep p hp; omega
  refine ⟨by show 0 ≤ sizeLine; decide, fun D hD => ?_⟩
  have t0 := SB.new (ps := []) hD (.lst [])
  have hD0 : upd H D (.lst []) D = some (.lst []) := upd_same
  generalize upd H D (.lst []) = H0 at t0 hD0
  refine nameI ?_
  refine ⟨_, rfl, a, _, rfl, .inr (t0.sqT hsa), fun A hA => ?_⟩
  have t1 := SB.new (ps := []) hA (.lst xs)
  have hA1 : upd H0 A (.lst xs) A = some (.lst xs) := upd_same
  have hD1 := t1.keep _ _ hD0 List.not_mem_nil
  have DA : D ≠ A := ne_of_none hD0 hA
  have s1 := t0.trans t1
  have nA : H A = none := t0.dom _ hA
  generalize upd H0 A (.lst xs) = H1 at t1 hA1 hD1 s1
  refine nameI ?_
  refine ⟨_, rfl, b, _, rfl, .inr (s1.sqT hsb), fun B hB => ?_⟩
  have t2 := SB.new (ps := []) hB (.lst ys)
  have hB2 : upd H1 B (.lst ys) B = some (.lst ys) := upd_same
  have hD2 := t2.keep _ _ hD1 List.not_mem_nil
  have hA2 := t2.keep _ _ hA1 List.not_mem_nil
  have DB : D ≠ B := ne_of_none hD1 hB
  have AB : A ≠ B := ne_of_none hA1 hB
  have s2 := s1.trans t2
  have nB : H B = none := s1.dom _ hB
  generalize upd H1 B (.lst ys) = H2 at t2 hB2 hD2 hA2 s2
  refine nameI ?_
  refine ⟨fun mm σ G => ∃ (F L R : List (Lad × Int)) (fs ls rs : List V), mm = L.length + R.length ∧ SB [D, A, B] H G ∧ σ = [some (.ref a), some (.ref b), some (.ref D), some (.ref A), some (.ref B)] ∧ G D = some (.lst fs) ∧ G A = some (.lst ls) ∧ G B = some (.lst rs) ∧ Bears K G Lad.pEnc fs F ∧ Bears K G Lad.pEnc ls L ∧ Bears K G Lad.pEnc rs R ∧ Lad.mrg l k = Lad.ofPs (F ++ (Lad.mrg (Lad.ofPs L) (Lad.ofPs R)).ps) ∧ F.length + L.length + R.length ≤ 10000 ∧ (∀ p ∈ L, p.1.deep ≤ 24) ∧ (∀ p ∈ R, p.1.deep ≤ 24),
    ⟨_, [], l.ps, k.ps, [], xs, ys, rfl, s2.nil, rfl, hD2, hA2, hB2, .nil, hba.sb s2 Lad.pEnc_noList, hbb.sb s2 Lad.pEnc_noList, by rw [List.nil_append, Lad.ofPs_ps, Lad.ofPs_ps, Lad.ofPs_ps], by show 0 + _ + _ ≤ _; omega, ld, kd⟩, fun mm σ G hG => ?_⟩
  obtain ⟨F, L, R, fs, ls, rs, rfl, s3, rfl, hD3, hA3, hB3, hF, hL, hR, hmr, hlen, Ld, Rd⟩ := hG
  have fl := hF.length
  have ll := hL.length
  have rl := hR.length
  -- what is behind the loop
  have fin : L = [] ∨ R = [] → ∀ G2, SB [] G G2 → tRet (tCB (fun xs H_1 Q => ∃ p ys, xs = [V.ref p] ∧ ((SqL K H_1 p ys ∧ ∀ l, H_1 l = none → Q (V.ref l) (upd H_1 l (HO.tup ys))) ∨ (SqT K H_1 p ys ∧ Q (V.ref p) H_1))) (tCons (tOp rCat (tOp rCat (tVar 2) (tVar 3)) (tVar 4)) tNil)) { nx := fun x H' => Q V.non H', rt := Q } [some (.ref a), some (.ref b), some (.ref D), some (.ref A), some (.ref B)] G2 := fun hor G2 u => by
    have hD4 := u.keep _ _ hD3 List.not_mem_nil
    have hA4 := u.keep _ _ hA3 List.not_mem_nil
    have hB4 := u.keep _ _ hB3 List.not_mem_nil
    refine ⟨_, rfl, _, rfl, D, A, _, _, rfl, rfl, hD4, hA4, by omega, fun M hM => ?_⟩
    have t5 := SB.new (ps := []) hM (.lst (fs ++ ls))
    have hM5 : upd G2 M (.lst (fs ++ ls)) M = some (.lst (fs ++ ls)) := upd_same
    have hB5 := t5.keep _ _ hB4 List.not_mem_nil
    generalize upd G2 M (.lst (fs ++ ls)) = G5 at t5 hM5 hB5
    refine ⟨_, rfl, M, B, _, _, rfl, rfl, hM5, hB5, by rw [List.length_append]; omega, fun N hN => ?_⟩
    have t6 := SB.new (ps := []) hN (.lst (fs ++ ls ++ rs))
    have hN6 : upd G5 N (.lst (fs ++ ls ++ rs)) N = some (.lst (fs ++ ls ++ rs)) := upd_same
    generalize upd G5 N (.lst (fs ++ ls ++ rs)) = G6 at t6 hN6
    refine ⟨N, _, rfl, .inl ⟨SqL.of hN6, fun T nT => ?_⟩⟩
    have t7 := SB.new (ps := []) nT (.tup (fs ++ ls ++ rs))
    have u7 := ((u.trans t5).trans t6).trans t7
    refine q (.ref T) _ ((((s3.trans u7.nil).drop hD).drop nA).drop nB) ?_
    have e : Lad.mrg l k = Lad.ofPs (F ++ L ++ R) := by
      rw [hmr]
      rcases hor with h | h
      · rw [h, show Lad.ofPs ([] : List (Lad × Int)) = .nil from rfl, Lad.mrg_nil_l, Lad.ps_ofPs, List.append_nil]
      · rw [h, show Lad.ofPs ([] : List (Lad × Int)) = .nil from rfl, Lad.mrg_nil_r, Lad.ps_ofPs, List.append_nil]
    rw [e]
    exact Bears_la (SqT.of upd_same) (((hF.sb u7 Lad.pEnc_noList).append (hL.sb u7 Lad.pEnc_noList)).append (hR.sb u7 Lad.pEnc_noList))
  refine ⟨_, rfl, by show 0 ≤ sizeLine; decide, fun z0 nz0 => ?_⟩
  have t4 := SB.new (ps := []) nz0 (.lst [])
  have hz4 : upd G z0 (.lst []) z0 = some (.lst []) := upd_same
  generalize upd G z0 (.lst []) = G4 at t4 hz4
  refine ⟨.list (L.map Lad.pEnc), .list [], Dp.lst (SqL.of (t4.keep _ _ hA3 List.not_mem_nil)) (Bears_dp (hL.sb t4 Lad.pEnc_noList)), Dp.lst (SqL.of hz4) .nil, Lad.shaped_rows Ld, by decide +kernel, _, rfl, ?_⟩
  cases hLc : L with
  | nil =>
    rw [show (!PyData.eqv (.list (([] : List (Lad × Int)).map Lad.pEnc)) (.list [])) = false by simp [PyData.eqv, PyData.eqvAll]]
    exact iteF (iteF (fin (.inl hLc) G4 t4))
  | cons p1 L2 =>
  rw [show (!PyData.eqv (.list ((p1 :: L2).map Lad.pEnc)) (.list [])) = true by simp [PyData.eqv, PyData.eqvAll]]
  refine iteT ?_
  refine ⟨_, rfl, by show 0 ≤ sizeLine; decide, fun z1 nz1 => ?_⟩
  have t5 := SB.new (ps := []) nz1 (.lst [])
  have hz5 : upd G4 z1 (.lst []) z1 = some (.lst []) := upd_same
  have u5 := t4.trans t5
  generalize upd G4 z1 (.lst []) = G5 at t5 hz5 u5
  have hD5 := u5.keep _ _ hD3 List.not_mem_nil
  have hA5 := u5.keep _ _ hA3 List.not_mem_nil
  have hB5 := u5.keep _ _ hB3 List.not_mem_nil
  have hF5 := hF.sb u5 Lad.pEnc_noList
  have hL5 := hL.sb u5 Lad.pEnc_noList
  have hR5 := hR.sb u5 Lad.pEnc_noList
  refine ⟨.list (R.map Lad.pEnc), .list [], Dp.lst (SqL.of hB5) (Bears_dp hR5), Dp.lst (SqL.of hz5) .nil, Lad.shaped_rows Rd, by decide +kernel, _, rfl, ?_⟩
  cases hRc : R with
  | nil =>
    rw [show (!PyData.eqv (.list (([] : List (Lad × Int)).map Lad.pEnc)) (.list [])) = false by simp [PyData.eqv, PyData.eqvAll]]
    exact iteF (fin (.inr hRc) G5 u5)
  | cons p2 R2 =>
  rw [show (!PyData.eqv (.list ((p2 :: R2).map Lad.pEnc)) (.list [])) = true by simp [PyData.eqv, PyData.eqvAll]]
  refine iteT ⟨_, fun σ' H' h => h, ?_⟩
  subst hLc hRc
  have s5 : SB [D, A, B] H G5 := s3.trans u5.nil
  cases hL5 with
  | @cons v1 ls2 _ _ hv1 hL5 =>
  cases hR5 with
  | @cons v2 rs2 _ _ hv2 hR5 =>
  obtain ⟨a1, u1, rfl, hs1, hl1⟩ := LA_pair hv1
  obtain ⟨a2, u2, rfl, hs2, hl2⟩ := LA_pair hv2
  obtain ⟨e1, m1⟩ := p1
  obtain ⟨e2, m2⟩ := p2
  have ed1 : e1.deep ≤ 24 := Ld (e1, m1) (List.mem_cons_self ..)
  have ed2 : e2.deep ≤ 24 := Rd (e2, m2) (List.mem_cons_self ..)
  have Ld2 : ∀ p ∈ L2, p.1.deep ≤ 24 := fun p hp => Ld p (List.mem_cons_of_mem _ hp)
  have Rd2 : ∀ p ∈ R2, p.1.deep ≤ 24 := fun p hp => Rd p (List.mem_cons_of_mem _ hp)
  rw [show Lad.ofPs ((e1, m1) :: L2) = .cons e1 m1 (Lad.ofPs L2) from rfl, show Lad.ofPs ((e2, m2) :: R2) = .cons e2 m2 (Lad.ofPs R2) from rfl, Lad.mrg_cons] at hmr
  have le1 : ((e1, m1) :: L2).length = L2.length + 1 := rfl
  have le2 : ((e2, m2) :: R2).length = R2.length + 1 := rfl
  rw [le1, le2] at hlen
  refine ⟨_, rfl, A, _, _, _, rfl, rfl, SqL.of hA5, atI_nat (j := 0) rfl, a1, _, _, _, rfl, rfl, hs1, atI_nat (j := 0) rfl, _, rfl, B, _, _, _, rfl, rfl, SqL.of hB5, atI_nat (j := 0) rfl, a2, _, _, _, rfl, rfl, hs2, atI_nat (j := 0) rfl, e1.enc, e2.enc, hl1, hl2, Lad.shaped_enc (by omega), Lad.shaped_enc (by omega), _, rfl, ?_⟩
  rw [Lad.eqv_enc]
  by_cases he : e1 = e2
  · subst he
    rw [decide_eq_true rfl]
    rw [if_pos rfl] at hmr
    refine iteT ?_
    refine ⟨_, rfl, .inl ⟨rfl, _, SqL.of hD5⟩, _, rfl, A, _, _, _, rfl, rfl, SqL.of hA5, atI_nat (j := 0) rfl, a1, _, _, _, rfl, rfl, hs1, atI_nat (j := 0) rfl, ?_⟩
    have zA : (V.ref a1 :: ls2).length = ls2.length + 1 := rfl
    have zB : (V.ref a2 :: rs2).length = rs2.length + 1 := rfl
    refine ⟨_, rfl, .inl ⟨rfl, _, SqL.of hA5⟩, A, _, _, 0, .ref a1, rfl, rfl, hA5, by omega, by omega, by rw [PySem.seqIndex_of (by omega) (by omega)]; rfl, rfl, ?_⟩
    have t6 := SB.set (ps := [A]) hA5 (by simp) (.lst ls2)
    have hA6 : upd G5 A (.lst ls2) A = some (.lst ls2) := upd_same
    have hB6 := t6.keep _ _ hB5 (by simpa using fun z : B = A => AB z.symm)
    have hD6 := t6.keep _ _ hD5 (by simpa using DA)
    rw [show ((V.ref a1 :: ls2).eraseIdx 0) = ls2 from rfl]
    generalize upd G5 A (.lst ls2) = G6 at t6 hA6 hB6 hD6
    refine ⟨a1, _, _, _, rfl, rfl, t6.sqT hs1, atI_nat (j := 1) rfl, ?_⟩
    refine ⟨_, rfl, .inl ⟨rfl, _, SqL.of hB6⟩, B, _, _, 0, .ref a2, rfl, rfl, hB6, by omega, by omega, by rw [PySem.seqIndex_of (by omega) (by omega)]; rfl, rfl, ?_⟩
    have t7 := SB.set (ps := [B]) hB6 (by simp) (.lst rs2)
    have hB7 : upd G6 B (.lst rs2) B = some (.lst rs2) := upd_same
    have hA7 := t7.keep _ _ hA6 (by simpa using AB)
    have hD7 := t7.keep _ _ hD6 (by simpa using DB)
    rw [show ((V.ref a2 :: rs2).eraseIdx 0) = rs2 from rfl]
    generalize upd G6 B (.lst rs2) = G7 at t7 hB7 hA7 hD7
    refine ⟨a2, _, _, _, rfl, rfl, t7.sqT (t6.sqT hs2), atI_nat (j := 1) rfl, _, _, rfl, rfl, ?_⟩
    refine ⟨by show 2 ≤ sizeLine; decide, fun T nT => ?_⟩
    have t8 := SB.new (ps := []) nT (.tup [u1, .int (m1 + m2)])
    have hT8 : SqT K (upd G7 T (.tup [u1, .int (m1 + m2)])) T [u1, .int (m1 + m2)] := SqT.of upd_same
    have hA8 := t8.keep _ _ hA7 List.not_mem_nil
    have hB8 := t8.keep _ _ hB7 List.not_mem_nil
    have hD8 := t8.keep _ _ hD7 List.not_mem_nil
    generalize upd G7 T (.tup [u1, .int (m1 + m2)]) = G8 at t8 hT8 hA8 hB8 hD8
    have s58 : SB [D, A, B] G5 G8 := ((t6.mono (by simp)).trans (t7.mono (by simp))).trans t8.nil
    refine ⟨D, _, _, rfl, rfl, hD8, by omega, ?_⟩
    have t9 := SB.set (ps := [D]) hD8 (by simp) (.lst (fs ++ [.ref T]))
    have s59 : SB [D, A, B] G5 _ := s58.trans (t9.mono (by simp))
    refine ⟨_, ?_, F ++ [(e1, m1 + m2)], L2, R2, fs ++ [.ref T], ls2, rs2, rfl, s5.trans s59, rfl, upd_same, t9.keep _ _ hA8 (by simpa using fun z : A = D => DA z.symm), t9.keep _ _ hB8 (by simpa using fun z : B = D => DB z.symm), (hF5.sb s59 Lad.pEnc_noList).append (.cons (Dp.tup (t9.sqT hT8) (.cons (LA.sb hl1 s59) (.cons (.int _) .nil))) .nil), hL5.sb s59 Lad.pEnc_noList, hR5.sb s59 Lad.pEnc_noList, ?_, ?_, Ld2, Rd2⟩
    · rw [le1, le2]; omega
    · rw [hmr, List.append_assoc]; rfl
    · rw [List.length_append, List.length_singleton]; omega
  · rw [decide_eq_false he]
    rw [if_neg he] at hmr
    refine iteF ?_
    refine ⟨_, rfl, A, _, _, _, rfl, rfl, SqL.of hA5, atI_nat (j := 0) rfl, a1, _, _, _, rfl, rfl, hs1, atI_nat (j := 0) rfl, _, rfl, B, _, _, _, rfl, rfl, SqL.of hB5, atI_nat (j := 0) rfl, a2, _, _, _, rfl, rfl, hs2, atI_nat (j := 0) rfl, u1, u2, e1, e2, rfl, hl1, hl2, by omega, by omega, by omega, fun G6 s6 => ?_⟩
    have zA : (V.ref a1 :: ls2).length = ls2.length + 1 := rfl
    have zB : (V.ref a2 :: rs2).length = rs2.length + 1 := rfl
    have hA6 := s6.keep _ _ hA5 List.not_mem_nil
    have hB6 := s6.keep _ _ hB5 List.not_mem_nil
    have hD6 := s6.keep _ _ hD5 List.not_mem_nil
    cases hlt : e1.lt e2 with
    | true =>
      rw [if_pos hlt] at hmr
      refine ⟨_, rfl, iteT ?_⟩
      refine ⟨_, rfl, .inl ⟨rfl, _, SqL.of hD6⟩, _, rfl, .inl ⟨rfl, _, SqL.of hB6⟩, B, _, _, 0, .ref a2, rfl, rfl, hB6, by omega, by omega, by rw [PySem.seqIndex_of (by omega) (by omega)]; rfl, rfl, ?_⟩
      have t7 := SB.set (ps := [B]) hB6 (by simp) (.lst rs2)
      have hB7 : upd G6 B (.lst rs2) B = some (.lst rs2) := upd_same
      have hA7 := t7.keep _ _ hA6 (by simpa using AB)
      have hD7 := t7.keep _ _ hD6 (by simpa using DB)
      rw [show ((V.ref a2 :: rs2).eraseIdx 0) = rs2 from rfl]
      generalize upd G6 B (.lst rs2) = G7 at t7 hB7 hA7 hD7
      have s57 : SB [D, A, B] G5 G7 := s6.nil.trans (t7.mono (by simp))
      refine ⟨D, _, _, rfl, rfl, hD7, by omega, ?_⟩
      have t9 := SB.set (ps := [D]) hD7 (by simp) (.lst (fs ++ [.ref a2]))
      have s59 : SB [D, A, B] G5 _ := s57.trans (t9.mono (by simp))
      refine ⟨_, ?_, F ++ [(e2, m2)], (e1, m1) :: L2, R2, fs ++ [.ref a2], .ref a1 :: ls2, rs2, rfl, s5.trans s59, rfl, upd_same, t9.keep _ _ hA7 (by simpa using fun z : A = D => DA z.symm), t9.keep _ _ hB7 (by simpa using fun z : B = D => DB z.symm), (hF5.sb s59 Lad.pEnc_noList).append (.cons (Dp_sb s59 _ _ (Lad.pEnc_noList _) hv2) .nil), .cons (Dp_sb s59 _ _ (Lad.pEnc_noList _) hv1) (hL5.sb s59 Lad.pEnc_noList), hR5.sb s59 Lad.pEnc_noList, ?_, ?_, Ld, Rd2⟩
      · rw [le1, le2]; omega
      · rw [hmr, List.append_assoc]; rfl
      · rw [List.length_append, List.length_singleton, le1]; omega
    | false =>
      rw [if_neg (by rw [hlt]; simp)] at hmr
      refine ⟨_, rfl, iteF ?_⟩
      refine ⟨_, rfl, .inl ⟨rfl, _, SqL.of hD6⟩, _, rfl, .inl ⟨rfl, _, SqL.of hA6⟩, A, _, _, 0, .ref a1, rfl, rfl, hA6, by omega, by omega, by rw [PySem.seqIndex_of (by omega) (by omega)]; rfl, rfl, ?_⟩
      have t7 := SB.set (ps := [A]) hA6 (by simp) (.lst ls2)
      have hA7 : upd G6 A (.lst ls2) A = some (.lst ls2) := upd_same
      have hB7 := t7.keep _ _ hB6 (by simpa using fun z : B = A => AB z.symm)
      have hD7 := t7.keep _ _ hD6 (by simpa using DA)
      rw [show ((V.ref a1 :: ls2).eraseIdx 0) = ls2 from rfl]
      generalize upd G6 A (.lst ls2) = G7 at t7 hA7 hB7 hD7
      have s57 : SB [D, A, B] G5 G7 := s6.nil.trans (t7.mono (by simp))
      refine ⟨D, _, _, rfl, rfl, hD7, by omega, ?_⟩
      have t9 := SB.set (ps := [D]) hD7 (by simp) (.lst (fs ++ [.ref a1]))
      have s59 : SB [D, A, B] G5 _ := s57.trans (t9.mono (by simp))
      refine ⟨_, ?_, F ++ [(e1, m1)], L2, (e2, m2) :: R2, fs ++ [.ref a1], ls2, .ref a2 :: rs2, rfl, s5.trans s59, rfl, upd_same, t9.keep _ _ hA7 (by simpa using fun z : A = D => DA z.symm), t9.keep _ _ hB7 (by simpa using fun z : B = D => DB z.symm), (hF5.sb s59 Lad.pEnc_noList).append (.cons (Dp_sb s59 _ _ (Lad.pEnc_noList _) hv1) .nil), hL5.sb s59 Lad.pEnc_noList, .cons (Dp_sb s59 _ _ (Lad.pEnc_noList _) hv2) (hR5.sb s59 Lad.pEnc_noList), ?_, ?_, Ld2, Rd⟩
      · rw [le1, le2]; omega
      · rw [hmr, List.append_assoc]; rfl
      · rw [List.length_append, List.length_singleton, le2]; omega
end
end FT
namespace FT
open PySem PySem.W PySem.Spec PyProof.Rows L2
section
variable {P : Program} {w : World} {K : PySem.W.Frag} {mg : Str → Option Value} {base : Heap} {f : Addr} {fd : FuncData}
abbrev N__law_ladder : List Str := ["_law_pot_here", "_law_parts", "_law_found", "_law_within", "_law_exponent", "_law_many"]
theorem sc__law_ladder : FnScope N__law_ladder ["_law_pot_here", "_law_parts"] (defScope s__law_ladder) := ⟨rfl, rfl, rfl, by decide +kernel, rfl, by decide +kernel, by decide +kernel⟩
theorem none__law_ladderq {ps : List Str} {k : Nat} : FnOk P w K mg base CX0 k f fd ps (spLadE K 0) := none_sp fun vs H Q E ⟨p, m, _, _, h, _⟩ => by omega
theorem ok__law_ladder {n : Nat} (B : BI mg) (G__law_take : Got P w K mg base "_law_take" ["_law_pot_here", "_law_many"] (1) (spTakeQ)) (G__law_ladder : Got P w K mg base "_law_ladder" ["_law_pot_here", "_law_parts"] (n + 42) (spLadE K n)) (G__law_both : Got P w K mg base "_law_both" ["_law_one", "_law_other"] (41) (spBothQ K)) (F : Fun K "_law_ladder" "_law_ladder" s__law_ladder f fd) : FnOk P w K mg base CX0 (n + 43) f fd ["_law_pot_here", "_law_parts"] (spLadE K (n + 1)) := by
  refine F.ok sc__law_ladder (fun vs H Q E h => ?_) (fun cdv A outer s H vs Q E hr h => ?_)
  · obtain ⟨p, m, rfl, _⟩ := h
    rfl
  obtain ⟨p, m, rfl, hp, mn, m12, q⟩ := h
  have hun2 : A.units + 3 + 200 < cLine := by have := hr.un; have h3 : (A.deeper (envOfC "_law_ladder" (defScope s__law_ladder) s.heap.objs.size f cdv)).units = A.units + 3 := rfl; omega
  refine ⟨_, pss_cons (ps_set (i := 2) sc__law_ladder.nd rfl (.inl rfl) (pe_tup pa_nil))
    (pss_cons (ps_while PassesOwn.never (pt_cmpR op_gt (pv 1) pe_int (nomark _)) (pss_cons (ps_set (i := 3) sc__law_ladder.nd rfl (.inl rfl) (pe_got G__law_take (hr.mono (by omega)) rfl (pa_cons (pv 0) (pa_cons (pv 1) pa_nil))))
    (pss_cons (ps_set (i := 4) sc__law_ladder.nd rfl (.inl rfl) (pe_got G__law_ladder (hr.mono (by omega)) rfl (pa_cons (pv 0) (pa_cons (pv 3) pa_nil))))
    (pss_cons (ps_set (i := 5) sc__law_ladder.nd rfl (.inl rfl) (pe_ix ix_list (pe_lst (pa_cons pe_int (pa_cons pe_int (pa_cons (pe_op op_add pe_int (pe_got G__law_take (hr.mono (by omega)) rfl (pa_cons (pv 0) (pa_cons pe_int pa_nil)))) (pa_cons (pe_op op_add pe_int (pe_got G__law_take (hr.mono (by omega)) rfl (pa_cons (pv 0) (pa_cons (pe_op op_pow pe_int pe_int) pa_nil)))) pa_nil))))) (pe_got G__law_take (hr.mono (by omega)) rfl (pa_cons (pv 0) (pa_cons pe_int pa_nil))) (fun _ _ => rfl)))
    (pss_cons (ps_set (i := 2) sc__law_ladder.nd rfl (.inl rfl) (pe_got G__law_both (hr.mono (by omega)) rfl (pa_cons (pv 2) (pa_cons (pe_tup (pa_cons (pe_tup (pa_cons (pv 4) (pa_cons (pv 5) pa_nil))) pa_nil)) pa_nil))))
    (pss_one (ps_set (i := 1) sc__law_ladder.nd rfl (.inl rfl) (pe_op op_sub (pe_op op_sub (pv 1) pe_int) (pv 3)))))))))
    (pss_one (ps_ret (pv 2)))), ?_⟩
  have szl := sizeLine_eq
  refine ⟨by show 0 ≤ sizeLine; decide, fun e0 ne0 => ?_⟩
  have t0 := SB.new (ps := []) ne0 (.tup [])
  have he0 : SqT K (upd H e0 (.tup [])) e0 [] := SqT.of upd_same
  have hp0 := hp.sb t0
  generalize upd H e0 (.tup []) = H0 at t0 he0 hp0
  refine nameI ?_
  refine ⟨fun mm σ H2 => ∃ (r : Nat) (fv : V) (F : Lad) (o3 o4 o5 : Option V), mm = r ∧ r ≤ m ∧ SB [p] H H2 ∧ PotA H2 p ∧ σ = [some (.ref p), some (.int (r : Int)), some fv, o3, o4, o5] ∧ LA K H2 fv F ∧ F.parts + r ≤ m ∧ F.deep ≤ m ∧ (∀ x ∈ F.ps, x.1.Nm (2 ^ 240) ∧ 1 ≤ x.2 ∧ x.2 < ((m : Int) - r) * (10 ^ 30 + 1) + 1) ∧ (r < m → F ≠ .nil),
    ⟨m, m, .ref e0, .nil, none, none, none, rfl, Nat.le_refl _, t0.nil, hp0, rfl, LA_nil he0, by show 0 + m ≤ m; omega, Nat.zero_le _, fun x hx => (nomatch hx), fun z => absurd z (Nat.lt_irrefl _)⟩, fun r σ H2 h2 => ?_⟩
  obtain ⟨_, fv, F, o3, o4, o5, rfl, rm, s2, hp2, rfl, hF, Fp, Fd, Fn, Fne⟩ := h2
  refine ⟨_, rfl, _, _, rfl, rfl, _, rfl, ?_⟩
  by_cases hr0 : r = 0
  · subst hr0
    rw [show decide ((0 : Int) < ((0 : Nat) : Int)) = false from decide_eq_false (by omega)]
    refine iteF ⟨_, rfl, q fv F H2 s2 hp2 hF (by omega) Fd ?_ (fun z => Fne (by omega))⟩
    rw [← Lad.ofPs_ps F]
    refine Lad.nm_iff.mpr fun x hx => ?_
    obtain ⟨a, b, c⟩ := Fn x hx
    refine ⟨a, b, Int.lt_of_lt_of_le c ?_⟩
    have h1 : ((m : Int) - ((0 : Nat) : Int)) * (10 ^ 30 + 1) ≤ 12 * (10 ^ 30 + 1) := Int.mul_le_mul_of_nonneg_right (by omega) (by decide)
    have h2 : (12 : Int) * (10 ^ 30 + 1) + 1 ≤ 2 ^ 240 := by decide
    omega
  rw [show decide ((0 : Int) < ((r : Nat) : Int)) = true from decide_eq_true (by omega)]
  refine iteT ⟨_, fun σ' H' h => h, ?_⟩
  refine ⟨_, rfl, _, rfl, p, (r : Int), rfl, hp2, by omega, by omega, fun w H3 w0 wr s3 hp3 => ?_⟩
  obtain ⟨wn, rfl⟩ : ∃ x : Nat, w = (x : Int) := ⟨w.toNat, by omega⟩
  refine nameI ?_
  refine ⟨_, rfl, _, rfl, p, wn, rfl, hp3, by omega, by omega, fun ev e H4 s4 hp4 hev epp edd enm _ => ?_⟩
  refine nameI ?_
  refine ⟨_, rfl, p, 9, rfl, hp4, by decide, by decide, fun r5 H5 r50 r59 s5 hp5 => ⟨_, _, rfl, rfl, ?_⟩⟩
  refine ⟨_, rfl, 10, 30, rfl, rfl, ⟨by decide, by decide⟩, p, _, rfl, hp5, by decide, by decide, fun r6 H6 r60 r6m s6 hp6 => ⟨_, _, rfl, rfl, ?_⟩⟩
  refine ⟨by show 4 ≤ sizeLine; decide, fun L nL => ?_⟩
  have t7 := SB.new (ps := []) nL (.lst [.int 1, .int 2, .int (1 + r5), .int (1 + r6)])
  have hL7 : upd H6 L (.lst [.int 1, .int 2, .int (1 + r5), .int (1 + r6)]) L = some (.lst [.int 1, .int 2, .int (1 + r5), .int (1 + r6)]) := upd_same
  have hp7 := hp6.sb t7
  have Lp : L ≠ p := fun z => hp6.ne nL z.symm
  generalize upd H6 L (.lst [.int 1, .int 2, .int (1 + r5), .int (1 + r6)]) = H7 at t7 hL7 hp7
  refine ⟨_, rfl, p, 4, rfl, hp7, by decide, by decide, fun r8 H8 r80 r84 s8 hp8 => ?_⟩
  have e30 : (10 : Int) ^ (30 : Int).toNat = 10 ^ 30 := rfl
  rw [e30] at r6m
  obtain ⟨mv, emv, mv1, mv2⟩ : ∃ mv : Int, atI [V.int 1, V.int 2, V.int (1 + r5), V.int (1 + r6)] r8 = some (.int mv) ∧ 1 ≤ mv ∧ mv ≤ 10 ^ 30 := by
    have big : (10 : Int) ≤ 10 ^ 30 := by decide
    rcases (by omega : r8 = 0 ∨ r8 = 1 ∨ r8 = 2 ∨ r8 = 3) with rfl | rfl | rfl | rfl
    · exact ⟨1, rfl, by omega, by omega⟩
    · exact ⟨2, rfl, by omega, by omega⟩
    · exact ⟨1 + r5, rfl, by omega, by omega⟩
    · exact ⟨1 + r6, rfl, by omega, by omega⟩
  refine ⟨L, _, _, _, rfl, rfl, SqL.of (s8.keep _ _ hL7 (by simpa using Lp)), emv, ?_⟩
  refine nameI ?_
  have s28 : SB [p] H2 H8 := ((((s3.trans s4).trans s5).trans s6).trans t7.nil).trans s8
  have s48 : SB [p] H4 H8 := ((s5.trans s6).trans t7.nil).trans s8
  refine ⟨_, rfl, _, rfl, _, rfl, by show 2 ≤ sizeLine; decide, fun T1 n1 => ?_⟩
  have t9 := SB.new (ps := []) n1 (.tup [ev, .int mv])
  have hT1 : SqT K (upd H8 T1 (.tup [ev, .int mv])) T1 [ev, .int mv] := SqT.of upd_same
  generalize upd H8 T1 (.tup [ev, .int mv]) = H9 at t9 hT1
  refine ⟨by show 1 ≤ sizeLine; decide, fun T2 n2 => ?_⟩
  have t10 := SB.new (ps := []) n2 (.tup [.ref T1])
  have hT2 : SqT K (upd H9 T2 (.tup [.ref T1])) T2 [.ref T1] := SqT.of upd_same
  have t910 := t9.trans t10
  have hT1' := t10.sqT hT1
  generalize upd H9 T2 (.tup [.ref T1]) = H10 at t10 hT2 t910 hT1'
  have hev10 : LA K H10 ev e := LA.sb (LA.sb hev s48) t910
  have hone : LA K H10 (.ref T2) (.cons e mv .nil) := Bears_la (bs := [(e, mv)]) hT2 (.cons (Dp.tup hT1' (.cons hev10 (.cons (.int _) .nil))) .nil)
  have hF10 : LA K H10 fv F := LA.sb (LA.sb hF s28) t910
  have od : (Lad.cons e mv .nil).deep = max (1 + e.deep) 0 := rfl
  have op : (Lad.cons e mv .nil).parts = 1 + e.parts + 0 := rfl
  refine ⟨fv, .ref T2, F, .cons e mv .nil, rfl, hF10, hone, by omega, by omega, by omega, by omega, fun x H11 s11 hx => ?_⟩
  refine nameI ?_
  obtain ⟨z1, z2⟩ := Lad.mrg_size (l := F) (k := .cons e mv .nil)
  have e12 : ((m : Int) - r) * (10 ^ 30 + 1) + 1 + (10 ^ 30 + 1) ≤ ((m : Int) - ((r - 1 - wn : Nat) : Int)) * (10 ^ 30 + 1) + 1 := by
    have h1 : ((m : Int) - r + 1) * (10 ^ 30 + 1) ≤ ((m : Int) - ((r - 1 - wn : Nat) : Int)) * (10 ^ 30 + 1) := Int.mul_le_mul_of_nonneg_right (by omega) (by decide)
    rw [Int.add_mul, Int.one_mul] at h1
    omega
  have nmx := Lad.mrg_nm (B := 2 ^ 240) (T := ((m : Int) - r) * (10 ^ 30 + 1) + 1) (U := 10 ^ 30 + 1) (l := F) (k := .cons e mv .nil) Fn (fun x hx => by
    rw [show (Lad.cons e mv .nil).ps = [(e, mv)] from rfl, List.mem_singleton] at hx
    rw [hx]; exact ⟨enm, mv1, by show mv < _; omega⟩) (by
      have : 0 ≤ ((m : Int) - r) * (10 ^ 30 + 1) := Int.mul_nonneg (by omega) (by decide)
      omega) (by decide)
  have er : ((r : Int) - 1 - (wn : Int)) = ((r - 1 - wn : Nat) : Int) := by omega
  refine ⟨_, rfl, _, _, rfl, rfl, _, rfl, _, _, rfl, rfl, ?_⟩
  exact ⟨r - 1 - wn, by omega, r - 1 - wn, x, _, _, _, _, rfl, by omega, (s2.trans s28).trans ((t910.trans s11).nil), (hp8.sb t910).sb s11, (by show [some (V.ref p), some (V.int ((r : Int) - 1 - (wn : Int))), some x, some (V.int (wn : Int)), some ev, some (V.int mv)] = _; rw [er]), hx, by omega, by omega, fun y hy => by obtain ⟨a, b, c⟩ := nmx y hy; exact ⟨a, b, by omega⟩, fun _ => Lad.mrg_ne (fun z => nomatch z)⟩
end
end FT
namespace FT
open PySem PySem.W PySem.Spec PyProof.Rows L2
section
variable {P : Program} {w : World} {K : PySem.W.Frag} {mg : Str → Option Value} {base : Heap} {f : Addr} {fd : FuncData}
abbrev N__law_lesser : List Str := ["_law_pot_here", "_law_ladder_here", "_law_tail", "_law_at", "_law_exponent", "_law_many", "_law_left", "_law_found", "_law_turn"]
theorem sc__law_lesser : FnScope N__law_lesser ["_law_pot_here", "_law_ladder_here", "_law_tail"] (defScope s__law_lesser) := ⟨rfl, rfl, rfl, by decide +kernel, rfl, by decide +kernel, by decide +kernel⟩
theorem none__law_lesserq {ps : List Str} {k : Nat} : FnOk P w K mg base CX0 k f fd ps (spLessQ K 0) := none_sp fun vs H Q E ⟨p, v, l, t, _, _, _, _, h, _⟩ => by omega
theorem ok__law_lesser {n : Nat} (B : BI mg) (G__law_take : Got P w K mg base "_law_take" ["_law_pot_here", "_law_many"] (1) (spTakeQ)) (G__law_lesser : Got P w K mg base "_law_lesser" ["_law_pot_here", "_law_ladder_here", "_law_tail"] (n + 2) (spLessQ K n)) (F : Fun K "_law_lesser" "_law_lesser" s__law_lesser f fd) : FnOk P w K mg base CX0 (n + 3) f fd ["_law_pot_here", "_law_ladder_here", "_law_tail"] (spLessQ K (n + 1)) := by
  refine F.ok sc__law_lesser (fun vs H Q E h => ?_) (fun cdv A outer s H vs Q E hr h => ?_)
  · obtain ⟨p, v, l, t, rfl, _⟩ := h
    rfl
  obtain ⟨p, v, l, t, rfl, hp, hv, ne, hdn, hd, hnm, t3, hw, q⟩ := h
  have hun2 : A.units + 3 + 200 < cLine := by have := hr.un; have h3 : (A.deeper (envOfC "_law_lesser" (defScope s__law_lesser) s.heap.objs.size f cdv)).units = A.units + 3 := rfl; omega
  refine ⟨_, pss_cons (ps_set (i := 3) sc__law_lesser.nd rfl (.inl rfl) (pe_got G__law_take (hr.mono (by omega)) rfl (pa_cons (pv 0) (pa_cons (pe_callB call_len_seq rfl B.len PySem.boot_len (pa_cons (pv 1) pa_nil)) pa_nil))))
    (pss_cons (ps_asg (pe_ix ix_tup (pv 1) (pv 3) (fun _ _ => rfl)) (pg_tup rfl (pgs_cons (pg_name (i := 4) sc__law_lesser.nd rfl (.inl rfl)) (pgs_cons (pg_name (i := 5) sc__law_lesser.nd rfl (.inl rfl)) pgs_nil))))
    (pss_cons (ps_set (i := 6) sc__law_lesser.nd rfl (.inl rfl) (pe_ix ix_list (pe_lst (pa_cons pe_int (pa_cons (pe_op op_sub (pv 5) pe_int) (pa_cons (pe_got G__law_take (hr.mono (by omega)) rfl (pa_cons (pv 0) (pa_cons (pv 5) pa_nil))) pa_nil)))) (pe_got G__law_take (hr.mono (by omega)) rfl (pa_cons (pv 0) (pa_cons pe_int pa_nil))) (fun _ _ => rfl)))
    (pss_cons (ps_set (i := 7) sc__law_lesser.nd rfl (.inl rfl) (pe_slice sl_tupB (pv 1) po_none (po_some (pv 3))))
    (pss_cons (ps_if (pt_cmpR op_gt (pv 6) pe_int (nomark _)) (pss_one (ps_set (i := 7) sc__law_lesser.nd rfl (.inl rfl) (pe_op op_catB (pv 7) (pe_tup (pa_cons (pe_tup (pa_cons (pv 4) (pa_cons (pv 6) pa_nil))) pa_nil))))) pss_nil)
    (pss_cons (ps_for PassesOwn.never rfl (pi_range1 rfl B.range (pa_cons (pe_got G__law_take (hr.mono (by omega)) rfl (pa_cons (pv 0) (pa_cons (pe_op op_add (pv 2) pe_int) pa_nil))) pa_nil)) (pg_name (i := 8) sc__law_lesser.nd rfl (.inl rfl))
      (pss_one (ps_if (pt_cmpR (op_neD (by show A.units + 3 + 64 < cLine; omega)) (pv 4) (pe_tup pa_nil) (nomark _)) (pss_cons (ps_set (i := 4) sc__law_lesser.nd rfl (.inl rfl) (pe_got G__law_lesser (hr.mono (by omega)) rfl (pa_cons (pv 0) (pa_cons (pv 4) (pa_cons pe_int pa_nil)))))
    (pss_one (ps_set (i := 7) sc__law_lesser.nd rfl (.inl rfl) (pe_op op_catB (pv 7) (pe_tup (pa_cons (pe_tup (pa_cons (pv 4) (pa_cons (pe_ix ix_list (pe_lst (pa_cons pe_int (pa_cons (pe_op op_add pe_int (pe_got G__law_take (hr.mono (by omega)) rfl (pa_cons (pv 0) (pa_cons (pe_op op_pow pe_int pe_int) pa_nil)))) pa_nil))) (pe_got G__law_take (hr.mono (by omega)) rfl (pa_cons (pv 0) (pa_cons pe_int pa_nil))) (fun _ _ => rfl)) pa_nil))) pa_nil)))))) pss_nil)))
    (pss_one (ps_ret (pv 7)))))))), ?_⟩
  have szl := sizeLine_eq
  obtain ⟨a, xs, rfl, hs, hb⟩ := LA_bears hv
  have xl := hb.length
  have lpos : 0 < l.ps.length := by
    cases l with
    | nil => exact absurd rfl ne
    | cons e m r => exact Nat.succ_pos _
  have lw := l.wid_len
  refine ⟨_, rfl, _, rfl, a, xs, rfl, .inr hs, p, _, rfl, hp, by omega, by omega, fun r H3 r0 rm s3 hp3 => ?_⟩
  obtain ⟨u, rfl⟩ : ∃ x : Nat, r = (x : Int) := ⟨r.toNat, by omega⟩
  refine nameI ?_
  have eu : xs[u]? = some xs[u] := List.getElem?_eq_getElem (by omega)
  obtain ⟨x, ex, hx⟩ := hb.get eu
  have xm := List.mem_of_getElem? ex
  have xd := l.mem_deep x xm
  have xw := l.wid_mem x xm
  obtain ⟨xn, x1, x2⟩ := hnm.at xm
  obtain ⟨ad, ev, ead, hsx, hev⟩ := LA_pair hx
  rw [ead] at eu
  refine ⟨_, rfl, _, rfl, a, _, _, _, rfl, rfl, s3.sqT hs, atI_nat eu, ad, _, rfl, s3.sqT hsx, rfl, _, _, rfl, _, _, rfl, rfl, ?_⟩
  refine ⟨_, rfl, _, _, rfl, rfl, ?_⟩
  refine ⟨_, rfl, _, rfl, p, x.2, rfl, hp3, x1, Int.lt_trans x2 (by decide), fun r4 H4 r40 r4m s4 hp4 => ?_⟩
  refine ⟨by show 3 ≤ sizeLine; decide, fun L nL => ?_⟩
  have t5 := SB.new (ps := []) nL (.lst [.int 0, .int (x.2 - 1), .int r4])
  have hL5 : upd H4 L (.lst [.int 0, .int (x.2 - 1), .int r4]) L = some (.lst [.int 0, .int (x.2 - 1), .int r4]) := upd_same
  have hp5 := hp4.sb t5
  have Lp : L ≠ p := fun z => hp4.ne nL z.symm
  generalize upd H4 L (.lst [.int 0, .int (x.2 - 1), .int r4]) = H5 at t5 hL5 hp5
  refine ⟨_, rfl, p, 3, rfl, hp5, by decide, by decide, fun r6 H6 r60 r63 s6 hp6 => ?_⟩
  obtain ⟨lv, elv, lv0, lv1⟩ : ∃ lv : Int, atI [V.int 0, V.int (x.2 - 1), V.int r4] r6 = some (.int lv) ∧ 0 ≤ lv ∧ lv < x.2 := by
    rcases (by omega : r6 = 0 ∨ r6 = 1 ∨ r6 = 2) with rfl | rfl | rfl
    · exact ⟨0, rfl, by omega, by omega⟩
    · exact ⟨x.2 - 1, rfl, by omega, by omega⟩
    · exact ⟨r4, rfl, r40, r4m⟩
  refine ⟨L, _, _, _, rfl, rfl, SqL.of (s6.keep _ _ hL5 (by simpa using Lp)), elv, ?_⟩
  refine nameI ?_
  have s06 : SB [p] H H6 := ((s3.trans s4).trans t5.nil).trans s6
  have s36 : SB [p] H3 H6 := (s4.trans t5.nil).trans s6
  refine ⟨_, rfl, _, rfl, _, rfl, a, xs, rfl, s06.sqT hs, fun c H7 s7 hc => ?_⟩
  rw [cutTake] at hc
  have s07 := s06.trans (s7.nil (ps := [p]))
  have hp7 := hp6.sb s7
  have hev7 : LA K H7 ev x.1 := LA.sb (LA.sb (LA.sb hev s3) s36) s7
  have hb7 : Bears K H7 Lad.pEnc (xs.take u) (l.ps.take u) := (hb.sb s07 Lad.pEnc_noList).take u
  have hF7 : LA K H7 (.ref c) (Lad.ofPs (l.ps.take u)) := Bears_la hc hb7
  refine nameI ?_
  have good : ∀ y ∈ l.ps.take u, y.1.deep < l.deep ∧ y.1.wid ≤ l.wid ∧ y.1.Nm (2 ^ 240) ∧ 1 ≤ y.2 ∧ y.2 < 2 ^ 240 := fun y hy => by
    have ym := List.mem_of_mem_take hy
    obtain ⟨a1, a2, a3⟩ := hnm.at ym
    exact ⟨l.mem_deep y ym, l.wid_mem y ym, a1, a2, a3⟩
  have cat : ∀ (fv ev : V) (F : List (Lad × Int)) (e : Lad) (z : Int) (G : Hp), LA K G fv (Lad.ofPs F) → LA K G ev e → F.length ≤ 200 → ∀ (T1 T2 : Addr) (G1 G2 : Hp), SB [] G G1 → SqT K G1 T1 [ev, .int z] → SqT K G1 T2 [.ref T1] → ∃ A zs, fv = .ref A ∧ SqT K G1 A zs ∧ zs.length = F.length ∧ ∀ (C : Addr) (G3 : Hp), SB [] G1 G3 → SqT K G3 C (zs ++ [.ref T1]) → LA K G3 (.ref C) (Lad.ofPs (F ++ [(e, z)])) := by
    intro fv ev F e z G hF he hFl T1 T2 G1 _ s h1 h2
    obtain ⟨A, zs, rfl, hA, hbA⟩ := LA_bears hF
    rw [Lad.ps_ofPs] at hbA
    refine ⟨A, zs, rfl, s.sqT hA, hbA.length, fun C G3 s3 hC => Bears_la hC ?_⟩
    exact ((hbA.sb s Lad.pEnc_noList).sb s3 Lad.pEnc_noList).append (.cons (Dp.tup (s3.sqT h1) (.cons (LA.sb (LA.sb he s) s3) (.cons (.int _) .nil))) .nil)
  refine seq_via (fun σ' G => ∃ (fv : V) (F : List (Lad × Int)), σ' = [some (.ref p), some (.ref a), some (.int (t : Int)), some (.int (u : Int)), some ev, some (.int x.2), some (.int lv), some fv, none] ∧ SB [] H7 G ∧ LA K G fv (Lad.ofPs F) ∧ F.length ≤ l.ps.length ∧ ∀ y ∈ F, y.1.deep < l.deep ∧ y.1.wid ≤ l.wid ∧ y.1.Nm (2 ^ 240) ∧ 1 ≤ y.2 ∧ y.2 < 2 ^ 240) (fun nx hnx => ?_) (fun σ' G h => ?_)
  · refine ⟨_, rfl, _, _, rfl, rfl, _, rfl, ?_⟩
    by_cases h0 : 0 < lv
    · rw [decide_eq_true h0]
      refine iteT ?_
      refine ⟨_, rfl, _, rfl, _, rfl, by show 2 ≤ sizeLine; decide, fun T1 n1 => ?_⟩
      have t9 := SB.new (ps := []) n1 (.tup [ev, .int lv])
      have hT1 : SqT K (upd H7 T1 (.tup [ev, .int lv])) T1 [ev, .int lv] := SqT.of upd_same
      generalize upd H7 T1 (.tup [ev, .int lv]) = H9 at t9 hT1
      refine ⟨by show 1 ≤ sizeLine; decide, fun T2 n2 => ?_⟩
      have t10 := SB.new (ps := []) n2 (.tup [.ref T1])
      have hT2 : SqT K (upd H9 T2 (.tup [.ref T1])) T2 [.ref T1] := SqT.of upd_same
      have t910 := t9.trans t10
      have hT1' := t10.sqT hT1
      generalize upd H9 T2 (.tup [.ref T1]) = H10 at t10 hT2 t910 hT1'
      obtain ⟨A, zs, eA, hA, zl, fin⟩ := cat _ _ _ _ _ _ hF7 hev7 (by rw [List.length_take]; omega) T1 T2 H10 H10 t910 hT1' hT2
      cases eA
      refine ⟨c, T2, zs, _, rfl, rfl, hA, hT2, by rw [zl, List.length_take, List.length_singleton]; omega, fun C G3 s3' hC => ?_⟩
      refine hnx _ _ ⟨.ref C, l.ps.take u ++ [(x.1, lv)], rfl, t910.trans s3', fin C G3 s3' hC, by rw [List.length_append, List.length_take, List.length_singleton]; omega, fun y hy => ?_⟩
      rcases List.mem_append.mp hy with hy | hy
      · exact good y hy
      · rw [List.mem_singleton.mp hy]; exact ⟨xd, xw, xn, by show 1 ≤ lv; omega, by show lv < _; omega⟩
    · rw [decide_eq_false h0]
      exact iteF (hnx _ _ ⟨.ref c, l.ps.take u, rfl, SB.refl, hF7, by rw [List.length_take]; omega, good⟩)
  obtain ⟨fv, F, rfl, s8, hF8, Fl, Fg⟩ := h
  have hp8 := hp7.sb s8
  have hev8 := LA.sb hev7 s8
  refine ⟨_, rfl, _, rfl, _, _, rfl, rfl, p, _, rfl, hp8, by omega, by omega, fun tr H9 tr0 trm s9 hp9 => ?_⟩
  obtain ⟨tn, rfl⟩ : ∃ z : Nat, tr = (z : Int) := ⟨tr.toNat, by omega⟩
  refine ⟨(tn : Int), rfl, by omega, by omega, ?_⟩
  rw [Int.toNat_natCast]
  refine for_it (walk_range (lo := 0) (n := tn)) (fun i σ G2 => SB [p] H9 G2 ∧ PotA G2 p ∧ ∃ (ev2 fv2 : V) (e2 : Lad) (F2 : List (Lad × Int)) (o8 : Option V), σ = [some (.ref p), some (.ref a), some (.int (t : Int)), some (.int (u : Int)), some ev2, some (.int x.2), some (.int lv), some fv2, o8] ∧ LA K G2 ev2 e2 ∧ LA K G2 fv2 (Lad.ofPs F2) ∧ e2.deep < l.deep ∧ e2.wid ≤ l.wid + i ∧ e2.Nm (2 ^ 240) ∧ F2.length ≤ l.ps.length + i ∧ ∀ y ∈ F2, y.1.deep < l.deep ∧ y.1.wid ≤ l.wid + i ∧ y.1.Nm (2 ^ 240) ∧ 1 ≤ y.2 ∧ y.2 < 2 ^ 240)
    ⟨SB.refl, hp9, ev, fv, x.1, F, none, rfl, LA.sb hev8 s9, LA.sb hF8 s9, xd, by omega, xn, by omega, fun y hy => by obtain ⟨a, b, c⟩ := Fg y hy; exact ⟨a, by omega, c⟩⟩ (fun _ _ _ _ _ => trivial) (fun i z σ G3 G2 hi h y => ?_) (fun σ G2 h => ?_)
  · obtain ⟨s10, hp10, ev2, fv2, e2, F2, o8, rfl, he2, hF2, e2d, e2w, e2n, F2l, F2g⟩ := h
    obtain ⟨rfl, rfl⟩ := y
    have F2g' : ∀ y ∈ F2, y.1.deep < l.deep ∧ y.1.wid ≤ l.wid + (i + 1) ∧ y.1.Nm (2 ^ 240) ∧ 1 ≤ y.2 ∧ y.2 < 2 ^ 240 := fun y hy => by obtain ⟨a, b, c⟩ := F2g y hy; exact ⟨a, by omega, c⟩
    refine ⟨_, rfl, by show 0 ≤ sizeLine; decide, fun e0 ne0 => ?_⟩
    have t11 := SB.new (ps := []) ne0 (.tup [])
    have he0 : SqT K (upd G2 e0 (.tup [])) e0 [] := SqT.of upd_same
    have he2' := LA.sb he2 t11
    have hF2' := LA.sb hF2 t11
    have hp11 := hp10.sb t11
    have s11 := s10.trans (t11.nil (ps := [p]))
    generalize upd G2 e0 (.tup []) = H11 at t11 he0 he2' hF2' hp11 s11
    refine ⟨e2.enc, Lad.enc .nil, he2', LA_nil he0, Lad.shaped_enc (by omega), Lad.shaped_enc (by decide), _, rfl, ?_⟩
    rw [Lad.eqv_enc]
    by_cases hn : e2 = .nil
    · rw [decide_eq_true hn]
      exact iteF ⟨s11, hp11, ev2, fv2, e2, F2, _, rfl, he2', hF2', e2d, by omega, e2n, by omega, F2g'⟩
    · rw [decide_eq_false hn]
      refine iteT ?_
      refine ⟨_, rfl, _, rfl, p, ev2, e2, 1, rfl, hp11, he2', hn, by omega, by omega, e2n, by omega, by omega, fun ev3 e3 H12 s12 hp12 he3 e3d e3w e3n => ?_⟩
      refine nameI ?_
      refine ⟨_, rfl, _, rfl, ?_⟩
      refine ⟨_, rfl, 10, 9, rfl, rfl, ⟨by decide, by decide⟩, p, _, rfl, hp12, by decide, by decide, fun r13 H13 r130 r13m s13 hp13 => ⟨_, _, rfl, rfl, ?_⟩⟩
      refine ⟨by show 2 ≤ sizeLine; decide, fun L2 nL2 => ?_⟩
      have t14 := SB.new (ps := []) nL2 (.lst [.int 1, .int (1 + r13)])
      have hL14 : upd H13 L2 (.lst [.int 1, .int (1 + r13)]) L2 = some (.lst [.int 1, .int (1 + r13)]) := upd_same
      have hp14 := hp13.sb t14
      have Lp2 : L2 ≠ p := fun z => hp13.ne nL2 z.symm
      generalize upd H13 L2 (.lst [.int 1, .int (1 + r13)]) = H14 at t14 hL14 hp14
      refine ⟨_, rfl, p, 2, rfl, hp14, by decide, by decide, fun r15 H15 r150 r152 s15 hp15 => ?_⟩
      have e9 : (10 : Int) ^ (9 : Int).toNat = 10 ^ 9 := rfl
      rw [e9] at r13m
      obtain ⟨mv, emv, mv1, mv2⟩ : ∃ mv : Int, atI [V.int 1, V.int (1 + r13)] r15 = some (.int mv) ∧ 1 ≤ mv ∧ mv < 2 ^ 240 := by
        have big : (10 : Int) ^ 9 + 2 ≤ 2 ^ 240 := by decide
        rcases (by omega : r15 = 0 ∨ r15 = 1) with rfl | rfl
        · exact ⟨1, rfl, by omega, by omega⟩
        · exact ⟨1 + r13, rfl, by omega, by omega⟩
      refine ⟨L2, _, _, _, rfl, rfl, SqL.of (s15.keep _ _ hL14 (by simpa using Lp2)), emv, ?_⟩
      have s12_15 : SB [p] H12 H15 := (s13.trans t14.nil).trans s15
      have s11_15 : SB [p] H11 H15 := s12.trans s12_15
      have he3' := LA.sb he3 s12_15
      have hF15 := LA.sb hF2' s11_15
      refine ⟨by show 2 ≤ sizeLine; decide, fun T1 n1 => ?_⟩
      have t16 := SB.new (ps := []) n1 (.tup [ev3, .int mv])
      have hT1 : SqT K (upd H15 T1 (.tup [ev3, .int mv])) T1 [ev3, .int mv] := SqT.of upd_same
      generalize upd H15 T1 (.tup [ev3, .int mv]) = H16 at t16 hT1
      refine ⟨by show 1 ≤ sizeLine; decide, fun T2 n2 => ?_⟩
      have t17 := SB.new (ps := []) n2 (.tup [.ref T1])
      have hT2 : SqT K (upd H16 T2 (.tup [.ref T1])) T2 [.ref T1] := SqT.of upd_same
      have t1617 := t16.trans t17
      have hT1' := t17.sqT hT1
      generalize upd H16 T2 (.tup [.ref T1]) = H17 at t17 hT2 t1617 hT1'
      obtain ⟨A, zs, eA, hA, zl, fin⟩ := cat _ _ _ _ mv _ hF15 he3' (by omega) T1 T2 H17 H17 t1617 hT1' hT2
      subst eA
      refine ⟨A, T2, zs, _, rfl, rfl, hA, hT2, by rw [zl, List.length_singleton]; omega, fun C G18 s18 hC => ?_⟩
      have sfin : SB [] H15 G18 := t1617.trans s18
      refine ⟨s11.trans (s11_15.trans (sfin.nil (ps := [p]))), hp15.sb sfin, ev3, .ref C, e3, F2 ++ [(e3, mv)], _, rfl, LA.sb he3' sfin, fin C G18 s18 hC, by omega, by omega, e3n, by rw [List.length_append, List.length_singleton]; omega, fun y hy => ?_⟩
      rcases List.mem_append.mp hy with hy | hy
      · exact F2g' y hy
      · rw [List.mem_singleton.mp hy]; exact ⟨by show e3.deep < _; omega, by show e3.wid ≤ _; omega, e3n, mv1, mv2⟩
  · obtain ⟨s10, hp10, ev2, fv2, e2, F2, o8, rfl, he2, hF2, e2d, e2w, e2n, F2l, F2g⟩ := h
    have tt : tn ≤ t := by omega
    refine ⟨_, rfl, q fv2 (Lad.ofPs F2) G2 (((s07.trans (s8.nil (ps := [p]))).trans s9).trans s10) hp10 hF2 (Lad.deep_le fun y hy => (F2g y hy).1) (Lad.wid_le (by omega) fun y hy => by have := (F2g y hy).2.1; omega) (Lad.nm_iff.mpr fun y hy => (F2g y hy).2.2)⟩
end
end FT
namespace FT
open PySem PySem.W PySem.Spec PyProof.Rows L2
section
variable {P : Program} {w : World} {K : PySem.W.Frag} {mg : Str → Option Value} {base : Heap} {f : Addr} {fd : FuncData}
abbrev N__law_sizes : List Str := ["_law_ladder_here", "_law_found", "_law_exponent", "_law_many", "_law_within"]
theorem sc__law_sizes : FnScope N__law_sizes ["_law_ladder_here"] (defScope s__law_sizes) := ⟨rfl, rfl, rfl, by decide +kernel, rfl, by decide +kernel, by decide +kernel⟩
theorem none__law_sizesq {ps : List Str} {k : Nat} : FnOk P w K mg base CX0 k f fd ps (spSizesQ K 0) := none_sp fun vs H Q E ⟨v, l, _, _, h, _⟩ => by omega
theorem ok__law_sizes {n : Nat} (B : BI mg) (G__law_sizes : Got P w K mg base "_law_sizes" ["_law_ladder_here"] (n) (spSizesQ K n)) (F : Fun K "_law_sizes" "_law_sizes" s__law_sizes f fd) : FnOk P w K mg base CX0 (n + 1) f fd ["_law_ladder_here"] (spSizesQ K (n + 1)) := by
  refine F.ok sc__law_sizes (fun vs H Q E h => ?_) (fun cdv A outer s H vs Q E hr h => ?_)
  · obtain ⟨v, l, rfl, _⟩ := h
    rfl
  obtain ⟨v, l, rfl, hv, hd, hd2, q⟩ := h
  have hun2 : A.units + 3 + 200 < cLine := by have := hr.un; have h3 : (A.deeper (envOfC "_law_sizes" (defScope s__law_sizes) s.heap.objs.size f cdv)).units = A.units + 3 := rfl; omega
  refine ⟨_, pss_cons (ps_set (i := 1) sc__law_sizes.nd rfl (.inl rfl) (pe_lst (pa_cons pe_int (pa_cons pe_int (pa_cons pe_int pa_nil)))))
    (pss_cons (ps_for PassesOwn.never rfl (pi_tup (pv 0)) (pg_tup rfl (pgs_cons (pg_name (i := 2) sc__law_sizes.nd rfl (.inl rfl)) (pgs_cons (pg_name (i := 3) sc__law_sizes.nd rfl (.inl rfl)) pgs_nil)))
      (pss_cons (ps_set (i := 4) sc__law_sizes.nd rfl (.inl rfl) (pe_got G__law_sizes (hr.mono (by omega)) rfl (pa_cons (pv 2) pa_nil)))
    (pss_one (ps_set (i := 1) sc__law_sizes.nd rfl (.inl rfl) (pe_lst (pa_cons (pe_op op_add (pe_op op_add (pe_ix ix_list (pv 1) pe_int (fun _ _ => rfl)) pe_int) (pe_ix ix_list (pv 4) pe_int (fun _ _ => rfl))) (pa_cons (pe_callB (call_max2 rfl) rfl B.max boot_max (pa_cons (pe_ix ix_list (pv 1) pe_int (fun _ _ => rfl)) (pa_cons (pe_op op_add pe_int (pe_ix ix_list (pv 4) pe_int (fun _ _ => rfl))) pa_nil))) (pa_cons (pe_callB (call_max3 rfl) rfl B.max boot_max (pa_cons (pe_ix ix_list (pv 1) pe_int (fun _ _ => rfl)) (pa_cons (pv 3) (pa_cons (pe_ix ix_list (pv 4) pe_int (fun _ _ => rfl)) pa_nil)))) pa_nil))))))))
    (pss_one (ps_ret (pv 1)))), ?_⟩
  have szl := sizeLine_eq
  obtain ⟨a, xs, rfl, hs, hb⟩ := LA_bears hv
  have bl := hb.length
  refine ⟨by show 3 ≤ sizeLine; decide, fun D hD => ?_⟩
  have t1 := SB.new (ps := []) hD (.lst [.int 0, .int 0, .int 0])
  refine nameI ?_
  refine ⟨_, rfl, a, rfl, ⟨xs, t1.sqT hs⟩, ?_⟩
  refine for_it (walk_tup (xs := xs)) (fun i σ H2 => SB [] H H2 ∧ ∃ (E : Addr) (m : Int) (o2 o3 o4 : Option V), σ = [some (.ref a), some (.ref E), o2, o3, o4] ∧ H E = none ∧ H2 E = some (.lst [.int ((Lad.ofPs (l.ps.take i)).parts : Nat), .int ((Lad.ofPs (l.ps.take i)).deep : Nat), .int m])) ⟨t1, D, 0, none, none, none, rfl, hD, upd_same⟩ (fun i σ H2 hi h2 => h2.1.sqT hs) (fun i x σ H2 H' hi h2 y => ?_) (fun σ H2 h2 => ?_)
  · obtain ⟨s2, E, m, o2, o3, o4, rfl, nE, hE2⟩ := h2
    obtain ⟨rfl, ey⟩ := y
    obtain ⟨p, ep, hpd⟩ := hb.get ey
    have pm := List.mem_of_getElem? ep
    have pd := l.mem_deep p pm
    obtain ⟨ad, ux, rfl, hs2, hla⟩ := LA_pair hpd
    refine ⟨ad, _, rfl, s2.sqT hs2, rfl, _, _, rfl, _, _, rfl, rfl, ?_⟩
    refine ⟨_, rfl, ux, p.1, rfl, hla.sb s2, by omega, by omega, fun d m' H3 s3 nd hd3 => ?_⟩
    refine nameI ?_
    have hE3 := s3.keep _ _ hE2 List.not_mem_nil
    refine ⟨_, rfl, E, _, _, _, rfl, rfl, SqL.of hE3, atI_nat (j := 0) rfl, _, _, rfl, rfl, _, rfl, d, _, _, _, rfl, rfl, SqL.of hd3, atI_nat (j := 0) rfl, _, _, rfl, rfl, ?_⟩
    refine ⟨_, rfl, E, _, _, _, rfl, rfl, SqL.of hE3, atI_nat (j := 1) rfl, _, rfl, d, _, _, _, rfl, rfl, SqL.of hd3, atI_nat (j := 1) rfl, _, _, rfl, rfl, _, _, rfl, ?_⟩
    refine ⟨_, rfl, E, _, _, _, rfl, rfl, SqL.of hE3, atI_nat (j := 2) rfl, _, rfl, _, rfl, d, _, _, _, rfl, rfl, SqL.of hd3, atI_nat (j := 2) rfl, _, _, _, rfl, fun M => ?_⟩
    refine ⟨by show 3 ≤ sizeLine; decide, fun F nF => ?_⟩
    have t4 := SB.new (ps := []) nF (.lst [.int (((Lad.ofPs (l.ps.take i)).parts : Nat) + 1 + (p.1.parts : Nat)), .int (if 1 + ((p.1.deep : Nat) : Int) > ((Lad.ofPs (l.ps.take i)).deep : Nat) then 1 + ((p.1.deep : Nat) : Int) else ((Lad.ofPs (l.ps.take i)).deep : Nat)), .int M])
    refine ⟨(s2.trans s3).trans t4, F, M, _, _, _, rfl, (s2.trans s3).dom _ nF, ?_⟩
    have e1 : l.ps.take (i + 1) = l.ps.take i ++ [p] := by rw [List.take_add_one, ep]; rfl
    have e2 : ((((Lad.ofPs (l.ps.take i)).parts : Nat) : Int) + 1 + (p.1.parts : Nat)) = ((Lad.ofPs (l.ps.take i ++ [p])).parts : Nat) := by rw [Lad.parts_snoc]; omega
    have e3 : (if 1 + ((p.1.deep : Nat) : Int) > ((Lad.ofPs (l.ps.take i)).deep : Nat) then 1 + ((p.1.deep : Nat) : Int) else ((Lad.ofPs (l.ps.take i)).deep : Nat)) = ((Lad.ofPs (l.ps.take i ++ [p])).deep : Nat) := by rw [Lad.deep_snoc]; split <;> omega
    rw [e1, ← e2, ← e3]
    exact upd_same
  · obtain ⟨s2, E, m, o2, o3, o4, rfl, nE, hE2⟩ := h2
    rw [bl, List.take_length, Lad.ofPs_ps] at hE2
    exact ⟨_, rfl, q E m H2 s2 nE hE2⟩
end
end FT
namespace FT
open PySem PySem.W PySem.Spec PyProof.Rows L2
section
variable {P : Program} {w : World} {K : PySem.W.Frag} {mg : Str → Option Value} {base : Heap} {f : Addr} {fd : FuncData}
abbrev N__law_goal : List Str := ["_law_pot_here", "_law_ladder_here", "_law_way", "_law_found", "_law_here"]
theorem sc__law_goal : FnScope N__law_goal ["_law_pot_here", "_law_ladder_here"] (defScope s__law_goal) := ⟨rfl, rfl, rfl, by decide +kernel, rfl, by decide +kernel, by decide +kernel⟩
theorem ok__law_goal (B : BI mg) (G__law_take : Got P w K mg base "_law_take" ["_law_pot_here", "_law_many"] (1) (spTakeQ)) (G__law_lesser : Got P w K mg base "_law_lesser" ["_law_pot_here", "_law_ladder_here", "_law_tail"] (40) (spLessQ K 38)) (G__law_sizes : Got P w K mg base "_law_sizes" ["_law_ladder_here"] (40) (spSizesQ K 40)) (F : Fun K "_law_goal" "_law_goal" s__law_goal f fd) : FnOk P w K mg base CX0 (42) f fd ["_law_pot_here", "_law_ladder_here"] (spGoalQ K) := by
  refine F.ok sc__law_goal (fun vs H Q E h => ?_) (fun cdv A outer s H vs Q E hr h => ?_)
  · obtain ⟨p, v, l, rfl, _⟩ := h
    rfl
  obtain ⟨p, v, l, rfl, hp, hv, ne, hd, hps, hnm, q⟩ := h
  have hun2 : A.units + 3 + 200 < cLine := by have := hr.un; have h3 : (A.deeper (envOfC "_law_goal" (defScope s__law_goal) s.heap.objs.size f cdv)).units = A.units + 3 := rfl; omega
  refine ⟨_, pss_cons (ps_set (i := 2) sc__law_goal.nd rfl (.inl rfl) (pe_got G__law_take (hr.mono (by omega)) rfl (pa_cons (pv 0) (pa_cons pe_int pa_nil))))
    (pss_cons (ps_set (i := 3) sc__law_goal.nd rfl (.inl rfl) (pe_tup pa_nil))
    (pss_cons (ps_if (pt_cmpR op_gt (pv 2) pe_int (nomark _)) (pss_one (ps_set (i := 3) sc__law_goal.nd rfl (.inl rfl) (pe_got G__law_lesser (hr.mono (by omega)) rfl (pa_cons (pv 0) (pa_cons (pv 1) (pa_cons pe_int pa_nil)))))) pss_nil)
    (pss_cons (ps_if (PW.pt (pw_and (pt_cmpR op_eq (pv 2) pe_int (nomark _)) (pw_and1 (pt_cmpR (op_neD (by show A.units + 3 + 64 < cLine; omega)) (pv 3) (pe_tup pa_nil) (nomark _))))) (pss_one (ps_set (i := 3) sc__law_goal.nd rfl (.inl rfl) (pe_got G__law_lesser (hr.mono (by omega)) rfl (pa_cons (pv 0) (pa_cons (pv 3) (pa_cons pe_int pa_nil)))))) pss_nil)
    (pss_cons (ps_set (i := 4) sc__law_goal.nd rfl (.inl rfl) (pe_got G__law_sizes (hr.mono (by omega)) rfl (pa_cons (pv 3) pa_nil)))
    (pss_cons (ps_if (PW.pt (pw_or (pt_cmpR op_gt (pe_ix ix_list (pv 4) pe_int (fun _ _ => rfl)) pe_int (nomark _)) (pw_or (pt_cmpR op_gt (pe_ix ix_list (pv 4) pe_int (fun _ _ => rfl)) pe_int (nomark _)) (pw_or1 (pt_cmpR op_ge (pe_ix ix_list (pv 4) pe_int (fun _ _ => rfl)) (pe_op op_pow pe_int pe_int) (nomark _)))))) (pss_one (ps_ret (pe_tup pa_nil))) pss_nil)
    (pss_one (ps_ret (pv 3)))))))), ?_⟩
  have szl := sizeLine_eq
  have lw := l.wid_parts
  refine ⟨_, rfl, p, 5, rfl, hp, by decide, by decide, fun r1 H1 r10 r15 s1 hp1 => ?_⟩
  refine nameI ?_
  refine ⟨by show 0 ≤ sizeLine; decide, fun e0 ne0 => ?_⟩
  have t2 := SB.new (ps := []) ne0 (.tup [])
  have he2 : SqT K (upd H1 e0 (.tup [])) e0 [] := SqT.of upd_same
  have hp2 := hp1.sb t2
  have s02 := s1.trans (t2.nil (ps := [p]))
  generalize upd H1 e0 (.tup []) = H2 at t2 he2 hp2 s02
  refine nameI ?_
  refine seq_via (fun σ' G => ∃ (fv : V) (F : Lad), σ' = [some (.ref p), some v, some (.int r1), some fv, none] ∧ SB [p] H G ∧ PotA G p ∧ LA K G fv F ∧ F.deep ≤ 12 ∧ F.wid ≤ 63 ∧ F.Nm (2 ^ 240)) (fun nx hnx => ?_) (fun σ' G h => ?_)
  · refine ⟨_, rfl, _, _, rfl, rfl, _, rfl, ?_⟩
    cases decide ((0 : Int) < r1) with
    | true => exact iteT ⟨_, rfl, _, rfl, p, v, l, 3, rfl, hp2, LA.sb hv s02, ne, by omega, by omega, hnm, by omega, by omega, fun x k H3 s3 hp3 hk kd kw kn => hnx _ _ ⟨x, k, rfl, s02.trans s3, hp3, hk, by omega, by omega, kn⟩⟩
    | false => exact iteF (hnx _ _ ⟨.ref e0, .nil, rfl, s02, hp2, LA_nil he2, by decide, by decide, trivial⟩)
  obtain ⟨fv, F, rfl, s3, hp3, hF, Fd, Fw, Fn⟩ := h
  refine seq_via (fun σ' G2 => ∃ (fv : V) (F : Lad), σ' = [some (.ref p), some v, some (.int r1), some fv, none] ∧ SB [p] H G2 ∧ PotA G2 p ∧ LA K G2 fv F ∧ F.deep ≤ 12) (fun nx hnx => ?_) (fun σ' G2 h => ?_)
  · refine ⟨_, rfl, rfl, _, rfl, ?_⟩
    cases decide (V.int r1 = V.int 1) with
    | false => exact iteF (hnx _ _ ⟨fv, F, rfl, s3, hp3, hF, Fd⟩)
    | true =>
      refine iteT ⟨_, rfl, by show 0 ≤ sizeLine; decide, fun e1 ne1 => ?_⟩
      have t4 := SB.new (ps := []) ne1 (.tup [])
      have he4 : SqT K (upd G e1 (.tup [])) e1 [] := SqT.of upd_same
      have hF4 := LA.sb hF t4
      have hp4 := hp3.sb t4
      have s04 := s3.trans (t4.nil (ps := [p]))
      generalize upd G e1 (.tup []) = H4 at t4 he4 hF4 hp4 s04
      refine ⟨F.enc, Lad.enc .nil, hF4, LA_nil he4, Lad.shaped_enc (by omega), Lad.shaped_enc (by decide), _, rfl, ?_⟩
      rw [Lad.eqv_enc]
      by_cases hn : F = .nil
      · rw [decide_eq_true hn]
        exact iteF (hnx _ _ ⟨fv, F, rfl, s04, hp4, hF4, Fd⟩)
      · rw [decide_eq_false hn]
        exact iteT ⟨_, rfl, _, rfl, p, fv, F, 1, rfl, hp4, hF4, hn, by omega, by omega, Fn, by omega, by omega, fun x k H5 s5 hp5 hk kd kw kn => hnx _ _ ⟨x, k, rfl, s04.trans s5, hp5, hk, by omega⟩⟩
  obtain ⟨fv, F, rfl, s4, hp4, hF, Fd⟩ := h
  refine ⟨_, rfl, fv, F, rfl, hF, by omega, by omega, fun d m H5 s5 nd hd5 => ?_⟩
  refine nameI ?_
  have out : ∀ G, SB [] H5 G → ∃ a, True := fun _ _ => ⟨0, trivial⟩
  have s05 := s4.trans (s5.nil (ps := [p]))
  have hp5 := hp4.sb s5
  have none_ : ∀ (G : Hp), SB [] H5 G → ∀ e, G e = none → Q (.ref e) (upd G e (.tup [])) := fun G sG e ne => by
    have t := SB.new (ps := []) ne (.tup [])
    exact q (.ref e) .nil _ ((s05.trans (sG.nil (ps := [p]))).trans (t.nil (ps := [p]))) ((hp5.sb sG).sb t) (LA_nil (SqT.of upd_same)) (by decide) (by decide)
  refine ⟨_, rfl, d, _, _, _, rfl, rfl, SqL.of hd5, atI_nat (j := 0) rfl, _, _, rfl, rfl, _, rfl, ?_⟩
  by_cases h1 : 60 < F.parts
  · rw [decide_eq_true (show (60 : Int) < (F.parts : Nat) by omega)]
    exact iteT (iteT ⟨by show 0 ≤ sizeLine; decide, fun e ne => none_ H5 SB.refl e ne⟩)
  rw [decide_eq_false (show ¬ (60 : Int) < (F.parts : Nat) by omega)]
  refine iteF ⟨_, rfl, d, _, _, _, rfl, rfl, SqL.of hd5, atI_nat (j := 1) rfl, _, _, rfl, rfl, _, rfl, ?_⟩
  rw [decide_eq_false (show ¬ (12 : Int) < (F.deep : Nat) by omega)]
  refine iteF ⟨_, rfl, d, _, _, _, rfl, rfl, SqL.of hd5, atI_nat (j := 2) rfl, 10, 60, rfl, rfl, ⟨by decide, by decide⟩, _, _, rfl, rfl, _, rfl, ?_⟩
  cases decide ((10 : Int) ^ (60 : Int).toNat ≤ m) with
  | true => exact iteT ⟨by show 0 ≤ sizeLine; decide, fun e ne => none_ H5 SB.refl e ne⟩
  | false => exact iteF ⟨_, rfl, q fv F H5 s05 hp5 (LA.sb hF s5) Fd (by omega)⟩
end
end FT
namespace FT
open PySem PySem.W PySem.Spec PyProof.Rows L2
section
variable {P : Program} {w : World} {K : PySem.W.Frag} {mg : Str → Option Value} {base : Heap} {f : Addr} {fd : FuncData}
abbrev N__law_drop : List Str := ["_law_one", "_law_other", "_law_at"]
theorem sc__law_drop : FnScope N__law_drop ["_law_one", "_law_other"] (defScope s__law_drop) := ⟨rfl, rfl, rfl, by decide +kernel, rfl, by decide +kernel, by decide +kernel⟩
theorem none__law_dropq {ps : List Str} {k : Nat} : FnOk P w K mg base CX0 k f fd ps (spDropE K 0) := none_sp fun vs H Q E ⟨v, u, l, k, _, _, _, h, _⟩ => by omega
theorem ok__law_drop {n : Nat} (B : BI mg) (G__law_drop : Got P w K mg base "_law_drop" ["_law_one", "_law_other"] (n) (spDropE K n)) (F : Fun K "_law_drop" "_law_drop" s__law_drop f fd) : FnOk P w K mg base CX0 (n + 1) f fd ["_law_one", "_law_other"] (spDropE K (n + 1)) := by
  refine F.ok sc__law_drop (fun vs H Q E h => ?_) (fun cdv A outer s H vs Q E hr h => ?_)
  · obtain ⟨v, u, l, o, rfl, _⟩ := h
    rfl
  obtain ⟨v, u, l, o, rfl, hv, hu, hdn, hd, hd2, hp, hp2, hlt, q⟩ := h
  have hun2 : A.units + 3 + 200 < cLine := by have := hr.un; have h3 : (A.deeper (envOfC "_law_drop" (defScope s__law_drop) s.heap.objs.size f cdv)).units = A.units + 3 := rfl; omega
  refine ⟨_, pss_cons (ps_set (i := 2) sc__law_drop.nd rfl (.inl rfl) pe_int)
    (pss_cons (ps_while PassesOwn.never (pt_cmpR op_lt (pv 2) (pe_callB call_len_seq rfl B.len PySem.boot_len (pa_cons (pv 1) pa_nil)) (nomark _)) (pss_cons (ps_if (pt_cmpR (op_neD (by show A.units + 3 + 64 < cLine; omega)) (pe_ix ix_tup (pv 0) (pv 2) (fun _ _ => rfl)) (pe_ix ix_tup (pv 1) (pv 2) (fun _ _ => rfl)) (nomark _)) (pss_cons (ps_if (pt_cmpR (op_eqD (by show A.units + 3 + 64 < cLine; omega)) (pe_ix ix_tup (pe_ix ix_tup (pv 0) (pv 2) (fun _ _ => rfl)) pe_int (fun _ _ => rfl)) (pe_ix ix_tup (pe_ix ix_tup (pv 1) (pv 2) (fun _ _ => rfl)) pe_int (fun _ _ => rfl)) (nomark _)) (pss_one (ps_ret (pe_tup (pa_cons pe_str (pa_cons (pv 2) pa_nil))))) pss_nil)
    (pss_one (ps_ret (pe_tup (pa_cons pe_str (pa_cons (pv 2) (pa_cons (pe_got G__law_drop (hr.mono (by omega)) rfl (pa_cons (pe_ix ix_tup (pe_ix ix_tup (pv 0) (pv 2) (fun _ _ => rfl)) pe_int (fun _ _ => rfl)) (pa_cons (pe_ix ix_tup (pe_ix ix_tup (pv 1) (pv 2) (fun _ _ => rfl)) pe_int (fun _ _ => rfl)) pa_nil))) pa_nil))))))) pss_nil)
    (pss_one (ps_set (i := 2) sc__law_drop.nd rfl (.inl rfl) (pe_op op_add (pv 2) pe_int)))))
    (pss_one (ps_ret (pe_tup (pa_cons pe_str (pa_cons (pv 2) pa_nil)))))), ?_⟩
  have szl := sizeLine_eq
  obtain ⟨a, xs, rfl, hsa, hba⟩ := LA_bears hv
  obtain ⟨b, ys, rfl, hsb, hbb⟩ := LA_bears hu
  have xl := hba.length
  have yl := hbb.length
  have llp := l.len_parts
  have olp := o.len_parts
  rw [← Lad.ps_length] at llp olp
  refine nameI ?_
  refine ⟨fun mm σ H2 => ∃ k : Nat, mm = o.ps.length - k ∧ SB [] H H2 ∧ σ = [some (.ref a), some (.ref b), some (.int (k : Int))] ∧ k ≤ l.ps.length ∧ k ≤ o.ps.length ∧ ((Lad.ofPs (o.ps.drop k)).lt (Lad.ofPs (l.ps.drop k)) = true ∨ l = o) ∧ l.dro o = ((Lad.ofPs (l.ps.drop k)).dro (Lad.ofPs (o.ps.drop k))).up k, ⟨_, 0, rfl, SB.refl, rfl, Nat.zero_le _, Nat.zero_le _, hlt.imp_left fun hlt => by rw [List.drop_zero, List.drop_zero, Lad.ofPs_ps, Lad.ofPs_ps]; exact hlt, by rw [List.drop_zero, List.drop_zero, Lad.ofPs_ps, Lad.ofPs_ps, Dro.up_zero]⟩, fun mm σ H2 h2 => ?_⟩
  obtain ⟨k, rfl, s2, rfl, kl, ko, hlt2, hdr⟩ := h2
  refine ⟨_, rfl, _, rfl, b, ys, rfl, .inr (s2.sqT hsb), _, _, rfl, rfl, _, rfl, ?_⟩
  by_cases hk : k < o.ps.length
  · rw [decide_eq_true (show (k : Int) < (ys.length : Nat) by omega)]
    have hkl : k < l.ps.length := by
      rcases hlt2 with hlt2 | rfl
      · refine Classical.byContradiction fun z => ?_
        rw [List.drop_eq_nil_of_le (as := l.ps) (by omega)] at hlt2
        have e := Lad.lt_nil_r (Lad.ofPs (o.ps.drop k))
        rw [show Lad.ofPs ([] : List (Lad × Int)) = .nil from rfl, e] at hlt2
        cases hlt2
      · exact hk
    refine iteT ⟨_, fun σ' H' h => h, ?_⟩
    have hxk : xs[k]? = some xs[k] := List.getElem?_eq_getElem (by omega)
    have hyk : ys[k]? = some ys[k] := List.getElem?_eq_getElem (by omega)
    obtain ⟨p1, ep1, hp1⟩ := hba.get hxk
    obtain ⟨p2, ep2, hp2'⟩ := hbb.get hyk
    have d1 := l.mem_deep p1 (List.mem_of_getElem? ep1)
    have d2 := o.mem_deep p2 (List.mem_of_getElem? ep2)
    have q1 := l.mem_parts p1 (List.mem_of_getElem? ep1)
    have q2 := o.mem_parts p2 (List.mem_of_getElem? ep2)
    obtain ⟨a1, u1, ea1, hs1, hl1⟩ := LA_pair hp1
    obtain ⟨a2, u2, ea2, hs2, hl2⟩ := LA_pair hp2'
    rw [Lad.dro_drop ep1 ep2] at hdr
    rw [Lad.lt_drop ep2 ep1] at hlt2
    have same : l = o → p1 = p2 := fun z => by subst z; rw [ep1] at ep2; injection ep2
    refine ⟨_, rfl, _, rfl, a, xs, _, _, rfl, rfl, s2.sqT hsa, atI_nat hxk, _, rfl, _, rfl, b, ys, _, _, rfl, rfl, s2.sqT hsb, atI_nat hyk, Lad.pEnc p1, Lad.pEnc p2, Dp_sb s2 _ _ (Lad.pEnc_noList _) hp1, Dp_sb s2 _ _ (Lad.pEnc_noList _) hp2', Lad.shaped_pEnc (by omega), Lad.shaped_pEnc (by omega), _, rfl, ?_⟩
    rw [Lad.eqv_pEnc]
    rw [ea1] at hxk
    rw [ea2] at hyk
    by_cases he : p1.1 = p2.1
    · by_cases hm : p1.2 = p2.2
      · rw [show (!(decide (p1.1 = p2.1) && decide (p1.2 = p2.2))) = false by simp [he, hm]]
        rw [if_pos he, if_pos hm, Dro.up_up] at hdr
        rw [if_pos he.symm, if_pos hm.symm] at hlt2
        refine iteF ⟨_, rfl, _, _, rfl, rfl, o.ps.length - (k + 1), by omega, k + 1, rfl, s2, rfl, by omega, by omega, hlt2, hdr⟩
      · rw [show (!(decide (p1.1 = p2.1) && decide (p1.2 = p2.2))) = true by simp [hm]]
        rw [if_pos he, if_neg hm] at hdr
        refine iteT ?_
        refine ⟨_, rfl, _, rfl, a, xs, _, _, rfl, rfl, s2.sqT hsa, atI_nat hxk, a1, _, _, _, rfl, rfl, s2.sqT hs1, atI_nat (j := 0) rfl, _, rfl, _, rfl, b, ys, _, _, rfl, rfl, s2.sqT hsb, atI_nat hyk, a2, _, _, _, rfl, rfl, s2.sqT hs2, atI_nat (j := 0) rfl, p1.1.enc, p2.1.enc, hl1.sb s2, hl2.sb s2, Lad.shaped_enc (by omega), Lad.shaped_enc (by omega), _, rfl, ?_⟩
        rw [Lad.eqv_enc, decide_eq_true he]
        refine iteT ⟨_, rfl, by show 2 ≤ sizeLine; decide, fun T nT => ?_⟩
        refine q (.ref T) _ (s2.trans (SB.new nT _)) ?_
        rw [hdr]
        refine Dp.tup (SqT.of upd_same) (.cons (.str _) (.cons ?_ .nil))
        show Dp K _ (.int (k : Int)) (.int ((0 + k : Nat) : Int))
        rw [Nat.zero_add]; exact .int _
    · rw [show (!(decide (p1.1 = p2.1) && decide (p1.2 = p2.2))) = true by simp [he]]
      rw [if_neg he] at hdr
      rw [if_neg (fun z => he z.symm)] at hlt2
      have hlt2 := hlt2.resolve_right fun z => he (by rw [same z])
      refine iteT ?_
      refine ⟨_, rfl, _, rfl, a, xs, _, _, rfl, rfl, s2.sqT hsa, atI_nat hxk, a1, _, _, _, rfl, rfl, s2.sqT hs1, atI_nat (j := 0) rfl, _, rfl, _, rfl, b, ys, _, _, rfl, rfl, s2.sqT hsb, atI_nat hyk, a2, _, _, _, rfl, rfl, s2.sqT hs2, atI_nat (j := 0) rfl, p1.1.enc, p2.1.enc, hl1.sb s2, hl2.sb s2, Lad.shaped_enc (by omega), Lad.shaped_enc (by omega), _, rfl, ?_⟩
      rw [Lad.eqv_enc, decide_eq_false he]
      refine iteF ?_
      refine ⟨_, rfl, _, rfl, _, rfl, a, xs, _, _, rfl, rfl, s2.sqT hsa, atI_nat hxk, a1, _, _, _, rfl, rfl, s2.sqT hs1, atI_nat (j := 0) rfl, _, rfl, _, rfl, b, ys, _, _, rfl, rfl, s2.sqT hsb, atI_nat hyk, a2, _, _, _, rfl, rfl, s2.sqT hs2, atI_nat (j := 0) rfl, u1, u2, p1.1, p2.1, rfl, hl1.sb s2, hl2.sb s2, by omega, by omega, by omega, by omega, by omega, .inl hlt2, fun x H3 s3 hx => ?_⟩
      refine ⟨by show 3 ≤ sizeLine; decide, fun T nT => ?_⟩
      have t4 := SB.new (ps := []) nT (.tup [.str "exponent", .int (k : Int), x])
      refine q (.ref T) _ ((s2.trans s3).trans t4) ?_
      rw [hdr]
      refine Dp.tup (SqT.of upd_same) (.cons (.str _) (.cons ?_ (.cons (Dp_sb t4 _ _ (Dro.noList _) hx) .nil)))
      show Dp K _ (.int (k : Int)) (.int ((0 + k : Nat) : Int))
      rw [Nat.zero_add]; exact .int _
  · rw [decide_eq_false (show ¬ (k : Int) < (ys.length : Nat) by omega)]
    have e1 : o.ps.drop k = [] := List.drop_eq_nil_of_le (by omega)
    rw [e1, show Lad.ofPs ([] : List (Lad × Int)) = .nil from rfl, Lad.dro_nil_r] at hdr
    refine iteF ⟨_, rfl, by show 2 ≤ sizeLine; decide, fun T nT => ?_⟩
    refine q (.ref T) _ (s2.trans (SB.new nT _)) ?_
    rw [hdr]
    refine Dp.tup (SqT.of upd_same) (.cons (.str _) (.cons ?_ .nil))
    show Dp K _ (.int (k : Int)) (.int ((0 + k : Nat) : Int))
    rw [Nat.zero_add]; exact .int _
end
end FT
namespace FT
open PySem PySem.W PySem.Spec PyProof.Rows L2
section
variable {P : Program} {w : World} {K : PySem.W.Frag} {mg : Str → Option Value} {base : Heap} {f : Addr} {fd : FuncData}
abbrev N__law_same_here : List Str := ["_law_found", "_law_due"]
theorem sc__law_same_here : FnScope N__law_same_here ["_law_found", "_law_due"] (defScope s__law_same_here) := ⟨rfl, rfl, rfl, by decide +kernel, rfl, by decide +kernel, by decide +kernel⟩
theorem none__law_same_here {ps : List Str} {k : Nat} : FnOk P w K mg base CX0 k f fd ps (spSame51 K 0) := none_sp fun vs H Q E ⟨v, u, d, b, _, _, _, h, _⟩ => by omega
theorem ok__law_same_here {n : Nat} (B : BI mg) (G__law_same_here : Got P w K mg base "_law_same_here" ["_law_found", "_law_due"] (n) (spSame51 K n)) (F : Fun K "_law_same_here" "_law_same_here" s__law_same_here f fd) : FnOk P w K mg base CX0 (n + 1) f fd ["_law_found", "_law_due"] (spSame51 K (n + 1)) := by
  refine F.ok sc__law_same_here (fun vs H Q E h => ?_) (fun cdv A outer s H vs Q E hr h => ?_)
  · obtain ⟨v, u, d, b, rfl, _⟩ := h
    rfl
  obtain ⟨v, u, d, b, rfl, hv, hk, hd, q⟩ := h
  have hun2 : A.units + 3 + 200 < cLine := by have := hr.un; have h3 : (A.deeper (envOfC "_law_same_here" (defScope s__law_same_here) s.heap.objs.size f cdv)).units = A.units + 3 := rfl; omega
  refine ⟨_, pss_cons (ps_if (PW.pt (pw_or (pt_not (pt_val (pe_isi B (pv 0) B.tuple boot_tuple))) (pw_or (pt_cmpR op_ne (pe_callB call_len_seq rfl B.len PySem.boot_len (pa_cons (pv 0) pa_nil)) (pe_callB call_len_seq rfl B.len PySem.boot_len (pa_cons (pv 1) pa_nil)) (nomark _)) (pw_or1 (pt_cmpR (op_neS (by show A.units + 3 + 64 < cLine; omega)) (pe_ix ix_tup (pv 0) pe_int (fun _ _ => rfl)) (pe_ix ix_tup (pv 1) pe_int (fun _ _ => rfl)) (nomark _)))))) (pss_one (ps_ret pe_bl)) pss_nil)
    (pss_cons (ps_if (PW.pt (pw_or (pt_not (pt_val (pe_isi B (pe_ix ix_tup (pv 0) pe_int (fun _ _ => rfl)) B.int boot_int))) (pw_or (pt_val (pe_isi B (pe_ix ix_tup (pv 0) pe_int (fun _ _ => rfl)) B.bool boot_bool)) (pw_or1 (pt_cmpR op_ne (pe_ix ix_tup (pv 0) pe_int (fun _ _ => rfl)) (pe_ix ix_tup (pv 1) pe_int (fun _ _ => rfl)) (nomark _)))))) (pss_one (ps_ret pe_bl)) pss_nil)
    (pss_one (ps_ret (pe_or (pe_cmpR op_eq (pe_callB call_len_seq rfl B.len PySem.boot_len (pa_cons (pv 1) pa_nil)) pe_int (nomark _)) (pe_one (pe_got G__law_same_here (hr.mono (by omega)) rfl (pa_cons (pe_ix ix_tup (pv 0) pe_int (fun _ _ => rfl)) (pa_cons (pe_ix ix_tup (pv 1) pe_int (fun _ _ => rfl)) pa_nil)))))))), ?_⟩
  have szl := sizeLine_eq
  cases hk with
  | no ty kt =>
    obtain ⟨A, ts, rfl, hA, tl, t0, t1, tx, _⟩ := dro_sq hv
    exact ⟨_, rfl, _, _, _, false, rfl, ty, kt, _, rfl, iteT (iteT (q _ SB.refl))⟩
  | @len _ a xs hs hl =>
    obtain ⟨A, ts, rfl, hA, tl, t0, t1, tx, _⟩ := dro_sq hv
    refine ⟨_, rfl, _, _, "tuple", true, rfl, SqT_ty hs, by decide +kernel, _, rfl, iteF ?_⟩
    refine ⟨_, rfl, a, xs, rfl, .inr hs, _, rfl, A, ts, rfl, .inr hA, rfl, _, rfl, ?_⟩
    rw [show decide (V.int (xs.length : Nat) = V.int (ts.length : Nat)) = false from decide_eq_false (fun z => hl (by injection z with z; omega))]
    exact iteT (iteT (q _ SB.refl))
  | @word _ a x r hs hl hw =>
    obtain ⟨A, ts, rfl, hA, tl, t0, t1, tx, _⟩ := dro_sq hv
    refine ⟨_, rfl, _, _, "tuple", true, rfl, SqT_ty hs, by decide +kernel, _, rfl, iteF ?_⟩
    refine ⟨_, rfl, a, _, rfl, .inr hs, _, rfl, A, ts, rfl, .inr hA, rfl, _, rfl, ?_⟩
    rw [show decide (V.int ((x :: r).length : Nat) = V.int (ts.length : Nat)) = true from decide_eq_true (by rw [tl, ← hl]; rfl)]
    refine iteF ?_
    cases hw with
    | oth ty ks o => exact ⟨_, rfl, a, _, _, _, rfl, rfl, hs, atI_nat (j := 0) rfl, _, rfl, A, _, _, _, rfl, rfl, hA, t0, _, rfl, .inr ⟨o, _, rfl, iteT (q _ SB.refl)⟩⟩
    | str ne =>
      refine ⟨_, rfl, a, _, _, _, rfl, rfl, hs, atI_nat (j := 0) rfl, _, rfl, A, _, _, _, rfl, rfl, hA, t0, _, rfl, .inl ⟨_, rfl, _, rfl, ?_⟩⟩
      rw [decide_eq_false ne]
      exact iteT (q _ SB.refl)
  | @num _ a y r hs hl hn =>
    obtain ⟨A, ts, rfl, hA, tl, t0, t1, tx, _⟩ := dro_sq hv
    refine ⟨_, rfl, _, _, "tuple", true, rfl, SqT_ty hs, by decide +kernel, _, rfl, iteF ?_⟩
    refine ⟨_, rfl, a, _, rfl, .inr hs, _, rfl, A, ts, rfl, .inr hA, rfl, _, rfl, ?_⟩
    rw [show decide (V.int ((V.str d.word :: y :: r).length : Nat) = V.int (ts.length : Nat)) = true from decide_eq_true (by rw [tl, ← hl]; rfl)]
    refine iteF ?_
    refine ⟨_, rfl, a, _, _, _, rfl, rfl, hs, atI_nat (j := 0) rfl, _, rfl, A, _, _, _, rfl, rfl, hA, t0, _, rfl, .inl ⟨_, rfl, _, rfl, ?_⟩⟩
    rw [decide_eq_true rfl]
    refine iteF ?_
    cases hn with
    | @oth _ _ b ty kb kt =>
      cases b with
      | false => exact ⟨_, rfl, a, _, _, _, rfl, rfl, hs, atI_nat (j := 1) rfl, _, _, _, false, rfl, ty, kb, _, rfl, iteT (iteT (q _ SB.refl))⟩
      | true =>
        refine ⟨_, rfl, a, _, _, _, rfl, rfl, hs, atI_nat (j := 1) rfl, _, _, _, true, rfl, ty, kb, _, rfl, iteF ?_⟩
        exact ⟨_, rfl, a, _, _, _, rfl, rfl, hs, atI_nat (j := 1) rfl, _, _, _, true, rfl, ty, kt rfl, _, rfl, iteT (iteT (q _ SB.refl))⟩
    | int ne =>
      refine ⟨_, rfl, a, _, _, _, rfl, rfl, hs, atI_nat (j := 1) rfl, _, _, "int", true, rfl, .base (.int _), by decide +kernel, _, rfl, iteF ?_⟩
      refine ⟨_, rfl, a, _, _, _, rfl, rfl, hs, atI_nat (j := 1) rfl, _, _, "int", false, rfl, .base (.int _), by decide +kernel, _, rfl, iteF ?_⟩
      refine ⟨_, rfl, a, _, _, _, rfl, rfl, hs, atI_nat (j := 1) rfl, _, rfl, A, _, _, _, rfl, rfl, hA, t1, rfl, _, rfl, ?_⟩
      rw [decide_eq_false (fun z => ne (by injection z))]
      exact iteT (q _ SB.refl)
  | @fin i a hs =>
    obtain ⟨A, rfl, hA⟩ := dro_pr hv
    refine ⟨_, rfl, _, _, "tuple", true, rfl, SqT_ty hs, by decide +kernel, _, rfl, iteF ?_⟩
    refine ⟨_, rfl, a, _, rfl, .inr hs, _, rfl, A, _, rfl, .inr hA, rfl, _, rfl, iteF ?_⟩
    refine ⟨_, rfl, a, _, _, _, rfl, rfl, hs, atI_nat (j := 0) rfl, _, rfl, A, _, _, _, rfl, rfl, hA, atI_nat (j := 0) rfl, _, rfl, .inl ⟨_, rfl, _, rfl, ?_⟩⟩
    rw [decide_eq_true rfl]
    refine iteF ?_
    refine ⟨_, rfl, a, _, _, _, rfl, rfl, hs, atI_nat (j := 1) rfl, _, _, "int", true, rfl, .base (.int _), by decide +kernel, _, rfl, iteF ?_⟩
    refine ⟨_, rfl, a, _, _, _, rfl, rfl, hs, atI_nat (j := 1) rfl, _, _, "int", false, rfl, .base (.int _), by decide +kernel, _, rfl, iteF ?_⟩
    refine ⟨_, rfl, a, _, _, _, rfl, rfl, hs, atI_nat (j := 1) rfl, _, rfl, A, _, _, _, rfl, rfl, hA, atI_nat (j := 1) rfl, rfl, _, rfl, ?_⟩
    rw [decide_eq_true rfl]
    refine iteF ?_
    refine ⟨_, rfl, A, _, rfl, .inr hA, rfl, true, rfl, iteT (q _ SB.refl)⟩
  | @man i a hs =>
    obtain ⟨A, rfl, hA⟩ := dro_pr hv
    refine ⟨_, rfl, _, _, "tuple", true, rfl, SqT_ty hs, by decide +kernel, _, rfl, iteF ?_⟩
    refine ⟨_, rfl, a, _, rfl, .inr hs, _, rfl, A, _, rfl, .inr hA, rfl, _, rfl, iteF ?_⟩
    refine ⟨_, rfl, a, _, _, _, rfl, rfl, hs, atI_nat (j := 0) rfl, _, rfl, A, _, _, _, rfl, rfl, hA, atI_nat (j := 0) rfl, _, rfl, .inl ⟨_, rfl, _, rfl, ?_⟩⟩
    rw [decide_eq_true rfl]
    refine iteF ?_
    refine ⟨_, rfl, a, _, _, _, rfl, rfl, hs, atI_nat (j := 1) rfl, _, _, "int", true, rfl, .base (.int _), by decide +kernel, _, rfl, iteF ?_⟩
    refine ⟨_, rfl, a, _, _, _, rfl, rfl, hs, atI_nat (j := 1) rfl, _, _, "int", false, rfl, .base (.int _), by decide +kernel, _, rfl, iteF ?_⟩
    refine ⟨_, rfl, a, _, _, _, rfl, rfl, hs, atI_nat (j := 1) rfl, _, rfl, A, _, _, _, rfl, rfl, hA, atI_nat (j := 1) rfl, rfl, _, rfl, ?_⟩
    rw [decide_eq_true rfl]
    refine iteF ?_
    refine ⟨_, rfl, A, _, rfl, .inr hA, rfl, true, rfl, iteT (q _ SB.refl)⟩
  | @ex i d a y b hs hy =>
    obtain ⟨A, z, rfl, hA, hz⟩ := dro_tr hv
    have dd : (Dro.ex i d).deep = 1 + d.deep := rfl
    refine ⟨_, rfl, _, _, "tuple", true, rfl, SqT_ty hs, by decide +kernel, _, rfl, iteF ?_⟩
    refine ⟨_, rfl, a, _, rfl, .inr hs, _, rfl, A, _, rfl, .inr hA, rfl, _, rfl, iteF ?_⟩
    refine ⟨_, rfl, a, _, _, _, rfl, rfl, hs, atI_nat (j := 0) rfl, _, rfl, A, _, _, _, rfl, rfl, hA, atI_nat (j := 0) rfl, _, rfl, .inl ⟨_, rfl, _, rfl, ?_⟩⟩
    rw [decide_eq_true rfl]
    refine iteF ?_
    refine ⟨_, rfl, a, _, _, _, rfl, rfl, hs, atI_nat (j := 1) rfl, _, _, "int", true, rfl, .base (.int _), by decide +kernel, _, rfl, iteF ?_⟩
    refine ⟨_, rfl, a, _, _, _, rfl, rfl, hs, atI_nat (j := 1) rfl, _, _, "int", false, rfl, .base (.int _), by decide +kernel, _, rfl, iteF ?_⟩
    refine ⟨_, rfl, a, _, _, _, rfl, rfl, hs, atI_nat (j := 1) rfl, _, rfl, A, _, _, _, rfl, rfl, hA, atI_nat (j := 1) rfl, rfl, _, rfl, ?_⟩
    rw [decide_eq_true rfl]
    refine iteF ?_
    refine ⟨_, rfl, A, _, rfl, .inr hA, rfl, false, rfl, iteF ?_⟩
    exact ⟨_, rfl, a, _, _, _, rfl, rfl, hs, atI_nat (j := 2) rfl, _, rfl, A, _, _, _, rfl, rfl, hA, atI_nat (j := 2) rfl, z, y, d, b, rfl, hz, hy, by omega, fun H1 s1 => q _ s1⟩
end
end FT
namespace FT
open PySem PySem.W PySem.Spec PyProof.Rows L2
section
variable {P : Program} {w : World} {K : PySem.W.Frag} {mg : Str → Option Value} {base : Heap} {f : Addr} {fd : FuncData}
abbrev N__law_spoilt : List Str := ["_law_pot_here", "_law_due", "_law_way", "_law_number", "_law_rest"]
theorem sc__law_spoilt : FnScope N__law_spoilt ["_law_pot_here", "_law_due"] (defScope s__law_spoilt) := ⟨rfl, rfl, rfl, by decide +kernel, rfl, by decide +kernel, by decide +kernel⟩
theorem none__law_spoilt {ps : List Str} {k : Nat} : FnOk P w K mg base CX0 k f fd ps (spSpoilt51 K 0) := none_sp fun vs H Q E ⟨p, y, d, _, _, _, h, _⟩ => by omega
theorem ok__law_spoilt {n : Nat} (B : BI mg) (G__law_take : Got P w K mg base "_law_take" ["_law_pot_here", "_law_many"] (1) (spTakeQ)) (G__law_spoilt : Got P w K mg base "_law_spoilt" ["_law_pot_here", "_law_due"] (n + 2) (spSpoilt51 K n)) (F : Fun K "_law_spoilt" "_law_spoilt" s__law_spoilt f fd) : FnOk P w K mg base CX0 (n + 3) f fd ["_law_pot_here", "_law_due"] (spSpoilt51 K (n + 1)) := by
  refine F.ok sc__law_spoilt (fun vs H Q E h => ?_) (fun cdv A outer s H vs Q E hr h => ?_)
  · obtain ⟨p, y, d, rfl, _⟩ := h
    rfl
  obtain ⟨p, y, d, rfl, hp, hy, hd, hb, q⟩ := h
  have hun2 : A.units + 3 + 200 < cLine := by have := hr.un; have h3 : (A.deeper (envOfC "_law_spoilt" (defScope s__law_spoilt) s.heap.objs.size f cdv)).units = A.units + 3 := rfl; omega
  refine ⟨_, pss_cons (ps_set (i := 2) sc__law_spoilt.nd rfl (.inl rfl) (pe_got G__law_take (hr.mono (by omega)) rfl (pa_cons (pv 0) (pa_cons pe_int pa_nil))))
    (pss_cons (ps_set (i := 3) sc__law_spoilt.nd rfl (.inl rfl) (pe_ix ix_tup (pv 1) pe_int (fun _ _ => rfl)))
    (pss_cons (ps_if (PW.pt (pw_and (pt_cmpR op_gt (pv 2) pe_int (nomark _)) (pw_and1 (pt_cmpR op_eq (pe_callB call_len_seq rfl B.len PySem.boot_len (pa_cons (pv 1) pa_nil)) pe_int (nomark _))))) (pss_one (ps_ret (pe_op op_catB (pe_slice sl_tupB (pv 1) po_none (po_some pe_int)) (pe_tup (pa_cons (pe_got G__law_spoilt (hr.mono (by omega)) rfl (pa_cons (pv 0) (pa_cons (pe_ix ix_tup (pv 1) pe_int (fun _ _ => rfl)) pa_nil))) pa_nil))))) pss_nil)
    (pss_cons (ps_set (i := 4) sc__law_spoilt.nd rfl (.inl rfl) (pe_slice sl_tupB (pv 1) (po_some pe_int) po_none))
    (pss_one (ps_ret (pe_ix ix_list (pe_lst (pa_cons (pe_tup (pa_cons pe_str (pa_cons (pv 3) pa_nil))) (pa_cons (pe_tup (pa_cons pe_str (pa_cons (pv 3) pa_nil))) (pa_cons (pe_tup (pa_cons pe_str (pa_cons (pv 3) (pa_cons (pv 1) pa_nil)))) (pa_cons (pe_op op_catB (pe_tup (pa_cons (pe_ix ix_tup (pv 1) pe_int (fun _ _ => rfl)) (pa_cons (pe_op op_add (pv 3) pe_int) pa_nil))) (pv 4)) (pa_cons (pe_op op_catB (pe_tup (pa_cons (pe_ix ix_tup (pv 1) pe_int (fun _ _ => rfl)) (pa_cons (pe_op op_sub (pv 3) pe_int) pa_nil))) (pv 4)) (pa_cons (pe_op op_catB (pe_tup (pa_cons (pe_ix ix_tup (pv 1) pe_int (fun _ _ => rfl)) (pa_cons (pe_cmpR op_eq (pv 3) pe_int (nomark _)) pa_nil))) (pv 4)) (pa_cons (pe_op op_catB (pv 1) (pe_tup (pa_cons (pv 1) pa_nil))) (pa_cons (pe_op op_catB (pe_slice sl_tupB (pv 1) po_none (po_some pe_int)) (pv 4)) (pa_cons (pe_op op_catB (pe_tup (pa_cons (pe_ix ix_tup (pv 1) pe_int (fun _ _ => rfl)) (pa_cons (pe_callTy call_str_int rfl B.str boot_str (pa_cons (pv 3) pa_nil)) pa_nil))) (pv 4)) (pa_cons (pe_op op_catB (pe_tup (pa_cons pe_str (pa_cons (pv 3) pa_nil))) (pv 4)) pa_nil))))))))))) (pe_op op_mod (pv 2) pe_int) (fun _ _ => rfl))))))), ?_⟩
  have szl := sizeLine_eq
  obtain ⟨A, ts, rfl, hA, tl, t0, t1, tx, ta⟩ := dro_sq hy
  have l3 : ts.length ≤ 3 := by rw [tl]; cases d <;> simp [Dro.len]
  have hlog : (d.ix : Int).natAbs.log2 < 1920 := by
    have hi := Dro.bg_ix hb
    by_cases h0 : d.ix = 0
    · rw [h0]; decide
    · exact (Nat.log2_lt (by simpa using h0)).mpr (Nat.lt_of_le_of_lt (show (d.ix : Int).natAbs ≤ 2 ^ 10 by simpa using (show d.ix ≤ 1024 by omega)) (Nat.pow_lt_pow_right (by decide) (by decide)))
  refine ⟨_, rfl, p, 14, rfl, hp, by decide, by decide, fun r1 H1 r10 r1m s1 hp1 => ?_⟩
  refine nameI ?_
  have hA1 := s1.sqT hA
  have hy1 := Dp_sb s1 _ _ (Dro.noList _) hy
  have ta1 : AnyAll K H1 ts := fun x hx => by
    rcases ta x hx with ⟨z, rfl⟩ | ⟨z, rfl⟩ | ⟨z, h⟩
    · exact .str _
    · exact .int _
    · exact any_dro z (Dp_sb s1 _ _ (Dro.noList _) h)
  refine ⟨_, rfl, A, _, _, _, rfl, rfl, hA1, t1, ?_⟩
  refine nameI ?_
  refine seq_via (fun σ' G => σ' = [some (.ref p), some (.ref A), some (.int r1), some (.int (d.ix : Nat)), none] ∧ G = H1) (fun nx hnx => ?_) (fun σ' G h => ?_)
  · refine ⟨_, rfl, _, _, rfl, rfl, _, rfl, ?_⟩
    cases decide ((9 : Int) < r1) with
    | false => exact iteF (iteF (hnx _ _ ⟨rfl, rfl⟩))
    | true =>
      refine iteT ⟨_, rfl, A, ts, rfl, .inr hA1, rfl, _, rfl, ?_⟩
      cases d with
      | fin i => rw [tl]; exact iteF (hnx _ _ ⟨rfl, rfl⟩)
      | man i => rw [tl]; exact iteF (hnx _ _ ⟨rfl, rfl⟩)
      | ex i e =>
        rw [tl]
        obtain ⟨z, rfl, hz⟩ := tx _ _ rfl
        have dd : (Dro.ex i e).deep = 1 + e.deep := rfl
        refine iteT ?_
        refine ⟨_, rfl, _, rfl, A, _, rfl, hA1, fun C H2 s2 hC => ?_⟩
        refine ⟨_, rfl, _, rfl, A, _, _, _, rfl, rfl, s2.sqT hA1, atI_nat (j := 2) rfl, p, z, e, rfl, hp1.sb s2, Dp_sb (s1.trans (s2.nil (ps := [p]))) _ _ (Dro.noList _) hz, by omega, hb.2, fun x H3 s3 hp3 hx => ?_⟩
        refine ⟨by show 1 ≤ sizeLine; decide, fun T nT => ?_⟩
        have t4 := SB.new (ps := []) nT (.tup [x])
        have hT : SqT K (upd H3 T (.tup [x])) T [x] := SqT.of upd_same
        have hx4 := hx.sb t4
        have hC4 := t4.sqT (s3.sqT hC)
        have hp4 := hp3.sb t4
        have s14 := ((s1.trans (s2.nil (ps := [p]))).trans s3).trans (t4.nil (ps := [p]))
        generalize upd H3 T (.tup [x]) = H4 at t4 hT hx4 hC4 hp4 s14
        refine ⟨C, T, _, _, rfl, rfl, hC4, hT, (by show 2 + 1 ≤ 10000; decide), fun D H5 s5 hD => ?_⟩
        exact q _ _ (s14.trans (s5.nil (ps := [p]))) (hp4.sb s5) (.tup hD (by
          show AnyAll K H5 [.str "exponent", .int (i : Nat), x]
          exact AnyAll.cons (.str _) (AnyAll.cons (.int _) (AnyAll.cons (hx4.sb s5) AnyAll.nil))))
  obtain ⟨rfl, rfl⟩ := h
  refine ⟨_, rfl, _, rfl, A, _, rfl, hA1, fun R H2 s2 hR => ?_⟩
  refine nameI ?_
  have lR := cutV_length ts (some 2) none
  have F0 : Mk51 K H2 A ts R (cutV ts (some 2) none) [] := ⟨s2.sqT hA1, hR, ta1.sb s2, (ta1.sb s2).cut _ _, AnyAll.nil, by omega⟩
  have S0 : SB [] H2 H2 := SB.refl
  refine ⟨_, rfl, by show 2 ≤ sizeLine; decide, fun T1 nT1 => ?_⟩
  have u1 := SB.new (ps := []) nT1 (.tup [.str "end", .int (d.ix : Nat)])
  have hT1 : SqT K (upd H2 T1 (.tup [.str "end", .int (d.ix : Nat)])) T1 [.str "end", .int (d.ix : Nat)] := SqT.of upd_same
  have F1 := F0.sb u1
  have S1 := S0.trans u1
  generalize upd H2 T1 (.tup [.str "end", .int (d.ix : Nat)]) = G1 at u1 hT1 F1 S1
  have F1 := F1.add (.tup hT1 (AnyAll.cons (.str _) (AnyAll.cons (.int _) (AnyAll.nil))))
  refine ⟨_, rfl, by show 2 ≤ sizeLine; decide, fun T2 nT2 => ?_⟩
  have u2 := SB.new (ps := []) nT2 (.tup [.str "many", .int (d.ix : Nat)])
  have hT2 : SqT K (upd G1 T2 (.tup [.str "many", .int (d.ix : Nat)])) T2 [.str "many", .int (d.ix : Nat)] := SqT.of upd_same
  have F2 := F1.sb u2
  have S2 := S1.trans u2
  generalize upd G1 T2 (.tup [.str "many", .int (d.ix : Nat)]) = G2 at u2 hT2 F2 S2
  have F2 := F2.add (.tup hT2 (AnyAll.cons (.str _) (AnyAll.cons (.int _) (AnyAll.nil))))
  refine ⟨_, rfl, _, rfl, by show 3 ≤ sizeLine; decide, fun T3 nT3 => ?_⟩
  have u3 := SB.new (ps := []) nT3 (.tup [.str "exponent", .int (d.ix : Nat), .ref A])
  have hT3 : SqT K (upd G2 T3 (.tup [.str "exponent", .int (d.ix : Nat), .ref A])) T3 [.str "exponent", .int (d.ix : Nat), .ref A] := SqT.of upd_same
  have F3 := F2.sb u3
  have S3 := S2.trans u3
  generalize upd G2 T3 (.tup [.str "exponent", .int (d.ix : Nat), .ref A]) = G3 at u3 hT3 F3 S3
  have F3 := F3.add (.tup hT3 (AnyAll.cons (.str _) (AnyAll.cons (.int _) (AnyAll.cons (.tup F3.hA F3.aT) (AnyAll.nil)))))
  refine ⟨_, rfl, A, _, _, _, rfl, rfl, F3.hA, t0, _, rfl, _, _, rfl, rfl, by show 2 ≤ sizeLine; decide, fun T4 nT4 => ?_⟩
  have u4 := SB.new (ps := []) nT4 (.tup [.str d.word, .int ((d.ix : Nat) + 1)])
  have hT4 : SqT K (upd G3 T4 (.tup [.str d.word, .int ((d.ix : Nat) + 1)])) T4 [.str d.word, .int ((d.ix : Nat) + 1)] := SqT.of upd_same
  have F4 := F3.sb u4
  have S4 := S3.trans u4
  generalize upd G3 T4 (.tup [.str d.word, .int ((d.ix : Nat) + 1)]) = G4 at u4 hT4 F4 S4
  have F4 := F4.add (.tup hT4 (AnyAll.cons (.str _) (AnyAll.cons (.int _) (AnyAll.nil))))
  refine ⟨_, rfl, T4, R, _, _, rfl, rfl, hT4, F4.hR, by have := F4.lR; simp; omega, fun T5 G5 u5 hT5 => ?_⟩
  have F5 := (F4.sb u5)
  have S5 := S4.trans u5
  have F5 := F5.add (.tup hT5 (AnyAll.app (AnyAll.cons (.str _) (AnyAll.cons (.int _) (AnyAll.nil))) F5.aR))
  refine ⟨_, rfl, A, _, _, _, rfl, rfl, F5.hA, t0, _, rfl, _, _, rfl, rfl, by show 2 ≤ sizeLine; decide, fun T6 nT6 => ?_⟩
  have u6 := SB.new (ps := []) nT6 (.tup [.str d.word, .int ((d.ix : Nat) - 1)])
  have hT6 : SqT K (upd G5 T6 (.tup [.str d.word, .int ((d.ix : Nat) - 1)])) T6 [.str d.word, .int ((d.ix : Nat) - 1)] := SqT.of upd_same
  have F6 := F5.sb u6
  have S6 := S5.trans u6
  generalize upd G5 T6 (.tup [.str d.word, .int ((d.ix : Nat) - 1)]) = G6 at u6 hT6 F6 S6
  have F6 := F6.add (.tup hT6 (AnyAll.cons (.str _) (AnyAll.cons (.int _) (AnyAll.nil))))
  refine ⟨_, rfl, T6, R, _, _, rfl, rfl, hT6, F6.hR, by have := F6.lR; simp; omega, fun T7 G7 u7 hT7 => ?_⟩
  have F7 := (F6.sb u7)
  have S7 := S6.trans u7
  have F7 := F7.add (.tup hT7 (AnyAll.app (AnyAll.cons (.str _) (AnyAll.cons (.int _) (AnyAll.nil))) F7.aR))
  refine ⟨_, rfl, A, _, _, _, rfl, rfl, F7.hA, t0, _, rfl, rfl, by show 2 ≤ sizeLine; decide, fun T8 nT8 => ?_⟩
  have u8 := SB.new (ps := []) nT8 (.tup [.str d.word, .bl (decide (V.int (d.ix : Nat) = V.int 1))])
  have hT8 : SqT K (upd G7 T8 (.tup [.str d.word, .bl (decide (V.int (d.ix : Nat) = V.int 1))])) T8 [.str d.word, .bl (decide (V.int (d.ix : Nat) = V.int 1))] := SqT.of upd_same
  have F8 := F7.sb u8
  have S8 := S7.trans u8
  generalize upd G7 T8 (.tup [.str d.word, .bl (decide (V.int (d.ix : Nat) = V.int 1))]) = G8 at u8 hT8 F8 S8
  have F8 := F8.add (.tup hT8 (AnyAll.cons (.str _) (AnyAll.cons (.bl _) (AnyAll.nil))))
  refine ⟨_, rfl, T8, R, _, _, rfl, rfl, hT8, F8.hR, by have := F8.lR; simp; omega, fun T9 G9 u9 hT9 => ?_⟩
  have F9 := (F8.sb u9)
  have S9 := S8.trans u9
  have F9 := F9.add (.tup hT9 (AnyAll.app (AnyAll.cons (.str _) (AnyAll.cons (.bl _) (AnyAll.nil))) F9.aR))
  refine ⟨_, rfl, _, rfl, by show 1 ≤ sizeLine; decide, fun T10 nT10 => ?_⟩
  have u10 := SB.new (ps := []) nT10 (.tup [.ref A])
  have hT10 : SqT K (upd G9 T10 (.tup [.ref A])) T10 [.ref A] := SqT.of upd_same
  have F10 := F9.sb u10
  have S10 := S9.trans u10
  generalize upd G9 T10 (.tup [.ref A]) = G10 at u10 hT10 F10 S10
  have F10 := F10.add (.tup hT10 (AnyAll.cons (.tup F10.hA F10.aT) (AnyAll.nil)))
  refine ⟨A, T10, _, _, rfl, rfl, F10.hA, hT10, by simp; omega, fun T11 G11 u11 hT11 => ?_⟩
  have F11 := (F10.sb u11)
  have S11 := S10.trans u11
  have F11 := F11.add (.tup hT11 (AnyAll.app F11.aT (AnyAll.cons (.tup F11.hA F11.aT) (AnyAll.nil))))
  refine ⟨_, rfl, _, rfl, A, _, rfl, F11.hA, fun T12 G12 u12 hT12 => ?_⟩
  have F12 := (F11.sb u12)
  have S12 := S11.trans u12
  have cT12 := cutV_length ts none (some 1)
  refine ⟨_, rfl, T12, R, _, _, rfl, rfl, hT12, F12.hR, by have := F12.lR; omega, fun T13 G13 u13 hT13 => ?_⟩
  have F13 := (F12.sb u13)
  have S13 := S12.trans u13
  have F13 := F13.add (.tup hT13 (AnyAll.app (F13.aT.cut none (some 1)) F13.aR))
  refine ⟨_, rfl, A, _, _, _, rfl, rfl, F13.hA, t0, _, rfl, _, rfl, hlog, by show 2 ≤ sizeLine; decide, fun T14 nT14 => ?_⟩
  have u14 := SB.new (ps := []) nT14 (.tup [.str d.word, .str (Str.ofString (toString (d.ix : Int)))])
  have hT14 : SqT K (upd G13 T14 (.tup [.str d.word, .str (Str.ofString (toString (d.ix : Int)))])) T14 [.str d.word, .str (Str.ofString (toString (d.ix : Int)))] := SqT.of upd_same
  have F14 := F13.sb u14
  have S14 := S13.trans u14
  generalize upd G13 T14 (.tup [.str d.word, .str (Str.ofString (toString (d.ix : Int)))]) = G14 at u14 hT14 F14 S14
  have F14 := F14.add (.tup hT14 (AnyAll.cons (.str _) (AnyAll.cons (.str _) (AnyAll.nil))))
  refine ⟨_, rfl, T14, R, _, _, rfl, rfl, hT14, F14.hR, by have := F14.lR; simp; omega, fun T15 G15 u15 hT15 => ?_⟩
  have F15 := (F14.sb u15)
  have S15 := S14.trans u15
  have F15 := F15.add (.tup hT15 (AnyAll.app (AnyAll.cons (.str _) (AnyAll.cons (.str _) (AnyAll.nil))) F15.aR))
  refine ⟨_, rfl, by show 2 ≤ sizeLine; decide, fun T16 nT16 => ?_⟩
  have u16 := SB.new (ps := []) nT16 (.tup [.str "endy", .int (d.ix : Nat)])
  have hT16 : SqT K (upd G15 T16 (.tup [.str "endy", .int (d.ix : Nat)])) T16 [.str "endy", .int (d.ix : Nat)] := SqT.of upd_same
  have F16 := F15.sb u16
  have S16 := S15.trans u16
  generalize upd G15 T16 (.tup [.str "endy", .int (d.ix : Nat)]) = G16 at u16 hT16 F16 S16
  have F16 := F16.add (.tup hT16 (AnyAll.cons (.str _) (AnyAll.cons (.int _) (AnyAll.nil))))
  refine ⟨_, rfl, T16, R, _, _, rfl, rfl, hT16, F16.hR, by have := F16.lR; simp; omega, fun T17 G17 u17 hT17 => ?_⟩
  have F17 := (F16.sb u17)
  have S17 := S16.trans u17
  have F17 := F17.add (.tup hT17 (AnyAll.app (AnyAll.cons (.str _) (AnyAll.cons (.int _) (AnyAll.nil))) F17.aR))
  refine ⟨by show 10 ≤ sizeLine; decide, fun LL nL => ?_⟩
  have tL := SB.new (ps := []) nL (.lst [V.ref T1, V.ref T2, V.ref T3, V.ref T5, V.ref T7, V.ref T9, V.ref T11, V.ref T13, V.ref T15, V.ref T17])
  have hL : upd G17 LL (.lst [V.ref T1, V.ref T2, V.ref T3, V.ref T5, V.ref T7, V.ref T9, V.ref T11, V.ref T13, V.ref T15, V.ref T17]) LL = some (.lst [V.ref T1, V.ref T2, V.ref T3, V.ref T5, V.ref T7, V.ref T9, V.ref T11, V.ref T13, V.ref T15, V.ref T17]) := upd_same
  have FL := F17.sb tL
  have SL := S17.trans tL
  generalize upd G17 LL (.lst [V.ref T1, V.ref T2, V.ref T3, V.ref T5, V.ref T7, V.ref T9, V.ref T11, V.ref T13, V.ref T15, V.ref T17]) = GL at tL hL FL SL
  have m0 := Int.emod_nonneg r1 (show (10 : Int) ≠ 0 by decide)
  have m1 := Int.emod_lt_of_pos r1 (show (0 : Int) < 10 by decide)
  obtain ⟨v, ev, mv⟩ := atI_mem (xs := [V.ref T1, V.ref T2, V.ref T3, V.ref T5, V.ref T7, V.ref T9, V.ref T11, V.ref T13, V.ref T15, V.ref T17]) m0 (by show r1 % 10 < 10; exact m1)
  refine ⟨_, rfl, _, _, rfl, rfl, (by show (0 : Int) < 10; decide), LL, _, _, _, rfl, rfl, SqL.of hL, ev, ?_⟩
  refine q _ _ ((s1.trans (s2.nil (ps := [p]))).trans (SL.nil (ps := [p]))) ((hp1.sb s2).sb SL) (FL.D _ ?_)
  simp only [List.mem_cons, List.not_mem_nil, or_false] at mv ⊢
  rcases mv with rfl | rfl | rfl | rfl | rfl | rfl | rfl | rfl | rfl | rfl <;> simp
end
end FT
namespace FT
open PySem PySem.W PySem.Spec PyProof.Rows L2
section
variable {P : Program} {w : World} {K : PySem.W.Frag} {mg : Str → Option Value} {base : Heap} {f : Addr} {fd : FuncData}
abbrev N__law_truth : List Str := ["_law_found", "_law_due"]
theorem sc__law_truth : FnScope N__law_truth ["_law_found", "_law_due"] (defScope s__law_truth) := ⟨rfl, rfl, rfl, by decide +kernel, rfl, by decide +kernel, by decide +kernel⟩
theorem ok__law_truth (B : BI mg) (F : Fun K "_law_truth" "_law_truth" s__law_truth f fd) : FnOk P w K mg base CX0 (1) f fd ["_law_found", "_law_due"] (spTruth) := by
  refine F.ok sc__law_truth (fun vs H Q E h => ?_) (fun cdv A outer s H vs Q E hr h => ?_)
  · obtain ⟨b, rfl, _⟩ := h
    rfl
  obtain ⟨b, rfl, q⟩ := h
  have hun2 : A.units + 3 + 200 < cLine := by have := hr.un; have h3 : (A.deeper (envOfC "_law_truth" (defScope s__law_truth) s.heap.objs.size f cdv)).units = A.units + 3 := rfl; omega
  refine ⟨_, pss_cons (ps_if (pt_val (pv 1)) (pss_one (ps_ret (pe_cmpR op_is_bl (pv 0) pe_bl (nomark _)))) pss_nil)
    (pss_one (ps_ret (pe_cmpR op_is_bl (pv 0) pe_bl (nomark _)))), ?_⟩
  cases b with
  | true => exact ⟨_, rfl, true, rfl, iteT ⟨_, rfl, _, _, rfl, rfl, q⟩⟩
  | false => exact ⟨_, rfl, false, rfl, iteF ⟨_, rfl, _, _, rfl, rfl, q⟩⟩
end
end FT
namespace FT
open PySem PySem.W PySem.Spec PyProof.Rows L2
section
variable {P : Program} {w : World} {K : PySem.W.Frag} {mg : Str → Option Value} {base : Heap} {f : Addr} {fd : FuncData}
abbrev N__law_others : List Str := ["_law_due"]
theorem sc__law_others : FnScope N__law_others ["_law_due"] (defScope s__law_others) := ⟨rfl, rfl, rfl, by decide +kernel, rfl, by decide +kernel, by decide +kernel⟩
theorem ok__law_others (B : BI mg) (F : Fun K "_law_others" "_law_others" s__law_others f fd) : FnOk P w K mg base CX0 (1) f fd ["_law_due"] (spOthers51 K) := by
  refine F.ok sc__law_others (fun vs H Q E h => ?_) (fun cdv A outer s H vs Q E hr h => ?_)
  · obtain ⟨y, d, rfl, _⟩ := h
    rfl
  obtain ⟨y, d, rfl, hy, q⟩ := h
  have hun2 : A.units + 3 + 200 < cLine := by have := hr.un; have h3 : (A.deeper (envOfC "_law_others" (defScope s__law_others) s.heap.objs.size f cdv)).units = A.units + 3 := rfl; omega
  refine ⟨_, pss_one (ps_ret (pe_lst (pa_cons pe_non (pa_cons pe_int (pa_cons pe_bl (pa_cons pe_str (pa_cons pe_str (pa_cons (pe_tup pa_nil) (pa_cons (pe_lst pa_nil) (pa_cons pe_dnewK (pa_cons (pe_tup (pa_cons pe_str pa_nil)) (pa_cons (pe_tup (pa_cons pe_str pa_nil)) (pa_cons (pe_tup (pa_cons (pe_ix ix_tup (pv 0) pe_int (fun _ _ => rfl)) (pa_cons (pe_ix ix_tup (pv 0) pe_int (fun _ _ => rfl)) pa_nil))) (pa_cons (pe_tup (pa_cons pe_non (pa_cons (pe_ix ix_tup (pv 0) pe_int (fun _ _ => rfl)) pa_nil))) (pa_cons (pe_tup (pa_cons pe_str (pa_cons (pe_ix ix_tup (pv 0) pe_int (fun _ _ => rfl)) (pa_cons pe_non pa_nil)))) (pa_cons (pe_tup (pa_cons pe_str (pa_cons (pe_ix ix_tup (pv 0) pe_int (fun _ _ => rfl)) (pa_cons pe_str pa_nil)))) (pa_cons (pe_tup (pa_cons pe_str (pa_cons (pe_ix ix_tup (pv 0) pe_int (fun _ _ => rfl)) (pa_cons (pe_tup pa_nil) pa_nil)))) (pa_cons (pe_tup (pa_cons pe_str (pa_cons pe_non pa_nil))) (pa_cons (pe_tup (pa_cons pe_str (pa_cons (pe_ix ix_tup (pv 0) pe_int (fun _ _ => rfl)) (pa_cons (pe_tup pa_nil) pa_nil)))) (pa_cons (pe_tup (pa_cons (pe_lst pa_nil) (pa_cons (pe_ix ix_tup (pv 0) pe_int (fun _ _ => rfl)) pa_nil))) (pa_cons (pe_tup (pa_cons pe_dnewK (pa_cons (pe_ix ix_tup (pv 0) pe_int (fun _ _ => rfl)) pa_nil))) (pa_cons (pe_tup (pa_cons (pe_lst (pa_cons pe_str pa_nil)) (pa_cons (pe_ix ix_tup (pv 0) pe_int (fun _ _ => rfl)) pa_nil))) (pa_cons (pe_tup (pa_cons (pe_tup (pa_cons pe_str pa_nil)) (pa_cons (pe_ix ix_tup (pv 0) pe_int (fun _ _ => rfl)) pa_nil))) (pa_cons (pe_tup (pa_cons pe_dnewK (pa_cons (pe_ix ix_tup (pv 0) pe_int (fun _ _ => rfl)) (pa_cons (pe_tup (pa_cons pe_str (pa_cons pe_int pa_nil))) pa_nil)))) pa_nil)))))))))))))))))))))))), ?_⟩
  have szl := sizeLine_eq
  obtain ⟨A, ts, rfl, hA, tl, t0, t1, tx, ta⟩ := dro_sq hy
  have l3 : ts.length ≤ 3 := by rw [tl]; cases d <;> simp [Dro.len]
  have ta1 : AnyAll K H ts := fun x hx => by
    rcases ta x hx with ⟨z, rfl⟩ | ⟨z, rfl⟩ | ⟨z, h⟩
    · exact .str _
    · exact .int _
    · exact any_dro z h
  have F0 : Mk51 K H A ts A ts [] := ⟨hA, hA, ta1, ta1, AnyAll.nil, l3⟩
  have S0 : SB [] H H := SB.refl
  refine ⟨by show 0 ≤ sizeLine; decide, fun T1 nT1 => ?_⟩
  have u1 := SB.new (ps := []) nT1 (.tup [])
  have hT1 : SqT K (upd H T1 (.tup [])) T1 [] := SqT.of upd_same
  have F1 := F0.sb u1
  have S1 := S0.trans u1
  generalize upd H T1 (.tup []) = G1 at u1 hT1 F1 S1
  have F1 := F1.add (.tup hT1 (AnyAll.nil))
  refine ⟨by show 0 ≤ sizeLine; decide, fun T2 nT2 => ?_⟩
  have u2 := SB.new (ps := []) nT2 (.lst [])
  have hT2 : upd G1 T2 (.lst []) T2 = some (.lst []) := upd_same
  have F2 := F1.sb u2
  have S2 := S1.trans u2
  generalize upd G1 T2 (.lst []) = G2 at u2 hT2 F2 S2
  have F2 := F2.add (.lst hT2)
  refine fun T3 nT3 => ?_
  have u3 := SB.new (ps := []) nT3 (.dK [])
  have hT3 : upd G2 T3 (.dK []) T3 = some (.dK []) := upd_same
  have F3 := F2.sb u3
  have S3 := S2.trans u3
  generalize upd G2 T3 (.dK []) = G3 at u3 hT3 F3 S3
  have F3 := F3.add (.dct hT3)
  refine ⟨by show 1 ≤ sizeLine; decide, fun T4 nT4 => ?_⟩
  have u4 := SB.new (ps := []) nT4 (.tup [.str "end"])
  have hT4 : SqT K (upd G3 T4 (.tup [.str "end"])) T4 [.str "end"] := SqT.of upd_same
  have F4 := F3.sb u4
  have S4 := S3.trans u4
  generalize upd G3 T4 (.tup [.str "end"]) = G4 at u4 hT4 F4 S4
  have F4 := F4.add (.tup hT4 (AnyAll.cons (.str _) (AnyAll.nil)))
  refine ⟨by show 1 ≤ sizeLine; decide, fun T5 nT5 => ?_⟩
  have u5 := SB.new (ps := []) nT5 (.tup [.str "many"])
  have hT5 : SqT K (upd G4 T5 (.tup [.str "many"])) T5 [.str "many"] := SqT.of upd_same
  have F5 := F4.sb u5
  have S5 := S4.trans u5
  generalize upd G4 T5 (.tup [.str "many"]) = G5 at u5 hT5 F5 S5
  have F5 := F5.add (.tup hT5 (AnyAll.cons (.str _) (AnyAll.nil)))
  refine ⟨_, rfl, A, _, _, _, rfl, rfl, F5.hA, t1, _, rfl, A, _, _, _, rfl, rfl, F5.hA, t0, by show 2 ≤ sizeLine; decide, fun T6 nT6 => ?_⟩
  have u6 := SB.new (ps := []) nT6 (.tup [.int (d.ix : Nat), .str d.word])
  have hT6 : SqT K (upd G5 T6 (.tup [.int (d.ix : Nat), .str d.word])) T6 [.int (d.ix : Nat), .str d.word] := SqT.of upd_same
  have F6 := F5.sb u6
  have S6 := S5.trans u6
  generalize upd G5 T6 (.tup [.int (d.ix : Nat), .str d.word]) = G6 at u6 hT6 F6 S6
  have F6 := F6.add (.tup hT6 (AnyAll.cons (.int _) (AnyAll.cons (.str _) (AnyAll.nil))))
  refine ⟨_, rfl, A, _, _, _, rfl, rfl, F6.hA, t1, by show 2 ≤ sizeLine; decide, fun T7 nT7 => ?_⟩
  have u7 := SB.new (ps := []) nT7 (.tup [.non, .int (d.ix : Nat)])
  have hT7 : SqT K (upd G6 T7 (.tup [.non, .int (d.ix : Nat)])) T7 [.non, .int (d.ix : Nat)] := SqT.of upd_same
  have F7 := F6.sb u7
  have S7 := S6.trans u7
  generalize upd G6 T7 (.tup [.non, .int (d.ix : Nat)]) = G7 at u7 hT7 F7 S7
  have F7 := F7.add (.tup hT7 (AnyAll.cons (.non) (AnyAll.cons (.int _) (AnyAll.nil))))
  refine ⟨_, rfl, A, _, _, _, rfl, rfl, F7.hA, t1, by show 3 ≤ sizeLine; decide, fun T8 nT8 => ?_⟩
  have u8 := SB.new (ps := []) nT8 (.tup [.str "exponent", .int (d.ix : Nat), .non])
  have hT8 : SqT K (upd G7 T8 (.tup [.str "exponent", .int (d.ix : Nat), .non])) T8 [.str "exponent", .int (d.ix : Nat), .non] := SqT.of upd_same
  have F8 := F7.sb u8
  have S8 := S7.trans u8
  generalize upd G7 T8 (.tup [.str "exponent", .int (d.ix : Nat), .non]) = G8 at u8 hT8 F8 S8
  have F8 := F8.add (.tup hT8 (AnyAll.cons (.str _) (AnyAll.cons (.int _) (AnyAll.cons (.non) (AnyAll.nil)))))
  refine ⟨_, rfl, A, _, _, _, rfl, rfl, F8.hA, t1, by show 3 ≤ sizeLine; decide, fun T9 nT9 => ?_⟩
  have u9 := SB.new (ps := []) nT9 (.tup [.str "exponent", .int (d.ix : Nat), .str "end"])
  have hT9 : SqT K (upd G8 T9 (.tup [.str "exponent", .int (d.ix : Nat), .str "end"])) T9 [.str "exponent", .int (d.ix : Nat), .str "end"] := SqT.of upd_same
  have F9 := F8.sb u9
  have S9 := S8.trans u9
  generalize upd G8 T9 (.tup [.str "exponent", .int (d.ix : Nat), .str "end"]) = G9 at u9 hT9 F9 S9
  have F9 := F9.add (.tup hT9 (AnyAll.cons (.str _) (AnyAll.cons (.int _) (AnyAll.cons (.str _) (AnyAll.nil)))))
  refine ⟨_, rfl, A, _, _, _, rfl, rfl, F9.hA, t1, by show 0 ≤ sizeLine; decide, fun T10 nT10 => ?_⟩
  have u10 := SB.new (ps := []) nT10 (.tup [])
  have hT10 : SqT K (upd G9 T10 (.tup [])) T10 [] := SqT.of upd_same
  have F10 := F9.sb u10
  have S10 := S9.trans u10
  generalize upd G9 T10 (.tup []) = G10 at u10 hT10 F10 S10
  have F10 := F10.add (.tup hT10 (AnyAll.nil))
  refine ⟨by show 3 ≤ sizeLine; decide, fun T11 nT11 => ?_⟩
  have u11 := SB.new (ps := []) nT11 (.tup [.str "exponent", .int (d.ix : Nat), .ref T10])
  have hT11 : SqT K (upd G10 T11 (.tup [.str "exponent", .int (d.ix : Nat), .ref T10])) T11 [.str "exponent", .int (d.ix : Nat), .ref T10] := SqT.of upd_same
  have F11 := F10.sb u11
  have S11 := S10.trans u11
  generalize upd G10 T11 (.tup [.str "exponent", .int (d.ix : Nat), .ref T10]) = G11 at u11 hT11 F11 S11
  have F11 := F11.add (.tup hT11 (AnyAll.cons (.str _) (AnyAll.cons (.int _) (AnyAll.cons (F11.D _ List.mem_cons_self) (AnyAll.nil)))))
  refine ⟨by show 2 ≤ sizeLine; decide, fun T12 nT12 => ?_⟩
  have u12 := SB.new (ps := []) nT12 (.tup [.str "many", .non])
  have hT12 : SqT K (upd G11 T12 (.tup [.str "many", .non])) T12 [.str "many", .non] := SqT.of upd_same
  have F12 := F11.sb u12
  have S12 := S11.trans u12
  generalize upd G11 T12 (.tup [.str "many", .non]) = G12 at u12 hT12 F12 S12
  have F12 := F12.add (.tup hT12 (AnyAll.cons (.str _) (AnyAll.cons (.non) (AnyAll.nil))))
  refine ⟨_, rfl, A, _, _, _, rfl, rfl, F12.hA, t1, by show 0 ≤ sizeLine; decide, fun T13 nT13 => ?_⟩
  have u13 := SB.new (ps := []) nT13 (.tup [])
  have hT13 : SqT K (upd G12 T13 (.tup [])) T13 [] := SqT.of upd_same
  have F13 := F12.sb u13
  have S13 := S12.trans u13
  generalize upd G12 T13 (.tup []) = G13 at u13 hT13 F13 S13
  have F13 := F13.add (.tup hT13 (AnyAll.nil))
  refine ⟨by show 3 ≤ sizeLine; decide, fun T14 nT14 => ?_⟩
  have u14 := SB.new (ps := []) nT14 (.tup [.str "end", .int (d.ix : Nat), .ref T13])
  have hT14 : SqT K (upd G13 T14 (.tup [.str "end", .int (d.ix : Nat), .ref T13])) T14 [.str "end", .int (d.ix : Nat), .ref T13] := SqT.of upd_same
  have F14 := F13.sb u14
  have S14 := S13.trans u14
  generalize upd G13 T14 (.tup [.str "end", .int (d.ix : Nat), .ref T13]) = G14 at u14 hT14 F14 S14
  have F14 := F14.add (.tup hT14 (AnyAll.cons (.str _) (AnyAll.cons (.int _) (AnyAll.cons (F14.D _ List.mem_cons_self) (AnyAll.nil)))))
  refine ⟨by show 0 ≤ sizeLine; decide, fun T15 nT15 => ?_⟩
  have u15 := SB.new (ps := []) nT15 (.lst [])
  have hT15 : upd G14 T15 (.lst []) T15 = some (.lst []) := upd_same
  have F15 := F14.sb u15
  have S15 := S14.trans u15
  generalize upd G14 T15 (.lst []) = G15 at u15 hT15 F15 S15
  have F15 := F15.add (.lst hT15)
  refine ⟨_, rfl, A, _, _, _, rfl, rfl, F15.hA, t1, by show 2 ≤ sizeLine; decide, fun T16 nT16 => ?_⟩
  have u16 := SB.new (ps := []) nT16 (.tup [.ref T15, .int (d.ix : Nat)])
  have hT16 : SqT K (upd G15 T16 (.tup [.ref T15, .int (d.ix : Nat)])) T16 [.ref T15, .int (d.ix : Nat)] := SqT.of upd_same
  have F16 := F15.sb u16
  have S16 := S15.trans u16
  generalize upd G15 T16 (.tup [.ref T15, .int (d.ix : Nat)]) = G16 at u16 hT16 F16 S16
  have F16 := F16.add (.tup hT16 (AnyAll.cons (F16.D _ List.mem_cons_self) (AnyAll.cons (.int _) (AnyAll.nil))))
  refine fun T17 nT17 => ?_
  have u17 := SB.new (ps := []) nT17 (.dK [])
  have hT17 : upd G16 T17 (.dK []) T17 = some (.dK []) := upd_same
  have F17 := F16.sb u17
  have S17 := S16.trans u17
  generalize upd G16 T17 (.dK []) = G17 at u17 hT17 F17 S17
  have F17 := F17.add (.dct hT17)
  refine ⟨_, rfl, A, _, _, _, rfl, rfl, F17.hA, t1, by show 2 ≤ sizeLine; decide, fun T18 nT18 => ?_⟩
  have u18 := SB.new (ps := []) nT18 (.tup [.ref T17, .int (d.ix : Nat)])
  have hT18 : SqT K (upd G17 T18 (.tup [.ref T17, .int (d.ix : Nat)])) T18 [.ref T17, .int (d.ix : Nat)] := SqT.of upd_same
  have F18 := F17.sb u18
  have S18 := S17.trans u18
  generalize upd G17 T18 (.tup [.ref T17, .int (d.ix : Nat)]) = G18 at u18 hT18 F18 S18
  have F18 := F18.add (.tup hT18 (AnyAll.cons (F18.D _ List.mem_cons_self) (AnyAll.cons (.int _) (AnyAll.nil))))
  refine ⟨by show 1 ≤ sizeLine; decide, fun T19 nT19 => ?_⟩
  have u19 := SB.new (ps := []) nT19 (.lst [.str "end"])
  have hT19 : upd G18 T19 (.lst [.str "end"]) T19 = some (.lst [.str "end"]) := upd_same
  have F19 := F18.sb u19
  have S19 := S18.trans u19
  generalize upd G18 T19 (.lst [.str "end"]) = G19 at u19 hT19 F19 S19
  have F19 := F19.add (.lst hT19)
  refine ⟨_, rfl, A, _, _, _, rfl, rfl, F19.hA, t1, by show 2 ≤ sizeLine; decide, fun T20 nT20 => ?_⟩
  have u20 := SB.new (ps := []) nT20 (.tup [.ref T19, .int (d.ix : Nat)])
  have hT20 : SqT K (upd G19 T20 (.tup [.ref T19, .int (d.ix : Nat)])) T20 [.ref T19, .int (d.ix : Nat)] := SqT.of upd_same
  have F20 := F19.sb u20
  have S20 := S19.trans u20
  generalize upd G19 T20 (.tup [.ref T19, .int (d.ix : Nat)]) = G20 at u20 hT20 F20 S20
  have F20 := F20.add (.tup hT20 (AnyAll.cons (F20.D _ List.mem_cons_self) (AnyAll.cons (.int _) (AnyAll.nil))))
  refine ⟨by show 1 ≤ sizeLine; decide, fun T21 nT21 => ?_⟩
  have u21 := SB.new (ps := []) nT21 (.tup [.str "many"])
  have hT21 : SqT K (upd G20 T21 (.tup [.str "many"])) T21 [.str "many"] := SqT.of upd_same
  have F21 := F20.sb u21
  have S21 := S20.trans u21
  generalize upd G20 T21 (.tup [.str "many"]) = G21 at u21 hT21 F21 S21
  have F21 := F21.add (.tup hT21 (AnyAll.cons (.str _) (AnyAll.nil)))
  refine ⟨_, rfl, A, _, _, _, rfl, rfl, F21.hA, t1, by show 2 ≤ sizeLine; decide, fun T22 nT22 => ?_⟩
  have u22 := SB.new (ps := []) nT22 (.tup [.ref T21, .int (d.ix : Nat)])
  have hT22 : SqT K (upd G21 T22 (.tup [.ref T21, .int (d.ix : Nat)])) T22 [.ref T21, .int (d.ix : Nat)] := SqT.of upd_same
  have F22 := F21.sb u22
  have S22 := S21.trans u22
  generalize upd G21 T22 (.tup [.ref T21, .int (d.ix : Nat)]) = G22 at u22 hT22 F22 S22
  have F22 := F22.add (.tup hT22 (AnyAll.cons (F22.D _ List.mem_cons_self) (AnyAll.cons (.int _) (AnyAll.nil))))
  refine fun T23 nT23 => ?_
  have u23 := SB.new (ps := []) nT23 (.dK [])
  have hT23 : upd G22 T23 (.dK []) T23 = some (.dK []) := upd_same
  have F23 := F22.sb u23
  have S23 := S22.trans u23
  generalize upd G22 T23 (.dK []) = G23 at u23 hT23 F23 S23
  have F23 := F23.add (.dct hT23)
  refine ⟨_, rfl, A, _, _, _, rfl, rfl, F23.hA, t1, by show 2 ≤ sizeLine; decide, fun T24 nT24 => ?_⟩
  have u24 := SB.new (ps := []) nT24 (.tup [.str "end", .int 0])
  have hT24 : SqT K (upd G23 T24 (.tup [.str "end", .int 0])) T24 [.str "end", .int 0] := SqT.of upd_same
  have F24 := F23.sb u24
  have S24 := S23.trans u24
  generalize upd G23 T24 (.tup [.str "end", .int 0]) = G24 at u24 hT24 F24 S24
  have F24 := F24.add (.tup hT24 (AnyAll.cons (.str _) (AnyAll.cons (.int _) (AnyAll.nil))))
  refine ⟨by show 3 ≤ sizeLine; decide, fun T25 nT25 => ?_⟩
  have u25 := SB.new (ps := []) nT25 (.tup [.ref T23, .int (d.ix : Nat), .ref T24])
  have hT25 : SqT K (upd G24 T25 (.tup [.ref T23, .int (d.ix : Nat), .ref T24])) T25 [.ref T23, .int (d.ix : Nat), .ref T24] := SqT.of upd_same
  have F25 := F24.sb u25
  have S25 := S24.trans u25
  generalize upd G24 T25 (.tup [.ref T23, .int (d.ix : Nat), .ref T24]) = G25 at u25 hT25 F25 S25
  have F25 := F25.add (.tup hT25 (AnyAll.cons (F25.D _ (List.mem_cons_of_mem _ List.mem_cons_self)) (AnyAll.cons (.int _) (AnyAll.cons (F25.D _ List.mem_cons_self) (AnyAll.nil)))))
  refine ⟨by show 22 ≤ sizeLine; decide, fun LL nL => ?_⟩
  have tL := SB.new (ps := []) nL (.lst [V.non, V.int 0, V.bl true, V.str "", V.str "end", V.ref T1, V.ref T2, V.ref T3, V.ref T4, V.ref T5, V.ref T6, V.ref T7, V.ref T8, V.ref T9, V.ref T11, V.ref T12, V.ref T14, V.ref T16, V.ref T18, V.ref T20, V.ref T22, V.ref T25])
  have hL : upd G25 LL (.lst [V.non, V.int 0, V.bl true, V.str "", V.str "end", V.ref T1, V.ref T2, V.ref T3, V.ref T4, V.ref T5, V.ref T6, V.ref T7, V.ref T8, V.ref T9, V.ref T11, V.ref T12, V.ref T14, V.ref T16, V.ref T18, V.ref T20, V.ref T22, V.ref T25]) LL = some (.lst [V.non, V.int 0, V.bl true, V.str "", V.str "end", V.ref T1, V.ref T2, V.ref T3, V.ref T4, V.ref T5, V.ref T6, V.ref T7, V.ref T8, V.ref T9, V.ref T11, V.ref T12, V.ref T14, V.ref T16, V.ref T18, V.ref T20, V.ref T22, V.ref T25]) := upd_same
  have FL := F25.sb tL
  have SL := S25.trans tL
  generalize upd G25 LL (.lst [V.non, V.int 0, V.bl true, V.str "", V.str "end", V.ref T1, V.ref T2, V.ref T3, V.ref T4, V.ref T5, V.ref T6, V.ref T7, V.ref T8, V.ref T9, V.ref T11, V.ref T12, V.ref T14, V.ref T16, V.ref T18, V.ref T20, V.ref T22, V.ref T25]) = GL at tL hL FL SL
  refine q _ _ _ SL hL (AnyAll.cons (.non) (AnyAll.cons (.int _) (AnyAll.cons (.bl _) (AnyAll.cons (.str _) (AnyAll.cons (.str _) (AnyAll.cons (FL.D _ (by simp)) (AnyAll.cons (FL.D _ (by simp)) (AnyAll.cons (FL.D _ (by simp)) (AnyAll.cons (FL.D _ (by simp)) (AnyAll.cons (FL.D _ (by simp)) (AnyAll.cons (FL.D _ (by simp)) (AnyAll.cons (FL.D _ (by simp)) (AnyAll.cons (FL.D _ (by simp)) (AnyAll.cons (FL.D _ (by simp)) (AnyAll.cons (FL.D _ (by simp)) (AnyAll.cons (FL.D _ (by simp)) (AnyAll.cons (FL.D _ (by simp)) (AnyAll.cons (FL.D _ (by simp)) (AnyAll.cons (FL.D _ (by simp)) (AnyAll.cons (FL.D _ (by simp)) (AnyAll.cons (FL.D _ (by simp)) (AnyAll.cons (FL.D _ (by simp)) (AnyAll.nil))))))))))))))))))))))) ?_
  show 22 ≤ 30
  decide
end
end FT
namespace FT
open PySem PySem.W PySem.Spec PyProof.Rows L2
section
variable {P : Program} {w : World} {K : PySem.W.Frag} {mg : Str → Option Value} {base : Heap} {f : Addr} {fd : FuncData}
theorem chk51 {σ : L2.St} {H : Hp} {v1 v2 x y : V} {l1 l2 : Lad} (e2 : σ[2]? = some (some v1)) (e3 : σ[3]? = some (some v2)) (e7 : σ[7]? = some (some x)) (e5 : σ[5]? = some (some (V.bl (!decide (l1 = l2))))) (e4 : σ[4]? = some (some y))
    (hv1 : LA K H v1 l1) (hv2 : LA K H v2 l2) (hx : Any K H x) (hy : Dp K H y (Lad.dro l1 l2).enc) (hlt : l1.lt l2 = false) (b1 : l1.parts ≤ 60 ∧ l1.deep ≤ 12 ∧ l2.parts ≤ 60 ∧ l2.deep ≤ 12) {Q : Bool → Hp → Prop} (q : ∀ H', SB [] H H' → Q false H') :
    (tNot (tB (tCall spTruth [] E0 (tCons (tCall (spIsDrop51 K) [] E0 (tCons (tVar 2) (tCons (tVar 3) (tCons (tVar 7) tNil)))) (tCons (tAndV (tVar 5) (tCall (spSame51 K 40) [] E0 (tCons (tVar 7) (tCons (tVar 4) tNil)))) tNil))))) σ H Q := by
  obtain ⟨b1, b2, b3, b4⟩ := b1
  refine ⟨_, e2, _, e3, _, e7, v1, v2, x, l1, l2, rfl, hv1, hv2, by omega, by omega, by omega, by omega, fun g H1 s1 => ?_, fun g => ?_⟩
  · have he : l1 = l2 := Classical.byContradiction fun z => by rw [Lad.lt_tri _ _ z hlt] at g; cases g
    rw [decide_eq_true he] at e5
    exact ⟨_, e5, _, rfl, iteF ⟨false, rfl, true, rfl, q _ s1⟩⟩
  · have he : ¬ l1 = l2 := fun z => by rw [z, Lad.lt_irrefl] at g; cases g
    rw [decide_eq_false he] at e5
    obtain ⟨b, hb⟩ := lk_any (Lad.dro l1 l2) x hx
    have dd := Lad.dro_deep l1 l2
    refine ⟨b, hb, fun H1 s1 => ?_⟩
    refine ⟨_, e5, _, rfl, iteT ⟨_, e7, _, e4, y, x, _, b, rfl, Dp_sb s1 _ _ (Dro.noList _) hy, hb.sb s1, by omega, fun H2 s2 => ?_⟩⟩
    exact ⟨b, rfl, true, rfl, q _ (s1.trans s2)⟩
theorem chk51b {σ : L2.St} {H : Hp} {v1 v2 x : V} {l1 l2 : Lad} (e2 : σ[2]? = some (some v1)) (e3 : σ[3]? = some (some v2)) (e7 : σ[7]? = some (some x)) 
    (hv1 : LA K H v1 l1) (hv2 : LA K H v2 l2) (hlt : l1.lt l2 = false) (b1 : l1.parts ≤ 60 ∧ l1.deep ≤ 12 ∧ l2.parts ≤ 60 ∧ l2.deep ≤ 12) {Q : Bool → Hp → Prop} (q : ∀ H', SB [] H H' → Q false H') :
    (tTest (tOp (fun x y H Q => ∃ a b, x = V.bl a ∧ y = V.bl b ∧ Q (V.bl !decide (a = b)) H) (tCall (spIsDrop51 K) [] E0 (tCons (tVar 3) (tCons (tVar 2) (tCons (tVar 7) tNil)))) (tC (V.bl false)))) σ H Q := by
  obtain ⟨b1, b2, b3, b4⟩ := b1
  refine ⟨_, e3, _, e2, _, e7, v2, v1, x, l2, l1, rfl, hv2, hv1, by omega, by omega, by omega, by omega, fun _ H1 s1 => ?_, fun z => by rw [hlt] at z; cases z⟩
  exact ⟨_, _, rfl, rfl, false, rfl, q _ s1⟩
theorem chk51c {σ : L2.St} {H : Hp} {v1 v2 x : V} {l1 l2 : Lad} (e2 : σ[2]? = some (some v1)) (e3 : σ[3]? = some (some v2)) (e7 : σ[7]? = some (some x)) 
    (hv1 : LA K H v1 l1) (hv2 : LA K H v2 l2) (hx : Lk K H (Lad.dro l1 l2) x false) (b1 : l1.parts ≤ 60 ∧ l1.deep ≤ 12 ∧ l2.parts ≤ 60 ∧ l2.deep ≤ 12) {Q : Bool → Hp → Prop} (q : ∀ H', SB [] H H' → Q false H') :
    (tTest (tOp (fun x y H Q => ∃ a b, x = V.bl a ∧ y = V.bl b ∧ Q (V.bl !decide (a = b)) H) (tCall (spIsDrop51 K) [] E0 (tCons (tVar 2) (tCons (tVar 3) (tCons (tVar 7) tNil)))) (tC (V.bl false)))) σ H Q := by
  obtain ⟨b1, b2, b3, b4⟩ := b1
  exact ⟨_, e2, _, e3, _, e7, v1, v2, x, l1, l2, rfl, hv1, hv2, by omega, by omega, by omega, by omega, fun _ H1 s1 => ⟨_, _, rfl, rfl, false, rfl, q _ s1⟩, fun _ => ⟨false, hx, fun H1 s1 => ⟨_, _, rfl, rfl, false, rfl, q _ s1⟩⟩⟩
theorem nameL {i : Nat} {x : V} {σ : L2.St} {H : Hp} {Q : L2.St → Hp → Prop} (h : Q (σ.set i (some x)) H) : gName i x σ H Q := h
theorem ifN {c : TT} {t u : TS} {D : L2.Ends} {σ : L2.St} {H : Hp} (h : c σ H fun b H1 => if b = true then t D σ H1 else u D σ H1) : tIfS c t u D σ H := h
theorem nextN {σ : L2.St} {H : Hp} {f : L2.St → Hp → Prop} {r : VK} {b c : L2.St → Hp → Prop} (h : f σ H) : tNext (L2.Ends.mk f r b c) σ H := h
theorem cut2_len : ∀ ts : List V, 2 ≤ ts.length → ts.length ≤ 3 → (cutV ts (some 2) none).length + 2 = ts.length
  | [_, _], _, _ => rfl
  | [_, _, _], _, _ => rfl
  | [], h, _ => absurd h (by decide)
  | [_], h, _ => absurd h (by simp)
  | _ :: _ :: _ :: _ :: r, _, h => absurd h (by simp)
theorem lk_less {H : Hp} {T : Addr} {d : Dro} {r : List V} {z : Int} (h : SqT K H T (.str d.word :: .int z :: r)) (hl : r.length + 2 = d.len) (hz : z ≠ (d.ix : Nat)) : Lk K H d (.ref T) false :=
  .num h hl (.int hz)
abbrev N_law : List Str := ["_law_script", "_law_pot_here", "_law_one", "_law_other", "_law_due", "_law_let", "_law_turn", "_law_thing", "_law_again", "_law_size"]
theorem sc_law : FnScope N_law ["_law_script"] (defScope s_law) := ⟨rfl, rfl, rfl, by decide +kernel, rfl, by decide +kernel, by decide +kernel⟩
theorem ok_law (B : BI mg) (G__law_pot : Got P w K mg base "_law_pot" ["_law_script"] (1) (spPot K)) (G__law_ladder : Got P w K mg base "_law_ladder" ["_law_pot_here", "_law_parts"] (62) (spLadE K 20)) (G__law_take : Got P w K mg base "_law_take" ["_law_pot_here", "_law_many"] (1) (spTakeQ)) (G__law_goal : Got P w K mg base "_law_goal" ["_law_pot_here", "_law_ladder_here"] (42) (spGoalQ K)) (G__law_less : Got P w K mg base "_law_less" ["_law_one", "_law_other"] (40) (spLLess K 40)) (G__law_drop : Got P w K mg base "_law_drop" ["_law_one", "_law_other"] (40) (spDropE K 40)) (G__law_spoilt : Got P w K mg base "_law_spoilt" ["_law_pot_here", "_law_due"] (42) (spSpoilt51 K 40)) (G__law_truth : Got P w K mg base "_law_truth" ["_law_found", "_law_due"] (1) (spTruth)) (G__law_same_here : Got P w K mg base "_law_same_here" ["_law_found", "_law_due"] (40) (spSame51 K 40)) (G_is_drop : Got P w K mg base "is_drop" ["one", "other", "thing"] (64) (spIsDrop51 K)) (G__law_others : Got P w K mg base "_law_others" ["_law_due"] (1) (spOthers51 K)) (F : Fun K "law" "law" s_law f fd) : FnOk P w K mg base CX0 (100) f fd ["_law_script"] (spLaw K) := by
  refine F.ok sc_law (fun vs H Q E h => ?_) (fun cdv A outer s H vs Q E hr h => ?_)
  · obtain ⟨a, ns, rfl, _⟩ := h
    rfl
  obtain ⟨a, ns, rfl, hs, nl, q⟩ := h
  have hun2 : A.units + 3 + 200 < cLine := by have := hr.un; have h3 : (A.deeper (envOfC "law" (defScope s_law) s.heap.objs.size f cdv)).units = A.units + 3 := rfl; omega
  refine ⟨_, pss_cons (ps_set (i := 1) sc_law.nd rfl (.inl rfl) (pe_got G__law_pot (hr.mono (by omega)) rfl (pa_cons (pv 0) pa_nil)))
    (pss_cons (ps_set (i := 2) sc_law.nd rfl (.inl rfl) (pe_got G__law_ladder (hr.mono (by omega)) rfl (pa_cons (pv 1) (pa_cons (pe_op op_add pe_int (pe_got G__law_take (hr.mono (by omega)) rfl (pa_cons (pv 1) (pa_cons pe_int pa_nil)))) pa_nil))))
    (pss_cons (ps_set (i := 3) sc_law.nd rfl (.inl rfl) (pe_got G__law_goal (hr.mono (by omega)) rfl (pa_cons (pv 1) (pa_cons (pv 2) pa_nil))))
    (pss_cons (ps_if (pt_cmpR op_eq (pe_got G__law_take (hr.mono (by omega)) rfl (pa_cons (pv 1) (pa_cons pe_int pa_nil))) pe_int (nomark _)) (pss_one (ps_set (i := 3) sc_law.nd rfl (.inl rfl) (pe_got G__law_ladder (hr.mono (by omega)) rfl (pa_cons (pv 1) (pa_cons (pe_got G__law_take (hr.mono (by omega)) rfl (pa_cons (pv 1) (pa_cons pe_int pa_nil))) pa_nil))))) pss_nil)
    (pss_cons (ps_if (pt_val (pe_got G__law_less (hr.mono (by omega)) rfl (pa_cons (pv 2) (pa_cons (pv 3) pa_nil)))) (pss_one (ps_par (i := 2) (j := 3) rfl sc_law.nd rfl rfl (by decide) rfl rfl (pa_cons (pv 3) (pa_cons (pv 2) pa_nil)) rfl)) pss_nil)
    (pss_cons (ps_set (i := 4) sc_law.nd rfl (.inl rfl) (pe_got G__law_drop (hr.mono (by omega)) rfl (pa_cons (pv 2) (pa_cons (pv 3) pa_nil))))
    (pss_cons (ps_set (i := 5) sc_law.nd rfl (.inl rfl) (pe_cmpR (op_neD (by show A.units + 3 + 64 < cLine; omega)) (pv 2) (pv 3) (nomark _)))
    (pss_cons (ps_for PassesOwn.never rfl (pi_range1 rfl B.range (pa_cons pe_int pa_nil)) (pg_name (i := 6) sc_law.nd rfl (.inl rfl))
      (pss_cons (ps_set (i := 7) sc_law.nd rfl (.inl rfl) (pe_got G__law_spoilt (hr.mono (by omega)) rfl (pa_cons (pv 1) (pa_cons (pv 4) pa_nil))))
    (pss_one (ps_for PassesOwn.never rfl (pi_range1 rfl B.range (pa_cons pe_int pa_nil)) (pg_name (i := 8) sc_law.nd rfl (.inl rfl))
      (pss_cons (ps_if (pt_not (pt_val (pe_got G__law_truth (hr.mono (by omega)) rfl (pa_cons (pe_got G_is_drop (hr.mono (by omega)) rfl (pa_cons (pv 2) (pa_cons (pv 3) (pa_cons (pv 7) pa_nil)))) (pa_cons (pe_and (pv 5) (pe_one (pe_got G__law_same_here (hr.mono (by omega)) rfl (pa_cons (pv 7) (pa_cons (pv 4) pa_nil))))) pa_nil))))) (pss_one (ps_ret pe_bl)) pss_nil)
    (pss_one (ps_if (pt_cmpR op_isnot_bl (pe_got G_is_drop (hr.mono (by omega)) rfl (pa_cons (pv 3) (pa_cons (pv 2) (pa_cons (pv 7) pa_nil)))) pe_bl (nomark _)) (pss_one (ps_ret pe_bl)) pss_nil)))))))
    (pss_cons (ps_for PassesOwn.never rfl (pi_list (pe_got G__law_others (hr.mono (by omega)) rfl (pa_cons (pv 4) pa_nil))) (pg_name (i := 7) sc_law.nd rfl (.inl rfl))
      (pss_one (ps_if (pt_not (pt_val (pe_got G__law_truth (hr.mono (by omega)) rfl (pa_cons (pe_got G_is_drop (hr.mono (by omega)) rfl (pa_cons (pv 2) (pa_cons (pv 3) (pa_cons (pv 7) pa_nil)))) (pa_cons (pe_and (pv 5) (pe_one (pe_got G__law_same_here (hr.mono (by omega)) rfl (pa_cons (pv 7) (pa_cons (pv 4) pa_nil))))) pa_nil))))) (pss_one (ps_ret pe_bl)) pss_nil)))
    (pss_cons (ps_for PassesOwn.never rfl (pi_list (pe_lst (pa_cons (pe_callB call_len_seq rfl B.len PySem.boot_len (pa_cons (pv 2) pa_nil)) (pa_cons (pe_callB call_len_seq rfl B.len PySem.boot_len (pa_cons (pv 3) pa_nil)) pa_nil)))) (pg_name (i := 9) sc_law.nd rfl (.inl rfl))
      (pss_cons (ps_set (i := 7) sc_law.nd rfl (.inl rfl) (pe_op op_catB (pe_tup (pa_cons (pe_ix ix_tup (pv 4) pe_int (fun _ _ => rfl)) (pa_cons (pe_op op_sub (pe_ix ix_tup (pv 4) pe_int (fun _ _ => rfl)) (pv 9)) pa_nil))) (pe_slice sl_tupB (pv 4) (po_some pe_int) po_none)))
    (pss_one (ps_if (PW.pt (pw_and (pt_cmpR op_gt (pv 9) pe_int (nomark _)) (pw_and1 (pt_cmpR op_isnot_bl (pe_got G_is_drop (hr.mono (by omega)) rfl (pa_cons (pv 2) (pa_cons (pv 3) (pa_cons (pv 7) pa_nil)))) pe_bl (nomark _))))) (pss_one (ps_ret pe_bl)) pss_nil))))
    (pss_one (ps_ret (pe_cmpR op_is_bl (pe_got G_is_drop (hr.mono (by omega)) rfl (pa_cons (pv 2) (pa_cons (pv 3) (pa_cons (pe_callTy call_list_of rfl B.list boot_list (pa_cons (pv 4) pa_nil)) pa_nil)))) pe_bl (nomark _))))))))))))), ?_⟩
  have szl := sizeLine_eq
  refine ⟨_, rfl, a, ns, rfl, hs, nl, fun p H1 s1 np hp1 => ?_⟩
  refine nameI ?_
  refine ⟨_, rfl, _, rfl, p, 10, rfl, hp1, by decide, by decide, fun r2 H2 r20 r2m s2 hp2 => ?_⟩
  obtain ⟨n2, rfl⟩ : ∃ x : Nat, r2 = (x : Int) := ⟨r2.toNat, by omega⟩
  refine ⟨_, _, rfl, rfl, p, 1 + n2, (by show [V.ref p, V.int (1 + (n2 : Int))] = [V.ref p, V.int ((1 + n2 : Nat) : Int)]; rw [Int.natCast_add]; rfl), hp2, by omega, by omega, fun v1 l1 H3 s3 hp3 hv1 lp1 ld1 ln1 ne1 => ?_⟩
  have ne1 := ne1 (by omega)
  refine nameI ?_
  refine ⟨_, rfl, _, rfl, p, v1, l1, rfl, hp3, hv1, ne1, by omega, by omega, ln1, fun v2 l2 H4 s4 hp4 hv2 ld2 lp2 => ?_⟩
  refine nameI ?_
  refine seq_via (fun σ' G => ∃ (v2 : V) (l2 : Lad), σ' = [some (.ref a), some (.ref p), some v1, some v2, none, none, none, none, none, none] ∧ PotA G p ∧ LA K G v1 l1 ∧ LA K G v2 l2 ∧ l2.parts ≤ 60 ∧ l2.deep ≤ 12) (fun nx hnx => ?_) (fun σ' G h => ?_)
  · refine ⟨_, rfl, p, 3, rfl, hp4, by decide, by decide, fun r5 H5 r50 r53 s5 hp5 => ⟨rfl, _, rfl, ?_⟩⟩
    cases decide (V.int r5 = V.int 2) with
    | false => exact iteF (hnx _ _ ⟨v2, l2, rfl, hp5, LA.sb (LA.sb hv1 s4) s5, LA.sb hv2 s5, lp2, ld2⟩)
    | true =>
      refine iteT ⟨_, rfl, _, rfl, p, 11, rfl, hp5, by decide, by decide, fun r6 H6 r60 r6m s6 hp6 => ?_⟩
      obtain ⟨n6, rfl⟩ : ∃ x : Nat, r6 = (x : Int) := ⟨r6.toNat, by omega⟩
      exact ⟨p, n6, rfl, hp6, by omega, by omega, fun v3 l3 H7 s7 hp7 hv3 lp3 ld3 _ _ => hnx _ _ ⟨v3, l3, rfl, hp7, LA.sb (LA.sb (LA.sb (LA.sb hv1 s4) s5) s6) s7, hv3, by omega, by omega⟩⟩
  clear hv1 hv2 hp4 lp2 ld2 hp3 hp2 hp1 s1 s2 s3 s4
  obtain ⟨v2, l2, rfl, hp, hv1, hv2, lp2, ld2⟩ := h
  refine seq_via (fun σ' G => ∃ (v1 v2 : V) (l1 l2 : Lad), σ' = [some (.ref a), some (.ref p), some v1, some v2, none, none, none, none, none, none] ∧ PotA G p ∧ LA K G v1 l1 ∧ LA K G v2 l2 ∧ (l1.parts ≤ 60 ∧ l1.deep ≤ 12 ∧ l2.parts ≤ 60 ∧ l2.deep ≤ 12) ∧ l1.lt l2 = false) (fun nx hnx => ?_) (fun σ' G h => ?_)
  · refine ⟨_, rfl, _, rfl, v1, v2, l1, l2, rfl, hv1, hv2, by omega, by omega, by omega, fun H9 s9 => ⟨_, rfl, ?_⟩⟩
    have hv1 := LA.sb hv1 s9
    have hv2 := LA.sb hv2 s9
    have hp := hp.sb s9
    cases hlt : l1.lt l2 with
    | true => exact iteT ⟨_, rfl, _, rfl, _, _, rfl, hnx _ _ ⟨v2, v1, l2, l1, rfl, hp, hv2, hv1, ⟨by omega, by omega, by omega, by omega⟩, Lad.lt_asymm hlt⟩⟩
    | false => exact iteF (hnx _ _ ⟨v1, v2, l1, l2, rfl, hp, hv1, hv2, ⟨by omega, by omega, by omega, by omega⟩, hlt⟩)
  clear hv1 hv2 hp lp1 ld1 ln1 lp2 ld2 ne1
  obtain ⟨v1, v2, l1, l2, rfl, hp, hv1, hv2, bb, hlt⟩ := h
  have bb' := bb
  obtain ⟨lp1, ld1, lp2, ld2⟩ := bb
  have hor : l2.lt l1 = true ∨ l1 = l2 := by
    by_cases he : l1 = l2
    · exact .inr he
    · exact .inl (Lad.lt_tri _ _ he hlt)
  refine ⟨_, rfl, _, rfl, v1, v2, l1, l2, rfl, hv1, hv2, by omega, by omega, by omega, by omega, by omega, hor, fun y H10 s10 hy => ?_⟩
  refine nameI ?_
  have hv1 := LA.sb hv1 s10
  have hv2 := LA.sb hv2 s10
  have hp := hp.sb s10
  refine ⟨_, rfl, _, rfl, l1.enc, l2.enc, hv1, hv2, Lad.shaped_enc (by omega), Lad.shaped_enc (by omega), ?_⟩
  rw [Lad.eqv_enc]
  refine nameI ?_
  have dd := Lad.dro_deep l1 l2
  have dbg := Lad.dro_bg l1 l2 1000 (by omega)
  generalize hd : Lad.dro l1 l2 = d at hy dd dbg
  -- the first loop
  refine ⟨8, rfl, by decide, by decide, fun i m σ G => m = 8 - i ∧ ∃ o6 o7 o8, σ = [some (.ref a), some (.ref p), some v1, some v2, some y, some (.bl (!decide (l1 = l2))), o6, o7, o8, none] ∧ PotA G p ∧ LA K G v1 l1 ∧ LA K G v2 l2 ∧ Dp K G y d.enc, ⟨_, rfl, none, none, none, rfl, hp, hv1, hv2, hy⟩, fun i m σ G hW => ?_⟩
  clear hp hv1 hv2 hy
  obtain ⟨rfl, o6, o7, o8, rfl, hp, hv1, hv2, hy⟩ := hW
  by_cases hi : i < 8
  · refine .inr ⟨hi, fun σ' G' => ∃ o6 o7 o8, σ' = [some (.ref a), some (.ref p), some v1, some v2, some y, some (.bl (!decide (l1 = l2))), o6, o7, o8, none] ∧ PotA G' p ∧ LA K G' v1 l1 ∧ LA K G' v2 l2 ∧ Dp K G' y d.enc, fun σ' H' h => ⟨8 - (i + 1), by omega, rfl, h⟩, fun x G' hyld => ?_⟩
    obtain ⟨rfl, rfl⟩ := hyld
    refine nameL ?_
    refine ⟨_, rfl, _, rfl, p, y, d, rfl, hp, hy, by omega, dbg, fun x G1 s1 hp1 hx => ?_⟩
    refine nameI ?_
    refine ⟨2, rfl, by decide, by decide, fun j m σ G => m = 2 - j ∧ ∃ o8, σ = [some (.ref a), some (.ref p), some v1, some v2, some y, some (.bl (!decide (l1 = l2))), some (.int (0 + (i : Int))), some x, o8, none] ∧ PotA G p ∧ LA K G v1 l1 ∧ LA K G v2 l2 ∧ Dp K G y d.enc ∧ Any K G x, ⟨_, rfl, o8, rfl, hp1, LA.sb hv1 s1, LA.sb hv2 s1, Dp_sb s1 _ _ (Dro.noList _) hy, hx⟩, fun j m σ G2 hW => ?_⟩
    clear hp hv1 hv2 hy hp1 hx
    obtain ⟨rfl, o8, rfl, hp, hv1, hv2, hy, hx⟩ := hW
    by_cases hj : j < 2
    · refine .inr ⟨hj, fun σ' G' => ∃ o8, σ' = [some (.ref a), some (.ref p), some v1, some v2, some y, some (.bl (!decide (l1 = l2))), some (.int (0 + (i : Int))), some x, o8, none] ∧ PotA G' p ∧ LA K G' v1 l1 ∧ LA K G' v2 l2 ∧ Dp K G' y d.enc ∧ Any K G' x, fun σ' H' h => ⟨2 - (j + 1), by omega, rfl, h⟩, fun z G' hyld => ?_⟩
      obtain ⟨rfl, rfl⟩ := hyld
      refine nameL (seqI (ifN ?_))
      refine chk51 rfl rfl rfl rfl rfl hv1 hv2 hx (by rw [hd]; exact hy) hlt bb' fun G3 s3 => iteF ?_
      refine nextN (ifN ?_)
      refine chk51b rfl rfl rfl (LA.sb hv1 s3) (LA.sb hv2 s3) hlt bb' fun G4 s4 => iteF ?_
      have s34 := s3.trans s4
      exact ⟨_, rfl, hp.sb s34, LA.sb hv1 s34, LA.sb hv2 s34, Dp_sb s34 _ _ (Dro.noList _) hy, hx.sb s34⟩
    · exact .inl ⟨by show 2 ≤ j; omega, _, _, _, rfl, hp, hv1, hv2, hy⟩
  refine .inl ⟨by show 8 ≤ i; omega, ?_⟩
  -- the second loop
  refine ⟨_, rfl, y, d, rfl, hy, fun L xs G1 s1 hL hxs lx => ?_⟩
  refine ⟨L, rfl, ⟨_, SqL.of hL⟩, fun i m σ G => m = xs.length - i ∧ ∃ o6 o7 o8, σ = [some (.ref a), some (.ref p), some v1, some v2, some y, some (.bl (!decide (l1 = l2))), o6, o7, o8, none] ∧ G L = some (.lst xs) ∧ AnyAll K G xs ∧ LA K G v1 l1 ∧ LA K G v2 l2 ∧ Dp K G y d.enc, ⟨_, rfl, o6, o7, o8, rfl, hL, hxs, LA.sb hv1 s1, LA.sb hv2 s1, Dp_sb s1 _ _ (Dro.noList _) hy⟩, fun j m σ G2 hW => ?_⟩
  clear hp hv1 hv2 hy hL hxs
  obtain ⟨rfl, o6, o7, o8, rfl, hL, hxs, hv1, hv2, hy⟩ := hW
  by_cases hj : j < xs.length
  · refine .inr ⟨⟨xs, xs[j], SqL.of hL, List.getElem?_eq_getElem hj⟩, fun σ' G' => ∃ o6 o7 o8, σ' = [some (.ref a), some (.ref p), some v1, some v2, some y, some (.bl (!decide (l1 = l2))), o6, o7, o8, none] ∧ G' L = some (.lst xs) ∧ AnyAll K G' xs ∧ LA K G' v1 l1 ∧ LA K G' v2 l2 ∧ Dp K G' y d.enc, fun σ' H' h => ⟨xs.length - (j + 1), by omega, rfl, h⟩, fun z G' hyld => ?_⟩
    obtain ⟨rfl, hz⟩ := hyld
    have hz := List.mem_of_getElem? (hz xs (SqL.of hL))
    refine nameL (ifN ?_)
    refine chk51 rfl rfl rfl rfl rfl hv1 hv2 (hxs z hz) (by rw [hd]; exact hy) hlt bb' fun G3 s3 => iteF ?_
    exact ⟨_, _, _, rfl, s3.keep _ _ hL List.not_mem_nil, hxs.sb s3, LA.sb hv1 s3, LA.sb hv2 s3, Dp_sb s3 _ _ (Dro.noList _) hy⟩
  refine .inl ⟨⟨xs, SqL.of hL, by omega⟩, ?_⟩
  clear hL hxs
  -- the third loop
  obtain ⟨A1, zs1, rfl, hA1, hb1⟩ := LA_bears hv1
  obtain ⟨A2, zs2, rfl, hA2, hb2⟩ := LA_bears hv2
  refine ⟨_, rfl, A1, _, rfl, .inr hA1, _, rfl, A2, _, rfl, .inr hA2, by show 2 ≤ sizeLine; decide, fun LS nLS => ?_⟩
  have t := SB.new (ps := []) nLS (.lst [.int (zs1.length : Nat), .int (zs2.length : Nat)])
  have hLS : upd G2 LS (.lst [.int (zs1.length : Nat), .int (zs2.length : Nat)]) LS = some (.lst [.int (zs1.length : Nat), .int (zs2.length : Nat)]) := upd_same
  have hv1 := LA.sb hv1 t
  have hv2 := LA.sb hv2 t
  have hy := Dp_sb t _ _ (Dro.noList _) hy
  generalize upd G2 LS (.lst [.int (zs1.length : Nat), .int (zs2.length : Nat)]) = G3 at t hLS hv1 hv2 hy
  clear hA1 hA2
  refine ⟨LS, rfl, ⟨_, SqL.of hLS⟩, fun i m σ G => m = 2 - i ∧ ∃ o6 o7 o8 o9, σ = [some (.ref a), some (.ref p), some (.ref A1), some (.ref A2), some y, some (.bl (!decide (l1 = l2))), o6, o7, o8, o9] ∧ G LS = some (.lst [.int (zs1.length : Nat), .int (zs2.length : Nat)]) ∧ LA K G (.ref A1) l1 ∧ LA K G (.ref A2) l2 ∧ Dp K G y d.enc, ⟨_, rfl, o6, o7, o8, none, rfl, hLS, hv1, hv2, hy⟩, fun j m σ G4 hW => ?_⟩
  clear hv1 hv2 hy hLS
  obtain ⟨rfl, o6, o7, o8, o9, rfl, hLS, hv1, hv2, hy⟩ := hW
  obtain ⟨A, ts, rfl, hA, tl, t0, t1, tx, ta⟩ := dro_sq hy
  have tlen : ts.length = 2 ∨ ts.length = 3 := by rw [tl]; cases d <;> simp [Dro.len]
  by_cases hj : j < 2
  · refine .inr ⟨⟨_, _, SqL.of hLS, List.getElem?_eq_getElem (by show j < 2; exact hj)⟩, fun σ' G' => ∃ o6 o7 o8 o9, σ' = [some (.ref a), some (.ref p), some (.ref A1), some (.ref A2), some (.ref A), some (.bl (!decide (l1 = l2))), o6, o7, o8, o9] ∧ G' LS = some (.lst [.int (zs1.length : Nat), .int (zs2.length : Nat)]) ∧ LA K G' (.ref A1) l1 ∧ LA K G' (.ref A2) l2 ∧ Dp K G' (.ref A) d.enc, fun σ' H' h => ⟨2 - (j + 1), by omega, rfl, h⟩, fun z G' hyld => ?_⟩
    obtain ⟨rfl, hz⟩ := hyld
    have hz := hz _ (SqL.of hLS)
    obtain ⟨sz, rfl⟩ : ∃ sz : Nat, z = .int (sz : Nat) := by
      rcases (by omega : j = 0 ∨ j = 1) with rfl | rfl
      · exact ⟨zs1.length, by injection hz with hz; exact hz.symm⟩
      · exact ⟨zs2.length, by injection hz with hz; exact hz.symm⟩
    refine nameL (seqI ?_)
    refine ⟨_, rfl, A, _, _, _, rfl, rfl, hA, t0, _, rfl, A, _, _, _, rfl, rfl, hA, t1, _, rfl, _, _, rfl, rfl, by show 2 ≤ sizeLine; decide, fun P1 nP1 => ?_⟩
    have t5 := SB.new (ps := []) nP1 (.tup [.str d.word, .int ((d.ix : Nat) - (sz : Nat))])
    have hP : SqT K (upd G' P1 (.tup [.str d.word, .int ((d.ix : Nat) - (sz : Nat))])) P1 [.str d.word, .int ((d.ix : Nat) - (sz : Nat))] := SqT.of upd_same
    have hA5 := t5.sqT hA
    generalize upd G' P1 (.tup [.str d.word, .int ((d.ix : Nat) - (sz : Nat))]) = H5 at t5 hP hA5
    refine ⟨_, rfl, _, rfl, A, _, rfl, hA5, fun C H6 s6 hC => ?_⟩
    have lc := cut2_len ts (by omega) (by omega)
    refine ⟨P1, C, _, _, rfl, rfl, s6.sqT hP, hC, by simp; omega, fun T H7 s7 hT => ?_⟩
    have s57 := (t5.trans s6).trans s7
    have hv1 := LA.sb hv1 s57
    have hv2 := LA.sb hv2 s57
    have hy := Dp_sb s57 _ _ (Dro.noList _) hy
    have hLS := s57.keep _ _ hLS List.not_mem_nil
    refine nameI (ifN ?_)
    refine ⟨_, rfl, _, _, rfl, rfl, _, rfl, ?_⟩
    by_cases hsz : sz = 0
    · subst hsz
      exact iteF (iteF ⟨_, _, _, _, rfl, hLS, hv1, hv2, hy⟩)
    · rw [decide_eq_true (show (0 : Int) < (sz : Nat) by omega)]
      refine iteT ?_
      refine chk51c rfl rfl rfl hv1 hv2 (by rw [hd]; exact lk_less hT (by rw [← tl]; exact lc) (by omega)) bb' fun G8 s8 => iteF ?_
      exact ⟨_, _, _, _, rfl, s8.keep _ _ hLS List.not_mem_nil, LA.sb hv1 s8, LA.sb hv2 s8, Dp_sb s8 _ _ (Dro.noList _) hy⟩
  refine .inl ⟨⟨_, SqL.of hLS, by show 2 ≤ j; omega⟩, ?_⟩
  refine ⟨_, rfl, _, rfl, _, rfl, A, ts, rfl, .inr hA, fun l nl => ?_⟩
  have t9 := SB.new (ps := []) nl (.lst ts)
  exact ⟨.ref A1, .ref A2, .ref l, l1, l2, rfl, LA.sb hv1 t9, LA.sb hv2 t9, by omega, by omega, by omega, by omega, fun _ H' s => ⟨_, _, rfl, rfl, q _⟩, fun _ => ⟨false, .no (.base (.lst upd_same)) (by decide +kernel), fun H' s => ⟨_, _, rfl, rfl, q _⟩⟩⟩
end
end FT
namespace FT
open PySem PySem.W PySem.Spec PyProof.Rows L2
theorem facts {P : Program} {w : World} {K : PySem.W.Frag} {h : Heap} {mg : Str → Option Value} {f : Addr} (X : K.In h) (G : h.Ns mainGlobals mg) (hfa : mg ("law" : Str) = some (.ref f)) (c : He.SaysD fa fn K) (cx : exOk K = true) :
    ∃ fd : FuncData, (∀ (s : Shared) (v : Value), BindsTo s fd ⟨[v], []⟩ [("_law_script", v)]) ∧ ∀ base : Heap, K.In base → base.Ns mainGlobals mg → FnOk P w K mg base CX0 100 f fd ["_law_script"] (spLaw K) := by
  obtain ⟨fd_is_whole, D_is_whole⟩ := c.def_ 0 (d := d_is_whole) rfl
  have F_is_whole : Fun K "is_whole" "is_whole" s_is_whole _ fd_is_whole := He5.fun_of D_is_whole
  have m_is_whole := He.glo_ok X G (c.fact 0 (f := .glo "is_whole") rfl)
  have b_is_whole := F_is_whole.binds (ps := ["thing"]) fun _ _ _ _ _ _ us hl => match us, hl with | [_], _ => rfl
  obtain ⟨fd_is_less, D_is_less⟩ := c.def_ 1 (d := d_is_less) rfl
  have F_is_less : Fun K "is_less" "is_less" s_is_less _ fd_is_less := He5.fun_of D_is_less
  have m_is_less := He.glo_ok X G (c.fact 1 (f := .glo "is_less") rfl)
  have b_is_less := F_is_less.binds (ps := ["one", "other"]) fun _ _ _ _ _ _ us hl => match us, hl with | [_, _], _ => rfl
  obtain ⟨fd_alike_ahead, D_alike_ahead⟩ := c.def_ 2 (d := d_alike_ahead) rfl
  have F_alike_ahead : Fun K "alike_ahead" "alike_ahead" s_alike_ahead _ fd_alike_ahead := He5.fun_of D_alike_ahead
  have m_alike_ahead := He.glo_ok X G (c.fact 2 (f := .glo "alike_ahead") rfl)
  have b_alike_ahead := F_alike_ahead.binds (ps := ["one", "other"]) fun _ _ _ _ _ _ us hl => match us, hl with | [_, _], _ => rfl
  obtain ⟨fd_drop, D_drop⟩ := c.def_ 3 (d := d_drop) rfl
  have F_drop : Fun K "drop" "drop" s_drop _ fd_drop := He5.fun_of D_drop
  have m_drop := He.glo_ok X G (c.fact 3 (f := .glo "drop") rfl)
  have b_drop := F_drop.binds (ps := ["one", "other"]) fun _ _ _ _ _ _ us hl => match us, hl with | [_, _], _ => rfl
  obtain ⟨fd_is_drop, D_is_drop⟩ := c.def_ 4 (d := d_is_drop) rfl
  have F_is_drop : Fun K "is_drop" "is_drop" s_is_drop _ fd_is_drop := He5.fun_of D_is_drop
  have m_is_drop := He.glo_ok X G (c.fact 4 (f := .glo "is_drop") rfl)
  have b_is_drop := F_is_drop.binds (ps := ["one", "other", "thing"]) fun _ _ _ _ _ _ us hl => match us, hl with | [_, _, _], _ => rfl
  obtain ⟨fd_is_like, D_is_like⟩ := c.def_ 5 (d := d_is_like) rfl
  have F_is_like : Fun K "is_like" "is_like" s_is_like _ fd_is_like := He5.fun_of D_is_like
  have m_is_like := He.glo_ok X G (c.fact 5 (f := .glo "is_like") rfl)
  have b_is_like := F_is_like.binds (ps := ["told", "thing"]) fun _ _ _ _ _ _ us hl => match us, hl with | [_, _], _ => rfl
  obtain ⟨fd__law_pot, D__law_pot⟩ := c.def_ 6 (d := d__law_pot) rfl
  have F__law_pot : Fun K "_law_pot" "_law_pot" s__law_pot _ fd__law_pot := He5.fun_of D__law_pot
  have m__law_pot := He.glo_ok X G (c.fact 6 (f := .glo "_law_pot") rfl)
  have b__law_pot := F__law_pot.binds (ps := ["_law_script"]) fun _ _ _ _ _ _ us hl => match us, hl with | [_], _ => rfl
  obtain ⟨fd__law_take, D__law_take⟩ := c.def_ 7 (d := d__law_take) rfl
  have F__law_take : Fun K "_law_take" "_law_take" s__law_take _ fd__law_take := He5.fun_of D__law_take
  have m__law_take := He.glo_ok X G (c.fact 7 (f := .glo "_law_take") rfl)
  have b__law_take := F__law_take.binds (ps := ["_law_pot_here", "_law_many"]) fun _ _ _ _ _ _ us hl => match us, hl with | [_, _], _ => rfl
  obtain ⟨fd__law_less, D__law_less⟩ := c.def_ 8 (d := d__law_less) rfl
  have F__law_less : Fun K "_law_less" "_law_less" s__law_less _ fd__law_less := He5.fun_of D__law_less
  have m__law_less := He.glo_ok X G (c.fact 8 (f := .glo "_law_less") rfl)
  have b__law_less := F__law_less.binds (ps := ["_law_one", "_law_other"]) fun _ _ _ _ _ _ us hl => match us, hl with | [_, _], _ => rfl
  obtain ⟨fd__law_behind, D__law_behind⟩ := c.def_ 9 (d := d__law_behind) rfl
  have F__law_behind : Fun K "_law_behind" "_law_behind" s__law_behind _ fd__law_behind := He5.fun_of D__law_behind
  have m__law_behind := He.glo_ok X G (c.fact 9 (f := .glo "_law_behind") rfl)
  have b__law_behind := F__law_behind.binds (ps := ["_law_one", "_law_other"]) fun _ _ _ _ _ _ us hl => match us, hl with | [_, _], _ => rfl
  obtain ⟨fd__law_both, D__law_both⟩ := c.def_ 10 (d := d__law_both) rfl
  have F__law_both : Fun K "_law_both" "_law_both" s__law_both _ fd__law_both := He5.fun_of D__law_both
  have m__law_both := He.glo_ok X G (c.fact 10 (f := .glo "_law_both") rfl)
  have b__law_both := F__law_both.binds (ps := ["_law_one", "_law_other"]) fun _ _ _ _ _ _ us hl => match us, hl with | [_, _], _ => rfl
  obtain ⟨fd__law_ladder, D__law_ladder⟩ := c.def_ 11 (d := d__law_ladder) rfl
  have F__law_ladder : Fun K "_law_ladder" "_law_ladder" s__law_ladder _ fd__law_ladder := He5.fun_of D__law_ladder
  have m__law_ladder := He.glo_ok X G (c.fact 11 (f := .glo "_law_ladder") rfl)
  have b__law_ladder := F__law_ladder.binds (ps := ["_law_pot_here", "_law_parts"]) fun _ _ _ _ _ _ us hl => match us, hl with | [_, _], _ => rfl
  obtain ⟨fd__law_lesser, D__law_lesser⟩ := c.def_ 12 (d := d__law_lesser) rfl
  have F__law_lesser : Fun K "_law_lesser" "_law_lesser" s__law_lesser _ fd__law_lesser := He5.fun_of D__law_lesser
  have m__law_lesser := He.glo_ok X G (c.fact 12 (f := .glo "_law_lesser") rfl)
  have b__law_lesser := F__law_lesser.binds (ps := ["_law_pot_here", "_law_ladder_here", "_law_tail"]) fun _ _ _ _ _ _ us hl => match us, hl with | [_, _, _], _ => rfl
  obtain ⟨fd__law_sizes, D__law_sizes⟩ := c.def_ 13 (d := d__law_sizes) rfl
  have F__law_sizes : Fun K "_law_sizes" "_law_sizes" s__law_sizes _ fd__law_sizes := He5.fun_of D__law_sizes
  have m__law_sizes := He.glo_ok X G (c.fact 13 (f := .glo "_law_sizes") rfl)
  have b__law_sizes := F__law_sizes.binds (ps := ["_law_ladder_here"]) fun _ _ _ _ _ _ us hl => match us, hl with | [_], _ => rfl
  obtain ⟨fd__law_goal, D__law_goal⟩ := c.def_ 14 (d := d__law_goal) rfl
  have F__law_goal : Fun K "_law_goal" "_law_goal" s__law_goal _ fd__law_goal := He5.fun_of D__law_goal
  have m__law_goal := He.glo_ok X G (c.fact 14 (f := .glo "_law_goal") rfl)
  have b__law_goal := F__law_goal.binds (ps := ["_law_pot_here", "_law_ladder_here"]) fun _ _ _ _ _ _ us hl => match us, hl with | [_, _], _ => rfl
  obtain ⟨fd__law_drop, D__law_drop⟩ := c.def_ 15 (d := d__law_drop) rfl
  have F__law_drop : Fun K "_law_drop" "_law_drop" s__law_drop _ fd__law_drop := He5.fun_of D__law_drop
  have m__law_drop := He.glo_ok X G (c.fact 15 (f := .glo "_law_drop") rfl)
  have b__law_drop := F__law_drop.binds (ps := ["_law_one", "_law_other"]) fun _ _ _ _ _ _ us hl => match us, hl with | [_, _], _ => rfl
  obtain ⟨fd__law_same_here, D__law_same_here⟩ := c.def_ 16 (d := d__law_same_here) rfl
  have F__law_same_here : Fun K "_law_same_here" "_law_same_here" s__law_same_here _ fd__law_same_here := He5.fun_of D__law_same_here
  have m__law_same_here := He.glo_ok X G (c.fact 16 (f := .glo "_law_same_here") rfl)
  have b__law_same_here := F__law_same_here.binds (ps := ["_law_found", "_law_due"]) fun _ _ _ _ _ _ us hl => match us, hl with | [_, _], _ => rfl
  obtain ⟨fd__law_spoilt, D__law_spoilt⟩ := c.def_ 17 (d := d__law_spoilt) rfl
  have F__law_spoilt : Fun K "_law_spoilt" "_law_spoilt" s__law_spoilt _ fd__law_spoilt := He5.fun_of D__law_spoilt
  have m__law_spoilt := He.glo_ok X G (c.fact 17 (f := .glo "_law_spoilt") rfl)
  have b__law_spoilt := F__law_spoilt.binds (ps := ["_law_pot_here", "_law_due"]) fun _ _ _ _ _ _ us hl => match us, hl with | [_, _], _ => rfl
  obtain ⟨fd__law_truth, D__law_truth⟩ := c.def_ 18 (d := d__law_truth) rfl
  have F__law_truth : Fun K "_law_truth" "_law_truth" s__law_truth _ fd__law_truth := He5.fun_of D__law_truth
  have m__law_truth := He.glo_ok X G (c.fact 18 (f := .glo "_law_truth") rfl)
  have b__law_truth := F__law_truth.binds (ps := ["_law_found", "_law_due"]) fun _ _ _ _ _ _ us hl => match us, hl with | [_, _], _ => rfl
  obtain ⟨fd__law_others, D__law_others⟩ := c.def_ 19 (d := d__law_others) rfl
  have F__law_others : Fun K "_law_others" "_law_others" s__law_others _ fd__law_others := He5.fun_of D__law_others
  have m__law_others := He.glo_ok X G (c.fact 19 (f := .glo "_law_others") rfl)
  have b__law_others := F__law_others.binds (ps := ["_law_due"]) fun _ _ _ _ _ _ us hl => match us, hl with | [_], _ => rfl
  obtain ⟨fd_law, D_law⟩ := c.def_ 20 (d := d_law) rfl
  have F_law : Fun K "law" "law" s_law _ fd_law := He5.fun_of D_law
  have m_law := He.glo_ok X G (c.fact 20 (f := .glo "law") rfl)
  have B : BI mg := ⟨He.free_ok X G (c.fact 21 (f := .free "len") rfl), He.free_ok X G (c.fact 22 (f := .free "isinstance") rfl), He.free_ok X G (c.fact 23 (f := .free "int") rfl), He.free_ok X G (c.fact 24 (f := .free "bool") rfl), He.free_ok X G (c.fact 25 (f := .free "str") rfl), He.free_ok X G (c.fact 26 (f := .free "tuple") rfl), He.free_ok X G (c.fact 27 (f := .free "list") rfl), He.free_ok X G (c.fact 28 (f := .free "all") rfl), He.free_ok X G (c.fact 29 (f := .free "zip") rfl), He.free_ok X G (c.fact 30 (f := .free "sum") rfl), He.free_ok X G (c.fact 31 (f := .free "max") rfl), He.free_ok X G (c.fact 32 (f := .free "range") rfl), He.free_ok X G (c.fact 33 (f := .free "enumerate") rfl), He.free_ok X G (c.fact 34 (f := .free "abs") rfl), He.free_ok X G (c.fact 35 (f := .free "sorted") rfl), He.free_ok X G (c.fact 36 (f := .free "min") rfl), He.free_ok X G (c.fact 37 (f := .free "reversed") rfl), He.free_ok X G (c.fact 38 (f := .free "any") rfl), He.free_ok X G (c.fact 39 (f := .free "set") rfl), He.free_ok X G (c.fact 40 (f := .free "dict") rfl), He.free_ok X G (c.fact 41 (f := .free "repr") rfl)⟩
  have O_NoDrop : Own K mg "NoDrop" (He.ga K "NoDrop") := by
    obtain ⟨y1, y2, y3, y4⟩ := He.exc_ok (c.fact 42 (f := .exc "NoDrop") rfl)
    exact ⟨He.glo_ok X G (c.fact 43 (f := .glo "NoDrop") rfl), y1, y2, y3, y4⟩
  have e := hfa.symm.trans m_law
  cases e
  have b := FunD.bindsA (ps := ["_law_script"]) D_law fun _ _ _ _ _ _ us hl => match us, hl with | [_], _ => rfl
  refine ⟨fd_law, fun s v => b s [v] rfl, fun base _ _ => ?_⟩
  have g_is_whole : Got P w K mg base "is_whole" ["thing"] 1 (spWhole K) := ⟨_, _, ok_is_whole B F_is_whole, F_is_whole.kp, b_is_whole, m_is_whole⟩
  have g_is_less : Got P w K mg base "is_less" ["one", "other"] 1 (spLess K) := ⟨_, _, ok_is_less F_is_less, F_is_less.kp, b_is_less, m_is_less⟩
  have g_alike_ahead : Got P w K mg base "alike_ahead" ["one", "other"] 1 (spAhead K) := ⟨_, _, ok_alike_ahead B F_alike_ahead, F_alike_ahead.kp, b_alike_ahead, m_alike_ahead⟩
  have r_drop : ∀ n, GotX P w K mg base "drop" ["one", "other"] (n + 20) (spDrop K (He.ga K "NoDrop") n) := by
    intro n
    induction n with
    | zero => exact ⟨_, _, none_dropq, F_drop.kp, b_drop, m_drop⟩
    | succ n ih => exact ⟨_, _, ok_drop B O_NoDrop g_is_less g_alike_ahead ih F_drop, F_drop.kp, b_drop, m_drop⟩
  have g_drop : GotX P w K mg base "drop" ["one", "other"] (40 + 20) (spDrop K (He.ga K "NoDrop") 40) := r_drop 40
  have r_is_like : ∀ n, Got P w K mg base "is_like" ["told", "thing"] (n + 2) (spLike51 K n) := by
    intro n
    induction n with
    | zero => exact ⟨_, _, none_is_like, F_is_like.kp, b_is_like, m_is_like⟩
    | succ n ih => exact ⟨_, _, ok_is_like B g_is_whole ih F_is_like, F_is_like.kp, b_is_like, m_is_like⟩
  have g_is_like : Got P w K mg base "is_like" ["told", "thing"] (40 + 2) (spLike51 K 40) := r_is_like 40
  have g_is_drop : Got P w K mg base "is_drop" ["one", "other", "thing"] (64) (spIsDrop51 K) := ⟨_, _, ok_is_drop B g_is_less g_is_like g_drop F_is_drop, F_is_drop.kp, b_is_drop, m_is_drop⟩
  have g__law_pot : Got P w K mg base "_law_pot" ["_law_script"] (1) (spPot K) := ⟨_, _, ok__law_pot B F__law_pot, F__law_pot.kp, b__law_pot, m__law_pot⟩
  have g__law_take : Got P w K mg base "_law_take" ["_law_pot_here", "_law_many"] (1) (spTakeQ) := ⟨_, _, ok__law_take B F__law_take, F__law_take.kp, b__law_take, m__law_take⟩
  have r__law_less : ∀ n, Got P w K mg base "_law_less" ["_law_one", "_law_other"] (n) (spLLess K n) := by
    intro n
    induction n with
    | zero => exact ⟨_, _, none__law_lessq, F__law_less.kp, b__law_less, m__law_less⟩
    | succ n ih => exact ⟨_, _, ok__law_less B ih F__law_less, F__law_less.kp, b__law_less, m__law_less⟩
  have g__law_less : Got P w K mg base "_law_less" ["_law_one", "_law_other"] (40) (spLLess K 40) := r__law_less 40
  have g__law_both : Got P w K mg base "_law_both" ["_law_one", "_law_other"] (41) (spBothQ K) := ⟨_, _, ok__law_both B g__law_less F__law_both, F__law_both.kp, b__law_both, m__law_both⟩
  have r__law_ladder : ∀ n, Got P w K mg base "_law_ladder" ["_law_pot_here", "_law_parts"] (n + 42) (spLadE K n) := by
    intro n
    induction n with
    | zero => exact ⟨_, _, none__law_ladderq, F__law_ladder.kp, b__law_ladder, m__law_ladder⟩
    | succ n ih => exact ⟨_, _, ok__law_ladder B g__law_take ih g__law_both F__law_ladder, F__law_ladder.kp, b__law_ladder, m__law_ladder⟩
  have g__law_ladder : Got P w K mg base "_law_ladder" ["_law_pot_here", "_law_parts"] (20 + 42) (spLadE K 20) := r__law_ladder 20
  have r__law_lesser : ∀ n, Got P w K mg base "_law_lesser" ["_law_pot_here", "_law_ladder_here", "_law_tail"] (n + 2) (spLessQ K n) := by
    intro n
    induction n with
    | zero => exact ⟨_, _, none__law_lesserq, F__law_lesser.kp, b__law_lesser, m__law_lesser⟩
    | succ n ih => exact ⟨_, _, ok__law_lesser B g__law_take ih F__law_lesser, F__law_lesser.kp, b__law_lesser, m__law_lesser⟩
  have g__law_lesser : Got P w K mg base "_law_lesser" ["_law_pot_here", "_law_ladder_here", "_law_tail"] (38 + 2) (spLessQ K 38) := r__law_lesser 38
  have r__law_sizes : ∀ n, Got P w K mg base "_law_sizes" ["_law_ladder_here"] (n) (spSizesQ K n) := by
    intro n
    induction n with
    | zero => exact ⟨_, _, none__law_sizesq, F__law_sizes.kp, b__law_sizes, m__law_sizes⟩
    | succ n ih => exact ⟨_, _, ok__law_sizes B ih F__law_sizes, F__law_sizes.kp, b__law_sizes, m__law_sizes⟩
  have g__law_sizes : Got P w K mg base "_law_sizes" ["_law_ladder_here"] (40) (spSizesQ K 40) := r__law_sizes 40
  have g__law_goal : Got P w K mg base "_law_goal" ["_law_pot_here", "_law_ladder_here"] (42) (spGoalQ K) := ⟨_, _, ok__law_goal B g__law_take g__law_lesser g__law_sizes F__law_goal, F__law_goal.kp, b__law_goal, m__law_goal⟩
  have r__law_drop : ∀ n, Got P w K mg base "_law_drop" ["_law_one", "_law_other"] (n) (spDropE K n) := by
    intro n
    induction n with
    | zero => exact ⟨_, _, none__law_dropq, F__law_drop.kp, b__law_drop, m__law_drop⟩
    | succ n ih => exact ⟨_, _, ok__law_drop B ih F__law_drop, F__law_drop.kp, b__law_drop, m__law_drop⟩
  have g__law_drop : Got P w K mg base "_law_drop" ["_law_one", "_law_other"] (40) (spDropE K 40) := r__law_drop 40
  have r__law_same_here : ∀ n, Got P w K mg base "_law_same_here" ["_law_found", "_law_due"] (n) (spSame51 K n) := by
    intro n
    induction n with
    | zero => exact ⟨_, _, none__law_same_here, F__law_same_here.kp, b__law_same_here, m__law_same_here⟩
    | succ n ih => exact ⟨_, _, ok__law_same_here B ih F__law_same_here, F__law_same_here.kp, b__law_same_here, m__law_same_here⟩
  have g__law_same_here : Got P w K mg base "_law_same_here" ["_law_found", "_law_due"] (40) (spSame51 K 40) := r__law_same_here 40
  have r__law_spoilt : ∀ n, Got P w K mg base "_law_spoilt" ["_law_pot_here", "_law_due"] (n + 2) (spSpoilt51 K n) := by
    intro n
    induction n with
    | zero => exact ⟨_, _, none__law_spoilt, F__law_spoilt.kp, b__law_spoilt, m__law_spoilt⟩
    | succ n ih => exact ⟨_, _, ok__law_spoilt B g__law_take ih F__law_spoilt, F__law_spoilt.kp, b__law_spoilt, m__law_spoilt⟩
  have g__law_spoilt : Got P w K mg base "_law_spoilt" ["_law_pot_here", "_law_due"] (40 + 2) (spSpoilt51 K 40) := r__law_spoilt 40
  have g__law_truth : Got P w K mg base "_law_truth" ["_law_found", "_law_due"] (1) (spTruth) := ⟨_, _, ok__law_truth B F__law_truth, F__law_truth.kp, b__law_truth, m__law_truth⟩
  have g__law_others : Got P w K mg base "_law_others" ["_law_due"] (1) (spOthers51 K) := ⟨_, _, ok__law_others B F__law_others, F__law_others.kp, b__law_others, m__law_others⟩
  exact ok_law B g__law_pot g__law_ladder g__law_take g__law_goal g__law_less g__law_drop g__law_spoilt g__law_truth g__law_same_here g_is_drop g__law_others F_law
end FT
open PySem PySem.W PySem.Calls PyProof.Rows
set_option maxRecDepth 100000 in
set_option maxHeartbeats 0 in
theorem PySem.Challenge.cw_felltimber_k51_drops_read_holds : PySem.Challenge.rw_felltimber_k51_drops_read.Holds := by
  w_on; o_law
  refine HandSHeadRun.head_any (r := OpenLaw.row PySem.Challenge.rw_felltimber_k51_drops_read) (q := view (OpenLaw.row PySem.Challenge.rw_felltimber_k51_drops_read).prog [27]) (H := FT.hk) (ob := FT.ob) (M := 9000) (loose := FT.loose) (d := HandSHeadRun.topDef (OpenLaw.row PySem.Challenge.rw_felltimber_k51_drops_read).prog 27) (kwd := []) FT.ob_eq
    (by kernel_rfl) (fun s => by kernel_rfl) FT.run (by kernel_rfl) (by kernel_rfl) (by kernel_rfl) (by rfl) (by first | assumption | decide +kernel) (by decide +kernel) ⟨rfl, rfl, rfl, rfl, rfl, by decide +kernel⟩ ?hw ?hc
  case hw => w_witness2
  case hc =>
    refine L2.walk_ofE (l := PySem.Challenge.rw_felltimber_k51_drops_read) (n := 63) (k := 100) (x := "_law_script") (CX := L2.CX0) rfl (by decide) (by kernel_rfl) ⟨rfl, by decide, by decide⟩ ?F (fun _ _ _ _ z => z)
    intro w mg fa h Y G hmg0
    obtain ⟨K, KX, c, cx⟩ := Y
    have hmg : mg ("law" : PySem.Str) = some (.ref fa) := by
      have e : (HandSHeadRun.topDef (OpenLaw.row PySem.Challenge.rw_felltimber_k51_drops_read).prog 27).name = ("law" : PySem.Str) := by kernel_rfl
      rw [← e]
      exact hmg0
    obtain ⟨fd, hb, hF⟩ := FT.facts (P := (PySem.Challenge.rw_felltimber_k51_drops_read).prog) (w := w) KX G hmg c cx
    exact ⟨K, fd, FT.spLaw K, KX, hb, fun H a ns hl _ hS => ⟨a, ns, rfl, hS, hl, fun _ => rfl⟩, hF⟩
