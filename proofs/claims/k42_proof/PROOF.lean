import PyProof.Rows.All
import Wide.All
import OpenK.AllK
import Wide.FinOn
import KE.KStateDown
import KE.SortData
import HandS.ForMost
import HandS.More
import HandS.Walk
import HandS.Zip
import HandS.Style
import HandS.TupAny
import HandS.IsInst
import HandS.Wide
import HandS.Flow
import HandS.WordsExc
import HandS.Defaults
import HandS.Head0
import HandS.Head1
import HandS.Head2
import HandS.HeadEnd
import HandS.HeadHook1
import HandS.HeadHook2
import HandS.HeadNt
import KE.DataCmp
import HandS.SortKw
import PyProof.TupleOfSeq
import HandS.NoneIn
import HandS.ExcIs
import HandS.RevRange
import KE.GoesEnum
import KE.DataAny
import HandS.Conv
import HandS.SortInts
import HandS.FStr
import HandS.Strs
import HandS.TupSets
import HandS.DictComp
import HandS.ExcInit
import HandS.SetKeys
import HandS.SetTxt0
import HandS.SetBool
import HandS.SetFor
import KE.GoesEnumKw
import PyProof.Rows.CallKwBuiltin
import KE.DatumOrd
import HandS.ExcField
import HandS.HotCalls
import HandS.Replace
import HandS.TupLe
import KE.DataMinMax
import PyProof.StrBlock2
import HandS.WordsDict
import HandS.TupMul
import HandS.TryOnly
import PyProof.MaxThree
import PyProof.NeKinds
import HandS.Deep
import HandS.Dict
import KE.GoesMore
import PyProof.EqKinds
import HandS.Hot
import HandS.ExcCtx
import KE.KDictSum
import HandS.ExcValue
import PySem.Challenge.RW_felltimber_k42_no_ranks
set_option Elab.async false
set_option linter.all false
set_option maxRecDepth 100000
set_option maxHeartbeats 16000000
namespace FT
open PySem PySem.W PySem.Spec PyProof.Rows L2
theorem hunT {A : Around} {e : Env} {k : Nat} (hr : Room k (A.deeper e)) : A.units + 3 + 200 < cLine := by
 have := hr.un
 have h3 : (A.deeper e).units = A.units + 3 := rfl
 omega
theorem nmn {α : Type} {a : α} : ¬ a ∈ ([] : List α) := List.not_mem_nil
theorem mcs {α : Type} {a : α} {l : List α} : a ∈ a :: l := List.mem_cons_self
theorem mcm {α : Type} (y : α) {a : α} {l : List α} (h : a ∈ l) : a ∈ y :: l := List.mem_cons_of_mem y h
theorem mal {α : Type} {a : α} {l : List α} (k : List α) (h : a ∈ l) : a ∈ l ++ k := List.mem_append_left k h
theorem mar {α : Type} {a : α} {l : List α} (k : List α) (h : a ∈ l) : a ∈ k ++ l := List.mem_append_right k h
theorem small1000 {n : Nat} (h : n <= 10000000) : n < sizeLine := Nat.lt_of_le_of_lt h (by decide)
structure SB (ps : List Addr) (H H' : Hp) : Prop where
 keep : ∀ b o, H b = some o -> b ∉ ps -> H' b = some o
 tups : ∀ b xs, H b = some (.tup xs) -> H' b = some (.tup xs)
 frzs : ∀ b o u, H b = some (.frz o u) -> H' b = some (.frz o u)
 dom : ∀ b, H' b = none -> H b = none
section
variable {K : PySem.W.Frag} {ps qs : List Addr} {H H' H1 H2 : Hp} {a p : Addr} {xs : List V}
theorem SB.refl : SB ps H H := ⟨fun _ _ h _ => h, fun _ _ h => h, fun _ _ _ h => h, fun _ h => h⟩
theorem SB.trans (a : SB ps H H1) (b : SB ps H1 H2) : SB ps H H2 :=
 ⟨fun c o h n => b.keep c o (a.keep c o h n) n, fun c x h => b.tups c x (a.tups c x h), fun c o u h => b.frzs c o u (a.frzs c o u h), fun c h => a.dom c (b.dom c h)⟩
theorem SB.mono (h : SB ps H H') (hs : ∀ b ∈ ps, b ∈ qs) : SB qs H H' := ⟨fun c o e n => h.keep c o e fun z => n (hs c z), h.tups, h.frzs, h.dom⟩
theorem SB.nil (h : SB [] H H') : SB ps H H' := h.mono fun _ z => absurd z (nmn)
theorem SB.new (h : H p = none) (o : HO) : SB ps H (upd H p o) := by
 refine ⟨fun b u e _ => ?_, fun b u e => ?_, fun b v u e => ?_, fun b e => ?_⟩
 ·rw [upd_ne (ne_of_none e h)]; exact e
 ·rw [upd_ne (ne_of_none e h)]; exact e
 ·rw [upd_ne (ne_of_none e h)]; exact e
 ·by_cases q : b = p
  ·subst q; exact h
  ·rw [upd_ne q] at e; exact e
theorem SB.set (h : H p = some (.lst xs)) (hp : p ∈ ps) (o : HO) : SB ps H (upd H p o) := by
 refine ⟨fun b u e n => ?_, fun b u e => ?_, fun b v u e => ?_, fun b e => ?_⟩
 ·rw [upd_ne (fun (z : b = p) => n (by rw [z]; exact hp))]; exact e
 ·rw [upd_ne (fun (z : b = p) => by subst z; rw [h] at e; cases e)]; exact e
 ·rw [upd_ne (fun (z : b = p) => by subst z; rw [h] at e; cases e)]; exact e
 ·by_cases q : b = p
  ·subst q; rw [upd_same] at e; cases e
  ·rw [upd_ne q] at e; exact e
theorem SB.drop (h : SB (p :: ps) H H') (n : H p = none) : SB ps H H' := by
 refine ⟨fun b o e m => h.keep b o e fun z => ?_, h.tups, h.frzs, h.dom⟩
 rcases List.mem_cons.mp z with z | z
 ·subst z; rw [n] at e; cases e
 ·exact m z
theorem SB.sqT (e : SB ps H H') (h : SqT K H a xs) : SqT K H' a xs := by
 rcases h with (h | ⟨o, h⟩) | h
 ·exact .inl (.inl (e.tups _ _ h))
 ·exact .inl (.inr ⟨o, e.frzs _ _ _ h⟩)
 ·exact .inr h
theorem SB.sqL (e : SB ps H H') (n : a ∉ ps) (h : SqL K H a xs) : SqL K H' a xs := by
 rcases h with (h | ⟨o, h⟩) | h
 ·exact .inl (.inl (e.keep _ _ h n))
 ·exact .inl (.inr ⟨o, e.frzs _ _ _ h⟩)
 ·exact .inr h
end
inductive Lad where
 | nil
 | cons (e : Lad) (m : Int) (r : Lad)
 deriving DecidableEq
namespace Lad
def encs : Lad -> List PyData
 | .nil => []
 | .cons e m r => .tuple [.tuple e.encs, .int m] :: r.encs
def enc (l : Lad) : PyData := .tuple l.encs
def parts : Lad -> Nat
 | .nil => 0
 | .cons e _ r => 1 + e.parts + r.parts
def deep : Lad -> Nat
 | .nil => 0
 | .cons e _ r => max (1 + e.deep) r.deep
def len : Lad -> Nat
 | .nil => 0
 | .cons _ _ r => 1 + r.len
theorem encs_length : ∀ l : Lad, l.encs.length = l.len
 | .nil => rfl
 | .cons e m r => by show r.encs.length + 1 = 1 + r.len; rw [encs_length r, Nat.add_comm]
theorem len_parts : ∀ l : Lad, l.len <= l.parts
 | .nil => Nat.le_refl _
 | .cons e m r => by have := len_parts r; show 1 + r.len <= 1 + e.parts + r.parts; omega
theorem alikes : ∀ l k : Lad, alikeAll l.encs k.encs = true
 | .nil, _ => by simp [encs, alikeAll]
 | .cons e m r, .nil => by simp [encs, alikeAll]
 | .cons e m r, .cons e' m' r' => by
  have h1 := alikes e e'
  have h2 := alikes r r'
  simp [encs, alikeAll, alike, h1, h2]
theorem alike_enc (l k : Lad) : alike l.enc k.enc = true := by
 show alike (.tuple l.encs) (.tuple k.encs) = true
 rw [alike]; exact alikes l k
theorem encs_depth : ∀ l : Lad, PyData.depthAll l.encs <= 2 * l.deep
 | .nil => by simp [encs, PyData.depthAll, deep]
 | .cons e m r => by
  have h1 := encs_depth e
  have h2 := encs_depth r
  simp only [encs, PyData.depthAll, PyData.depth, deep]
  omega
theorem enc_depth (l : Lad) : l.enc.depth <= 2 * l.deep + 1 := by
 have := encs_depth l
 simp only [enc, PyData.depth]
 omega
theorem enc_ne (l : Lad) : l.enc ≠ .none := fun h => nomatch h
end Lad
def rLtD (K : PySem.W.Frag) : R2 := fun x y H Q => ∃ d e, Dp K H x d /\ Dp K H y e /\ alike d e = true /\ d ≠ .none /\ d.depth <= 100 /\ Q (.bl (dataLt d e)) H
section
variable {X : Cx}
theorem op_ltD (hu : X.A.units + 100 < cLine) : OpR X (compareOp .Lt) (rLtD X.K) := by
 intro pins s σ H x y v u Q I rx ry h
 obtain ⟨d, e, hd, he, al, hn, hdp, q⟩ := h
 obtain ⟨as, r1⟩ := Dp.reads I d x v hd rx
 obtain ⟨bs, r2⟩ := Dp.reads I e y u he ry
 exact rcLt_alike d e X.A s v u as bs r1 r2 al hn (by have := Nat.min_le_left d.depth e.depth; omega) X.prog X.w X.xe _ ⟨.bl _, H, I, rfl, q⟩
end
mutual
def noList : PyData -> Bool
 | .list _ => false
 | .dict _ => false
 | .tuple ds => noLists ds
 | _ => true
def noLists : List PyData -> Bool
 | [] => true
 | d :: ds => noList d && noLists ds
end
section
variable {K : PySem.W.Frag} {ps : List Addr} {H H' : Hp}
mutual
theorem Dp_sb (e : SB ps H H') : ∀ (d : PyData) (v : V), noList d = true -> Dp K H v d -> Dp K H' v d
 | .none, _, _, h => by cases h; exact .non
 | .bool b, _, _, h => by cases h; exact .bl b
 | .int i, _, _, h => by cases h; exact .int i
 | .str x, _, _, h => by cases h; exact .str x
 | .list ds, _, n, _ => by simp [noList] at n
 | .dict ds, _, n, _ => by simp [noList] at n
 | .tuple ds, _, n, h => by
  cases h with
  | tup hs ha => exact .tup (e.sqT hs) (DpAll_sb e ds _ (by simpa [noList] using n) ha)
theorem DpAll_sb (e : SB ps H H') : ∀ (ds : List PyData) (vs : List V), noLists ds = true -> DpAll K H vs ds -> DpAll K H' vs ds
 | [], _, _, h => by cases h; exact .nil
 | d :: ds, _, n, h => by
  cases h with
  | cons h1 h2 =>
   simp [noLists] at n
   exact .cons (Dp_sb e d _ n.1 h1) (DpAll_sb e ds _ n.2 h2)
end
end
theorem Lad.noLists_encs : ∀ l : Lad, noLists l.encs = true
 | .nil => by simp [Lad.encs, noLists]
 | .cons e m r => by simp [Lad.encs, noLists, noList, Lad.noLists_encs e, Lad.noLists_encs r]
theorem Lad.noList_enc (l : Lad) : noList l.enc = true := by simp [Lad.enc, noList, Lad.noLists_encs l]
def LA (K : PySem.W.Frag) (H : Hp) (v : V) (l : Lad) : Prop := Dp K H v l.enc
section
variable {K : PySem.W.Frag} {ps : List Addr} {H H' : Hp} {v : V} {l : Lad}
theorem LA.sb (h : LA K H v l) (e : SB ps H H') : LA K H' v l := Dp_sb e _ _ l.noList_enc h
theorem LA.tup (h : LA K H v l) : ∃ a xs, v = .ref a /\ SqT K H a xs /\ DpAll K H xs l.encs := by
 have h' : Dp K H v (.tuple l.encs) := h
 cases h' with
 | tup hs ha => exact ⟨_, _, rfl, hs, ha⟩
theorem DpAll.length : ∀ {vs : List V} {ds : List PyData}, DpAll K H vs ds -> vs.length = ds.length
 | _, _, .nil => rfl
 | _, _, .cons _ t => by rw [List.length_cons, List.length_cons, DpAll.length t]
theorem DpAll.get : ∀ {vs : List V} {ds : List PyData} {i : Nat} {v : V}, DpAll K H vs ds -> vs[i]? = some v -> ∃ d, ds[i]? = some d /\ Dp K H v d
 | _, _, _, _, .nil, e => by simp at e
 | _, _, 0, _, .cons h t, e => by simp at e; subst e; exact ⟨_, rfl, h⟩
 | _, _, i + 1, v, .cons h t, e => by
  obtain ⟨d, h1, h2⟩ := DpAll.get (i := i) (v := v) t (by simpa using e)
  exact ⟨d, by simpa using h1, h2⟩
end
structure BI (mg : Str -> Option Value) : Prop where
 len : mg "len" = none
 isinstance : mg "isinstance" = none
 int : mg "int" = none
 bool : mg "bool" = none
 str : mg "str" = none
 tuple : mg "tuple" = none
 list : mg "list" = none
 all : mg "all" = none
 zip : mg "zip" = none
 sum : mg "sum" = none
 max : mg "max" = none
 range : mg "range" = none
 enumerate : mg "enumerate" = none
 abs : mg "abs" = none
 sorted : mg "sorted" = none
 min : mg "min" = none
 reversed : mg "reversed" = none
 any : mg "any" = none
 set : mg "set" = none
 dict : mg "dict" = none
 repr : mg "repr" = none
structure Got (P : Program) (w : World) (K : PySem.W.Frag) (mg : Str -> Option Value) (base : Heap) (x : Str) (ps : List Str) (k : Nat) (sp : Sp) : Prop where
 ex : ∃ (f : Addr) (fd : FuncData), FnOk P w K mg base CX0 k f fd ps sp /\ PySem.W.keepIn K (.ref f) = true /\ Binds K fd ps [] /\ mg x = some (.ref f)
section
variable {X : Cx} {x : Str} {ps : List Str} {k : Nat} {sp : Sp} {e : Expr} {es : List Expr} {t : TA} {p pos : Pos}
theorem pe_got (G : Got X.prog X.w X.K X.mg X.base x ps k sp) (hr : Room k X.A) (hg : Gl X x) (ha : PA X (e :: es) t) (hdb : (x == ("__debug__" : Str)) = false := by decide) (he : starEach (e :: es) X.env = (false, eval e X.env) :: starEach es X.env := by rfl) (hpl : (backTo pos (starEach es X.env)).any (·.1) = false := by rfl) :
  PE X (.Call (.Name x p) (e :: es) [] pos) (tCall sp [] E0 t) := by
 obtain ⟨f, fd, h1, h2, h3, h4⟩ := G.ex
 exact pe_call h1 hr hg h4 h2 h3 .nil pass0 ha hdb he hpl
end
def rIsiN (K : PySem.W.Frag) : List V -> Hp -> VK -> Prop := fun xs H Q => ∃ (x : V) (T n : String) (b : Bool), xs = [x, .ty T] /\ TyX K H x (.type n) /\ kitB n T = some b /\ Q (.bl b) H
section
variable {X : Cx}
theorem call_isiN : CallR X (.builtin "isinstance") (rIsiN X.K) := by
 intro pins s σ H xs us Q I r h
 obtain ⟨x, T, n, b, rfl, ty, e, q⟩ := h
 exact call_isi pins s σ H _ us Q I r ⟨x, .ty T, .type n, .type T, b, rfl, .ty T, ty, kit_ty e, q⟩
theorem pe_ty {T : Str} {T' : String} {pos : Pos} (hg : Gl X T) (hm : X.mg T = none) (hv : bootBuiltins T = some (.type T')) (hn : T ≠ "__name__" := by decide) (hd : (T == ("__debug__" : Str)) = false := by decide) : PE X (.Name T pos) (tC (.ty T')) := pe_bltn hg hm hv rfl hn hd
theorem pe_isi {e : Expr} {te : TE} {T : Str} {T' : String} {p p2 pos : Pos} (B : BI X.mg) (he : PE X e te) (hm : X.mg T = none) (hv : bootBuiltins T = some (.type T')) (hg : Gl X "isinstance" := by rfl) (hg2 : Gl X T := by rfl) (hn : T ≠ "__name__" := by decide) (hd : (T == ("__debug__" : Str)) = false := by decide)
  (hs : starEach [e, .Name T p2] X.env = (false, eval e X.env) :: starEach [.Name T p2] X.env := by rfl) (hpl : (backTo pos (starEach [.Name T p2] X.env)).any (·.1) = false := by rfl) :
  PE X (.Call (.Name "isinstance" p) [e, .Name T p2] [] pos) (tCB (rIsiN X.K) (tCons te (tCons (tC (.ty T')) tNil))) :=
 pe_callB call_isiN hg B.isinstance boot_isinstance (pa_cons he (pa_cons (pe_ty hg2 hm hv hn hd) pa_nil) hs) (by decide) (by decide) hs hpl
end
mutual
inductive Th (K : PySem.W.Frag) (ps : List Addr) (H : Hp) : V -> PyData -> Prop
 | int (i : Int) : Th K ps H (.int i) (.int i)
 | tup {a : Addr} {xs : List V} {ds : List PyData} : SqT K H a xs -> ThAll K ps H xs ds -> Th K ps H (.ref a) (.tuple ds)
 | oth {v : V} {n : String} : TyX K H v (.type n) -> kitB n "tuple" = some false -> (kitB n "int" = some false \/ n = "bool") -> (∀ a, v = .ref a -> a ∉ ps) -> Th K ps H v .none
inductive ThAll (K : PySem.W.Frag) (ps : List Addr) (H : Hp) : List V -> List PyData -> Prop
 | nil : ThAll K ps H [] []
 | cons {v : V} {vs : List V} {d : PyData} {ds : List PyData} : Th K ps H v d -> ThAll K ps H vs ds -> ThAll K ps H (v :: vs) (d :: ds)
end
def manyD : PyData -> Bool
 | .int i => decide (1 <= i)
 | _ => false
section
variable {K : PySem.W.Frag} {ps : List Addr} {H H' : Hp}
theorem SqT_ty {a : Addr} {xs : List V} (h : SqT K H a xs) : TyX K H (.ref a) (.type "tuple") := by
 rcases h with (h | ⟨o, h⟩) | ⟨o, its, n, h, c, _⟩
 ·exact .base (.tup h)
 ·exact .fTuple h
 ·exact .kTuple h c
theorem Th.ty {v : V} {d : PyData} (h : Th K ps H v d) : ∃ n b, TyX K H v (.type n) /\ kitB n "tuple" = some b /\ (b = true -> ∃ a xs ds, v = .ref a /\ d = .tuple ds /\ SqT K H a xs /\ ThAll K ps H xs ds) /\ (b = false -> (∃ i, d = .int i) \/ d = .none) := by
 cases h with
 | int i => exact ⟨"int", false, .base (.int i), by decide +kernel, fun z => (nomatch z), fun _ => .inl ⟨i, rfl⟩⟩
 | tup hs ha => exact ⟨"tuple", true, (SqT_ty hs), by decide +kernel, fun _ => ⟨_, _, _, rfl, rfl, hs, ha⟩, fun z => (nomatch z)⟩
 | oth ty k1 k2 _ => exact ⟨_, false, ty, k1, fun z => (nomatch z), fun _ => .inr rfl⟩
theorem Th.whole {v : V} {d : PyData} (h : Th K ps H v d) : ∃ n b1 b2, TyX K H v (.type n) /\ kitB n "int" = some b1 /\ (b1 = true -> kitB n "bool" = some b2) /\ ((b1 && !b2) = true -> ∃ i, v = .int i /\ d = .int i) /\ ((b1 && !b2) = false -> manyD d = false) := by
 cases h with
 | int i => exact ⟨"int", true, false, .base (.int i), by decide +kernel, fun _ => by decide +kernel, fun _ => ⟨i, rfl, rfl⟩, fun z => (nomatch z)⟩
 | tup hs ha => exact ⟨"tuple", false, false, (SqT_ty hs), by decide +kernel, fun z => (nomatch z), fun z => (nomatch z), fun _ => rfl⟩
 | @oth v n ty k1 k2 _ =>
  rcases k2 with k2 | k2
  ·exact ⟨n, false, false, ty, k2, fun z => (nomatch z), fun z => (nomatch z), fun _ => rfl⟩
  ·subst k2
   exact ⟨"bool", true, true, ty, by decide +kernel, fun _ => by decide +kernel, fun z => (nomatch z), fun _ => rfl⟩
theorem ThAll.length : ∀ {vs : List V} {ds : List PyData}, ThAll K ps H vs ds -> vs.length = ds.length
 | _, _, .nil => rfl
 | _, _, .cons _ t => by rw [List.length_cons, List.length_cons, ThAll.length t]
theorem ThAll.get : ∀ {vs : List V} {ds : List PyData} {i : Nat} {v : V}, ThAll K ps H vs ds -> vs[i]? = some v -> ∃ d, ds[i]? = some d /\ Th K ps H v d
 | _, _, _, _, .nil, e => by simp at e
 | _, _, 0, _, .cons h t, e => by simp at e; subst e; exact ⟨_, rfl, h⟩
 | _, _, i + 1, v, .cons h t, e => by
  obtain ⟨d, h1, h2⟩ := ThAll.get (i := i) (v := v) t (by simpa using e)
  exact ⟨d, by simpa using h1, h2⟩
theorem TyX_sb {v : V} {n : String} (e : SB ps H H') (hn : ∀ a, v = .ref a -> a ∉ ps) (h : TyX K H v (.type n)) : TyX K H' v (.type n) := by
 cases h with
 | base h =>
  cases h with
  | non => exact .base .non
  | bl x => exact .base (.bl x)
  | int i => exact .base (.int i)
  | str x => exact .base (.str x)
  | flt x => exact .base (.flt x)
  | lst h => exact .base (.lst (e.keep _ _ h (hn _ rfl)))
  | frz h => exact .base (.frz (e.frzs _ _ _ h))
  | tup h => exact .base (.tup (e.tups _ _ h))
  | dK h => exact .base (.dK (e.keep _ _ h (hn _ rfl)))
  | dT h => exact .base (.dT (e.keep _ _ h (hn _ rfl)))
 | byt b => exact .byt b
 | set h => exact .set (e.keep _ _ h (hn _ rfl))
 | kList h c => exact .kList h c
 | kTuple h c => exact .kTuple h c
 | kDict h c => exact .kDict h c
 | fTuple h => exact .fTuple (e.frzs _ _ _ h)
 | fDict h => exact .fDict (e.frzs _ _ _ h)
mutual
theorem Th_sb (e : SB ps H H') : ∀ {v : V} {d : PyData}, Th K ps H v d -> Th K ps H' v d
 | _, _, .int i => .int i
 | _, _, .tup hs ha => .tup (e.sqT hs) (ThAll_sb e ha)
 | _, _, .oth ty k1 k2 hn => .oth (TyX_sb e hn ty) k1 k2 hn
theorem ThAll_sb (e : SB ps H H') : ∀ {vs : List V} {ds : List PyData}, ThAll K ps H vs ds -> ThAll K ps H' vs ds
 | _, _, .nil => .nil
 | _, _, .cons h t => .cons (Th_sb e h) (ThAll_sb e t)
end
theorem LA_th : ∀ (l : Lad) {v : V}, LA K H v l -> Th K ps H v l.enc := by
 intro l
 have key : ∀ (l : Lad) {vs : List V}, DpAll K H vs l.encs -> ThAll K ps H vs l.encs := by
  intro l
  induction l with
  | nil => intro vs h; cases h; exact .nil
  | cons e m r ihe ihr =>
   intro vs h
   cases h with
   | cons h1 h2 =>
    refine .cons ?_ (ihr h2)
    cases h1 with
    | tup hs ha =>
     refine .tup hs ?_
     cases ha with
     | cons a1 a2 =>
      cases a2 with
      | cons b1 b2 =>
       cases b2
       cases b1
       cases a1 with
       | tup hs2 ha2 => exact .cons (.tup hs2 (ihe ha2)) (.cons (.int m) .nil)
 intro v h
 obtain ⟨a, xs, rfl, hs, ha⟩ := h.tup
 exact .tup hs (key l ha)
end
inductive Bears (K : PySem.W.Frag) (H : Hp) {β : Type} (enc : β -> PyData) : List V -> List β -> Prop
 | nil : Bears K H enc [] []
 | cons {v : V} {vs : List V} {b : β} {bs : List β} : Dp K H v (enc b) -> Bears K H enc vs bs -> Bears K H enc (v :: vs) (b :: bs)
section
variable {K : PySem.W.Frag} {H H' : Hp} {β : Type} {enc : β -> PyData} {ps : List Addr}
theorem Bears.length : ∀ {vs : List V} {bs : List β}, Bears K H enc vs bs -> vs.length = bs.length
 | _, _, .nil => rfl
 | _, _, .cons _ t => by rw [List.length_cons, List.length_cons, Bears.length t]
theorem Bears.dp : ∀ {vs : List V} {bs : List β}, Bears K H enc vs bs -> DpAll K H vs (bs.map enc)
 | _, _, .nil => .nil
 | _, _, .cons h t => .cons h (Bears.dp t)
theorem Bears.of : ∀ {vs : List V} {bs : List β}, DpAll K H vs (bs.map enc) -> Bears K H enc vs bs
 | [], [], _ => .nil
 | _ :: _, [], h => by cases h
 | [], _ :: _, h => by cases h
 | v :: vs, b :: bs, h => by
  cases h with
  | cons h1 h2 => exact .cons h1 (Bears.of h2)
theorem Bears.get : ∀ {vs : List V} {bs : List β} {i : Nat} {v : V}, Bears K H enc vs bs -> vs[i]? = some v -> ∃ b, bs[i]? = some b /\ Dp K H v (enc b)
 | _, _, _, _, .nil, e => by simp at e
 | _, _, 0, _, .cons h t, e => by simp at e; subst e; exact ⟨_, rfl, h⟩
 | _, _, i + 1, v, .cons h t, e => by
  obtain ⟨d, h1, h2⟩ := Bears.get (i := i) (v := v) t (by simpa using e)
  exact ⟨d, by simpa using h1, h2⟩
theorem Bears.append : ∀ {xs ys : List V} {bs cs : List β}, Bears K H enc xs bs -> Bears K H enc ys cs -> Bears K H enc (xs ++ ys) (bs ++ cs)
 | _, _, _, _, .nil, h => h
 | _, _, _, _, .cons a b, h => .cons a (Bears.append b h)
theorem Bears.sb (e : SB ps H H') (hn : ∀ b, noList (enc b) = true) : ∀ {xs : List V} {bs : List β}, Bears K H enc xs bs -> Bears K H' enc xs bs
 | _, _, .nil => .nil
 | _, _, .cons a b => .cons (Dp_sb e _ _ (hn _) a) (Bears.sb e hn b)
theorem Bears.take (n : Nat) : ∀ {xs : List V} {bs : List β}, Bears K H enc xs bs -> Bears K H enc (xs.take n) (bs.take n) := by
 induction n with
 | zero => intro xs bs h; rw [List.take_zero, List.take_zero]; exact .nil
 | succ n ih =>
  intro xs bs h
  cases h with
  | nil => exact .nil
  | cons a b => exact .cons a (ih b)
end
section
variable {X : Cx} {pins : List (Addr × Obj)} {σ : L2.St} {H : Hp} {s : Shared} {β : Type} {enc : β -> PyData}
theorem each_of (I : Inv X pins σ H s) : ∀ {vs : List V} {us : List Value} {bs : List β}, Bears X.K H enc vs bs -> Vals vs us ->
  EachIs (fun u b => ∃ v, RelV v u /\ Dp X.K H v (enc b)) us bs /\ EachIs (fun u b => ∃ as, Reads s.heap u (enc b) as) us bs
 | _, _, _, .nil, .nil => ⟨.nil, .nil⟩
 | _, _, _, .cons h t, .cons r u => by
  obtain ⟨h1, h2⟩ := each_of I t u
  exact ⟨.cons ⟨_, r, h⟩ h1, .cons (Dp.reads I _ _ _ h r) h2⟩
theorem of_each {K : PySem.W.Frag} : ∀ {us : List Value} {bs : List β}, EachIs (fun u b => ∃ v, RelV v u /\ Dp K H v (enc b)) us bs -> ∃ vs, Vals vs us /\ Bears K H enc vs bs
 | _, _, .nil => ⟨[], .nil, .nil⟩
 | _, _, .cons ⟨v, r, h⟩ t => by
  obtain ⟨vs, h1, h2⟩ := of_each t
  exact ⟨v :: vs, .cons r h1, .cons h h2⟩
end
section
variable {P : Program} {w : World} {K : PySem.W.Frag} {mg : Str -> Option Value} {base : Heap} {f : Addr} {fd : FuncData}
def spWhole (K : PySem.W.Frag) : Sp := fun vs H Q _ => ∃ (v : V) (n : String) (b1 b2 : Bool), vs = [v] /\ TyX K H v (.type n) /\ kitB n "int" = some b1 /\ (b1 = true -> kitB n "bool" = some b2) /\ Q (.bl (b1 && !b2)) H
def spMany (K : PySem.W.Frag) (ps : List Addr) : Sp := fun vs H Q _ => ∃ (v : V) (d : PyData), vs = [v] /\ Th K ps H v d /\ Q (.bl (manyD d)) H
end
def ltsD : List PyData -> List Bool
 | [] => []
 | [_] => []
 | a :: b :: r => dataLt a b :: ltsD (b :: r)
def risingD (ds : List PyData) : Bool := (ltsD ds).all id
theorem ltsD_length : ∀ ds : List PyData, (ltsD ds).length = ds.length - 1
 | [] => rfl
 | [_] => rfl
 | a :: b :: r => by
  have h := ltsD_length (b :: r)
  show (ltsD (b :: r)).length + 1 = _
  rw [h]; simp
theorem ltsD_get : ∀ (ds : List PyData) (i : Nat) (d e : PyData), ds[i]? = some d -> ds[i + 1]? = some e -> (ltsD ds)[i]? = some (dataLt d e)
 | [], _, _, _, h, _ => by simp at h
 | [_], _, _, _, _, h => by simp at h
 | a :: b :: r, 0, d, e, h1, h2 => by simp at h1 h2; subst h1 h2; rfl
 | a :: b :: r, i + 1, d, e, h1, h2 => by
  have := ltsD_get (b :: r) i d e (by simpa using h1) (by simpa using h2)
  simpa [ltsD] using this
theorem cut1 (xs : List V) : cutV xs (some 1) none = xs.drop 1 := by
 unfold cutV
 have h1 : HT.sIx xs.length 0 (some 1) = min 1 xs.length := HT.sIx_nat xs.length 0 1
 have h2 : HT.sIx xs.length xs.length none = xs.length := rfl
 rw [h1, h2]
 cases xs with
 | nil => rfl
 | cons x r =>
  have : min 1 (x :: r).length = 1 := by simp
  rw [this]
  simp
section
variable {P : Program} {w : World} {K : PySem.W.Frag} {mg : Str -> Option Value} {base : Heap} {f : Addr} {fd : FuncData}
def OkD (d : PyData) : Prop := noList d = true /\ d ≠ .none /\ d.depth <= 100
def spRising (K : PySem.W.Frag) : Sp := fun vs H Q _ => ∃ (a : Addr) (xs : List V) (ds : List PyData), vs = [.ref a] /\ SqL K H a xs /\ DpAll K H xs ds /\ (∀ d ∈ ds, OkD d) /\ AllAlike ds /\ xs.length <= 1000 /\
 ∀ H', SB [] H H' -> Q (.bl (risingD ds)) H'
abbrev N_rising : List Str := ["things", "low", "high"]
end
def Lad.num (i : Int) : Lad := if i = 0 then .nil else .cons .nil i .nil
def Lad.lt (l k : Lad) : Bool := dataLt l.enc k.enc
section
variable {P : Program} {w : World} {K : PySem.W.Frag} {mg : Str -> Option Value} {base : Heap} {f : Addr} {fd : FuncData}
theorem LA_nil {H : Hp} {p : Addr} (h : SqT K H p []) : LA K H (.ref p) .nil := Dp.tup h .nil
theorem LA_one {H : Hp} {p q : Addr} {u : V} {e : Lad} {m : Int} (h : SqT K H p [.ref q]) (h2 : SqT K H q [u, .int m]) (h3 : LA K H u e) : LA K H (.ref p) (.cons e m .nil) :=
 Dp.tup h (.cons (.tup h2 (.cons h3 (.cons (.int m) .nil))) .nil)
def spNumber (K : PySem.W.Frag) : Sp := fun vs H Q _ => ∃ i : Int, vs = [.int i] /\ ∀ v H', SB [] H H' -> LA K H' v (Lad.num i) -> Q v H'
def spLess (K : PySem.W.Frag) : Sp := fun vs H Q _ => ∃ (v u : V) (l k : Lad), vs = [v, u] /\ LA K H v l /\ LA K H u k /\ l.deep <= 45 /\ Q (.bl (l.lt k)) H
end
namespace Lad
def ps : Lad -> List (Lad × Int)
 | .nil => []
 | .cons e m r => (e, m) :: r.ps
def ofPs : List (Lad × Int) -> Lad
 | [] => .nil
 | (e, m) :: r => .cons e m (ofPs r)
def pEnc (p : Lad × Int) : PyData := .tuple [p.1.enc, .int p.2]
theorem ofPs_ps : ∀ l : Lad, ofPs l.ps = l
 | .nil => rfl
 | .cons e m r => by show cons e m (ofPs r.ps) = _; rw [ofPs_ps r]
theorem ps_ofPs : ∀ l : List (Lad × Int), (ofPs l).ps = l
 | [] => rfl
 | (e, m) :: r => by show (e, m) :: (ofPs r).ps = _; rw [ps_ofPs r]
theorem encs_ps : ∀ l : Lad, l.encs = l.ps.map pEnc
 | .nil => rfl
 | .cons e m r => by show _ :: r.encs = pEnc (e, m) :: r.ps.map pEnc; rw [encs_ps r]; rfl
theorem ps_length (l : Lad) : l.ps.length = l.len := by rw [<- encs_length, encs_ps, List.length_map]
theorem mem_deep : ∀ (l : Lad) (p : Lad × Int), p ∈ l.ps -> p.1.deep < l.deep
 | .nil, _, h => by simp [ps] at h
 | .cons e m r, p, h => by
  rcases List.mem_cons.mp h with h | h
  ·subst h; show e.deep < max (1 + e.deep) r.deep; omega
  ·have := mem_deep r p h; show p.1.deep < max (1 + e.deep) r.deep; omega
end Lad
section
variable {P : Program} {w : World} {K : PySem.W.Frag} {mg : Str -> Option Value} {base : Heap} {f : Addr} {fd : FuncData}
theorem LA_pair {H : Hp} {v : V} {p : Lad × Int} (h : Dp K H v (Lad.pEnc p)) : ∃ a u, v = .ref a /\ SqT K H a [u, .int p.2] /\ LA K H u p.1 := by
 have h' : Dp K H v (.tuple [p.1.enc, .int p.2]) := h
 cases h' with
 | tup hs ha =>
  cases ha with
  | cons a1 a2 =>
   cases a2 with
   | cons b1 b2 =>
    cases b2
    cases b1
    exact ⟨_, _, rfl, hs, a1⟩
theorem LA_items {H : Hp} {v : V} {l : Lad} (h : LA K H v l) : ∃ a xs, v = .ref a /\ SqT K H a xs /\ xs.length = l.ps.length /\ ∀ (i : Nat) (x : V), xs[i]? = some x -> ∃ (p : Lad × Int) (b : Addr) (u : V), l.ps[i]? = some p /\ p ∈ l.ps /\ x = .ref b /\ SqT K H b [u, .int p.2] /\ LA K H u p.1 := by
 obtain ⟨a, xs, rfl, hs, ha⟩ := h.tup
 refine ⟨a, xs, rfl, hs, ?_, fun i x hx => ?_⟩
 ·rw [DpAll.length ha, Lad.encs_ps, List.length_map]
 obtain ⟨d, e, hd⟩ := DpAll.get ha hx
 rw [Lad.encs_ps, List.getElem?_map] at e
 cases e2 : l.ps[i]? with
 | none => rw [e2] at e; cases e
 | some p =>
  rw [e2] at e
  have e3 : Lad.pEnc p = d := Option.some.inj e
  subst e3
  obtain ⟨b, u, rfl, h1, h2⟩ := LA_pair hd
  exact ⟨p, b, u, rfl, List.mem_of_getElem? e2, rfl, h1, h2⟩
end
def exp0 : PyData -> PyData
 | .tuple (e :: _) => e
 | _ => .none
mutual
def ladD : PyData -> Bool
 | .tuple ds => ladPs ds && risingD (ds.map exp0).reverse
 | _ => false
def ladPs : List PyData -> Bool
 | [] => true
 | d :: ds => ladP d && ladPs ds
def ladP : PyData -> Bool
 | .tuple ds => ladP2 ds
 | _ => false
def ladP2 : List PyData -> Bool
 | [] => false
 | e :: r => ladD e && ladP3 r
def ladP3 : List PyData -> Bool
 | [] => false
 | m :: r => manyD m && r.isEmpty
end
theorem ladP_iff {d : PyData} : ladP d = true ↔ ∃ e i, d = .tuple [e, .int i] /\ ladD e = true /\ (1 : Int) <= i := by
 constructor
 ·intro h
  cases d with
  | tuple ds =>
   rw [ladP] at h
   cases ds with
   | nil => simp [ladP2] at h
   | cons e r =>
    simp only [ladP2, Bool.and_eq_true] at h
    obtain ⟨h1, h2⟩ := h
    cases r with
    | nil => simp [ladP3] at h2
    | cons m r =>
     simp only [ladP3, Bool.and_eq_true] at h2
     obtain ⟨h2, h3⟩ := h2
     cases r with
     | cons _ _ => simp at h3
     | nil =>
      cases m with
      | int i => exact ⟨e, i, rfl, h1, of_decide_eq_true h2⟩
      | _ => simp [manyD] at h2
  | _ => simp [ladP] at h
 ·rintro ⟨e, i, rfl, h1, h2⟩
  simp [ladP, ladP2, ladP3, manyD, h1, h2]
mutual
theorem ladD_lad : ∀ d : PyData, ladD d = true -> ∃ l : Lad, d = l.enc
 | .tuple ds, h => by
  rw [ladD, Bool.and_eq_true] at h
  obtain ⟨l, e⟩ := ladPs_enc ds h.1
  exact ⟨l, by rw [e]; rfl⟩
 | .none, h => by simp [ladD] at h
 | .bool _, h => by simp [ladD] at h
 | .int _, h => by simp [ladD] at h
 | .str _, h => by simp [ladD] at h
 | .list _, h => by simp [ladD] at h
 | .dict _, h => by simp [ladD] at h
theorem ladPs_enc : ∀ ds : List PyData, ladPs ds = true -> ∃ l : Lad, ds = l.encs
 | [], _ => ⟨.nil, rfl⟩
 | d :: ds, h => by
  rw [ladPs, Bool.and_eq_true] at h
  obtain ⟨r, er⟩ := ladPs_enc ds h.2
  obtain ⟨e, i, ed, he⟩ := ladP_enc d h.1
  exact ⟨.cons e i r, by rw [er, ed]; rfl⟩
theorem ladP_enc : ∀ d : PyData, ladP d = true -> ∃ (e : Lad) (i : Int), d = .tuple [e.enc, .int i] /\ (1 : Int) <= i
 | .tuple ds, h => by
  rw [ladP] at h
  obtain ⟨e, i, ed, he⟩ := ladP2_enc ds h
  exact ⟨e, i, by rw [ed], he⟩
 | .none, h => by simp [ladP] at h
 | .bool _, h => by simp [ladP] at h
 | .int _, h => by simp [ladP] at h
 | .str _, h => by simp [ladP] at h
 | .list _, h => by simp [ladP] at h
 | .dict _, h => by simp [ladP] at h
theorem ladP2_enc : ∀ ds : List PyData, ladP2 ds = true -> ∃ (e : Lad) (i : Int), ds = [e.enc, .int i] /\ (1 : Int) <= i
 | [], h => by simp [ladP2] at h
 | d :: r, h => by
  rw [ladP2, Bool.and_eq_true] at h
  obtain ⟨l, el⟩ := ladD_lad d h.1
  have h2 := h.2
  match r, h2 with
  | [], h2 => simp [ladP3] at h2
  | .int i :: [], h2 =>
   simp [ladP3, manyD] at h2
   exact ⟨l, i, by rw [el], h2⟩
  | .int i :: _ :: _, h2 => simp [ladP3] at h2
  | .none :: _, h2 => simp [ladP3, manyD] at h2
  | .bool _ :: _, h2 => simp [ladP3, manyD] at h2
  | .str _ :: _, h2 => simp [ladP3, manyD] at h2
  | .list _ :: _, h2 => simp [ladP3, manyD] at h2
  | .dict _ :: _, h2 => simp [ladP3, manyD] at h2
  | .tuple _ :: _, h2 => simp [ladP3, manyD] at h2
end
theorem Th_la {K : PySem.W.Frag} {ps : List Addr} {H : Hp} : ∀ (l : Lad) {v : V}, Th K ps H v l.enc -> LA K H v l := by
 have key : ∀ (l : Lad) {vs : List V}, ThAll K ps H vs l.encs -> DpAll K H vs l.encs := by
  intro l
  induction l with
  | nil => intro vs h; cases h; exact .nil
  | cons e m r ihe ihr =>
   intro vs h
   cases h with
   | cons h1 h2 =>
    refine .cons ?_ (ihr h2)
    cases h1 with
    | tup hs ha =>
     refine .tup hs ?_
     cases ha with
     | cons a1 a2 =>
      cases a2 with
      | cons b1 b2 =>
       cases b2
       cases b1
       cases a1 with
       | tup hs2 ha2 => exact .cons (.tup hs2 (ihe ha2)) (.cons (.int m) .nil)
 intro l v h
 have h' : Th K ps H v (.tuple l.encs) := h
 cases h' with
 | tup hs ha => exact Dp.tup hs (key l ha)
theorem depthAll_get {ds : List PyData} {i : Nat} {d : PyData} (h : ds[i]? = some d) : d.depth <= PyData.depthAll ds := PyData.depth_le_depthAll ds d (List.mem_of_getElem? h)
theorem ladPs_all : ∀ ds : List PyData, ladPs ds = ds.all ladP
 | [] => by simp [ladPs]
 | d :: ds => by rw [ladPs, ladPs_all ds]; rfl
section
variable {P : Program} {w : World} {K : PySem.W.Frag} {mg : Str -> Option Value} {base : Heap} {f : Addr} {fd : FuncData} {ps : List Addr}
mutual
def wide : PyData -> Nat
 | .tuple ds => max ds.length (wides ds)
 | _ => 0
def wides : List PyData -> Nat
 | [] => 0
 | d :: ds => max (wide d) (wides ds)
end
theorem wide_mem : ∀ (ds : List PyData) (d : PyData), d ∈ ds -> wide d <= wides ds
 | [], _, h => by simp at h
 | e :: ds, d, h => by
  rw [wides]
  rcases List.mem_cons.mp h with h | h
  ·subst h; omega
  ·have := wide_mem ds d h; omega
theorem wide_tuple (ds : List PyData) : wide (.tuple ds) = max ds.length (wides ds) := by rw [wide]
def spLadder (K : PySem.W.Frag) (ps : List Addr) (n : Nat) : Sp := fun vs H Q _ => ∃ (v : V) (d : PyData), vs = [v] /\ Th K ps H v d /\ d.depth < n /\ d.depth <= 80 /\ wide d <= 1000 /\ ∀ H', SB [] H H' -> Q (.bl (ladD d)) H'
def spLadPair (K : PySem.W.Frag) (ps : List Addr) (n : Nat) : Sp := fun vs H Q _ => ∃ (v : V) (d : PyData), vs = [v] /\ Th K ps H v d /\ d.depth < n /\ d.depth <= 80 /\ wide d <= 1000 /\ ∀ H', SB [] H H' -> Q (.bl (ladP d)) H'
end
section
variable {K : PySem.W.Frag} {H : Hp}
theorem DpAll.append : ∀ {xs ys : List V} {ds es : List PyData}, DpAll K H xs ds -> DpAll K H ys es -> DpAll K H (xs ++ ys) (ds ++ es)
 | _, _, _, _, .nil, h => h
 | _, _, _, _, .cons a b, h => .cons a (DpAll.append b h)
theorem DpAll.reverse : ∀ {xs : List V} {ds : List PyData}, DpAll K H xs ds -> DpAll K H xs.reverse ds.reverse
 | _, _, .nil => .nil
 | _, _, .cons a b => by
  rw [List.reverse_cons, List.reverse_cons]
  exact DpAll.append (DpAll.reverse b) (.cons a .nil)
theorem noLists_encl : ∀ l : List (Lad × Int), noLists (l.map fun p => p.1.enc) = true
 | [] => by simp [noLists]
 | p :: l => by simp [noLists, noLists_encl l, Lad.noList_enc]
theorem depth_mem {l : Lad} {p : Lad × Int} (h : p ∈ l.ps) : p.1.enc.depth < l.enc.depth := by
 have h1 : Lad.pEnc p ∈ l.encs := by rw [Lad.encs_ps]; exact List.mem_map_of_mem h
 have h2 := PyData.depth_le_depthAll _ _ h1
 have h3 : p.1.enc.depth < (Lad.pEnc p).depth := by simp only [Lad.pEnc, PyData.depth, PyData.depthAll]; omega
 show _ < PyData.depth (.tuple l.encs)
 simp only [PyData.depth]
 omega
end
section
variable {P : Program} {w : World} {K : PySem.W.Frag} {mg : Str -> Option Value} {base : Heap} {f : Addr} {fd : FuncData} {ps : List Addr}
abbrev N_ladder : List Str := ["thing", "pair"]
end
theorem Lad.wides_encs : ∀ l : Lad, l.len <= l.parts /\ wides l.encs <= max 2 l.parts
 | .nil => by simp [Lad.encs, wides, Lad.len, Lad.parts]
 | .cons e m r => by
  have h1 := Lad.wides_encs e
  have h2 := Lad.wides_encs r
  have h3 : e.encs.length = e.len := e.encs_length
  refine ⟨by show 1 + r.len <= 1 + e.parts + r.parts; omega, ?_⟩
  simp only [Lad.encs, wides, wide, Lad.parts, List.length_cons, List.length_nil]
  omega
theorem Lad.wide_enc (l : Lad) : wide l.enc <= max 2 l.parts := by
 have h1 := l.wides_encs
 have h3 := l.encs_length
 rw [Lad.enc, wide_tuple]
 omega
theorem ib (m m' : Int) : (m == m') = decide (m = m') := by by_cases h : m = m' <;> simp [h]
theorem Lad.eqvs : ∀ l k : Lad, PyData.eqvAll l.encs k.encs = decide (l = k)
 | .nil, .nil => by simp [encs, PyData.eqvAll]
 | .nil, .cons _ _ _ => by simp [encs, PyData.eqvAll]
 | .cons _ _ _, .nil => by simp [encs, PyData.eqvAll]
 | .cons e m r, .cons e' m' r' => by
  have h1 := Lad.eqvs e e'
  have h2 := Lad.eqvs r r'
  simp [encs, PyData.eqvAll, PyData.eqv, h1, h2, Bool.and_assoc, ib]
theorem Lad.eqv_enc (l k : Lad) : PyData.eqv l.enc k.enc = decide (l = k) := by
 rw [Lad.enc, Lad.enc, PyData.eqv]; exact Lad.eqvs l k
theorem Lad.lt_nil_nil : Lad.lt .nil .nil = false := by decide +kernel
theorem Lad.lt_nil_cons (e : Lad) (m : Int) (r : Lad) : Lad.lt .nil (.cons e m r) = true := by
 unfold Lad.lt Lad.enc
 rw [dataLt_tuple, Lad.encs, Lad.encs, toks_all_cons, show keyToksAll [] = [.inl 0] by simp [keyToksAll], lex_atom (by simp), lex_one]
 decide +kernel
theorem Lad.lt_cons_nil (e : Lad) (m : Int) (r : Lad) : Lad.lt (.cons e m r) .nil = false := by
 unfold Lad.lt Lad.enc
 rw [dataLt_tuple, Lad.encs, Lad.encs, toks_all_cons, show keyToksAll [] = [.inl 0] by simp [keyToksAll], lex_atom (by simp), lex_one]
 decide +kernel
theorem Lad.lt_cons (e e' : Lad) (m m' : Int) (r r' : Lad) : Lad.lt (.cons e m r) (.cons e' m' r') = if e = e' then (if m = m' then r.lt r' else decide (m < m')) else e.lt e' := by
 have al : alike (.tuple [e.enc, .int m]) (.tuple [e'.enc, .int m']) = true := by simp [alike, alikeAll, e.alike_enc e']
 have h1 : Lad.lt (.cons e m r) (.cons e' m' r') = if PyData.eqv (.tuple [e.enc, .int m]) (.tuple [e'.enc, .int m']) = true then r.lt r' else dataLt (.tuple [e.enc, .int m]) (.tuple [e'.enc, .int m']) := by
  unfold Lad.lt
  rw [show (Lad.cons e m r).enc = .tuple (.tuple [e.enc, .int m] :: r.encs) from rfl, show (Lad.cons e' m' r').enc = .tuple (.tuple [e'.enc, .int m'] :: r'.encs) from rfl, dataLt_tuple, dataLt_cons al]
  rw [show dataLt r.enc r'.enc = PyProof.Rows.lexLt itemOrd (keyToksAll r.encs) (keyToksAll r'.encs) from dataLt_tuple _ _]
 have h2 : PyData.eqv (.tuple [e.enc, .int m]) (.tuple [e'.enc, .int m']) = (decide (e = e') && decide (m = m')) := by
  simp [PyData.eqv, PyData.eqvAll, Lad.eqv_enc, ib]
 rw [h1, h2, dataLt_pair (e.alike_enc e') (by simp [alike]), Lad.eqv_enc]
 by_cases he : e = e'
 ·by_cases hm : m = m'
  ·simp [he, hm]
  ·simp [he, hm, PyData.eqv, dataLt_int]
 ·simp [he, Lad.lt]
namespace Lad
theorem lt_irrefl : ∀ l : Lad, l.lt l = false
 | .nil => lt_nil_nil
 | .cons e m r => by rw [lt_cons, if_pos rfl, if_pos rfl]; exact lt_irrefl r
theorem lt_nil_r : ∀ l : Lad, l.lt .nil = false
 | .nil => lt_nil_nil
 | .cons e m r => lt_cons_nil e m r
theorem lt_ne {l k : Lad} (h : l.lt k = true) : l ≠ k := fun z => by subst z; rw [lt_irrefl] at h; cases h
theorem lt_tri : ∀ l k : Lad, l ≠ k -> l.lt k = false -> k.lt l = true
 | .nil, .nil, h, _ => absurd rfl h
 | .nil, .cons e m r, _, h => by rw [lt_nil_cons] at h; cases h
 | .cons e m r, .nil, _, _ => lt_nil_cons e m r
 | .cons e m r, .cons e' m' r', hne, h => by
  rw [lt_cons] at h ⊢
  by_cases he : e = e'
  ·subst he
   rw [if_pos rfl] at h ⊢
   by_cases hm : m = m'
   ·subst hm
    rw [if_pos rfl] at h ⊢
    exact lt_tri r r' (fun z => hne (by rw [z])) h
   ·rw [if_neg hm] at h
    rw [if_neg (fun z => hm z.symm)]
    have := of_decide_eq_false h
    exact decide_eq_true (by omega)
  ·rw [if_neg he] at h
   rw [if_neg (fun z => he z.symm)]
   exact lt_tri e e' he h
theorem lt_trans : ∀ l k j : Lad, l.lt k = true -> k.lt j = true -> l.lt j = true
 | _, _, .nil, _, h => by rw [lt_nil_r] at h; cases h
 | _, .nil, .cons _ _ _, h, _ => by rw [lt_nil_r] at h; cases h
 | .nil, .cons _ _ _, .cons e m r, _, _ => lt_nil_cons e m r
 | .cons e m r, .cons e' m' r', .cons e'' m'' r'', h1, h2 => by
  rw [lt_cons] at h1 h2 ⊢
  by_cases he : e = e'
  ·subst he
   rw [if_pos rfl] at h1
   by_cases he2 : e = e''
   ·subst he2
    rw [if_pos rfl] at h2 ⊢
    by_cases hm : m = m'
    ·subst hm
     rw [if_pos rfl] at h1
     by_cases hm2 : m = m''
     ·subst hm2
      rw [if_pos rfl] at h2 ⊢
      exact lt_trans r r' r'' h1 h2
     ·rw [if_neg hm2] at h2 ⊢
      exact h2
    ·rw [if_neg hm] at h1
     have a1 := of_decide_eq_true h1
     by_cases hm2 : m' = m''
     ·subst hm2
      rw [if_neg hm]
      exact h1
     ·rw [if_neg hm2] at h2
      have a2 := of_decide_eq_true h2
      rw [if_neg (by omega)]
      exact decide_eq_true (by omega)
   ·rw [if_neg he2] at h2 ⊢
    exact h2
  ·rw [if_neg he] at h1
   by_cases he2 : e' = e''
   ·subst he2
    rw [if_neg he]
    exact h1
   ·rw [if_neg he2] at h2
    have h3 := lt_trans e e' e'' h1 h2
    rw [if_neg (lt_ne h3)]
    exact h3
theorem lt_asymm {l k : Lad} (h : l.lt k = true) : k.lt l = false := by
 cases e : k.lt l with
 | false => rfl
 | true =>
  have := lt_trans l k l h e
  rw [lt_irrefl] at this
  cases this
def Ok (B : Int) : Lad -> Prop
 | .nil => True
 | .cons e m r => e.Ok B /\ 1 <= m /\ m < B /\ r.Ok B /\ ∀ p ∈ r.ps, p.1.lt e = true
theorem Ok.mono {B C : Int} (h : B <= C) : ∀ {l : Lad}, l.Ok B -> l.Ok C
 | .nil, _ => trivial
 | .cons e m r, ⟨h1, h2, h3, h4, h5⟩ => ⟨Ok.mono h h1, h2, by omega, Ok.mono h h4, h5⟩
theorem ok_ps {B : Int} : ∀ {ps : List (Lad × Int)}, (ofPs ps).Ok B ↔ (∀ p ∈ ps, p.1.Ok B /\ 1 <= p.2 /\ p.2 < B) /\ ps.Pairwise (fun p q => q.1.lt p.1 = true)
 | [] => by simp [ofPs, Ok]
 | (e, m) :: r => by
  have ih := ok_ps (B := B) (ps := r)
  show (e.Ok B /\ 1 <= m /\ m < B /\ (ofPs r).Ok B /\ ∀ p ∈ (ofPs r).ps, p.1.lt e = true) ↔ _
  rw [ps_ofPs, List.pairwise_cons, ih]
  constructor
  ·rintro ⟨h1, h2, h3, ⟨h4, h5⟩, h6⟩
   refine ⟨fun p hp => ?_, h6, h5⟩
   rcases List.mem_cons.mp hp with hp | hp
   ·subst hp; exact ⟨h1, h2, h3⟩
   ·exact h4 p hp
  ·rintro ⟨h1, h2, h3⟩
   have h4 := h1 (e, m) (mcs ..)
   exact ⟨h4.1, h4.2.1, h4.2.2, ⟨fun p hp => h1 p (mcm _ hp), h3⟩, h2⟩
theorem ok_iff {B : Int} {l : Lad} : l.Ok B ↔ (∀ p ∈ l.ps, p.1.Ok B /\ 1 <= p.2 /\ p.2 < B) /\ l.ps.Pairwise (fun p q => q.1.lt p.1 = true) := by
 have := ok_ps (B := B) (ps := l.ps)
 rw [ofPs_ps] at this
 exact this
end Lad
theorem cutInts (ns : List Int) (lo hi : Option Int) : ∃ ms : List Int, cutV (ns.map V.int) lo hi = ms.map V.int /\ ms.length <= ns.length := by
 refine ⟨(ns.drop (HT.sIx (ns.map V.int).length 0 lo)).take (HT.sIx (ns.map V.int).length (ns.map V.int).length hi - HT.sIx (ns.map V.int).length 0 lo), ?_, ?_⟩
 ·unfold cutV
  rw [List.map_take, List.map_drop]
 ·rw [List.length_take, List.length_drop]; omega
section
variable {P : Program} {w : World} {K : PySem.W.Frag} {mg : Str -> Option Value} {base : Heap} {f : Addr} {fd : FuncData}
def spLaw (K : PySem.W.Frag) : Sp := fun vs H Q _ => ∃ (a : Addr) (ns : List Int), vs = [.ref a] /\ SqL K H a (ns.map V.int) /\ ns.length <= 63 /\ ∀ H', Q (.bl true) H'
theorem none_sp {ps : List Str} {k : Nat} {sp : Sp} (no : ∀ vs H Q E, ¬ sp vs H Q E) : FnOk P w K mg base CX0 k f fd ps sp :=
 ⟨fun vs H Q E h => absurd h (no vs H Q E), fun A outer s H args us vs Q E _ _ _ _ h => absurd h (no vs H Q E)⟩
theorem none_is_ladder {ps : List Str} {qs : List Addr} {k : Nat} : FnOk P w K mg base CX0 k f fd ps (spLadder K qs 0) := none_sp fun vs H Q E ⟨v, d, _, _, h, _⟩ => by omega
theorem none_is_ladder_pair {ps : List Str} {qs : List Addr} {k : Nat} : FnOk P w K mg base CX0 k f fd ps (spLadPair K qs 0) := none_sp fun vs H Q E ⟨v, d, _, _, h, _⟩ => by omega
end
namespace Lad
theorem lays : ∀ l : Lad, PyData.canLayAll0 l.encs = true
 | .nil => by simp [encs, PyData.canLayAll0]
 | .cons e m r => by simp [encs, PyData.canLayAll0, PyData.canLay0, lays e, lays r]
theorem shaped_enc {l : Lad} (h : l.deep <= 31) : SeqAt.shaped l.enc = true := by
 have := l.enc_depth
 unfold SeqAt.shaped
 rw [show l.enc.canLay0 = true by rw [enc, PyData.canLay0]; exact lays l]
 simp; omega
theorem pEnc_alike (p q : Lad × Int) : alike (pEnc p) (pEnc q) = true := by simp [pEnc, alike, alikeAll, p.1.alike_enc q.1]
theorem pEnc_noList (p : Lad × Int) : noList (pEnc p) = true := by simp [pEnc, noList, noLists, Lad.noList_enc]
theorem pEnc_depth (p : Lad × Int) : (pEnc p).depth <= 2 * p.1.deep + 2 := by
 have := p.1.enc_depth
 simp only [pEnc, PyData.depth, PyData.depthAll]; omega
theorem pEnc_all (bs : List (Lad × Int)) : AllAlike (bs.map pEnc) := AllAlike.of pEnc_alike
theorem pEnc_sortable (bs : List (Lad × Int)) : Sortable (bs.map pEnc) := Sortable.tuples fun b => ⟨_, _, rfl⟩
theorem pLt (p q : Lad × Int) : dataLt (pEnc p) (pEnc q) = if p.1 = q.1 then decide (p.2 < q.2) else p.1.lt q.1 := by
 unfold pEnc
 rw [dataLt_pair (p.1.alike_enc q.1) (by simp [alike]), Lad.eqv_enc]
 by_cases h : p.1 = q.1
 ·rw [if_pos (by simp [h]), if_pos h, dataLt_int]
  by_cases h2 : p.2 = q.2
  ·simp [PyData.eqv, h2]
  ·simp [PyData.eqv, h2]
 ·rw [if_neg (by simp [h]), if_neg h]; rfl
def tot : List (Lad × Int) -> Nat
 | [] => 0
 | p :: r => 1 + p.1.parts + tot r
theorem parts_ofPs : ∀ bs : List (Lad × Int), (ofPs bs).parts = tot bs
 | [] => rfl
 | (e, m) :: r => by show 1 + e.parts + (ofPs r).parts = 1 + e.parts + tot r; rw [parts_ofPs r]
theorem tot_append : ∀ bs cs : List (Lad × Int), tot (bs ++ cs) = tot bs + tot cs
 | [], cs => by simp [tot]
 | p :: r, cs => by show 1 + p.1.parts + tot (r ++ cs) = _; rw [tot_append r cs, tot]; omega
theorem tot_filter (f : Lad × Int -> Bool) : ∀ bs : List (Lad × Int), tot (bs.filter f) <= tot bs
 | [] => by simp [tot]
 | p :: r => by
  have := tot_filter f r
  rw [List.filter_cons]
  split
  ·show 1 + p.1.parts + tot (r.filter f) <= 1 + p.1.parts + tot r; omega
  ·show tot (r.filter f) <= 1 + p.1.parts + tot r; omega
theorem tot_perm {bs cs : List (Lad × Int)} (h : bs.Perm cs) : tot bs = tot cs := by
 induction h with
 | nil => rfl
 | cons x _ ih => simp only [tot]; omega
 | swap x y l => simp only [tot]; omega
 | trans _ _ h1 h2 => omega
theorem deep_ofPs {n : Nat} : ∀ {bs : List (Lad × Int)}, (∀ b ∈ bs, b.1.deep < n) -> (ofPs bs).deep <= n
 | [], _ => Nat.zero_le _
 | (e, m) :: r, h => by
  have h1 := deep_ofPs (bs := r) fun b hb => h b (mcm _ hb)
  have h2 : e.deep < n := h (e, m) (mcs ..)
  show max (1 + e.deep) (ofPs r).deep <= n
  omega
end Lad
theorem Bears_la {K : PySem.W.Frag} {H : Hp} {a : Addr} {xs : List V} {bs : List (Lad × Int)} (h : SqT K H a xs) (hb : Bears K H Lad.pEnc xs bs) : LA K H (.ref a) (Lad.ofPs bs) := by
 refine Dp.tup h ?_
 rw [Lad.encs_ps, Lad.ps_ofPs]
 exact hb.dp
theorem LA_bears {K : PySem.W.Frag} {H : Hp} {v : V} {l : Lad} (h : LA K H v l) : ∃ a xs, v = .ref a /\ SqT K H a xs /\ Bears K H Lad.pEnc xs l.ps := by
 obtain ⟨a, xs, rfl, hs, ha⟩ := h.tup
 rw [Lad.encs_ps] at ha
 exact ⟨a, xs, rfl, hs, Bears.of ha⟩
def rCatB (K : PySem.W.Frag) : R2 := fun x y H Q => ∃ a b xs ys, x = .ref a /\ y = .ref b /\ SqT K H a xs /\ SqT K H b ys /\ xs.length + ys.length <= 10000000 /\ ∀ c H', SB [] H H' -> SqT K H' c (xs ++ ys) -> Q (.ref c) H'
def rSlB (K : PySem.W.Frag) : V -> Option Int -> Option Int -> Hp -> VK -> Prop := fun x lo hi H Q => ∃ a xs, x = .ref a /\ SqT K H a xs /\ ∀ c H', SB [] H H' -> SqT K H' c (cutV xs lo hi) -> Q (.ref c) H'
section
variable {X : Cx}
theorem op_catB : OpR X (binaryOp .Add) (rCatB X.K) := by
 intro pins s σ H x y v u Q I rx ry h
 obtain ⟨a, b, xs, ys, rfl, rfl, ha, hb, hz, q⟩ := h
 refine op_catA pins s σ H _ _ v u Q I rx ry ⟨a, b, xs, ys, rfl, rfl, ha, hb, by rw [sizeLine_eq]; omega, fun e => ?_, fun e1 e2 => ?_, fun e1 e2 p hp => ?_⟩
 ·subst e; exact q b H SB.refl hb
 ·subst e2; exact q a H SB.refl (by rw [List.append_nil]; exact ha)
 ·exact q p _ (SB.new hp _) (SqT.of upd_same)
theorem sl_tupB : SlR X (rSlB X.K) := by
 intro pins s σ H x v vl vu lo hi sl Q I rx hs pl pu h
 obtain ⟨a, xs, rfl, hx, q⟩ := h
 refine sl_tupA pins s σ H _ v vl vu lo hi sl Q I rx hs pl pu ⟨a, xs, rfl, hx, fun e => ?_, fun e p hp => ?_⟩
 ·refine q a H SB.refl ?_
  have : cutV xs lo hi = xs := by
   unfold cutV
   rw [e.1, e.2]
   simp
  rw [this]; exact hx
 ·exact q p _ (SB.new hp _) (SqT.of upd_same)
end
theorem cutTake (xs : List V) (k : Nat) : cutV xs none (some (k : Int)) = xs.take k := by
 unfold cutV
 have h1 : HT.sIx xs.length 0 none = 0 := rfl
 have h2 : HT.sIx xs.length xs.length (some (k : Int)) = min k xs.length := HT.sIx_nat xs.length xs.length k
 rw [h1, h2]
 simp
theorem cutDrop (xs : List V) (k : Nat) : cutV xs (some (k : Int)) none = xs.drop k := by
 unfold cutV
 have h1 : HT.sIx xs.length 0 (some (k : Int)) = min k xs.length := HT.sIx_nat xs.length 0 k
 have h2 : HT.sIx xs.length xs.length none = xs.length := rfl
 rw [h1, h2]
 by_cases h : k <= xs.length
 ·rw [Nat.min_eq_left h, List.take_of_length_le (by rw [List.length_drop]; omega)]
 ·rw [Nat.min_eq_right (by omega), List.drop_eq_nil_of_le (Nat.le_refl _), List.drop_eq_nil_of_le (by omega)]
  simp
namespace Lad
def sumAt (ps : List (Lad × Int)) (e : Lad) : Int := ((ps.filter fun p => decide (p.1 = e)).map (·.2)).sum
def bhd (l k : Lad) : Lad := match k.ps with
 | [] => l
 | (e, m) :: r => ofPs (l.ps.filter (fun p => e.lt p.1) ++ (e, sumAt l.ps e + m) :: r)
theorem bhd_nil (l : Lad) : bhd l .nil = l := rfl
theorem bhd_cons (l e : Lad) (m : Int) (r : Lad) : bhd l (.cons e m r) = ofPs (l.ps.filter (fun p => e.lt p.1) ++ (e, sumAt l.ps e + m) :: r.ps) := rfl
end Lad
def spManyAt (K : PySem.W.Frag) : Sp := fun vs H Q _ => ∃ (v u : V) (l e : Lad), vs = [v, u] /\ LA K H v l /\ LA K H u e /\ l.deep <= 30 /\ e.deep <= 30 /\ l.parts <= 1000000 /\ ∀ H', SB [] H H' -> Q (.int (Lad.sumAt l.ps e)) H'
def spBehind (K : PySem.W.Frag) : Sp := fun vs H Q _ => ∃ (v u : V) (l k : Lad), vs = [v, u] /\ LA K H v l /\ LA K H u k /\ l.deep <= 30 /\ k.deep <= 30 /\ l.parts <= 900000 /\ k.parts <= 900000 /\ ∀ (x : V) (H' : Hp), SB [] H H' -> LA K H' x (l.bhd k) -> Q x H'
namespace Lad
theorem deep_parts_mem {l : Lad} {n : Nat} (h : l.deep <= n) : ∀ p ∈ l.ps, p.1.deep < n := fun p hp => Nat.lt_of_lt_of_le (mem_deep l p hp) h
end Lad
theorem SB.drop2 {p q : Addr} {H H' : Hp} (h : SB [p, q] H H') (n : H q = none) : SB [p] H H' := by
 refine ⟨fun b o e m => h.keep b o e fun z => ?_, h.tups, h.frzs, h.dom⟩
 have z' : b = p \/ b = q := by simpa using z
 rcases z' with z | z
 ·exact m (by simp [z])
 ·subst z; rw [n] at e; cases e
theorem Lad.enc_width {l : Lad} {n : Nat} (h : l.parts <= n) (h2 : 2 <= n) : wide l.enc <= n := by have := l.wide_enc; omega
namespace Lad
theorem bhd_parts (l k : Lad) : (bhd l k).parts <= l.parts + k.parts := by
 cases k with
 | nil => rw [bhd_nil]; omega
 | cons e m r =>
  rw [bhd_cons, parts_ofPs, tot_append]
  have h1 : l.parts = tot l.ps := by rw [<- parts_ofPs, ofPs_ps]
  have h2 := tot_filter (fun p => e.lt p.1) l.ps
  have h3 : r.parts = tot r.ps := by rw [<- parts_ofPs, ofPs_ps]
  simp only [tot, Lad.parts]
  omega
theorem bhd_deep {n : Nat} {l k : Lad} (hl : l.deep <= n) (hk : k.deep <= n) : (bhd l k).deep <= n := by
 cases k with
 | nil => rw [bhd_nil]; exact hl
 | cons e m r =>
  rw [bhd_cons]
  refine deep_ofPs fun b hb => ?_
  rcases List.mem_append.mp hb with hb | hb
  ·exact deep_parts_mem hl b (List.mem_filter.mp hb).1
  ·rcases List.mem_cons.mp hb with hb | hb
   ·subst hb; exact deep_parts_mem hk (e, m) (mcs ..)
   ·exact deep_parts_mem hk b (mcm _ hb)
end Lad
section
variable {prog : Program} {w : World} {A : Around} {E : Value -> Shared -> Prop} {s : Shared} {β : Type} {vs : List Value} {bs : List β} {enc : β -> PyData} {R : Value -> β -> Prop}
theorem sorted_tupK {t : Addr} {kw : List (Str × Value)} {b : Bool} {Q : Value -> Shared -> Prop} (hkw : ∀ a, Builtin.«list.sort» ⟨[.ref a], kw⟩ = Builtin.«list.sort» ⟨[.ref a], [(Str.ofString "reverse", .bool b)]⟩) (ha1 : argsOk "sorted" ⟨[.ref t], kw⟩) (ha2 : ∀ x, argsOk "list.sort" ⟨[.ref x], kw⟩)
  (ht : IsTup s.heap t vs.toArray) (e : EachIs R vs bs) (er : EachIs (fun v b => ∃ as, Reads s.heap v (enc b) as) vs bs) (hal : AllAlike (bs.map enc)) (hk : Sortable (bs.map enc)) (hL : bs.length <= sizeLine)
  (hu : ∀ b, b ∈ bs -> A.units + 2 + (enc b).depth < cLine)
  (h : ∀ (out : List Value) (h' h2 : Heap) (n : Nat), (∀ b o, s.heap.get? b = some o -> h'.get? b = some o) -> (∀ b o, h'.get? b = some o -> h2.get? b = some o) -> h2.get? h'.objs.size = some (seqObj "list" out.toArray n) -> out.length = bs.length -> EachIs R out (bs.mergeSort (dataLe b enc)) -> Q (.ref h'.objs.size) { s with heap := h2 }) :
  wpAny (model prog w) A (call (.builtin "sorted") [.ref t] kw) Q E s := by
 have hlen : vs.length <= sizeLine := by rw [e.length]; exact hL
 obtain ⟨o, ho, hc, n0, hd⟩ := id ht
 refine call_function_entry_kw kind_sorted plain_sorted entry_sorted ha1 ?_
 unfold Builtin.«sorted»
 refine wpAny_bind (m := checkCount "sorted" 1 1 _) (wpAny_pure ?_)
 refine wpAny_bind (wpAny_collect_seq t (.inr rfl) ho hc hd (fun h' hk' => ?_) (by rw [List.size_toArray]; exact hlen))
 refine wpAny_bind (wpAny_newList ?_ hlen)
 show wpAny _ _ _ _ _ { s with heap := h'.push (seqObj "list" vs.toArray 0) }
 have hat : (h'.push (seqObj "list" vs.toArray 0)).get? h'.objs.size = some (seqObj "list" vs.toArray 0) := Heap.get?_push_size _ rfl
 refine wpAny_bind (wpAny_holding (wpAny_call_entry_kw slot_list_sort ⟨_, hat, rfl⟩ entry_list_sort ?body (ha2 _)))
 case body =>
  rw [hkw]
  have old : ∀ b o, h'.get? b = some o -> (sortingHeap (h'.push (seqObj "list" vs.toArray 0)) h'.objs.size vs).get? b = some o := fun b o q => sortingHeap_old (Nat.ne_of_lt (Heap.lt_size q)) (Heap.get?_push_of_some _ q)
  have er' : EachIs (fun v b => ∃ as, Reads (sortingHeap (h'.push (seqObj "list" vs.toArray 0)) h'.objs.size vs) v (enc b) as) vs bs := er.mono fun _ _ ⟨as, r⟩ => ⟨as, PyProof.Rows.Reads.keeps (fun b o q => old b o (hk' b o q)) r⟩
  refine list_sort_rev_vals (s := { s with heap := h'.push (seqObj "list" vs.toArray 0) }) (κ := dataKind (sortingHeap (h'.push (seqObj "list" vs.toArray 0)) h'.objs.size vs) (bs.map enc)) hat (SortsAt.data (s := { s with heap := sortingHeap (h'.push (seqObj "list" vs.toArray 0)) h'.objs.size vs }) (each_map (R := fun v d => ∃ as, Reads (sortingHeap (h'.push (seqObj "list" vs.toArray 0)) h'.objs.size vs) v d as) enc er') hal hk (bound_map hu)) hlen ?_
  refine ⟨_, rfl, wpAny_pure ⟨_, rfl, ?_⟩⟩
  obtain ⟨n2, hn2⟩ := sortedHeap_at (out := (sortVals (dataKind (sortingHeap (h'.push (seqObj "list" vs.toArray 0)) h'.objs.size vs) (bs.map enc)) b vs vs).toArray) hat
  refine h _ h' _ n2 hk' (fun b o q => ?_) hn2 (by rw [sortVals_length b rfl]; exact e.length) (sortVals_data b e er' hal)
  rw [sortedHeap_old (Nat.ne_of_lt (Heap.lt_size q)) (by rw [size_push']; exact Nat.lt_succ_of_lt (Heap.lt_size q))]
  exact Heap.get?_push_of_some _ q
end
def rSortedT (K : PySem.W.Frag) {β : Type} (enc : β -> PyData) (b : Bool) (vs : List V) (H : Hp) (Q : VK) : Prop := ∃ (a : Addr) (xs : List V) (bs : List β), vs = [V.ref a] /\ SqT K H a xs /\ Bears K H enc xs bs /\ AllAlike (bs.map enc) /\ Sortable (bs.map enc) /\ bs.length <= 10000000 /\ (∀ b ∈ bs, (enc b).depth <= 100) /\
 ∀ (p : Addr) (ys : List V), H p = none -> Bears K H enc ys (bs.mergeSort (dataLe b enc)) -> Q (.ref p) (upd H p (.lst ys))
section
variable {X : Cx}
theorem sortedT_run {β : Type} {enc : β -> PyData} {b : Bool} {kw : List (Str × Value)} (hu : X.A.units + 110 < cLine) (hkw : ∀ a, Builtin.«list.sort» ⟨[.ref a], kw⟩ = Builtin.«list.sort» ⟨[.ref a], [(Str.ofString "reverse", .bool b)]⟩) (ha1 : ∀ t, argsOk "sorted" ⟨[.ref t], kw⟩) (ha2 : ∀ x, argsOk "list.sort" ⟨[.ref x], kw⟩)
  {pins : List (Addr × Obj)} {s : Shared} {σ : L2.St} {H : Hp} {vs : List V} {us : List Value} {Q : VK} (I : Inv X pins σ H s) (r : Vals vs us) (h : rSortedT X.K enc b vs H Q) : wpAny (model X.prog X.w) X.A (call (.builtin "sorted") us kw) (EP X pins σ Q) X.xe s := by
 obtain ⟨a, xs, bs, rfl, hs, hb, hal, hsr, hl, hd, q⟩ := h
 obtain ⟨its, rv, hli, _⟩ := I.tuple hs
 rw [Vals.ref1 r]
 obtain ⟨e1, e2⟩ := each_of I hb rv
 refine sorted_tupK (vs := its) (bs := bs) (enc := enc) (R := fun u b => ∃ v, RelV v u /\ Dp X.K H v (enc b)) hkw (ha1 _) ha2 hli e1 e2 hal hsr (by rw [sizeLine_eq]; omega) (fun b m => by have := hd b m; omega) fun out h' h2 n k1 k2 hat ho h1 => ?_
 obtain ⟨ys, g2, g3⟩ := of_each h1
 have I' : Inv X pins σ H { s with heap := h' } := I.kept (t' := s.toks) k1
 have hlen : ys.length <= sizeLine := by rw [g2.length, ho, sizeLine_eq]; omega
 exact ⟨.ref _, upd H h'.objs.size (.lst ys), I'.laid (t' := s.toks) (fun b o e => k2 b o e) (Nat.le_refl _) ⟨hlen, out, n, g2, hat⟩, rfl, q _ ys (I'.hok.fresh (Nat.le_refl _)) g3⟩
theorem cr_sortedT {β : Type} (enc : β -> PyData) (hu : X.A.units + 110 < cLine) : CallR X (.builtin "sorted") (rSortedT X.K enc false) := by
 intro pins s σ H vs us Q I r h
 exact sortedT_run (kw := []) hu plain_is_rev (fun _ => args_sorted1 _) (fun _ => args_list_sort _) I r h
end
section
variable {γ : Type} [DecidableEq γ]
def pairE (enc : γ -> PyData) (p : γ × Int) : PyData := .tuple [enc p.1, .int p.2]
def jstep (acc : List (γ × Int)) (p : γ × Int) : List (γ × Int) := match acc.getLast? with
 | some q => if q.1 = p.1 then acc.dropLast ++ [(p.1, q.2 + p.2)] else acc ++ [p]
 | none => [p]
def jn (bs : List (γ × Int)) : List (γ × Int) := bs.foldl jstep []
theorem jstep_nil (p : γ × Int) : jstep [] p = [p] := rfl
theorem jstep_snoc (acc : List (γ × Int)) (q p : γ × Int) : jstep (acc ++ [q]) p = if q.1 = p.1 then acc ++ [(p.1, q.2 + p.2)] else acc ++ [q] ++ [p] := by
 unfold jstep
 rw [List.getLast?_append]
 simp
theorem jstep_length (acc : List (γ × Int)) (p : γ × Int) : (jstep acc p).length <= acc.length + 1 := by
 rcases List.eq_nil_or_concat acc with h | ⟨a, q, h⟩
 ·subst h; simp [jstep]
 ·subst h
  rw [List.concat_eq_append, jstep_snoc]
  split <;> simp
theorem jn_take (bs : List (γ × Int)) (i : Nat) (p : γ × Int) (h : bs[i]? = some p) : jn (bs.take (i + 1)) = jstep (jn (bs.take i)) p := by
 unfold jn
 rw [List.take_add_one, h, List.foldl_append]
 rfl
theorem jn_length (bs : List (γ × Int)) : (jn bs).length <= bs.length := by
 have key : ∀ (bs acc : List (γ × Int)), (bs.foldl jstep acc).length <= acc.length + bs.length := by
  intro bs
  induction bs with
  | nil => intro acc; simp
  | cons p r ih =>
   intro acc
   have h1 := ih (jstep acc p)
   have h2 := jstep_length acc p
   show (r.foldl jstep (jstep acc p)).length <= _
   rw [List.length_cons]
   omega
 have := key bs []
 simpa [jn] using this
theorem jn_keys (bs : List (γ × Int)) : ∀ p ∈ jn bs, ∃ q ∈ bs, q.1 = p.1 := by
 have key : ∀ (bs acc : List (γ × Int)), ∀ p ∈ bs.foldl jstep acc, (∃ q ∈ acc, q.1 = p.1) \/ ∃ q ∈ bs, q.1 = p.1 := by
  intro bs
  induction bs with
  | nil => intro acc p hp; exact .inl ⟨p, hp, rfl⟩
  | cons x r ih =>
   intro acc p hp
   rcases ih (jstep acc x) p hp with ⟨q, hq, e⟩ | ⟨q, hq, e⟩
   ·rcases List.eq_nil_or_concat acc with h | ⟨a, z, h⟩
    ·subst h
     rw [jstep_nil] at hq
     have : q = x := by simpa using hq
     subst this
     exact .inr ⟨q, mcs .., e⟩
    ·subst h
     rw [List.concat_eq_append] at hq ⊢
     rw [jstep_snoc] at hq
     by_cases hz : z.1 = x.1
     ·rw [if_pos hz] at hq
      rcases List.mem_append.mp hq with hq | hq
      ·exact .inl ⟨q, mal _ hq, e⟩
      ·have : q = (x.1, z.2 + x.2) := by simpa using hq
       subst this
       exact .inr ⟨x, mcs .., e⟩
     ·rw [if_neg hz] at hq
      rcases List.mem_append.mp hq with hq | hq
      ·exact .inl ⟨q, hq, e⟩
      ·have : q = x := by simpa using hq
       subst this
       exact .inr ⟨q, mcs .., e⟩
   ·exact .inr ⟨q, mcm _ hq, e⟩
 intro p hp
 rcases key bs [] p hp with ⟨q, hq, _⟩ | h
 ·cases hq
 ·exact h
theorem jn_id {bs : List (γ × Int)} (h : bs.Pairwise (fun a b => a.1 ≠ b.1)) : jn bs = bs := by
 have key : ∀ (bs acc : List (γ × Int)), (acc ++ bs).Pairwise (fun a b => a.1 ≠ b.1) -> bs.foldl jstep acc = acc ++ bs := by
  intro bs
  induction bs with
  | nil => intro acc _; simp
  | cons x r ih =>
   intro acc hp
   have e : jstep acc x = acc ++ [x] := by
    rcases List.eq_nil_or_concat acc with h | ⟨a, z, h⟩
    ·subst h; rfl
    ·subst h
     rw [List.concat_eq_append] at hp ⊢
     rw [jstep_snoc, if_neg]
     have h2 := (List.pairwise_append.mp hp).2.2 z (by simp) x (mcs ..)
     exact h2
   show r.foldl jstep (jstep acc x) = _
   rw [e, ih]
   ·simp
   ·simpa using hp
 have := key bs [] (by simpa using h)
 simpa [jn] using this
end
def spJoined (K : PySem.W.Frag) {γ : Type} [DecidableEq γ] (enc : γ -> PyData) : Sp := fun vs H Q _ => ∃ (a : Addr) (xs : List V) (bs : List (γ × Int)), vs = [.ref a] /\ SqL K H a xs /\ Bears K H (pairE enc) xs bs /\ bs.length <= 2000000 /\ (∀ b ∈ bs, SeqAt.shaped (enc b.1) = true) /\
 ∀ (c : Addr) (ys : List V) (H' : Hp), SB [] H H' -> SqT K H' c ys -> Bears K H' (pairE enc) ys (jn bs) -> Q (.ref c) H'
theorem pair_at {K : PySem.W.Frag} {H : Hp} {γ : Type} {enc : γ -> PyData} {v : V} {p : γ × Int} (h : Dp K H v (pairE enc p)) : ∃ a u, v = .ref a /\ SqT K H a [u, .int p.2] /\ Dp K H u (enc p.1) := by
 have h' : Dp K H v (.tuple [enc p.1, .int p.2]) := h
 cases h' with
 | tup hs ha =>
  cases ha with
  | cons a1 a2 =>
   cases a2 with
   | cons b1 b2 =>
    cases b2
    cases b1
    exact ⟨_, _, rfl, hs, a1⟩
theorem pairE_noList {γ : Type} {enc : γ -> PyData} (hn : ∀ g, noList (enc g) = true) (p : γ × Int) : noList (pairE enc p) = true := by simp [pairE, noList, noLists, hn]
theorem pair_mk {K : PySem.W.Frag} {H : Hp} {γ : Type} {enc : γ -> PyData} {a : Addr} {u : V} {g : γ} {m : Int} (h : SqT K H a [u, .int m]) (h2 : Dp K H u (enc g)) : Dp K H (.ref a) (pairE enc (g, m)) := Dp.tup h (.cons h2 (.cons (.int m) .nil))
theorem Bears.snoc {K : PySem.W.Frag} {H : Hp} {β : Type} {enc : β -> PyData} {vs : List V} {bs : List β} {b : β} (h : Bears K H enc vs (bs ++ [b])) : ∃ us u, vs = us ++ [u] /\ Bears K H enc us bs /\ Dp K H u (enc b) := by
 induction bs generalizing vs with
 | nil =>
  cases h with
  | cons h1 h2 => cases h2; exact ⟨[], _, rfl, .nil, h1⟩
 | cons c r ih =>
  cases h with
  | cons h1 h2 =>
   obtain ⟨us, u, e, h3, h4⟩ := ih h2
   exact ⟨_ :: us, u, by rw [e]; rfl, .cons h1 h3, h4⟩
theorem at_last {xs : List V} {x : V} : atI (xs ++ [x]) (-1) = some x := by
 unfold atI ixN
 rw [if_neg (by decide), if_pos (by rw [List.length_append, List.length_singleton]; omega)]
 simp only [List.length_append, List.length_singleton, Option.bind_some]
 have : ((-1 : Int) + ((xs.length + 1 : Nat) : Int)).toNat = xs.length := by omega
 rw [this]
 simp
theorem ixN_last {xs : List V} {x : V} : ixN (xs ++ [x]).length (-1) = some xs.length := by
 unfold ixN
 rw [if_neg (by decide), if_pos (by rw [List.length_append, List.length_singleton]; omega), List.length_append, List.length_singleton]
 congr 1; omega
theorem set_last {xs : List V} {x y : V} : (xs ++ [x]).set xs.length y = xs ++ [y] := by simp
namespace Lad
theorem anti {a b : Lad × Int} (h1 : dataLt (pEnc a) (pEnc b) = false) (h2 : dataLt (pEnc b) (pEnc a) = false) : a = b := by
 rw [pLt] at h1 h2
 by_cases h : a.1 = b.1
 ·rw [if_pos h] at h1
  rw [if_pos h.symm] at h2
  have e1 := of_decide_eq_false h1
  have e2 := of_decide_eq_false h2
  exact Prod.ext h (by omega)
 ·rw [if_neg h] at h1
  rw [if_neg (fun z : b.1 = a.1 => h z.symm), lt_tri _ _ h h1] at h2
  cases h2
abbrev dsc (bs : List (Lad × Int)) : List (Lad × Int) := bs.mergeSort (dataLe true pEnc)
theorem dsc_perm (bs : List (Lad × Int)) : (dsc bs).Perm bs := List.mergeSort_perm _ _
theorem dsc_le (bs : List (Lad × Int)) : (dsc bs).Pairwise (fun a b => dataLt (pEnc a) (pEnc b) = false) := by
 have h := sort_pairwise (le := dataLe true pEnc) (sortLe_total _ _ _) bs
 refine h.imp fun {a b} hab => ?_
 have h2 : (!dataLt (pEnc a) (pEnc b)) = true := hab
 simpa using h2
theorem falls_one : ∀ {as bs : List (Lad × Int)}, as.Perm bs -> as.Pairwise (fun a b => dataLt (pEnc a) (pEnc b) = false) -> bs.Pairwise (fun a b => dataLt (pEnc a) (pEnc b) = false) -> as = bs
 | [], bs, h, _, _ => (List.nil_perm.mp h).symm
 | a :: as, [], h, _, _ => by have := h.length_eq; simp at this
 | a :: as, b :: bs, h, h1, h2 => by
  have hab : a = b := by
   have ha : a ∈ b :: bs := h.mem_iff.mp (mcs ..)
   have hb : b ∈ a :: as := h.mem_iff.mpr (mcs ..)
   rcases List.mem_cons.mp ha with ha | ha
   ·exact ha
   ·rcases List.mem_cons.mp hb with hb | hb
    ·exact hb.symm
    ·exact anti ((List.pairwise_cons.mp h1).1 b hb) ((List.pairwise_cons.mp h2).1 a ha)
  subst hab
  rw [falls_one (List.Perm.cons_inv h) (List.pairwise_cons.mp h1).2 (List.pairwise_cons.mp h2).2]
theorem dsc_of {cs bs : List (Lad × Int)} (hp : cs.Perm bs) (hs : cs.Pairwise (fun a b => dataLt (pEnc a) (pEnc b) = false)) : cs = dsc bs := falls_one (hp.trans (dsc_perm bs).symm) hs (dsc_le bs)
theorem dsc_swap (as bs : List (Lad × Int)) : dsc (as ++ bs) = dsc (bs ++ as) := dsc_of ((dsc_perm _).trans List.perm_append_comm) (dsc_le _)
def bth (l k : Lad) : Lad := ofPs (jn (dsc (l.ps ++ k.ps)))
theorem bth_comm (l k : Lad) : bth l k = bth k l := by unfold bth; rw [dsc_swap]
theorem ok_falls {B : Int} {l : Lad} (h : l.Ok B) : l.ps.Pairwise (fun a b => dataLt (pEnc a) (pEnc b) = false) /\ l.ps.Pairwise (fun a b => a.1 ≠ b.1) := by
 have h2 := (ok_iff.mp h).2
 constructor
 ·refine h2.imp fun {a b} hab => ?_
  rw [pLt, if_neg (fun z : a.1 = b.1 => lt_ne hab z.symm)]
  exact lt_asymm hab
 ·exact h2.imp fun {a b} hab (z : a.1 = b.1) => lt_ne hab z.symm
theorem bth_nil {B : Int} {l : Lad} (h : l.Ok B) : bth l .nil = l := by
 unfold bth
 rw [show l.ps ++ (Lad.nil).ps = l.ps by simp [ps], <- dsc_of (List.Perm.refl _) (ok_falls h).1, jn_id (ok_falls h).2, ofPs_ps]
theorem tot_jstep (acc : List (Lad × Int)) (p : Lad × Int) : tot (jstep acc p) <= tot acc + (1 + p.1.parts) := by
 rcases List.eq_nil_or_concat acc with h | ⟨a, z, h⟩
 ·subst h; simp [jstep_nil, tot]
 ·subst h
  rw [List.concat_eq_append, jstep_snoc]
  by_cases hz : z.1 = p.1
  ·rw [if_pos hz, tot_append, tot_append]; simp only [tot]; rw [hz]; omega
  ·rw [if_neg hz, tot_append, tot_append]; simp only [tot]; omega
theorem tot_jn (bs : List (Lad × Int)) : tot (jn bs) <= tot bs := by
 have key : ∀ (bs acc : List (Lad × Int)), tot (bs.foldl jstep acc) <= tot acc + tot bs := by
  intro bs
  induction bs with
  | nil => intro acc; simp [tot]
  | cons x r ih =>
   intro acc
   have h1 := ih (jstep acc x)
   have h2 := tot_jstep acc x
   show tot (r.foldl jstep (jstep acc x)) <= tot acc + (1 + x.1.parts + tot r)
   omega
 have := key bs []
 simpa [jn, tot] using this
theorem bth_parts (l k : Lad) : (bth l k).parts <= l.parts + k.parts := by
 unfold bth
 rw [parts_ofPs]
 have h1 := tot_jn (dsc (l.ps ++ k.ps))
 rw [tot_perm (dsc_perm _), tot_append] at h1
 have h2 : l.parts = tot l.ps := by rw [<- parts_ofPs, ofPs_ps]
 have h3 : k.parts = tot k.ps := by rw [<- parts_ofPs, ofPs_ps]
 omega
theorem bth_deep {n : Nat} {l k : Lad} (hl : l.deep <= n) (hk : k.deep <= n) : (bth l k).deep <= n := by
 unfold bth
 refine deep_ofPs fun b hb => ?_
 obtain ⟨q, hq, e⟩ := jn_keys _ b hb
 rw [<- e]
 rcases List.mem_append.mp ((dsc_perm _).mem_iff.mp hq) with h | h
 ·exact deep_parts_mem hl q h
 ·exact deep_parts_mem hk q h
def tms (l : Lad) (m : Int) : Lad := if m = 0 then .nil else ofPs (l.ps.map fun p => (p.1, p.2 * m))
theorem tot_map (f : Int -> Int) : ∀ bs : List (Lad × Int), tot (bs.map fun p => (p.1, f p.2)) = tot bs
 | [] => rfl
 | p :: r => by show 1 + p.1.parts + tot _ = 1 + p.1.parts + tot r; rw [tot_map f r]
theorem tms_parts (l : Lad) (m : Int) : (tms l m).parts <= l.parts := by
 unfold tms
 split
 ·exact Nat.zero_le _
 ·rw [parts_ofPs, tot_map (fun x => x * m), <- parts_ofPs, ofPs_ps]; exact Nat.le_refl _
theorem tms_deep {n : Nat} {l : Lad} (m : Int) (h : l.deep <= n) : (tms l m).deep <= n := by
 unfold tms
 split
 ·exact Nat.zero_le _
 ·refine deep_ofPs fun b hb => ?_
  obtain ⟨p, hp, rfl⟩ := List.mem_map.mp hb
  exact deep_parts_mem h p hp
end Lad
def spBoth (K : PySem.W.Frag) : Sp := fun vs H Q _ => ∃ (v u : V) (l k : Lad), vs = [v, u] /\ LA K H v l /\ LA K H u k /\ l.deep <= 30 /\ k.deep <= 30 /\ l.parts <= 800000 /\ k.parts <= 800000 /\ ∀ (x : V) (H' : Hp), SB [] H H' -> LA K H' x (l.bth k) -> Q x H'
def spManyOf (K : PySem.W.Frag) : Sp := fun vs H Q _ => ∃ (v : V) (l : Lad) (m : Int), vs = [v, .int m] /\ LA K H v l /\ l.parts <= 900000 /\ (∀ p ∈ l.ps, 0 <= p.2 /\ p.2 < 2 ^ 2000) /\ 0 <= m /\ m < 2 ^ 2000 /\ ∀ (x : V) (H' : Hp), SB [] H H' -> LA K H' x (l.tms m) -> Q x H'
def gtsD : List PyData -> List Bool
 | [] => []
 | [_] => []
 | a :: b :: r => dataLt b a :: gtsD (b :: r)
theorem ltsD_snoc : ∀ (l : List PyData) (y x : PyData), ltsD (l ++ [y] ++ [x]) = ltsD (l ++ [y]) ++ [dataLt y x]
 | [], y, x => rfl
 | [a], y, x => rfl
 | a :: b :: r, y, x => by
  have h := ltsD_snoc (b :: r) y x
  show dataLt a b :: ltsD (b :: r ++ [y] ++ [x]) = dataLt a b :: (ltsD (b :: r ++ [y]) ++ [dataLt y x])
  rw [h]
theorem ltsD_rev : ∀ ds : List PyData, ltsD ds.reverse = (gtsD ds).reverse
 | [] => rfl
 | [_] => rfl
 | a :: b :: r => by
  have h := ltsD_rev (b :: r)
  rw [List.reverse_cons, List.reverse_cons, ltsD_snoc, <- List.reverse_cons, h]
  show _ = (dataLt b a :: gtsD (b :: r)).reverse
  rw [List.reverse_cons]
theorem rising_rev (ds : List PyData) : risingD ds.reverse = (gtsD ds).all id := by
 unfold risingD
 rw [ltsD_rev]
 simp
theorem ladD_ok : ∀ {B : Int} {l : Lad}, l.Ok B -> ladD l.enc = true := by
 intro B l
 induction l with
 | nil => intro _; decide +kernel
 | cons e m r ihe ihr =>
  intro h
  obtain ⟨h1, h2, h3, h4, h5⟩ := h
  have a1 := ihe h1
  have a2 := ihr h4
  rw [Lad.enc, ladD, Bool.and_eq_true] at a2
  have hp : ladP (.tuple [.tuple e.encs, .int m]) = true := by
   have a1' : ladD (.tuple e.encs) = true := a1
   simp [ladP, ladP2, ladP3, manyD, a1', h2]
  rw [Lad.enc, ladD, Lad.encs, ladPs, hp, a2.1, Bool.true_and, Bool.true_and]
  rw [rising_rev]
  have a3 := a2.2
  rw [rising_rev] at a3
  cases r with
  | nil => rfl
  | cons e2 m2 r2 =>
   have hlt : e2.lt e = true := h5 (e2, m2) (mcs ..)
   show (dataLt (.tuple e2.encs) (.tuple e.encs) :: gtsD _).all id = true
   rw [List.all_cons]
   have hlt' : dataLt (.tuple e2.encs) (.tuple e.encs) = true := hlt
   rw [show id (dataLt (PyData.tuple e2.encs) (PyData.tuple e.encs)) = true from hlt', Bool.true_and]
   exact a3
namespace Lad
theorem sumAt_nil (x : Lad) : sumAt [] x = 0 := rfl
theorem sumAt_cons (e : Lad) (m : Int) (r : List (Lad × Int)) (x : Lad) : sumAt ((e, m) :: r) x = (if e = x then m else 0) + sumAt r x := by
 unfold sumAt
 rw [List.filter_cons]
 by_cases h : e = x
 ·simp [h]
 ·simp [h]
theorem sumAt_append (as bs : List (Lad × Int)) (x : Lad) : sumAt (as ++ bs) x = sumAt as x + sumAt bs x := by
 unfold sumAt
 rw [List.filter_append, List.map_append, List.sum_append]
theorem sumAt_zero {bs : List (Lad × Int)} {x : Lad} (h : ∀ p ∈ bs, p.1 ≠ x) : sumAt bs x = 0 := by
 unfold sumAt
 have : bs.filter (fun p => decide (p.1 = x)) = [] := by
  rw [List.filter_eq_nil_iff]
  intro p hp
  simpa using h p hp
 rw [this]; rfl
theorem sumAt_perm {as bs : List (Lad × Int)} (h : as.Perm bs) (x : Lad) : sumAt as x = sumAt bs x := by
 induction h with
 | nil => rfl
 | cons p _ ih => obtain ⟨e, m⟩ := p; rw [sumAt_cons, sumAt_cons, ih]
 | swap p q l => obtain ⟨e, m⟩ := p; obtain ⟨e', m'⟩ := q; rw [sumAt_cons, sumAt_cons, sumAt_cons, sumAt_cons]; omega
 | trans _ _ h1 h2 => omega
theorem sumAt_jstep (acc : List (Lad × Int)) (p : Lad × Int) (x : Lad) : sumAt (jstep acc p) x = sumAt acc x + (if p.1 = x then p.2 else 0) := by
 obtain ⟨e, m⟩ := p
 rcases List.eq_nil_or_concat acc with h | ⟨a, z, h⟩
 ·subst h; rw [jstep_nil, sumAt_cons, sumAt_nil]; show (if e = x then m else 0) + 0 = 0 + (if e = x then m else 0); omega
 ·subst h
  obtain ⟨e', m'⟩ := z
  rw [List.concat_eq_append, jstep_snoc]
  by_cases hz : e' = e
  ·rw [if_pos hz, sumAt_append, sumAt_append, sumAt_cons, sumAt_cons, sumAt_nil]
   subst hz
   by_cases hx : e' = x
   ·simp only [if_pos hx]; omega
   ·simp only [if_neg hx]; omega
  ·rw [if_neg hz, sumAt_append, sumAt_append, sumAt_cons, sumAt_cons, sumAt_nil]; show _ = _ + (if e = x then m else 0); omega
theorem sumAt_jn (bs : List (Lad × Int)) (x : Lad) : sumAt (jn bs) x = sumAt bs x := by
 have key : ∀ (bs acc : List (Lad × Int)), sumAt (bs.foldl jstep acc) x = sumAt acc x + sumAt bs x := by
  intro bs
  induction bs with
  | nil => intro acc; show sumAt acc x = _; rw [sumAt_nil]; omega
  | cons p r ih =>
   intro acc
   obtain ⟨e, m⟩ := p
   show sumAt (r.foldl jstep (jstep acc (e, m))) x = _
   rw [ih, sumAt_jstep, sumAt_cons]
   show _ + (if e = x then m else 0) + _ = _
   omega
 have := key bs []
 rw [sumAt_nil] at this
 unfold jn
 omega
abbrev S (l : Lad) (x : Lad) : Int := sumAt l.ps x
section
variable {B C : Int}
theorem S_top {e : Lad} {m : Int} {r : Lad} (h : (Lad.cons e m r).Ok B) : S (.cons e m r) e = m := by
 show sumAt ((e, m) :: r.ps) e = m
 rw [sumAt_cons, if_pos rfl, sumAt_zero fun p hp => lt_ne (h.2.2.2.2 p hp)]
 omega
theorem S_mem {l : Lad} (h : l.Ok B) {p : Lad × Int} (hp : p ∈ l.ps) : S l p.1 = p.2 := by
 induction l with
 | nil => cases hp
 | cons e m r _ ih =>
  rcases List.mem_cons.mp hp with hp | hp
  ·subst hp; exact S_top h
  ·show sumAt ((e, m) :: r.ps) p.1 = p.2
   rw [sumAt_cons, if_neg (fun z => lt_ne (h.2.2.2.2 p hp) z.symm)]
   have := ih h.2.2.2.1 hp
   show 0 + S r p.1 = _
   omega
theorem S_none {l x : Lad} (h : ∀ p ∈ l.ps, p.1 ≠ x) : S l x = 0 := sumAt_zero h
theorem S_cases {l : Lad} (h : l.Ok B) (x : Lad) : (S l x = 0 /\ ∀ p ∈ l.ps, p.1 ≠ x) \/ (∃ m, (x, m) ∈ l.ps /\ S l x = m /\ 1 <= m /\ m < B) := by
 by_cases hx : ∃ p ∈ l.ps, p.1 = x
 ·obtain ⟨p, hp, rfl⟩ := hx
  have := (ok_iff.mp h).1 p hp
  exact .inr ⟨p.2, hp, S_mem h hp, this.2⟩
 ·have hx' : ∀ p ∈ l.ps, p.1 ≠ x := fun p hp z => hx ⟨p, hp, z⟩
  exact .inl ⟨S_none hx', hx'⟩
theorem S_nonneg {l : Lad} (h : l.Ok B) (x : Lad) : 0 <= S l x := by
 rcases S_cases h x with h1 | ⟨m, _, h1, h2, _⟩ <;> omega
theorem jn_desc {bs : List (Lad × Int)} (h : bs.Pairwise (fun a b => a.1.lt b.1 = false)) : (jn bs).Pairwise (fun p q => q.1.lt p.1 = true) := by
 have key : ∀ (bs acc : List (Lad × Int)), acc.Pairwise (fun p q => q.1.lt p.1 = true) -> (∀ a ∈ acc, ∀ b ∈ bs, a.1.lt b.1 = false) -> bs.Pairwise (fun a b => a.1.lt b.1 = false) -> (bs.foldl jstep acc).Pairwise (fun p q => q.1.lt p.1 = true) := by
  intro bs
  induction bs with
  | nil => intro acc h _ _; exact h
  | cons p r ih =>
   intro acc h1 h2 h3
   obtain ⟨h31, h32⟩ := List.pairwise_cons.mp h3
   refine ih (jstep acc p) ?_ ?_ h32
   ·rcases List.eq_nil_or_concat acc with h | ⟨a, z, h⟩
    ·subst h; rw [jstep_nil]; exact List.pairwise_singleton _ _
    ·subst h
     rw [List.concat_eq_append] at h1 h2 ⊢
     rw [jstep_snoc]
     obtain ⟨a1, _, a3⟩ := List.pairwise_append.mp h1
     by_cases hz : z.1 = p.1
     ·rw [if_pos hz, List.pairwise_append]
      refine ⟨a1, List.pairwise_singleton _ _, fun x hx y hy => ?_⟩
      have hy' : y = (p.1, z.2 + p.2) := by simpa using hy
      subst hy'
      show p.1.lt x.1 = true
      rw [<- hz]; exact a3 x hx z (by simp)
     ·rw [if_neg hz, List.pairwise_append]
      refine ⟨h1, List.pairwise_singleton _ _, fun x hx y hy => ?_⟩
      have hy' : y = p := by simpa using hy
      subst hy'
      have hzp : y.1.lt z.1 = true := lt_tri _ _ hz (h2 z (by simp) y (mcs ..))
      rcases List.mem_append.mp hx with hx | hx
      ·exact lt_trans _ _ _ hzp (a3 x hx z (by simp))
      ·have hx' : x = z := by simpa using hx
       subst hx'; exact hzp
   ·intro a ha b hb
    have hpb := h31 b hb
    rcases List.eq_nil_or_concat acc with h | ⟨c, z, h⟩
    ·subst h
     rw [jstep_nil] at ha
     have : a = p := by simpa using ha
     subst this; exact hpb
    ·subst h
     rw [List.concat_eq_append] at ha h2
     rw [jstep_snoc] at ha
     by_cases hz : z.1 = p.1
     ·rw [if_pos hz] at ha
      rcases List.mem_append.mp ha with ha | ha
      ·exact h2 a (mal _ ha) b (mcm _ hb)
      ·have : a = (p.1, z.2 + p.2) := by simpa using ha
       subst this; exact hpb
     ·rw [if_neg hz] at ha
      rcases List.mem_append.mp ha with ha | ha
      ·exact h2 a ha b (mcm _ hb)
      ·have : a = p := by simpa using ha
       subst this; exact hpb
 exact key bs [] List.Pairwise.nil (by simp) h
theorem dsc_keys (bs : List (Lad × Int)) : (dsc bs).Pairwise (fun a b => a.1.lt b.1 = false) := by
 refine (dsc_le bs).imp fun {a b} hab => ?_
 rw [pLt] at hab
 by_cases h : a.1 = b.1
 ·rw [h]; exact lt_irrefl _
 ·rw [if_neg h] at hab; exact hab
theorem bth_ok {l k : Lad} (hl : l.Ok B) (hk : k.Ok C) (hB : 1 <= B) (hC : 1 <= C) : (bth l k).Ok (B + C) := by
 have hd : (jn (dsc (l.ps ++ k.ps))).Pairwise (fun p q => q.1.lt p.1 = true) := jn_desc (dsc_keys _)
 show (ofPs (jn (dsc (l.ps ++ k.ps)))).Ok (B + C)
 rw [ok_ps]
 refine ⟨fun p hp => ?_, hd⟩
 have hs : sumAt (jn (dsc (l.ps ++ k.ps))) p.1 = p.2 := by
  have hnd : ∀ (bs : List (Lad × Int)), bs.Pairwise (fun p q => q.1.lt p.1 = true) -> ∀ p ∈ bs, sumAt bs p.1 = p.2 := by
   intro bs
   induction bs with
   | nil => intro _ p hp; cases hp
   | cons q r ih =>
    intro hpw p hp
    obtain ⟨e, m⟩ := q
    obtain ⟨h1, h2⟩ := List.pairwise_cons.mp hpw
    rw [sumAt_cons]
    rcases List.mem_cons.mp hp with hp | hp
    ·subst hp
     rw [if_pos rfl, sumAt_zero fun q hq => lt_ne (h1 q hq)]
     omega
    ·rw [if_neg (fun z => lt_ne (h1 p hp) z.symm), ih h2 p hp]
     omega
  exact hnd _ hd p hp
 have hs2 : p.2 = S l p.1 + S k p.1 := by
  rw [<- hs, sumAt_jn, sumAt_perm (dsc_perm _), sumAt_append]
 obtain ⟨q, hq, eq⟩ := jn_keys _ p hp
 have hq' := (dsc_perm _).mem_iff.mp hq
 have n1 := S_nonneg hl p.1
 have n2 := S_nonneg hk p.1
 have hlt : S l p.1 < B := by rcases S_cases hl p.1 with h1 | ⟨m, _, h1, h2, h3⟩ <;> omega
 have hkt : S k p.1 < C := by rcases S_cases hk p.1 with h1 | ⟨m, _, h1, h2, h3⟩ <;> omega
 have grow : ∀ (e : Lad), e.Ok B -> e.Ok (B + C) := fun e h => h.mono (by omega)
 have grow2 : ∀ (e : Lad), e.Ok C -> e.Ok (B + C) := fun e h => h.mono (by omega)
 rcases List.mem_append.mp hq' with hq2 | hq2
 ·have o := (ok_iff.mp hl).1 q hq2
  have sm := S_mem hl hq2
  rw [eq] at sm o
  exact ⟨grow _ o.1, by omega, by omega⟩
 ·have o := (ok_iff.mp hk).1 q hq2
  have sm := S_mem hk hq2
  rw [eq] at sm o
  exact ⟨grow2 _ o.1, by omega, by omega⟩
theorem bhd_ok {l k : Lad} (hl : l.Ok B) (hk : k.Ok C) (hB : 1 <= B) (hC : 1 <= C) : (bhd l k).Ok (B + C) := by
 cases k with
 | nil => rw [bhd_nil]; exact hl.mono (by omega)
 | cons e m r =>
  rw [bhd_cons, ok_ps]
  obtain ⟨h1, h2, h3, h4, h5⟩ := hk
  obtain ⟨a1, a2⟩ := ok_iff.mp hl
  obtain ⟨b1, b2⟩ := ok_iff.mp h4
  have n1 := S_nonneg hl e
  have hlt : S l e < B := by rcases S_cases hl e with g1 | ⟨m, _, g1, g2, g3⟩ <;> omega
  constructor
  ·intro p hp
   rcases List.mem_append.mp hp with hp | hp
   ·have := a1 p (List.mem_filter.mp hp).1
    exact ⟨this.1.mono (by omega), this.2.1, by omega⟩
   ·rcases List.mem_cons.mp hp with hp | hp
    ·subst hp
     exact ⟨h1.mono (by omega), by show 1 <= S l e + m; omega, by show S l e + m < B + C; omega⟩
    ·have := b1 p hp
     exact ⟨this.1.mono (by omega), this.2.1, by omega⟩
  ·rw [List.pairwise_append, List.pairwise_cons]
   refine ⟨a2.sublist List.filter_sublist, ⟨h5, b2⟩, fun a ha b hb => ?_⟩
   have ha' := (List.mem_filter.mp ha).2
   rcases List.mem_cons.mp hb with hb | hb
   ·subst hb; exact ha'
   ·exact lt_trans _ _ _ (h5 b hb) ha'
theorem tms_ok {l : Lad} {m : Int} (hl : l.Ok B) (hm : 0 <= m) : (tms l m).Ok (B * m + B) := by
 unfold tms
 by_cases h : m = 0
 ·rw [if_pos h]; trivial
 ·rw [if_neg h, ok_ps]
  obtain ⟨a1, a2⟩ := ok_iff.mp hl
  constructor
  ·intro p hp
   obtain ⟨q, hq, rfl⟩ := List.mem_map.mp hp
   obtain ⟨g1, g2, g3⟩ := a1 q hq
   have hB : 0 <= B := by omega
   have b1 : q.2 * m <= B * m := Int.mul_le_mul_of_nonneg_right (by omega) hm
   have b2 : 1 * 1 <= q.2 * m := Int.mul_le_mul g2 (by omega) (by omega) (by omega)
   have b3 : 0 <= B * m := Int.mul_nonneg hB hm
   exact ⟨g1.mono (by omega), by show 1 <= q.2 * m; omega, by show q.2 * m < B * m + B; omega⟩
  ·rw [List.pairwise_map]
   exact a2
end
end Lad
structure Own (K : PySem.W.Frag) (mg : Str -> Option Value) (x : Str) (C : Addr) : Prop where
 gC : mg x = some (.ref C)
 q : PySem.W.excIn K C He.veBase "ValueError.__new__" = true
 k : PySem.W.keepIn K (.ref C) = true
 s : PySem.W.subIn K (.ref C) (.type "BaseException") = some true
 t : PySem.W.typeIn K (.ref C) = some (.type "type")
structure GotX (P : Program) (w : World) (K : PySem.W.Frag) (mg : Str -> Option Value) (base : Heap) (x : Str) (ps : List Str) (k : Nat) (sp : Sp) : Prop where
 ex : ∃ (f : Addr) (fd : FuncData), FnOk P w K mg base (L2.CX P w) k f fd ps sp /\ PySem.W.keepIn K (.ref f) = true /\ Binds K fd ps [] /\ mg x = some (.ref f)
section
variable {X : Cx} {x : Str} {ps : List Str} {k : Nat} {sp : Sp} {e : Expr} {es : List Expr} {t : TA} {p pos : Pos}
theorem pe_gotX (G : GotX X.prog X.w X.K X.mg X.base x ps k sp) (hr : Room k X.A) (hg : Gl X x) (ha : PA X (e :: es) t) (hdb : (x == ("__debug__" : Str)) = false := by decide) (he : starEach (e :: es) X.env = (false, eval e X.env) :: starEach es X.env := by rfl) (hpl : (backTo pos (starEach es X.env)).any (·.1) = false := by rfl) :
  PE X (.Call (.Name x p) (e :: es) [] pos) (tCall sp [] E0 t) := by
 obtain ⟨f, fd, h1, h2, h3, h4⟩ := G.ex
 exact pe_call h1 hr hg h4 h2 h3 .nil passL ha hdb he hpl
theorem pe_gotS {W : WX} (G : GotX X.prog X.w X.K X.mg X.base x ps k sp) (hr : Room k X.A) (hg : Gl X x) (tk : Takes X W) (ha : PA X (e :: es) t) (hdb : (x == ("__debug__" : Str)) = false := by decide) (he : starEach (e :: es) X.env = (false, eval e X.env) :: starEach es X.env := by rfl) (hpl : (backTo pos (starEach es X.env)).any (·.1) = false := by rfl) :
  PE X (.Call (.Name x p) (e :: es) [] pos) (tCallS sp (WE W) t) := by
 obtain ⟨f, fd, h1, h2, h3, h4⟩ := G.ex
 exact pe_callS h1 hr hg h4 h2 h3 (fun σ => passAt tk σ) ha hdb he hpl
end
abbrev AlE : Type := He.AlD × Bool
def excCB (K : PySem.W.Frag) (D : Addr) : Bool :=
 He.eqO (PySem.W.findIn K (.ref D) "__getattribute__") (some (some (.builtin "BaseException.__getattribute__"))) && (He.eqO (PySem.W.findIn K (.ref D) "__getattr__") (some none) && (decide (PySem.W.subIn K (.ref D) (.type "BaseException") = some true) && (PySem.W.hasDictIn K D && (He.eqO (PySem.W.findIn K (.ref D) "__class__") (some (some (.builtin "object.__class__"))) &&
 (He.eqO (PySem.W.specialIn K (.builtin "object.__class__") "__get__") (some (some (.builtin "getset_descriptor.__get__"))) && (decide (PySem.W.takesIn K (.builtin "object.__class__") = some true) && decide (PySem.W.mroIn K D (.type "object") = some true)))))))
theorem excCB_ok {K : PySem.W.Frag} {D : Addr} (h : excCB K D = true) : ExcC K D := by
 obtain ⟨h1, h⟩ := He.ba h
 obtain ⟨h2, h⟩ := He.ba h
 obtain ⟨h3, h⟩ := He.ba h
 obtain ⟨h4, h⟩ := He.ba h
 obtain ⟨h5, h⟩ := He.ba h
 obtain ⟨h6, h⟩ := He.ba h
 obtain ⟨h7, h8⟩ := He.ba h
 exact ⟨He.eqO_ok h1, He.eqO_ok h2, of_decide_eq_true h3, h4, He.eqO_ok h5, He.eqO_ok h6, of_decide_eq_true h7, of_decide_eq_true h8⟩
section
variable {J : It} {n : Nat} {G : Hp -> Prop} {Y : Nat -> Hp -> V -> Hp -> Prop}
theorem lcG (w : Walk J n G Y) {H0 : Hp} {Qd : Hp -> Prop} {body : (Hp -> Prop) -> V -> Hp -> Prop} (Pv : Nat -> Hp -> Prop) (h0 : Pv 0 H0) (hG : ∀ i H, i <= n -> Pv i H -> G H)
  (hs : ∀ i x H H', i < n -> Pv i H -> Y i H x H' -> body (Pv (i + 1)) x H') (hd : ∀ H, Pv n H -> Qd H) :
  ∃ W : Nat -> Nat -> Hp -> Prop, (∃ m, W 0 m H0) /\ ∀ i m H, W i m H ->
   (J.stop i H /\ Qd H) \/ (J.go i H /\ ∃ Nx : Hp -> Prop, (∀ H', Nx H' -> ∃ m', m' < m /\ W (i + 1) m' H') /\ ∀ x H', J.yld i H x H' -> body Nx x H') := by
 refine ⟨fun i m H => m = n - i /\ i <= n /\ Pv i H, ⟨n, by simp, Nat.zero_le _, h0⟩, ?_⟩
 rintro i m H ⟨rfl, hi, p⟩
 have q := hG i H hi p
 by_cases hlt : i < n
 ·exact .inr ⟨w.goes i H hlt q, Pv (i + 1), fun H' p' => ⟨n - (i + 1), by omega, rfl, hlt, p'⟩, fun x H' y => hs i x H H' hlt p (w.yields i H x H' hlt q y)⟩
 ·have e : i = n := by omega
  subst e
  exact .inl ⟨w.stops H q, hd H p⟩
end
section
variable {prog : Program} {w : World} {A : Around} {E : Value -> Shared -> Prop} {s : Shared} {β : Type} {vs : List Value} {bs : List β} {enc : β -> PyData} {R : Value -> β -> Prop}
theorem sorted_lstK {t : Addr} {kw : List (Str × Value)} {b : Bool} {Q : Value -> Shared -> Prop} (hkw : ∀ a, Builtin.«list.sort» ⟨[.ref a], kw⟩ = Builtin.«list.sort» ⟨[.ref a], [(Str.ofString "reverse", .bool b)]⟩) (ha1 : argsOk "sorted" ⟨[.ref t], kw⟩) (ha2 : ∀ x, argsOk "list.sort" ⟨[.ref x], kw⟩)
  (ht : PlainL s.heap t vs.toArray) (e : EachIs R vs bs) (er : EachIs (fun v b => ∃ as, Reads s.heap v (enc b) as) vs bs) (hal : AllAlike (bs.map enc)) (hk : Sortable (bs.map enc)) (hL : bs.length <= sizeLine)
  (hu : ∀ b, b ∈ bs -> A.units + 2 + (enc b).depth < cLine)
  (h : ∀ (out : List Value) (h' h2 : Heap) (n : Nat), (∀ b o, s.heap.get? b = some o -> h'.get? b = some o) -> (∀ b o, h'.get? b = some o -> h2.get? b = some o) -> h2.get? h'.objs.size = some (seqObj "list" out.toArray n) -> out.length = bs.length -> EachIs R out (bs.mergeSort (dataLe b enc)) -> Q (.ref h'.objs.size) { s with heap := h2 }) :
  wpAny (model prog w) A (call (.builtin "sorted") [.ref t] kw) Q E s := by
 have hlen : vs.length <= sizeLine := by rw [e.length]; exact hL
 obtain ⟨o, n0, ho, hc, _, hd⟩ := id ht
 refine call_function_entry_kw kind_sorted plain_sorted entry_sorted ha1 ?_
 unfold Builtin.«sorted»
 refine wpAny_bind (m := checkCount "sorted" 1 1 _) (wpAny_pure ?_)
 refine wpAny_bind (wpAny_collect_seq t (.inl rfl) ho hc hd (fun h' hk' => ?_) (by rw [List.size_toArray]; exact hlen))
 refine wpAny_bind (wpAny_newList ?_ hlen)
 show wpAny _ _ _ _ _ { s with heap := h'.push (seqObj "list" vs.toArray 0) }
 have hat : (h'.push (seqObj "list" vs.toArray 0)).get? h'.objs.size = some (seqObj "list" vs.toArray 0) := Heap.get?_push_size _ rfl
 refine wpAny_bind (wpAny_holding (wpAny_call_entry_kw slot_list_sort ⟨_, hat, rfl⟩ entry_list_sort ?body (ha2 _)))
 case body =>
  rw [hkw]
  have old : ∀ b o, h'.get? b = some o -> (sortingHeap (h'.push (seqObj "list" vs.toArray 0)) h'.objs.size vs).get? b = some o := fun b o q => sortingHeap_old (Nat.ne_of_lt (Heap.lt_size q)) (Heap.get?_push_of_some _ q)
  have er' : EachIs (fun v b => ∃ as, Reads (sortingHeap (h'.push (seqObj "list" vs.toArray 0)) h'.objs.size vs) v (enc b) as) vs bs := er.mono fun _ _ ⟨as, r⟩ => ⟨as, PyProof.Rows.Reads.keeps (fun b o q => old b o (hk' b o q)) r⟩
  refine list_sort_rev_vals (s := { s with heap := h'.push (seqObj "list" vs.toArray 0) }) (κ := dataKind (sortingHeap (h'.push (seqObj "list" vs.toArray 0)) h'.objs.size vs) (bs.map enc)) hat (SortsAt.data (s := { s with heap := sortingHeap (h'.push (seqObj "list" vs.toArray 0)) h'.objs.size vs }) (each_map (R := fun v d => ∃ as, Reads (sortingHeap (h'.push (seqObj "list" vs.toArray 0)) h'.objs.size vs) v d as) enc er') hal hk (bound_map hu)) hlen ?_
  refine ⟨_, rfl, wpAny_pure ⟨_, rfl, ?_⟩⟩
  obtain ⟨n2, hn2⟩ := sortedHeap_at (out := (sortVals (dataKind (sortingHeap (h'.push (seqObj "list" vs.toArray 0)) h'.objs.size vs) (bs.map enc)) b vs vs).toArray) hat
  refine h _ h' _ n2 hk' (fun b o q => ?_) hn2 (by rw [sortVals_length b rfl]; exact e.length) (sortVals_data b e er' hal)
  rw [sortedHeap_old (Nat.ne_of_lt (Heap.lt_size q)) (by rw [size_push']; exact Nat.lt_succ_of_lt (Heap.lt_size q))]
  exact Heap.get?_push_of_some _ q
end
def rSortedL (K : PySem.W.Frag) {β : Type} (enc : β -> PyData) (b : Bool) (vs : List V) (H : Hp) (Q : VK) : Prop := ∃ (a : Addr) (xs : List V) (bs : List β), vs = [V.ref a] /\ SqL K H a xs /\ Bears K H enc xs bs /\ AllAlike (bs.map enc) /\ Sortable (bs.map enc) /\ bs.length <= 10000000 /\ (∀ b ∈ bs, (enc b).depth <= 100) /\
 ∀ (p : Addr) (ys : List V), H p = none -> Bears K H enc ys (bs.mergeSort (dataLe b enc)) -> Q (.ref p) (upd H p (.lst ys))
section
variable {X : Cx}
theorem sortedL_run {β : Type} {enc : β -> PyData} {b : Bool} {kw : List (Str × Value)} (hu : X.A.units + 110 < cLine) (hkw : ∀ a, Builtin.«list.sort» ⟨[.ref a], kw⟩ = Builtin.«list.sort» ⟨[.ref a], [(Str.ofString "reverse", .bool b)]⟩) (ha1 : ∀ t, argsOk "sorted" ⟨[.ref t], kw⟩) (ha2 : ∀ x, argsOk "list.sort" ⟨[.ref x], kw⟩)
  {pins : List (Addr × Obj)} {s : Shared} {σ : L2.St} {H : Hp} {vs : List V} {us : List Value} {Q : VK} (I : Inv X pins σ H s) (r : Vals vs us) (h : rSortedL X.K enc b vs H Q) : wpAny (model X.prog X.w) X.A (call (.builtin "sorted") us kw) (EP X pins σ Q) X.xe s := by
 obtain ⟨a, xs, bs, rfl, hs, hb, hal, hsr, hl, hd, q⟩ := h
 obtain ⟨its, rv, hli, _⟩ := I.list hs
 rw [Vals.ref1 r]
 obtain ⟨e1, e2⟩ := each_of I hb rv
 refine sorted_lstK (vs := its) (bs := bs) (enc := enc) (R := fun u b => ∃ v, RelV v u /\ Dp X.K H v (enc b)) hkw (ha1 _) ha2 hli e1 e2 hal hsr (by rw [sizeLine_eq]; omega) (fun b m => by have := hd b m; omega) fun out h' h2 n k1 k2 hat ho h1 => ?_
 obtain ⟨ys, g2, g3⟩ := of_each h1
 have I' : Inv X pins σ H { s with heap := h' } := I.kept (t' := s.toks) k1
 have hlen : ys.length <= sizeLine := by rw [g2.length, ho, sizeLine_eq]; omega
 exact ⟨.ref _, upd H h'.objs.size (.lst ys), I'.laid (t' := s.toks) (fun b o e => k2 b o e) (Nat.le_refl _) ⟨hlen, out, n, g2, hat⟩, rfl, q _ ys (I'.hok.fresh (Nat.le_refl _)) g3⟩
theorem cr_sortedL {β : Type} (enc : β -> PyData) (hu : X.A.units + 110 < cLine) : CallR X (.builtin "sorted") (rSortedL X.K enc false) := by
 intro pins s σ H vs us Q I r h
 exact sortedL_run (kw := []) hu plain_is_rev (fun _ => args_sorted1 _) (fun _ => args_list_sort _) I r h
theorem cr_sortedLR {β : Type} (enc : β -> PyData) {b : Bool} (hu : X.A.units + 110 < cLine) : CallRK X (.builtin "sorted") [Str.ofString "reverse"] (fun vs zs H Q => zs = [.bl b] /\ rSortedL X.K enc b vs H Q) := by
 intro pins s σ H vs zs us ws Q I r rz h
 obtain ⟨rfl, h⟩ := h
 obtain ⟨w1, rfl, e1⟩ := vals1 rz
 obtain rfl : w1 = Value.bool b := e1
 exact sortedL_run hu (fun _ => rfl) (fun _ => args_sorted_rev _ _) (fun _ => args_list_sort_rev _ _) I r h
end
namespace Lad
def bths (ls : List Lad) : Lad := ofPs (jn (dsc (ls.flatMap ps)))
theorem bths_two (l k : Lad) : bths [l, k] = bth l k := by simp [bths, bth, List.flatMap]
end Lad
def spPower (K : PySem.W.Frag) : Sp := fun vs H Q _ => ∃ (v : V) (l : Lad), vs = [v] /\ LA K H v l /\ ∀ (x : V) (H' : Hp), SB [] H H' -> LA K H' x (.cons l 1 .nil) -> Q x H'
def spAllT (K : PySem.W.Frag) : Sp := fun vs H Q _ => ∃ (a : Addr) (xs : List V) (ls : List Lad), vs = [.ref a] /\ SqL K H a xs /\ Bears K H Lad.enc xs ls /\ (∀ l ∈ ls, l.deep <= 30) /\ (ls.flatMap Lad.ps).length <= 1900000 /\ ∀ (x : V) (H' : Hp), SB [] H H' -> LA K H' x (Lad.bths ls) -> Q x H'
namespace Lad
section
variable {B C D : Int}
abbrev uno : Lad := .cons .nil 1 .nil
theorem num_one : Lad.num 1 = uno := if_neg (by decide)
theorem uno_ok : uno.Ok 2 := ⟨trivial, by decide, by decide, trivial, by simp [ps]⟩
theorem filter_ok {l : Lad} (h : l.Ok B) (g : Lad × Int -> Bool) : (ofPs (l.ps.filter g)).Ok B := by
 have := ok_iff.mp h
 rw [ok_ps]
 exact ⟨fun p hp => this.1 p (List.mem_filter.mp hp).1, this.2.filter _⟩
theorem filter_parts (l : Lad) (g : Lad × Int -> Bool) : (ofPs (l.ps.filter g)).parts <= l.parts := by
 have h := tot_filter g l.ps
 rw [parts_ofPs]
 have h2 : tot l.ps = l.parts := by rw [<- parts_ofPs, ofPs_ps]
 omega
theorem filter_deep {n : Nat} {l : Lad} (g : Lad × Int -> Bool) (h : l.deep <= n) : (ofPs (l.ps.filter g)).deep <= n :=
 deep_ofPs fun b hb => Nat.lt_of_lt_of_le (mem_deep l b (List.mem_filter.mp hb).1) h
def abv (l : Lad) : Lad -> Lad
 | .nil => bth l uno
 | .cons e _ _ => bth (ofPs (l.ps.filter fun p => e.lt p.1)) (.cons (bhd e uno) 1 .nil)
theorem pow_ok {e : Lad} (h : e.Ok B) (hB : 2 <= B) : (Lad.cons e 1 .nil).Ok B := ⟨h, by decide, by omega, trivial, by simp [ps]⟩
theorem abv_ok {l k : Lad} (hl : l.Ok B) (hk : k.Ok C) (hB : 1 <= B) (hC : 1 <= C) : (abv l k).Ok (B + (C + 2)) := by
 cases k with
 | nil => exact (bth_ok hl uno_ok hB (by decide)).mono (by omega)
 | cons e m r => exact bth_ok (filter_ok hl _) (pow_ok (bhd_ok hk.1 uno_ok hC (by decide)) (by omega)) hB (by omega)
theorem abv_parts (l k : Lad) : (abv l k).parts <= l.parts + k.parts + 2 := by
 cases k with
 | nil => have := bth_parts l uno; show (bth l uno).parts <= _; have h1 : uno.parts = 1 := rfl; omega
 | cons e m r =>
  have h1 := bth_parts (ofPs (l.ps.filter fun p => e.lt p.1)) (.cons (bhd e uno) 1 .nil)
  have h2 := filter_parts l fun p => e.lt p.1
  have h3 := bhd_parts e uno
  have h4 : (Lad.cons (bhd e uno) 1 .nil).parts = 1 + (bhd e uno).parts + 0 := rfl
  have h5 : (Lad.cons e m r).parts = 1 + e.parts + r.parts := rfl
  have h6 : uno.parts = 1 := rfl
  show (bth _ _).parts <= _
  omega
theorem abv_deep {n : Nat} {l k : Lad} (hl : l.deep <= n) (hk : k.deep <= n) (hn : 2 <= n) : (abv l k).deep <= n := by
 cases k with
 | nil => exact bth_deep hl (by show 1 <= n; omega)
 | cons e m r =>
  refine bth_deep (filter_deep _ hl) ?_
  have h1 : 1 + e.deep <= n := Nat.le_trans (Nat.le_max_left _ _) hk
  have h2 := bhd_deep (n := n - 1) (l := e) (k := uno) (by omega) (by show 1 <= n - 1; omega)
  show max (1 + (bhd e uno).deep) 0 <= n
  omega
def spd : Lad -> Lad -> Lad
 | .cons e m r, .nil => .cons e m r
 | .nil, .nil => .nil
 | .nil, k => k
 | .cons e _ _, k => .cons (bhd e k) 1 .nil
end
end Lad
def spSpread (K : PySem.W.Frag) : Sp := fun vs H Q _ => ∃ (v u : V) (e : Lad) (m : Int) (r k : Lad), vs = [v, u] /\ LA K H v (.cons e m r) /\ LA K H u k /\ (Lad.cons e m r).deep <= 30 /\ k.deep <= 30 /\ (Lad.cons e m r).parts <= 900000 /\ k.parts <= 900000 /\ ∀ (x : V) (H' : Hp), SB [] H H' -> LA K H' x (Lad.spd (.cons e m r) k) -> Q x H'
def spAbove (K : PySem.W.Frag) : Sp := fun vs H Q _ => ∃ (v u : V) (l k : Lad), vs = [v, u] /\ LA K H v l /\ LA K H u k /\ l.deep <= 29 /\ k.deep <= 29 /\ l.parts <= 390000 /\ k.parts <= 390000 /\ ∀ (x : V) (H' : Hp), SB [] H H' -> LA K H' x (l.abv k) -> Q x H'
theorem dl_irrefl (x : PyData) : dataLt x x = false := lex_irrefl (O := itemOrd) _
theorem dl_trans {x y z : PyData} (h : dataLt x y = true) (h2 : dataLt y z = true) : dataLt x z = true := lex_trans (O := itemOrd) _ _ _ h h2
theorem dl_total {x y : PyData} (al : alike x y = true) (h : dataLt x y = false) (h2 : dataLt y x = false) : PyData.eqv x y = true := by
 have e : keyToks x = keyToks y := lex_total (O := itemOrd) _ _ h h2
 cases hq : PyData.eqv x y with
 | true => rfl
 | false =>
  have t := (toks_eqv x y al).2 hq [.inl 0] [.inl 1]
  rw [e] at t
  have t2 : PyProof.Rows.lexLt itemOrd (keyToks y ++ [.inl 0]) (keyToks y ++ [.inl 1]) = PyProof.Rows.lexLt itemOrd [.inl 0] [.inl 1] := lex_pre _ _ _
  have t3 : PyProof.Rows.lexLt itemOrd (keyToks y) (keyToks y) = false := lex_irrefl (O := itemOrd) _
  rw [t2, t3, lex_one] at t
  revert t
  decide
theorem dl_asymm {x y : PyData} (h : dataLt x y = true) : dataLt y x = false := by
 cases e : dataLt y x with
 | false => rfl
 | true => have := dl_trans h e; rw [dl_irrefl] at this; cases this
class Orderly {γ : Type} [DecidableEq γ] (enc : γ -> PyData) : Prop where
 al : ∀ a b, alike (enc a) (enc b) = true
 eq : ∀ a b, PyData.eqv (enc a) (enc b) = decide (a = b)
section
variable {γ : Type} [DecidableEq γ] {enc : γ -> PyData} [O : Orderly enc]
theorem ol_tri {a b : γ} (hne : a ≠ b) (h : dataLt (enc a) (enc b) = false) : dataLt (enc b) (enc a) = true := by
 cases e : dataLt (enc b) (enc a) with
 | true => rfl
 | false =>
  have := dl_total (O.al a b) h e
  rw [O.eq] at this
  exact absurd (of_decide_eq_true this) hne
instance : Orderly (pairE enc) where
 al a b := by simp [pairE, alike, alikeAll, O.al a.1 b.1]
 eq a b := by
  simp only [pairE, PyData.eqv, PyData.eqvAll, O.eq, Bool.and_true, ib]
  by_cases h : a = b
  ·subst h; simp
  ·rw [decide_eq_false h]
   rw [Bool.and_eq_false_iff]
   by_cases h1 : a.1 = b.1
   ·exact .inr (decide_eq_false fun h2 => h (Prod.ext h1 h2))
   ·exact .inl (decide_eq_false h1)
theorem pairE_lt (p q : γ × Int) : dataLt (pairE enc p) (pairE enc q) = if p.1 = q.1 then decide (p.2 < q.2) else dataLt (enc p.1) (enc q.1) := by
 unfold pairE
 rw [dataLt_pair (O.al p.1 q.1) (by simp [alike]), O.eq]
 by_cases h : p.1 = q.1
 ·rw [if_pos (by simp [h]), if_pos h, dataLt_int]
  by_cases h2 : p.2 = q.2
  ·simp [PyData.eqv, h2]
  ·simp [PyData.eqv, h2]
 ·rw [if_neg (by simp [h]), if_neg h]
def srtE (enc : γ -> PyData) (bs : List γ) : List γ := bs.mergeSort (dataLe false enc)
theorem srtE_perm (bs : List γ) : (srtE enc bs).Perm bs := List.mergeSort_perm _ _
theorem srtE_le (bs : List γ) : (srtE enc bs).Pairwise (fun a b => dataLt (enc b) (enc a) = false) := by
 have h := List.pairwise_mergeSort (le := dataLe false enc) (fun a b c h1 h2 => ?_) (fun a b => ?_) bs
 ·refine h.imp fun {a b} hab => ?_
  rw [dataLe_eq] at hab
  simpa using hab
 ·rw [dataLe_eq] at h1 h2 ⊢
  simp only [cond_false, Bool.not_eq_true'] at h1 h2 ⊢
  by_cases hab : a = b
  ·subst hab; exact h2
  ·by_cases hbc : b = c
   ·subst hbc; exact h1
   ·exact dl_asymm (dl_trans (ol_tri (fun z => hab z.symm) h1) (ol_tri (fun z => hbc z.symm) h2))
 ·rw [dataLe_eq]
  simp only [cond_false]
  cases e : dataLt (enc b) (enc a) with
  | false => rfl
  | true => rw [dl_asymm e]; rfl
def sumE (ps : List (γ × Int)) (x : γ) : Int := match ps with
 | [] => 0
 | p :: r => (if p.1 = x then p.2 else 0) + sumE r x
theorem jn_rise {bs : List (γ × Int)} (h : bs.Pairwise (fun a b => dataLt (enc b.1) (enc a.1) = false)) : (jn bs).Pairwise (fun p q => dataLt (enc p.1) (enc q.1) = true) := by
 have key : ∀ (bs acc : List (γ × Int)), acc.Pairwise (fun p q => dataLt (enc p.1) (enc q.1) = true) -> (∀ a ∈ acc, ∀ b ∈ bs, dataLt (enc b.1) (enc a.1) = false) -> bs.Pairwise (fun a b => dataLt (enc b.1) (enc a.1) = false) -> (bs.foldl jstep acc).Pairwise (fun p q => dataLt (enc p.1) (enc q.1) = true) := by
  intro bs
  induction bs with
  | nil => intro acc h _ _; exact h
  | cons p r ih =>
   intro acc h1 h2 h3
   obtain ⟨h31, h32⟩ := List.pairwise_cons.mp h3
   refine ih (jstep acc p) ?_ ?_ h32
   ·rcases List.eq_nil_or_concat acc with h | ⟨a, z, h⟩
    ·subst h; rw [jstep_nil]; exact List.pairwise_singleton _ _
    ·subst h
     rw [List.concat_eq_append] at h1 h2 ⊢
     rw [jstep_snoc]
     obtain ⟨a1, _, a3⟩ := List.pairwise_append.mp h1
     by_cases hz : z.1 = p.1
     ·rw [if_pos hz, List.pairwise_append]
      refine ⟨a1, List.pairwise_singleton _ _, fun x hx y hy => ?_⟩
      have hy' : y = (p.1, z.2 + p.2) := by simpa using hy
      subst hy'
      show dataLt (enc x.1) (enc p.1) = true
      rw [<- hz]; exact a3 x hx z (by simp)
     ·rw [if_neg hz, List.pairwise_append]
      refine ⟨h1, List.pairwise_singleton _ _, fun x hx y hy => ?_⟩
      have hy' : y = p := by simpa using hy
      subst hy'
      have hzp : dataLt (enc z.1) (enc y.1) = true := ol_tri (fun q => hz q.symm) (h2 z (by simp) y (mcs ..))
      rcases List.mem_append.mp hx with hx | hx
      ·exact dl_trans (a3 x hx z (by simp)) hzp
      ·have hx' : x = z := by simpa using hx
       subst hx'; exact hzp
   ·intro a ha b hb
    have hpb := h31 b hb
    rcases List.eq_nil_or_concat acc with h | ⟨c, z, h⟩
    ·subst h
     rw [jstep_nil] at ha
     have : a = p := by simpa using ha
     subst this; exact hpb
    ·subst h
     rw [List.concat_eq_append] at ha h2
     rw [jstep_snoc] at ha
     by_cases hz : z.1 = p.1
     ·rw [if_pos hz] at ha
      rcases List.mem_append.mp ha with ha | ha
      ·exact h2 a (mal _ ha) b (mcm _ hb)
      ·have : a = (p.1, z.2 + p.2) := by simpa using ha
       subst this; exact hpb
     ·rw [if_neg hz] at ha
      rcases List.mem_append.mp ha with ha | ha
      ·exact h2 a ha b (mcm _ hb)
      ·have : a = p := by simpa using ha
       subst this; exact hpb
 exact key bs [] List.Pairwise.nil (by simp) h
theorem srt_keys (bs : List (γ × Int)) : (srtE (pairE enc) bs).Pairwise (fun a b => dataLt (enc b.1) (enc a.1) = false) := by
 refine (srtE_le (enc := pairE enc) bs).imp fun {a b} hab => ?_
 rw [pairE_lt] at hab
 by_cases h : b.1 = a.1
 ·rw [h]; exact dl_irrefl _
 ·rw [if_neg h] at hab; exact hab
def tdy (enc : γ -> PyData) (bs : List (γ × Int)) : List (γ × Int) := jn (srtE (pairE enc) bs)
theorem tdy_rise (bs : List (γ × Int)) : (tdy enc bs).Pairwise (fun p q => dataLt (enc p.1) (enc q.1) = true) := jn_rise (srt_keys bs)
theorem tdy_keys (bs : List (γ × Int)) : ∀ p ∈ tdy enc bs, ∃ q ∈ bs, q.1 = p.1 := fun p hp => by
 obtain ⟨q, hq, e⟩ := jn_keys _ p hp
 exact ⟨q, (srtE_perm bs).mem_iff.mp hq, e⟩
def allE : List (γ × Int) -> Int
 | [] => 0
 | p :: r => p.2 + allE r
theorem allE_append : ∀ as bs : List (γ × Int), allE (as ++ bs) = allE as + allE bs
 | [], bs => by simp [allE]
 | p :: r, bs => by show _ + allE (r ++ bs) = _; rw [allE_append r bs, allE]; omega
theorem allE_perm {as bs : List (γ × Int)} (h : as.Perm bs) : allE as = allE bs := by
 induction h with
 | nil => rfl
 | cons y _ ih => simp only [allE]; omega
 | swap y z l => simp only [allE]; omega
 | trans _ _ h1 h2 => omega
theorem jn_all (bs : List (γ × Int)) : allE (jn bs) = allE bs := by
 have key : ∀ (bs acc : List (γ × Int)), allE (bs.foldl jstep acc) = allE acc + allE bs := by
  intro bs
  induction bs with
  | nil => intro acc; simp [allE]
  | cons p r ih =>
   intro acc
   show allE (r.foldl jstep (jstep acc p)) = _
   rw [ih]
   have e : allE (jstep acc p) = allE acc + p.2 := by
    rcases List.eq_nil_or_concat acc with h | ⟨a, z, h⟩
    ·subst h; rw [jstep_nil]; simp [allE]
    ·subst h
     rw [List.concat_eq_append, jstep_snoc]
     split
     ·rw [allE_append, allE_append]; simp only [allE]; omega
     ·rw [allE_append]; simp only [allE]; omega
   rw [e, allE]; omega
 have := key bs []
 simpa [jn, allE] using this
theorem jn_pos {bs : List (γ × Int)} (h : ∀ p ∈ bs, 1 <= p.2) : ∀ p ∈ jn bs, 1 <= p.2 := by
 have key : ∀ (bs acc : List (γ × Int)), (∀ p ∈ acc, 1 <= p.2) -> (∀ p ∈ bs, 1 <= p.2) -> ∀ p ∈ bs.foldl jstep acc, 1 <= p.2 := by
  intro bs
  induction bs with
  | nil => intro acc h _; exact h
  | cons p r ih =>
   intro acc h1 h2
   refine ih (jstep acc p) (fun q hq => ?_) fun q hq => h2 q (mcm _ hq)
   have hp := h2 p (mcs ..)
   rcases List.eq_nil_or_concat acc with h | ⟨a, z, h⟩
   ·subst h
    rw [jstep_nil] at hq
    have : q = p := by simpa using hq
    subst this; exact hp
   ·subst h
    rw [List.concat_eq_append] at h1 hq
    rw [jstep_snoc] at hq
    have hz := h1 z (by simp)
    by_cases e : z.1 = p.1
    ·rw [if_pos e] at hq
     rcases List.mem_append.mp hq with hq | hq
     ·exact h1 q (mal _ hq)
     ·have : q = (p.1, z.2 + p.2) := by simpa using hq
      subst this; show 1 <= z.2 + p.2; omega
    ·rw [if_neg e] at hq
     rcases List.mem_append.mp hq with hq | hq
     ·exact h1 q hq
     ·have : q = p := by simpa using hq
      subst this; exact hp
 exact key bs [] (by simp) h
theorem le_all {bs : List (γ × Int)} (h : ∀ p ∈ bs, 1 <= p.2) : ∀ p ∈ bs, p.2 <= allE bs := by
 induction bs with
 | nil => intro p hp; cases hp
 | cons a r ih =>
  intro p hp
  have hr : 0 <= allE r := by
   clear ih hp
   have : ∀ p ∈ r, 1 <= p.2 := fun p hp => h p (mcm _ hp)
   clear h
   induction r with
   | nil => exact Int.le_refl _
   | cons b r ih2 =>
    have h1 := this b (mcs ..)
    have h2 := ih2 fun p hp => this p (mcm _ hp)
    show 0 <= b.2 + allE r; omega
  have ha := h a (mcs ..)
  rcases List.mem_cons.mp hp with hp | hp
  ·subst hp; show p.2 <= p.2 + allE r; omega
  ·have := ih (fun p hp => h p (mcm _ hp)) p hp
   show p.2 <= a.2 + allE r; omega
theorem tdy_pos {bs : List (γ × Int)} (h : ∀ p ∈ bs, 1 <= p.2) : ∀ p ∈ tdy enc bs, 1 <= p.2 /\ p.2 <= allE bs := fun p hp => by
 have h0 : ∀ p ∈ srtE (pairE enc) bs, 1 <= p.2 := fun p hp => h p ((srtE_perm bs).mem_iff.mp hp)
 have h1 := jn_pos h0
 refine ⟨h1 p hp, ?_⟩
 have h2 := le_all h1 p hp
 rw [jn_all, allE_perm (srtE_perm bs)] at h2
 exact h2
end
inductive Gr where
 | nil
 | cons (k : Str) (g : Gr) (m : Int) (r : Gr)
 deriving DecidableEq
abbrev Tr := Str × Gr
def NameOk (k : Str) : Prop := 1 <= k.cps.toList.length /\ k.cps.toList.length <= 8 /\ ∀ c ∈ k.cps.toList, 97 <= c /\ c <= 122
namespace Gr
def encs : Gr -> List PyData
 | .nil => []
 | .cons k g m r => .tuple [.tuple [.str k, .tuple g.encs], .int m] :: r.encs
def enc (g : Gr) : PyData := .tuple g.encs
def tEnc (t : Tr) : PyData := .tuple [.str t.1, t.2.enc]
abbrev pEnc : Tr × Int -> PyData := pairE tEnc
def ps : Gr -> List (Tr × Int)
 | .nil => []
 | .cons k g m r => ((k, g), m) :: r.ps
def ofPs : List (Tr × Int) -> Gr
 | [] => .nil
 | p :: r => .cons p.1.1 p.1.2 p.2 (ofPs r)
theorem ofPs_ps : ∀ g : Gr, ofPs g.ps = g
 | .nil => rfl
 | .cons k g m r => by show Gr.cons k g m (ofPs r.ps) = _; rw [ofPs_ps r]
theorem ps_ofPs : ∀ bs : List (Tr × Int), (ofPs bs).ps = bs
 | [] => rfl
 | p :: r => by show ((p.1.1, p.1.2), p.2) :: (ofPs r).ps = _; rw [ps_ofPs r]
theorem encs_ps : ∀ g : Gr, g.encs = g.ps.map pEnc
 | .nil => rfl
 | .cons k g m r => by show _ :: r.encs = _ :: r.ps.map pEnc; rw [encs_ps r]; rfl
def parts : Gr -> Nat
 | .nil => 0
 | .cons _ g _ r => 1 + g.parts + r.parts
def deep : Gr -> Nat
 | .nil => 0
 | .cons _ g _ r => max (1 + g.deep) r.deep
def tot : List (Tr × Int) -> Nat
 | [] => 0
 | p :: r => 1 + p.1.2.parts + tot r
theorem parts_ofPs : ∀ bs : List (Tr × Int), (ofPs bs).parts = tot bs
 | [] => rfl
 | p :: r => by show 1 + p.1.2.parts + (ofPs r).parts = 1 + p.1.2.parts + tot r; rw [parts_ofPs r]
theorem tot_ps (g : Gr) : tot g.ps = g.parts := by rw [<- parts_ofPs, ofPs_ps]
theorem tot_append : ∀ bs cs : List (Tr × Int), tot (bs ++ cs) = tot bs + tot cs
 | [], cs => by simp [tot]
 | p :: r, cs => by show 1 + p.1.2.parts + tot (r ++ cs) = _; rw [tot_append r cs, tot]; omega
theorem tot_perm {bs cs : List (Tr × Int)} (h : bs.Perm cs) : tot bs = tot cs := by
 induction h with
 | nil => rfl
 | cons x _ ih => simp only [tot]; omega
 | swap x y l => simp only [tot]; omega
 | trans _ _ h1 h2 => omega
theorem len_tot : ∀ bs : List (Tr × Int), bs.length <= tot bs
 | [] => Nat.le_refl _
 | p :: r => by have := len_tot r; show r.length + 1 <= 1 + p.1.2.parts + tot r; omega
theorem tot_jn (bs : List (Tr × Int)) : tot (jn bs) <= tot bs := by
 have key : ∀ (bs acc : List (Tr × Int)), tot (bs.foldl jstep acc) <= tot acc + tot bs := by
  intro bs
  induction bs with
  | nil => intro acc; simp [tot]
  | cons x r ih =>
   intro acc
   have h1 := ih (jstep acc x)
   have h2 : tot (jstep acc x) <= tot acc + (1 + x.1.2.parts) := by
    rcases List.eq_nil_or_concat acc with h | ⟨a, z, h⟩
    ·subst h; simp [jstep_nil, tot]
    ·subst h
     rw [List.concat_eq_append, jstep_snoc]
     by_cases hz : z.1 = x.1
     ·rw [if_pos hz, tot_append, tot_append]; simp only [tot]; rw [hz]; omega
     ·rw [if_neg hz, tot_append, tot_append]; simp only [tot]; omega
   show tot (r.foldl jstep (jstep acc x)) <= tot acc + (1 + x.1.2.parts + tot r)
   omega
 have := key bs []
 simpa [jn, tot] using this
theorem mem_deep : ∀ (g : Gr) (p : Tr × Int), p ∈ g.ps -> p.1.2.deep < g.deep
 | .nil, p, h => by cases h
 | .cons k g m r, p, h => by
  rcases List.mem_cons.mp h with h | h
  ·subst h; show g.deep < max (1 + g.deep) r.deep; omega
  ·have := mem_deep r p h; show _ < max (1 + g.deep) r.deep; omega
theorem mem_parts : ∀ (g : Gr) (p : Tr × Int), p ∈ g.ps -> p.1.2.parts < g.parts
 | .nil, p, h => by cases h
 | .cons k g m r, p, h => by
  rcases List.mem_cons.mp h with h | h
  ·subst h; show g.parts < 1 + g.parts + r.parts; omega
  ·have := mem_parts r p h; show _ < 1 + g.parts + r.parts; omega
theorem deep_le {n : Nat} : ∀ {g : Gr}, (∀ p ∈ g.ps, p.1.2.deep < n) -> g.deep <= n
 | .nil, _ => Nat.zero_le _
 | .cons k g m r, h => by
  have h1 := h ((k, g), m) (mcs ..)
  have h2 := deep_le (g := r) fun p hp => h p (mcm _ hp)
  show max (1 + g.deep) r.deep <= n
  have : g.deep < n := h1
  omega
theorem len_parts (g : Gr) : g.ps.length <= g.parts := by have := len_tot g.ps; rw [tot_ps] at this; exact this
theorem alikes : ∀ g h : Gr, alikeAll g.encs h.encs = true
 | .nil, _ => by simp [encs, alikeAll]
 | .cons _ _ _ _, .nil => by simp [encs, alikeAll]
 | .cons k g m r, .cons k' g' m' r' => by
  have h1 := alikes g g'
  have h2 := alikes r r'
  simp [encs, alikeAll, alike, h1, h2]
theorem alike_enc (g h : Gr) : alike g.enc h.enc = true := by
 show alike (.tuple g.encs) (.tuple h.encs) = true
 rw [alike]; exact alikes g h
theorem sb (a b : Str) : (a == b) = decide (a = b) := by by_cases h : a = b <;> simp [h]
theorem eqvs : ∀ g h : Gr, PyData.eqvAll g.encs h.encs = decide (g = h)
 | .nil, .nil => by simp [encs, PyData.eqvAll]
 | .nil, .cons _ _ _ _ => by simp [encs, PyData.eqvAll]
 | .cons _ _ _ _, .nil => by simp [encs, PyData.eqvAll]
 | .cons k g m r, .cons k' g' m' r' => by
  have h1 := eqvs g g'
  have h2 := eqvs r r'
  simp [encs, PyData.eqvAll, PyData.eqv, h1, h2, Bool.and_assoc, ib, sb]
theorem eqv_enc (g h : Gr) : PyData.eqv g.enc h.enc = decide (g = h) := by
 rw [enc, enc, PyData.eqv]; exact eqvs g h
instance : Orderly tEnc where
 al a b := by simp [tEnc, alike, alikeAll, alike_enc]
 eq a b := by
  simp only [tEnc, PyData.eqv, PyData.eqvAll, eqv_enc, Bool.and_true, sb]
  by_cases h : a = b
  ·subst h; simp
  ·rw [decide_eq_false h, Bool.and_eq_false_iff]
   by_cases h1 : a.1 = b.1
   ·exact .inr (decide_eq_false fun h2 => h (Prod.ext h1 h2))
   ·exact .inl (decide_eq_false h1)
theorem noLists_encs : ∀ g : Gr, noLists g.encs = true
 | .nil => by simp [encs, noLists]
 | .cons k g m r => by simp [encs, noLists, noList, noLists_encs g, noLists_encs r]
theorem noList_enc (g : Gr) : noList g.enc = true := by simp [enc, noList, noLists_encs g]
theorem noList_tEnc (t : Tr) : noList (tEnc t) = true := by simp [tEnc, noList, noLists, noList_enc]
theorem noList_pEnc (p : Tr × Int) : noList (pEnc p) = true := by simp [pEnc, pairE, noList, noLists, noList_tEnc]
theorem encs_depth : ∀ g : Gr, PyData.depthAll g.encs <= 3 * g.deep
 | .nil => by simp [encs, PyData.depthAll, deep]
 | .cons k g m r => by
  have h1 := encs_depth g
  have h2 := encs_depth r
  simp only [encs, PyData.depthAll, PyData.depth, deep]
  omega
theorem enc_depth (g : Gr) : g.enc.depth <= 3 * g.deep + 1 := by
 have := encs_depth g
 simp only [enc, PyData.depth]
 omega
theorem tEnc_depth (t : Tr) : (tEnc t).depth <= 3 * t.2.deep + 2 := by
 have := enc_depth t.2
 simp only [tEnc, PyData.depth, PyData.depthAll]; omega
theorem pEnc_depth (p : Tr × Int) : (pEnc p).depth <= 3 * p.1.2.deep + 3 := by
 have := tEnc_depth p.1
 simp only [pEnc, pairE, PyData.depth, PyData.depthAll]; omega
def Ok (C : Int) : Gr -> Prop
 | .nil => True
 | .cons k g m r => NameOk k /\ g.Ok C /\ 1 <= m /\ m < C /\ r.Ok C /\ ∀ p ∈ r.ps, dataLt (tEnc (k, g)) (tEnc p.1) = true
theorem Ok.mono {B C : Int} (h : B <= C) : ∀ {g : Gr}, g.Ok B -> g.Ok C
 | .nil, _ => trivial
 | .cons k g m r, ⟨h0, h1, h2, h3, h4, h5⟩ => ⟨h0, Ok.mono h h1, h2, by omega, Ok.mono h h4, h5⟩
theorem ok_ps {C : Int} : ∀ {bs : List (Tr × Int)}, (ofPs bs).Ok C ↔ (∀ p ∈ bs, NameOk p.1.1 /\ p.1.2.Ok C /\ 1 <= p.2 /\ p.2 < C) /\ bs.Pairwise (fun p q => dataLt (tEnc p.1) (tEnc q.1) = true)
 | [] => by simp [ofPs, Ok]
 | x :: r => by
  have ih := ok_ps (C := C) (bs := r)
  show (NameOk x.1.1 /\ x.1.2.Ok C /\ 1 <= x.2 /\ x.2 < C /\ (ofPs r).Ok C /\ ∀ p ∈ (ofPs r).ps, dataLt (tEnc x.1) (tEnc p.1) = true) ↔ _
  rw [ps_ofPs, List.pairwise_cons, ih]
  constructor
  ·rintro ⟨h0, h1, h2, h3, ⟨h4, h5⟩, h6⟩
   refine ⟨fun p hp => ?_, h6, h5⟩
   rcases List.mem_cons.mp hp with hp | hp
   ·subst hp; exact ⟨h0, h1, h2, h3⟩
   ·exact h4 p hp
  ·rintro ⟨h1, h2, h3⟩
   have h4 := h1 x (mcs ..)
   exact ⟨h4.1, h4.2.1, h4.2.2.1, h4.2.2.2, ⟨fun p hp => h1 p (mcm _ hp), h3⟩, h2⟩
theorem ok_iff {C : Int} {g : Gr} : g.Ok C ↔ (∀ p ∈ g.ps, NameOk p.1.1 /\ p.1.2.Ok C /\ 1 <= p.2 /\ p.2 < C) /\ g.ps.Pairwise (fun p q => dataLt (tEnc p.1) (tEnc q.1) = true) := by
 have := ok_ps (C := C) (bs := g.ps)
 rw [ofPs_ps] at this
 exact this
theorem strOk_name {k : Str} (h : NameOk k) : PySem.PyData.strOk k = true := by
 show k.cps.all (· < 0x110000) = true
 rw [Array.all_eq_true']
 intro c hc
 have := h.2.2 c (by simpa using hc)
 simp; omega
theorem lays {C : Int} : ∀ {g : Gr}, g.Ok C -> PyData.canLayAll0 g.encs = true
 | .nil, _ => by simp [encs, PyData.canLayAll0]
 | .cons k g m r, ⟨h0, h1, _, _, h4, _⟩ => by
  have e1 := lays h1
  have e2 := lays h4
  simp [encs, PyData.canLayAll0, PyData.canLay0, e1, e2, strOk_name h0]
theorem shaped_tEnc {C : Int} {t : Tr} (h0 : NameOk t.1) (h : t.2.Ok C) (hd : t.2.deep <= 20) : SeqAt.shaped (tEnc t) = true := by
 have := tEnc_depth t
 unfold SeqAt.shaped
 rw [show (tEnc t).canLay0 = true by simp [tEnc, PyData.canLay0, PyData.canLayAll0, strOk_name h0, enc, lays h]]
 simp; omega
theorem pEnc_all (bs : List (Tr × Int)) : AllAlike (bs.map pEnc) := AllAlike.of fun a b => Orderly.al (enc := pEnc) a b
theorem pEnc_sortable (bs : List (Tr × Int)) : Sortable (bs.map pEnc) := Sortable.tuples fun b => ⟨_, _, rfl⟩
def tidy (bs : List (Tr × Int)) : Gr := ofPs (tdy tEnc bs)
theorem tidy_parts (bs : List (Tr × Int)) : (tidy bs).parts <= tot bs := by
 unfold tidy
 rw [parts_ofPs]
 have h1 := tot_jn (srtE (pairE tEnc) bs)
 rw [tot_perm (srtE_perm bs)] at h1
 exact h1
theorem tidy_deep {n : Nat} {bs : List (Tr × Int)} (h : ∀ p ∈ bs, p.1.2.deep < n) : (tidy bs).deep <= n := by
 refine deep_le fun p hp => ?_
 unfold tidy at hp
 rw [ps_ofPs] at hp
 obtain ⟨q, hq, e⟩ := tdy_keys bs p hp
 rw [<- e]; exact h q hq
theorem tidy_ok {C D : Int} {bs : List (Tr × Int)} (h : ∀ p ∈ bs, NameOk p.1.1 /\ p.1.2.Ok C /\ 1 <= p.2) (hD : allE bs < D) (hCD : C <= D) : (tidy bs).Ok D := by
 unfold tidy
 rw [ok_ps]
 refine ⟨fun p hp => ?_, tdy_rise bs⟩
 obtain ⟨q, hq, e⟩ := tdy_keys bs p hp
 have hq2 := h q hq
 obtain ⟨h1, h2⟩ := tdy_pos (enc := tEnc) (fun p hp => (h p hp).2.2) p hp
 rw [<- e]
 exact ⟨hq2.1, hq2.2.1.mono hCD, h1, by omega⟩
end Gr
def GA (K : PySem.W.Frag) (H : Hp) (v : V) (g : Gr) : Prop := Dp K H v g.enc
section
variable {K : PySem.W.Frag} {ps : List Addr} {H H' : Hp} {v : V} {g : Gr}
theorem GA.sb (h : GA K H v g) (e : SB ps H H') : GA K H' v g := Dp_sb e _ _ g.noList_enc h
theorem GA_bears (h : GA K H v g) : ∃ a xs, v = .ref a /\ SqT K H a xs /\ Bears K H Gr.pEnc xs g.ps := by
 have h' : Dp K H v (.tuple g.encs) := h
 cases h' with
 | tup hs ha =>
  rw [Gr.encs_ps] at ha
  exact ⟨_, _, rfl, hs, Bears.of ha⟩
theorem Bears_ga {a : Addr} {xs : List V} {bs : List (Tr × Int)} (h : SqT K H a xs) (hb : Bears K H Gr.pEnc xs bs) : GA K H (.ref a) (Gr.ofPs bs) := by
 refine Dp.tup h ?_
 rw [Gr.encs_ps, Gr.ps_ofPs]
 exact hb.dp
theorem GA_nil {p : Addr} (h : SqT K H p []) : GA K H (.ref p) .nil := Dp.tup h .nil
theorem TA_parts {t : Tr} (h : Dp K H v (Gr.tEnc t)) : ∃ a u, v = .ref a /\ SqT K H a [.str t.1, u] /\ GA K H u t.2 := by
 cases h with
 | tup hs ha =>
  cases ha with
  | cons h1 h2 =>
   cases h2 with
   | cons h3 h4 =>
    cases h4
    cases h1
    exact ⟨_, _, rfl, hs, h3⟩
theorem PA_parts {p : Tr × Int} (h : Dp K H v (Gr.pEnc p)) : ∃ a b u, v = .ref a /\ SqT K H a [.ref b, .int p.2] /\ SqT K H b [.str p.1.1, u] /\ GA K H u p.1.2 /\ Dp K H (.ref b) (Gr.tEnc p.1) := by
 cases h with
 | tup hs ha =>
  cases ha with
  | cons h1 h2 =>
   cases h2 with
   | cons h3 h4 =>
    cases h4
    cases h3
    obtain ⟨b, u, rfl, hb, hg⟩ := TA_parts h1
    exact ⟨_, b, u, rfl, hs, hb, hg, h1⟩
end
def Ltr (z : Str) (n : Nat) : Prop := z.cps.toList.length = n /\ ∀ c ∈ z.cps.toList, 97 <= c /\ c <= 122
theorem Ltr.name {z : Str} {n : Nat} (h : Ltr z n) (h1 : 1 <= n) (h8 : n <= 8) : NameOk z := ⟨by have := h.1; omega, by have := h.1; omega, h.2⟩
theorem Ltr.len {z : Str} {n : Nat} (h : Ltr z n) : z.length = n := by have := h.1; simpa [Str.length] using this
theorem Ltr.one {c : Nat} (h : 97 <= c /\ c <= 122) : Ltr ⟨#[c]⟩ 1 := ⟨rfl, fun x hx => by simp at hx; subst hx; exact h⟩
theorem Ltr.append {a b : Str} {n m : Nat} (ha : Ltr a n) (hb : Ltr b m) : Ltr (a ++ b) (n + m) := by
 have e : (a ++ b).cps.toList = a.cps.toList ++ b.cps.toList := by show (a.cps ++ b.cps).toList = _; simp
 unfold Ltr
 rw [e, List.length_append, ha.1, hb.1]
 refine ⟨rfl, fun c hc => ?_⟩
 rcases List.mem_append.mp hc with hc | hc
 ·exact ha.2 c hc
 ·exact hb.2 c hc
abbrev abc : Str := Str.ofString "abcdefghijklmnopqrstuvwxyz"
theorem abc_len : abc.length <= sizeLine := by decide +kernel
theorem atI_natN {xs : List Nat} {j : Nat} {c : Nat} (h : xs[j]? = some c) : atI xs (j : Int) = some c := by
 have hj : j < xs.length := (List.getElem?_eq_some_iff.mp h).1
 unfold atI ixN
 rw [if_pos (by omega), if_pos (by omega)]
 simpa using h
theorem cutTakeS (ks : List Str) (k : Nat) : cutV (ks.map V.str) none (some (k : Int)) = (ks.take k).map V.str := by rw [cutTake, List.map_take]
def rSortedB (K : PySem.W.Frag) {β : Type} (enc : β -> PyData) (vs : List V) (H : Hp) (Q : VK) : Prop := ∃ (a : Addr) (xs : List V) (bs : List β), vs = [V.ref a] /\ (SqL K H a xs \/ SqT K H a xs) /\ Bears K H enc xs bs /\ AllAlike (bs.map enc) /\ Sortable (bs.map enc) /\ bs.length <= 10000000 /\ (∀ b ∈ bs, (enc b).depth <= 100) /\
 ∀ (p : Addr) (ys : List V), H p = none -> Bears K H enc ys (bs.mergeSort (dataLe false enc)) -> Q (.ref p) (upd H p (.lst ys))
theorem cr_sortedB {X : Cx} {β : Type} (enc : β -> PyData) (hu : X.A.units + 110 < cLine) : CallR X (.builtin "sorted") (rSortedB X.K enc) := by
 intro pins s σ H vs us Q I r h
 obtain ⟨a, xs, bs, h1, h2, h3⟩ := h
 rcases h2 with h2 | h2
 ·exact cr_sortedL enc hu pins s σ H vs us Q I r ⟨a, xs, bs, h1, h2, h3⟩
 ·exact cr_sortedT enc hu pins s σ H vs us Q I r ⟨a, xs, bs, h1, h2, h3⟩
namespace Gr
def within : Gr -> List (Tr × Int)
 | .nil => []
 | .cons k g m r => ((k, g), m) :: (g.within ++ r.within)
theorem within_ps : ∀ g : Gr, g.within = g.ps.flatMap fun p => p :: p.1.2.within
 | .nil => rfl
 | .cons k g m r => by show ((k, g), m) :: (g.within ++ r.within) = _; rw [within_ps r]; rfl
theorem within_length : ∀ g : Gr, g.within.length = g.parts
 | .nil => rfl
 | .cons k g m r => by show (g.within ++ r.within).length + 1 = 1 + g.parts + r.parts; rw [List.length_append, within_length g, within_length r]; omega
end Gr
def spPairsW (K : PySem.W.Frag) (n : Nat) : Sp := fun vs H Q _ => ∃ (v : V) (g : Gr), vs = [v] /\ GA K H v g /\ g.deep < n /\ g.parts <= 200000 /\ ∀ (D : Addr) (us : List V) (H' : Hp), SB [] H H' -> H D = none -> H' D = some (.lst us) -> Bears K H' Gr.pEnc us g.within -> Q (.ref D) H'
section
variable {P : Program} {w : World} {K : PySem.W.Frag} {mg : Str -> Option Value} {base : Heap} {f : Addr} {fd : FuncData}
theorem none_pairs_within {ps : List Str} {k : Nat} : FnOk P w K mg base CX0 k f fd ps (spPairsW K 0) := none_sp fun vs H Q E ⟨v, l, _, _, h, _⟩ => by omega
end
mutual
def plS : PyData -> Bool
 | .int _ => true
 | .str x => PyData.strOk x
 | .tuple ds => plSs ds
 | _ => false
def plSs : List PyData -> Bool
 | [] => true
 | d :: ds => plS d && plSs ds
end
mutual
theorem plS_lay : ∀ d : PyData, plS d = true -> d.canLay0 = true
 | .int _, _ => by simp [PyData.canLay0]
 | .str _, h => by rw [plS] at h; rw [PyData.canLay0]; exact h
 | .tuple ds, h => by rw [plS] at h; rw [PyData.canLay0]; exact plSs_lay ds h
 | .none, h => by simp [plS] at h
 | .bool _, h => by simp [plS] at h
 | .list _, h => by simp [plS] at h
 | .dict _, h => by simp [plS] at h
theorem plSs_lay : ∀ ds : List PyData, plSs ds = true -> PyData.canLayAll0 ds = true
 | [], _ => by simp [PyData.canLayAll0]
 | d :: ds, h => by
  rw [plSs, Bool.and_eq_true] at h
  rw [PyData.canLayAll0, plS_lay d h.1, plSs_lay ds h.2]; rfl
end
theorem small5 {n : Nat} (h : n <= 1000000) : n < sizeLine := by
 have : sizeLine = 16777216 := sizeLine_eq
 omega
open PySem.Sem in
theorem enumT_new {v : Value} {o : Obj} {Hh : Heap -> Prop} (Bg : Begins v o Hh) :
  Meets (Builtin.«enumerate.__new__» ⟨[.type "enumerate", v], []⟩) (fun _ R s => Hh s.heap /\ R (.ok (.ret (.ref (s.heap.push o).objs.size))) { s with heap := (s.heap.push o).push { cls := .type "enumerate", data := .fields #[.none, .bool false, .ref s.heap.objs.size, rawInt 0, .none, .none] } }) :=
 .of_wp fun prog w A R s h => by
  obtain ⟨hp, g, d, tk, os⟩ := s
  obtain ⟨h1, h⟩ := h
  have hsub := sub_enumerate
  have go : ∀ {A2 : Around} {E2 : Value -> Shared -> Prop} {Q2 : Value -> Shared -> Prop}, Q2 (.ref hp.objs.size) ⟨hp.push o, g, d, tk, os⟩ -> wpAny (model prog w) A2 (pyIter v) Q2 E2 ⟨hp, g, d, tk, os⟩ := fun z => Bg.iter prog w _ _ ⟨hp, g, d, tk, os⟩ _ h1 z
  wp_walk using go
  refine wpAny_stack_any fun stk => wpAny_pure ?_
  split
  ·rename_i cl _ _ _ _ _
   cases (cl == Value.type "enumerate") <;> (wp_walk using go; exact ⟨_, rfl, h⟩)
  ·wp_walk using go; exact ⟨_, rfl, h⟩
section
variable {prog : Program} {w : World} {A : Around} {E : Value -> Shared -> Prop} {s : Shared}
theorem call_enumT {t : Addr} {items : Array Value} {Q : Value -> Shared -> Prop} (hT : s.heap.IsTuple t items)
  (h : ∀ h2, IsEnum h2 (s.heap.objs.size + 1) s.heap.objs.size 0 .none -> h2.IsTupleIter s.heap.objs.size t 0 -> (∀ b ob, s.heap.get? b = some ob -> h2.get? b = some ob) -> Q (.ref (s.heap.objs.size + 1)) { s with heap := h2 }) : wpAny (model prog w) A (call (.type "enumerate") [.ref t]) Q E s := by
 have Bg := begins_tuple t items
 refine callType_new F.called_enumerate (by decide) (F.typeCall_enumerate_1 _) (F.newCall_enumerate_1 _) (fun ob => F.args_object_init_2 ob _) F.entry_enumerate_new (enumT_new Bg) ⟨hT, ?_⟩
 have hz : (s.heap.push { cls := .type "tuple_iterator", data := .fields #[.ref t, .int 0 0] }).objs.size = s.heap.objs.size + 1 := Heap.size_push ..
 show _ /\ _
 rw [hz]
 have he : IsEnum ((s.heap.push { cls := .type "tuple_iterator", data := .fields #[.ref t, .int 0 0] }).push { cls := .type "enumerate", data := .fields #[.none, .bool false, .ref s.heap.objs.size, rawInt 0, .none, .none] }) (s.heap.objs.size + 1) s.heap.objs.size 0 .none := by
  have z := Heap.get?_push_size (s.heap.push { cls := .type "tuple_iterator", data := .fields #[.ref t, .int 0 0] }) (o := { cls := .type "enumerate", data := .fields #[.none, .bool false, .ref s.heap.objs.size, rawInt 0, .none, .none] }) rfl
  rw [hz] at z
  exact z
 exact ⟨⟨_, he, rfl⟩, h _ he ⟨_, Heap.get?_push_of_some _ (Heap.get?_push_size _ rfl), rfl, rfl⟩ fun b ob x => Heap.get?_push_of_some _ (Heap.get?_push_of_some _ x)⟩
end
def IteT (K : PySem.W.Frag) (a : Addr) : It :=
 ⟨fun i H => ∃ (xs : List V) (x : V), SqT K H a xs /\ xs[i]? = some x,
  fun i H v H2 => ∃ T x, v = .ref T /\ H T = none /\ H2 = upd H T (.tup [.int (i : Nat), x]) /\ ∀ xs, SqT K H a xs -> xs[i]? = some x,
  fun i H => ∃ xs : List V, SqT K H a xs /\ xs.length = i⟩
theorem turn_enumT {P : Program} {w : World} {K : PySem.W.Frag} {elts : List Expr} {kk : Nat} {tpos : Pos} (a e it : Addr) (hei : e ≠ it) (hai : a ≠ it) (hea : e ≠ a) :
  Turn P w K (.Tuple elts kk tpos) (IteT K a) [e, it] e (fun i h => (∃ old, IsEnum h e it ((i : Nat) : Int) old) /\ h.IsTupleIter it a i) where
 mem := by simp
 obj := fun i h st b hb => by
  obtain ⟨⟨old, he⟩, o, ho, hc, hd⟩ := st
  rcases (show b = e \/ b = it by simpa using hb) with z | z
  ·rw [z]; exact ⟨_, he, fun v q => nomatch q⟩
  ·rw [z]; exact ⟨o, ho, fun v q => by rw [hd] at q; cases q⟩
 keep := fun i h h2 st k => let ⟨⟨old, he⟩, o, ho, r⟩ := st; ⟨⟨old, k e (by simp) _ he⟩, o, k it (by simp) o ho, r⟩
 item := by
  intro X hP hw hK hc i pins s σ H E I hf st hg
  subst hP hw hK
  obtain ⟨⟨old, he⟩, hit⟩ := st
  obtain ⟨xs, x, hq, hx⟩ := hg
  obtain ⟨its, rv, p, hz⟩ := I.tuple hq
  obtain ⟨u, hu, ru⟩ := rv.get hx
  have hel : e < s.heap.objs.size := Heap.lt_size he
  have hil : it < s.heap.objs.size := by obtain ⟨_, z, _⟩ := hit; exact Heap.lt_size z
  have Dr := Draws.tuple (prog := X.prog) (w := X.w) (A := X.A.in1) (I.ok.hd hc) it a hai its.toArray
  have hlt : i < its.toArray.size := by
   have := (List.getElem?_eq_some_iff.mp hu).1
   simpa using this
  refine wpAny_pyNext_enum_itemD Dr he ⟨hit, p⟩ hlt hei (by simp [hei, hea]) fun y h2 tk hy ho hst hT hsz hk => ?_
  have hyu : y = u := by
   have h3 : its[i]? = some y := by simpa using hy
   rw [hu] at h3; exact (Option.some.inj h3).symm
  subst hyu
  refine ⟨_, rfl, wpAny_letOwnedTupleGo_enum (s := { s with heap := h2, toks := tk + 1 }) ho fun h3 he3 sb => ?_⟩
  have hT2 : h3.get? s.heap.objs.size = some { cls := .type "tuple", data := .seq #[.int i tk, y] } := (sb.2 _ (Nat.ne_of_gt hel)).trans hT
  have nw : ObjOk X.prog X.w (upd H s.heap.objs.size (.tup [.int (i : Nat), x])) h3 s.heap.objs.size (.tup [.int (i : Nat), x]) := ⟨by show 2 <= sizeLine; decide, [.int i tk, y], .cons ⟨_, rfl⟩ (.cons ru .nil), ⟨_, hT2, rfl, _, rfl⟩⟩
  have I1 : Inv X pins σ (upd H s.heap.objs.size (.tup [.int (i : Nat), x])) { s with heap := h3, toks := tk + 1 } := I.turnedNew (ch := [e, it]) (fun b ob hb z => (sb.2 b (fun y => hb (by simp [y]))).trans (hk b ob (fun y => hb (by simp [y])) (fun y => hb (by simp [y])) z)) hf (Nat.le_refl _) nw
  refine ⟨.ref s.heap.objs.size, _, I1, rfl, ⟨_, x, rfl, I.hok.fresh (Nat.le_refl _), rfl, fun ys hy => by rw [I.tuple_inj hy hq]; exact hx⟩, ⟨⟨y, ?_⟩, ?_⟩, fun b hb => ?_⟩
  ·rw [show ((i + 1 : Nat) : Int) = (i : Int) + 1 by omega]; exact he3
  ·obtain ⟨o, ho2, r⟩ := hst.1
   exact ⟨o, (sb.2 it (Ne.symm hei)).trans ho2, r⟩
  ·have hb2 : b < s.heap.objs.size := by
    rcases (show b = e \/ b = it by simpa using hb) with z | z
    ·rw [z]; exact hel
    ·rw [z]; exact hil
   rw [upd_ne (Nat.ne_of_lt hb2)]; exact (hf b hb).1
 done := by
  intro X hP hw hK hc i pins s σ H E I hf st hg
  subst hP hw hK
  obtain ⟨⟨old, he⟩, hit⟩ := st
  obtain ⟨xs, hq, hx⟩ := hg
  obtain ⟨its, rv, p, hz⟩ := I.tuple hq
  obtain ⟨f0, f1, f2, f3, f4, f5⟩ := hf it (by simp)
  have hl := rv.length
  have ht : s.heap.IsTuple a its.toArray := p
  have Dr := Draws.tuple (prog := X.prog) (w := X.w) (A := X.A.in1) (I.ok.hd hc) it a hai its.toArray
  have hn : its.toArray.size = i := by simp; omega
  refine wpAny_pyNext_enum_endD Dr he ⟨by rw [hn]; exact hit, ht⟩ fun h2 eb => ⟨rfl, I.turned (t' := s.toks) (fun b o hb z => eb b o hb z) f0 f1 f3 f4 f5⟩
 self := fun A i s Q E st h => let ⟨⟨_, he⟩, _⟩ := st; wpAny_pyIter_enum he h
def iEnumT (K : PySem.W.Frag) (te : TE) : TI := fun σ H R => te σ H fun v H1 => ∃ a xs, v = .ref a /\ SqT K H1 a xs /\ R (IteT K a) H1
theorem pi_enumT {X : Cx} {ex : Expr} {te : TE} {p pos tpos : Pos} {elts : List Expr} {kk : Nat} (hg : Gl X "enumerate") (hm : X.mg "enumerate" = none) (he : PE X ex te) (hs : starEach [ex] X.env = (false, eval ex X.env) :: starEach [] X.env := by rfl) :
  PI X (.Tuple elts kk tpos) (.Call (.Name "enumerate" p) [ex] [] pos) (iEnumT X.K te) := by
 refine ⟨fun pins s σ H R I h => ?_⟩
 refine Call_ (ld_blt I hg hm boot_enumerate (PyProof.Rows.callWith_type1 (args_cons (thn (he.run pins s σ H _ I h) fun u s1 ⟨v, H1, I1, r1, q1⟩ => args_nil ?_) hs) hs rfl))
 obtain ⟨a, xs, ev, hq, q⟩ := q1
 subst ev
 cases r1
 obtain ⟨its, rv, pt, hz⟩ := I1.tuple hq
 have ht : s1.heap.IsTuple a its.toArray := pt
 have hal : a < s1.heap.objs.size := by obtain ⟨_, z, _⟩ := ht; exact Heap.lt_size z
 refine call_enumT ht fun h2 he2 hit hk => wpAny_pyIter_enum he2 ?_
 have I2 : Inv X pins σ H1 { s1 with heap := h2 } := I1.kept (t' := s1.toks) hk
 refine ⟨s1.heap.objs.size + 1, [s1.heap.objs.size + 1, s1.heap.objs.size], _, _, H1, rfl, I2, turn_enumT a (s1.heap.objs.size + 1) s1.heap.objs.size (Nat.succ_ne_self _) (Nat.ne_of_lt hal) (Nat.ne_of_gt (Nat.lt_succ_of_lt hal)), ⟨⟨.none, he2⟩, hit⟩, fun b hb => ?_, q⟩
 have hle : s1.heap.objs.size <= b := by
  rcases (show b = s1.heap.objs.size + 1 \/ b = s1.heap.objs.size by simpa using hb) with z | z
  ·rw [z]; exact Nat.le_add_right _ _
  ·rw [z]; exact Nat.le_refl _
 exact I1.fpOk hle (I1.hok.fresh hle)
theorem walk_enumT {K : PySem.W.Frag} {a : Addr} {xs : List V} : Walk (IteT K a) xs.length (fun H => SqT K H a xs) (YPair (fun i => some (.int (i : Nat))) (fun i => xs[i]?)) := by
 refine ⟨fun i _ hi q => ⟨xs, xs[i], q, by simp [hi]⟩, fun _ q => ⟨xs, q, rfl⟩, fun i H v H2 _ q y => ?_⟩
 obtain ⟨T, x, h1, h2, h3, h4⟩ := y
 exact ⟨T, .int (i : Nat), x, h1, h2, h3, rfl, h4 xs q⟩
abbrev Pl := List Nat
def plInts (p : Pl) : List PyData := p.map fun n : Nat => .int (n : Int)
def plEnc (p : Pl) : PyData := .tuple (plInts p)
theorem pl_alikes : ∀ p q : Pl, alikeAll (plInts p) (plInts q) = true
 | [], _ => by simp [plInts, alikeAll]
 | _ :: _, [] => by simp [plInts, alikeAll]
 | a :: p, b :: q => by
  have := pl_alikes p q
  show alikeAll (.int a :: plInts p) (.int b :: plInts q) = true
  simp [alikeAll, alike, this]
theorem pl_eqvs : ∀ p q : Pl, PyData.eqvAll (plInts p) (plInts q) = decide (p = q)
 | [], [] => by simp [plInts, PyData.eqvAll]
 | [], _ :: _ => by simp [plInts, PyData.eqvAll]
 | _ :: _, [] => by simp [plInts, PyData.eqvAll]
 | a :: p, b :: q => by
  have ih := pl_eqvs p q
  show PyData.eqvAll (.int a :: plInts p) (.int b :: plInts q) = _
  simp only [PyData.eqvAll, PyData.eqv, ih, ib]
  by_cases h : a = b
  ·subst h; simp
  ·have : ¬ ((a : Int) = (b : Int)) := by omega
   simp [h, this]
instance : Orderly plEnc where
 al a b := by show alike (.tuple _) (.tuple _) = true; rw [alike]; exact pl_alikes a b
 eq a b := by show PyData.eqv (.tuple _) (.tuple _) = _; rw [PyData.eqv]; exact pl_eqvs a b
theorem pl_noList (p : Pl) : noList (plEnc p) = true := by
 have : ∀ p : Pl, noLists (plInts p) = true := by
  intro p
  induction p with
  | nil => simp [plInts, noLists]
  | cons a r ih => show noLists (.int a :: plInts r) = true; simp [noLists, noList, ih]
 show noList (.tuple _) = true
 rw [noList]; exact this p
theorem PL_ints {K : PySem.W.Frag} {H : Hp} {v : V} {p : Pl} (h : Dp K H v (plEnc p)) : ∃ a, v = .ref a /\ SqT K H a (p.map fun n : Nat => V.int (n : Int)) := by
 have key : ∀ {p : Pl} {xs : List V}, DpAll K H xs (plInts p) -> xs = p.map fun n : Nat => V.int (n : Int) := by
  intro p
  induction p with
  | nil => intro xs h; cases h; rfl
  | cons a r ih =>
   intro xs h
   cases h with
   | cons h1 h2 => cases h1; rw [ih h2]; rfl
 cases h with
 | tup hs ha => rw [key ha] at hs; exact ⟨_, rfl, hs⟩
theorem PL_of {K : PySem.W.Frag} {H : Hp} {a : Addr} {p : Pl} (h : SqT K H a (p.map fun n : Nat => V.int (n : Int))) : Dp K H (.ref a) (plEnc p) := by
 refine Dp.tup h ?_
 have key : ∀ p : Pl, DpAll K H (p.map fun n : Nat => V.int (n : Int)) (plInts p) := by
  intro p
  induction p with
  | nil => exact .nil
  | cons a r ih => exact .cons (.int _) ih
 exact key p
def Wh (K : PySem.W.Frag) (H : Hp) (v : V) (o : Option Int) : Prop := (∃ i, v = .int i /\ o = some i) \/ (o = none /\ ∃ (n : String) (b1 b2 : Bool), TyX K H v (.type n) /\ kitB n "int" = some b1 /\ (b1 = true -> kitB n "bool" = some b2) /\ (b1 && !b2) = false)
inductive Whs (K : PySem.W.Frag) (H : Hp) : List V -> List (Option Int) -> Prop where
 | nil : Whs K H [] []
 | cons {v : V} {o : Option Int} {vs : List V} {os : List (Option Int)} : Wh K H v o -> Whs K H vs os -> Whs K H (v :: vs) (o :: os)
section
variable {K : PySem.W.Frag} {H H' : Hp}
theorem Whs.length : ∀ {vs : List V} {os : List (Option Int)}, Whs K H vs os -> vs.length = os.length
 | _, _, .nil => rfl
 | _, _, .cons _ h => congrArg (· + 1) h.length
theorem Whs.get : ∀ {vs : List V} {os : List (Option Int)}, Whs K H vs os -> ∀ {i : Nat} {v : V}, vs[i]? = some v -> ∃ o, os[i]? = some o /\ Wh K H v o
 | _, _, .nil, i, v, e => by simp at e
 | _, _, .cons (o := o) h hs, 0, v, e => by
  have : _ = v := Option.some.inj e
  subst this; exact ⟨o, rfl, h⟩
 | _, _, .cons h hs, i + 1, v, e => hs.get (i := i) e
theorem Wh.sb {v : V} {o : Option Int} (h : Wh K H v o) (e : SB [] H H') : Wh K H' v o := by
 rcases h with h | ⟨h, n, b1, b2, ty, k⟩
 ·exact .inl h
 ·exact .inr ⟨h, n, b1, b2, TyX_sb e (fun _ _ => nmn) ty, k⟩
theorem Whs.sb (e : SB [] H H') : ∀ {vs : List V} {os : List (Option Int)}, Whs K H vs os -> Whs K H' vs os
 | _, _, .nil => .nil
 | _, _, .cons h hs => .cons (h.sb e) (Whs.sb e hs)
def plO (p : Pl) : List (Option Int) := p.map fun n : Nat => some (n : Int)
theorem Whs.pl (K : PySem.W.Frag) (H : Hp) : ∀ p : Pl, Whs K H (p.map fun n : Nat => V.int (n : Int)) (plO p)
 | [] => .nil
 | n :: r => .cons (.inl ⟨_, rfl, rfl⟩) (Whs.pl K H r)
end
def stp (g : Gr) : Option Int -> Option Tr
 | none => none
 | some n => if 0 <= n then (g.ps[n.toNat]?).map (·.1) else none
def lk : Tr -> List (Option Int) -> Option Tr
 | t, [] => some t
 | t, o :: r => (stp t.2 o).bind fun u => lk u r
theorem lk_append : ∀ (t : Tr) (as bs : List (Option Int)), lk t (as ++ bs) = (lk t as).bind fun u => lk u bs
 | t, [], bs => rfl
 | t, o :: r, bs => by
  show (stp t.2 o).bind (fun u => lk u (r ++ bs)) = ((stp t.2 o).bind fun u => lk u r).bind fun u => lk u bs
  cases stp t.2 o with
  | none => rfl
  | some u => exact lk_append u r bs
theorem lk_none {t : Tr} {os : List (Option Int)} {i : Nat} {o : Option Int} {u : Tr} (h1 : lk t (os.take i) = some u) (h2 : os[i]? = some o) (h3 : stp u.2 o = none) : lk t os = none := by
 have hl : i < os.length := (List.getElem?_eq_some_iff.mp h2).1
 have e : os = os.take i ++ o :: os.drop (i + 1) := by
  have := List.drop_eq_getElem_cons hl
  rw [(List.getElem?_eq_some_iff.mp h2).2] at this
  rw [<- this, List.take_append_drop]
 rw [e, lk_append, h1]
 show (stp u.2 o).bind _ = none
 rw [h3]; rfl
theorem lk_next {t : Tr} {os : List (Option Int)} {i : Nat} {o : Option Int} {u x : Tr} (h1 : lk t (os.take i) = some u) (h2 : os[i]? = some o) (h3 : stp u.2 o = some x) : lk t (os.take (i + 1)) = some x := by
 rw [List.take_add_one, h2, lk_append, h1]
 show (stp u.2 o).bind _ = some x
 rw [h3]; rfl
def spTreeAt (K : PySem.W.Frag) (C : Addr) : Sp := fun vs H Q E => ∃ (v : V) (g : Gr) (a : Addr) (xs : List V) (os : List (Option Int)), vs = [v, .ref a] /\ GA K H v g /\ SqT K H a xs /\ Whs K H xs os /\
 (∀ t, os ≠ [] -> lk ("", g) os = some t -> ∀ (x : V) (H' : Hp), SB [] H H' -> Dp K H' x (Gr.tEnc t) -> Q x H') /\ ((os = [] \/ lk ("", g) os = none) -> ∀ H', SB [] H H' -> E (.ref C) none H')
mutual
inductive Tg (K : PySem.W.Frag) (H : Hp) : V -> PyData -> Prop
 | int (i : Int) : Tg K H (.int i) (.int i)
 | str (z : Str) : z.length <= 1000 -> Tg K H (.str z) (.str z)
 | tup {a : Addr} {xs : List V} {ds : List PyData} : SqT K H a xs -> TgAll K H xs ds -> Tg K H (.ref a) (.tuple ds)
 | oth {v : V} {n : String} : TyX K H v (.type n) -> kitB n "tuple" = some false -> kitB n "str" = some false -> (kitB n "int" = some false \/ n = "bool") -> Tg K H v .none
inductive TgAll (K : PySem.W.Frag) (H : Hp) : List V -> List PyData -> Prop
 | nil : TgAll K H [] []
 | cons {v : V} {vs : List V} {d : PyData} {ds : List PyData} : Tg K H v d -> TgAll K H vs ds -> TgAll K H (v :: vs) (d :: ds)
end
mutual
def strip : PyData -> PyData
 | .int i => .int i
 | .tuple ds => .tuple (strips ds)
 | _ => .none
def strips : List PyData -> List PyData
 | [] => []
 | d :: r => strip d :: strips r
end
theorem many_strip (d : PyData) : manyD (strip d) = manyD d := by cases d <;> simp [strip, manyD]
section
variable {K : PySem.W.Frag} {H H' : Hp}
mutual
theorem Tg.th : ∀ {v : V} {d : PyData}, Tg K H v d -> Th K [] H v (strip d)
 | _, _, .int i => by rw [strip]; exact .int i
 | _, _, .str z _ => by rw [strip] <;> first | exact .oth (.base (.str z)) (by decide +kernel) (.inl (by decide +kernel)) (fun _ _ => nmn) | simp
 | _, _, .tup hs ha => by rw [strip]; exact .tup hs (TgAll.th ha)
 | _, _, .oth ty k1 _ k2 => by rw [strip] <;> first | exact .oth ty k1 k2 (fun _ _ => nmn) | simp
theorem TgAll.th : ∀ {vs : List V} {ds : List PyData}, TgAll K H vs ds -> ThAll K [] H vs (strips ds)
 | _, _, .nil => by rw [strips]; exact .nil
 | _, _, .cons h t => by rw [strips]; exact .cons (Tg.th h) (TgAll.th t)
end
mutual
theorem Tg_sb (e : SB [] H H') : ∀ {v : V} {d : PyData}, Tg K H v d -> Tg K H' v d
 | _, _, .int i => .int i
 | _, _, .str z hz => .str z hz
 | _, _, .tup hs ha => .tup (e.sqT hs) (TgAll_sb e ha)
 | _, _, .oth ty k0 k1 k2 => .oth (TyX_sb e (fun _ _ => nmn) ty) k0 k1 k2
theorem TgAll_sb (e : SB [] H H') : ∀ {vs : List V} {ds : List PyData}, TgAll K H vs ds -> TgAll K H' vs ds
 | _, _, .nil => .nil
 | _, _, .cons h t => .cons (Tg_sb e h) (TgAll_sb e t)
end
theorem TgAll.length : ∀ {vs : List V} {ds : List PyData}, TgAll K H vs ds -> vs.length = ds.length
 | _, _, .nil => rfl
 | _, _, .cons _ t => by rw [List.length_cons, List.length_cons, TgAll.length t]
theorem TgAll.get : ∀ {vs : List V} {ds : List PyData} {i : Nat} {v : V}, TgAll K H vs ds -> vs[i]? = some v -> ∃ d, ds[i]? = some d /\ Tg K H v d
 | _, _, _, _, .nil, e => by simp at e
 | _, _, 0, _, .cons h t, e => by simp at e; subst e; exact ⟨_, rfl, h⟩
 | _, _, i + 1, v, .cons h t, e => by
  obtain ⟨d, h1, h2⟩ := TgAll.get (i := i) (v := v) t (by simpa using e)
  exact ⟨d, by simpa using h1, h2⟩
theorem Tg.ty {v : V} {d : PyData} (h : Tg K H v d) : ∃ n b, TyX K H v (.type n) /\ kitB n "tuple" = some b /\ (b = true -> ∃ a xs ds, v = .ref a /\ d = .tuple ds /\ SqT K H a xs /\ TgAll K H xs ds) /\ (b = false -> ∀ ds, d ≠ .tuple ds) := by
 cases h with
 | int i => exact ⟨"int", false, .base (.int i), by decide +kernel, fun z => (nomatch z), fun _ ds z => nomatch z⟩
 | str z hz => exact ⟨"str", false, .base (.str z), by decide +kernel, fun z => (nomatch z), fun _ ds z => nomatch z⟩
 | tup hs ha => exact ⟨"tuple", true, (SqT_ty hs), by decide +kernel, fun _ => ⟨_, _, _, rfl, rfl, hs, ha⟩, fun z => (nomatch z)⟩
 | oth ty k1 _ k2 => exact ⟨_, false, ty, k1, fun z => (nomatch z), fun _ ds z => nomatch z⟩
theorem Tg.txt {v : V} {d : PyData} (h : Tg K H v d) : ∃ n b, TyX K H v (.type n) /\ kitB n "str" = some b /\ (b = true -> ∃ z, v = .str z /\ d = .str z /\ z.length <= 1000) /\ (b = false -> ∀ z, d ≠ .str z) := by
 cases h with
 | int i => exact ⟨"int", false, .base (.int i), by decide +kernel, fun z => (nomatch z), fun _ ds z => nomatch z⟩
 | str z hz => exact ⟨"str", true, .base (.str z), by decide +kernel, fun _ => ⟨z, rfl, rfl, hz⟩, fun z => (nomatch z)⟩
 | tup hs ha => exact ⟨"tuple", false, (SqT_ty hs), by decide +kernel, fun z => (nomatch z), fun _ ds z => nomatch z⟩
 | oth ty _ k1 k2 => exact ⟨_, false, ty, k1, fun z => (nomatch z), fun _ ds z => nomatch z⟩
end
instance (z : Str) : Decidable (NameOk z) := inferInstanceAs (Decidable (_ /\ _ /\ _))
def nameD : PyData -> Bool
 | .str z => decide (NameOk z)
 | _ => false
mutual
def groveD : PyData -> Bool
 | .tuple ds => grPs ds && risingD (ds.map exp0)
 | _ => false
def grPs : List PyData -> Bool
 | [] => true
 | d :: ds => grP d && grPs ds
def grP : PyData -> Bool
 | .tuple ds => grP2 ds
 | _ => false
def grP2 : List PyData -> Bool
 | [] => false
 | t :: r => treeD t && ladP3 r
def treeD : PyData -> Bool
 | .tuple ds => trD2 ds
 | _ => false
def trD2 : List PyData -> Bool
 | [] => false
 | k :: r => nameD k && trD3 r
def trD3 : List PyData -> Bool
 | [] => false
 | g :: r => groveD g && r.isEmpty
end
theorem ladP3_iff {r : List PyData} (h : ladP3 r = true) : ∃ i, r = [.int i] /\ (1 : Int) <= i := by
 match r, h with
 | [], h => simp [ladP3] at h
 | .int i :: [], h => simp [ladP3, manyD] at h; exact ⟨i, rfl, h⟩
 | .int i :: _ :: _, h => simp [ladP3] at h
 | .none :: _, h => simp [ladP3, manyD] at h
 | .bool _ :: _, h => simp [ladP3, manyD] at h
 | .str _ :: _, h => simp [ladP3, manyD] at h
 | .list _ :: _, h => simp [ladP3, manyD] at h
 | .dict _ :: _, h => simp [ladP3, manyD] at h
 | .tuple _ :: _, h => simp [ladP3, manyD] at h
theorem nameD_iff {d : PyData} (h : nameD d = true) : ∃ z, d = .str z /\ NameOk z := by
 cases d with
 | str z => exact ⟨z, rfl, of_decide_eq_true h⟩
 | _ => simp [nameD] at h
mutual
theorem groveD_gr : ∀ d : PyData, groveD d = true -> ∃ g : Gr, d = g.enc
 | .tuple ds, h => by
  rw [groveD, Bool.and_eq_true] at h
  obtain ⟨g, e⟩ := grPs_enc ds h.1
  exact ⟨g, by rw [e]; rfl⟩
 | .none, h => by simp [groveD] at h
 | .bool _, h => by simp [groveD] at h
 | .int _, h => by simp [groveD] at h
 | .str _, h => by simp [groveD] at h
 | .list _, h => by simp [groveD] at h
 | .dict _, h => by simp [groveD] at h
theorem grPs_enc : ∀ ds : List PyData, grPs ds = true -> ∃ g : Gr, ds = g.encs
 | [], _ => ⟨.nil, rfl⟩
 | d :: ds, h => by
  rw [grPs, Bool.and_eq_true] at h
  obtain ⟨r, er⟩ := grPs_enc ds h.2
  obtain ⟨t, i, ed, he⟩ := grP_enc d h.1
  exact ⟨.cons t.1 t.2 i r, by rw [er, ed]; rfl⟩
theorem grP_enc : ∀ d : PyData, grP d = true -> ∃ (t : Tr) (i : Int), d = .tuple [Gr.tEnc t, .int i] /\ (1 : Int) <= i
 | .tuple ds, h => by
  rw [grP] at h
  obtain ⟨e, i, ed, he⟩ := grP2_enc ds h
  exact ⟨e, i, by rw [ed], he⟩
 | .none, h => by simp [grP] at h
 | .bool _, h => by simp [grP] at h
 | .int _, h => by simp [grP] at h
 | .str _, h => by simp [grP] at h
 | .list _, h => by simp [grP] at h
 | .dict _, h => by simp [grP] at h
theorem grP2_enc : ∀ ds : List PyData, grP2 ds = true -> ∃ (t : Tr) (i : Int), ds = [Gr.tEnc t, .int i] /\ (1 : Int) <= i
 | [], h => by simp [grP2] at h
 | d :: r, h => by
  rw [grP2, Bool.and_eq_true] at h
  obtain ⟨t, et⟩ := treeD_tr d h.1
  obtain ⟨i, er, hi⟩ := ladP3_iff h.2
  exact ⟨t, i, by rw [et, er], hi⟩
theorem treeD_tr : ∀ d : PyData, treeD d = true -> ∃ t : Tr, d = Gr.tEnc t
 | .tuple ds, h => by
  rw [treeD] at h
  obtain ⟨t, et⟩ := trD2_enc ds h
  exact ⟨t, by rw [et]; rfl⟩
 | .none, h => by simp [treeD] at h
 | .bool _, h => by simp [treeD] at h
 | .int _, h => by simp [treeD] at h
 | .str _, h => by simp [treeD] at h
 | .list _, h => by simp [treeD] at h
 | .dict _, h => by simp [treeD] at h
theorem trD2_enc : ∀ ds : List PyData, trD2 ds = true -> ∃ t : Tr, ds = [.str t.1, t.2.enc]
 | [], h => by simp [trD2] at h
 | d :: r, h => by
  rw [trD2, Bool.and_eq_true] at h
  obtain ⟨z, ez, _⟩ := nameD_iff h.1
  obtain ⟨g, eg⟩ := trD3_enc r h.2
  exact ⟨(z, g), by rw [ez, eg]⟩
theorem trD3_enc : ∀ ds : List PyData, trD3 ds = true -> ∃ g : Gr, ds = [g.enc]
 | [], h => by simp [trD3] at h
 | d :: r, h => by
  rw [trD3, Bool.and_eq_true] at h
  obtain ⟨g, eg⟩ := groveD_gr d h.1
  have : r = [] := by cases r with | nil => rfl | cons _ _ => simp at h
  exact ⟨g, by rw [eg, this]⟩
end
section
variable {K : PySem.W.Frag} {H : Hp}
theorem GA_tg {C : Int} : ∀ (g : Gr) {vs : List V}, g.Ok C -> DpAll K H vs g.encs -> TgAll K H vs g.encs
 | .nil, vs, _, h => by cases h; exact .nil
 | .cons k g m r, vs, ho, h => by
  cases h with
  | cons h1 h2 =>
   refine .cons ?_ (GA_tg r ho.2.2.2.2.1 h2)
   cases h1 with
   | tup hs ha =>
    cases ha with
    | cons h3 h4 =>
     cases h4 with
     | cons h5 h6 =>
      cases h6; cases h5
      refine .tup hs (.cons ?_ (.cons (.int _) .nil))
      cases h3 with
      | tup hs2 hb =>
       cases hb with
       | cons h7 h8 =>
        cases h8 with
        | cons h9 h10 =>
         cases h10; cases h7
         cases h9 with
         | tup hs3 hc => exact .tup hs2 (.cons (.str _ (by have := ho.1.2.1; simp [Str.length]; simp at this; omega)) (.cons (.tup hs3 (GA_tg g ho.2.1 hc)) .nil))
theorem Tg_ga : ∀ (g : Gr) {vs : List V}, TgAll K H vs g.encs -> DpAll K H vs g.encs
 | .nil, vs, h => by cases h; exact .nil
 | .cons k g m r, vs, h => by
  cases h with
  | cons h1 h2 =>
   refine .cons ?_ (Tg_ga r h2)
   cases h1 with
   | tup hs ha =>
    cases ha with
    | cons h3 h4 =>
     cases h4 with
     | cons h5 h6 =>
      cases h6; cases h5
      refine .tup hs (.cons ?_ (.cons (.int _) .nil))
      cases h3 with
      | tup hs2 hb =>
       cases hb with
       | cons h7 h8 =>
        cases h8 with
        | cons h9 h10 =>
         cases h10; cases h7
         cases h9 with
         | tup hs3 hc => exact .tup hs2 (.cons (.str _) (.cons (.tup hs3 (Tg_ga g hc)) .nil))
end
def spName (K : PySem.W.Frag) : Sp := fun vs H Q _ => ∃ (v : V) (d : PyData), vs = [v] /\ Tg K H v d /\ ∀ H', SB [] H H' -> Q (.bl (nameD d)) H'
def spIsTree (K : PySem.W.Frag) (n : Nat) : Sp := fun vs H Q _ => ∃ (v : V) (d : PyData), vs = [v] /\ Tg K H v d /\ d.depth < n /\ d.depth <= 80 /\ wide d <= 1000 /\ ∀ H', SB [] H H' -> Q (.bl (treeD d)) H'
def spIsGrove (K : PySem.W.Frag) (n : Nat) : Sp := fun vs H Q _ => ∃ (v : V) (d : PyData), vs = [v] /\ Tg K H v d /\ d.depth < n /\ d.depth <= 80 /\ wide d <= 1000 /\ ∀ H', SB [] H H' -> Q (.bl (groveD d)) H'
def spPairsQ (K : PySem.W.Frag) (tp : Bool) (n : Nat) : Sp := fun vs H Q _ => ∃ (a : Addr) (xs : List V) (ds : List PyData), vs = [.ref a] /\ (if tp = true then SqT K H a xs else SqL K H a xs) /\ TgAll K H xs ds /\ PyData.depthAll ds < n /\ PyData.depthAll ds <= 79 /\ wide (.tuple ds) <= 1000 /\ ∀ H', SB [] H H' -> Q (.bl (grPs ds)) H'
def spRunOf (K : PySem.W.Frag) : Sp := fun vs H Q _ => ∃ (z y : Str) (k : Nat), vs = [.str z, .int (k : Int), .str y] /\ z.length <= 100000 /\ k <= z.length /\ ∀ e : Nat, k <= e -> e <= z.length -> (∀ j c, k <= j -> j < e -> z.cps.toList[j]? = some c -> c ∈ y.cps.toList) -> (∀ c, z.cps.toList[e]? = some c -> c ∉ y.cps.toList) -> Q (.str (cutS z (some (k : Int)) (some (e : Int)))) H
theorem mem_abc (c : Nat) : c ∈ abc.cps.toList ↔ 97 <= c /\ c <= 122 := by
 have e : abc.cps.toList = (List.range 26).map (· + 97) := by decide +kernel
 rw [e, List.mem_map]
 constructor
 ·rintro ⟨x, hx, rfl⟩
  have := List.mem_range.mp hx
  omega
 ·intro h
  exact ⟨c - 97, List.mem_range.mpr (by omega), by omega⟩
theorem len_cps (z : Str) : z.cps.toList.length = z.length := by simp [Str.length]
theorem cut0 (z : Str) {e : Nat} (he : e <= z.length) : (cutS z (some ((0 : Nat) : Int)) (some (e : Int))).cps.toList = z.cps.toList.take e := by
 unfold cutS
 rw [HT.sIx_nat, HT.sIx_nat]
 simp [Nat.min_eq_left he]
theorem run_name {z : Str} {e : Nat} (h1 : 1 <= z.length) (h8 : z.length <= 8) (he : e <= z.length) (hin : ∀ j c, 0 <= j -> j < e -> z.cps.toList[j]? = some c -> c ∈ abc.cps.toList) (hout : ∀ c, z.cps.toList[e]? = some c -> c ∉ abc.cps.toList) :
  decide (V.str (cutS z (some ((0 : Nat) : Int)) (some (e : Int))) = V.str z) = nameD (.str z) := by
 have hl := len_cps z
 rw [Bool.eq_iff_iff, decide_eq_true_iff, nameD, decide_eq_true_iff]
 constructor
 ·intro h
  injection h with h
  have h2 := cut0 z he
  rw [h] at h2
  have h3 : z.cps.toList.length = min e z.cps.toList.length := by
   have := congrArg List.length h2
   rwa [List.length_take] at this
  refine ⟨by omega, by omega, fun c hc => ?_⟩
  obtain ⟨j, hj⟩ := List.mem_iff_getElem?.mp hc
  have hj2 := (List.getElem?_eq_some_iff.mp hj).1
  exact (mem_abc c).mp (hin j c (Nat.zero_le _) (by omega) hj)
 ·rintro ⟨_, _, hall⟩
  have e1 : e = z.length := by
   rcases Nat.lt_or_ge e z.length with h | h
   ·obtain ⟨c, hc⟩ : ∃ c, z.cps.toList[e]? = some c := ⟨_, List.getElem?_eq_getElem (by omega)⟩
    exact absurd ((mem_abc c).mpr (hall c (List.mem_of_getElem? hc))) (hout c hc)
   ·omega
  have h2 := cut0 z he
  rw [e1, <- hl, List.take_length] at h2
  congr 1
  have h3 : ∀ a b : Str, a.cps.toList = b.cps.toList -> a = b := by
   intro a b hab
   cases a; cases b
   congr 1
   exact Array.toList_inj.mp hab
  rw [e1, <- hl]
  exact h3 _ _ h2
theorem name_out {z : Str} (h : ¬ (1 <= z.length /\ z.length <= 8)) : nameD (.str z) = false := by
 have hl := len_cps z
 rw [nameD]
 exact decide_eq_false fun ⟨h1, h2, _⟩ => h ⟨by omega, by omega⟩
theorem nameD_ok {z : Str} (h : NameOk z) : nameD (.str z) = true := decide_eq_true h
theorem treeD_of {t : Tr} (h0 : NameOk t.1) (h : groveD t.2.enc = true) : treeD (Gr.tEnc t) = true := by
 rw [Gr.tEnc, treeD, trD2, trD3, nameD_ok h0, h]; rfl
theorem grP_of {t : Tr} {m : Int} (h0 : NameOk t.1) (h : groveD t.2.enc = true) (hm : 1 <= m) : grP (Gr.pEnc (t, m)) = true := by
 show grP (.tuple [Gr.tEnc t, .int m]) = true
 rw [grP, grP2, ladP3, treeD_of h0 h]
 simp [manyD, hm]
theorem groveD_ok {C : Int} : ∀ {g : Gr}, g.Ok C -> groveD g.enc = true
 | .nil, _ => by decide +kernel
 | .cons k g m r, ⟨h0, h1, h2, h3, h4, h5⟩ => by
  have a1 := groveD_ok h1
  have a2 := groveD_ok h4
  rw [Gr.enc, groveD, Bool.and_eq_true] at a2
  have hp : grP (Gr.pEnc ((k, g), m)) = true := grP_of h0 a1 h2
  have e : (Gr.cons k g m r).encs = Gr.pEnc ((k, g), m) :: r.encs := rfl
  rw [Gr.enc, groveD, e, grPs, hp, a2.1, Bool.true_and, Bool.true_and, List.map_cons]
  cases r with
  | nil => rfl
  | cons k2 g2 m2 r2 =>
   have hlt : dataLt (Gr.tEnc (k, g)) (Gr.tEnc (k2, g2)) = true := h5 ((k2, g2), m2) (mcs ..)
   have e2 : (Gr.cons k2 g2 m2 r2).encs = Gr.pEnc ((k2, g2), m2) :: r2.encs := rfl
   have a3 := a2.2
   rw [e2, List.map_cons] at a3 ⊢
   show (dataLt (Gr.tEnc (k, g)) (Gr.tEnc (k2, g2)) :: ltsD _).all id = true
   rw [List.all_cons, show id (dataLt (Gr.tEnc (k, g)) (Gr.tEnc (k2, g2))) = true from hlt, Bool.true_and]
   exact a3
theorem wides_gr : ∀ g : Gr, wides g.encs <= 2 + g.parts /\ g.encs.length <= g.parts
 | .nil => ⟨by show wides [] <= _; rw [wides]; omega, Nat.le_refl _⟩
 | .cons k g m r => by
  obtain ⟨h1, h2⟩ := wides_gr g
  obtain ⟨h3, h4⟩ := wides_gr r
  have e : (Gr.cons k g m r).encs = Gr.pEnc ((k, g), m) :: r.encs := rfl
  have e2 : wide (Gr.pEnc ((k, g), m)) <= 2 + g.parts := by
   show wide (.tuple [.tuple [.str k, .tuple g.encs], .int m]) <= _
   simp only [wide, wides, List.length_cons, List.length_nil]
   omega
  rw [e, wides, List.length_cons]
  show _ <= 2 + (1 + g.parts + r.parts) /\ _ <= 1 + g.parts + r.parts
  omega
section
variable {K : PySem.W.Frag} {H : Hp} {C : Int}
theorem GA_thing {g : Gr} {v : V} (ho : g.Ok C) (h : GA K H v g) : Tg K H v g.enc := by
 cases (h : Dp K H v (.tuple g.encs)) with
 | tup hs ha => exact .tup hs (GA_tg g ho ha)
theorem name_short {z : Str} (h : NameOk z) : z.length <= 1000 := by
 have := h.2.1
 rw [len_cps] at this
 omega
end
theorem atI_end {α : Type} {xs : List α} {v : α} (h : xs[xs.length - 1]? = some v) : atI xs (-1) = some v := by
 rcases List.eq_nil_or_concat xs with e | ⟨ys, u, e⟩
 ·subst e; simp at h
 ·rw [List.concat_eq_append] at e
  subst e
  have : u = v := by simpa using h
  subst this
  exact atI_last ys u
theorem SB.setD {H : Hp} {p : Addr} {kvs : List (Key × V)} {ps : List Addr} (h : H p = some (.dK kvs)) (hp : p ∈ ps) (o : HO) : SB ps H (upd H p o) := by
 refine ⟨fun b u e n => ?_, fun b u e => ?_, fun b v u e => ?_, fun b e => ?_⟩
 ·rw [upd_ne (fun (z : b = p) => n (by rw [z]; exact hp))]; exact e
 ·rw [upd_ne (fun (z : b = p) => by subst z; rw [h] at e; cases e)]; exact e
 ·rw [upd_ne (fun (z : b = p) => by subst z; rw [h] at e; cases e)]; exact e
 ·by_cases q : b = p
  ·subst q; rw [upd_same] at e; cases e
  ·rw [upd_ne q] at e; exact e
open TL (tl)
def numT (m : Int) : List Nat := if m = 1 then [] else TL.numL m.toNat ++ [32]
namespace Gr
def body : Gr -> List Nat
 | .nil => []
 | .cons k g m r => numT m ++ (tl k ++ ((if g = .nil then [] else 123 :: (g.body ++ [125])) ++ (if r = .nil then [] else 44 :: 32 :: r.body)))
def held (g : Gr) : List Nat := if g = .nil then [] else 123 :: (g.body ++ [125])
def more (r : Gr) : List Nat := if r = .nil then [] else 44 :: 32 :: r.body
def text (g : Gr) : List Nat := if g = .nil then [45] else g.body
theorem body_cons (k : Str) (g : Gr) (m : Int) (r : Gr) : (Gr.cons k g m r).body = numT m ++ (tl k ++ (g.held ++ r.more)) := rfl
def pText (p : Tr × Int) : List Nat := numT p.2 ++ (tl p.1.1 ++ p.1.2.held)
theorem body_join : ∀ g : Gr, g ≠ .nil -> g.body = TL.joinL [44, 32] (g.ps.map pText)
 | .nil, h => absurd rfl h
 | .cons k g m r, _ => by
  rw [body_cons]
  cases r with
  | nil =>
   show numT m ++ (tl k ++ (g.held ++ [])) = numT m ++ (tl k ++ g.held)
   rw [List.append_nil]
  | cons k2 g2 m2 r2 =>
   have ih := body_join (.cons k2 g2 m2 r2) (fun z => nomatch z)
   show numT m ++ (tl k ++ (g.held ++ (44 :: 32 :: (Gr.cons k2 g2 m2 r2).body))) = (numT m ++ (tl k ++ g.held)) ++ ([44, 32] ++ TL.joinL [44, 32] ((Gr.cons k2 g2 m2 r2).ps.map pText))
   rw [ih]
   simp
end Gr
theorem numT_len {m : Int} {C : Nat} (hC : 0 < C) (h0 : 0 <= m) (h : m < 10 ^ C) : (numT m).length <= C + 1 := by
 unfold numT
 split
 ·simp
 ·obtain ⟨n, rfl⟩ : ∃ n : Nat, m = (n : Int) := ⟨m.toNat, by omega⟩
  have h' : n < 10 ^ C := by exact_mod_cast h
  have := TL.numL_len hC h'
  rw [List.length_append, Int.toNat_natCast]; simp; omega
namespace Gr
theorem body_len {C : Nat} (hC : 0 < C) : ∀ {g : Gr}, g.Ok (10 ^ C) -> g.body.length <= (C + 13) * g.parts
 | .nil, _ => Nat.zero_le _
 | .cons k g m r, ⟨h0, h1, h2, h3, h4, _⟩ => by
  have a := body_len hC h1
  have b := body_len hC h4
  have c := numT_len hC (by omega) h3
  have d := h0.2.1
  have e1 : g.held.length <= (C + 13) * g.parts + 2 := by unfold held; split <;> simp <;> omega
  have e2 : r.more.length <= (C + 13) * r.parts + 2 := by unfold more; split <;> simp <;> omega
  rw [body_cons]
  simp only [List.length_append, parts]
  have e3 : (C + 13) * (1 + g.parts + r.parts) = (C + 13) + (C + 13) * g.parts + (C + 13) * r.parts := by rw [Nat.mul_add, Nat.mul_add, Nat.mul_one]
  have d' : (tl k).length <= 8 := d
  omega
end Gr
open TL (tl)
def spShowG (K : PySem.W.Frag) (n : Nat) : Sp := fun vs H Q _ => ∃ (v : V) (g : Gr), vs = [v] /\ GA K H v g /\ g.deep < n /\ g.Ok (10 ^ 500) /\ g.parts <= 1000 /\ ∀ (z : Str) (H' : Hp), SB [] H H' -> tl z = g.text -> Q (.str z) H'
def spShowT (K : PySem.W.Frag) (n : Nat) : Sp := fun vs H Q _ => ∃ (v : V) (t : Tr), vs = [v] /\ Dp K H v (Gr.tEnc t) /\ NameOk t.1 /\ t.2.deep < n /\ t.2.Ok (10 ^ 500) /\ t.2.parts <= 1000 /\ ∀ (z : Str) (H' : Hp), SB [] H H' -> tl z = tl t.1 ++ t.2.held -> Q (.str z) H'
def spShowP (K : PySem.W.Frag) (n : Nat) : Sp := fun vs H Q _ => ∃ (v : V) (t : Tr) (m : Int), vs = [v, .int m] /\ Dp K H v (Gr.tEnc t) /\ NameOk t.1 /\ t.2.deep < n /\ t.2.Ok (10 ^ 500) /\ t.2.parts <= 1000 /\ 1 <= m /\ m < 10 ^ 500 /\ ∀ (z : Str) (H' : Hp), SB [] H H' -> tl z = Gr.pText (t, m) -> Q (.str z) H'
theorem held_len {g : Gr} (h : g.Ok (10 ^ 500)) (hp : g.parts <= 1000) : g.held.length <= 513002 := by
 have := Gr.body_len (C := 500) (by decide) h
 unfold Gr.held
 split
 ·simp
 ·simp; omega
theorem log_small {m : Int} (h0 : 0 <= m) (h : m < 10 ^ 500) : m.natAbs.log2 < 1920 := by
 obtain ⟨n, rfl⟩ : ∃ n : Nat, m = (n : Int) := ⟨m.toNat, by omega⟩
 show n.log2 < 1920
 by_cases hn : n = 0
 ·subst hn; decide
 ·refine (Nat.log2_lt hn).mpr (Nat.lt_trans (show n < 10 ^ 500 by exact_mod_cast h) (by decide +kernel))
theorem num_tl {m : Int} (h0 : 0 <= m) : tl (Str.ofString (toString m)) = TL.numL m.toNat := by
 obtain ⟨n, rfl⟩ : ∃ n : Nat, m = (n : Int) := ⟨m.toNat, by omega⟩
 rw [TL.tl_num, Int.toNat_natCast]
theorem str_len {m : Int} (h0 : 0 <= m) (h : m < 10 ^ 500) : (Str.ofString (toString m)).length <= 500 := by
 rw [TL.len_tl, num_tl h0]
 obtain ⟨n, rfl⟩ : ∃ n : Nat, m = (n : Int) := ⟨m.toNat, by omega⟩
 exact TL.numL_len (by decide) (by rw [Int.toNat_natCast]; exact_mod_cast h)
theorem none_showG {P : Program} {w : World} {K : PySem.W.Frag} {mg : Str -> Option Value} {base : Heap} {f : Addr} {fd : FuncData} {ps : List Str} {k : Nat} : FnOk P w K mg base CX0 k f fd ps (spShowG K 0) := none_sp fun vs H Q E ⟨v, g, _, _, h, _⟩ => by omega
theorem pText_len {t : Tr} {m : Int} (hn : NameOk t.1) (ho : t.2.Ok (10 ^ 500)) (hp : t.2.parts <= 1000) (h1 : 1 <= m) (hm : m < 10 ^ 500) : (Gr.pText (t, m)).length <= 13 + 500 + (513 * t.2.parts + 2) := by
 have h2 := numT_len (C := 500) (by decide) (by omega) hm
 have h3 := Gr.body_len (C := 500) (by decide) ho
 have h4 : (tl t.1).length <= 8 := hn.2.1
 have h5 : t.2.held.length <= 513 * t.2.parts + 2 := by
  unfold Gr.held
  split
  ·simp
  ·simp; omega
 show (numT m ++ (tl t.1 ++ t.2.held)).length <= _
 rw [List.length_append, List.length_append]
 omega
def met (xs : List Str) : Nat -> List Str
 | 0 => []
 | i + 1 => if (met xs i).any (· == xs.getD i Str.empty) = true then met xs i else met xs i ++ [xs.getD i Str.empty]
theorem met_le (xs : List Str) : ∀ i, (met xs i).length <= i
 | 0 => Nat.le_refl _
 | i + 1 => by
  have := met_le xs i
  unfold met
  split
  ·omega
  ·rw [List.length_append]; simp; omega
theorem met_any (xs : List Str) (i : Nat) (k : Str) : (met xs (i + 1)).any (· == k) = ((met xs i).any (· == k) || decide (k = xs.getD i Str.empty)) := by
 rw [met]
 by_cases e : k = xs.getD i Str.empty
 ·subst e
  split
  ·rename_i h; rw [h]; simp
  ·simp
 ·rw [decide_eq_false e, Bool.or_false]
  split
  ·rfl
  ·rw [List.any_append]
   have : ([xs.getD i Str.empty].any (· == k)) = false := by
    simp only [List.any_cons, List.any_nil, Bool.or_false, beq_eq_false_iff_ne]
    exact fun z => e z.symm
   rw [this, Bool.or_false]
theorem met_len (xs : List Str) (i : Nat) : (met xs (i + 1)).length = if (met xs i).any (· == xs.getD i Str.empty) = true then (met xs i).length else (met xs i).length + 1 := by
 rw [met]; split <;> simp
abbrev SetOfS (P : Program) (w : World) (h : Heap) (a : Addr) (L : List Str) : Prop := h.SetOf (PySem.strKind P w) a (fun k => L.any (· == k)) L.length
theorem SetOfS.keep {P : Program} {w : World} {h h' : Heap} {a : Addr} {L : List Str} (S : SetOfS P w h a L) (k : ∀ o, h.get? a = some o -> h'.get? a = some o) : SetOfS P w h' a L := by
 obtain ⟨o, es, ep, t, ho, r⟩ := S; exact ⟨o, es, ep, t, k o ho, r⟩
section
variable {P : Program} {w : World} {A : Around}
theorem met_loop {R : Result -> Shared -> Prop} {I : Addr} {fp wr : List Addr} {G : Array GenState -> Array GenState -> Prop} {n : Nat} {Pv : Nat -> Value -> Prop} {St : Nat -> Shared -> Prop} (W : WalksS P w A.in1 I fp wr G n Pv St) (S : Addr) (hSf : S ∉ fp) (xs : List Str) (hn : n + 1 < scanBound)
  (hval : ∀ i v, Pv i v -> ∃ t, v = .str (xs.getD i Str.empty) t) : ∀ (k i : Nat) (s : Shared), k + i = n -> St i s -> SetOfS P w s.heap S (met xs i) ->
   (∀ s', Moved (S :: wr) G s s' -> SetOfS P w s'.heap S (met xs n) -> R (.ok (.ret .none)) s') -> codeAny (model P w) A (.builtin "set.update.loop" ⟨[.ref S, .ref I], []⟩) R s := by
 have out : S ∉ wr := fun z => hSf (W.sub _ z)
 have up : ∀ b ∈ wr, b ∈ S :: wr := fun b z => mcm _ z
 intro k
 induction k with
 | zero =>
  intro i s e st hS hR
  rw [Nat.zero_add] at e; subst e
  refine codeAny_builtin F.entry_set_update_loop (by
   rw [Around.under_plainId F.plain_set_update_loop _]
   show wpAny _ A.in1 (pyNext (.ref I) >>= _) _ _ s
   refine wpAny_bind (W.done s _ _ st fun s' hm => ?_)
   show wpAny _ A.in1 (ret Value.none) _ _ s'
   exact wpAny_pure (hR s' (hm.mono up) (hS.keep fun o e => hm.heap S o out e)))
 | succ k ih =>
  intro i s e st hS hR
  have lt : i < n := by omega
  refine codeAny_builtin F.entry_set_update_loop (by
   rw [Around.under_plainId F.plain_set_update_loop _]
   show wpAny _ A.in1 (pyNext (.ref I) >>= _) _ _ s
   refine wpAny_bind (W.item i s _ _ lt st fun v s' hP st' hm => ?_)
   obtain ⟨t, rfl⟩ := hval i v hP
   have hS' : SetOfS P w s'.heap S (met xs i) := hS.keep fun o e => hm.heap S o out e
   show wpAny _ A.in1 (holding [Value.str (xs.getD i Str.empty) t] (setAdd S (.str (xs.getD i Str.empty) t)) >>= _) _ _ s'
   refine wpAny_bind (wpAny_holding ?_)
   unfold setAdd
   refine wpAny_holding (wpAny_bind ((PySem.strKind P w).pyHash (k := xs.getD i Str.empty) (PySem.Froz.is_str _ _) ?_))
   have room : (met xs i).length + 1 < scanBound := by have := met_le xs i; omega
   refine wpAny_setAddHashed_of (knd := PySem.strKind P w) (s := { s' with toks := s'.toks + 1 }) (PySem.Froz.is_str _ _) rfl hS' room fun h' hsb hS2 => ?_
   have hSi : SetOfS P w h' S (met xs (i + 1)) := SetOf_congr hS2 (fun k' => (met_any xs i k').symm) (met_len xs i).symm
   refine wpAny_pure ⟨plainId_quiet F.plain_set_update_loop _, ih (i + 1) _ (by omega) (W.frame _ s' _ _ st' (Nat.le_succ _) fun b hb o e => ?_) hSi fun s'' hm'' hS'' => ?_⟩
   ·rw [hsb.2 b fun z : b = S => hSf (z ▸ hb)]; exact e
   ·refine hR s'' (Moved.trans W.gtrans ((hm.mono up).then_heap (Nat.le_succ _) fun b o hb e => ?_) hm'') hS''
    rw [hsb.2 b fun z : b = S => hb (z ▸ mcs)]; exact e)
abbrev eo (led : Bool) : Obj := { cls := .type "set", dict := none, data := .set #[] 0 (.fresh 0 0 led) }
set_option maxHeartbeats 8000000 in
theorem call_setS {E : Value -> Shared -> Prop} {s : Shared} {l : Addr} {its : Array Value} {xs : List Str} {Q : Value -> Shared -> Prop} (hh : A.handled = none) (hl : s.heap.IsList l its) (hi : StrsAre its.toList xs) (hb : its.size + 1 < scanBound)
  (h : ∀ (h' : Heap) (tk : Nat), SetOfS P w h' s.heap.objs.size (met xs its.size) -> (∀ b o, b < s.heap.objs.size -> s.heap.get? b = some o -> h'.get? b = some o) -> Q (.ref s.heap.objs.size) { s with heap := h', toks := tk }) :
  wpAny (model P w) A (call (.type "set") [.ref l]) Q E s := by
 obtain ⟨c, tl', hmro⟩ := PySem.F.called_set.mro
 have k1 := PySem.F.called_set.made; have k2 := PySem.F.called_set.sub
 refine wpAny_call (codeAny_of_tree (by
  show wpAny _ _ (callAny (.type "set") _) _ _ _
  refine wpAny_pure ⟨Code.quiet_builtin _ (by decide +kernel), codeAny_builtin PySem.F.entry_type_call ?_⟩
  rw [Around.under_plain (weight_type_call_type "set" [.ref l] []) rfl]
  have k3 := PySem.F.called_set.notType; have k4 := PySem.F.called_set.canCreate; have k5 := PySem.F.typeCall_set_1 (.ref l)
  repeat (any_goals (first | assumption | wp_step))
  refine codeAny_mono (code_set_new_1 (.ref l) (E := E) (Q₁ := fun ob z => ∃ led : Bool, ob = .ref s.heap.objs.size /\ z = { s with heap := s.heap.push (eo led) }) fun led => ⟨led, rfl, rfl⟩) fun r z hr => ?_
  cases r with
  | error e => exact hr
  | ok fl =>
  cases fl with
  | ret ob =>
   obtain ⟨led, rfl, rfl⟩ := hr
   have at0 : (s.heap.push (eo led)).get? s.heap.objs.size = some (eo led) := Heap.get?_push_size _ rfl
   have ty0 : Shared.TypeIs { s with heap := s.heap.push (eo led) } (.ref s.heap.objs.size) "set" := ⟨_, at0, rfl⟩
   have k6 := PySem.F.called_set.init.lookup; have k7 := PySem.F.called_set.init.bind (.ref s.heap.objs.size)
   repeat (any_goals (first | assumption | wp_step))
   refine codeAny_mono (codeAny_call_builtin (R := wants (fun r s₂ => r = .none /\ ∃ h' tk, s₂ = { s with heap := h', toks := tk } /\ SetOfS P w h' s.heap.objs.size (met xs its.size) /\ (∀ b o, b < s.heap.objs.size -> s.heap.get? b = some o -> h'.get? b = some o)) E) PySem.F.called_set.init.plain PySem.F.entry_set_init (check_set_init_1 ty0 ?_)) fun r₂ s₂ hr₂ => ?_
   ·obtain ⟨⟨oc, od, oda, osl⟩, hol, hcl, nl, hdl⟩ := hl
    simp only at hcl hdl
    subst hcl hdl
    have hol' : (s.heap.push (eo led)).get? l = some ⟨.type "list", od, .seq its nl, osl⟩ := Heap.get?_push_of_some _ hol
    have k8 := PySem.F.sub_list_set; have k9 := PySem.F.sub_list_frozenset
    have k10 : (Value.type "list" == Value.type "dict") = false := by decide
    have isl : (s.heap.push (eo led)).IsList l its := ⟨_, hol', rfl, nl, rfl⟩
    unfold Builtin.«set.__init__» noKeywords Builtin.Frozenset.updateFrom
    generalize hPI : pyIter = PI
    wp_walk
    subst hPI
    refine wpAny_pyIter_list isl (wpAny_bind (wpAny_runValue ?_))
    have ltl : l < s.heap.objs.size := Heap.lt_size hol
    have sz1 : (s.heap.push (eo led)).objs.size = s.heap.objs.size + 1 := Heap.size_push ..
    have lne : l ≠ (s.heap.push (eo led)).objs.size := Nat.ne_of_lt (sz1 ▸ Nat.lt_succ_of_lt ltl)
    have nin : s.heap.objs.size ∉ [(s.heap.push (eo led)).objs.size, l] := by
     intro z
     rcases List.mem_cons.mp z with z | z
     ·exact absurd (z.trans sz1) (Nat.ne_of_lt (Nat.lt_succ_self _))
     ·have : s.heap.objs.size = l := by simpa using z
      exact absurd this.symm (Nat.ne_of_lt ltl)
    refine met_loop ((Walks.list (show A.in1.in1.in1.handled = none by simp [hh]) _ l lne its).toS) s.heap.objs.size nin xs hb (fun i v hv => SS.strs_at hi i v (by rw [Array.getElem?_toList]; exact hv)) its.size 0 _ rfl ⟨⟨_, Heap.get?_push_size _ rfl, rfl, rfl⟩, isl.push _⟩ ?c1 ?c2
    case c1 => exact SetOf_congr ((setObjOf_fresh (knd := PySem.strKind P w) led).setOf (Heap.get?_push_of_some _ at0) (by unfold scanBound; omega)) (fun _ => rfl) rfl
    case c2 =>
     rintro ⟨h', g', d', tk', os'⟩ hm hS'
     have eg : g' = s.gens := hm.gens; have ed : d' = s.drawn := hm.drawn; have eo' : os' = s.os := hm.os
     subst eg ed eo'
     show wpAny _ _ _ _ _ _
     refine wpAny_pure (show wpAny _ _ (ret Value.none) _ _ _ from wpAny_pure ⟨rfl, h', tk', rfl, hS', fun b o hb' e => hm.heap b o (fun z => ?_) (Heap.get?_push_of_some _ (Heap.get?_push_of_some _ e))⟩)
     rcases List.mem_cons.mp z with z | z
     ·exact absurd z (Nat.ne_of_lt hb')
     ·have : b = (s.heap.push (eo led)).objs.size := by simpa using z
      exact absurd (this.trans sz1) (Nat.ne_of_lt (Nat.lt_succ_of_lt hb'))
   ·cases r₂ with
    | error e => exact hr₂
    | ok fl₂ =>
    cases fl₂ with
    | ret r =>
     obtain ⟨rfl, h', tk, rfl, hS', hk'⟩ := hr₂
     repeat (any_goals (first | assumption | wp_step))
     exact h _ _ hS' hk'
    | _ => exact hr₂.elim
  | _ => exact hr.elim))
end
theorem met_mem (xs : List Str) : ∀ (i : Nat) (k : Str), k ∈ met xs i ↔ ∃ j, j < i /\ xs.getD j Str.empty = k
 | 0, k => by simp [met]
 | i + 1, k => by
  rw [met]
  have ih := met_mem xs i k
  split
  ·rename_i h
   rw [ih]
   refine ⟨fun ⟨j, a, b⟩ => ⟨j, by omega, b⟩, fun ⟨j, a, b⟩ => ?_⟩
   by_cases e : j = i
   ·subst e
    obtain ⟨y, hy, he⟩ := List.any_eq_true.mp h
    have := (met_mem xs j y).mp hy
    rw [beq_iff_eq.mp he, b] at this
    exact this
   ·exact ⟨j, by omega, b⟩
  ·rw [List.mem_append, ih]
   refine ⟨fun z => ?_, fun ⟨j, a, b⟩ => ?_⟩
   ·rcases z with ⟨j, a, b⟩ | z
    ·exact ⟨j, by omega, b⟩
    ·exact ⟨i, by omega, (List.mem_singleton.mp z).symm⟩
   ·by_cases e : j = i
    ·subst e; exact .inr (List.mem_singleton.mpr b.symm)
    ·exact .inl ⟨j, by omega, b⟩
theorem met_nodup (xs : List Str) : ∀ i, (met xs i).Nodup
 | 0 => List.nodup_nil
 | i + 1 => by
  rw [met]
  split
  ·exact met_nodup xs i
  ·rename_i h
   refine List.nodup_append.mpr ⟨met_nodup xs i, by simp, fun a ha b hb e => h ?_⟩
   rw [List.mem_singleton.mp hb] at e
   exact List.any_eq_true.mpr ⟨a, ha, beq_iff_eq.mpr e⟩
theorem met_all (xs : List Str) (k : Str) : k ∈ met xs xs.length ↔ k ∈ xs := by
 rw [met_mem]
 refine ⟨fun ⟨j, a, b⟩ => ?_, fun h => ?_⟩
 ·rw [<- b, List.getD_eq_getElem?_getD, List.getElem?_eq_getElem a]; exact List.getElem_mem a
 ·obtain ⟨j, a, b⟩ := List.getElem_of_mem h
  exact ⟨j, a, by rw [List.getD_eq_getElem?_getD, List.getElem?_eq_getElem a]; exact b⟩
theorem met_take (xs : List Str) : ∀ i, i <= xs.length -> (met xs i).length = i -> met xs i = xs.take i
 | 0, _, _ => by simp [met]
 | i + 1, hi, h => by
  have hl := met_le xs i
  rw [met] at h ⊢
  split at h
  ·omega
  ·rename_i hn
   rw [if_neg hn]
   rw [List.length_append, List.length_singleton] at h
   rw [met_take xs i (by omega) (by omega), List.take_add_one, List.getD_eq_getElem?_getD, List.getElem?_eq_getElem (by omega)]
   rfl
theorem met_len_nodup (xs : List Str) : (met xs xs.length).length = xs.length ↔ xs.Nodup := by
 constructor
 ·intro h
  have e := met_take xs xs.length (Nat.le_refl _) h
  rw [List.take_length] at e
  rw [<- e]; exact met_nodup xs _
 ·intro h
  exact ((List.perm_ext_iff_of_nodup (met_nodup xs _) h).mpr fun k => met_all xs k).length_eq
section
variable {X : Cx}
def tLenSetS (K : PySem.W.Frag) (ta : TE) : TE := fun σ H Q => ta σ H fun x H1 => ∃ (l : Addr) (zs : List Str), x = V.ref l /\ SqL K H1 l (zs.map V.str) /\ zs.length < 1000 /\ Q (.int (met zs zs.length).length) H1
theorem pe_lenSetS {a : Expr} {ta : TE} {p p2 q pos : Pos} (hc : X.calm = true) (B : BI X.mg) (g1 : Gl X "len") (g2 : Gl X "set") (ha : PE X a ta)
  (na : starEach [a] X.env = (false, eval a X.env) :: starEach [] X.env := by rfl) : PE X (.Call (.Name "len" p) [.Call (.Name "set" p2) [a] [] q] [] pos) (tLenSetS X.K ta) := by
 refine ⟨fun pins s σ H Q I h => Call_ (ld_blt I g1 B.len PySem.boot_len ?_)⟩
 refine PyProof.Rows.callWith_builtin1 (PyProof.Rows.args_cons (Call_ (ld_blt I g2 B.set PyProof.Rows.boot_set ?_)) rfl) rfl rfl
 refine PyProof.Rows.callWith_type1 (PyProof.Rows.args_cons (thn (ha.run pins s σ H _ I h) fun v s1 ⟨x, H1, I1, r1, l, zs, ex, hq, h1, q1⟩ => PyProof.Rows.args_nil ?_) na) na rfl
 subst ex
 cases r1
 obtain ⟨its, rv, pl, hz⟩ := I1.list hq
 have hlen : its.toArray.size = zs.length := by rw [List.size_toArray, <- rv.length, List.length_map]
 refine call_setS (xs := zs) (I1.ok.hd hc) pl.isList (by simpa using rv.strs) (by rw [hlen]; unfold scanBound; omega) fun h' tk hS hk => PyProof.Rows.args_nil ?_
 rw [hlen] at hS
 have hm := met_le zs zs.length
 obtain ⟨o, es, ep, t, ho, hex, hd, _, _, _, hf, hn⟩ := hS
 have J : Inv X pins σ H1 { s1 with heap := h', toks := tk } := I1.kept fun b o e => hk b o (Heap.lt_size e) e
 exact call_len_set ho hex hd hf (by rw [hn]; omega) ⟨.int (met zs zs.length).length, H1, J.tok _, ⟨_, by rw [hn]⟩, q1⟩
end
section
variable {X : Cx} {CX : CXT} {k : Nat} {f C : Addr} {fd : FuncData} {ps : List Str} {sp : Sp} {E : L2.St -> XK} {x m : Str} {p pos apos : Pos} {e o : Expr} {es : List Expr} {ta : TE} {t : TA}
def tMethZ (C : Addr) (m : Str) (sp : Sp) (E : L2.St -> XK) (ta : TE) (t : TA) : TE := fun σ H Q => ta σ H fun y H1 => ∃ a dx fs, y = .ref a /\ H1 a = some (.ins C dx fs) /\ fs.lookup m = none /\ t σ H1 fun vs H2 => sp (y :: vs) H2 Q (E σ)
def tMakeZ (C : Addr) (sp : Sp) (E : L2.St -> XK) (t : TA) : TE := fun σ H Q => t σ H fun vs H1 => ∀ y dx, H1 y = none -> H1 dx = none -> dx ≠ y ->
 sp (.ref y :: vs) (upd (upd H1 dx (.own y)) y (.ins C dx [])) (fun v H2 => v = .non /\ Q (.ref y) H2) (E σ)
theorem pe_methZ {pl : Sem Bool} (ho : PE X o ta) (c : Cls X.K C) (hm : Meth X.K C m f) (F : FnOk X.prog X.w X.K X.mg X.base CX k f fd ps sp) (hr : Room k X.A) (hb : Binds X.K fd ps []) (hx : ∀ σ, PassesAt CX X σ (E σ)) (ha : PA X (e :: es) t)
  (hst : starEach (e :: es) X.env = (false, eval e X.env) :: starEach es X.env := by rfl) (hpl : (backTo pos (starEach es X.env)).any (·.1) = false := by rfl)
  (ht : eval (.Call (.Attribute o m apos) (e :: es) [] pos) X.env = (do
    let ov <- eval o X.env
    standAt apos.atName
    let (g, first) <- holding [ov] (getMethod ov m pl)
    callWith pos g first (backTo pos (starEach (e :: es) X.env)) (backToKw pos (keywordEach [] X.env))) := by rfl) :
  PE X (.Call (.Attribute o m apos) (e :: es) [] pos) (tMethZ C m sp E ta t) := by
 refine ⟨fun pins s σ H Q I h => PySem.W.methodCall_KW (pl := pl) (thn (ho.run pins s σ H _ I h) fun u s1 ⟨y, H1, I1, ry, a, dx, fs, ey, ea, l, q⟩ => ?_) ht⟩
 subst ey
 cases (show u = Value.ref a from ry)
 exact getmeth_ok I1 ea c hm l (PySem.W.callWith_K (first := [.ref a]) (h₀ := X.base) I.ok.mod.kin hm.kp
  (thn (ha.run pos pins s1 σ H1 _ I1 q) fun us s2 ⟨vs, H2, I2, r, q2⟩ => ⟨I2.kIn, run_fnS (us := .ref a :: us) (vs := .ref a :: vs) F hr hb (hx σ) I2 (.cons rfl r) q2⟩) hst hpl)
theorem pe_methZ0 {pl : Sem Bool} (ho : PE X o ta) (c : Cls X.K C) (hm : Meth X.K C m f) (F : FnOk X.prog X.w X.K X.mg X.base CX k f fd ps sp) (hr : Room k X.A) (hb : Binds X.K fd ps []) (hx : ∀ σ, PassesAt CX X σ (E σ))
  (ht : eval (.Call (.Attribute o m apos) [] [] pos) X.env = (do
    let ov <- eval o X.env
    standAt apos.atName
    let (g, first) <- holding [ov] (getMethod ov m pl)
    callWith pos g first (backTo pos (starEach [] X.env)) (backToKw pos (keywordEach [] X.env))) := by rfl) :
  PE X (.Call (.Attribute o m apos) [] [] pos) (tMethZ C m sp E ta tNil) := by
 refine ⟨fun pins s σ H Q I h => PySem.W.methodCall_KW (pl := pl) (thn (ho.run pins s σ H _ I h) fun u s1 ⟨y, H1, I1, ry, a, dx, fs, ey, ea, l, q⟩ => ?_) ht⟩
 subst ey
 cases (show u = Value.ref a from ry)
 exact getmeth_ok I1 ea c hm l (PySem.W.callWith_K0 (first := [.ref a]) I1.kIn hm.kp (run_fnS (us := [.ref a]) (vs := [.ref a]) F hr hb (hx σ) I1 (.cons rfl .nil) q))
theorem pe_makeZ (M : Mk X.K C f) (F : FnOk X.prog X.w X.K X.mg X.base CX k f fd ps sp) (hr : Room (k + 1) X.A) (hg : Gl X x) (hm : X.mg x = some (.ref C)) (hb : Binds X.K fd ps []) (hx : ∀ σ, PassesAt CX X σ (E σ))
  (ha : PA X (e :: es) t) (hdb : (x == ("__debug__" : Str)) = false := by decide) (he : starEach (e :: es) X.env = (false, eval e X.env) :: starEach es X.env := by rfl) (hpl : (backTo pos (starEach es X.env)).any (·.1) = false := by rfl) :
  PE X (.Call (.Name x p) (e :: es) [] pos) (tMakeZ C sp E t) := by
 refine ⟨fun pins s σ H Q I h => wpAny_Call_Name_kw (ld_glob I hg hm ?_ hdb)⟩
 refine PySem.W.callWith_K (h₀ := X.base) I.ok.mod.kin M.kp (thn (ha.run pos pins s σ H _ I h) fun us s1 ⟨vs, H1, I1, r, q⟩ => ⟨I1.kIn, ?_⟩) he hpl
 have hq := q (s1.heap.objs.size + 1) s1.heap.objs.size (I1.hok.fresh (Nat.le_succ _)) (I1.hok.fresh (Nat.le_refl _)) (Nat.ne_of_lt (Nat.lt_succ_self _))
 have J := Inv.made (C := C) I1
 have r2 : Vals (V.ref (s1.heap.objs.size + 1) :: vs) (Value.ref (s1.heap.objs.size + 1) :: us) := .cons rfl r
 have hl : (Value.ref (s1.heap.objs.size + 1) :: us).length = ps.length := by rw [<- r2.length]; exact F.len _ _ _ _ hq
 have b := hb _ (Value.ref (s1.heap.objs.size + 1) :: us) J.kIn (by rw [List.append_nil]; exact hl)
 rw [List.append_nil] at b
 refine wpAny_call (make_map (f := f) I1.kIn M.makes M.init (beq_iff_eq.mp M.fn) (codeAny_mono (F.run _ X.stack _ _ ⟨Value.ref (s1.heap.objs.size + 1) :: us, []⟩ (Value.ref (s1.heap.objs.size + 1) :: us) _ _ (E σ) (hr.make C us [])
  (J.env0.make C us []) b r2 hq) fun r s' hq' => ?_))
 match r, hq' with
 | .error er, hq' => exact hx σ pins _ _ er s' J hq'
 | .ok (.ret u), hq' =>
  obtain ⟨v, H', J3, rv, ev, q3⟩ := J.after hq'
  subst ev
  exact ⟨rv, ⟨V.ref (s1.heap.objs.size + 1), H', J3, rfl, q3⟩⟩
 | .ok .next, hq' => exact hq'.elim
 | .ok .brk, hq' => exact hq'.elim
 | .ok .cont, hq' => exact hq'.elim
end
structure GotM (P : Program) (w : World) (K : PySem.W.Frag) (mg : Str -> Option Value) (base : Heap) (C : Addr) (m : Str) (ps : List Str) (k : Nat) (sp : Sp) : Prop where
 ex : ∃ (f : Addr) (fd : FuncData), FnOk P w K mg base CX0 k f fd ps sp /\ Meth K C m f /\ Binds K fd ps [] /\ Cls K C
structure GotMX (P : Program) (w : World) (K : PySem.W.Frag) (mg : Str -> Option Value) (base : Heap) (C : Addr) (m : Str) (ps : List Str) (k : Nat) (sp : Sp) : Prop where
 ex : ∃ (f : Addr) (fd : FuncData), FnOk P w K mg base (L2.CX P w) k f fd ps sp /\ Meth K C m f /\ Binds K fd ps [] /\ Cls K C
structure GotI (P : Program) (w : World) (K : PySem.W.Frag) (mg : Str -> Option Value) (base : Heap) (x : Str) (C : Addr) (ps : List Str) (k : Nat) (sp : Sp) : Prop where
 ex : ∃ (f : Addr) (fd : FuncData), FnOk P w K mg base (L2.CX P w) k f fd ps sp /\ Mk K C f /\ Binds K fd ps [] /\ mg x = some (.ref C)
section
variable {X : Cx} {C : Addr} {x m : Str} {ps : List Str} {k : Nat} {sp : Sp} {e o : Expr} {es : List Expr} {ta : TE} {t : TA} {p pos apos : Pos} {pl : Sem Bool}
theorem pe_gotM0 (G : GotM X.prog X.w X.K X.mg X.base C m ps k sp) (hr : Room k X.A) (ho : PE X o ta)
  (ht : eval (.Call (.Attribute o m apos) [] [] pos) X.env = (do
    let ov <- eval o X.env
    standAt apos.atName
    let (g, first) <- holding [ov] (getMethod ov m pl)
    callWith pos g first (backTo pos (starEach [] X.env)) (backToKw pos (keywordEach [] X.env))) := by rfl) :
  PE X (.Call (.Attribute o m apos) [] [] pos) (tMethZ C m sp (fun _ => E0) ta tNil) := by
 obtain ⟨f, fd, h1, h2, h3, h4⟩ := G.ex
 exact pe_methZ0 ho h4 h2 h1 hr h3 (fun σ pins H s e s' I c => pass0 pins σ H s e s' I c) ht
theorem pe_gotMX (G : GotMX X.prog X.w X.K X.mg X.base C m ps k sp) (hr : Room k X.A) (ho : PE X o ta) (ha : PA X (e :: es) t)
  (hst : starEach (e :: es) X.env = (false, eval e X.env) :: starEach es X.env := by rfl) (hpl : (backTo pos (starEach es X.env)).any (·.1) = false := by rfl)
  (ht : eval (.Call (.Attribute o m apos) (e :: es) [] pos) X.env = (do
    let ov <- eval o X.env
    standAt apos.atName
    let (g, first) <- holding [ov] (getMethod ov m pl)
    callWith pos g first (backTo pos (starEach (e :: es) X.env)) (backToKw pos (keywordEach [] X.env))) := by rfl) :
  PE X (.Call (.Attribute o m apos) (e :: es) [] pos) (tMethZ C m sp (fun _ => E0) ta t) := by
 obtain ⟨f, fd, h1, h2, h3, h4⟩ := G.ex
 exact pe_methZ ho h4 h2 h1 hr h3 (fun σ pins H s e s' I c => passL pins σ H s e s' I c) ha hst hpl ht
theorem pe_gotMS {W : WX} (G : GotMX X.prog X.w X.K X.mg X.base C m ps k sp) (hr : Room k X.A) (tk : Takes X W) (ho : PE X o ta) (ha : PA X (e :: es) t)
  (hst : starEach (e :: es) X.env = (false, eval e X.env) :: starEach es X.env := by rfl) (hpl : (backTo pos (starEach es X.env)).any (·.1) = false := by rfl)
  (ht : eval (.Call (.Attribute o m apos) (e :: es) [] pos) X.env = (do
    let ov <- eval o X.env
    standAt apos.atName
    let (g, first) <- holding [ov] (getMethod ov m pl)
    callWith pos g first (backTo pos (starEach (e :: es) X.env)) (backToKw pos (keywordEach [] X.env))) := by rfl) :
  PE X (.Call (.Attribute o m apos) (e :: es) [] pos) (tMethZ C m sp (WE W) ta t) := by
 obtain ⟨f, fd, h1, h2, h3, h4⟩ := G.ex
 exact pe_methZ ho h4 h2 h1 hr h3 (fun σ => passAt tk σ) ha hst hpl ht
theorem pe_gotI (G : GotI X.prog X.w X.K X.mg X.base x C ps k sp) (hr : Room (k + 1) X.A) (hg : Gl X x) (ha : PA X (e :: es) t) (hdb : (x == ("__debug__" : Str)) = false := by decide)
  (he : starEach (e :: es) X.env = (false, eval e X.env) :: starEach es X.env := by rfl) (hpl : (backTo pos (starEach es X.env)).any (·.1) = false := by rfl) :
  PE X (.Call (.Name x p) (e :: es) [] pos) (tMakeZ C sp (fun _ => E0) t) := by
 obtain ⟨f, fd, h1, h2, h3, h4⟩ := G.ex
 exact pe_makeZ h2 h1 hr hg h4 h3 (fun σ pins H s e s' I c => passL pins σ H s e s' I c) ha hdb he hpl
end
def spKindI (K : PySem.W.Frag) (C : Addr) : Sp := fun vs H Q _ => ∃ (a : Addr) (y : V), vs = [.ref a, y] /\ OexC K C /\ PySem.W.findIn K (.ref C) "kind" = some none /\ H a = some (exo a C none) /\ ∀ dx, H dx = none -> dx ≠ a -> Q .non (upd (upd H dx (exd dx [("kind", y)])) a (exo a C (some dx)))
structure OwnI (P : Program) (w : World) (K : PySem.W.Frag) (mg : Str -> Option Value) (base : Heap) (x : Str) (C : Addr) (k : Nat) : Prop where
 gC : mg x = some (.ref C)
 T : OexC K C
 no : PySem.W.findIn K (.ref C) "kind" = some none
 ex : ∃ (f : Addr) (fd : FuncData), PySem.W.findIn K (.ref C) "__init__" = some (some (.ref f)) /\ PySem.W.typeIn K (.ref f) = some (.type "function") /\ FnOk P w K mg base CX0 k f fd ["self", "kind"] (spKindI K C) /\ Binds K fd ["self", "kind"] []
def oexCB (K : PySem.W.Frag) (C : Addr) : Bool := (match K.lookup C with
 | some ⟨.type "type", _, .cls cd, sl⟩ => (match cd.mro, sl.toList with
  | .ref D :: bm, [_, _, _, _, some (.builtin n), _] => decide (D = C) && (n == "ValueError.__new__" && (!cd.hasDel && (cd.hasDict && PySem.HandSPX.refsVE bm)))
  | _, _ => false)
 | _ => false) && (He.eqO (PySem.W.findIn K (.ref C) "__setattr__") (some (some (.builtin "object.__setattr__"))) && (decide (PySem.W.subIn K (.ref C) (.type "BaseException") = some true) && (decide (PySem.W.typeIn K (.ref C) = some (.type "type")) && PySem.W.keepIn K (.ref C))))
theorem oexCB_ok {K : PySem.W.Frag} {C : Addr} (h : oexCB K C = true) : OexC K C := by
 obtain ⟨h1, h⟩ := He.ba h
 obtain ⟨h2, h⟩ := He.ba h
 obtain ⟨h3, h⟩ := He.ba h
 obtain ⟨h4, h5⟩ := He.ba h
 refine ⟨?_, He.eqO_ok h2, of_decide_eq_true h3, of_decide_eq_true h4, h5⟩
 split at h1
 ·rename_i dd cd sl ho
  split at h1
  ·rename_i D bm k0 k1 k2 k3 n k5 hm hs
   obtain ⟨e1, h1⟩ := He.ba h1
   obtain ⟨e2, h1⟩ := He.ba h1
   obtain ⟨e3, h1⟩ := He.ba h1
   obtain ⟨e4, e5⟩ := He.ba h1
   have e1 := of_decide_eq_true e1
   have e2 := beq_iff_eq.mp e2
   obtain ⟨nm, bs, mro, ns, qn, hd, sn, sb, ab, col, del⟩ := cd
   simp only at hm e3 e4
   subst e1 e2 hm e4
   have e3 : del = false := by simpa using e3
   subst e3
   obtain ⟨sl⟩ := sl
   simp only at hs
   subst hs
   exact ⟨nm, qn, ns, bs, bm, sn, sb, ab, col, dd, k0, k1, k2, k3, k5, ho, e5⟩
  ·cases h1
 ·cases h1
theorem _root_.L2.PE.wide {X : Cx} {e : Expr} {te : TE} (h : PE X e te) : PE X e (fun σ H Q => ∃ Q' : VK, te σ H Q' /\ ∀ v H', Q' v H' -> Q v H') :=
 ⟨fun pins s σ H Q I ⟨Q', h1, h2⟩ => thn (h.run pins s σ H Q' I h1) fun v s1 ⟨y, H1, I1, r, q⟩ => ⟨y, H1, I1, r, h2 _ _ q⟩⟩
section
variable {X : Cx} {C : Addr} {x : Str} {k : Nat} {e : Expr} {te : TE} {p pos : Pos}
def tKind (C : Addr) (te : TE) : L2.St -> Hp -> XK -> Prop := fun σ H Q => te σ H fun y H1 => ∀ d, H1 d = none -> Q (.ref C) (some d) (upd H1 d (.xd [("kind", y)]))
theorem pmk_kind (O : OwnI X.prog X.w X.K X.mg X.base x C k) (hr : Room (k + 1) X.A) (hg : Gl X x) (he : PE X e te) (hdb : (x == ("__debug__" : Str)) = false := by decide)
  (hs : starEach [e] X.env = (false, eval e X.env) :: starEach [] X.env := by rfl) (hpl : (backTo pos (starEach [] X.env)).any (·.1) = false := by rfl) : PMk X (.Call (.Name x p) [e] [] pos) (tKind C te) := by
 obtain ⟨f, fd, h1, h2, h3, h4⟩ := O.ex
 have hw := pmk_oex (p := p) O.T h1 h2 h3 hr h4 .nil pass0 hg O.gC (pa_cons (hs := hs) he.wide pa_nil) hdb hs hpl
 intro pins s σ H Q I h
 refine hw pins s σ H Q I ⟨_, h, fun y H1 q => ?_⟩
 refine ⟨by simp, fun a ha => ⟨a, y, rfl, O.T, O.no, upd_same, fun dx hd ne => ⟨rfl, dx, [("kind", y)], upd_same, ?_, ?_, ?_⟩⟩⟩
 ·rw [upd_ne ne, upd_same]
 ·rw [upd_ne ne] at hd; exact hd
 ·have e : upd (del (upd (upd (upd H1 a (exo a C none)) dx (exd dx [("kind", y)])) a (exo a C (some dx))) a) dx (.xd [("kind", y)]) = upd H1 dx (.xd [("kind", y)]) := by
   funext b
   by_cases h1 : b = dx
   ·subst h1; rw [upd_same, upd_same]
   ·rw [upd_ne h1, upd_ne h1]
    by_cases h2 : b = a
    ·subst h2; rw [del_same, ha]
    ·rw [del_ne h2, upd_ne h2, upd_ne h1, upd_ne h2]
  rw [e]
  rw [upd_ne ne] at hd
  exact q dx hd
end
abbrev Ru := Gr × Gr
def Ru.enc (r : Ru) : PyData := .tuple [r.1.enc, r.2.enc]
def Ru.within (r : Ru) : List (Tr × Int) := r.1.within ++ r.2.within
structure Kd where
 n : Str
 w : Bool
 rs : List Ru
abbrev Bk := List Kd
abbrev Bk.names (b : Bk) : List Str := b.map (·.n)
def Kd.rowE (k : Kd) : PyData := .tuple (k.rs.map Ru.enc)
def Bk.get (b : Bk) (n : Str) : Option Kd := b.find? fun k => decide (k.n = n)
def RuOk (r : Ru) : Prop := r.1.Ok 1000000001 /\ r.2.Ok 1000000001 /\ r.1.parts + r.2.parts <= 4
def KdOk (ns : List Str) (k : Kd) : Prop := NameOk k.n /\ k.rs.length <= 4 /\ ∀ r ∈ k.rs, RuOk r /\ ∀ p ∈ Ru.within r, p.1.1 ∈ ns
structure Bk.Ok (b : Bk) : Prop where
 pos : 1 <= b.length
 len : b.length <= 8
 nd : b.names.Nodup
 kd : ∀ k ∈ b, KdOk b.names k
theorem Ru.noList_enc (r : Ru) : noList (Ru.enc r) = true := by simp [Ru.enc, noList, noLists, Gr.noList_enc]
theorem Kd.noList_rowE (k : Kd) : noList k.rowE = true := by
 unfold Kd.rowE noList
 induction k.rs with
 | nil => rfl
 | cons r l ih => rw [List.map_cons, noLists, Ru.noList_enc, ih]; rfl
theorem Bk.get_some {b : Bk} {n : Str} {k : Kd} (h : b.get n = some k) : k ∈ b /\ k.n = n :=
 ⟨List.mem_of_find?_eq_some h, of_decide_eq_true (List.find?_some (p := fun k : Kd => decide (k.n = n)) h)⟩
theorem Bk.get_none {b : Bk} {n : Str} (h : b.get n = none) : n ∉ b.names := fun z => by
 obtain ⟨k, hk, e⟩ := List.mem_map.mp z
 have := List.find?_eq_none.mp h k hk
 exact this (decide_eq_true e)
theorem Bk.get_of {b : Bk} {n : Str} (h : n ∈ b.names) : ∃ k, b.get n = some k := by
 cases e : b.get n with
 | none => exact absurd h (Bk.get_none e)
 | some k => exact ⟨k, rfl⟩
theorem Bk.get_self {b : Bk} (nd : b.names.Nodup) {k : Kd} (hk : k ∈ b) : b.get k.n = some k := by
 induction b with
 | nil => cases hk
 | cons x r ih =>
  have nd' : (x.n :: Bk.names r).Nodup := nd
  unfold Bk.get
  rcases List.mem_cons.mp hk with e | e
  ·subst e; rw [List.find?_cons_of_pos (by simp)]
  ·have : ¬ x.n = k.n := fun z => (List.nodup_cons.mp nd').1 (by rw [z]; exact List.mem_map.mpr ⟨k, e, rfl⟩)
   rw [List.find?_cons_of_neg (by simpa using this)]
   exact ih (List.nodup_cons.mp nd').2 e
def Bk.rowKV (b : Bk) (us : List V) : List (Key × V) := List.zipWith (fun (k : Kd) (u : V) => (Sum.inr k.n, u)) b us
def Bk.spKV (b : Bk) : List (Key × V) := b.map fun k => (Sum.inr k.n, V.bl k.w)
theorem Bk.spKV_val (b : Bk) (n : Str) : valV b.spKV (Sum.inr n) = (b.get n).map fun k => V.bl k.w := by
 induction b with
 | nil => rfl
 | cons x r ih =>
  by_cases e : x.n = n
  ·subst e
   rw [show Bk.spKV (x :: r) = (Sum.inr x.n, V.bl x.w) :: Bk.spKV r from rfl, valV_pos rfl]
   simp [Bk.get]
  ·rw [show Bk.spKV (x :: r) = (Sum.inr x.n, V.bl x.w) :: Bk.spKV r from rfl, valV_neg (by simpa using e), ih]
   simp [Bk.get, e]
theorem Bk.rowKV_val {K : PySem.W.Frag} {H : Hp} (n : Str) : ∀ {b : Bk} {us : List V}, Bears K H Kd.rowE us b -> ∀ {k : Kd}, b.get n = some k -> ∃ u, valV (b.rowKV us) (Sum.inr n) = some u /\ Dp K H u k.rowE
 | [], _, _, k, h => by cases h
 | x :: r, _, .cons (v := u) (vs := us) h0 h1, k, h => by
  have e0 : Bk.rowKV (x :: r) (u :: us) = (Sum.inr x.n, u) :: Bk.rowKV r us := rfl
  by_cases e : x.n = n
  ·subst e
   have : x = k := by simpa [Bk.get] using h
   subst this
   exact ⟨u, by rw [e0, valV_pos rfl], h0⟩
  ·have h' : Bk.get r n = some k := by simpa [Bk.get, e] using h
   obtain ⟨v, a, c⟩ := Bk.rowKV_val n h1 h'
   exact ⟨v, by rw [e0, valV_neg (by simpa using e)]; exact a, c⟩
abbrev bkF (d1 d2 : Addr) : List (Str × V) := [("spread_by_name", .ref d1), ("rows_by_name", .ref d2)]
def BkA (K : PySem.W.Frag) (C : Addr) (H : Hp) (v : V) (b : Bk) : Prop := ∃ (a dx d1 d2 : Addr) (us : List V), v = .ref a /\ H a = some (.ins C dx (bkF d1 d2)) /\ H d1 = some (.dK b.spKV) /\ H d2 = some (.dK (b.rowKV us)) /\ Bears K H Kd.rowE us b
def Lsts (H : Hp) (ps : List Addr) : Prop := ∀ p ∈ ps, H p = none \/ ∃ xs, H p = some (.lst xs)
theorem Lsts.nil {H : Hp} : Lsts H [] := fun _ h => nomatch h
theorem Lsts.one {H : Hp} {p : Addr} {xs : List V} (h : H p = some (.lst xs)) : Lsts H [p] := fun q z => by rw [List.mem_singleton.mp z]; exact .inr ⟨xs, h⟩
theorem Lsts.notin {H : Hp} {ps : List Addr} (h : Lsts H ps) {a : Addr} {o : HO} (e : H a = some o) (n : ∀ xs, o ≠ .lst xs) : a ∉ ps := fun z => by
 rcases h a z with q | ⟨xs, q⟩
 ·rw [e] at q; cases q
 ·rw [e] at q; exact n xs (Option.some.inj q)
section
variable {K : PySem.W.Frag} {C : Addr} {H H' : Hp} {v : V} {b : Bk} {ps : List Addr}
theorem BkA.sb (h : BkA K C H v b) (e : SB ps H H') (hp : Lsts H ps) : BkA K C H' v b := by
 obtain ⟨a, dx, d1, d2, us, rfl, h1, h2, h3, h4⟩ := h
 exact ⟨a, dx, d1, d2, us, rfl, e.keep _ _ h1 (hp.notin h1 fun _ z => nomatch z), e.keep _ _ h2 (hp.notin h2 fun _ z => nomatch z), e.keep _ _ h3 (hp.notin h3 fun _ z => nomatch z), h4.sb e Kd.noList_rowE⟩
theorem BkA.sb0 (h : BkA K C H v b) (e : SB [] H H') : BkA K C H' v b := h.sb e Lsts.nil
theorem BkA.at (h : BkA K C H v b) : ∃ a dx d1 d2, v = .ref a /\ H a = some (.ins C dx (bkF d1 d2)) := by
 obtain ⟨a, dx, d1, d2, us, e, h1, _⟩ := h
 exact ⟨a, dx, d1, d2, e, h1⟩
end
structure ClsF (K : PySem.W.Frag) (C : Addr) (fs : List Str) : Prop where
 c : Cls K C
 no : ∀ f ∈ fs, NoAttr K C f
def spBNames (K : PySem.W.Frag) (C : Addr) : Sp := fun vs H Q _ => ∃ (v : V) (b : Bk), vs = [v] /\ BkA K C H v b /\ b.length <= 1000 /\ ∀ (l : Addr) (H' : Hp), SB [] H H' -> H l = none -> H' l = some (.lst (b.names.map V.str)) -> Q (.ref l) H'
def kindOr (N : Addr) (b : Bk) (n : Str) (H : Hp) (E : XK) (q : Kd -> Prop) : Prop := (∀ k, b.get n = some k -> q k) /\ (b.get n = none -> ∀ (d : Addr) (H' : Hp), SB [] H H' -> H d = none -> H' d = some (.xd [("kind", .str n)]) -> E (.ref N) (some d) H')
def spCheckK (K : PySem.W.Frag) (C N : Addr) : Sp := fun vs H Q E => ∃ (v : V) (b : Bk) (n : Str), vs = [v, .str n] /\ BkA K C H v b /\ b.length <= 1000 /\ kindOr N b n H E fun _ => ∀ H', SB [] H H' -> Q .non H'
def spBSpreads (K : PySem.W.Frag) (C N : Addr) : Sp := fun vs H Q E => ∃ (v : V) (b : Bk) (n : Str), vs = [v, .str n] /\ BkA K C H v b /\ b.length <= 1000 /\ kindOr N b n H E fun k => ∀ H', SB [] H H' -> Q (.bl k.w) H'
def spBRules (K : PySem.W.Frag) (C N : Addr) : Sp := fun vs H Q E => ∃ (v : V) (b : Bk) (n : Str), vs = [v, .str n] /\ BkA K C H v b /\ b.length <= 1000 /\ (∀ k ∈ b, k.rs.length <= 1000) /\
 kindOr N b n H E fun k => ∀ (l : Addr) (us : List V) (H' : Hp), SB [] H H' -> H l = none -> H' l = some (.lst us) -> Bears K H' Ru.enc us k.rs -> Q (.ref l) H'
inductive KT where
 | other
 | three (d : PyData) (w : Option Bool) (rs : Option (List PyData))
def Kd.kt (k : Kd) : KT := .three (.str k.n) (some k.w) (some (k.rs.map Ru.enc))
def KTA (K : PySem.W.Frag) (H : Hp) (v : V) : KT -> Prop
 | .other => ∃ d, Tg K H v d /\ ∀ ds, d = .tuple ds -> ds.length ≠ 3
 | .three d w rs => ∃ (t : Addr) (x y z : V), v = .ref t /\ SqT K H t [x, y, z] /\ Tg K H x d /\ (match w with
   | some b => y = .bl b
   | none => ∃ n, TyX K H y (.type n) /\ kitB n "bool" = some false) /\ (match rs with
   | some ds => ∃ (l : Addr) (zs : List V), z = .ref l /\ H l = some (.lst zs) /\ TgAll K H zs ds
   | none => ∃ n, TyX K H z (.type n) /\ kitB n "list" = some false)
def RuD (d : PyData) : Prop := ∃ r : Ru, d = Ru.enc r /\ RuOk r
def RuFit (d : PyData) : Prop := d.depth <= 60 /\ wide d <= 1000 /\ ∀ a b, d = .tuple [a, b] -> ∀ g : Gr, a = g.enc \/ b = g.enc -> g.deep <= 18 /\ g.parts <= 450
def KTFit : KT -> Prop
 | .other => True
 | .three d w rs => ∀ ds, rs = some ds -> ds.length <= 1000 /\ ∀ x ∈ ds, RuFit x
def KTKd (t : KT) : Prop := ∃ k : Kd, t = k.kt /\ NameOk k.n /\ k.rs.length <= 4 /\ ∀ r ∈ k.rs, RuOk r
def KTBk (ts : List KT) : Prop := ∃ b : Bk, ts = b.map Kd.kt /\ Bk.Ok b
inductive KTAll (K : PySem.W.Frag) (H : Hp) : List V -> List KT -> Prop
 | nil : KTAll K H [] []
 | cons {v : V} {t : KT} {vs : List V} {ts : List KT} : KTA K H v t -> KTAll K H vs ts -> KTAll K H (v :: vs) (t :: ts)
def spIsRule (K : PySem.W.Frag) : Sp := fun vs H Q _ => ∃ (v : V) (d : PyData), vs = [v] /\ Tg K H v d /\ RuFit d /\ ∀ (b : Bool) (H' : Hp), SB [] H H' -> (b = true ↔ RuD d) -> Q (.bl b) H'
def spIsKind (K : PySem.W.Frag) : Sp := fun vs H Q _ => ∃ (v : V) (t : KT), vs = [v] /\ KTA K H v t /\ KTFit t /\ ∀ (b : Bool) (H' : Hp), SB [] H H' -> (b = true ↔ KTKd t) -> Q (.bl b) H'
def spIsRuleOf (K : PySem.W.Frag) : Sp := fun vs H Q _ => ∃ (v : V) (l : Addr) (r : Ru) (ns : List Str), vs = [v, .ref l] /\ Dp K H v (Ru.enc r) /\ RuOk r /\ SqL K H l (ns.map V.str) /\ ns.length <= 1000 /\ ∀ H', SB [] H H' -> Q (.bl (decide (∀ p ∈ Ru.within r, p.1.1 ∈ ns))) H'
def spAreKinds (K : PySem.W.Frag) : Sp := fun vs H Q _ => ∃ (l : Addr) (xs : List V) (ts : List KT), vs = [.ref l] /\ SqL K H l xs /\ KTAll K H xs ts /\ (∀ t ∈ ts, KTFit t) /\ ts.length <= 1000 /\ ∀ (b : Bool) (H' : Hp), SB [] H H' -> (b = true ↔ KTBk ts) -> Q (.bl b) H'
def spBInit (K : PySem.W.Frag) (C B : Addr) : Sp := fun vs H Q E => ∃ (x dx l : Addr) (xs : List V) (ts : List KT), vs = [.ref x, .ref l] /\ H x = some (.ins C dx []) /\ H dx = some (.own x) /\ H l = some (.lst xs) /\ KTAll K H xs ts /\ (∀ t ∈ ts, KTFit t) /\ ts.length <= 1000 /\
 (∀ b : Bk, ts = b.map Kd.kt -> b.Ok -> ∀ H', SB [x] H H' -> BkA K C H' (.ref x) b -> Q .non H') /\ (¬ KTBk ts -> ∀ H', SB [] H H' -> E (.ref B) none H')
theorem inV_strs (n : Str) (zs : List Str) : inV (.str n) (zs.map V.str) = decide (n ∈ zs) := by
 induction zs with
 | nil => rfl
 | cons z r ih =>
  show ((z == n) || inV (.str n) (r.map V.str)) = _
  rw [ih]
  by_cases e : z = n
  ·subst e; simp
  ·have e' : ¬ n = z := fun y => e y.symm
   rw [show (z == n) = false from beq_eq_false_iff_ne.mpr e, Bool.false_or]
   by_cases h : n ∈ r <;> simp [h, e']
theorem flat_strs (zs : List Str) : (zs.map V.str).all flatV = true := by simp [flatV]
theorem getK {H : Hp} {d : Addr} {kvs : List (Key × V)} {n : Str} {v : V} (h : H d = some (.dK kvs)) (e : valV kvs (Sum.inr n) = some v) : DGet H d (.str n) (some v) := .inl ⟨kvs, Sum.inr n, .inl h, rfl, e.symm⟩
theorem Bk.get_isSome (b : Bk) (n : Str) : decide (n ∈ b.names) = (b.get n).isSome := by
 cases e : b.get n with
 | none => simpa using Bk.get_none e
 | some k => simpa using List.mem_map.mpr ⟨k, (Bk.get_some e).1, (Bk.get_some e).2⟩
section
variable {J : It} {n : Nat} {G : Hp -> Prop} {Y : Nat -> Hp -> V -> Hp -> Prop}
theorem lc_seq (w : Walk J n G Y) {g : TG} {tt : TT} {te : TE} {vs : List Nat} {σ : L2.St} {H : Hp} {D : Addr} {Qd : Hp -> Prop} (hD : H D = none) (hn : n < sizeLine) (R : Nat -> List V -> Hp -> Prop) (h0 : R 0 [] H) (hG : ∀ H2, SB [] H H2 -> G H2)
  (st : ∀ i us H2 H3, SB [D] H2 H3 -> R i us H2 -> R i us H3)
  (turn : ∀ (Pv : Hp -> Prop) i x H2 H' us, i < n -> SB [] H H2 -> Y i H2 x H' -> R i us H2 -> us.length <= i -> (∀ y H5, SB [] H2 H5 -> R (i + 1) (us ++ [y]) H5 -> ∃ acc, H5 D = some (.lst acc) /\ acc.length < sizeLine /\ Pv (upd H5 D (.lst (acc ++ [y])))) ->
   (∀ H4, SB [] H2 H4 -> R (i + 1) us H4 -> Pv H4) -> g x (wipe σ vs) H' fun σ2 H3 => wipe σ2 vs = wipe σ vs /\ tt σ2 H3 fun b H4 =>
    if b = true then te σ2 H4 fun y H5 => ∃ acc, H5 D = some (.lst acc) /\ acc.length < sizeLine /\ Pv (upd H5 D (.lst (acc ++ [y]))) else Pv H4)
  (done : ∀ us H2, SB [] H H2 -> H2 D = some (.lst us) -> R n us H2 -> us.length <= n -> Qd H2) :
  ∃ W : Nat -> Nat -> Hp -> Prop, (∃ m, W 0 m (upd H D (.lst []))) /\ ∀ i m H, W i m H ->
   (J.stop i H /\ Qd H) \/ (J.go i H /\ ∃ Nx : Hp -> Prop, (∀ H', Nx H' -> ∃ m', m' < m /\ W (i + 1) m' H') /\ ∀ x H', J.yld i H x H' -> g x (wipe σ vs) H' fun σ2 H2 => wipe σ2 vs = wipe σ vs /\ tt σ2 H2 fun b H3 =>
    if b = true then te σ2 H3 fun y H4 => ∃ acc, H4 D = some (.lst acc) /\ acc.length < sizeLine /\ Nx (upd H4 D (.lst (acc ++ [y]))) else Nx H3) := by
 refine lc_it w (fun i H2 => SB [D] H H2 /\ ∃ us, H2 D = some (.lst us) /\ R i us H2 /\ us.length <= i) ⟨SB.new hD _, [], upd_same, st _ _ _ _ (SB.new hD _) h0, Nat.le_refl _⟩ (fun i H2 _ h => hG H2 (h.1.drop hD)) (fun i x H2 H' hi h y => ?_) (fun H2 h => ?_)
 ·obtain ⟨s2, us, hD2, hR, hl⟩ := h
  refine turn _ i x H2 H' us hi (s2.drop hD) y hR hl (fun y H5 s5 r5 => ?_) (fun H4 s4 r4 => ⟨s2.trans s4.nil, us, s4.keep _ _ hD2 nmn, r4, by omega⟩)
  have hD5 := s5.keep _ _ hD2 nmn
  refine ⟨us, hD5, by omega, (s2.trans s5.nil).trans (SB.set hD5 (by simp) _), _, upd_same, st _ _ _ _ (SB.set hD5 (by simp) _) r5, ?_⟩
  rw [List.length_append, List.length_singleton]; omega
 ·obtain ⟨s2, us, hD2, hR, hl⟩ := h
  exact done us H2 (s2.drop hD) hD2 hR hl
end
theorem groveD_Ok {C : Int} : ∀ {g : Gr}, groveD g.enc = true -> (∀ p ∈ g.within, p.2 < C) -> g.Ok C := by
 have key : ∀ (g : Gr), (∀ p ∈ g.within, p.2 < C) -> grPs g.encs = true -> (risingD (g.encs.map exp0) = true -> g.Ok C) := by
  intro g
  induction g with
  | nil => intro _ _ _; trivial
  | cons k g m r ihg ihr =>
   intro hb hps hri
   have hb1 : ∀ p ∈ g.within, p.2 < C := fun p hp => hb p (mcm _ (mal _ hp))
   have hb2 : ∀ p ∈ r.within, p.2 < C := fun p hp => hb p (mcm _ (mar _ hp))
   have e : (Gr.cons k g m r).encs = Gr.pEnc ((k, g), m) :: r.encs := rfl
   rw [e, grPs, Bool.and_eq_true] at hps
   rw [e, List.map_cons] at hri
   have hp : grP (.tuple [.tuple [.str k, .tuple g.encs], .int m]) = true := hps.1
   rw [grP, grP2, Bool.and_eq_true, treeD, trD2, Bool.and_eq_true, trD3, Bool.and_eq_true, groveD, Bool.and_eq_true, ladP3, Bool.and_eq_true] at hp
   obtain ⟨⟨hn, ⟨hgp, hgr⟩, _⟩, hmm, _⟩ := hp
   have hname : NameOk k := by
    obtain ⟨z, ez, hz⟩ := nameD_iff hn
    cases ez; exact hz
   have hri2 : risingD (r.encs.map exp0) = true := by
    cases hre : r.encs with
    | nil => rfl
    | cons d ds =>
     rw [hre, List.map_cons] at hri
     have : (dataLt (exp0 (Gr.pEnc ((k, g), m))) (exp0 d) :: ltsD (exp0 d :: ds.map exp0)).all id = true := hri
     rw [List.all_cons, Bool.and_eq_true] at this
     rw [List.map_cons]; exact this.2
   have hro := ihr hb2 hps.2 hri2
   refine ⟨hname, ihg hb1 hgp hgr, of_decide_eq_true hmm, hb _ (mcs ..), hro, fun p hpm => ?_⟩
   cases r with
   | nil => cases hpm
   | cons k2 g2 m2 r2 =>
    have h12 : dataLt (Gr.tEnc (k, g)) (Gr.tEnc (k2, g2)) = true := by
     have : (dataLt (Gr.tEnc (k, g)) (Gr.tEnc (k2, g2)) :: ltsD (Gr.tEnc (k2, g2) :: r2.encs.map exp0)).all id = true := hri
     rw [List.all_cons, Bool.and_eq_true] at this
     exact this.1
    rcases List.mem_cons.mp hpm with h | h
    ·subst h; exact h12
    ·exact dl_trans h12 (hro.2.2.2.2.2 p h)
 intro g hg hb
 rw [Gr.enc, groveD, Bool.and_eq_true] at hg
 exact key g hb hg.1 hg.2
theorem Ok_within {C : Int} : ∀ {g : Gr}, g.Ok C -> ∀ p ∈ g.within, NameOk p.1.1 /\ p.1.2.Ok C /\ 1 <= p.2 /\ p.2 < C
 | .nil, _, p, h => by cases h
 | .cons k g m r, ⟨h0, h1, h2, h3, h4, _⟩, p, h => by
  rcases List.mem_cons.mp h with h | h
  ·subst h; exact ⟨h0, h1, h2, h3⟩
  ·rcases List.mem_append.mp h with h | h
   ·exact Ok_within h1 p h
   ·exact Ok_within h4 p h
theorem Gr.enc_inj {g h : Gr} (e : g.enc = h.enc) : g = h := by
 have := Gr.eqv_enc g h
 rw [e, Gr.eqv_enc h h, decide_eq_true rfl] at this
 exact of_decide_eq_true this.symm
theorem RuD_iff {g h : Gr} (hg : groveD g.enc = true) (hh : groveD h.enc = true) : RuD (.tuple [g.enc, h.enc]) ↔ g.parts + h.parts <= 4 /\ ∀ p ∈ g.within ++ h.within, p.2 <= 1000000000 := by
 constructor
 ·rintro ⟨r, e, h1, h2, h3⟩
  have e' : PyData.tuple [g.enc, h.enc] = .tuple [r.1.enc, r.2.enc] := e
  injection e' with e'
  injection e' with a e'
  injection e' with b _
  rw [Gr.enc_inj a, Gr.enc_inj b]
  refine ⟨h3, fun p hp => ?_⟩
  rcases List.mem_append.mp hp with hp | hp
  ·have := (Ok_within h1 p hp).2.2.2; omega
  ·have := (Ok_within h2 p hp).2.2.2; omega
 ·rintro ⟨h1, h2⟩
  exact ⟨(g, h), rfl, groveD_Ok hg fun p hp => by have := h2 p (mal _ hp); omega, groveD_Ok hh fun p hp => by have := h2 p (mar _ hp); omega, h1⟩
theorem RuD_two {d : PyData} (h : RuD d) : ∃ g k : Gr, d = .tuple [g.enc, k.enc] /\ groveD g.enc = true /\ groveD k.enc = true := by
 obtain ⟨r, e, h1, h2, _⟩ := h
 exact ⟨r.1, r.2, e, groveD_ok h1, groveD_ok h2⟩
theorem within_deep : ∀ g : Gr, g.deep <= g.parts
 | .nil => Nat.le_refl _
 | .cons k g m r => by
  have h1 := within_deep g
  have h2 := within_deep r
  show max (1 + g.deep) r.deep <= 1 + g.parts + r.parts
  omega
theorem RuD_all : ∀ {ds : List PyData}, (∀ x ∈ ds, RuD x) -> ∃ rs : List Ru, ds = rs.map Ru.enc /\ ∀ r ∈ rs, RuOk r
 | [], _ => ⟨[], rfl, fun _ h => nomatch h⟩
 | d :: ds, h => by
  obtain ⟨r, e, hr⟩ := h d (mcs ..)
  obtain ⟨rs, e2, hrs⟩ := RuD_all fun x hx => h x (mcm _ hx)
  refine ⟨r :: rs, by rw [e, e2]; rfl, fun x hx => ?_⟩
  rcases List.mem_cons.mp hx with hx | hx
  ·rw [hx]; exact hr
  ·exact hrs x hx
theorem SqL_ty {K : PySem.W.Frag} {H : Hp} {a : Addr} {xs : List V} (h : SqL K H a xs) : TyX K H (.ref a) (.type "list") := by
 rcases h with (h | ⟨o, h⟩) | ⟨o, its, n, h, c, _⟩
 ·exact .base (.lst h)
 ·exact .base (.frz h)
 ·exact .kList h c
section
variable {K : PySem.W.Frag} {H H' : Hp}
theorem KTA_sb (e : SB [] H H') : ∀ {t : KT} {v : V}, KTA K H v t -> KTA K H' v t
 | .other, v, ⟨d, h1, h2⟩ => ⟨d, Tg_sb e h1, h2⟩
 | .three d w rs, v, ⟨t, x, y, z, e0, h1, h2, h3, h4⟩ => by
  refine ⟨t, x, y, z, e0, e.sqT h1, Tg_sb e h2, ?_, ?_⟩
  ·cases w with
   | some b => exact h3
   | none =>
    obtain ⟨n, a, b⟩ := h3
    exact ⟨n, TyX_sb e (fun _ _ => nmn) a, b⟩
  ·cases rs with
   | some ds =>
    obtain ⟨l, zs, e1, h5, h6⟩ := h4
    exact ⟨l, zs, e1, e.keep _ _ h5 nmn, TgAll_sb e h6⟩
   | none =>
    obtain ⟨n, a, b⟩ := h4
    exact ⟨n, TyX_sb e (fun _ _ => nmn) a, b⟩
theorem KTAll.sb (e : SB [] H H') : ∀ {vs : List V} {ts : List KT}, KTAll K H vs ts -> KTAll K H' vs ts
 | _, _, .nil => .nil
 | _, _, .cons h t => .cons (KTA_sb e h) (KTAll.sb e t)
theorem KTAll.length : ∀ {vs : List V} {ts : List KT}, KTAll K H vs ts -> vs.length = ts.length
 | _, _, .nil => rfl
 | _, _, .cons h t => by rw [List.length_cons, List.length_cons, KTAll.length t]
theorem KTAll.get : ∀ {vs : List V} {ts : List KT} {i : Nat} {v : V}, KTAll K H vs ts -> vs[i]? = some v -> ∃ t, ts[i]? = some t /\ KTA K H v t
 | _, _, i, v, .nil, h => by simp at h
 | _, _, 0, v, .cons h t, e => by simp at e; subst e; exact ⟨_, rfl, h⟩
 | _, _, i + 1, v, .cons h t, e => by
  simp at e
  obtain ⟨t', e', h'⟩ := KTAll.get (i := i) t e
  exact ⟨t', by simpa using e', h'⟩
theorem KT_all : ∀ {ts : List KT}, (∀ t ∈ ts, KTKd t) -> ∃ b : Bk, ts = b.map Kd.kt /\ ∀ k ∈ b, NameOk k.n /\ k.rs.length <= 4 /\ ∀ r ∈ k.rs, RuOk r
 | [], _ => ⟨[], rfl, fun _ h => nomatch h⟩
 | t :: ts, h => by
  obtain ⟨k, e, hk⟩ := h t (mcs ..)
  obtain ⟨b, e2, hb⟩ := KT_all fun x hx => h x (mcm _ hx)
  refine ⟨k :: b, by rw [e, e2]; rfl, fun x hx => ?_⟩
  rcases List.mem_cons.mp hx with hx | hx
  ·rw [hx]; exact hk
  ·exact hb x hx
theorem kt_inj {k j : Kd} (e : k.kt = j.kt) : k = j := by
 obtain ⟨n, w, rs⟩ := k
 obtain ⟨n2, w2, rs2⟩ := j
 injection e with e1 e2 e3
 injection e1 with e1
 injection e2 with e2
 injection e3 with e3
 have e3 : rs.map Ru.enc = rs2.map Ru.enc := e3
 have e1 : n = n2 := e1
 have e2 : w = w2 := e2
 subst e1 e2
 have : rs = rs2 := by
  refine (List.map_inj_right ?_).mp e3
  intro x y h
  have h' : PyData.tuple [x.1.enc, x.2.enc] = .tuple [y.1.enc, y.2.enc] := h
  injection h' with h'
  injection h' with a h'
  injection h' with b _
  exact Prod.ext (Gr.enc_inj a) (Gr.enc_inj b)
 rw [this]
theorem kts_inj {b c : Bk} (e : b.map Kd.kt = c.map Kd.kt) : b = c := (List.map_inj_right (fun _ _ => kt_inj)).mp e
theorem TgAll_rules : ∀ {rs : List Ru} {zs : List V}, TgAll K H zs (rs.map Ru.enc) -> Bears K H Ru.enc zs rs
 | [], _, .nil => .nil
 | r :: rs, _, .cons h t => by
  refine .cons ?_ (TgAll_rules t)
  cases (h : Tg K H _ (.tuple [r.1.enc, r.2.enc])) with
  | tup hs ha =>
   cases ha with
   | cons h1 ha =>
   cases ha with
   | cons h2 ha =>
   cases ha
   cases h1 with
   | tup a1 b1 =>
   cases h2 with
   | tup a2 b2 => exact .tup hs (.cons (.tup a1 (Tg_ga r.1 b1)) (.cons (.tup a2 (Tg_ga r.2 b2)) .nil))
def KdA (K : PySem.W.Frag) (H : Hp) (bad : List Addr) (v : V) (k : Kd) : Prop := ∃ (t l : Addr) (zs : List V), v = .ref t /\ SqT K H t [.str k.n, .bl k.w, .ref l] /\ H l = some (.lst zs) /\ Bears K H Ru.enc zs k.rs /\ l ∉ bad
theorem KTA_kd {k : Kd} {v : V} (h : KTA K H v k.kt) : KdA K H [] v k := by
 obtain ⟨t, x, y, z, e0, h1, h2, h3, l, zs, rfl, h5, h6⟩ := h
 have h3 : y = .bl k.w := h3
 subst h3
 cases h2
 exact ⟨t, l, zs, e0, h1, h5, TgAll_rules h6, nmn⟩
def NoLst (H : Hp) (bad ps : List Addr) : Prop := ∀ p ∈ ps, p ∈ bad \/ ∀ xs, H p ≠ some (.lst xs)
theorem NoLst.nil {bad : List Addr} : NoLst H bad [] := fun _ z => nomatch z
theorem NoLst.self {bad : List Addr} : NoLst H bad bad := fun _ z => .inl z
theorem KdA.sb {k : Kd} {v : V} {ps bad : List Addr} (h : KdA K H bad v k) (e : SB ps H H') (n : NoLst H bad ps) : KdA K H' bad v k := by
 obtain ⟨t, l, zs, e0, h1, h2, h3, h4⟩ := h
 exact ⟨t, l, zs, e0, e.sqT h1, e.keep _ _ h2 fun z => (n _ z).elim h4 fun y => y _ h2, h3.sb e Ru.noList_enc, h4⟩
inductive KdAll (K : PySem.W.Frag) (H : Hp) (bad : List Addr) : List V -> Bk -> Prop
 | nil : KdAll K H bad [] []
 | cons {v : V} {k : Kd} {vs : List V} {b : Bk} : KdA K H bad v k -> KdAll K H bad vs b -> KdAll K H bad (v :: vs) (k :: b)
theorem KdAll.sb {ps bad : List Addr} (e : SB ps H H') (n : NoLst H bad ps) : ∀ {vs : List V} {b : Bk}, KdAll K H bad vs b -> KdAll K H' bad vs b
 | _, _, .nil => .nil
 | _, _, .cons h t => .cons (h.sb e n) (KdAll.sb e n t)
theorem KdAll.less {bad bad' : List Addr} (hb : ∀ x ∈ bad', x ∈ bad) : ∀ {vs : List V} {b : Bk}, KdAll K H bad vs b -> KdAll K H bad' vs b
 | _, _, .nil => .nil
 | _, _, .cons ⟨t, l, zs, h1, h2, h3, h4, h5⟩ r => .cons ⟨t, l, zs, h1, h2, h3, h4, fun z => h5 (hb l z)⟩ (KdAll.less hb r)
theorem KdAll.append {bad : List Addr} : ∀ {xs ys : List V} {bs cs : Bk}, KdAll K H bad xs bs -> KdAll K H bad ys cs -> KdAll K H bad (xs ++ ys) (bs ++ cs)
 | _, _, _, _, .nil, h => h
 | _, _, _, _, .cons a b, h => .cons a (KdAll.append b h)
theorem KdAll.length {bad : List Addr} : ∀ {vs : List V} {ts : Bk}, KdAll K H bad vs ts -> vs.length = ts.length
 | _, _, .nil => rfl
 | _, _, .cons h t => by rw [List.length_cons, List.length_cons, KdAll.length t]
theorem KdAll.get {bad : List Addr} : ∀ {vs : List V} {ts : Bk} {i : Nat} {v : V}, KdAll K H bad vs ts -> vs[i]? = some v -> ∃ t, ts[i]? = some t /\ KdA K H bad v t
 | _, _, i, v, .nil, h => by simp at h
 | _, _, 0, v, .cons h t, e => by simp at e; subst e; exact ⟨_, rfl, h⟩
 | _, _, i + 1, v, .cons h t, e => by
  simp at e
  obtain ⟨t', e', h'⟩ := KdAll.get (i := i) t e
  exact ⟨t', by simpa using e', h'⟩
theorem KTAll.kd : ∀ {b : Bk} {vs : List V}, KTAll K H vs (b.map Kd.kt) -> KdAll K H [] vs b
 | [], _, .nil => .nil
 | k :: b, _, .cons h t => .cons (KTA_kd h) (KTAll.kd t)
theorem rules_TgAll {zs : List V} : ∀ {rs : List Ru} {zs : List V}, (∀ r ∈ rs, RuOk r) -> Bears K H Ru.enc zs rs -> TgAll K H zs (rs.map Ru.enc)
 | [], _, _, .nil => .nil
 | r :: rs, _, ok, .cons h t => by
  refine .cons ?_ (rules_TgAll (zs := zs) (fun x hx => ok x (mcm _ hx)) t)
  obtain ⟨o1, o2, _⟩ := ok r (mcs ..)
  cases (h : Dp K H _ (.tuple [r.1.enc, r.2.enc])) with
  | tup hs ha =>
   cases ha with
   | cons h1 ha =>
   cases ha with
   | cons h2 ha =>
   cases ha
   exact .tup hs (.cons (GA_thing o1 h1) (.cons (GA_thing o2 h2) .nil))
theorem KdAll.kt {bad : List Addr} : ∀ {b : Bk} {vs : List V}, (∀ k ∈ b, NameOk k.n /\ ∀ r ∈ k.rs, RuOk r) -> KdAll K H bad vs b -> KTAll K H vs (b.map Kd.kt)
 | [], _, _, .nil => .nil
 | k :: b, _, ok, .cons h t => by
  refine .cons ?_ (KdAll.kt (fun x hx => ok x (mcm _ hx)) t)
  obtain ⟨t, l, zs, e0, h1, h2, h3, _⟩ := h
  obtain ⟨o1, o2⟩ := ok k (mcs ..)
  exact ⟨t, _, _, _, e0, h1, .str _ (name_short o1), rfl, l, zs, rfl, h2, rules_TgAll (zs := zs) o2 h3⟩
theorem RuFit_of {r : Ru} (h : RuOk r) : RuFit (Ru.enc r) := by
 obtain ⟨h1, h2, h3⟩ := h
 have d1 := within_deep r.1
 have d2 := within_deep r.2
 have e1 := r.1.encs_depth
 have e2 := r.2.encs_depth
 obtain ⟨w1, w2⟩ := wides_gr r.1
 obtain ⟨w3, w4⟩ := wides_gr r.2
 refine ⟨?_, ?_, fun a b e g hg => ?_⟩
 ·show PyData.depth (.tuple [.tuple r.1.encs, .tuple r.2.encs]) <= 60
  simp only [PyData.depth, PyData.depthAll]; omega
 ·show wide (.tuple [.tuple r.1.encs, .tuple r.2.encs]) <= 1000
  simp only [wide, wides, List.length_cons, List.length_nil]; omega
 ·have e' : PyData.tuple [r.1.enc, r.2.enc] = .tuple [a, b] := e
  injection e' with e'
  injection e' with ea e'
  injection e' with eb _
  rcases hg with hg | hg
  ·rw [<- ea] at hg; rw [<- Gr.enc_inj hg]; omega
  ·rw [<- eb] at hg; rw [<- Gr.enc_inj hg]; omega
theorem KTFit_of {k : Kd} (h : k.rs.length <= 4 /\ ∀ r ∈ k.rs, RuOk r) : KTFit k.kt := by
 intro ds e
 have e : some (k.rs.map Ru.enc) = some ds := e
 injection e with e
 subst e
 refine ⟨by rw [List.length_map]; omega, fun x hx => ?_⟩
 obtain ⟨r, hr, rfl⟩ := List.mem_map.mp hx
 exact RuFit_of (h.2 r hr)
end
section
variable {J : It} {n : Nat} {G : Hp -> Prop} {Y : Nat -> Hp -> V -> Hp -> Prop}
theorem dc_seq (w : Walk J n G Y) {g : TG} {tt : TT} {tk tv : TE} {vs : List Nat} {σ : L2.St} {H : Hp} {D : Addr} {Qd : Hp -> Prop} (hD : H D = none) (hn : n < sizeLine) (R : Nat -> List (Key × V) -> Hp -> Prop) (h0 : R 0 [] H) (hG : ∀ H2, SB [] H H2 -> G H2)
  (st : ∀ i us H2 H3, SB [D] H2 H3 -> R i us H2 -> R i us H3)
  (turn : ∀ (Pv : Hp -> Prop) i x H2 H' kvs, i < n -> SB [] H H2 -> Y i H2 x H' -> R i kvs H2 -> kvs.length <= i -> (∀ k z H5, SB [] H2 H5 -> R (i + 1) (putK kvs k z) H5 -> ∃ kvs k', kV k = kV k' /\ H5 D = some (.dK kvs) /\ kvs.length < sizeLine /\ Pv (upd H5 D (.dK (putK kvs k' z)))) ->
   (∀ H4, SB [] H2 H4 -> R (i + 1) kvs H4 -> Pv H4) -> g x (wipe σ vs) H' fun σ2 H3 => wipe σ2 vs = wipe σ vs /\ tt σ2 H3 fun b H4 =>
    if b = true then tk σ2 H4 fun y H5 => tv σ2 H5 fun z H6 => ∃ kvs k, y = kV k /\ H6 D = some (.dK kvs) /\ kvs.length < sizeLine /\ Pv (upd H6 D (.dK (putK kvs k z))) else Pv H4)
  (done : ∀ kvs H2, SB [] H H2 -> H2 D = some (.dK kvs) -> R n kvs H2 -> kvs.length <= n -> Qd H2) :
  ∃ W : Nat -> Nat -> Hp -> Prop, (∃ m, W 0 m (upd H D (.dK []))) /\ ∀ i m H, W i m H ->
   (J.stop i H /\ Qd H) \/ (J.go i H /\ ∃ Nx : Hp -> Prop, (∀ H', Nx H' -> ∃ m', m' < m /\ W (i + 1) m' H') /\ ∀ x H', J.yld i H x H' -> g x (wipe σ vs) H' fun σ2 H2 => wipe σ2 vs = wipe σ vs /\ tt σ2 H2 fun b H3 =>
    if b = true then tk σ2 H3 fun y H4 => tv σ2 H4 fun z H5 => ∃ kvs k, y = kV k /\ H5 D = some (.dK kvs) /\ kvs.length < sizeLine /\ Nx (upd H5 D (.dK (putK kvs k z))) else Nx H3) := by
 refine lcG (body := fun Nx x H' => g x (wipe σ vs) H' fun σ2 H2 => wipe σ2 vs = wipe σ vs /\ tt σ2 H2 fun b H3 =>
    if b = true then tk σ2 H3 fun y H4 => tv σ2 H4 fun z H5 => ∃ kvs k, y = kV k /\ H5 D = some (.dK kvs) /\ kvs.length < sizeLine /\ Nx (upd H5 D (.dK (putK kvs k z))) else Nx H3) w (fun i H2 => SB [D] H H2 /\ ∃ kvs, H2 D = some (.dK kvs) /\ R i kvs H2 /\ kvs.length <= i)
  ⟨SB.new hD _, [], upd_same, st _ _ _ _ (SB.new hD _) h0, Nat.le_refl _⟩ (fun i H2 _ h => hG H2 (h.1.drop hD)) (fun i x H2 H' hi h y => ?_) (fun H2 h => ?_)
 ·obtain ⟨s2, kvs, hD2, hR, hl⟩ := h
  refine turn _ i x H2 H' kvs hi (s2.drop hD) y hR hl (fun k z H5 s5 r5 => ?_) (fun H4 s4 r4 => ⟨s2.trans s4.nil, kvs, s4.keep _ _ hD2 nmn, r4, by omega⟩)
  have hD5 := s5.keep _ _ hD2 nmn
  refine ⟨kvs, k, rfl, hD5, by omega, (s2.trans s5.nil).trans (SB.setD hD5 (by simp) _), _, upd_same, st _ _ _ _ (SB.setD hD5 (by simp) _) r5, ?_⟩
  have := length_putK kvs k z
  omega
 ·obtain ⟨s2, kvs, hD2, hR, hl⟩ := h
  exact done kvs H2 (s2.drop hD) hD2 hR hl
end
theorem putK_new {kvs : List (Key × V)} {k : Key} {v : V} (h : ∀ p ∈ kvs, p.1 ≠ k) : putK kvs k v = kvs ++ [(k, v)] := by
 unfold putK
 rw [if_neg]
 intro z
 obtain ⟨p, hp, e⟩ := List.any_eq_true.mp z
 exact h p hp (of_decide_eq_true e)
theorem Bk.nodup_at {b : Bk} (nd : b.names.Nodup) {i : Nat} {k : Kd} (h : b[i]? = some k) : ∀ j ∈ b.take i, j.n ≠ k.n := by
 intro j hj e
 have e1 : b.names = (b.take i).map (·.n) ++ (b.drop i).map (·.n) := by rw [<- List.map_append, List.take_append_drop]
 rw [e1] at nd
 exact (List.nodup_append.mp nd).2.2 j.n (List.mem_map.mpr ⟨j, hj, rfl⟩) k.n (List.mem_map.mpr ⟨k, List.mem_of_getElem? (i := 0) (by rw [List.getElem?_drop]; exact h), rfl⟩) e
theorem SB.setG {H : Hp} {p : Addr} {o : HO} {ps : List Addr} (h : H p = some o) (hp : p ∈ ps) (n1 : ∀ xs, o ≠ .tup xs) (n2 : ∀ u v, o ≠ .frz u v) (o' : HO) : SB ps H (upd H p o') := by
 refine ⟨fun b u e n => ?_, fun b u e => ?_, fun b v u e => ?_, fun b e => ?_⟩
 ·rw [upd_ne (fun (z : b = p) => n (by rw [z]; exact hp))]; exact e
 ·rw [upd_ne (fun (z : b = p) => by subst z; rw [h] at e; exact n1 _ (Option.some.inj e))]; exact e
 ·rw [upd_ne (fun (z : b = p) => by subst z; rw [h] at e; exact n2 _ _ (Option.some.inj e))]; exact e
 ·by_cases q : b = p
  ·subst q; rw [upd_same] at e; cases e
  ·rw [upd_ne q] at e; exact e
theorem rowKV_mem : ∀ {b : Bk} {us : List V} {p : Key × V}, p ∈ b.rowKV us -> ∃ j ∈ b, p.1 = Sum.inr j.n
 | [], _, p, h => by cases h
 | k :: b, [], p, h => by cases h
 | k :: b, u :: us, p, h => by
  rcases List.mem_cons.mp (show p ∈ (Sum.inr k.n, u) :: Bk.rowKV b us from h) with h | h
  ·exact ⟨k, mcs .., by rw [h]⟩
  ·obtain ⟨j, hj, e⟩ := rowKV_mem h
   exact ⟨j, mcm _ hj, e⟩
def CPowW (i j : Int) : Prop := 0 <= j /\ j <= 1000 /\ i.natAbs < 2 ^ 1000
theorem op_powW {X : Cx} : OpR X (binaryOp .Pow) (rI CPowW fun i j => .int (i ^ j.toNat)) := opI fun i j _ _ _ _ _ hc q => pow_int hc.1 (by
 obtain ⟨h0, h1, h2⟩ := hc
 have hb : Builtin.Int.intBits i <= 1000 := intBits_le h2
 have h3 : (Builtin.Int.intBits i : Int) * j <= 1000 * j := Int.mul_le_mul_of_nonneg_right (by omega) h0
 omega) q
theorem abc_code : ∀ r : Nat, r < 26 -> abc.cps.toList[r]? = some (97 + r) := by
 have : ∀ r : Fin 26, abc.cps.toList[r.val]? = some (97 + r.val) := by decide +kernel
 intro r hr
 exact this ⟨r, hr⟩
theorem Ltr.mid {a b : Str} {n c : Nat} (ha : Ltr a n) : (a ++ ⟨#[c]⟩ ++ b).cps.toList[n]? = some c := by
 have e : (a ++ ⟨#[c]⟩ ++ b).cps.toList = a.cps.toList ++ (c :: b.cps.toList) := by show (a.cps ++ #[c] ++ b.cps).toList = _; simp
 rw [e, List.getElem?_append_right (by rw [ha.1]; exact Nat.le_refl _), ha.1, Nat.sub_self]
 rfl
theorem nodup_range {α : Type} {F : Nat -> α} {m : Nat} (h : ∀ i j, i < m -> j < m -> i ≠ j -> F i ≠ F j) : ((List.range m).map F).Nodup := by
 refine List.pairwise_map.mpr (List.Pairwise.imp_of_mem (fun {i j} hi hj hn => h i j (List.mem_range.mp hi) (List.mem_range.mp hj) hn) List.nodup_range)
section
variable {D : Ends} {σ : L2.St} {H : Hp} {t u : TS} {te : TE} {g : TG} {c : TT}
theorem nextI {f : L2.St -> Hp -> Prop} {r : VK} {b c' : L2.St -> Hp -> Prop} (h : f σ H) : tNext ⟨f, r, b, c'⟩ σ H := h
theorem seqI (h : t { D with nx := u D } σ H) : tSeq t u D σ H := h
theorem asgI (h : te σ H fun x H1 => g x σ H1 D.nx) : tAsg te g D σ H := h
theorem ifI (h : c σ H fun b H1 => if b = true then t D σ H1 else u D σ H1) : tIfS c t u D σ H := h
end
theorem names_shaped {zs : List Str} (h : ∀ z ∈ zs, NameOk z) : SeqAt.shaped (.list (zs.map .str)) = true := by
 have h1 : PyData.canLayAll0 (zs.map .str) = true := by
  induction zs with
  | nil => simp [PyData.canLayAll0]
  | cons z r ih =>
   rw [List.map_cons, PyData.canLayAll0, ih fun y hy => h y (mcm _ hy)]
   simp [PyData.canLay0, Gr.strOk_name (h z (mcs ..))]
 have h2 : PyData.depthAll (zs.map .str) = 0 := by
  clear h1 h
  induction zs with
  | nil => simp [PyData.depthAll]
  | cons z r ih => rw [List.map_cons, PyData.depthAll, ih]; simp [PyData.depth]
 unfold SeqAt.shaped
 rw [PyData.canLay0, h1, Bool.true_and]
 exact decide_eq_true (by simp only [PyData.depth, h2]; omega)
section
variable {J : It} {n : Nat} {G : Hp -> Prop} {Y : Nat -> Hp -> V -> Hp -> Prop}
theorem lc_seqQ (w : Walk J n G Y) (ps : List Addr) {g : TG} {tt : TT} {te : TE} {vs : List Nat} {σ : L2.St} {H : Hp} {D : Addr} {Qd : Hp -> Prop} (hD : H D = none) (hps : ∀ q ∈ ps, H q ≠ none) (hn : n < sizeLine) (R : Nat -> List V -> Hp -> Prop) (h0 : R 0 [] H) (hG : ∀ H2, SB ps H H2 -> G H2)
  (st : ∀ i us H2 H3, SB [D] H2 H3 -> R i us H2 -> R i us H3)
  (turn : ∀ (Pv : Hp -> Prop) i x H2 H' us, i < n -> SB ps H H2 -> Y i H2 x H' -> R i us H2 -> us.length <= i -> H2 D = some (.lst us) -> (∀ y H5, SB ps H2 H5 -> R (i + 1) (us ++ [y]) H5 -> ∃ acc, H5 D = some (.lst acc) /\ acc.length < sizeLine /\ Pv (upd H5 D (.lst (acc ++ [y])))) ->
   (∀ H4, SB ps H2 H4 -> R (i + 1) us H4 -> Pv H4) -> g x (wipe σ vs) H' fun σ2 H3 => wipe σ2 vs = wipe σ vs /\ tt σ2 H3 fun b H4 =>
    if b = true then te σ2 H4 fun y H5 => ∃ acc, H5 D = some (.lst acc) /\ acc.length < sizeLine /\ Pv (upd H5 D (.lst (acc ++ [y]))) else Pv H4)
  (done : ∀ us H2, SB ps H H2 -> H2 D = some (.lst us) -> R n us H2 -> us.length <= n -> Qd H2) :
  ∃ W : Nat -> Nat -> Hp -> Prop, (∃ m, W 0 m (upd H D (.lst []))) /\ ∀ i m H, W i m H ->
   (J.stop i H /\ Qd H) \/ (J.go i H /\ ∃ Nx : Hp -> Prop, (∀ H', Nx H' -> ∃ m', m' < m /\ W (i + 1) m' H') /\ ∀ x H', J.yld i H x H' -> g x (wipe σ vs) H' fun σ2 H2 => wipe σ2 vs = wipe σ vs /\ tt σ2 H2 fun b H3 =>
    if b = true then te σ2 H3 fun y H4 => ∃ acc, H4 D = some (.lst acc) /\ acc.length < sizeLine /\ Nx (upd H4 D (.lst (acc ++ [y]))) else Nx H3) := by
 have nD : D ∉ ps := fun z => hps D z hD
 have up : ∀ {H1 H2 : Hp}, SB ps H1 H2 -> SB (D :: ps) H1 H2 := fun e => e.mono fun b hb => mcm _ hb
 have up1 : ∀ {H1 H2 : Hp}, SB [D] H1 H2 -> SB (D :: ps) H1 H2 := fun e => e.mono fun b hb => by rw [List.mem_singleton.mp hb]; exact mcs ..
 refine lc_it w (fun i H2 => SB (D :: ps) H H2 /\ ∃ us, H2 D = some (.lst us) /\ R i us H2 /\ us.length <= i) ⟨SB.new hD _, [], upd_same, st _ _ _ _ (SB.new hD _) h0, Nat.le_refl _⟩ (fun i H2 _ h => hG H2 (h.1.drop hD)) (fun i x H2 H' hi h y => ?_) (fun H2 h => ?_)
 ·obtain ⟨s2, us, hD2, hR, hl⟩ := h
  refine turn _ i x H2 H' us hi (s2.drop hD) y hR hl hD2 (fun y H5 s5 r5 => ?_) (fun H4 s4 r4 => ⟨s2.trans (up s4), us, s4.keep _ _ hD2 nD, r4, by omega⟩)
  have hD5 := s5.keep _ _ hD2 nD
  refine ⟨us, hD5, by omega, (s2.trans (up s5)).trans (SB.set hD5 (by simp) _), _, upd_same, st _ _ _ _ (SB.set hD5 (by simp) _) r5, ?_⟩
  rw [List.length_append, List.length_singleton]; omega
 ·obtain ⟨s2, us, hD2, hR, hl⟩ := h
  exact done us H2 (s2.drop hD) hD2 hR hl
end
section
variable {K : PySem.W.Frag} {H H' : Hp}
theorem Bears_dp {α : Type} {enc : α -> PyData} : ∀ {vs : List V} {xs : List α}, Bears K H enc vs xs -> DpAll K H vs (xs.map enc)
 | _, _, .nil => .nil
 | _, _, .cons h t => .cons h (Bears_dp t)
end
theorem depths_le {n : Nat} : ∀ {ds : List PyData}, (∀ d ∈ ds, d.depth <= n) -> PyData.depthAll ds <= n
 | [], _ => by simp [PyData.depthAll]
 | d :: ds, h => by
  have h1 := h d (mcs ..)
  have h2 := depths_le fun x hx => h x (mcm _ hx)
  rw [PyData.depthAll]; omega
open TL (tl)
theorem seq_via {t rest : TS} {D : Ends} {σ : L2.St} {H : Hp} (R : L2.St -> Hp -> Prop) (h : ∀ nx : L2.St -> Hp -> Prop, (∀ σ' H', R σ' H' -> nx σ' H') -> t { D with nx := nx } σ H) (k : ∀ σ' H', R σ' H' -> rest D σ' H') : tSeq t rest D σ H := h (rest D) k
theorem nameI {i : Nat} {v : V} {σ : L2.St} {H : Hp} {f : L2.St -> Hp -> Prop} {r : VK} {b c : L2.St -> Hp -> Prop} (h : f (σ.set i (some v)) H) : gName i v σ H (Ends.mk f r b c).nx := h
abbrev rListOf (K : PySem.W.Frag) : List V -> Hp -> VK -> Prop := fun xs H Q => ∃ p ys, xs = [.ref p] /\ (SqL K H p ys \/ SqT K H p ys) /\ ∀ l, H l = none -> Q (.ref l) (upd H l (.lst ys))
theorem Bk.Ok.two {b : Bk} (ok : b.Ok) : ∀ k ∈ b, k.rs.length <= 4 /\ ∀ r ∈ k.rs, RuOk r := fun k hk => ⟨(ok.kd k hk).2.1, fun r hr => ((ok.kd k hk).2.2 r hr).1⟩
theorem Bk.Ok.three {b : Bk} (ok : b.Ok) : ∀ k ∈ b, NameOk k.n /\ ∀ r ∈ k.rs, RuOk r := fun k hk => ⟨(ok.kd k hk).1, (ok.two k hk).2⟩
theorem make_core {K : PySem.W.Frag} {C B : Addr} {b : Bk} {H : Hp} {l : Addr} {xs : List V} {bad : List Addr} {Q : VK} {E : XK} (hl : H l = some (.lst xs)) (ha : KdAll K H bad xs b) (ok : b.Ok) (k : ∀ y H', SB [] H H' -> H y = none -> BkA K C H' (.ref y) b -> Q (.ref y) H') :
  ∀ y dx, H y = none -> H dx = none -> dx ≠ y -> spBInit K C B (.ref y :: [.ref l]) (upd (upd H dx (.own y)) y (.ins C dx [])) (fun v H2 => v = .non /\ Q (.ref y) H2) E := by
 intro y dx hy hdx hne
 have b8 := ok.len
 have hy' : upd H dx (.own y) y = none := by rw [upd_ne (fun z => hne z.symm)]; exact hy
 have t4 := (SB.new (ps := []) hdx (.own y)).trans (SB.new hy' (.ins C dx []))
 have hdx4 : upd (upd H dx (.own y)) y (.ins C dx []) dx = some (.own y) := by rw [upd_ne hne, upd_same]
 have hx4 : upd (upd H dx (.own y)) y (.ins C dx []) y = some (.ins C dx []) := upd_same
 refine ⟨y, dx, l, xs, b.map Kd.kt, rfl, hx4, hdx4, t4.keep _ _ hl nmn, (ha.sb t4 NoLst.nil).kt ok.three, fun t ht => ?_, by rw [List.length_map]; omega, fun b' e ok' H5 s5 hbk => ?_, fun z => absurd ⟨b, rfl, ok⟩ z⟩
 ·obtain ⟨k, hk, rfl⟩ := List.mem_map.mp ht
  exact KTFit_of (ok.two k hk)
 ·have e := kts_inj e
  subst e
  exact ⟨rfl, k y H5 (((t4.nil (ps := [y])).trans s5).drop hy) hy hbk⟩
open PySem.Froz (SD sObj TxOk addTx tailTx)
structure TxS (P : Program) (w : World) (D : SD) (l : List Str) : Prop where
 ok : TxOk P w D l
 nd : l.Nodup
 ris : Ris D.2.2.place.toList
 led : w.params.followText "set-order" = true \/ D.2.2.led = true
def insS (k : Str) (l : List Str) : List Str := if k ∈ l then l else k :: l
section
variable {P : Program} {w : World} {A : Around} {E : Value -> Shared -> Prop} {s : Shared} {D : SD} {l : List Str} {k : Str} {u : Tok} {a : Addr} {T : String}
theorem tail_walk {es : Array (Int × Value)} {ep : Nat} {t : SetTable} {b : Bool} (r : Ris t.place.toList) (d : w.params.followText "set-order" = true \/ t.led = true) :
  Ris (tailTx ep es t b).2.2.place.toList /\ (w.params.followText "set-order" = true \/ (tailTx ep es t b).2.2.led = true) := by
 unfold tailTx
 split
 ·exact ⟨relayAll_ris .., d.imp id fun z => by rw [relayAll_led]; exact z⟩
 ·exact ⟨r, d⟩
theorem TxS.add (F : TxS P w D l) (hk : k ∉ l) : TxS P w (addTx (hashStr w k) (.str k u) D) (k :: l) := by
 obtain ⟨es, ep, t⟩ := D
 have r1 := layNew_ris t es (hashStr w k) (.str k u) F.ris
 have d1 := F.led.imp id fun z => (layNew_led t es (hashStr w k) (.str k u)).trans z
 have key : ∀ t' : SetTable, t'.place = (layNew t es (hashStr w k) (.str k u)).2.1.place -> t'.led = (layNew t es (hashStr w k) (.str k u)).2.1.led -> ∀ es' b, Ris (tailTx ep es' t' b).2.2.place.toList /\ (w.params.followText "set-order" = true \/ (tailTx ep es' t' b).2.2.led = true) :=
  fun t' e1 e2 es' b => tail_walk (by rw [e1]; exact r1) (by rw [e2]; exact d1)
 have z := key (if (layNew t es (hashStr w k) (.str k u)).2.1.plain = true then { (layNew t es (hashStr w k) (.str k u)).2.1 with plain := false } else (layNew t es (hashStr w k) (.str k u)).2.1) (by split <;> rfl) (by split <;> rfl) (layNew t es (hashStr w k) (.str k u)).1 (layNew t es (hashStr w k) (.str k u)).2.2.1
 exact ⟨PySem.Froz.add_ok u F.ok, List.nodup_cons.mpr ⟨hk, F.nd⟩, z.1, z.2⟩
theorem add_there {Q : Bool -> Shared -> Prop} (ho : s.heap.get? a = some (sObj T D)) (F : TxOk P w D l) (hk : k ∈ l) (hb : l.length < scanBound) (h : Q false s) : wpAny (model P w) A (setAddHashed a (.str k u) (hashStr w k)) Q E s := by
 obtain ⟨es, ep, t⟩ := D
 have hd : (sObj T (es, ep, t)).data = .set es ep t := rfl
 have hel : ElemsOf (strKind P w) es.toList := F.el
 have hsz : es.size = l.length := F.sz
 have is0 : (strKind P w).is k (.str k u) = true := PySem.Froz.is_str k u
 obtain ⟨j, hj⟩ : ∃ j, List.findIdx? (fun e => (strKind P w).is k e.2) es.toList = some j := by
  cases e : List.findIdx? (fun e => (strKind P w).is k e.2) es.toList with
  | some j => exact ⟨j, rfl⟩
  | none =>
   obtain ⟨x, hx, hi⟩ := (F.mem k).mp hk
   have := List.findIdx?_eq_none_iff.mp e x hx
   rw [hi] at this
   cases this
 unfold setAddHashed setAddHashedIn
 refine wpAny_holding (wpAny_bind (wpAny_setState_of ho hd F.fit ?_))
 dsimp only
 rw [byScan_of rfl (by rw [hsz]; exact hb) hel]
 simp only [↓reduceIte]
 unfold setAddByScan
 refine wpAny_bind (wpAny_bind (wpAny_rule (wpAny_bind (wpAny_setScan_of (knd := strKind P w) (k := k) is0 ho hd F.fit hel ?_))))
 rw [hj]
 exact wpAny_pure (wpAny_pure h)
theorem add_any {Q : Bool -> Shared -> Prop} (ho : s.heap.get? a = some (sObj T D)) (F : TxS P w D l) (hb : l.length + 1 < scanBound)
  (h : ∀ (b : Bool) (h' : Heap) (D' : SD), Heap.SameBut a s.heap h' -> h'.get? a = some (sObj T D') -> TxS P w D' (insS k l) -> Q b { s with heap := h' }) : wpAny (model P w) A (setAddHashed a (.str k u) (hashStr w k)) Q E s := by
 by_cases hk : k ∈ l
 ·refine add_there ho F.ok hk (by omega) (h false s.heap D (Heap.SameBut.refl a s.heap) ho ?_)
  unfold insS
  rw [if_pos hk]
  exact F
 ·refine PySem.Froz.add_x ho F.ok hk hb (h true _ _ (Heap.SameBut.update ..) (PySem.Froz.get_upd _ ho rfl) ?_)
  unfold insS
  rw [if_neg hk]
  exact F.add hk
end
section
variable {P : Program} {w : World} {A : Around} {E : Value -> Shared -> Prop} {s : Shared} {D : SD} {l : List Str} {k : Str} {u : Tok} {a : Addr}
theorem call_add {Q : Value -> Shared -> Prop} (ho : s.heap.get? a = some (sObj "set" D)) (F : TxS P w D l) (hb : l.length + 1 < scanBound)
  (h : ∀ (h' : Heap) (D' : SD), Heap.SameBut a s.heap h' -> h'.get? a = some (sObj "set" D') -> TxS P w D' (insS k l) -> Q .none { s with heap := h', toks := s.toks + 1 }) : wpAny (model P w) A (call (.builtin "set.add") [.ref a, .str k u]) Q E s := by
 refine wpAny_call_entry PySem.F.slot_set_add ⟨_, ho, rfl⟩ PySem.F.entry_set_add ?_ (PySem.F.args_set_add_2 _ _)
 unfold Builtin.«set.add» Builtin.Frozenset.oneOther
 simp only [List.isEmpty_nil, bind_assoc]
 unfold Builtin.Frozenset.addrOf setAdd
 refine wpAny_bind (wpAny_pure ?_)
 try dsimp only
 refine wpAny_bind (wpAny_pure ?_)
 try dsimp only
 refine wpAny_bind (wpAny_holding (wpAny_bind ((strKind P w).pyHash (k := k) (PySem.Froz.is_str k u) ?_)))
 refine add_any (s := { s with toks := s.toks + 1 }) ho F hb fun b h' D' sb o' F' => ?_
 refine (?_ : wpAny (model P w) _ (ret Value.none) _ E _)
 exact wpAny_pure ⟨_, rfl, h h' D' sb o' F'⟩
end
def SetSO (P : Program) (w : World) (a : Addr) (l : List Str) : HO := .ext fun h => ∃ D : SD, h.get? a = some (sObj "set" D) /\ TxS P w D l
theorem setSO_new {P : Program} {w : World} {H : Hp} {h : Heap} {a : Addr} {l : List Str} {D : SD} (ho : h.get? a = some (sObj "set" D)) (F : TxS P w D l) : ObjOk P w H h a (SetSO P w a l) :=
 ⟨⟨D, ho, F⟩, ⟨_, ho⟩, fun h1 h2 ⟨D', q, F'⟩ k => ⟨D', k _ q, F'⟩⟩
section
variable {X : Cx} {pins : List (Addr × Obj)} {σ : L2.St} {H : Hp} {s : Shared} {l : List Str}
theorem setSO_get {a : Addr} (I : Inv X pins σ H s) (ha : H a = some (SetSO X.prog X.w a l)) : ∃ D : SD, s.heap.get? a = some (sObj "set" D) /\ TxS X.prog X.w D l := (I.hok a _ ha).1
theorem addS_ok {E : Value -> Shared -> Prop} {a : Addr} {k : Str} {u : Tok} {Q : Value -> Shared -> Prop} (I : Inv X pins σ H s) (ha : H a = some (SetSO X.prog X.w a l)) (room : l.length + 1 < scanBound)
  (h : ∀ s', Inv X pins σ (upd H a (SetSO X.prog X.w a (insS k l))) s' -> Q .none s') : wpAny (model X.prog X.w) X.A (call (.builtin "set.add") [.ref a, .str k u]) Q E s := by
 obtain ⟨D, ho, F⟩ := setSO_get I ha
 refine call_add ho F room fun h' D' sb o' F' => ?_
 exact h _ (I.write (e := a) (t' := s.toks + 1) (by rw [ha]; trivial) (.inl rfl) (fun b o hb hu => (sb.2 b hb).trans hu) ⟨_, o'⟩ (setSO_new o' F'))
end
theorem fresh_txs (P : Program) (w : World) : TxS P w (#[], 0, .fresh 0 0 (!w.params.followText "set-order")) [] := by
 refine ⟨PySem.Froz.TxOk.nil rfl, List.nodup_nil, List.Pairwise.nil, ?_⟩
 show _ \/ (!w.params.followText "set-order") = true
 cases w.params.followText "set-order"
 ·exact .inr rfl
 ·exact .inl rfl
theorem is_shape {P : Program} {w : World} {k : Str} {v : Value} (h : (strKind P w).is k v = true) : ∃ tk, v = Value.str k tk := by
 have h : Value.isStrOf k v = true := h
 cases v <;> simp [Value.isStrOf] at h
 exact ⟨_, by rw [h]⟩
theorem strs_of : ∀ (l : List Value), (∀ v ∈ l, ∃ k tk, v = Value.str k tk) -> ∃ ss : List Str, StrsAre l ss /\ ∀ k, k ∈ ss ↔ ∃ v ∈ l, ∃ tk, v = Value.str k tk
 | [], _ => ⟨[], .nil, fun k => by simp⟩
 | v :: r, h => by
  obtain ⟨k, tk, rfl⟩ := h v (mcs ..)
  obtain ⟨ss, h1, h2⟩ := strs_of r fun x hx => h x (mcm _ hx)
  refine ⟨k :: ss, .cons k tk h1, fun j => ?_⟩
  rw [List.mem_cons, h2 j]
  refine ⟨fun z => ?_, fun ⟨x, hx, t', e⟩ => ?_⟩
  ·rcases z with rfl | ⟨x, hx, e⟩
   ·exact ⟨_, mcs .., tk, rfl⟩
   ·exact ⟨x, mcm _ hx, e⟩
  ·rcases List.mem_cons.mp hx with q | q
   ·rw [q] at e; cases e; exact .inl rfl
   ·exact .inr ⟨x, q, t', e⟩
theorem perm_of {α : Type} : ∀ {a b : List α}, b.Nodup -> a.length = b.length -> (∀ k, k ∈ b -> k ∈ a) -> a.Perm b
 | a, [], _, hl, _ => by
  have : a = [] := List.eq_nil_of_length_eq_zero hl
  rw [this]
 | a, x :: b, nd, hl, hm => by
  obtain ⟨p, q, e⟩ := List.append_of_mem (hm x (mcs ..))
  subst e
  obtain ⟨n1, n2⟩ := List.nodup_cons.mp nd
  have ih := perm_of (a := p ++ q) (b := b) n2 (by simp at hl ⊢; omega) fun k hk => by
   have hx : k ≠ x := fun z => n1 (z ▸ hk)
   have := hm k (mcm _ hk)
   simp only [List.mem_append, List.mem_cons] at this ⊢
   rcases this with z | z | z
   ·exact .inl z
   ·exact absurd z hx
   ·exact .inr z
  exact List.perm_middle.trans (ih.cons x)
section
variable {P : Program} {w : World} {A : Around} {E : Value -> Shared -> Prop} {s : Shared} {D : SD} {l : List Str} {a : Addr}
theorem sorted_txt {Q : Value -> Shared -> Prop} (hh : A.handled = none) (ho : s.heap.get? a = some (sObj "set" D)) (F : TxS P w D l) (h64 : l.length < 64)
  (h : ∀ (s' : Shared) (p : Addr) (out : Array Value) (c : Nat) (ss : List Str), (∀ b o, s.heap.get? b = some o -> s'.heap.get? b = some o) -> s'.gens = s.gens -> s'.os = s.os -> s.heap.objs.size <= p -> s'.heap.get? p = some (seqObj "list" out c) -> StrsAre out.toList ss -> ss.Perm l -> sortedS ss = true -> Q (.ref p) s') :
  wpAny (model P w) A (call (.builtin "sorted") [.ref a]) Q E s := by
 obtain ⟨es, ep, t⟩ := D
 have hsz : es.size = l.length := F.ok.sz
 have hsc : es.size < scanBound := by rw [hsz]; unfold scanBound; omega
 refine Calls.call_function_entry kind_sorted plain_sorted entry_sorted (args_sorted1 _) ?_
 unfold Builtin.«sorted»
 refine wpAny_bind (m := checkCount "sorted" 1 1 _) (wpAny_pure ?_)
 refine wpAny_bind (collect_set (A := A.in1) hh ⟨_, ho, rfl, rfl⟩ F.ok.fit hsc F.ris F.led fun s1 vs k1 z1 g1 o1 pm => ?_)
 have vl : vs.length = l.length := by rw [pm.length_eq, List.length_map, Array.length_toList, hsz]
 have shape : ∀ v ∈ vs, ∃ k tk, v = Value.str k tk := fun v hv => by
  obtain ⟨e, he, rfl⟩ := List.mem_map.mp (pm.mem_iff.mp hv)
  obtain ⟨⟨k, hk, _⟩, _⟩ := F.ok.el e he
  obtain ⟨tk, q⟩ := is_shape hk
  exact ⟨k, tk, q⟩
 obtain ⟨ss, hS, hmem⟩ := strs_of vs shape
 have hp : ss.Perm l := by
  refine perm_of F.nd (by rw [<- hS.length]; exact vl) fun k hk => ?_
  obtain ⟨e, he, hi⟩ := (F.ok.mem k).mp hk
  obtain ⟨tk, q⟩ := is_shape hi
  exact (hmem k).mpr ⟨e.2, pm.mem_iff.mpr (List.mem_map_of_mem he), tk, q⟩
 refine wpAny_bind (wpAny_newList ?_ (by rw [vl, sizeLine_eq]; omega))
 have at1 : (s1.heap.push (seqObj "list" vs.toArray 0)).get? s1.heap.objs.size = some (seqObj "list" vs.toArray 0) := Heap.get?_push_size _ rfl
 refine wpAny_bind (wpAny_holding (wpAny_call_entry slot_list_sort ⟨_, at1, rfl⟩ entry_list_sort (list_sort_treeK strKind_oneLt at1 hS.keysOf (fun v1 v2 r e => keyKind_strs (by rw [<- e]; exact hS)) (by rw [vl]; exact h64) fun st' p1 p2 => ⟨_, rfl, ?_⟩) (args_list_sort _)))
 obtain ⟨ss', q1, q2, q3⟩ := sorted_out_str hS p1 p2
 obtain ⟨c, hc⟩ := sortedHeap_at (vs := vs) (out := (arrOf st').map (·.2)) at1
 refine wpAny_pure ⟨_, rfl, h _ s1.heap.objs.size _ c ss' (fun b o e => ?_) g1 o1 z1 hc q1 (q2.trans hp) q3⟩
 have e1 := k1 b o e
 have lt := Heap.lt_size e1
 show (sortedHeap (s1.heap.push (seqObj "list" vs.toArray 0)) s1.heap.objs.size vs _).get? b = some o
 rw [sortedHeap_old (Nat.ne_of_lt lt) (by rw [size_push']; exact Nat.lt_succ_of_lt lt)]
 exact Heap.get?_push_of_some _ e1
end
section
variable {X : Cx}
def rSortedTx (P : Program) (w : World) : List V -> Hp -> VK -> Prop := fun vs H Q => ∃ (a : Addr) (l : List Str), vs = [.ref a] /\ H a = some (SetSO P w a l) /\ l.length < 64 /\ ∀ (ss : List Str) (p : Addr), ss.Perm l -> sortedS ss = true -> H p = none -> Q (.ref p) (upd H p (.lst (ss.map V.str)))
theorem cr_sortedTx (hc : X.calm = true) : CallR X (.builtin "sorted") (rSortedTx X.prog X.w) := by
 intro pins s σ H vs us Q I r h
 obtain ⟨a, l, rfl, ha, h64, q⟩ := h
 obtain ⟨D, ho, F⟩ := setSO_get I ha
 rw [Vals.ref1 r]
 refine sorted_txt (I.ok.hd hc) ho F h64 fun s' p out c ss kp eg eo hp at' hS pm srt => ?_
 have hn : H p = none := I.hok.fresh hp
 have hz : (ss.map V.str).length <= sizeLine := by rw [List.length_map, pm.length_eq, sizeLine_eq]; omega
 obtain ⟨h', g', d', tk', os'⟩ := s'
 have eo : os' = s.os := eo
 subst eo
 exact ⟨.ref p, upd H p (.lst (ss.map V.str)), I.call (ch := []) (Un.laid kp hp hn) (I.hok.laid kp hp ⟨hz, out.toList, c, vals_of_strs hS, at'⟩) (by rw [show g' = s.gens from eg]; exact I.bare) (fun _ z => nomatch z), rfl, q ss p pm srt hn⟩
end
section
variable {X : Cx}
def tScS (P : Program) (w : World) (wi : TI) (g : TG) (tt : TT) (te : TE) (vs : List Nat) : TE := fun σ H Q => wi σ H fun J H1 => ∀ D, H1 D = none -> ∃ W : Nat -> Nat -> Hp -> Prop, (∃ m, W 0 m (upd H1 D (SetSO P w D []))) /\ ∀ i m Hi, W i m Hi ->
 (J.stop i Hi /\ Q (.ref D) Hi) \/ (J.go i Hi /\ ∃ Nx : Hp -> Prop, (∀ H', Nx H' -> ∃ m', m' < m /\ W (i + 1) m' H') /\ ∀ x H', J.yld i Hi x H' -> g x (wipe σ vs) H' fun σ2 H2 => wipe σ2 vs = wipe σ vs /\ tt σ2 H2 fun b H3 =>
  if b = true then te σ2 H3 fun y H4 => ∃ (z : Str) (l : List Str), y = .str z /\ H4 D = some (SetSO P w D l) /\ l.length + 1 < scanBound /\ Nx (upd H4 D (SetSO P w D (insS z l))) else Nx H3)
theorem pe_scS {elt tg iter : Expr} {ifs : List Expr} {scope : Scope} {own : List (PySem.Str × Nat)} {pos : Pos} {wi : TI} {g : TG} {tt : TT} {te : TE} (hc : X.calm = true) (hN : X.N.Nodup) (hi : PI X tg iter wi) (ok : BlkOk X.N X.env.scope scope own)
  (hg : ∀ (s1 : Shared) (H1 : Hp) (C : Addr) (cl : List (PySem.Str × Addr)) (fp : List Addr), L2.PG (X.blk s1 H1 scope (compEnvC scope cl C X.env) fp) tg g) (ht : ∀ (s1 : Shared) (H1 : Hp) (C : Addr) (cl : List (PySem.Str × Addr)) (fp : List Addr), L2.PTs (X.blk s1 H1 scope (compEnvC scope cl C X.env) fp) ifs tt)
  (he : ∀ (s1 : Shared) (H1 : Hp) (C : Addr) (cl : List (PySem.Str × Addr)) (fp : List Addr), L2.PE (X.blk s1 H1 scope (compEnvC scope cl C X.env) fp) elt te) (hs : ∀ x, foldedSetIterable iter X.env x = pure x := by intro _; rfl) :
  PE X (.SetComp elt [⟨tg, iter, ifs, 0⟩] scope pos) (tScS X.prog X.w wi g tt te (own.map (·.2))) := by
 refine ⟨fun pins s σ H Q I h => ?_⟩
 rw [PpSet.eval_SetComp]
 have clo : ∀ y ∈ scope.names, y.2 = .free -> ∃ c, X.env.cells.lookup y.1 = some c := fun y hy e => (ok.free y hy e).elim (fun k => I.ok.has _ (.inl k)) fun k => I.ok.has _ (.inr k)
 refine wpAny_comprehension_free (use := none) rfl hs (closure_ok clo) ok.kind (fun y hy e => by rw [ok.uniq y hy, e]) (thn (hi.run pins s σ H _ I h) fun xv s1 hx => thn hx fun itv s2 got => ?_)
 obtain ⟨it, fp, tn, J, Ha, e0, Ia, Tn, sta, fpa, walk⟩ := got
 subst e0
 refine PpSet.newSet_ok (newEnv_comp ?_)
 -- the new set, at the heap's end
 generalize eD : s2.heap.objs.size = D
 have freeD : Ha D = none := Ia.hok.fresh (Nat.le_of_eq eD)
 obtain ⟨W, ⟨m0, w0⟩, turn⟩ := walk D freeD
 generalize eb : ({ s2 with heap := s2.heap.push { cls := .type "set", dict := none, data := .set #[] 0 (.fresh 0 0 (!X.w.params.followText "set-order")) } } : Shared) = sb
 have hpb : sb.heap = s2.heap.push { cls := .type "set", dict := none, data := .set #[] 0 (.fresh 0 0 (!X.w.params.followText "set-order")) } := by rw [<- eb]
 have Ib : Inv X pins σ (upd Ha D (SetSO X.prog X.w D [])) sb := by
  rw [<- eb]
  refine Ia.laid (t' := s2.toks) (fun b o e => Heap.get?_push_of_some _ e) (Nat.le_of_eq eD) ?_
  rw [<- eD]
  exact setSO_new (Heap.get?_push_size _ rfl) (fresh_txs X.prog X.w)
 have low : ∀ b ∈ fp, b < s2.heap.objs.size := fun b hb => let ⟨o, e, _⟩ := Tn.obj _ _ sta b hb; Heap.lt_size e
 have fpb : ∀ b ∈ fp, FpOk X pins (upd Ha D (SetSO X.prog X.w D [])) b /\ b < sb.heap.objs.size := fun b hb => by
  refine ⟨⟨?_, (fpa b hb).2⟩, by rw [hpb, Heap.size_push]; exact Nat.lt_succ_of_lt (low b hb)⟩
  rw [upd_ne (by rw [<- eD]; exact Nat.ne_of_lt (low b hb))]
  exact (fpa b hb).1
 have stb : tn 0 sb.heap := Tn.keep _ _ _ sta fun b _ o e => by rw [hpb]; exact Heap.get?_push_of_some _ e
 have Ic := block_start Ib ok hN fpb
 generalize eHb : upd Ha D (SetSO X.prog X.w D []) = Hb at Ib Ic w0 fpb
 have pg := hg sb Hb sb.heap.objs.size (cellsFrom (sb.heap.objs.size + 1) scope.names (cloFrom X.env.cells scope.names [])) fp
 have pt := ht sb Hb sb.heap.objs.size (cellsFrom (sb.heap.objs.size + 1) scope.names (cloFrom X.env.cells scope.names [])) fp
 have pe := he sb Hb sb.heap.objs.size (cellsFrom (sb.heap.objs.size + 1) scope.names (cloFrom X.env.cells scope.names [])) fp
 show codeAny (model X.prog X.w) X.A (.compStart (.SetComp elt [⟨tg, iter, ifs, 0⟩] scope pos) 0 (.ref it) (.ref D) (compEnvC scope (cellsFrom (sb.heap.objs.size + 1) scope.names (cloFrom X.env.cells scope.names [])) sb.heap.objs.size X.env)) (compPost (model X.prog X.w) X.A X.xe none (EP X pins σ Q) (.ref D) sb.heap.objs.size) { sb with heap := pushCells (sb.heap.push { cls := .type "dict", data := .dict #[] }) scope.names }
 have noneF : ∀ b ∈ fp, Hb b = none := fun b hb => (fpb b hb).1.1
 generalize ece : compEnvC scope (cellsFrom (sb.heap.objs.size + 1) scope.names (cloFrom X.env.cells scope.names [])) sb.heap.objs.size X.env = ce at Ic pg pt pe ⊢
 have ecl : ce.locals = sb.heap.objs.size := by subst ece; rfl
 generalize esc : ({ sb with heap := pushCells (sb.heap.push { cls := .type "dict", data := .dict #[] }) scope.names } : Shared) = sc at Ic ⊢
 have stc : tn 0 sc.heap := Tn.keep _ _ _ stb fun b _ o e => by rw [<- esc]; exact pushCells_keeps _ _ _ _ (Heap.get?_push_of_some _ e)
 -- the block's context
 let XB : Cx := X.blk sb Hb scope ce fp
 have still : ∀ {τ : L2.St} {G : Hp} {t : Shared}, Inv XB [] τ G t -> (∀ b ∈ fp, G b = none) -> ∀ b ∈ fp, FpOk XB [] G b := fun {τ G t} I' hn b hb =>
  ⟨hn b hb, (I'.ok.exf b hb).1, I'.ok.exfs b hb, .inl hb, fun x c e => (I'.ok.exf b hb).2 x c e, fun p hp => absurd (show p ∈ ([] : List (Addr × Obj)) ++ [] from hp) (by simp)⟩
 have loop : codeAny (model X.prog X.w) X.A (.compLoop (.SetComp elt [⟨tg, iter, ifs, 0⟩] scope pos) 0 (.ref it) (.ref D) ce) (compPost (model X.prog X.w) X.A X.xe none (EP X pins σ Q) (.ref D) sb.heap.objs.size) sc := by
  refine PpSet.compLoopS_any (fun n t => ∃ i G, Inv XB [] (wipe σ (own.map (·.2))) G t /\ tn i t.heap /\ (∀ b ∈ fp, G b = none) /\ W i n G) ?_ m0 ⟨0, Hb, Ic, stc, noneF, w0⟩
  rintro n t ⟨i, G, It, stt, nt, wt⟩
  rcases turn i n G wt with ⟨ends, qq⟩ | ⟨goes, Nx, hNx, step⟩
  ·refine thnF (Tn.done XB rfl rfl rfl hc i [] t _ G (fun _ _ => False) It (still It nt) stt ends) fun r t6 ⟨er, I6⟩ => ?_
   subst er
   have I7 : Inv X pins σ G t6 := Ib.call' (ch := fp) I6.os I6.base I6.hok I6.bare fun b hb => ⟨(fpb b hb).1.2.2.2.1, (fpb b hb).1.2.1, (fpb b hb).1.2.2.2.2.1, (fpb b hb).1.2.2.2.2.2⟩
   have nC : G sb.heap.objs.size = none := ecl ▸ (show G ce.locals = none from I6.free)
   obtain ⟨m, hn, _⟩ := I6.loc
   have hn : t6.heap.Ns sb.heap.objs.size m := ecl ▸ (show t6.heap.Ns ce.locals m from hn)
   obtain ⟨f0, f1, f2, f3, f4, f5⟩ := Ib.fpOk (Nat.le_refl _) nC
   exact ⟨m, hn, fun h'' same => ⟨.ref D, G, I7.turned (t' := t6.toks) (fun b o hb e => (same.2 b hb).trans e) f0 f1 f3 f4 f5, rfl, qq⟩⟩
  ·refine thnF (Tn.item XB rfl rfl rfl hc i [] t _ G (fun _ _ => False) It (still It nt) stt goes) fun r t6 ⟨u, er, h6⟩ => ?_
   subst er
   refine thnF h6 fun _ t7 ⟨x, G7, I7, r7, y7, st7, n7⟩ => ?_
   have P7 := I7.pinned (still I7 n7) (Tn.obj _ _ st7)
   refine thnF (pg.run _ t7 _ G7 x u _ P7 r7 (step x G7 y7)) fun _ t8 ⟨τ, G8, I8, hw, q8⟩ => ?_
   refine thnF (pt.run _ t8 τ G8 _ I8 q8) fun b t9 ⟨G9, I9, q9⟩ => ?_
   have back : ∀ {t' : Shared} {G' : Hp}, Inv XB ([] ++ pinsAt fp t7.heap) τ G' t' -> Nx G' -> ∃ m, m < n /\ ∃ i G, Inv XB [] (wipe σ (own.map (·.2))) G t' /\ tn i t'.heap /\ (∀ b ∈ fp, G b = none) /\ W i m G := fun {t' G'} I' nx => by
    obtain ⟨m', hm, w'⟩ := hNx G' nx
    have keep : ∀ b ∈ fp, ∀ o, t7.heap.get? b = some o -> t'.heap.get? b = some o /\ G' b = none := fun b hb o e =>
     have z := I'.pin (b, o) (mar _ (mar _ (mem_pinsAt hb e)))
     ⟨z.1, z.2.1⟩
    refine ⟨m', hm, i + 1, G', (I'.unpinned (pins := [])).weak (by rw [<- hw, wipe_length]) (fun j v e => (wipe_some (hw ▸ e)).1), Tn.keep _ _ _ st7 fun b hb o e => (keep b hb o e).1, fun b hb => ?_, w'⟩
    obtain ⟨o, e, _⟩ := Tn.obj _ _ st7 b hb
    exact (keep b hb o e).2
   cases b with
   | false => exact back I9 q9
   | true =>
    refine thnF (pe.run _ t9 τ G9 _ I9 q9) fun z t10 ⟨yv, G10, I10, r10, zz, l0, ey, hD10, room, nx⟩ => ?_
    subst ey
    obtain ⟨tk, rfl⟩ := r10
    exact addS_ok (X := XB) I10 hD10 room fun t11 I11 => back I11 nx
 exact PpSet.codeAny_compStart_set loop (Tn.self X.A 0 _ _ _ stc loop)
end
open PySem.Froz (SD sObj TxOk addTx tailTx)
theorem insS_mem {k x : Str} {l : List Str} : k ∈ insS x l ↔ k = x \/ k ∈ l := by
 unfold insS
 split
 ·rename_i h
  exact ⟨.inr, fun z => z.elim (fun e => e ▸ h) id⟩
 ·exact List.mem_cons
theorem insS_len (x : Str) (l : List Str) : (insS x l).length <= l.length + 1 := by
 unfold insS
 split
 ·omega
 ·simp
theorem rising_all : ∀ {l : List Str} {p : Str}, risingS p l = true -> ∀ x ∈ l, ¬ x.cps.toList < p.cps.toList
 | [], _, _, x, h => by cases h
 | y :: r, p, h, x, hx => by
  rw [risingS, Bool.and_eq_true, Bool.not_eq_true', ltCps_eq] at h
  have h1 : ¬ y.cps.toList < p.cps.toList := of_decide_eq_false h.1
  rcases List.mem_cons.mp hx with e | e
  ·rw [e]; exact h1
  ·exact List.le_trans h1 (rising_all h.2 x e)
theorem sortedS_tail {x : Str} {r : List Str} (h : sortedS (x :: r) = true) : sortedS r = true := by
 cases r with
 | nil => rfl
 | cons y s =>
  have h : risingS x (y :: s) = true := h
  rw [risingS, Bool.and_eq_true] at h
  exact h.2
theorem step_inj {b s i j : Nat} (hs : s = 1 \/ s = 3 \/ s = 5 \/ s = 7 \/ s = 9 \/ s = 11 \/ s = 15 \/ s = 17) (hi : i < 8) (hj : j < 8) (e : (b + s * i) % 26 = (b + s * j) % 26) : i = j := by
 rcases hs with rfl | rfl | rfl | rfl | rfl | rfl | rfl | rfl <;> omega
section
variable {J : It} {n : Nat} {G : Hp -> Prop} {Y : Nat -> Hp -> V -> Hp -> Prop} {P : Program} {w' : World}
theorem SetSO.noTup {a : Addr} {l : List Str} : (∀ xs, SetSO P w' a l ≠ .tup xs) /\ ∀ u v, SetSO P w' a l ≠ .frz u v := ⟨(fun _ z => nomatch z), (fun _ _ z => nomatch z)⟩
theorem sc_seq (w : Walk J n G Y) {g : TG} {tt : TT} {te : TE} {vs : List Nat} {σ : L2.St} {H : Hp} {D : Addr} {Qd : Hp -> Prop} (hD : H D = none) (hn : n + 1 < scanBound) (R : Nat -> List Str -> Hp -> Prop) (h0 : R 0 [] H) (hG : ∀ H2, SB [] H H2 -> G H2)
  (st : ∀ i us H2 H3, SB [D] H2 H3 -> R i us H2 -> R i us H3)
  (turn : ∀ (Pv : Hp -> Prop) i x H2 H' us, i < n -> SB [] H H2 -> Y i H2 x H' -> R i us H2 -> us.length <= i -> (∀ z H5, SB [] H2 H5 -> R (i + 1) (insS z us) H5 -> ∃ (z' : Str) (l : List Str), V.str z = .str z' /\ H5 D = some (SetSO P w' D l) /\ l.length + 1 < scanBound /\ Pv (upd H5 D (SetSO P w' D (insS z' l)))) ->
   (∀ H4, SB [] H2 H4 -> R (i + 1) us H4 -> Pv H4) -> g x (wipe σ vs) H' fun σ2 H3 => wipe σ2 vs = wipe σ vs /\ tt σ2 H3 fun b H4 =>
    if b = true then te σ2 H4 fun y H5 => ∃ (z : Str) (l : List Str), y = .str z /\ H5 D = some (SetSO P w' D l) /\ l.length + 1 < scanBound /\ Pv (upd H5 D (SetSO P w' D (insS z l))) else Pv H4)
  (done : ∀ us H2, SB [] H H2 -> H2 D = some (SetSO P w' D us) -> R n us H2 -> us.length <= n -> Qd H2) :
  ∃ W : Nat -> Nat -> Hp -> Prop, (∃ m, W 0 m (upd H D (SetSO P w' D []))) /\ ∀ i m Hi, W i m Hi ->
   (J.stop i Hi /\ Qd Hi) \/ (J.go i Hi /\ ∃ Nx : Hp -> Prop, (∀ H', Nx H' -> ∃ m', m' < m /\ W (i + 1) m' H') /\ ∀ x H', J.yld i Hi x H' -> g x (wipe σ vs) H' fun σ2 H2 => wipe σ2 vs = wipe σ vs /\ tt σ2 H2 fun b H3 =>
    if b = true then te σ2 H3 fun y H4 => ∃ (z : Str) (l : List Str), y = .str z /\ H4 D = some (SetSO P w' D l) /\ l.length + 1 < scanBound /\ Nx (upd H4 D (SetSO P w' D (insS z l))) else Nx H3) := by
 refine lcG (body := fun Nx x H' => g x (wipe σ vs) H' fun σ2 H2 => wipe σ2 vs = wipe σ vs /\ tt σ2 H2 fun b H3 =>
    if b = true then te σ2 H3 fun y H4 => ∃ (z : Str) (l : List Str), y = .str z /\ H4 D = some (SetSO P w' D l) /\ l.length + 1 < scanBound /\ Nx (upd H4 D (SetSO P w' D (insS z l))) else Nx H3) w (fun i H2 => SB [D] H H2 /\ ∃ us, H2 D = some (SetSO P w' D us) /\ R i us H2 /\ us.length <= i) ⟨SB.new hD _, [], upd_same, st _ _ _ _ (SB.new hD _) h0, Nat.le_refl _⟩ (fun i H2 _ h => hG H2 (h.1.drop hD)) (fun i x H2 H' hi h y => ?_) (fun H2 h => ?_)
 ·obtain ⟨s2, us, hD2, hR, hl⟩ := h
  refine turn _ i x H2 H' us hi (s2.drop hD) y hR hl (fun z H5 s5 r5 => ?_) (fun H4 s4 r4 => ⟨s2.trans s4.nil, us, s4.keep _ _ hD2 nmn, r4, by omega⟩)
  have hD5 := s5.keep _ _ hD2 nmn
  have t6 : SB [D] H5 (upd H5 D (SetSO P w' D (insS z us))) := SB.setG hD5 (by simp) SetSO.noTup.1 SetSO.noTup.2 _
  refine ⟨z, us, rfl, hD5, by omega, (s2.trans s5.nil).trans t6, _, upd_same, st _ _ _ _ t6 r5, ?_⟩
  have := insS_len z us
  omega
 ·obtain ⟨s2, us, hD2, hR, hl⟩ := h
  exact done us H2 (s2.drop hD) hD2 hR hl
end
def spRulesN (K : PySem.W.Frag) (C N : Addr) : Sp := fun vs H Q E => ∃ (v : V) (b : Bk) (n : Str), vs = [v, .str n] /\ BkA K C H v b /\ b.length <= 1000 /\ (∀ k ∈ b, k.rs.length <= 1000) /\
 kindOr N b n H E fun k => ∀ (l : Addr) (us : List V) (H' : Hp), SB [] H H' -> H l = none -> H' l = some (.lst us) -> Bears K H' Ru.enc us ((.nil, .nil) :: k.rs) -> Q (.ref l) H'
section
variable {M : Model} {A : Around} {E : Value -> Shared -> Prop} {s : Shared} {env : Env}
theorem CallK_ {func : Expr} {args : List Expr} {kws : List Keyword} {pos : Pos} {Q : Value -> Shared -> Prop}
  (h : wpAny M A (eval func env) (fun f s₁ => wpAny M A (callWith pos f [] (backTo pos (starEach args env)) (backToKw pos (keywordEach kws env))) Q E s₁) E s)
  (he : eval (.Call func args kws pos) env = (do callWith pos (<- eval func env) [] (backTo pos (starEach args env)) (backToKw pos (keywordEach kws env))) := by rfl) :
  wpAny M A (eval (.Call func args kws pos) env) Q E s := by
 rw [he]; exact wpAny_bind h
theorem callWith_typeK {pos : Pos} {T : String} {e : Expr} {rest : List Expr} {kws : List Keyword} {Q : Value -> Shared -> Prop}
  (h : wpAny M A (spliced (backTo pos (starEach (e :: rest) env))) (fun vs s₁ => wpAny M A (evalAll ((backToKw pos (keywordEach kws env)).map (·.2)))
   (fun kvs s₂ => wpAny M A (call (.type T) vs (((backToKw pos (keywordEach kws env)).filterMap (·.1)).zip kvs)) Q E s₂) E s₁) E s)
  (he : starEach (e :: rest) env = (false, eval e env) :: starEach rest env)
  (hplain : (backTo pos (starEach rest env)).any (·.1) = false)
  (hall : (backToKw pos (keywordEach kws env)).all (·.1.isSome) = true)
  (hkw : (backToKw pos (keywordEach kws env)).any (·.1.isNone) = false) :
  wpAny M A (callWith pos (.type T) [] (backTo pos (starEach (e :: rest) env)) (backToKw pos (keywordEach kws env))) Q E s := by
 rw [he] at h ⊢
 have h2 : (backTo pos ((false, eval e env) :: starEach rest env)).any (·.1) = false := by
  show (false || (backTo pos (starEach rest env)).any (·.1)) = false
  rw [hplain]; rfl
 have h3 : backTo pos ((false, eval e env) :: starEach rest env) = (false, eval e env) :: backTo pos (starEach rest env) := rfl
 rw [h3] at h h2 ⊢
 unfold callWith
 refine wpAny_bind (wpAny_holding (wpAny_mono (evalArgs_kwB (Q := fun a s₁ => wpAny M A (call (.type T) ([] ++ a.pos) a.kw) Q E s₁) hall h) (fun a s₁ h₁ => wpAny_bind (wpAny_standAt ?_)) fun _ _ x => x))
 simp only [h2, hkw, Bool.or_false]
 refine wpAny_bind (wpAny_pure ?_)
 exact wpAny_bind (wpAny_mono h₁ (fun r s₂ hr => wpAny_bind (wpAny_holding (wpAny_point (wpAny_pure hr)))) fun _ _ x => x)
end
def IteS (K : PySem.W.Frag) (a : Addr) : It :=
 ⟨fun i H => ∃ (xs : List V) (x : V), SqL K H a xs /\ xs[i]? = some x,
  fun i H v H2 => ∃ T x, v = .ref T /\ H T = none /\ H2 = upd H T (.tup [.int ((i + 1 : Nat) : Int), x]) /\ ∀ xs, SqL K H a xs -> xs[i]? = some x,
  fun i H => ∃ xs : List V, SqL K H a xs /\ xs.length = i⟩
theorem turn_enumS {P : Program} {w : World} {K : PySem.W.Frag} {elts : List Expr} {kk : Nat} {tpos : Pos} (a e it : Addr) (hei : e ≠ it) (hai : a ≠ it) (hea : e ≠ a) :
  Turn P w K (.Tuple elts kk tpos) (IteS K a) [e, it] e (fun i h => (∃ old, IsEnum h e it ((i + 1 : Nat) : Int) old) /\ h.IsListIter it a i) where
 mem := by simp
 obj := fun i h st b hb => by
  obtain ⟨⟨old, he⟩, o, ho, hc, hd⟩ := st
  rcases (show b = e \/ b = it by simpa using hb) with z | z
  ·rw [z]; exact ⟨_, he, fun v q => nomatch q⟩
  ·rw [z]; exact ⟨o, ho, fun v q => by rw [hd] at q; cases q⟩
 keep := fun i h h2 st k => let ⟨⟨old, he⟩, hi⟩ := st; ⟨⟨old, k e (by simp) _ he⟩, hi.at fun o q => k it (by simp) o q⟩
 item := by
  intro X hP hw hK hc i pins s σ H E I hf st hg
  subst hP hw hK
  obtain ⟨⟨old, he⟩, hit⟩ := st
  obtain ⟨xs, x, hq, hx⟩ := hg
  obtain ⟨its, rv, p, hz⟩ := I.list hq
  obtain ⟨u, hu, ru⟩ := rv.get hx
  have hel : e < s.heap.objs.size := Heap.lt_size he
  have hil : it < s.heap.objs.size := by obtain ⟨_, z, _⟩ := hit; exact Heap.lt_size z
  have Dr := Draws.list (prog := X.prog) (w := X.w) (A := X.A.in1) (I.ok.hd hc) it a hai its.toArray
  have hlt : i < its.toArray.size := by
   have := (List.getElem?_eq_some_iff.mp hu).1
   simpa using this
  refine wpAny_pyNext_enum_itemC Dr he ⟨hit, p.isList⟩ hlt hei (by simp [hei, hea]) fun y h2 tk hy ho hst hT hsz hk => ?_
  have hyu : y = u := by
   have h3 : its[i]? = some y := by simpa using hy
   rw [hu] at h3; exact (Option.some.inj h3).symm
  subst hyu
  refine ⟨_, rfl, wpAny_letOwnedTupleGo_enum (s := { s with heap := h2, toks := tk + 1 }) ho fun h3 he3 sb => ?_⟩
  have hT2 : h3.get? s.heap.objs.size = some { cls := .type "tuple", data := .seq #[.int ((i + 1 : Nat) : Int) tk, y] } := (sb.2 _ (Nat.ne_of_gt hel)).trans hT
  have nw : ObjOk X.prog X.w (upd H s.heap.objs.size (.tup [.int ((i + 1 : Nat) : Int), x])) h3 s.heap.objs.size (.tup [.int ((i + 1 : Nat) : Int), x]) := ⟨by show 2 <= sizeLine; decide, [.int ((i + 1 : Nat) : Int) tk, y], .cons ⟨_, rfl⟩ (.cons ru .nil), ⟨_, hT2, rfl, _, rfl⟩⟩
  have I1 : Inv X pins σ (upd H s.heap.objs.size (.tup [.int ((i + 1 : Nat) : Int), x])) { s with heap := h3, toks := tk + 1 } := I.turnedNew (ch := [e, it]) (fun b ob hb z => (sb.2 b (fun y => hb (by simp [y]))).trans (hk b ob (fun y => hb (by simp [y])) (fun y => hb (by simp [y])) z)) hf (Nat.le_refl _) nw
  refine ⟨.ref s.heap.objs.size, _, I1, rfl, ⟨_, x, rfl, I.hok.fresh (Nat.le_refl _), rfl, fun ys hy => by rw [I.list_inj hy hq]; exact hx⟩, ⟨⟨y, ?_⟩, hst.1.at fun o q => (sb.2 it (Ne.symm hei)).trans q⟩, fun b hb => ?_⟩
  ·rw [show ((i + 1 + 1 : Nat) : Int) = ((i + 1 : Nat) : Int) + 1 by omega]; exact he3
  ·have hb2 : b < s.heap.objs.size := by
    rcases (show b = e \/ b = it by simpa using hb) with z | z
    ·rw [z]; exact hel
    ·rw [z]; exact hil
   rw [upd_ne (Nat.ne_of_lt hb2)]; exact (hf b hb).1
 done := by
  intro X hP hw hK hc i pins s σ H E I hf st hg
  subst hP hw hK
  obtain ⟨⟨old, he⟩, hit⟩ := st
  obtain ⟨xs, hq, hx⟩ := hg
  obtain ⟨its, rv, p, hz⟩ := I.list hq
  obtain ⟨f0, f1, f2, f3, f4, f5⟩ := hf it (by simp)
  have hl := rv.length
  have Dr := Draws.list (prog := X.prog) (w := X.w) (A := X.A.in1) (I.ok.hd hc) it a hai its.toArray
  have hn : its.toArray.size = i := by simp; omega
  refine wpAny_pyNext_enum_endD Dr he ⟨by rw [hn]; exact hit, p.isList⟩ fun h2 eb => ⟨rfl, I.turned (t' := s.toks) (fun b o hb z => eb b o hb z) f0 f1 f3 f4 f5⟩
 self := fun A i s Q E st h => let ⟨⟨_, he⟩, _⟩ := st; wpAny_pyIter_enum he h
def iEnumS (K : PySem.W.Frag) (te : TE) : TI := fun σ H R => te σ H fun v H1 => ∃ a xs, v = .ref a /\ SqL K H1 a xs /\ R (IteS K a) H1
theorem pi_enumS {X : Cx} {ex : Expr} {te : TE} {p pos tpos kp cp : Pos} {elts : List Expr} {kk ck : Nat} (hg : Gl X "enumerate") (hm : X.mg "enumerate" = none) (he : PE X ex te) (hs : starEach [ex] X.env = (false, eval ex X.env) :: starEach [] X.env := by rfl) :
  PI X (.Tuple elts kk tpos) (.Call (.Name "enumerate" p) [ex] [⟨some "start", .Constant (.int 1) ck cp, kp⟩] pos) (iEnumS X.K te) := by
 refine ⟨fun pins s σ H R I h => ?_⟩
 refine CallK_ (ld_blt I hg hm boot_enumerate (callWith_typeK (args_cons (thn (he.run pins s σ H _ I h) fun u s1 ⟨v, H1, I1, r1, q1⟩ => args_nil ?_) hs) hs rfl rfl rfl))
 obtain ⟨a, xs, ev, hq, q⟩ := q1
 subst ev
 cases r1
 refine kws_cons (thn ((pe_int (X := X) (i := 1) (j := ck) (pos := cp)).run pins s1 σ H1 (fun v H2 => v = .int 1 /\ H2 = H1) I1 ⟨rfl, rfl⟩) fun u s2 ⟨v, H2, I2, r2, q2⟩ => kws_nil ?_)
 obtain ⟨rfl, rfl⟩ := q2
 obtain ⟨t, rfl⟩ : ∃ t, u = .int 1 t := r2
 obtain ⟨its, rv, pt, hz⟩ := I2.list hq
 have ht : s2.heap.IsList a its.toArray := pt.isList
 have hal : a < s2.heap.objs.size := by obtain ⟨_, z, _⟩ := ht; exact Heap.lt_size z
 show wpAny _ _ (call (.type "enumerate") [.ref a] [(Str.ofString "start", .int 1 t)]) _ _ _
 refine enum_begins_start (begins_list a its.toArray) ht (by decide) (by decide) fun h2 he2 hit hsz hk => wpAny_pyIter_enum he2 ?_
 have I3 : Inv X pins σ H2 { s2 with heap := h2 } := I2.kept (t' := s2.toks) hk
 refine ⟨s2.heap.objs.size + 1, [s2.heap.objs.size + 1, s2.heap.objs.size], _, _, H2, rfl, I3, turn_enumS a (s2.heap.objs.size + 1) s2.heap.objs.size (Nat.succ_ne_self _) (Nat.ne_of_lt hal) (Nat.ne_of_gt (Nat.lt_succ_of_lt hal)), ⟨⟨.none, he2⟩, ⟨_, hit, rfl, rfl⟩⟩, fun b hb => ?_, q⟩
 have hle : s2.heap.objs.size <= b := by
  rcases (show b = s2.heap.objs.size + 1 \/ b = s2.heap.objs.size by simpa using hb) with z | z
  ·rw [z]; exact Nat.le_add_right _ _
  ·rw [z]; exact Nat.le_refl _
 exact I2.fpOk hle (I2.hok.fresh hle)
theorem walk_enumS {K : PySem.W.Frag} {a : Addr} {xs : List V} : Walk (IteS K a) xs.length (fun H => SqL K H a xs) (YPair (fun i => some (.int ((i + 1 : Nat) : Int))) (fun i => xs[i]?)) := by
 refine ⟨fun i _ hi q => ⟨xs, xs[i], q, by simp [hi]⟩, fun _ q => ⟨xs, q, rfl⟩, fun i H v H2 _ q y => ?_⟩
 obtain ⟨T, x, h1, h2, h3, h4⟩ := y
 exact ⟨T, .int ((i + 1 : Nat) : Int), x, h1, h2, h3, rfl, h4 xs q⟩
namespace Gr
def ak : Gr -> Nat -> List (Pl × Str)
 | .nil, _ => []
 | .cons k g _ r, i => (([i], k) :: (g.ak 0).map fun x => (i :: x.1, x.2)) ++ r.ak (i + 1)
def akP (p : Tr × Int) (i : Nat) : List (Pl × Str) := ([i], p.1.1) :: (p.1.2.ak 0).map fun x => (i :: x.1, x.2)
def aks : List (Tr × Int) -> Nat -> List (Pl × Str)
 | [], _ => []
 | p :: r, i => akP p i ++ aks r (i + 1)
theorem ak_ps : ∀ (g : Gr) (i : Nat), g.ak i = aks g.ps i
 | .nil, _ => rfl
 | .cons k g m r, i => by show _ ++ r.ak (i + 1) = _ ++ aks r.ps (i + 1); rw [ak_ps r]; rfl
theorem aks_append : ∀ (as bs : List (Tr × Int)) (i : Nat), aks (as ++ bs) i = aks as i ++ aks bs (i + as.length)
 | [], bs, i => by simp [aks]
 | p :: r, bs, i => by
  show akP p i ++ aks (r ++ bs) (i + 1) = _
  rw [aks_append r bs (i + 1)]
  show _ = (akP p i ++ aks r (i + 1)) ++ aks bs (i + (r.length + 1))
  rw [List.append_assoc, show i + 1 + r.length = i + (r.length + 1) by omega]
theorem aks_take {bs : List (Tr × Int)} {i : Nat} {p : Tr × Int} (h : bs[i]? = some p) : aks (bs.take (i + 1)) 0 = aks (bs.take i) 0 ++ akP p i := by
 have hl : i < bs.length := (List.getElem?_eq_some_iff.mp h).1
 rw [List.take_add_one, h, aks_append, List.length_take, Nat.min_eq_left (by omega), Nat.zero_add]
 show _ ++ (akP p i ++ []) = _
 rw [List.append_nil]
theorem ak_kinds : ∀ (g : Gr) (i : Nat), (g.ak i).map (·.2) = g.within.map (·.1.1)
 | .nil, _ => rfl
 | .cons k g m r, i => by
  have h1 := ak_kinds g 0
  have h2 := ak_kinds r (i + 1)
  show ((([i], k) :: (g.ak 0).map fun x => (i :: x.1, x.2)) ++ r.ak (i + 1)).map (·.2) = (((k, g), m) :: (g.within ++ r.within)).map (·.1.1)
  rw [List.map_append, List.map_cons, List.map_map, h2, List.map_cons, List.map_append, <- h1]
  rfl
theorem ak_len (g : Gr) (i : Nat) : (g.ak i).length = g.parts := by
 have := congrArg List.length (ak_kinds g i)
 rw [List.length_map, List.length_map, within_length] at this
 exact this
theorem ak_long : ∀ (g : Gr) (i : Nat), ∀ x ∈ g.ak i, x.1.length <= g.deep
 | .nil, _, x, h => by cases h
 | .cons k g m r, i, x, h => by
  have h1 := ak_long g 0
  have h2 := ak_long r (i + 1)
  show x.1.length <= max (1 + g.deep) r.deep
  rcases List.mem_append.mp h with h | h
  ·rcases List.mem_cons.mp h with h | h
   ·rw [h]; show 1 <= _; omega
   ·obtain ⟨q, hq, rfl⟩ := List.mem_map.mp h
    have := h1 q hq
    show q.1.length + 1 <= _; omega
  ·have := h2 x h; omega
theorem lk_root {a b : Str} {g : Gr} {os : List (Option Int)} (h : os ≠ []) : lk (a, g) os = lk (b, g) os := by
 cases os with
 | nil => exact absurd rfl h
 | cons o r => rfl
theorem ak_at {G : Gr} : ∀ (g : Gr) (i : Nat), G.ps.drop i = g.ps -> ∀ x ∈ g.ak i, plO x.1 ≠ [] /\ ∃ t : Tr, lk ("", G) (plO x.1) = some t /\ t.1 = x.2
 | .nil, _, _, x, h => by cases h
 | .cons k g m r, i, hd, x, h => by
  have hd' : G.ps.drop i = ((k, g), m) :: r.ps := hd
  have hi : G.ps[i]? = some ((k, g), m) := by
   have := congrArg (·[0]?) hd'
   simpa using this
  have hs : stp G (some ((i : Nat) : Int)) = some (k, g) := by
   show (if (0 : Int) <= ((i : Nat) : Int) then (G.ps[((i : Nat) : Int).toNat]?).map (·.1) else none) = _
   rw [if_pos (by omega), Int.toNat_natCast, hi]; rfl
  rcases List.mem_append.mp h with h | h
  ·rcases List.mem_cons.mp h with h | h
   ·rw [h]
    refine ⟨by simp [plO], (k, g), ?_, rfl⟩
    show (stp G (some ((i : Nat) : Int))).bind _ = _
    rw [hs]; rfl
   ·obtain ⟨q, hq, rfl⟩ := List.mem_map.mp h
    obtain ⟨n1, t, e1, e2⟩ := ak_at (G := g) g 0 rfl q hq
    refine ⟨by simp [plO], t, ?_, e2⟩
    show (stp G (some ((i : Nat) : Int))).bind (fun u => lk u (plO q.1)) = _
    rw [hs]
    show lk (k, g) (plO q.1) = some t
    rw [lk_root (b := "") n1, e1]
  ·refine ak_at r (i + 1) ?_ x h
   rw [<- List.drop_drop, hd']; rfl
theorem ak_place (g : Gr) : ∀ x ∈ g.ak 0, plO x.1 ≠ [] /\ ∃ t : Tr, lk ("", g) (plO x.1) = some t /\ t.1 = x.2 := ak_at g 0 rfl
theorem deep_parts : ∀ g : Gr, g.deep <= g.parts
 | .nil => Nat.le_refl _
 | .cons k g m r => by
  have h1 := deep_parts g
  have h2 := deep_parts r
  show max (1 + g.deep) r.deep <= 1 + g.parts + r.parts
  omega
end Gr
def spAllP (K : PySem.W.Frag) (n : Nat) : Sp := fun vs H Q _ => ∃ (v : V) (g : Gr), vs = [v] /\ GA K H v g /\ g.deep < n /\ g.deep <= 100 /\ g.parts <= 1000 /\ ∀ (D : Addr) (us : List V) (H' : Hp), SB [] H H' -> H D = none -> H' D = some (.lst us) -> Bears K H' plEnc us ((g.ak 0).map (·.1)) -> Q (.ref D) H'
structure Sx where
 n : Str
 i : Nat
 wd : Str
 p : Pl
 k : Str
def Sx.st (s : Sx) : PyData := .tuple [.str s.n, .int (s.i : Int), .str s.wd, plEnc s.p]
def Sx.enc (s : Sx) : PyData := .tuple [s.st, .str s.k]
theorem Sx.noList_st (s : Sx) : noList s.st = true := by simp [Sx.st, noList, noLists, pl_noList]
theorem Sx.noList_enc (s : Sx) : noList s.enc = true := by simp [Sx.enc, noList, noLists, Sx.noList_st]
def stG (n : Str) (i : Nat) (wd : Str) (g : Gr) : List Sx := (g.ak 0).map fun x => ⟨n, i, wd, x.1, x.2⟩
def stR (n : Str) (x : Ru × Nat) : List Sx := stG n x.2 "once" x.1.1 ++ stG n x.2 "each" x.1.2
def Kd.steps (k : Kd) : List Sx := (k.rs.zipIdx 1).flatMap (stR k.n)
def ledR (rs : List Ru) : List Str := rs.flatMap fun r => r.within.map (·.1.1)
theorem stG_kinds (n : Str) (i : Nat) (wd : Str) (g : Gr) : (stG n i wd g).map (·.k) = g.within.map (·.1.1) := by
 unfold stG
 rw [List.map_map, <- Gr.ak_kinds g 0]; rfl
theorem stG_len (n : Str) (i : Nat) (wd : Str) (g : Gr) : (stG n i wd g).length = g.parts := by
 unfold stG
 rw [List.length_map, Gr.ak_len]
theorem stR_kinds (n : Str) (x : Ru × Nat) : (stR n x).map (·.k) = x.1.within.map (·.1.1) := by
 unfold stR Ru.within
 rw [List.map_append, List.map_append, stG_kinds, stG_kinds]
theorem stR_len (n : Str) (x : Ru × Nat) : (stR n x).length = x.1.1.parts + x.1.2.parts := by
 unfold stR
 rw [List.length_append, stG_len, stG_len]
theorem steps_from (n : Str) : ∀ (rs : List Ru) (i : Nat), ((rs.zipIdx i).flatMap (stR n)).map (·.k) = ledR rs
 | [], _ => rfl
 | r :: rs, i => by
  rw [List.zipIdx_cons, List.flatMap_cons, List.map_append, steps_from n rs (i + 1), stR_kinds]
  rfl
theorem Kd.steps_kinds (k : Kd) : k.steps.map (·.k) = ledR k.rs := steps_from _ _ _
theorem stR_le (n : Str) : ∀ (xs : List (Ru × Nat)), (∀ x ∈ xs, x.1.1.parts + x.1.2.parts <= 4) -> (xs.flatMap (stR n)).length <= 4 * xs.length
 | [], _ => Nat.le_refl _
 | x :: xs, h => by
  have h1 := stR_le n xs fun y hy => h y (mcm _ hy)
  have h2 := h x mcs
  rw [List.flatMap_cons, List.length_append, stR_len, List.length_cons]
  omega
theorem Kd.steps_len {k : Kd} (h4 : k.rs.length <= 4) (h : ∀ r ∈ k.rs, RuOk r) : k.steps.length <= 16 := by
 have := stR_le k.n (k.rs.zipIdx 1) fun x hx => (h x.1 (by
  have := List.mem_zipIdx hx
  rw [this.2.2]; exact List.getElem_mem _)).2.2
 rw [List.length_zipIdx] at this
 show ((k.rs.zipIdx 1).flatMap (stR k.n)).length <= 16
 omega
def spStepsIn (K : PySem.W.Frag) : Sp := fun vs H Q _ => ∃ (n wd : Str) (i : Nat) (v : V) (g : Gr), vs = [.str n, .int (i : Int), .str wd, v] /\ GA K H v g /\ g.deep < 20 /\ g.parts <= 60 /\ ∀ (l : Addr) (us : List V) (H' : Hp), SB [] H H' -> H l = none -> H' l = some (.lst us) -> Bears K H' Sx.enc us (stG n i wd g) -> Q (.ref l) H'
def spStepsOf (K : PySem.W.Frag) (C N : Addr) : Sp := fun vs H Q E => ∃ (v : V) (b : Bk) (n : Str), vs = [v, .str n] /\ BkA K C H v b /\ b.Ok /\
 kindOr N b n H E fun k => ∀ (l : Addr) (us : List V) (H' : Hp), SB [] H H' -> H l = none -> H' l = some (.lst us) -> Bears K H' Sx.enc us k.steps -> Q (.ref l) H'
structure SrtOf (ss ks : List Str) : Prop where
 srt : sortedS ss = true
 nd : ss.Nodup
 mem : ∀ x, x ∈ ss ↔ x ∈ ks
theorem insS_nodup {x : Str} {l : List Str} (h : l.Nodup) : (insS x l).Nodup := by
 unfold insS
 split
 ·exact h
 ·rename_i hx
  exact List.nodup_cons.mpr ⟨hx, h⟩
theorem SrtOf.perm {ss l ks : List Str} (pm : ss.Perm l) (s : sortedS ss = true) (nd : l.Nodup) (h : ∀ x, x ∈ l ↔ x ∈ ks) : SrtOf ss ks :=
 ⟨s, pm.nodup_iff.mpr nd, fun x => pm.mem_iff.trans (h x)⟩
def spLeads (K : PySem.W.Frag) (C N : Addr) : Sp := fun vs H Q E => ∃ (v : V) (b : Bk) (n : Str), vs = [v, .str n] /\ BkA K C H v b /\ b.Ok /\
 kindOr N b n H E fun k => ∀ (l : Addr) (ss : List Str) (H' : Hp), SB [] H H' -> H l = none -> H' l = some (.lst (ss.map V.str)) -> SrtOf ss (ledR k.rs) -> Q (.ref l) H'
theorem ledR_len : ∀ (rs : List Ru), (∀ r ∈ rs, RuOk r) -> (ledR rs).length <= 4 * rs.length
 | [], _ => Nat.le_refl _
 | r :: rs, h => by
  have h1 := ledR_len rs fun y hy => h y (mcm _ hy)
  have h2 := (h r mcs).2.2
  show (r.within.map (·.1.1) ++ ledR rs).length <= 4 * (rs.length + 1)
  have h3 : r.within.length = r.1.parts + r.2.parts := by
   unfold Ru.within
   rw [List.length_append, Gr.within_length, Gr.within_length]
  rw [List.length_append, List.length_map]
  omega
theorem plain_shaped {ds : List PyData} (h : plSs ds = true) (hd : PyData.depthAll ds <= 60) : SeqAt.shaped (.list ds) = true := by
 unfold SeqAt.shaped
 rw [PyData.canLay0, plSs_lay _ h, Bool.true_and]
 have : (PyData.list ds).depth = PyData.depthAll ds + 1 := by simp [PyData.depth]
 exact decide_eq_true (by omega)
theorem strs_pl : ∀ {ss : List Str}, (∀ s ∈ ss, NameOk s) -> plSs (ss.map PyData.str) = true
 | [], _ => by simp [plSs]
 | s :: ss, h => by
  rw [List.map_cons, plSs, strs_pl fun x hx => h x (mcm _ hx), plS, Gr.strOk_name (h s mcs)]; rfl
theorem strs_depth (ss : List Str) : PyData.depthAll (ss.map PyData.str) = 0 := by
 induction ss with
 | nil => simp [PyData.depthAll]
 | cons s ss ih => rw [List.map_cons, PyData.depthAll, ih]; simp [PyData.depth]
theorem strs_shaped {ss : List Str} (h : ∀ s ∈ ss, NameOk s) : SeqAt.shaped (.list (ss.map PyData.str)) = true := plain_shaped (strs_pl h) (by rw [strs_depth]; omega)
theorem Bk.Ok.led {b : Bk} (ok : b.Ok) {k : Kd} (hk : k ∈ b) : ∀ x ∈ ledR k.rs, x ∈ b.names := fun x hx => by
 obtain ⟨r, hr, hx⟩ := List.mem_flatMap.mp hx
 obtain ⟨p, hp, rfl⟩ := List.mem_map.mp hx
 exact ((ok.kd k hk).2.2 r hr).2 p hp
def emptyB (K : PySem.W.Frag) (x : Addr) : Bool := match K.lookup x with
 | some o => (match o.cls, o.data with
  | .type t, .seq its _ => decide (t = "tuple") && decide (its.toList.length = 0)
  | _, _ => false)
 | none => false
def no2B (K : PySem.W.Frag) (a : Addr) : Bool := match K.lookup a with
 | some o => (match o.cls, o.data with
  | .type t, .seq its _ => decide (t = "tuple") && (match its.toList with
   | [.ref x, .ref y] => emptyB K x && emptyB K y
   | _ => false)
  | _, _ => false)
 | none => false
theorem emptyB_ok {K : PySem.W.Frag} {x : Addr} (h : emptyB K x = true) (H : Hp) : SqT K H x [] := by
 unfold emptyB at h
 split at h
 ·rename_i o ho
  split at h
  ·rename_i t its n hc hd
   rw [Bool.and_eq_true, decide_eq_true_eq, decide_eq_true_eq] at h
   have hz : its.size = 0 := by simpa using h.2
   have he : its.toList = [] := List.length_eq_zero_iff.mp h.2
   refine .inr ⟨o, its, n, ho, by rw [hc, h.1], hd, by rw [hz]; exact Nat.zero_le _, by rw [he]; exact .nil⟩
  ·cases h
 ·cases h
theorem no2B_ok {K : PySem.W.Frag} {a : Addr} (h : no2B K a = true) (H : Hp) : Dp K H (.ref a) (Ru.enc (.nil, .nil)) := by
 unfold no2B at h
 split at h
 ·rename_i o ho
  split at h
  ·rename_i t its n hc hd
   rw [Bool.and_eq_true, decide_eq_true_eq] at h
   obtain ⟨h1, h2⟩ := h
   split at h2
   ·rename_i x y he
    rw [Bool.and_eq_true] at h2
    have hz : its.size = 2 := by have := congrArg List.length he; simpa using this
    have hs : SqT K H a [.ref x, .ref y] := .inr ⟨o, its, n, ho, by rw [hc, h1], hd, by rw [hz]; decide, by rw [he]; exact .cons rfl (.cons rfl .nil)⟩
    exact .tup hs (.cons (.tup (emptyB_ok h2.1 H) .nil) (.cons (.tup (emptyB_ok h2.2 H) .nil) .nil))
   ·cases h2
  ·cases h
 ·cases h
theorem copy_lc {K : PySem.W.Frag} {σ : L2.St} {H : Hp} {kh : Addr} {xs : List V} {b : Bk} {Q : VK} {i a1 a2 a3 : Nat} {vs : List Nat} (hσ : σ[i]? = some (some (.ref kh)))
  (w0 : ∀ x y z : V, wipe ((((wipe σ vs).set a1 (some x)).set a2 (some y)).set a3 (some z)) vs = wipe σ vs)
  (w1 : ∀ x y z : V, ((((wipe σ vs).set a1 (some x)).set a2 (some y)).set a3 (some z))[a1]? = some (some x)) (w2 : ∀ x y z : V, ((((wipe σ vs).set a1 (some x)).set a2 (some y)).set a3 (some z))[a2]? = some (some y)) (w3 : ∀ x y z : V, ((((wipe σ vs).set a1 (some x)).set a2 (some y)).set a3 (some z))[a3]? = some (some z))
  (hkh : H kh = some (.lst xs)) (hb : KdAll K H [] xs b) (b8 : b.length <= 8)
  (k : ∀ (D : Addr) (us : List V) (ls : List Addr) (H' : Hp), SB [] H H' -> H D = none -> H' D = some (.lst us) -> KdAll K H' [D] us b -> D ∉ ls -> (∀ p ∈ ls, H p = none /\ ∃ zs, H' p = some (.lst zs)) -> (∀ u ∈ us, ∃ t x y l, u = .ref t /\ SqT K H' t [x, y, .ref l] /\ l ∈ ls) -> Q (.ref D) H') :
  tLc (iList K (tVar i)) (gTup K 3 (gCons (gName a1) (gCons (gName a2) (gCons (gName a3) gNil)))) tYes (tTup (tCons (tVar a1) (tCons (tVar a2) (tCons (tCB (rListOf K) (tCons (tVar a3) tNil)) tNil)))) vs σ H Q := by
 have szl := sizeLine_eq
 have xl := hb.length
 refine ⟨_, hσ, kh, rfl, ⟨_, SqL.of hkh⟩, fun D hD => ?_⟩
 refine lc_seqQ (walk_list (xs := xs)) [] hD (by simp) (by omega) (fun i us H2 => ∃ ls : List Addr, KdAll K H2 [D] us (b.take i) /\ D ∉ ls /\ (∀ p ∈ ls, H p = none /\ ∃ zs, H2 p = some (.lst zs)) /\ ∀ u ∈ us, ∃ t x y l, u = .ref t /\ SqT K H2 t [x, y, .ref l] /\ l ∈ ls)
  ⟨[], .nil, by simp, by simp, by simp⟩ (fun H3 s3 => s3.sqL nmn (SqL.of hkh)) (fun i us H2 H3 s3 ⟨ls, h1, h2, h3, h4⟩ => ⟨ls, h1.sb s3 NoLst.self, h2, fun p hp => ⟨(h3 p hp).1, (h3 p hp).2.imp fun zs hz => s3.keep _ _ hz fun z => h2 (by rw [<- List.mem_singleton.mp z]; exact hp)⟩, fun u hu => by
   obtain ⟨t, x, y, l, e, h5, h6⟩ := h4 u hu
   exact ⟨t, x, y, l, e, s3.sqT h5, h6⟩⟩) (fun Pv i x Hq H2 us hi s2 y hR hu hD2 fin _ => ?_) (fun us H2 s2 hD2 hR hul => ?_)
 ·obtain ⟨rfl, ey⟩ := y
  obtain ⟨ls, g1, g2, g3, g4⟩ := hR
  obtain ⟨k, ek, t, r, zs, rfl, h1, h2, h3, _⟩ := hb.get ey
  refine ⟨t, _, rfl, s2.sqT h1, rfl, _, _, rfl, _, _, rfl, _, _, rfl, rfl, w0 _ _ _, ?_⟩
  refine ⟨_, w1 _ _ _, _, w2 _ _ _, _, w3 _ _ _, r, zs, rfl, .inl (SqL.of (s2.keep _ _ h2 nmn)), fun l' hl' => ⟨by show 3 <= sizeLine; decide, fun T hT => ?_⟩⟩
  have t3 := SB.new (ps := []) hl' (.lst zs)
  have hl3 : upd H2 l' (.lst zs) l' = some (.lst zs) := upd_same
  generalize upd H2 l' (.lst zs) = H3 at t3 hl3 hT
  have t4 := SB.new (ps := []) hT (.tup [.str k.n, .bl k.w, .ref l'])
  have t24 := t3.trans t4
  have hl4 := t4.keep _ _ hl3 nmn
  have lD : l' ≠ D := fun z => by rw [z, hD2] at hl'; cases hl'
  refine fin _ _ t24 ⟨ls ++ [l'], ?_, ?_, ?_, ?_⟩
  ·rw [List.take_add_one, ek]
   exact (g1.sb t24 NoLst.nil).append (.cons ⟨T, l', zs, rfl, SqT.of upd_same, hl4, h3.sb (s2.trans t24) Ru.noList_enc, by simpa using lD⟩ .nil)
  ·intro z
   rcases List.mem_append.mp z with z | z
   ·exact g2 z
   ·exact lD (List.mem_singleton.mp z).symm
  ·intro p hp
   rcases List.mem_append.mp hp with hp | hp
   ·exact ⟨(g3 p hp).1, (g3 p hp).2.imp fun zs hz => t24.keep _ _ hz nmn⟩
   ·rw [List.mem_singleton.mp hp]
    exact ⟨s2.dom _ hl', zs, hl4⟩
  ·intro u hu
   rcases List.mem_append.mp hu with hu | hu
   ·obtain ⟨t, x, y, l, e, h5, h6⟩ := g4 u hu
    exact ⟨t, x, y, l, e, t24.sqT h5, mal _ h6⟩
   ·rw [List.mem_singleton.mp hu]
    exact ⟨T, _, _, l', rfl, SqT.of upd_same, by simp⟩
 obtain ⟨ls, g1, g2, g3, g4⟩ := hR
 rw [xl, List.take_length] at g1
 exact k D us ls H2 s2 hD hD2 g1 g2 g3 g4
section
variable {σ : L2.St} {H : Hp} {t : TE} {ta tb : TE} {as : TA}
theorem consI {Q : List V -> Hp -> Prop} (h : t σ H fun x H1 => as σ H1 fun xs H2 => Q (x :: xs) H2) : tCons t as σ H Q := h
theorem makeI {C : Addr} {sp : Sp} {E : L2.St -> XK} {Q : VK} (h : as σ H fun vs H1 => ∀ y dx, H1 y = none -> H1 dx = none -> dx ≠ y -> sp (.ref y :: vs) (upd (upd H1 dx (.own y)) y (.ins C dx [])) (fun v H2 => v = .non /\ Q (.ref y) H2) (E σ)) : tMakeZ C sp E as σ H Q := h
end
theorem copy_make {K : PySem.W.Frag} {C B : Addr} {E : L2.St -> XK} {σ : L2.St} {H : Hp} {kh : Addr} {xs : List V} {b : Bk} {Q : VK} {i a1 a2 a3 : Nat} {vs : List Nat} (hσ : σ[i]? = some (some (.ref kh)))
  (w0 : ∀ x y z : V, wipe ((((wipe σ vs).set a1 (some x)).set a2 (some y)).set a3 (some z)) vs = wipe σ vs)
  (w1 : ∀ x y z : V, ((((wipe σ vs).set a1 (some x)).set a2 (some y)).set a3 (some z))[a1]? = some (some x)) (w2 : ∀ x y z : V, ((((wipe σ vs).set a1 (some x)).set a2 (some y)).set a3 (some z))[a2]? = some (some y)) (w3 : ∀ x y z : V, ((((wipe σ vs).set a1 (some x)).set a2 (some y)).set a3 (some z))[a3]? = some (some z))
  (hkh : H kh = some (.lst xs)) (hb : KdAll K H [] xs b) (ok : b.Ok) (k : ∀ y H', SB [] H H' -> H y = none -> BkA K C H' (.ref y) b -> Q (.ref y) H') :
  tMakeZ C (spBInit K C B) E (tCons (tLc (iList K (tVar i)) (gTup K 3 (gCons (gName a1) (gCons (gName a2) (gCons (gName a3) gNil)))) tYes (tTup (tCons (tVar a1) (tCons (tVar a2) (tCons (tCB (rListOf K) (tCons (tVar a3) tNil)) tNil)))) vs) tNil) σ H Q := by
 refine makeI (consI (copy_lc hσ w0 w1 w2 w3 hkh hb ok.len fun D us ls H' s nD hD hK _ _ _ => ?_))
 exact make_core hD hK ok fun y H2 s2 ny hbk => k y H2 (s.trans s2) (s.dom _ ny) hbk
section
variable {X : Cx}
theorem ps_setDc {i : Nat} {y : PySem.Str} {py : Pos} {kx vx tg iter : Expr} {ifs : List Expr} {scope : Scope} {own : List (PySem.Str × Nat)} {pos spos : Pos} {wi : TI} {g : TG} {tt : TT} {tk tv : TE} (hc : X.calm = true) (hN : X.N.Nodup) (hy : X.N[i]? = some y) (hyl : X.env.scope.names.lookup y = some .local)
  (hsw : swapsWith (.DictComp kx vx [⟨tg, iter, ifs, 0⟩] scope pos) (some (.Name y py)) spos.line X.env = pure true) (hi : PI X tg iter wi) (ok : BlkOk X.N X.env.scope scope own)
  (hg : ∀ (s : Shared) (H : Hp) (C : Addr) (cl : List (PySem.Str × Addr)) (fp : List Addr), L2.PG (X.blk s H scope (compEnvC scope cl C X.env) fp) tg g) (ht : ∀ (s : Shared) (H : Hp) (C : Addr) (cl : List (PySem.Str × Addr)) (fp : List Addr), L2.PTs (X.blk s H scope (compEnvC scope cl C X.env) fp) ifs tt)
  (hk : ∀ (s : Shared) (H : Hp) (C : Addr) (cl : List (PySem.Str × Addr)) (fp : List Addr), L2.PE (X.blk s H scope (compEnvC scope cl C X.env) fp) kx tk)
  (he : ∀ (s : Shared) (H : Hp) (C : Addr) (cl : List (PySem.Str × Addr)) (fp : List Addr), L2.PE (X.blk s H scope (compEnvC scope cl C X.env) fp) vx tv) (hs : ∀ x, foldedSetIterable iter X.env x = pure x := by intro _; rfl) :
  PS X (.Assign [.Name y py] (.DictComp kx vx [⟨tg, iter, ifs, 0⟩] scope pos) spos) (tAsg (tDc wi g tt tk tv (own.map (·.2))) (gName i)) := by
 refine ⟨fun pins s σ H D I h => ?_⟩
 rw [exec_Assign_Name_used _ _ _ _ hsw]
 refine wpAny_bind (wpAny_standAt (wpAny_bind ?_))
 show wpAny _ X.A (do let _ <- comprehension (.DictComp kx vx [⟨tg, iter, ifs, 0⟩] scope pos) scope X.env (firstIterPos [⟨tg, iter, ifs, 0⟩] pos) newDict false (eval iter X.env) (some (assign (.Name y py) X.env))) _ _ s
 have h : tDc wi g tt tk tv (own.map (·.2)) σ H (fun x H1 => gName i x σ H1 D.nx) := h
 refine wpAny_bind (thn (dc_core (Qf := fun _ s' => SP X pins D .next s') hc hN I hi ok hg ht hk he hs h fun L C s' m H' I' q hn f => ?_) fun _ s' hq => wpAny_pure (wpAny_pure hq))
 show wpAny _ _ (assign (.Name y py) X.env (.ref L)) _ _ _
 refine wpAny_assign_Name (store_ok2 (v := V.ref L) I' hN hy (.inl hyl) rfl (fun s2 I2 ⟨a, sb, ha⟩ => ?_) (.inr hyl))
 obtain ⟨f0, f1, f2, f3, f4, f5⟩ := f
 have haC : C ≠ a := by
  rcases ha with z | z
  ·rw [z]; exact f1
  ·exact fun e => f4 y a z e.symm
 refine ⟨m, hn.sameBut sb haC, fun h3 sb3 => ?_⟩
 exact ⟨_, H', I2.turned (t' := s2.toks) (fun b o hb e => (sb3.2 b hb).trans e) f0 f1 f3 f4 f5, q⟩
theorem sw_trueD {kx vx : Expr} {gs : List Comprehension} {scope : Scope} {pos py : Pos} {y : PySem.Str} {l : Nat} {env : Env} (hk : env.scope.kind = .function) (hy : env.scope.names.lookup y = some .local) (hl : (py.line == pos.line) = true)
  (ha : (scope.names.any fun (n, k) => n == y && (k == .local || k == .cell)) = false) : swapsWith (.DictComp kx vx gs scope pos) (some (.Name y py)) l env = pure true := by
 have ky : env.kindOf y = some .local := hy
 have hb : env.blockKind = .function := by unfold Env.blockKind; rw [hk]; rfl
 unfold swapsWith
 simp only [hb, ky, ha, Expr.pos, hl]
 rfl
end
def adj (b : Bk) (n : Str) : List Str := match b.get n with
 | some k => ledR k.rs
 | none => []
inductive EndK (b : Bk) : Str -> Prop
 | mk {n : Str} : (∀ k, k ∈ adj b n -> EndK b k) -> EndK b n
inductive Rch (b : Bk) : Str -> Str -> Prop
 | one {n k : Str} : k ∈ adj b n -> Rch b n k
 | step {n m k : Str} : Rch b n m -> k ∈ adj b m -> Rch b n k
section
variable {b : Bk}
theorem adj_get {n : Str} {k : Kd} (h : b.get n = some k) : adj b n = ledR k.rs := by unfold adj; rw [h]
theorem adj_names (ok : b.Ok) {n k : Str} (h : k ∈ adj b n) : k ∈ b.names := by
 unfold adj at h
 split at h
 ·rename_i kd e
  exact ok.led (Bk.get_some e).1 k h
 ·cases h
theorem adj_self {k : Kd} (ok : b.Ok) (hk : k ∈ b) : adj b k.n = ledR k.rs := adj_get (Bk.get_self ok.nd hk)
theorem Rch.trans {n m k : Str} (h : Rch b n m) (g : Rch b m k) : Rch b n k := by
 induction g with
 | one e => exact .step h e
 | step _ e ih => exact .step ih e
theorem Rch.cons {n m k : Str} (h : m ∈ adj b n) (g : Rch b m k) : Rch b n k := (Rch.one h).trans g
theorem Rch.split {n k : Str} (h : Rch b n k) : ∃ m, m ∈ adj b n /\ (m = k \/ Rch b m k) := by
 induction h with
 | one e => exact ⟨_, e, .inl rfl⟩
 | step _ e ih =>
  obtain ⟨m, hm, h⟩ := ih
  refine ⟨m, hm, .inr ?_⟩
  rcases h with h | h
  ·rw [h]; exact .one e
  ·exact .step h e
theorem EndK.next {n k : Str} (h : EndK b n) (e : k ∈ adj b n) : EndK b k := by
 cases h with
 | mk h => exact h k e
theorem EndK.noring {n : Str} (h : EndK b n) : ¬ Rch b n n := by
 induction h with
 | mk h ih =>
  intro g
  obtain ⟨m, hm, e⟩ := g.split
  refine ih m hm ?_
  rcases e with e | e
  ·rw [e]; exact g
  ·exact .step e hm
theorem not_ends {n : Str} (h : ¬ EndK b n) : ∃ k, k ∈ adj b n /\ ¬ EndK b k := Classical.byContradiction fun g => h (.mk fun k hk => Classical.byContradiction fun z => g ⟨k, hk, z⟩)
end
inductive LedAll (K : PySem.W.Frag) (H : Hp) : List (Key × V) -> Bk -> Prop
 | nil : LedAll K H [] []
 | cons {l : Addr} {ss : List Str} {k : Kd} {kvs : List (Key × V)} {b : Bk} : H l = some (.lst (ss.map V.str)) -> SrtOf ss (ledR k.rs) -> LedAll K H kvs b -> LedAll K H ((Sum.inr k.n, .ref l) :: kvs) (k :: b)
section
variable {K : PySem.W.Frag} {H H' : Hp}
theorem LedAll.length : ∀ {kvs : List (Key × V)} {b : Bk}, LedAll K H kvs b -> kvs.length = b.length
 | _, _, .nil => rfl
 | _, _, .cons _ _ t => congrArg (· + 1) t.length
theorem LedAll.keep (h : ∀ l xs, H l = some (.lst xs) -> H' l = some (.lst xs)) : ∀ {kvs : List (Key × V)} {b : Bk}, LedAll K H kvs b -> LedAll K H' kvs b
 | _, _, .nil => .nil
 | _, _, .cons a s t => .cons (h _ _ a) s (LedAll.keep h t)
theorem LedAll.append : ∀ {kvs kws : List (Key × V)} {b c : Bk}, LedAll K H kvs b -> LedAll K H kws c -> LedAll K H (kvs ++ kws) (b ++ c)
 | _, _, _, _, .nil, h => h
 | _, _, _, _, .cons a s t, h => .cons a s (t.append h)
theorem LedAll.val {n : Str} {k : Kd} : ∀ {kvs : List (Key × V)} {b : Bk}, LedAll K H kvs b -> b.get n = some k -> ∃ l ss, valV kvs (Sum.inr n) = some (.ref l) /\ H l = some (.lst (ss.map V.str)) /\ SrtOf ss (ledR k.rs)
 | _, _, .nil, e => by simp [Bk.get] at e
 | _, _, .cons (l := l) (ss := ss) (k := kk) (b := bb) a s t, e => by
  by_cases h : kk.n = n
  ·have e' : kk = k := by
    have : Bk.get (kk :: bb) n = some kk := by simp [Bk.get, h]
    rw [this] at e; exact Option.some.inj e
   subst e'
   exact ⟨l, ss, valV_pos (by rw [h]), a, s⟩
  ·have e' : Bk.get bb n = some k := by
    unfold Bk.get at e
    rw [List.find?_cons_of_neg (by simpa using h)] at e
    exact e
   obtain ⟨l', ss', h1, h2, h3⟩ := t.val e'
   exact ⟨l', ss', by rw [valV_neg (fun z => h (Sum.inr.inj z))]; exact h1, h2, h3⟩
theorem LedAll.get : ∀ {kvs : List (Key × V)} {b : Bk} {i : Nat} {p : Key × V}, LedAll K H kvs b -> kvs[i]? = some p -> ∃ k, b[i]? = some k /\ p.1 = Sum.inr k.n
 | _, _, _, _, .nil, e => by simp at e
 | _, _, 0, _, .cons a s t, e => by
  obtain rfl := Option.some.inj e
  exact ⟨_, rfl, rfl⟩
 | _, _, i + 1, _, .cons a s t, e => t.get (i := i) e
end
def into (b : Bk) (es : List Str) (n : Str) : Bool := decide (n ∉ es) && (adj b n).all fun k => decide (k ∈ es)
def spLeadInto (K : PySem.W.Frag) : Sp := fun vs H Q _ => ∃ (d e : Addr) (b : Bk) (es : List Str) (kvs : List (Key × V)), vs = [.ref d, .ref e] /\ H d = some (.dK kvs) /\ LedAll K H kvs b /\ H e = some (.lst (es.map V.str)) /\ b.Ok /\ ∀ (l : Addr) (H' : Hp), SB [] H H' -> H l = none -> H' l = some (.lst ((b.names.filter (into b es)).map V.str)) -> Q (.ref l) H'
def spEndless (K : PySem.W.Frag) (C N : Addr) : Sp := fun vs H Q E => ∃ (v : V) (b : Bk), vs = [v] /\ BkA K C H v b /\ b.Ok /\ ∀ (l : Addr) (ss : List Str) (H' : Hp), SB [] H H' -> H l = none -> H' l = some (.lst (ss.map V.str)) -> sortedS ss = true -> ss.Nodup -> (∀ n, n ∈ ss ↔ n ∈ b.names /\ ¬ EndK b n) -> Q (.ref l) H'
theorem SB.unlock {H H' : Hp} {d : Addr} {od : Obj} {u : HO} (s : SB [] (upd H d (.frz od u)) H') (hd : H d = some u) (n1 : ∀ xs, u ≠ .tup xs) (n2 : ∀ o v, u ≠ .frz o v) : SB [] H (upd H' d u) := by
 refine ⟨fun b o e _ => ?_, fun b xs e => ?_, fun b o v e => ?_, fun b e => ?_⟩
 ·by_cases z : b = d
  ·rw [z, upd_same]; rw [z, hd] at e; exact e
  ·rw [upd_ne z]; exact s.keep b o (by rw [upd_ne z]; exact e) nmn
 ·have z : b ≠ d := fun z => by rw [z, hd] at e; exact n1 _ (Option.some.inj e)
  rw [upd_ne z]; exact s.tups b xs (by rw [upd_ne z]; exact e)
 ·have z : b ≠ d := fun z => by rw [z, hd] at e; exact n2 _ _ (Option.some.inj e)
  rw [upd_ne z]; exact s.frzs b o v (by rw [upd_ne z]; exact e)
 ·have z : b ≠ d := fun z => by rw [z, upd_same] at e; cases e
  rw [upd_ne z] at e
  have := s.dom b e
  rwa [upd_ne z] at this
theorem all_srt {ss ks : List Str} (so : SrtOf ss ks) (p : Str -> Bool) : ss.all p = ks.all p := by
 rw [Bool.eq_iff_iff, List.all_eq_true, List.all_eq_true]
 exact ⟨fun h x hx => h x ((so.mem x).mpr hx), fun h x hx => h x ((so.mem x).mp hx)⟩
theorem getKR {H : Hp} {d : Addr} {kvs : List (Key × V)} {n : Str} {v : V} (h : L2.Rd H d (.dK kvs)) (e : valV kvs (Sum.inr n) = some v) : DGet H d (.str n) (some v) := .inl ⟨kvs, Sum.inr n, h, rfl, e.symm⟩
theorem LedAll.sb {K : PySem.W.Frag} {H H' : Hp} {ps : List Addr} (e : SB ps H H') : ∀ {kvs : List (Key × V)} {b : Bk}, LedAll K H kvs b -> (∀ p ∈ kvs, ∀ q ∈ ps, p.2 ≠ .ref q) -> LedAll K H' kvs b
 | _, _, .nil, _ => .nil
 | _, _, .cons a s t, h => .cons (e.keep _ _ a fun z => h _ mcs _ z rfl) s (LedAll.sb e t fun p hp => h p (mcm _ hp))
theorem LedAll.ne {K : PySem.W.Frag} {H : Hp} {q : Addr} (hq : H q = none) : ∀ {kvs : List (Key × V)} {b : Bk}, LedAll K H kvs b -> ∀ p ∈ kvs, p.2 ≠ .ref q
 | _, _, .nil, p, hp => by cases hp
 | _, _, .cons a s t, p, hp => by
  rcases List.mem_cons.mp hp with e | e
  ·rw [e]
   intro z
   rw [V.ref.inj z] at a
   rw [a] at hq; cases hq
  ·exact LedAll.ne hq t p e
theorem LedAll.keys {K : PySem.W.Frag} {H : Hp} : ∀ {kvs : List (Key × V)} {b : Bk}, LedAll K H kvs b -> kvs.map (·.1) = b.names.map Sum.inr
 | _, _, .nil => rfl
 | _, _, .cons a s t => by rw [List.map_cons, LedAll.keys t]; rfl
theorem end_closed {b : Bk} (ok : b.Ok) {es : List Str} (h : b.names.filter (into b es) = []) {n : Str} (e : EndK b n) : n ∈ b.names -> n ∈ es := by
 induction e with
 | @mk n _ ih =>
  intro hn
  refine Classical.byContradiction fun z => ?_
  have : n ∈ b.names.filter (into b es) := List.mem_filter.mpr ⟨hn, by
   unfold into
   rw [Bool.and_eq_true, decide_eq_true_eq, List.all_eq_true]
   exact ⟨z, fun k hk => decide_eq_true (ih k hk (adj_names ok hk))⟩⟩
  rw [h] at this; cases this
section
variable {J : It} {n : Nat} {G : Hp -> Prop} {Y : Nat -> Hp -> V -> Hp -> Prop}
theorem dc_seqQ (w : Walk J n G Y) {g : TG} {tt : TT} {tk tv : TE} {vs : List Nat} {σ : L2.St} {H : Hp} {D : Addr} {Qd : Hp -> Prop} (hD : H D = none) (hn : n < sizeLine) (R : Nat -> List (Key × V) -> Hp -> Prop) (h0 : R 0 [] H) (hG : ∀ H2, SB [] H H2 -> G H2)
  (st : ∀ i us H2 H3, SB [D] H2 H3 -> R i us H2 -> R i us H3)
  (turn : ∀ (Pv : Hp -> Prop) i x H2 H' kvs, i < n -> SB [] H H2 -> Y i H2 x H' -> R i kvs H2 -> kvs.length <= i -> H2 D = some (.dK kvs) -> (∀ k z H5, SB [] H2 H5 -> R (i + 1) (putK kvs k z) H5 -> ∃ kvs k', kV k = kV k' /\ H5 D = some (.dK kvs) /\ kvs.length < sizeLine /\ Pv (upd H5 D (.dK (putK kvs k' z)))) ->
   (∀ H4, SB [] H2 H4 -> R (i + 1) kvs H4 -> Pv H4) -> g x (wipe σ vs) H' fun σ2 H3 => wipe σ2 vs = wipe σ vs /\ tt σ2 H3 fun b H4 =>
    if b = true then tk σ2 H4 fun y H5 => tv σ2 H5 fun z H6 => ∃ kvs k, y = kV k /\ H6 D = some (.dK kvs) /\ kvs.length < sizeLine /\ Pv (upd H6 D (.dK (putK kvs k z))) else Pv H4)
  (done : ∀ kvs H2, SB [] H H2 -> H2 D = some (.dK kvs) -> R n kvs H2 -> kvs.length <= n -> Qd H2) :
  ∃ W : Nat -> Nat -> Hp -> Prop, (∃ m, W 0 m (upd H D (.dK []))) /\ ∀ i m H, W i m H ->
   (J.stop i H /\ Qd H) \/ (J.go i H /\ ∃ Nx : Hp -> Prop, (∀ H', Nx H' -> ∃ m', m' < m /\ W (i + 1) m' H') /\ ∀ x H', J.yld i H x H' -> g x (wipe σ vs) H' fun σ2 H2 => wipe σ2 vs = wipe σ vs /\ tt σ2 H2 fun b H3 =>
    if b = true then tk σ2 H3 fun y H4 => tv σ2 H4 fun z H5 => ∃ kvs k, y = kV k /\ H5 D = some (.dK kvs) /\ kvs.length < sizeLine /\ Nx (upd H5 D (.dK (putK kvs k z))) else Nx H3) := by
 refine lcG (body := fun Nx x H' => g x (wipe σ vs) H' fun σ2 H2 => wipe σ2 vs = wipe σ vs /\ tt σ2 H2 fun b H3 =>
    if b = true then tk σ2 H3 fun y H4 => tv σ2 H4 fun z H5 => ∃ kvs k, y = kV k /\ H5 D = some (.dK kvs) /\ kvs.length < sizeLine /\ Nx (upd H5 D (.dK (putK kvs k z))) else Nx H3) w (fun i H2 => SB [D] H H2 /\ ∃ kvs, H2 D = some (.dK kvs) /\ R i kvs H2 /\ kvs.length <= i)
  ⟨SB.new hD _, [], upd_same, st _ _ _ _ (SB.new hD _) h0, Nat.le_refl _⟩ (fun i H2 _ h => hG H2 (h.1.drop hD)) (fun i x H2 H' hi h y => ?_) (fun H2 h => ?_)
 ·obtain ⟨s2, kvs, hD2, hR, hl⟩ := h
  refine turn _ i x H2 H' kvs hi (s2.drop hD) y hR hl hD2 (fun k z H5 s5 r5 => ?_) (fun H4 s4 r4 => ⟨s2.trans s4.nil, kvs, s4.keep _ _ hD2 nmn, r4, by omega⟩)
  have hD5 := s5.keep _ _ hD2 nmn
  refine ⟨kvs, k, rfl, hD5, by omega, (s2.trans s5.nil).trans (SB.setD hD5 (by simp) _), _, upd_same, st _ _ _ _ (SB.setD hD5 (by simp) _) r5, ?_⟩
  have := length_putK kvs k z
  omega
 ·obtain ⟨s2, kvs, hD2, hR, hl⟩ := h
  exact done kvs H2 (s2.drop hD) hD2 hR hl
end
theorem take_fresh {b : Bk} (nd : b.names.Nodup) {i : Nat} {k : Kd} (ek : b[i]? = some k) : k.n ∉ Bk.names (b.take i) := by
 have e : b = b.take i ++ k :: b.drop (i + 1) := by
  have hl : i < b.length := (List.getElem?_eq_some_iff.mp ek).1
  have := List.drop_eq_getElem_cons hl
  rw [(List.getElem?_eq_some_iff.mp ek).2] at this
  rw [<- this, List.take_append_drop]
 have h : b.names = Bk.names (b.take i) ++ k.n :: Bk.names (b.drop (i + 1)) := by
  conv => lhs; rw [e]
  rw [Bk.names, List.map_append]; rfl
 rw [h] at nd
 exact fun z => (List.nodup_append.mp nd).2.2 _ z _ mcs rfl
theorem filt_step (f : Str -> Bool) {ss : List Str} {j : Nat} {x : Str} (e : ss[j]? = some x) : ((ss.take (j + 1)).filter f).map V.str = ((ss.take j).filter f).map V.str ++ (if f x = true then [V.str x] else []) := by
 rw [List.take_add_one, e, List.filter_append, List.map_append]
 congr 1
 by_cases z : f x = true
 ·simp [z]
 ·simp [z]
theorem sumE_cons {γ : Type} [DecidableEq γ] (p : γ × Int) (r : List (γ × Int)) (x : γ) : sumE (p :: r) x = (if p.1 = x then p.2 else 0) + sumE r x := rfl
namespace Gr
variable {C D E : Int} {g k : Gr}
def Named (ns : List Str) (g : Gr) : Prop := ∀ x ∈ g.within, x.1.1 ∈ ns
theorem named_iff {ns : List Str} : Named ns g ↔ ∀ p ∈ g.ps, p.1.1 ∈ ns /\ Named ns p.1.2 := by
 unfold Named
 rw [within_ps]
 constructor
 ·intro h p hp
  exact ⟨h p (List.mem_flatMap.mpr ⟨p, hp, by simp⟩), fun x hx => h x (List.mem_flatMap.mpr ⟨p, hp, by simp [hx]⟩)⟩
 ·intro h x hx
  obtain ⟨p, hp, hx⟩ := List.mem_flatMap.mp hx
  rcases List.mem_cons.mp hx with e | hx
  ·rw [e]; exact (h p hp).1
  ·exact (h p hp).2 x hx
end Gr
section
variable {X : Cx}
def rSortedW (K : PySem.W.Frag) {β : Type} (enc : β -> PyData) (vs : List V) (H : Hp) (Q : VK) : Prop := ∃ (a : Addr) (xs : List V) (bs : List β), vs = [V.ref a] /\ (SqL K H a xs \/ SqT K H a xs) /\ Bears K H enc xs bs /\ AllAlike (bs.map enc) /\ Sortable (bs.map enc) /\ bs.length <= 10000000 /\ (∀ b ∈ bs, (enc b).depth <= 190) /\
 ∀ (p : Addr) (ys : List V), H p = none -> Bears K H enc ys (bs.mergeSort (dataLe false enc)) -> Q (.ref p) (upd H p (.lst ys))
theorem cr_sortedW {β : Type} (enc : β -> PyData) (hu : X.A.units + 195 < cLine) : CallR X (.builtin "sorted") (rSortedW X.K enc) := by
 intro pn s σ H vs us Q I r ⟨a, xs, bs, e, hs, hb, hal, hsr, hl, hd, q⟩
 subst e
 rw [Vals.ref1 r]
 rcases hs with hs | hs
 ·obtain ⟨its, rv, hli, _⟩ := I.list hs
  obtain ⟨e1, e2⟩ := each_of I hb rv
  refine sorted_lstK (kw := []) (vs := its) (bs := bs) (enc := enc) (b := false) (R := fun u b => ∃ v, RelV v u /\ Dp X.K H v (enc b)) plain_is_rev (args_sorted1 _) (fun _ => args_list_sort _) hli e1 e2 hal hsr (by rw [sizeLine_eq]; omega) (fun b m => by have := hd b m; omega) fun out h' h2 n k1 k2 hat ho h1 => ?_
  obtain ⟨ys, g2, g3⟩ := of_each h1
  have I' : Inv X pn σ H { s with heap := h' } := I.kept (t' := s.toks) k1
  have hlen : ys.length <= sizeLine := by rw [g2.length, ho, sizeLine_eq]; omega
  exact ⟨.ref _, upd H h'.objs.size (.lst ys), I'.laid (t' := s.toks) (fun b o e => k2 b o e) (Nat.le_refl _) ⟨hlen, out, n, g2, hat⟩, rfl, q _ ys (I'.hok.fresh (Nat.le_refl _)) g3⟩
 ·obtain ⟨its, rv, hli, _⟩ := I.tuple hs
  obtain ⟨e1, e2⟩ := each_of I hb rv
  refine sorted_tupK (kw := []) (vs := its) (bs := bs) (enc := enc) (b := false) (R := fun u b => ∃ v, RelV v u /\ Dp X.K H v (enc b)) plain_is_rev (args_sorted1 _) (fun _ => args_list_sort _) hli e1 e2 hal hsr (by rw [sizeLine_eq]; omega) (fun b m => by have := hd b m; omega) fun out h' h2 n k1 k2 hat ho h1 => ?_
  obtain ⟨ys, g2, g3⟩ := of_each h1
  have I' : Inv X pn σ H { s with heap := h' } := I.kept (t' := s.toks) k1
  have hlen : ys.length <= sizeLine := by rw [g2.length, ho, sizeLine_eq]; omega
  exact ⟨.ref _, upd H h'.objs.size (.lst ys), I'.laid (t' := s.toks) (fun b o e => k2 b o e) (Nat.le_refl _) ⟨hlen, out, n, g2, hat⟩, rfl, q _ ys (I'.hok.fresh (Nat.le_refl _)) g3⟩
end
abbrev noR : Ru := (.nil, .nil)
def spKindsF (K : PySem.W.Frag) : Sp := fun vs H Q _ => ∃ (v : V) (g : Gr) (ns : List Str), vs = [v] /\ GA K H v g /\ g.deep <= 68 /\ g.parts <= 3000 /\ Gr.Named ns g /\ ns.length <= 60 /\ ∀ (l : Addr) (ss : List Str) (H' : Hp), SB [] H H' -> H l = none -> H' l = some (.lst (ss.map V.str)) -> SrtOf ss (g.within.map (·.1.1)) -> ss.length <= 60 -> Q (.ref l) H'
def spMkBook (K : PySem.W.Frag) (C : Addr) : Sp := fun vs H Q _ => ∃ (l : Addr) (xs : List V) (b : Bk), vs = [.ref l] /\ H l = some (.lst xs) /\ KdAll K H [] xs b /\ b.Ok /\ ∀ (y : Addr) (H' : Hp), SB [] H H' -> H y = none -> BkA K C H' (.ref y) b -> Q (.ref y) H'
section
variable {prog : Program} {w : World} {A : Around} {E : Value -> Shared -> Prop} {st : Shared} {K : PySem.W.Frag} {e D : Addr} {oe : Obj} {dd : Option Obj}
theorem look_cls (C : ExcC K D) : PySem.W.findObj K D dd "__class__" = some (.bind (.builtin "getset_descriptor.__get__") (.builtin "object.__class__")) := by
 obtain ⟨cd, hcd, _⟩ := PySem.W.any_some C.hd
 simp only [PySem.W.findObj, hcd, C.ha, C.hn, C.ht, Option.bind_some]
theorem cls_exc {Q : Option Value -> Shared -> Prop} (C : ExcC K D) (X : K.In st.heap) (I : PySem.W.InstAt st.heap e oe D dd) (q : Q (some (.ref D)) { st with toks := st.toks + 1 }) : wpAny (model prog w) A (getAttr? (.ref e) "__class__") Q E st := by
 have kf := look_cls (dd := dd) C
 obtain ⟨hp, gn, dc, tk, ows⟩ := st
 have K0 := I.type (M := model prog w)
 have K1 := PySem.W.looks_findIn (M := model prog w) X C.hg
 have K2 := PySem.W.looks_findIn (M := model prog w) X C.hk
 have K3 := PySem.W.looks_find (M := model prog w) X I kf
 have kb : Looks (model prog w) hp (isInstance (.ref e) (.type "BaseException")) true := K0.andThen (PySem.W.looks_subIn X C.hs)
 have z2 : (Value.builtin "BaseException.__getattribute__" == Value.builtin "object.__getattribute__") = false := by decide +kernel
 have z1 : (onTheHeap (Value.ref D) && Value.builtin "BaseException.__getattribute__" == Value.builtin "object.__getattribute__") = false := by rw [z2, Bool.and_false]
 unfold getAttr? getAttrBy? getAttrBy
 refine wpAny_bind (wpAny_mkText (wpAny_bind (wpAny_attempt (wpAny_holding (wpAny_bind (K0.at (wpAny_bind (K1.at ?gb))))))))
 case gb =>
 show wpAny _ _ (if (onTheHeap (Value.ref D) && Value.builtin "BaseException.__getattribute__" == Value.builtin "object.__getattribute__") = true then _ else _) _ _ _
 rw [z1, if_neg Bool.false_ne_true]
 unfold getAttrByItsOwn hookBefore
 refine wpAny_bind ?gc
 case gc =>
 rw [if_pos (show onTheHeap (Value.ref D) = true from rfl)]
 refine K2.at (wpAny_bind (wpAny_attempt (wpAny_holding ?gd)))
 case gd =>
 unfold callGetattribute
 rw [show (false && onTheHeap (Value.builtin "BaseException.__getattribute__")) = false from rfl, if_neg Bool.false_ne_true]
 unfold boundAndCalled
 rw [PySem.F.excAttr_ValueError.ga.bind (.ref e)]
 refine wpAny_bind (wpAny_pure ?ge)
 case ge =>
 show wpAny _ _ (call (.builtin "BaseException.__getattribute__") [.ref e, .str "__class__" tk]) _ _ _
 refine wpAny_call (codeAny_call_builtin PySem.F.excAttr_ValueError.ga.plain PySem.F.entry_bexc_ga ?gf)
 case gf =>
 refine @check_slot (model prog w) _ _ ⟨hp, gn, dc, tk + 1, ows⟩ "BaseException.__getattribute__" "BaseException" "__getattribute__" (.ref e) [.str "__class__" tk] [] _ (by decide +kernel) (by decide +kernel) kb (PySem.F.args_bexc_ga (.ref e) (.str "__class__" tk)) ?gg
 case gg =>
 unfold Builtin.«object.__getattribute__»
 refine wpAny_bind (wpAny_of_eq (a := ((Value.ref e : Value), [Value.str "__class__" tk])) (by first | rfl | (simp only [slotArgs]; rfl)) ?gh)
 case gh =>
 refine wpAny_bind (wpAny_pure (wpAny_bind (K0.at (wpAny_bind (K3.at ?gi)))))
 case gi =>
 show wpAny _ _ (holding [Value.builtin "object.__class__"] (call (.builtin "getset_descriptor.__get__") [.builtin "object.__class__", .ref e, .ref D]) >>= ret) _ _ _
 refine wpAny_bind (wpAny_holding (wpAny_call (PySem.W.class_get (s := ⟨hp, gn, dc, tk + 1, ows⟩) (ox := oe) (od := dd) X I C.hm ?gj)))
 case gj =>
 refine wpAny_pure ?gk
 case gk =>
 show wpAny _ _ (handedOut (.ref D)) _ _ _
 rw [handedOut_of (v := .ref D) rfl]
 first
  | exact wpAny_pure (wpAny_pure q)
  | exact wpAny_pure q
  | exact wpAny_pure (wpAny_bind (wpAny_pure (wpAny_pure q)))
theorem kit_exc (C : ExcC K D) : PySem.W.KitX K (.ref e) (.ref D) (fun h => PySem.W.InstAt h e oe D dd) where
 ty := fun _ _ _ I => I.type
 it := fun M h X _ => by
  obtain ⟨cd, hcd, _⟩ := PySem.W.any_some C.hd
  unfold PySem.W.clsIn at hcd
  split at hcd
  ·next ho => exact fun A' Q' E' s' k q => by unfold isType loadHead; exact wpAny_bind (wpAny_loadPart (k _ _ (X _ _ ho)) (wpAny_pure q))
  ·cases hcd
 ne := fun h tp dd' its n sl X htp => Bool.eq_false_iff.mpr fun q => by
  obtain ⟨cd, hcd, _⟩ := PySem.W.any_some C.hd
  cases Value.ref.inj (beq_iff_eq.mp q)
  unfold PySem.W.clsIn at hcd
  split at hcd
  ·next ho => exact absurd ((X _ _ ho).symm.trans htp) (fun z => by cases z)
  ·cases hcd
 ca := fun X I k => cls_exc C X I k
end
def ExD (H : Hp) (d : Option Addr) : Prop := d = none \/ ∃ dd fs, d = some dd /\ H dd = some (.xd fs)
theorem ExD.sb {H H' : Hp} {d : Option Addr} (h : ExD H d) (s : SB [] H H') : ExD H' d := by
 rcases h with h | ⟨dd, fs, h, g⟩
 ·exact .inl h
 ·exact .inr ⟨dd, fs, h, s.keep _ _ g nmn⟩
def rIsEg (K : PySem.W.Frag) (a : Addr) (cls : Value) (d : Option Addr) : List V -> Hp -> VK -> Prop := fun xs H Q => ∃ (D : Addr) (c : V) (cv : Value) (b : Bool), cls = .ref D /\ ExcC K D /\ ExD H d /\ xs = [.ref a, c] /\ (∀ u, RelV c u -> u = cv) /\ PySem.W.kitOne K (.ref D) cv = some b /\ Q (.bl b) H
def rIsEgT (K : PySem.W.Frag) (a : Addr) (cls : Value) (d : Option Addr) : List V -> Hp -> VK -> Prop := fun xs H Q => ∃ (D tp : Addr) (cs : List V) (ws : List Value) (b : Bool), cls = .ref D /\ ExcC K D /\ ExD H d /\ xs = [.ref a, .ref tp] /\ H tp = some (.tup cs) /\ Paired ClsV cs ws /\ PySem.W.kitAny K (.ref D) ws = some b /\ Q (.bl b) H
def tXfg (K : PySem.W.Frag) (a : Addr) (cls : Value) (d : Option Addr) (f : Str) (te : TE) : TE := fun σ H Q => te σ H fun x H1 => ∃ (C dd : Addr) (fs : List (Str × V)) (v : V), x = .ref a /\ cls = .ref C /\ ExcC K C /\ PySem.W.findIn K (.ref C) f = some none /\ d = some dd /\ H1 dd = some (.xd fs) /\ fs.lookup f = some v /\ Q v H1
section
variable {X : Cx} {a : Addr} {oe : Obj} {cls : Value} {d : Option Addr}
theorem inst_e {D : Addr} {pins : List (Addr × Obj)} {σ : L2.St} {H : Hp} {s : Shared} (hm : (a, oe) ∈ X.pn) (hz : Zc (.ref D) d oe) (hf : ∃ vs, oe.data = .fields vs) (I : Inv X pins σ H s) (hd : ExD H d) : ∃ dd, PySem.W.InstAt s.heap a oe D dd := by
 obtain ⟨h, _⟩ := I.pin (a, oe) (List.mem_append.mpr (.inl hm))
 obtain ⟨vs, hv⟩ := hf
 obtain ⟨h1, h2⟩ := hz
 have nc : PySem.W.notCls oe = true := by unfold PySem.W.notCls; rw [hv]
 rcases hd with e | ⟨dd, fs, e, g⟩
 ·exact ⟨none, h, h1, nc, by rw [h2, e]; trivial⟩
 ·obtain ⟨mA, hns, _⟩ := (show ObjOk X.prog X.w H s.heap dd (.xd fs) from I.hok dd _ g)
  obtain ⟨od, ho, _⟩ := lookIn_ns hns
  exact ⟨some od, h, h1, nc, by rw [h2, e]; exact ho⟩
theorem call_isEg (hm : (a, oe) ∈ X.pn) (hz : Zc cls d oe) (hf : ∃ vs, oe.data = .fields vs) : CallR X (.builtin "isinstance") (rIsEg X.K a cls d) := by
 intro pins s σ H xs us Q I r h
 obtain ⟨D, c, cv, b, ec, C, hd, rfl, hcv, e, q⟩ := h
 subst ec
 obtain ⟨u1, u2, rfl, r1, r2⟩ := vals2 r
 cases (show u1 = Value.ref a from r1)
 cases hcv _ r2
 obtain ⟨dd, J⟩ := inst_e hm hz hf I hd
 exact PySem.W.kia_one (kit_exc C) I.kIn J e (fun z => nomatch z) fun tk => ⟨.bl b, H, I.kept (t' := tk) fun _ _ z => z, rfl, q⟩
theorem call_isEgT (hm : (a, oe) ∈ X.pn) (hz : Zc cls d oe) (hf : ∃ vs, oe.data = .fields vs) : CallR X (.builtin "isinstance") (rIsEgT X.K a cls d) := by
 intro pins s σ H xs us Q I r h
 obtain ⟨D, tp, cs, ws, b, ec, C, hd, rfl, hT, k, e, q⟩ := h
 subst ec
 obtain ⟨u1, u2, rfl, r1, r2⟩ := vals2 r
 cases (show u2 = Value.ref tp from r2)
 cases (show u1 = Value.ref a from r1)
 obtain ⟨_, its, rv, o, h1, h2, n, h3⟩ := (show ObjOk X.prog X.w H s.heap tp (.tup cs) from I.hok tp _ hT)
 have e3 := ClsV.all k rv
 subst e3
 obtain ⟨oc, od, dt, sl⟩ := o
 simp only at h2 h3
 subst h2 h3
 obtain ⟨dd, J⟩ := inst_e hm hz hf I hd
 exact PySem.W.kia_tup (kit_exc C) I.kIn J h1 e (fun z => nomatch z) fun tk => ⟨.bl b, H, I.kept (t' := tk) fun _ _ z => z, rfl, q⟩
theorem pe_xfg {e : Expr} {te : TE} {pos : Pos} {n : Str} (hm : (a, oe) ∈ X.pn) (hz : Zc cls d oe) (hf : ∃ vs, oe.data = .fields vs) (he : PE X e te) (hb : attributeBase e n X.env (eval e X.env) = eval e X.env := by rfl) : PE X (.Attribute e n pos) (tXfg X.K a cls d n te) := by
 refine ⟨fun pins st σ H Q I h => attr_of hb (thn (he.run pins st σ H _ I h) fun u s1 hh => ?_)⟩
 obtain ⟨x, H1, J1, rx, C, dd, fs, v, ex, ec, T, hno, ed, hx, l, q⟩ := hh
 subst ex ec ed
 cases (show u = Value.ref a from rx)
 obtain ⟨ga, _⟩ := J1.pin (a, oe) (List.mem_append.mpr (.inl hm))
 obtain ⟨mA, hns, hr⟩ := (show ObjOk X.prog X.w H1 s1.heap dd (.xd fs) from J1.hok dd _ hx)
 obtain ⟨od, ho, hl⟩ := lookIn_ns hns
 obtain ⟨w, hw, rw'⟩ := RelO.some_of (v := v) (o := mA n) (by rw [<- l]; exact hr n)
 obtain ⟨vs, hv⟩ := hf
 have nc : PySem.W.notCls oe = true := by unfold PySem.W.notCls; rw [hv]
 have ins : PySem.W.InstAt s1.heap a oe C (some od) := ⟨ga, hz.1, nc, by rw [hz.2]; exact ho⟩
 exact HandSPX.exc_get J1.kIn ins T.hg T.hk T.hs (PySem.W.findObj_own T.hd hno rfl (by rw [hl, hw])) (handed_of rw') ⟨v, H1, J1.tok _, rw', q⟩
end
structure ErrsM (K : PySem.W.Frag) (mg : Str -> Option Value) (c : Str -> Addr) (caught names kinds : List Str) : Prop where
 glo : ∀ n ∈ names, mg n = some (.ref (c n))
 FellError : mg "FellError" = some (.ref (c "FellError"))
 ve : mg "ValueError" = none
 exc : ∀ n ∈ caught, ExcC K (c n)
 exm : ∀ n ∈ caught, PySem.W.exmOne K (.ref (c n)) (.ref (c "FellError")) = some true
 kve : ∀ n ∈ caught, PySem.W.kitOne K (.ref (c n)) (.type "ValueError") = some true
 kit : ∀ n ∈ caught, ∀ m ∈ names, PySem.W.kitOne K (.ref (c n)) (.ref (c m)) = some (decide (n = m))
 nok : ∀ n ∈ kinds, PySem.W.findIn K (.ref (c n)) "kind" = some none
 exo : ∀ n ∈ caught, ∀ m ∈ names, PySem.W.exmOne K (.ref (c n)) (.ref (c m)) = some (decide (n = m))
theorem ErrsM.any {K : PySem.W.Frag} {mg : Str -> Option Value} {c : Str -> Addr} {caught names kinds : List Str} (T : ErrsM K mg c caught names kinds) {n : Str} (hn : n ∈ caught) : ∀ {ms : List Str}, (∀ m ∈ ms, m ∈ names) -> PySem.W.kitAny K (.ref (c n)) (ms.map fun m => .ref (c m)) = some (decide (n ∈ ms))
 | [], _ => by simp [PySem.W.kitAny]
 | m :: r, h => by
  have e := T.kit n hn m (h m mcs)
  have e2 := T.any hn (ms := r) fun x hx => h x (mcm _ hx)
  rw [List.map_cons, PySem.W.kitAny, e]
  by_cases z : n = m
  ·simp [z]
  ·simp [z, e2]
theorem ErrsM.no {K : PySem.W.Frag} {mg : Str -> Option Value} {c : Str -> Addr} {caught names kinds : List Str} (T : ErrsM K mg c caught names kinds) {n : Str} (hn : n ∈ caught) {ms : List Str} (h : ∀ m ∈ ms, m ∈ names) (k : n ∉ ms) : PySem.W.kitAny K (.ref (c n)) (ms.map fun m => .ref (c m)) = some false := (T.any hn h).trans (by rw [decide_eq_false k])
theorem ErrsM.is {K : PySem.W.Frag} {mg : Str -> Option Value} {c : Str -> Addr} {caught names kinds : List Str} (T : ErrsM K mg c caught names kinds) {n : Str} (hn : n ∈ caught) (h : n ∈ names) : PySem.W.kitOne K (.ref (c n)) (.ref (c n)) = some true := (T.kit n hn n h).trans (by rw [decide_eq_true rfl])
theorem ErrsM.isno {K : PySem.W.Frag} {mg : Str -> Option Value} {c : Str -> Addr} {caught names kinds : List Str} (T : ErrsM K mg c caught names kinds) {n m : Str} (hn : n ∈ caught) (h : m ∈ names) (k : n ≠ m) : PySem.W.kitOne K (.ref (c n)) (.ref (c m)) = some false := (T.kit n hn m h).trans (by rw [decide_eq_false k])
def ermB (K : PySem.W.Frag) (c : Str -> Addr) (caught names : List Str) : Bool := caught.all fun n => excCB K (c n) && (decide (PySem.W.exmOne K (.ref (c n)) (.ref (c "FellError")) = some true) && (decide (PySem.W.kitOne K (.ref (c n)) (.type "ValueError") = some true) && names.all fun m => decide (PySem.W.kitOne K (.ref (c n)) (.ref (c m)) = some (decide (n = m))) && decide (PySem.W.exmOne K (.ref (c n)) (.ref (c m)) = some (decide (n = m)))))
theorem ermB_ok {K : PySem.W.Frag} {mg : Str -> Option Value} {c : Str -> Addr} {caught names kinds : List Str} (h : ermB K c caught names = true) (g : ∀ n ∈ names, mg n = some (.ref (c n))) (f : mg "FellError" = some (.ref (c "FellError"))) (v : mg "ValueError" = none) (k : ∀ n ∈ kinds, PySem.W.findIn K (.ref (c n)) "kind" = some none) : ErrsM K mg c caught names kinds := by
 have hh : ∀ n ∈ caught, excCB K (c n) = true /\ PySem.W.exmOne K (.ref (c n)) (.ref (c "FellError")) = some true /\ PySem.W.kitOne K (.ref (c n)) (.type "ValueError") = some true /\ ∀ m ∈ names, PySem.W.kitOne K (.ref (c n)) (.ref (c m)) = some (decide (n = m)) /\ PySem.W.exmOne K (.ref (c n)) (.ref (c m)) = some (decide (n = m)) := fun n hn => by
  have := List.all_eq_true.mp h n hn
  simp only [Bool.and_eq_true, decide_eq_true_eq, List.all_eq_true] at this
  exact this
 exact ⟨g, f, v, fun n hn => excCB_ok (hh n hn).1, fun n hn => (hh n hn).2.1, fun n hn => (hh n hn).2.2.1, fun n hn m hm => ((hh n hn).2.2.2 m hm).1, k, fun n hn m hm => ((hh n hn).2.2.2 m hm).2⟩
theorem paired_refs {c : Str -> Addr} : ∀ ms : List Str, Paired ClsV (ms.map fun m => V.ref (c m)) (ms.map fun m => Value.ref (c m))
 | [] => .nil
 | _ :: r => .cons (.own _) (paired_refs r)
theorem _root_.L2.Room.sui {j k : Nat} {A : Around} {v : Option Value} (r : Room k A) (h : j <= k) : L2H.RoomH j (A.mark v) := by
 have q := r.mono h
 exact ⟨q.dp, q.un⟩
structure FnP (P : Program) (w : World) (K : PySem.W.Frag) (mg : Str -> Option Value) (base : Heap) (k : Nat) (f : Addr) (fd : FuncData) (ps : List Str) (sp : Addr -> Obj -> Sp) : Prop where
 len : ∀ a oe vs H Q E, sp a oe vs H Q E -> vs.length = ps.length
 run : ∀ (A : Around) (outer : List Env) (s : Shared) (H : Hp) (args : Args) (us : List Value) (vs : List V) (Q : VK) (E : XK) (a : Addr) (oe : Obj), L2H.RoomH k A -> L2H.PinOk outer H s (a, oe) -> Env0 P w K mg base A outer s H -> BindsTo s fd args (ps.zip us) -> Vals vs us -> sp a oe vs H Q E -> codeAny (model P w) A (.call (.ref f) args) (CR CX0 outer P w H s Q E) s
abbrev cxE (P : Program) (w : World) (K : PySem.W.Frag) (mg : Str -> Option Value) (base : Heap) (N : List Str) (qual : Str) (st : Stmt) (f : Addr) (cdv : Value) (A : Around) (outer : List Env) (s : Shared) (H : Hp) (E : XK) (a : Addr) (oe : Obj) : Cx := (L2H.cxH CX0 P w K mg base N qual (defScope st) f cdv A outer s H E (a, oe)).nox
theorem okP {P : Program} {w : World} {K : PySem.W.Frag} {mg : Str -> Option Value} {base : Heap} {x qual : Str} {st : Stmt} {f : Addr} {fd : FuncData} {N ps : List Str} {k : Nat} {sp : Addr -> Obj -> Sp} (F : Fun K x qual st f fd) (S : FnScope N ps (defScope st)) (len : ∀ a oe vs H Q E, sp a oe vs H Q E -> vs.length = ps.length)
  (body : ∀ (cdv : Value) (A : Around) (outer : List Env) (s : Shared) (H : Hp) (vs : List V) (Q : VK) (E : XK) (a : Addr) (oe : Obj), L2H.RoomH k (A.deeper (envOfC qual (defScope st) s.heap.objs.size f cdv)) -> sp a oe vs H Q E -> ∃ t, PSs (cxE P w K mg base N qual st f cdv A outer s H E a oe) (defBody st) t /\ t { nx := fun _ H' => Q .non H', rt := Q } (start N vs) H) : FnP P w K mg base (k + 1) f fd ps sp := by
 obtain ⟨oc, od, kV, doc, pm, an, cdv, ct, osl, rfl, lk, hcd⟩ := F.ex
 refine ⟨len, fun A outer s H args us vs Q E a oe room pin e0 bd rel hsp => ?_⟩
 have inK : K.In s.heap := e0.mod.kin.keeps fun b o e => (e0.bs b o e).1
 have noL : s.heap.NoLimit := e0.mod.nolimit.keeps fun b o e => (e0.bs b o e).1
 have kinds : ∀ y ∈ ps.zip us, (defScope st).names.lookup y.1 = some .local \/ ((defScope st).names.lookup y.1 = some .cell /\ ((cellsFrom (s.heap.objs.size + 1) (defScope st).names []).lookup y.1).isSome = true) := by
  rintro ⟨n, v⟩ hy
  exact (S.par n (List.of_mem_zip hy).1).imp id fun q => ⟨q, PySem.W.cellsFrom_some _ _ _ (.inl q)⟩
 refine codeAny_call_function room.depth (inK _ _ lk) rfl S.co S.gen rfl (PySem.W.codeRec_of inK hcd) (bd _ _ _ _ (wpAny_newFunctionEnv_cells S.kind kinds ?_))
 rintro env rfl s1 ic
 obtain ⟨t, ht, ht2⟩ := body cdv A outer s H vs Q E a oe (room.deeper _) hsp
 refine ⟨noL.keeps ic.toInCall.keep, codeAny_func (wpAny_mono (ht.nox.run [] s1 (start N vs) H _ (L2H.inv_startH (CX := CX0) (E := E) S pin e0 (len _ _ _ _ _ _ hsp) rel ic) ht2) ?_ fun e s' z => z)⟩
 intro fl s' hs
 match fl, hs with
 | .ret u, ⟨v, σ', H', J, rv, q⟩ => exact ⟨v, H', J.os, J.bare, J.base, J.hok, rv, q⟩
 | .next, ⟨σ', H', J, q⟩ => exact ⟨.non, H', J.os, J.bare, J.base, J.hok, rfl, q⟩
 | .brk, ⟨_, _, _, q⟩ => exact q.elim
 | .cont, ⟨_, _, _, q⟩ => exact q.elim
structure GotP (P : Program) (w : World) (K : PySem.W.Frag) (mg : Str -> Option Value) (base : Heap) (x : Str) (ps : List Str) (k : Nat) (sp : Addr -> Obj -> Sp) : Prop where
 ex : ∃ (f : Addr) (fd : FuncData), FnP P w K mg base k f fd ps sp /\ PySem.W.keepIn K (.ref f) = true /\ Binds K fd ps [] /\ mg x = some (.ref f)
def tCallP (sp : Addr -> Obj -> Sp) (a : Addr) (cls : Value) (d : Option Addr) (t : TA) : TE := fun σ H Q => t σ H fun vs H1 => ∀ oe, Zc cls d oe -> (∃ fs, oe.data = .fields fs) -> sp a oe vs H1 Q E0
section
variable {X : Cx} {a : Addr} {oe : Obj} {cls : Value} {d : Option Addr} {x : Str} {ps : List Str} {k : Nat} {sp : Addr -> Obj -> Sp} {e : Expr} {es : List Expr} {t : TA} {p pos : Pos}
theorem pe_gotP (G : GotP X.prog X.w X.K X.mg X.base x ps k sp) (hr : L2H.RoomH k X.A) (hg : Gl X x) (hm : (a, oe) ∈ X.pn) (hz : Zc cls d oe) (hf : ∃ vs, oe.data = .fields vs) (ha : PA X (e :: es) t) (hdb : (x == ("__debug__" : Str)) = false := by decide) (he : starEach (e :: es) X.env = (false, eval e X.env) :: starEach es X.env := by rfl) (hpl : (backTo pos (starEach es X.env)).any (·.1) = false := by rfl) :
  PE X (.Call (.Name x p) (e :: es) [] pos) (tCallP sp a cls d t) := by
 obtain ⟨f, fd, F, h2, hb, h4⟩ := G.ex
 refine ⟨fun pins s σ H Q I h => wpAny_Call_Name_kw (ld_glob I hg h4 ?_ hdb)⟩
 refine PySem.W.callWith_K (h₀ := X.base) I.ok.mod.kin h2 (thn (ha.run pos pins s σ H _ I h) fun us s1 ⟨vs, H1, J, r, q⟩ => ⟨J.kIn, ?_⟩) he hpl
 have q1 := q oe hz hf
 have P1 := J.pin (a, oe) (List.mem_append.mpr (.inl hm))
 have hl : (us ++ []).length = ps.length := by rw [List.append_nil, <- r.length]; exact F.len _ _ _ _ _ _ q1
 have b := hb s1 us J.kIn hl
 rw [List.append_nil] at b
 refine wpAny_call (codeAny_mono (F.run X.A X.stack s1 H1 ⟨us, []⟩ us vs Q E0 a oe hr ⟨P1.1, P1.2.1, fun z => (List.mem_cons.mp (J.stkSub a z)).elim P1.2.2.1 P1.2.2.2.1, P1.2.2.2.2⟩ J.env0 b r q1) ?_)
 intro z s' hq
 match z, hq with
 | .error e, hq => exact (show False from hq).elim
 | .ok (.ret u), hq => exact J.after hq
 | .ok .next, hq => exact hq.elim
 | .ok .brk, hq => exact hq.elim
 | .ok .cont, hq => exact hq.elim
end
namespace Lad
theorem enc_inj {l k : Lad} (e : l.enc = k.enc) : l = k := by
 have h := eqv_enc l k
 rw [<- e, eqv_enc] at h
 by_cases z : l = k
 ·exact z
 ·rw [decide_eq_false z, decide_eq_true rfl] at h; cases h
def maxL (x : Lad) (xs : List Lad) : Lad := xs.foldl (fun a y => if a.lt y = true then y else a) x
theorem maxL_enc : ∀ (xs : List Lad) (x : Lad), maxD x.enc (xs.map enc) = (maxL x xs).enc
 | [], x => rfl
 | y :: r, x => by
  show maxD (if dataLt x.enc y.enc = true then y.enc else x.enc) (r.map enc) = (maxL (if x.lt y = true then y else x) r).enc
  by_cases h : x.lt y = true
  ·rw [if_pos h, if_pos (show dataLt x.enc y.enc = true from h)]; exact maxL_enc r y
  ·rw [if_neg h, if_neg (show ¬ dataLt x.enc y.enc = true from h)]; exact maxL_enc r x
theorem maxL_mem : ∀ (xs : List Lad) (x : Lad), maxL x xs ∈ x :: xs
 | [], x => mcs ..
 | y :: r, x => by
  show maxL (if x.lt y = true then y else x) r ∈ _
  by_cases h : x.lt y = true
  ·rw [if_pos h]; exact mcm _ (maxL_mem r y)
  ·rw [if_neg h]
   rcases List.mem_cons.mp (maxL_mem r x) with e | e
   ·rw [e]; exact mcs ..
   ·exact mcm _ (mcm _ e)
theorem maxL_ge : ∀ (xs : List Lad) (x : Lad), ∀ y ∈ x :: xs, (maxL x xs).lt y = false
 | [], x, y, hy => by rw [List.mem_singleton.mp hy]; exact lt_irrefl _
 | z :: r, x, y, hy => by
  show (maxL (if x.lt z = true then z else x) r).lt y = false
  by_cases h : x.lt z = true
  ·rw [if_pos h]
   have g := maxL_ge r z
   rcases List.mem_cons.mp hy with rfl | hy
   ·cases e : (maxL z r).lt y with
    | false => rfl
    | true =>
     have := lt_trans _ _ _ e h
     rw [g z (mcs ..)] at this; cases this
   ·exact g y hy
  ·rw [if_neg h]
   have g := maxL_ge r x
   rcases List.mem_cons.mp hy with rfl | hy
   ·exact g _ (mcs ..)
   rcases List.mem_cons.mp hy with rfl | hy
   ·cases e : (maxL x r).lt y with
    | false => rfl
    | true =>
     have h := eq_false_of_ne_true h
     have gx := g x (mcs ..)
     by_cases e1 : x = y
     ·subst e1; rw [gx] at e; cases e
     ·have := lt_trans _ _ _ e (lt_tri x y e1 h)
      rw [gx] at this; cases this
   ·exact g y (mcm _ hy)
end Lad
section
variable {prog : Program} {w : World} {A : Around} {E : Value -> Shared -> Prop} {s : Shared}
theorem max_at {l : Addr} {vs : Array Value} {x : PyData} {xs : List PyData} {as : List Addr} {Q : Value -> Shared -> Prop} (hh : A.handled = none) (hl : s.heap.IsList l vs) (hr : ReadsAll s.heap vs.toList (x :: xs) as) (ha : AlikeAll (x :: xs)) (hu : A.units + 1 + PyData.depthAll (x :: xs) < cLine)
  (h : ∀ (i : Nat) v h' tk, vs[i]? = some v -> (x :: xs).getD i .none = maxD x xs -> (∀ b o, s.heap.get? b = some o -> h'.get? b = some o) -> Q v { s with heap := h', toks := tk }) :
  wpAny (model prog w) A (call (.builtin "max") [.ref l]) Q E s := by
 have hn : vs.size = xs.length + 1 := readsAll_len hr
 refine call_max_walkH (iter_listW (A := A.in1) hh hl fun s2 e W st hfp hw hk => ?_)
 refine ⟨_, _, _, _, _, _, _, s.heap, _, rfl, W, st, hfp, by omega, hw, hk, cmpIn_gt (A := A.in1) hr ha (by show A.units + 1 + _ < _; exact hu), fun v s' hP m => ?_⟩
 obtain ⟨h', tk, rfl, hk'⟩ := moved_old e rfl m
 have e1 : vs.size - 1 = xs.length := by omega
 have e2 := (argBest_fold (fun a b => dataLt b a) PyData.none x xs xs.length (Nat.le_refl _)).2
 rw [List.take_length] at e2
 refine h _ v h' tk hP ?_ hk'
 rw [e1]
 unfold maxD
 exact e2
end
def rMaxL (K : PySem.W.Frag) : List V -> Hp -> VK -> Prop := fun vs H Q => ∃ (a : Addr) (xs : List V) (l : Lad) (ls : List Lad), vs = [V.ref a] /\ SqL K H a xs /\ Bears K H Lad.enc xs (l :: ls) /\ (∀ k ∈ l :: ls, k.deep <= 45) /\ ∀ x : V, LA K H x (Lad.maxL l ls) -> Q x H
theorem Vals.at' : ∀ {vs : List V} {us : List Value} {i : Nat} {u : Value}, Vals vs us -> us[i]? = some u -> ∃ v, vs[i]? = some v /\ RelV v u
 | _, _, 0, u, .cons r _, h => ⟨_, rfl, by have e := Option.some.inj (show some _ = some u from h); subst e; exact r⟩
 | _, _, i + 1, u, .cons _ t, h => Vals.at' (i := i) t (by simpa using h)
 | _, _, i, u, .nil, h => by simp at h
theorem cr_maxL {X : Cx} (hc : X.calm = true) (hu : X.A.units + 110 < cLine) : CallR X (.builtin "max") (rMaxL X.K) := by
 intro pins s σ H vs us Q I r h
 obtain ⟨a, xs, l, ls, rfl, hs, hb, hd, q⟩ := h
 obtain ⟨its, rv, hl, _⟩ := I.list hs
 rw [Vals.ref1 r]
 obtain ⟨_, e2⟩ := each_of I hb rv
 obtain ⟨as, ra⟩ := each_readsAll Lad.enc e2
 have al : AlikeAll ((l :: ls).map Lad.enc) := ⟨fun x hx y hy => by
  obtain ⟨p, _, rfl⟩ := List.mem_map.mp hx
  obtain ⟨p2, _, rfl⟩ := List.mem_map.mp hy
  exact Lad.alike_enc p p2, fun x hx => by
  obtain ⟨p, _, rfl⟩ := List.mem_map.mp hx
  exact Lad.enc_ne p⟩
 have hdep : PyData.depthAll ((l :: ls).map Lad.enc) <= 91 := depths_le fun d hd' => by
  obtain ⟨p, hp, rfl⟩ := List.mem_map.mp hd'
  have := hd p hp
  have := Lad.enc_depth p
  omega
 refine max_at (vs := its.toArray) (x := l.enc) (xs := ls.map Lad.enc) (as := as) (I.ok.hd hc) hl.isList (by simpa using ra) al (by show X.A.units + 1 + PyData.depthAll ((l :: ls).map Lad.enc) < cLine; omega) fun i u h' tk hi e hk => ?_
 obtain ⟨v, ev, rvu⟩ := Vals.at' (i := i) rv (by simpa using hi)
 obtain ⟨p, ep, hp⟩ := hb.get ev
 have e3 : p.enc = (Lad.maxL l ls).enc := by
  rw [<- Lad.maxL_enc, <- e, show (l.enc :: ls.map Lad.enc) = (l :: ls).map Lad.enc from rfl, List.getD_eq_getElem?_getD, List.getElem?_map, ep]
  rfl
 have e4 := Lad.enc_inj e3
 exact ⟨v, H, I.kept hk, rvu, q v (by rw [<- e4]; exact hp)⟩
def lad (w : Bool) (o l : Lad) : Lad := if w = true then Lad.spd o l else Lad.bhd o l
def Bk.wide (b : Bk) (n : Str) : Bool := match b.get n with
 | some k => k.w
 | none => false
theorem Bk.wide_get {b : Bk} {n : Str} {k : Kd} (h : b.get n = some k) : b.wide n = k.w := by unfold Bk.wide; rw [h]
namespace Gr
def rkT (b : Bk) (ρ : Str -> Lad) : Gr -> List Lad
 | .nil => []
 | .cons k g m r => Lad.tms (lad (b.wide k) (ρ k) (Lad.bths (rkT b ρ g))) m :: rkT b ρ r
def rk (b : Bk) (ρ : Str -> Lad) (g : Gr) : Lad := Lad.bths (rkT b ρ g)
def rkt (b : Bk) (ρ : Str -> Lad) (t : Tr) : Lad := lad (b.wide t.1) (ρ t.1) (rk b ρ t.2)
variable {b : Bk} {ρ : Str -> Lad} {C : Int}
theorem rkT_ps : ∀ g : Gr, rkT b ρ g = g.ps.map fun p => Lad.tms (rkt b ρ p.1) p.2
 | .nil => rfl
 | .cons k g m r => by
  show _ :: rkT b ρ r = _ :: r.ps.map _
  rw [rkT_ps r]; rfl
theorem S_bths (ls : List Lad) (x : Lad) : Lad.S (Lad.bths ls) x = (ls.map fun l => Lad.S l x).sum := by
 have e : Lad.S (Lad.bths ls) x = Lad.sumAt (ls.flatMap Lad.ps) x := by
  unfold Lad.bths Lad.S
  rw [Lad.ps_ofPs, Lad.sumAt_jn, Lad.sumAt_perm (Lad.dsc_perm _)]
 rw [e]
 clear e
 induction ls with
 | nil => rfl
 | cons l r ih => rw [List.flatMap_cons, Lad.sumAt_append, ih]; rfl
end Gr
structure LFit (l : Lad) : Prop where
 deep : l.deep <= 25
 parts : l.parts <= 900
 num : ∀ p ∈ l.ps, 0 <= p.2 /\ p.2 < 2 ^ 2000
def Gr.Fit (b : Bk) (ρ : Str -> Lad) (ns : List Str) : Gr -> Prop
 | .nil => True
 | .cons k g m r => (k ∈ ns /\ k ∈ b.names /\ ρ k ≠ .nil /\ LFit (ρ k) /\ LFit (Gr.rk b ρ g) /\ LFit (Gr.rkt b ρ (k, g)) /\ 0 <= m /\ m < 2 ^ 2000 /\ ((Gr.rkT b ρ (.cons k g m r)).flatMap Lad.ps).length <= 900) /\ Gr.Fit b ρ ns g /\ Gr.Fit b ρ ns r
def RkD (K : PySem.W.Frag) (H : Hp) (d : Addr) (ρ : Str -> Lad) (ns : List Str) : Prop := ∃ us : List V, H d = some (.dK (List.zipWith (fun (n : Str) (u : V) => ((Sum.inr n : Key), u)) ns us)) /\ Bears K H Lad.enc us (ns.map ρ)
theorem zip_val {K : PySem.W.Frag} {H : Hp} {ρ : Str -> Lad} {n : Str} : ∀ {ns : List Str} {us : List V}, Bears K H Lad.enc us (ns.map ρ) -> n ∈ ns -> ∃ u, valV (List.zipWith (fun (n : Str) (u : V) => ((Sum.inr n : Key), u)) ns us) (Sum.inr n) = some u /\ LA K H u (ρ n)
 | [], _, _, hn => nomatch hn
 | m :: r, us, h, hn => by
  cases h with
  | @cons u us' _ _ h1 h2 =>
  by_cases e : m = n
  ·subst e
   exact ⟨u, by simp [valV], h1⟩
  ·obtain ⟨v, h3, h4⟩ := zip_val h2 (by rcases List.mem_cons.mp hn with z | z; exact absurd z.symm e; exact z)
   refine ⟨v, ?_, h4⟩
   rw [List.zipWith_cons_cons]
   unfold valV
   rw [List.find?_cons_of_neg (by simp only [decide_eq_true_eq]; exact fun z => e (Sum.inr.inj z))]
   exact h3
theorem RkD.val {K : PySem.W.Frag} {H : Hp} {d : Addr} {ρ : Str -> Lad} {ns : List Str} {n : Str} (h : RkD K H d ρ ns) (hn : n ∈ ns) : ∃ u, DGet H d (.str n) (some u) /\ LA K H u (ρ n) := by
 obtain ⟨us, h1, h2⟩ := h
 obtain ⟨u, h3, h4⟩ := zip_val h2 hn
 exact ⟨u, getK h1 h3, h4⟩
theorem RkD.sb {K : PySem.W.Frag} {H H' : Hp} {d : Addr} {ρ : Str -> Lad} {ns : List Str} {ps : List Addr} (h : RkD K H d ρ ns) (s : SB ps H H') (hd : d ∉ ps) : RkD K H' d ρ ns := by
 obtain ⟨us, h1, h2⟩ := h
 exact ⟨us, s.keep _ _ h1 hd, h2.sb s Lad.noList_enc⟩
theorem RkD.sb0 {K : PySem.W.Frag} {H H' : Hp} {d : Addr} {ρ : Str -> Lad} {ns : List Str} (h : RkD K H d ρ ns) (s : SB [] H H') : RkD K H' d ρ ns := h.sb s nmn
def spLaden (K : PySem.W.Frag) (C : Addr) : Sp := fun vs H Q _ => ∃ (v u t : V) (b : Bk) (n : Str) (o l : Lad), vs = [v, .str n, u, t] /\ BkA K C H v b /\ b.length <= 1000 /\ n ∈ b.names /\ (LA K H u o /\ o ≠ .nil /\ LFit o) /\ (LA K H t l /\ LFit l) /\ ∀ (x : V) (H' : Hp), SB [] H H' -> LA K H' x (lad (b.wide n) o l) -> Q x H'
def spReckT (K : PySem.W.Frag) (C : Addr) (m : Nat) : Sp := fun vs H Q _ => ∃ (v t : V) (d : Addr) (b : Bk) (ρ : Str -> Lad) (ns : List Str) (k : Str) (g : Gr), vs = [v, .ref d, t] /\ BkA K C H v b /\ b.length <= 1000 /\ RkD K H d ρ ns /\ Dp K H t (Gr.tEnc (k, g)) /\ g.deep < m /\ (k ∈ ns /\ k ∈ b.names /\ ρ k ≠ .nil /\ LFit (ρ k) /\ LFit (Gr.rk b ρ g)) /\ Gr.Fit b ρ ns g /\ g.parts <= 900 /\ ∀ (x : V) (H' : Hp), SB [] H H' -> LA K H' x (Gr.rkt b ρ (k, g)) -> Q x H'
def spReck (K : PySem.W.Frag) (C : Addr) (m : Nat) : Sp := fun vs H Q _ => ∃ (v u : V) (d : Addr) (b : Bk) (ρ : Str -> Lad) (ns : List Str) (g : Gr), vs = [v, .ref d, u] /\ BkA K C H v b /\ b.length <= 1000 /\ RkD K H d ρ ns /\ GA K H u g /\ g.deep < m /\ Gr.Fit b ρ ns g /\ g.parts <= 900 /\ ∀ (x : V) (H' : Hp), SB [] H H' -> LA K H' x (Gr.rk b ρ g) -> Q x H'
theorem none_reck {P : Program} {w : World} {K : PySem.W.Frag} {mg : Str -> Option Value} {base : Heap} {f : Addr} {fd : FuncData} {C : Addr} {ps : List Str} {k : Nat} : FnOk P w K mg base CX0 k f fd ps (spReck K C 0) := none_sp fun vs H Q E ⟨_, _, _, _, _, _, _, _, _, _, _, _, h, _⟩ => by omega
def clm (b : Bk) (ρ : Str -> Lad) (r : Ru) : Lad := Lad.abv (Gr.rk b ρ r.1) (Gr.rk b ρ r.2)
def RFit (b : Bk) (ρ : Str -> Lad) (ns : List Str) (r : Ru) : Prop := Gr.Fit b ρ ns r.1 /\ Gr.Fit b ρ ns r.2 /\ (Gr.rk b ρ r.1).deep <= 24 /\ (Gr.rk b ρ r.2).deep <= 24 /\ (Gr.rk b ρ r.1).parts <= 390 /\ (Gr.rk b ρ r.2).parts <= 390
def spClimb (K : PySem.W.Frag) (C : Addr) : Sp := fun vs H Q _ => ∃ (v u : V) (d : Addr) (b : Bk) (ρ : Str -> Lad) (ns : List Str) (r : Ru), vs = [v, .ref d, u] /\ BkA K C H v b /\ b.length <= 1000 /\ RkD K H d ρ ns /\ Dp K H u (Ru.enc r) /\ r.1.deep < 20 /\ r.2.deep < 20 /\ r.1.parts <= 900 /\ r.2.parts <= 900 /\ RFit b ρ ns r /\ ∀ (x : V) (H' : Hp), SB [] H H' -> LA K H' x (clm b ρ r) -> Q x H'
theorem clm_no (b : Bk) (ρ : Str -> Lad) : clm b ρ (.nil, .nil) = Lad.uno := by
 show Lad.abv (Gr.rk b ρ .nil) (Gr.rk b ρ .nil) = Lad.uno
 have e : Gr.rk b ρ .nil = .nil := by
  show Lad.ofPs (jn (Lad.dsc [])) = .nil
  have : Lad.dsc [] = [] := List.Perm.eq_nil (Lad.dsc_perm [])
  rw [this]; rfl
 rw [e]
 show Lad.bth .nil Lad.uno = Lad.uno
 rw [Lad.bth_comm]
 exact Lad.bth_nil Lad.uno_ok
theorem RFit_no (b : Bk) (ρ : Str -> Lad) (ns : List Str) : RFit b ρ ns (.nil, .nil) := by
 have e : Gr.rk b ρ .nil = .nil := by
  show Lad.ofPs (jn (Lad.dsc [])) = .nil
  have : Lad.dsc [] = [] := List.Perm.eq_nil (Lad.dsc_perm [])
  rw [this]; rfl
 exact ⟨trivial, trivial, by show (Gr.rk b ρ .nil).deep <= 24; rw [e]; decide, by show (Gr.rk b ρ .nil).deep <= 24; rw [e]; decide, by show (Gr.rk b ρ .nil).parts <= 390; rw [e]; decide, by show (Gr.rk b ρ .nil).parts <= 390; rw [e]; decide⟩
structure OwnR (b : Bk) (ρ : Str -> Lad) : Prop where
 own : ∀ k ∈ b, EndK b k.n -> ρ k.n = Lad.maxL Lad.uno (k.rs.map (clm b ρ))
 fit : ∀ k ∈ b, EndK b k.n -> ∀ ns, (∀ n, n ∈ adj b k.n -> n ∈ ns) -> ∀ r ∈ k.rs, RFit b ρ ns r
 deep : ∀ k ∈ b, EndK b k.n -> ∀ r ∈ k.rs, (clm b ρ r).deep <= 45
structure EndO (b : Bk) (es : List Str) : Prop where
 nd : es.Nodup
 len : es.length <= 8
 mem : ∀ n, n ∈ es ↔ n ∈ b.names /\ EndK b n
 ord : ∀ (i : Nat) (n : Str), es[i]? = some n -> ∀ k ∈ adj b n, k ∈ es.take i
def spEndingO (K : PySem.W.Frag) (C N : Addr) : Sp := fun vs H Q E => ∃ (v : V) (b : Bk), vs = [v] /\ BkA K C H v b /\ b.Ok /\ ∀ (l : Addr) (es : List Str) (H' : Hp), SB [] H H' -> H l = none -> H' l = some (.lst (es.map V.str)) -> EndO b es -> Q (.ref l) H'
def spOwnRanks (K : PySem.W.Frag) (C N : Addr) : Sp := fun vs H Q _ => ∃ (v : V) (b : Bk) (ρ : Str -> Lad), vs = [v] /\ BkA K C H v b /\ b.Ok /\ OwnR b ρ /\ ∀ (d : Addr) (es : List Str) (H' : Hp), SB [] H H' -> H d = none -> RkD K H' d ρ es -> EndO b es -> Q (.ref d) H'
namespace Gr
variable {b : Bk} {ρ : Str -> Lad} {ns : List Str}
theorem Fit.at : ∀ {g : Gr}, Fit b ρ ns g -> ∀ p ∈ g.ps, (p.1.1 ∈ ns /\ p.1.1 ∈ b.names /\ ρ p.1.1 ≠ .nil /\ LFit (ρ p.1.1) /\ LFit (rk b ρ p.1.2) /\ LFit (rkt b ρ p.1) /\ 0 <= p.2 /\ p.2 < 2 ^ 2000) /\ Fit b ρ ns p.1.2
 | .nil, _, p, hp => nomatch hp
 | .cons k g m r, h, p, hp => by
  obtain ⟨⟨h1, h2, h3, h4, h5, h6, h7, h8, _⟩, hg, hr⟩ := h
  rcases List.mem_cons.mp hp with rfl | hp
  ·exact ⟨⟨h1, h2, h3, h4, h5, h6, h7, h8⟩, hg⟩
  ·exact Fit.at hr p hp
theorem Fit.len : ∀ {g : Gr}, Fit b ρ ns g -> ((rkT b ρ g).flatMap Lad.ps).length <= 900
 | .nil, _ => by simp [rkT]
 | .cons k g m r, h => h.1.2.2.2.2.2.2.2.2
end Gr
theorem RkD.put {K : PySem.W.Frag} {H : Hp} {d : Addr} {ρ : Str -> Lad} {ns : List Str} {n : Str} {x : V} (h : RkD K H d ρ ns) (hn : n ∉ ns) (hl : ns.length <= 1000) (hx : LA K H x (ρ n)) : ∃ H', DPut H d (.str n) x H' /\ SB [d] H H' /\ RkD K H' d ρ (ns ++ [n]) := by
 obtain ⟨us, h1, h2⟩ := h
 have szl := sizeLine_eq
 have ul : us.length = ns.length := by rw [h2.length, List.length_map]
 have t := SB.setD (ps := [d]) h1 (by simp) (.dK (putK (List.zipWith (fun (n : Str) (u : V) => ((Sum.inr n : Key), u)) ns us) (Sum.inr n) x))
 have e : putK (List.zipWith (fun (n : Str) (u : V) => ((Sum.inr n : Key), u)) ns us) (Sum.inr n) x = List.zipWith (fun (n : Str) (u : V) => ((Sum.inr n : Key), u)) (ns ++ [n]) (us ++ [x]) := by
  rw [putK_new fun p hp z => ?_, List.zipWith_append (by omega)]
  ·rfl
  ·clear t h1 h2 ul
   induction ns generalizing us with
   | nil => cases hp
   | cons m r ih =>
    cases us with
    | nil => cases hp
    | cons u us =>
     rw [List.zipWith_cons_cons] at hp
     rcases List.mem_cons.mp hp with rfl | hp
     ·exact hn (List.mem_cons.mpr (.inl (Sum.inr.inj z).symm))
     ·exact ih (fun h => hn (mcm _ h)) (by simp at hl; omega) us hp
 refine ⟨_, DPut.k (k := Sum.inr n) h1 (by rw [List.length_zipWith]; omega), t, us ++ [x], ?_, ?_⟩
 ·rw [upd_same, e]
 ·rw [List.map_append]
  exact (h2.sb t Lad.noList_enc).append (.cons (LA.sb hx t) .nil)
namespace Lad
theorem deep_le' {n : Nat} : ∀ {l : Lad}, (∀ p ∈ l.ps, p.1.deep < n) -> l.deep <= n
 | .nil, _ => Nat.zero_le _
 | .cons e m r, h => by
  have h1 := h (e, m) (mcs ..)
  have h2 := deep_le' (l := r) fun p hp => h p (mcm _ hp)
  have h1 : e.deep < n := h1
  show max (1 + e.deep) r.deep <= n
  omega
end Lad
namespace Gr
variable {n : Str} {b : Bk} {ρ : Str -> Lad} {B C : Int}
theorem tdy_self {bs : List (Tr × Int)} (h : bs.Pairwise (fun p q => p.1 ≠ q.1)) : (tdy tEnc bs).Perm bs /\ tdy tEnc bs = srtE pEnc bs := by
 have e : tdy tEnc bs = srtE pEnc bs := by
  unfold tdy
  exact jn_id ((List.Perm.pairwise_iff (fun h => Ne.symm h) (srtE_perm (enc := pairE tEnc) bs)).mpr h)
 exact ⟨by rw [e]; exact srtE_perm bs, e⟩
end Gr
theorem bears_strs {K : PySem.W.Frag} {H : Hp} : ∀ ks : List Str, Bears K H PyData.str (ks.map V.str) ks
 | [] => .nil
 | k :: r => .cons (.str k) (bears_strs r)
abbrev rMulS : R2 := fun x y H Q => ∃ (z : Str) (n : Nat), x = .str z /\ y = .int (n : Int) /\ n <= 1000 /\ z.length <= 1000 /\ Q (.str (Txt.mul z (n : Int))) H
theorem mul_fits {z : Str} {n : Nat} (hn : n <= 1000) (hz : z.length <= 1000) : MulOk z (n : Int) := by
 have hp : z.length * n <= 1000 * 1000 := Nat.mul_le_mul hz hn
 refine ⟨?_, fun h1 _ => ?_, fun h1 _ => ?_⟩
 ·rw [decide_eq_false (by omega), decide_eq_false (by omega)]; rfl
 ·have : (z.length : Int) <= (2 ^ 63 - 1) / (n : Int) := by
   refine (Int.le_ediv_iff_mul_le (by omega)).mpr ?_
   have : ((z.length * n : Nat) : Int) <= 1000000 := by omega
   rw [Int.natCast_mul] at this
   omega
  omega
 ·rw [Int.toNat_natCast]
  unfold Builtin.Str.tooLong
  rw [decide_eq_false]
  have := sizeLine_eq
  omega
theorem op_mulS {X : Cx} : OpR X (binaryOp .Mult) rMulS := by
 intro pins s σ H x y v u Q I rx ry h
 obtain ⟨z, n, rfl, rfl, hn, hz, q⟩ := h
 obtain ⟨t, rfl⟩ := rx
 obtain ⟨t', rfl⟩ := ry
 exact PySem.SB.mul (mul_fits hn hz) (fun t' tk => ⟨.str (Txt.mul z (n : Int)), H, I.tok _, ⟨_, rfl⟩, q⟩)
theorem fold_rep (c : Nat) : ∀ (n : Nat) (b : Array Nat), ((List.replicate n (#[c] : Array Nat)).foldl (· ++ ·) b).toList = b.toList ++ List.replicate n c
 | 0, b => by simp
 | n + 1, b => by
  rw [List.replicate_succ, List.foldl_cons, fold_rep c n]
  simp [List.replicate_succ]
theorem mul_one (c n : Nat) : (Txt.mul ⟨#[c]⟩ (n : Int)).cps.toList = List.replicate n c := by
 unfold Txt.mul
 by_cases h1 : (n : Int) < 1
 ·rw [if_pos h1]
  have : n = 0 := by omega
  subst this; rfl
 ·rw [if_neg h1]
  by_cases h2 : ((n : Int) == 1 || (⟨#[c]⟩ : Str).length == 0) = true
  ·rw [if_pos h2]
   have : n = 1 := by
    have e : ((⟨#[c]⟩ : Str).length == 0) = false := rfl
    rw [e, Bool.or_false] at h2
    have := beq_iff_eq.mp h2
    omega
   subst this; rfl
  ·rw [if_neg h2, Int.toNat_natCast]
   exact (fold_rep c n #[]).trans (by simp)
theorem Ltr.mul {c : Nat} (n : Nat) (h : 97 <= c /\ c <= 122) : Ltr (Txt.mul ⟨#[c]⟩ (n : Int)) n := by
 refine ⟨?_, fun x hx => ?_⟩
 ·rw [mul_one]; simp
 ·rw [mul_one] at hx
  rw [List.eq_of_mem_replicate hx]; exact h
def Dr (H : Hp) (p : Addr) : Prop := ∃ ns : List Int, H p = some (.lst (ns.map V.int)) /\ (∀ x ∈ ns, 0 <= x /\ x < 2147483629) /\ ns.length <= 1000
theorem Dr.keep {H H' : Hp} {p : Addr} {ps : List Addr} (h : Dr H p) (e : SB ps H H') (n : p ∉ ps) : Dr H' p := by
 obtain ⟨ns, h1, h2⟩ := h
 exact ⟨ns, e.keep _ _ h1 n, h2⟩
theorem Dr.sb {H H' : Hp} {p : Addr} (h : Dr H p) (e : SB [] H H') : Dr H' p := h.keep e nmn
theorem Dr.ne {H : Hp} {p q : Addr} (h : Dr H p) (n : H q = none) : p ≠ q := by
 obtain ⟨ns, h1, h2⟩ := h
 exact ne_of_none h1 n
theorem Dr.lsts {H : Hp} {p : Addr} (h : Dr H p) : Lsts H [p] := by
 obtain ⟨ns, h1, h2⟩ := h
 exact Lsts.one h1
def spDraws (K : PySem.W.Frag) : Sp := fun vs H Q _ => ∃ (a : Addr) (ns : List Int) (m : Nat), vs = [.ref a, .int (m : Int)] /\ SqL K H a (ns.map V.int) /\ ns.length <= 63 /\ m <= 1000 /\ ∀ (p : Addr) (H' : Hp), SB [] H H' -> H p = none -> Dr H' p -> Q (.ref p) H'
def spNext : Sp := fun vs H Q _ => ∃ p : Addr, vs = [.ref p] /\ Dr H p /\ ∀ (r : Int) (H' : Hp), 0 <= r -> r < 2147483629 -> SB [p] H H' -> Dr H' p -> Q (.int r) H'
def spNamesN (K : PySem.W.Frag) : Sp := fun vs H Q _ => ∃ (p : Addr) (m : Nat), vs = [.ref p, .int (m : Int)] /\ Dr H p /\ m <= 8 /\ ∀ (n : Addr) (ks : List Str) (H' : Hp), SB [p] H H' -> Dr H' p -> H n = none -> H' n = some (.lst (ks.map V.str)) -> ks.length = m -> (∀ k ∈ ks, NameOk k) -> ks.Nodup -> Q (.ref n) H'
def spManyN : Sp := fun vs H Q _ => ∃ (p : Addr) (g : Int), vs = [.ref p, .int g] /\ Dr H p /\ 9 <= g /\ g <= 10 ^ 60 /\ ∀ (r : Int) (H' : Hp), 1 <= r -> r <= g -> SB [p] H H' -> Dr H' p -> Q (.int r) H'
def spGroveN40 (K : PySem.W.Frag) (m : Nat) : Sp := fun vs H Q _ => ∃ (p nl : Addr) (ks : List Str) (room : Nat) (g : Int), vs = [.ref p, .ref nl, .int (room : Int), .int g] /\ Dr H p /\ (H nl = some (.lst (ks.map V.str)) /\ nl ≠ p /\ ks.length <= 8 /\ ∀ k ∈ ks, NameOk k) /\ room < m /\ room <= 10 /\ 9 <= g /\ g <= 10 ^ 60 /\
 ∀ (v : V) (t : Gr) (H' : Hp), SB [p] H H' -> Dr H' p -> GA K H' v t -> t.Ok (room * g + 1) -> t.parts <= room -> t.deep <= room -> Gr.Named ks t -> Q v H'
structure Kinds40 (ks : List Str) (rounds : Bool) (b : Bk) : Prop where
 names : b.names.Perm ks
 nums : ∀ k ∈ b, ∀ r ∈ k.rs, r.1.Ok (3 * 10 ^ 8 + 1) /\ r.2.Ok (3 * 10 ^ 8 + 1)
 size : ∀ k ∈ b, ∀ r ∈ k.rs, r.1.parts + r.2.parts <= if ks.length > 3 then 2 else 3
 rules : ∀ k ∈ b, k.rs.length <= 4
 early : rounds = false -> ∀ k ∈ b, ∀ i, ks[i]? = some k.n -> ∀ r ∈ k.rs, Gr.Named (ks.take i) r.1 /\ Gr.Named (ks.take i) r.2
 known : ∀ k ∈ b, ∀ r ∈ k.rs, Gr.Named ks r.1 /\ Gr.Named ks r.2
def spKindsN (K : PySem.W.Frag) : Sp := fun vs H Q _ => ∃ (p nl : Addr) (ks : List Str) (rounds : Bool), vs = [.ref p, .ref nl, .bl rounds] /\ Dr H p /\ (H nl = some (.lst (ks.map V.str)) /\ nl ≠ p /\ ks.length <= 8 /\ (∀ k ∈ ks, NameOk k) /\ ks.Nodup /\ ks ≠ []) /\
 ∀ (l : Addr) (xs : List V) (b : Bk) (H' : Hp), SB [p] H H' -> Dr H' p -> H l = none -> H' l = some (.lst xs) -> KdAll K H' [p, l] xs b -> b.Ok -> Kinds40 ks rounds b -> Q (.ref l) H'
theorem RkD.none {K : PySem.W.Frag} {H : Hp} {d : Addr} {ρ : Str -> Lad} {ns : List Str} {n : Str} (h : RkD K H d ρ ns) (hn : n ∉ ns) : DGet H d (.str n) none := by
 obtain ⟨us, h1, h2⟩ := h
 refine .inl ⟨_, Sum.inr n, .inl h1, rfl, ?_⟩
 unfold valV
 have : List.find? (fun kv : Key × V => decide (kv.1 = Sum.inr n)) (List.zipWith (fun (n : Str) (u : V) => ((Sum.inr n : Key), u)) ns us) = Option.none := by
  refine List.find?_eq_none.mpr fun x hx => ?_
  have key : ∀ (ns : List Str) (us : List V), x ∈ List.zipWith (fun (n : Str) (u : V) => ((Sum.inr n : Key), u)) ns us -> ∃ m ∈ ns, x.1 = Sum.inr m := by
   intro ns
   induction ns with
   | nil => intro us h; cases h
   | cons m r ih =>
    intro us h
    cases us with
    | nil => cases h
    | cons u us =>
     rw [List.zipWith_cons_cons] at h
     rcases List.mem_cons.mp h with rfl | h
     ·exact ⟨m, mcs .., rfl⟩
     ·obtain ⟨m', h1, h2⟩ := ih us h
      exact ⟨m', mcm _ h1, h2⟩
  obtain ⟨m, hm, e⟩ := key ns us hx
  rw [e]
  simp only [decide_eq_true_eq]
  exact fun z => hn (by rw [<- Sum.inr.inj z]; exact hm)
 rw [this]; rfl
theorem far_or {σ : L2.St} {H : Hp} {i : Nat} {c : Int} {Q : Bool -> Hp -> Prop} (hσ : σ[i]? = some (some (.int c))) (q : Q (decide ((1000000000000000000 : Int) <= c \/ c < 0)) H) :
  tOr (tTest (tOp (rI0 fun i j => V.bl (decide (j <= i))) (tVar i) (tOp (rI CPow fun i j => V.int (i ^ j.toNat)) (tC (V.int 10)) (tC (V.int 18))))) (tTest (tOp (rI0 fun i j => V.bl (decide (i < j))) (tVar i) (tC (V.int 0)))) σ H Q := by
 refine ⟨_, hσ, _, _, rfl, rfl, ⟨by decide, by decide, by decide⟩, _, _, rfl, rfl, _, rfl, ?_⟩
 have e18 : (10 : Int) ^ (18 : Int).toNat = 1000000000000000000 := by decide +kernel
 dsimp only
 rw [e18]
 by_cases h1 : (1000000000000000000 : Int) <= c
 ·rw [decide_eq_true (.inl h1)] at q
  rw [decide_eq_true h1]
  exact iteT q
 ·have : decide ((1000000000000000000 : Int) <= c \/ c < 0) = decide (c < 0) := by simp [h1]
  rw [this] at q
  rw [decide_eq_false h1]
  exact iteF ⟨_, hσ, _, _, rfl, rfl, _, rfl, q⟩
theorem sum_same (t : Tr) : ∀ bs : List (Tr × Int), ((bs.filter fun x => decide (x.1 = t)).map (·.2)).sum = sumE bs t
 | [] => rfl
 | x :: r => by
  rw [sumE_cons]
  by_cases he : x.1 = t
  ·rw [List.filter_cons_of_pos (by simp [he]), List.map_cons, List.sum_cons, sum_same t r, if_pos he]
  ·rw [List.filter_cons_of_neg (by simp [he]), sum_same t r, if_neg he]; omega
theorem sumE_nonneg (t : Tr) : ∀ {bs : List (Tr × Int)}, (∀ x ∈ bs, 1 <= x.2) -> 0 <= sumE bs t
 | [], _ => Int.le_refl _
 | x :: r, h => by
  rw [sumE_cons]
  have h1 := h x (mcs ..)
  have h2 := sumE_nonneg t (bs := r) fun y hy => h y (mcm _ hy)
  split <;> omega
theorem all_out (t : Tr) : ∀ bs : List (Tr × Int), allE (bs.filter fun x => decide (x.1 ≠ t)) + sumE bs t = allE bs
 | [] => rfl
 | x :: r => by
  rw [sumE_cons]
  have ih := all_out t r
  by_cases he : x.1 = t
  ·rw [List.filter_cons_of_neg (by simp [he]), if_pos he]
   show _ = x.2 + allE r
   omega
  ·rw [List.filter_cons_of_pos (by simp [he]), if_neg he]
   show x.2 + allE (r.filter fun x => decide (x.1 ≠ t)) + (0 + sumE r t) = x.2 + allE r
   omega
theorem tot_out (f : Tr × Int -> Bool) : ∀ bs : List (Tr × Int), Gr.tot (bs.filter f) <= Gr.tot bs
 | [] => Nat.le_refl _
 | x :: r => by
  have ih := tot_out f r
  cases hf : f x with
  | true =>
   rw [List.filter_cons_of_pos hf]
   show 1 + x.1.2.parts + Gr.tot (r.filter f) <= 1 + x.1.2.parts + Gr.tot r
   omega
  | false =>
   rw [List.filter_cons_of_neg (by simp [hf])]
   show _ <= 1 + x.1.2.parts + Gr.tot r
   omega
theorem KdAll.cut {K : PySem.W.Frag} {H : Hp} {bad : List Addr} : ∀ (n : Nat) {vs : List V} {b : Bk}, KdAll K H bad vs b -> KdAll K H bad (vs.take n) (b.take n) /\ KdAll K H bad (vs.drop n) (b.drop n)
 | 0, _, _, h => ⟨.nil, h⟩
 | n + 1, _, _, .nil => ⟨.nil, .nil⟩
 | n + 1, _, _, .cons a t => ⟨.cons a (KdAll.cut n t).1, (KdAll.cut n t).2⟩
theorem names_ins (b : Bk) (k : Kd) (n : Nat) : (Bk.names (b.take n ++ [k] ++ b.drop n)).Perm (b.names ++ [k.n]) := by
 show ((b.take n ++ [k] ++ b.drop n).map (·.n)).Perm (b.map (·.n) ++ [k.n])
 have e : b.map (·.n) = (b.take n).map (·.n) ++ (b.drop n).map (·.n) := by rw [<- List.map_append, List.take_append_drop]
 rw [List.map_append, List.map_append, e, List.append_assoc, List.append_assoc]
 exact List.Perm.append_left _ List.perm_append_comm
theorem Named_sub {ss ks : List Str} {g : Gr} (h : ∀ x ∈ ss, x ∈ ks) (hn : Gr.Named ss g) : Gr.Named ks g := fun x hx => h _ (hn x hx)
theorem nodup_at {ks : List Str} (nd : ks.Nodup) {i j : Nat} {n : Str} (hi : ks[i]? = some n) (hj : ks[j]? = some n) : i = j := by
 obtain ⟨h1, e1⟩ := List.getElem?_eq_some_iff.mp hi
 obtain ⟨h2, e2⟩ := List.getElem?_eq_some_iff.mp hj
 rcases Nat.lt_trichotomy i j with h | h | h
 ·exact absurd (e1.trans e2.symm) (List.pairwise_iff_getElem.mp nd i j h1 h2 h)
 ·exact h
 ·exact absurd (e2.trans e1.symm) (List.pairwise_iff_getElem.mp nd j i h2 h1 h)
theorem KdAll.more {K : PySem.W.Frag} {H : Hp} {bad : List Addr} {R : Addr} (hR : H R = none) : ∀ {vs : List V} {b : Bk}, KdAll K H bad vs b -> KdAll K H (R :: bad) vs b
 | _, _, .nil => .nil
 | _, _, .cons a t => by
  obtain ⟨t1, l, zs, e, h1, h2, h3, h4⟩ := a
  refine .cons ⟨t1, l, zs, e, h1, h2, h3, fun z => ?_⟩ (KdAll.more hR t)
  rcases List.mem_cons.mp z with z | z
  ·rw [z, hR] at h2; cases h2
  ·exact h4 z
theorem two_pos (n : Nat) : (1 : Int) <= 2 ^ n := by
 have : (0 : Int) < 2 ^ n := Int.pow_pos (by decide)
 omega
theorem two_mono {a b : Nat} (h : a <= b) : (2 : Int) ^ a <= 2 ^ b := by
 obtain ⟨k, rfl⟩ := Nat.le.dest h
 rw [Int.pow_add]
 have h1 := two_pos a
 have h2 := two_pos k
 have := Int.mul_le_mul_of_nonneg_left h2 (show (0 : Int) <= 2 ^ a by omega)
 omega
theorem two_succ (a : Nat) : (2 : Int) ^ (a + 1) = 2 * 2 ^ a := by rw [Int.pow_succ]; omega
namespace Lad
theorem lad_ok {B C : Int} {w : Bool} {o l : Lad} (ho : o.Ok B) (hl : l.Ok C) (hB : 1 <= B) (hC : 1 <= C) : (lad w o l).Ok (B + C) := by
 unfold lad
 cases w with
 | false => exact bhd_ok ho hl hB hC
 | true =>
  rw [if_pos rfl]
  cases o with
  | nil =>
   cases l with
   | nil => trivial
   | cons e m r => exact hl.mono (by omega)
  | cons e m r =>
   cases l with
   | nil => exact ho.mono (by omega)
   | cons e2 m2 r2 =>
    show (Lad.cons (bhd e (.cons e2 m2 r2)) 1 .nil).Ok _
    exact ⟨bhd_ok ho.1 hl hB hC, by decide, by omega, trivial, by simp [ps]⟩
theorem lad_parts (w : Bool) (o l : Lad) : (lad w o l).parts <= o.parts + l.parts := by
 unfold lad
 cases w with
 | false => exact bhd_parts o l
 | true =>
  rw [if_pos rfl]
  cases o with
  | nil => cases l <;> simp [spd, parts]
  | cons e m r =>
   cases l with
   | nil => show (Lad.cons e m r).parts <= _; omega
   | cons e2 m2 r2 =>
    have := bhd_parts e (.cons e2 m2 r2)
    show 1 + (bhd e (.cons e2 m2 r2)).parts + 0 <= 1 + e.parts + r.parts + _
    omega
theorem lad_deep {w : Bool} {o l : Lad} {n : Nat} (ho : o.deep <= n) (hl : l.deep <= n) : (lad w o l).deep <= n + 1 := by
 unfold lad
 cases w with
 | false => exact Nat.le_succ_of_le (bhd_deep ho hl)
 | true =>
  rw [if_pos rfl]
  cases o with
  | nil => cases l with
   | nil => exact Nat.zero_le _
   | cons e m r => exact Nat.le_succ_of_le hl
  | cons e m r =>
   cases l with
   | nil => exact Nat.le_succ_of_le ho
   | cons e2 m2 r2 =>
    have he : e.deep <= n := by
     have : max (1 + e.deep) r.deep <= n := ho
     omega
    have := bhd_deep he hl
    show max (1 + (bhd e (.cons e2 m2 r2)).deep) 0 <= n + 1
    omega
theorem bths_ok {ls : List Lad} {B D : Int} (h : ∀ l ∈ ls, l.Ok B) (hB : 0 <= B) (hD : B <= D) (hs : ∀ x, (ls.map fun l => S l x).sum < D) : (bths ls).Ok D := by
 have hd : (jn (dsc (ls.flatMap ps))).Pairwise (fun p q => q.1.lt p.1 = true) := jn_desc (dsc_keys _)
 show (ofPs (jn (dsc (ls.flatMap ps)))).Ok D
 rw [ok_ps]
 refine ⟨fun p hp => ?_, hd⟩
 have hnd : ∀ (bs : List (Lad × Int)), bs.Pairwise (fun p q => q.1.lt p.1 = true) -> ∀ p ∈ bs, sumAt bs p.1 = p.2 := by
  intro bs
  induction bs with
  | nil => intro _ p hp; cases hp
  | cons q r ih =>
   intro hpw p hp
   obtain ⟨e, m⟩ := q
   obtain ⟨h1, h2⟩ := List.pairwise_cons.mp hpw
   rw [sumAt_cons]
   rcases List.mem_cons.mp hp with hp | hp
   ·subst hp
    rw [if_pos rfl, sumAt_zero fun q hq => lt_ne (h1 q hq)]
    omega
   ·rw [if_neg (fun z => lt_ne (h1 p hp) z.symm), ih h2 p hp]
    omega
 have e1 : sumAt (jn (dsc (ls.flatMap ps))) p.1 = p.2 := hnd _ hd p hp
 have e2 : p.2 = (ls.map fun l => S l p.1).sum := by
  rw [<- e1, <- Gr.S_bths]
  show _ = sumAt (bths ls).ps p.1
  unfold bths
  rw [ps_ofPs]
 obtain ⟨q, hq, eq⟩ := jn_keys _ p hp
 have hq' := (dsc_perm _).mem_iff.mp hq
 obtain ⟨l, hl, hql⟩ := List.mem_flatMap.mp hq'
 have qo := (ok_iff.mp (h l hl)).1 q hql
 have pos : ∀ (ks : List Lad), (∀ l ∈ ks, l.Ok B) -> 0 <= (ks.map fun l => S l p.1).sum /\ ∀ l ∈ ks, S l p.1 <= (ks.map fun l => S l p.1).sum := by
  intro ks
  induction ks with
  | nil => intro _; exact ⟨Int.le_refl _, fun l hl => nomatch hl⟩
  | cons k r ih =>
   intro hk
   obtain ⟨i1, i2⟩ := ih fun l hl => hk l (mcm _ hl)
   have n1 := S_nonneg (hk k (mcs ..)) p.1
   rw [List.map_cons, List.sum_cons]
   refine ⟨by omega, fun l hl => ?_⟩
   rcases List.mem_cons.mp hl with rfl | hl
   ·omega
   ·have := i2 l hl; omega
 have s1 := (pos ls h).2 l hl
 have s2 : S l p.1 = q.2 := by rw [<- eq]; exact S_mem (h l hl) hql
 have s3 := hs p.1
 refine ⟨?_, by omega, by omega⟩
 rw [<- eq]; exact qo.1.mono hD
theorem bths_parts (ls : List Lad) : (bths ls).parts <= (ls.map parts).sum := by
 have e : ∀ ls : List Lad, tot (ls.flatMap ps) = (ls.map parts).sum := by
  intro ls
  induction ls with
  | nil => rfl
  | cons l r ih =>
   rw [List.flatMap_cons, tot_append, ih, List.map_cons, List.sum_cons]
   have : tot l.ps = l.parts := by
    have := parts_ofPs l.ps
    rw [ofPs_ps] at this; exact this.symm
   rw [this]
 show (ofPs (jn (dsc (ls.flatMap ps)))).parts <= _
 rw [parts_ofPs, <- e]
 exact Nat.le_trans (tot_jn _) (Nat.le_of_eq (tot_perm (dsc_perm _)))
theorem bths_deep {ls : List Lad} {n : Nat} (h : ∀ l ∈ ls, l.deep <= n) : (bths ls).deep <= n := by
 refine deep_le' fun p hp => ?_
 unfold bths at hp
 rw [ps_ofPs] at hp
 obtain ⟨q, hq, e⟩ := jn_keys _ p hp
 obtain ⟨l, hl, hql⟩ := List.mem_flatMap.mp ((dsc_perm _).mem_iff.mp hq)
 have := l.mem_deep q hql
 have := h l hl
 rw [<- e]; omega
end Lad
namespace Gr
variable {b : Bk} {ρ σ : Str -> Lad} {C : Int} {ns : List Str}
theorem rk_nil : rk b ρ .nil = .nil := by
 show Lad.ofPs (jn (Lad.dsc [])) = .nil
 have : Lad.dsc [] = [] := List.Perm.eq_nil (Lad.dsc_perm [])
 rw [this]; rfl
theorem rkT_congr : ∀ {g : Gr}, (∀ x ∈ g.within, ρ x.1.1 = σ x.1.1) -> rkT b ρ g = rkT b σ g
 | .nil, _ => rfl
 | .cons k g m r, h => by
  have e1 := h ((k, g), m) (mcs ..)
  have e2 := rkT_congr (g := g) fun x hx => h x (mcm _ (mal _ hx))
  have e3 := rkT_congr (g := r) fun x hx => h x (mcm _ (mar _ hx))
  show Lad.tms (lad (b.wide k) (ρ k) (Lad.bths (rkT b ρ g))) m :: rkT b ρ r = _ :: rkT b σ r
  rw [e2, e3, show ρ k = σ k from e1]
theorem rk_congr {g : Gr} (h : ∀ x ∈ g.within, ρ x.1.1 = σ x.1.1) : rk b ρ g = rk b σ g := by unfold rk; rw [rkT_congr h]
theorem rk_size {P D : Nat} (hk : ∀ n ∈ ns, (ρ n).parts <= P /\ (ρ n).deep <= D) : ∀ {g : Gr}, Named ns g -> ((rkT b ρ g).map Lad.parts).sum <= P * g.parts /\ ∀ l ∈ rkT b ρ g, l.deep <= D + g.deep
 | .nil, _ => And.intro (Nat.zero_le _) (fun l hl => nomatch hl)
 | .cons k g m r, h => by
  have hkn : k ∈ ns := h ((k, g), m) (mcs ..)
  obtain ⟨g1, g2⟩ := rk_size hk (g := g) fun x hx => h x (mcm _ (mal _ hx))
  obtain ⟨r1, r2⟩ := rk_size hk (g := r) fun x hx => h x (mcm _ (mar _ hx))
  obtain ⟨k1, k2⟩ := hk k hkn
  have ip : (Lad.bths (rkT b ρ g)).parts <= P * g.parts := Nat.le_trans (Lad.bths_parts _) g1
  have idp : (Lad.bths (rkT b ρ g)).deep <= D + g.deep := Lad.bths_deep g2
  have lp := Lad.lad_parts (b.wide k) (ρ k) (Lad.bths (rkT b ρ g))
  have tp := Lad.tms_parts (lad (b.wide k) (ρ k) (Lad.bths (rkT b ρ g))) m
  have ld := Lad.lad_deep (w := b.wide k) (o := ρ k) (l := Lad.bths (rkT b ρ g)) (n := D + g.deep) (by omega) idp
  have e1 : (Gr.cons k g m r).parts = 1 + g.parts + r.parts := rfl
  have e2 : (Gr.cons k g m r).deep = max (1 + g.deep) r.deep := rfl
  refine ⟨?_, fun l hl => ?_⟩
  ·show (Lad.tms (lad (b.wide k) (ρ k) (Lad.bths (rkT b ρ g))) m).parts + ((rkT b ρ r).map Lad.parts).sum <= _
   rw [e1, Nat.mul_add, Nat.mul_add, Nat.mul_one]
   omega
  ·rw [e2]
   rcases List.mem_cons.mp hl with rfl | hl
   ·have := Lad.tms_deep (n := D + g.deep + 1) m ld
    omega
   ·have := r2 l hl; omega
theorem rk_nums {x : Nat} (hk : ∀ n ∈ ns, (ρ n).Ok (2 ^ x)) : ∀ {g : Gr}, Named ns g -> g.Ok (2 ^ 29) -> (∀ l ∈ rkT b ρ g, l.Ok (2 ^ (x + 31 * g.parts))) /\ ∀ y, ((rkT b ρ g).map fun l => Lad.S l y).sum < 2 ^ (x + 31 * g.parts)
 | .nil, _, _ => And.intro (fun l hl => nomatch hl) (fun y => by
  show (0 : Int) < _
  have := two_pos (x + 31 * Gr.nil.parts); omega)
 | .cons k g m r, h, ho => by
  obtain ⟨_, hg, hm1, hm2, hr, _⟩ := ho
  have hkn : k ∈ ns := h ((k, g), m) (mcs ..)
  obtain ⟨g1, g2⟩ := rk_nums hk (g := g) (fun x hx => h x (mcm _ (mal _ hx))) hg
  obtain ⟨r1, r2⟩ := rk_nums hk (g := r) (fun x hx => h x (mcm _ (mar _ hx))) hr
  have e1 : (Gr.cons k g m r).parts = 1 + g.parts + r.parts := rfl
  have p0 := two_pos (x + 31 * g.parts)
  have px := two_pos x
  have io : (Lad.bths (rkT b ρ g)).Ok (2 ^ (x + 31 * g.parts)) := Lad.bths_ok g1 (by omega) (Int.le_refl _) g2
  have lo := Lad.lad_ok (w := b.wide k) (hk k hkn) io px p0
  have m1 := two_mono (show x <= x + 31 * g.parts by omega)
  have lo2 : (lad (b.wide k) (ρ k) (Lad.bths (rkT b ρ g))).Ok (2 ^ (x + 31 * g.parts + 1)) := lo.mono (by rw [two_succ]; omega)
  have to := Lad.tms_ok lo2 (show 0 <= m by omega)
  have q0 := two_pos (x + 31 * g.parts + 1)
  have hb : 2 ^ (x + 31 * g.parts + 1) * m + 2 ^ (x + 31 * g.parts + 1) <= 2 ^ (x + 31 * g.parts + 30) := by
   have : (2 : Int) ^ (x + 31 * g.parts + 30) = 2 ^ (x + 31 * g.parts + 1) * 2 ^ 29 := by rw [<- Int.pow_add]
   rw [this]
   have h2 : (2 : Int) ^ (x + 31 * g.parts + 1) * (m + 1) <= 2 ^ (x + 31 * g.parts + 1) * 2 ^ 29 := Int.mul_le_mul_of_nonneg_left (by omega) (by omega)
   rw [Int.mul_add, Int.mul_one] at h2
   exact h2
  have to2 := to.mono hb
  have w1 := two_mono (show x + 31 * g.parts + 30 <= x + 31 * (1 + g.parts + r.parts) - 1 by omega)
  have w2 := two_mono (show x + 31 * r.parts <= x + 31 * (1 + g.parts + r.parts) - 1 by omega)
  have w3 := two_succ (x + 31 * (1 + g.parts + r.parts) - 1)
  rw [show x + 31 * (1 + g.parts + r.parts) - 1 + 1 = x + 31 * (1 + g.parts + r.parts) by omega] at w3
  have w0 := two_pos (x + 31 * (1 + g.parts + r.parts) - 1)
  rw [e1]
  refine ⟨fun l hl => ?_, fun y => ?_⟩
  ·rcases List.mem_cons.mp hl with rfl | hl
   ·exact to2.mono (by omega)
   ·exact (r1 l hl).mono (by omega)
  ·show Lad.S (Lad.tms (lad (b.wide k) (ρ k) (Lad.bths (rkT b ρ g))) m) y + ((rkT b ρ r).map fun l => Lad.S l y).sum < _
   have s2 := r2 y
   have s3 : Lad.S (Lad.tms (lad (b.wide k) (ρ k) (Lad.bths (rkT b ρ g))) m) y < 2 ^ (x + 31 * g.parts + 30) \/ Lad.S (Lad.tms (lad (b.wide k) (ρ k) (Lad.bths (rkT b ρ g))) m) y <= 0 := by
    rcases Lad.S_cases to2 y with ⟨h1, _⟩ | ⟨mm, _, h2, _, h4⟩
    ·right; omega
    ·left; omega
   have w4 := two_pos (x + 31 * g.parts + 30)
   rcases s3 with s3 | s3 <;> omega
end Gr
namespace Gr
variable {b : Bk} {ρ : Str -> Lad} {ns : List Str}
theorem rk_fit {P D x : Nat} (hk : ∀ n ∈ ns, n ∈ b.names /\ ρ n ≠ .nil /\ (ρ n).parts <= P /\ (ρ n).deep <= D /\ (ρ n).Ok (2 ^ x)) (hP : 1 <= P) : ∀ {g : Gr}, Named ns g -> g.Ok (2 ^ 29) -> P * g.parts <= 390 -> D + g.deep <= 24 -> x + 31 * g.parts <= 2000 -> Fit b ρ ns g
 | .nil, _, _, _, _, _ => trivial
 | .cons k g m r, h, ho, hp, hd, hx => by
  have hP' : ∀ n ∈ ns, (ρ n).parts <= P /\ (ρ n).deep <= D := fun n hn => ⟨(hk n hn).2.2.1, (hk n hn).2.2.2.1⟩
  have hX' : ∀ n ∈ ns, (ρ n).Ok (2 ^ x) := fun n hn => (hk n hn).2.2.2.2
  have nm : 2 ^ 29 <= (2 : Int) ^ 2000 := two_mono (by decide)
  obtain ⟨hkn, hnn⟩ : k ∈ ns /\ (Named ns g /\ Named ns r) := ⟨h ((k, g), m) (mcs ..), fun x hx => h x (mcm _ (mal _ hx)), fun x hx => h x (mcm _ (mar _ hx))⟩
  obtain ⟨ok0, hg, hm1, hm2, hr, hrise⟩ := ho
  have ho : (Gr.cons k g m r).Ok (2 ^ 29) := ⟨ok0, hg, hm1, hm2, hr, hrise⟩
  have e1 : (Gr.cons k g m r).parts = 1 + g.parts + r.parts := rfl
  have e2 : (Gr.cons k g m r).deep = max (1 + g.deep) r.deep := rfl
  rw [e1, Nat.mul_add, Nat.mul_add, Nat.mul_one] at hp
  rw [e1] at hx
  obtain ⟨s1, s2⟩ := rk_size hP' h
  obtain ⟨g1, g2⟩ := rk_size hP' hnn.1
  obtain ⟨n1, n2⟩ := rk_nums hX' hnn.1 hg
  have p0 := two_pos (x + 31 * g.parts)
  have px := two_pos x
  have io : (Lad.bths (rkT b ρ g)).Ok (2 ^ (x + 31 * g.parts)) := Lad.bths_ok n1 (by omega) (Int.le_refl _) n2
  have lo := (Lad.lad_ok (w := b.wide k) (hX' k hkn) io px p0)
  have m1 := two_mono (show x <= x + 31 * g.parts by omega)
  have m2 := two_mono (show x + 31 * g.parts + 1 <= 2000 by omega)
  have m3 := two_succ (x + 31 * g.parts)
  obtain ⟨kb, kne, kp, kd, kx⟩ := hk k hkn
  have num : ∀ {l : Lad}, l.Ok (2 ^ 2000) -> ∀ p ∈ l.ps, 0 <= p.2 /\ p.2 < 2 ^ 2000 := fun hl p hp => by
   have := (Lad.ok_iff.mp hl).1 p hp
   exact ⟨by omega, this.2.2⟩
  have ip : (Lad.bths (rkT b ρ g)).parts <= P * g.parts := Nat.le_trans (Lad.bths_parts _) g1
  have idp : (Lad.bths (rkT b ρ g)).deep <= D + g.deep := Lad.bths_deep g2
  have lp := Lad.lad_parts (b.wide k) (ρ k) (Lad.bths (rkT b ρ g))
  have ld := Lad.lad_deep (w := b.wide k) (o := ρ k) (l := Lad.bths (rkT b ρ g)) (n := D + g.deep) (by omega) idp
  refine ⟨⟨hkn, kb, kne, ⟨by omega, by omega, num (kx.mono (by omega))⟩, ⟨by show (Lad.bths (rkT b ρ g)).deep <= 25; omega, by show (Lad.bths (rkT b ρ g)).parts <= 900; omega, num (io.mono (by omega))⟩, ⟨by show (lad (b.wide k) (ρ k) (Lad.bths (rkT b ρ g))).deep <= 25; omega, by show (lad (b.wide k) (ρ k) (Lad.bths (rkT b ρ g))).parts <= 900; omega, num (lo.mono (by omega))⟩, by omega, by omega, ?_⟩, rk_fit hk hP hnn.1 hg (by omega) (by omega) (by omega), rk_fit hk hP hnn.2 hr (by omega) (by omega) (by omega)⟩
  have key : ∀ ls : List Lad, (ls.flatMap Lad.ps).length <= (ls.map Lad.parts).sum := by
   intro ls
   induction ls with
   | nil => exact Nat.le_refl _
   | cons l r ih =>
    rw [List.flatMap_cons, List.length_append, List.map_cons, List.sum_cons, Lad.ps_length]
    have := l.len_parts
    omega
  have := key (rkT b ρ (.cons k g m r))
  rw [e1, Nat.mul_add, Nat.mul_add, Nat.mul_one] at s1
  exact Nat.le_trans (Nat.le_trans this s1) (by omega)
end Gr
theorem ledR_within {rs : List Ru} {r : Ru} (hr : r ∈ rs) {x : Tr × Int} (hx : x ∈ Ru.within r) : x.1.1 ∈ ledR rs := List.mem_flatMap.mpr ⟨r, hr, List.mem_map.mpr ⟨x, hx, rfl⟩⟩
theorem clm_congr {b : Bk} {ρ σ : Str -> Lad} {r : Ru} (h : ∀ x ∈ Ru.within r, ρ x.1.1 = σ x.1.1) : clm b ρ r = clm b σ r := by
 unfold clm
 rw [Gr.rk_congr fun x hx => h x (mal _ hx), Gr.rk_congr fun x hx => h x (mar _ hx)]
def Bk.rules (b : Bk) (n : Str) : List Ru := match b.get n with
 | some k => k.rs
 | none => []
def leadsTo (b : Bk) (k n : Str) : Prop := k ∈ adj b n /\ EndK b n
theorem leads_wf (b : Bk) : WellFounded (leadsTo b) := by
 have h1 : ∀ n, EndK b n -> Acc (leadsTo b) n := fun n h => by
  induction h with
  | mk _ ih => exact ⟨_, fun y hy => ih y hy.1⟩
 exact ⟨fun n => ⟨n, fun y hy => h1 y (hy.2.next hy.1)⟩⟩
open Classical in
noncomputable def ownF (b : Bk) (n : Str) (rec : ∀ k, leadsTo b k n -> Lad) : Lad := Lad.maxL Lad.uno ((b.rules n).map (clm b fun k => if h : leadsTo b k n then rec k h else Lad.uno))
noncomputable def ownOf (b : Bk) : Str -> Lad := (leads_wf b).fix (ownF b)
theorem ownOf_eq {b : Bk} (ok : b.Ok) {k : Kd} (hk : k ∈ b) (he : EndK b k.n) : ownOf b k.n = Lad.maxL Lad.uno (k.rs.map (clm b (ownOf b))) := by
 unfold ownOf
 rw [WellFounded.fix_eq]
 unfold ownF
 have er : b.rules k.n = k.rs := by unfold Bk.rules; rw [Bk.get_self ok.nd hk]
 rw [er]
 congr 1
 refine List.map_congr_left fun r hr => clm_congr fun x hx => ?_
 have hl : leadsTo b x.1.1 k.n := ⟨by rw [adj_self ok hk]; exact ledR_within hr hx, he⟩
 rw [dif_pos hl]
theorem Gr.Fit.mono {b : Bk} {ρ : Str -> Lad} {ns ms : List Str} (h : ∀ n ∈ ns, n ∈ ms) : ∀ {g : Gr}, Gr.Fit b ρ ns g -> Gr.Fit b ρ ms g
 | .nil, _ => trivial
 | .cons k g m r, hf => by
  obtain ⟨⟨h1, h2, h3, h4, h5, h6, h7, h8, h9⟩, hg, hr⟩ := hf
  exact ⟨⟨h _ h1, h2, h3, h4, h5, h6, h7, h8, h9⟩, Gr.Fit.mono h hg, Gr.Fit.mono h hr⟩
theorem filter_lt {α : Type} {p q : α -> Bool} : ∀ {l : List α}, (∀ x ∈ l, p x = true -> q x = true) -> (∃ x ∈ l, q x = true /\ p x = false) -> (l.filter p).length < (l.filter q).length
 | [], _, ⟨x, hx, _⟩ => nomatch hx
 | a :: r, h, ⟨x, hx, hq, hp⟩ => by
  have hr : ∀ x ∈ r, p x = true -> q x = true := fun y hy => h y (mcm _ hy)
  have le : ∀ l : List α, (∀ x ∈ l, p x = true -> q x = true) -> (l.filter p).length <= (l.filter q).length := by
   intro l
   induction l with
   | nil => intro _; exact Nat.le_refl _
   | cons c s ih =>
    intro hc
    have := ih fun y hy => hc y (mcm _ hy)
    cases hpc : p c with
    | true =>
     rw [List.filter_cons_of_pos hpc, List.filter_cons_of_pos (hc c (mcs ..) hpc)]
     simpa using this
    | false =>
     rw [List.filter_cons_of_neg (by simp [hpc])]
     cases hqc : q c with
     | true => rw [List.filter_cons_of_pos hqc, List.length_cons]; omega
     | false => rw [List.filter_cons_of_neg (by simp [hqc])]; exact this
  rcases List.mem_cons.mp hx with rfl | hx
  ·rw [List.filter_cons_of_neg (by simp [hp]), List.filter_cons_of_pos hq, List.length_cons]
   have := le r hr
   omega
  ·have ih := filter_lt hr ⟨x, hx, hq, hp⟩
   cases hpc : p a with
   | true =>
    rw [List.filter_cons_of_pos hpc, List.filter_cons_of_pos (h a (mcs ..) hpc)]
    simpa using ih
   | false =>
    rw [List.filter_cons_of_neg (by simp [hpc])]
    cases hqc : q a with
    | true => rw [List.filter_cons_of_pos hqc, List.length_cons]; omega
    | false => rw [List.filter_cons_of_neg (by simp [hqc])]; exact ih
open Classical in
noncomputable def cntR (b : Bk) (n : Str) : Nat := (b.names.filter fun k => decide (Rch b n k)).length
theorem cntR_lt {b : Bk} (ok : b.Ok) {n k : Str} (he : EndK b n) (hk : k ∈ adj b n) : cntR b k < cntR b n := by
 refine filter_lt (fun x _ hx => ?_) ⟨k, adj_names ok hk, ?_, ?_⟩
 ·simp only [decide_eq_true_eq] at hx ⊢
  exact Rch.cons hk hx
 ·simp only [decide_eq_true_eq]; exact .one hk
 ·simp only [decide_eq_false_iff_not]; exact (he.next hk).noring
theorem cntR_top {b : Bk} {n : Str} (he : EndK b n) (hn : n ∈ b.names) : cntR b n < b.length := by
 have h := filter_lt (p := fun k => @decide (Rch b n k) (Classical.propDecidable _)) (q := fun _ => true) (l := b.names) (fun _ _ _ => rfl) ⟨n, hn, rfl, by simp only [decide_eq_false_iff_not]; exact he.noring⟩
 have e : (b.names.filter fun _ => true).length = b.length := by rw [List.filter_eq_self.mpr (fun _ _ => rfl), List.length_map]
 rw [e] at h
 exact h
def Pm (m : Nat) : Nat -> Nat
 | 0 => 2
 | c + 1 => m * Pm m c + 2
theorem Pm_two (m : Nat) : ∀ c, 2 <= Pm m c
 | 0 => Nat.le_refl _
 | c + 1 => Nat.le_add_left _ _
structure Bnd (m c : Nat) (l : Lad) : Prop where
 ne : l ≠ .nil
 parts : l.parts <= Pm m c
 deep : l.deep <= 2 + m * c
 ok : l.Ok (2 ^ (2 + (31 * m + 2) * c))
theorem clm_bnd {b : Bk} {ρ : Str -> Lad} {ns : List Str} {P D x m : Nat} {r : Ru} (hk : ∀ n ∈ ns, (ρ n).parts <= P /\ (ρ n).deep <= D) (hx : ∀ n ∈ ns, (ρ n).Ok (2 ^ x)) (h1 : Gr.Named ns r.1) (h2 : Gr.Named ns r.2) (o1 : r.1.Ok (2 ^ 29)) (o2 : r.2.Ok (2 ^ 29)) (hs : r.1.parts + r.2.parts <= m) (hD : 2 <= D) :
  (clm b ρ r).parts <= m * P + 2 /\ (clm b ρ r).deep <= D + m /\ (clm b ρ r).Ok (2 ^ (x + 31 * m + 2)) /\ (Gr.rk b ρ r.1).deep <= D + m /\ (Gr.rk b ρ r.2).deep <= D + m /\ (Gr.rk b ρ r.1).parts <= m * P /\ (Gr.rk b ρ r.2).parts <= m * P := by
 obtain ⟨a1, a2⟩ := Gr.rk_size (b := b) hk h1
 obtain ⟨b1, b2⟩ := Gr.rk_size (b := b) hk h2
 obtain ⟨c1, c2⟩ := Gr.rk_nums (b := b) hx h1 o1
 obtain ⟨d1, d2⟩ := Gr.rk_nums (b := b) hx h2 o2
 have w1 := within_deep r.1
 have w2 := within_deep r.2
 have p1 : (Gr.rk b ρ r.1).parts <= P * r.1.parts := Nat.le_trans (Lad.bths_parts _) a1
 have p2 : (Gr.rk b ρ r.2).parts <= P * r.2.parts := Nat.le_trans (Lad.bths_parts _) b1
 have q1 : (Gr.rk b ρ r.1).deep <= D + r.1.deep := Lad.bths_deep a2
 have q2 : (Gr.rk b ρ r.2).deep <= D + r.2.deep := Lad.bths_deep b2
 have e1 := two_pos (x + 31 * r.1.parts)
 have e2 := two_pos (x + 31 * r.2.parts)
 have k1 : (Gr.rk b ρ r.1).Ok (2 ^ (x + 31 * r.1.parts)) := Lad.bths_ok c1 (by omega) (Int.le_refl _) c2
 have k2 : (Gr.rk b ρ r.2).Ok (2 ^ (x + 31 * r.2.parts)) := Lad.bths_ok d1 (by omega) (Int.le_refl _) d2
 have ko := Lad.abv_ok k1 k2 e1 e2
 have hm : P * r.1.parts + P * r.2.parts <= m * P := by
  rw [<- Nat.mul_add, Nat.mul_comm m P]
  exact Nat.mul_le_mul_left _ hs
 have ap := Lad.abv_parts (Gr.rk b ρ r.1) (Gr.rk b ρ r.2)
 have ad := Lad.abv_deep (n := D + m) (l := Gr.rk b ρ r.1) (k := Gr.rk b ρ r.2) (by omega) (by omega) (by omega)
 have m1 := two_mono (show x + 31 * r.1.parts <= x + 31 * m by omega)
 have m2 := two_mono (show x + 31 * r.2.parts <= x + 31 * m by omega)
 have m3 := two_succ (x + 31 * m)
 have m4 : (2 : Int) ^ (x + 31 * m + 2) = 2 * 2 ^ (x + 31 * m + 1) := two_succ (x + 31 * m + 1)
 have m5 := two_pos (x + 31 * m)
 exact ⟨by unfold clm; omega, ad, ko.mono (by omega), by omega, by omega, by omega, by omega⟩
def Gr.ins : Gr -> List Tr
 | .nil => []
 | .cons k g m r => (k, g) :: (g.ins ++ r.ins)
theorem Gr.ins_within : ∀ g : Gr, g.ins = g.within.map (·.1)
 | .nil => rfl
 | .cons k g m r => by
  show (k, g) :: (g.ins ++ r.ins) = (k, g) :: (g.within ++ r.within).map (·.1)
  rw [Gr.ins_within g, Gr.ins_within r, List.map_append]
def spIn40 (K : PySem.W.Frag) (n : Nat) : Sp := fun vs H Q _ => ∃ (v : V) (g : Gr), vs = [v] /\ GA K H v g /\ g.deep < n /\ g.parts <= 1000 /\ ∀ (D : Addr) (us : List V) (H' : Hp), SB [] H H' -> H D = none -> H' D = some (.lst us) -> Bears K H' Gr.tEnc us g.ins -> Q (.ref D) H'
theorem Gr.ins_ps : ∀ g : Gr, g.ins = g.ps.flatMap fun p => p.1 :: p.1.2.ins
 | .nil => rfl
 | .cons k g m r => by
  show (k, g) :: (g.ins ++ r.ins) = ((k, g) :: g.ins) ++ r.ps.flatMap _
  rw [Gr.ins_ps r]; rfl
theorem Gr.ins_len (g : Gr) : g.ins.length = g.parts := by rw [Gr.ins_within, List.length_map, Gr.within_length]
theorem ixN_nat {n m : Nat} (h : n < m) : ixN m (n : Int) = some n := by
 unfold ixN
 simp
 omega
def lft (b : Bk) (ss : List Str) : Nat -> List Str
 | 0 => ss
 | i + 1 => (lft b ss i).filter fun n => (adj b n).any fun k => decide (k ∈ lft b ss i)
section
variable {b : Bk} {ss : List Str}
theorem lft_sub {n : Str} : ∀ {i : Nat}, n ∈ lft b ss i -> n ∈ ss
 | 0, h => h
 | i + 1, h => lft_sub (i := i) (List.mem_filter.mp h).1
theorem lft_len : ∀ i : Nat, (lft b ss i).length <= ss.length
 | 0 => Nat.le_refl _
 | i + 1 => Nat.le_trans (List.length_filter_le _ _) (lft_len i)
theorem lft_keep (ok : b.Ok) (hs : ∀ x, x ∈ ss ↔ x ∈ b.names) : ∀ (i : Nat) {n : Str}, n ∈ b.names -> ¬ EndK b n -> n ∈ lft b ss i
 | 0, n, h, _ => (hs n).mpr h
 | i + 1, n, h, e => by
  obtain ⟨k, hk, ek⟩ := not_ends e
  exact List.mem_filter.mpr ⟨lft_keep ok hs i h e, List.any_eq_true.mpr ⟨k, hk, decide_eq_true (lft_keep ok hs i (adj_names ok hk) ek)⟩⟩
theorem lft_end (ok : b.Ok) : ∀ (i : Nat) {n : Str}, EndK b n -> n ∈ lft b ss i -> i <= cntR b n
 | 0, _, _, _ => Nat.zero_le _
 | i + 1, n, he, h => by
  obtain ⟨_, h2⟩ := List.mem_filter.mp h
  obtain ⟨k, hk, e⟩ := List.any_eq_true.mp h2
  have h3 := lft_end ok i (he.next hk) (of_decide_eq_true e)
  have h4 := cntR_lt ok he hk
  omega
theorem lft_all (ok : b.Ok) (hs : ∀ x, x ∈ ss ↔ x ∈ b.names) (n : Str) : n ∈ lft b ss b.length ↔ n ∈ b.names /\ ¬ EndK b n := by
 refine ⟨fun h => ⟨(hs n).mp (lft_sub h), fun he => ?_⟩, fun h => lft_keep ok hs _ h.1 h.2⟩
 have h1 := lft_end ok _ he h
 have h2 := cntR_top he ((hs n).mp (lft_sub h))
 omega
end
theorem putK_last {kvs : List (Key × V)} {k : Key} {u v : V} (h : ∀ p ∈ kvs, p.1 ≠ k) : putK (kvs ++ [(k, u)]) k v = kvs ++ [(k, v)] := by
 induction kvs with
 | nil => simp [putK]
 | cons p r ih =>
  have h1 : p.1 ≠ k := h p (mcs ..)
  have h2 := ih fun q hq => h q (mcm _ hq)
  unfold putK at h2 ⊢
  simp_all
theorem valV_last : ∀ {kvs : List (Key × V)} {k : Key} {v : V}, (∀ p ∈ kvs, p.1 ≠ k) -> valV (kvs ++ [(k, v)]) k = some v
 | [], _, _, _ => valV_pos rfl
 | p :: r, k, v, h => by
  obtain ⟨a, x⟩ := p
  rw [List.cons_append, valV_neg (h (a, x) (mcs ..))]
  exact valV_last fun q hq => h q (mcm _ hq)
inductive LedB (K : PySem.W.Frag) (H : Hp) : List (Key × V) -> Bk -> Prop
 | nil : LedB K H [] []
 | cons {l : Addr} {k : Kd} {kvs : List (Key × V)} {b : Bk} : H l = some (.lst ((ledR k.rs).map V.str)) -> LedB K H kvs b -> LedB K H ((Sum.inr k.n, .ref l) :: kvs) (k :: b)
section
variable {K : PySem.W.Frag} {H H' : Hp}
theorem LedB.length : ∀ {kvs : List (Key × V)} {b : Bk}, LedB K H kvs b -> kvs.length = b.length
 | _, _, .nil => rfl
 | _, _, .cons _ t => congrArg (· + 1) t.length
theorem LedB.append : ∀ {kvs kws : List (Key × V)} {b c : Bk}, LedB K H kvs b -> LedB K H kws c -> LedB K H (kvs ++ kws) (b ++ c)
 | _, _, _, _, .nil, h => h
 | _, _, _, _, .cons a t, h => .cons a (t.append h)
theorem LedB.val {n : Str} {k : Kd} : ∀ {kvs : List (Key × V)} {b : Bk}, LedB K H kvs b -> b.get n = some k -> ∃ l, valV kvs (Sum.inr n) = some (.ref l) /\ H l = some (.lst ((ledR k.rs).map V.str))
 | _, _, .nil, e => by simp [Bk.get] at e
 | _, _, .cons (l := l) (k := kk) (b := bb) a t, e => by
  by_cases h : kk.n = n
  ·have e' : kk = k := by
    have : Bk.get (kk :: bb) n = some kk := by simp [Bk.get, h]
    rw [this] at e; exact Option.some.inj e
   subst e'
   exact ⟨l, valV_pos (by rw [h]), a⟩
  ·have e' : Bk.get bb n = some k := by
    unfold Bk.get at e
    rw [List.find?_cons_of_neg (by simpa using h)] at e
    exact e
   obtain ⟨l', h1, h2⟩ := t.val e'
   exact ⟨l', by rw [valV_neg (fun z => h (Sum.inr.inj z))]; exact h1, h2⟩
theorem LedB.sb {ps : List Addr} (e : SB ps H H') : ∀ {kvs : List (Key × V)} {b : Bk}, LedB K H kvs b -> (∀ p ∈ kvs, ∀ q ∈ ps, p.2 ≠ .ref q) -> LedB K H' kvs b
 | _, _, .nil, _ => .nil
 | _, _, .cons a t, h => .cons (e.keep _ _ a fun z => h _ mcs _ z rfl) (LedB.sb e t fun p hp => h p (mcm _ hp))
theorem LedB.keys : ∀ {kvs : List (Key × V)} {b : Bk}, LedB K H kvs b -> kvs.map (·.1) = b.names.map Sum.inr
 | _, _, .nil => rfl
 | _, _, .cons a t => by rw [List.map_cons, LedB.keys t]; rfl
theorem LedB.new {kvs : List (Key × V)} {b : Bk} (h : LedB K H kvs b) {n : Str} (hn : n ∉ b.names) : ∀ p ∈ kvs, p.1 ≠ Sum.inr n := fun p hp z => by
 have h3 : p.1 ∈ b.names.map (Sum.inr (α := Int)) := by rw [<- h.keys]; exact List.mem_map.mpr ⟨p, hp, rfl⟩
 rw [z] at h3
 obtain ⟨m, hm, e⟩ := List.mem_map.mp h3
 rw [Sum.inr.inj e] at hm
 exact hn hm
end
theorem ledR_snoc {rs : List Ru} {i : Nat} {r : Ru} (er : rs[i]? = some r) : ledR (rs.take (i + 1)) = ledR (rs.take i) ++ (r.1.ins ++ r.2.ins).map (·.1) := by
 rw [List.take_add_one, er]
 unfold ledR
 rw [List.flatMap_append]
 simp [Ru.within, Gr.ins_within, Function.comp_def]
def spEndl40 (K : PySem.W.Frag) : Sp := fun vs H Q _ => ∃ (l : Addr) (xs : List V) (b : Bk), vs = [.ref l] /\ H l = some (.lst xs) /\ KdAll K H [] xs b /\ b.Ok /\ ∀ (a : Addr) (ss : List Str) (H' : Hp), SB [] H H' -> H a = none -> H' a = some (.lst (ss.map V.str)) -> ss.length <= 8 -> (∀ n, n ∈ ss ↔ n ∈ b.names /\ ¬ EndK b n) -> Q (.ref a) H'
structure Own40 (b : Bk) (ρ : Str -> Lad) (P : Nat) : Prop where
 own : OwnR b ρ
 bnd : ∃ x D : Nat, D <= 12 /\ x <= 330 /\ ∀ n ∈ b.names, EndK b n -> ρ n ≠ .nil /\ (ρ n).parts <= P /\ (ρ n).deep <= D /\ (ρ n).Ok (2 ^ x)
 ru : ∀ k ∈ b, ∀ r ∈ k.rs, r.1.Ok (2 ^ 29) /\ r.2.Ok (2 ^ 29)
def zk (ns : List Str) (us : List V) : List (Key × V) := List.zipWith (fun (n : Str) (u : V) => ((Sum.inr n : Key), u)) ns us
theorem zk_keys : ∀ {ns : List Str} {us : List V}, us.length = ns.length -> (zk ns us).map (·.1) = ns.map Sum.inr
 | [], [], _ => rfl
 | [], _ :: _, h => by simp at h
 | _ :: _, [], h => by simp at h
 | n :: r, u :: us, h => by
  have := zk_keys (ns := r) (us := us) (by simpa using h)
  show Sum.inr n :: (zk r us).map (·.1) = _
  rw [this]; rfl
theorem zk_len {ns : List Str} {us : List V} (h : us.length = ns.length) : (zk ns us).length = ns.length := by
 have := congrArg List.length (zk_keys h)
 simpa using this
structure Wor (b : Bk) (ρ : Str -> Lad) (P : Nat) : Prop where
 each : ∀ n ∈ b.names, ρ n ≠ .nil /\ (ρ n).parts <= P /\ (ρ n).deep <= 12 /\ (ρ n).Ok (2 ^ 340)
def spChkW (K : PySem.W.Frag) (C : Addr) : Sp := fun vs H Q _ => ∃ (v : V) (d : Addr) (b : Bk) (ρ : Str -> Lad) (ns : List Str) (P : Nat), vs = [v, .ref d] /\ BkA K C H v b /\ b.Ok /\ RkD K H d ρ ns /\ ns.Perm b.names /\ Wor b ρ P /\ P <= 900 /\ ∀ H', SB [] H H' -> Q .non H'
theorem own_bndE {b : Bk} (ok : b.Ok) {m : Nat} (hm : ∀ k ∈ b, EndK b k.n -> ∀ r ∈ k.rs, r.1.Ok (2 ^ 29) /\ r.2.Ok (2 ^ 29) /\ r.1.parts + r.2.parts <= m) : ∀ (c : Nat) (k : Kd), k ∈ b -> EndK b k.n -> cntR b k.n <= c -> Bnd m c (ownOf b k.n)
 | c, k, hk, he, hc => by
  have hadj := adj_self ok hk
  have nm : ∀ r ∈ k.rs, Gr.Named (adj b k.n) r.1 /\ Gr.Named (adj b k.n) r.2 := fun r hr => ⟨fun x hx => by rw [hadj]; exact ledR_within hr (mal _ hx), fun x hx => by rw [hadj]; exact ledR_within hr (mar _ hx)⟩
  have eq := ownOf_eq ok hk he
  have ne : ownOf b k.n ≠ .nil := fun z => by
   have := Lad.maxL_ge (k.rs.map (clm b (ownOf b))) Lad.uno Lad.uno (mcs ..)
   rw [<- eq, z] at this
   rw [Lad.lt_nil_cons] at this; cases this
  have p2 := Pm_two m c
  have x0 : (2 : Int) <= 2 ^ (2 + (31 * m + 2) * c) := by
   have := two_mono (show 1 <= 2 + (31 * m + 2) * c by omega)
   exact this
  have ofClm : (∀ r ∈ k.rs, (clm b (ownOf b) r).parts <= Pm m c /\ (clm b (ownOf b) r).deep <= 2 + m * c /\ (clm b (ownOf b) r).Ok (2 ^ (2 + (31 * m + 2) * c))) -> Bnd m c (ownOf b k.n) := fun h => by
   refine ⟨ne, ?_, ?_, ?_⟩ <;> rw [eq] <;> rcases List.mem_cons.mp (Lad.maxL_mem (k.rs.map (clm b (ownOf b))) Lad.uno) with e | e
   ·rw [e]; show 1 <= _; omega
   ·obtain ⟨r, hr, e⟩ := List.mem_map.mp e
    rw [<- e]; exact (h r hr).1
   ·rw [e]; show 1 <= _; omega
   ·obtain ⟨r, hr, e⟩ := List.mem_map.mp e
    rw [<- e]; exact (h r hr).2.1
   ·rw [e]; exact Lad.uno_ok.mono x0
   ·obtain ⟨r, hr, e⟩ := List.mem_map.mp e
    rw [<- e]; exact (h r hr).2.2
  cases c with
  | zero =>
   have h0 : adj b k.n = [] := by
    cases ha : adj b k.n with
    | nil => rfl
    | cons y ys =>
     have := cntR_lt ok he (k := y) (by rw [ha]; exact mcs ..)
     omega
   refine ofClm fun r hr => ?_
   obtain ⟨n1, n2⟩ := nm r hr
   rw [h0] at n1 n2
   have nil_of : ∀ g : Gr, Gr.Named [] g -> g = .nil := fun g h => by
    cases g with
    | nil => rfl
    | cons k g m r => exact absurd (h ((k, g), m) (mcs ..)) (by simp)
   have e : r = (.nil, .nil) := Prod.ext (nil_of _ n1) (nil_of _ n2)
   rw [e, clm_no]
   exact ⟨by show 1 <= 2; decide, by show 1 <= _; omega, Lad.uno_ok.mono x0⟩
  | succ c =>
   have hch : ∀ n ∈ adj b k.n, Bnd m c (ownOf b n) := fun n hn => by
    have hlt := cntR_lt ok he hn
    obtain ⟨kd, eg⟩ := Bk.get_of (adj_names ok hn)
    obtain ⟨hkd, rfl⟩ := Bk.get_some eg
    exact own_bndE ok hm c kd hkd (he.next hn) (by omega)
   refine ofClm fun r hr => ?_
   obtain ⟨n1, n2⟩ := nm r hr
   obtain ⟨o1, o2, hs⟩ := hm k hk he r hr
   obtain ⟨c1, c2, c3, _⟩ := clm_bnd (b := b) (ρ := ownOf b) (P := Pm m c) (D := 2 + m * c) (x := 2 + (31 * m + 2) * c) (fun n hn => ⟨(hch n hn).parts, (hch n hn).deep⟩) (fun n hn => (hch n hn).ok) n1 n2 o1 o2 hs (by omega)
   refine ⟨c1, by rw [Nat.mul_succ]; omega, ?_⟩
   have : 2 + (31 * m + 2) * (c + 1) = 2 + (31 * m + 2) * c + 31 * m + 2 := by rw [Nat.mul_succ]; omega
   rw [this]; exact c3
theorem own_goodE {b : Bk} (ok : b.Ok) {m : Nat} (hm : ∀ k ∈ b, EndK b k.n -> ∀ r ∈ k.rs, r.1.Ok (2 ^ 29) /\ r.2.Ok (2 ^ 29) /\ r.1.parts + r.2.parts <= m) (hP : m * Pm m (b.length - 1) <= 390) (hD : 2 + m * (b.length - 1) + m <= 24) (hX : 2 + (31 * m + 2) * (b.length - 1) + 31 * m <= 2000) : OwnR b (ownOf b) /\ ∀ n ∈ b.names, EndK b n -> Bnd m (b.length - 1) (ownOf b n) := by
 have hb : ∀ n ∈ b.names, EndK b n -> Bnd m (b.length - 1) (ownOf b n) := fun n hn he => by
  obtain ⟨kd, eg⟩ := Bk.get_of hn
  obtain ⟨hkd, rfl⟩ := Bk.get_some eg
  have := cntR_top he hn
  exact own_bndE ok hm _ kd hkd he (by omega)
 have hch : ∀ k ∈ b, EndK b k.n -> ∀ n ∈ adj b k.n, Bnd m (b.length - 1) (ownOf b n) := fun k hk he n hn => hb n (adj_names ok hn) (he.next hn)
 have p2 := Pm_two m (b.length - 1)
 refine ⟨⟨fun k hk he => ownOf_eq ok hk he, fun k hk he ns hns r hr => ?_, fun k hk he r hr => ?_⟩, hb⟩
 ·have hadj := adj_self ok hk
  have n1 : Gr.Named (adj b k.n) r.1 := fun x hx => by rw [hadj]; exact ledR_within hr (mal _ hx)
  have n2 : Gr.Named (adj b k.n) r.2 := fun x hx => by rw [hadj]; exact ledR_within hr (mar _ hx)
  obtain ⟨o1, o2, hs⟩ := hm k hk he r hr
  have hc := hch k hk he
  obtain ⟨_, _, _, d1, d2, q1, q2⟩ := clm_bnd (b := b) (ρ := ownOf b) (P := Pm m (b.length - 1)) (D := 2 + m * (b.length - 1)) (x := 2 + (31 * m + 2) * (b.length - 1)) (fun n hn => ⟨(hc n hn).parts, (hc n hn).deep⟩) (fun n hn => (hc n hn).ok) n1 n2 o1 o2 hs (by omega)
  have w1 := within_deep r.1
  have w2 := within_deep r.2
  have hP1 : Pm m (b.length - 1) * r.1.parts <= 390 := Nat.le_trans (Nat.mul_le_mul_left _ (show r.1.parts <= m by omega)) (by rw [Nat.mul_comm]; exact hP)
  have hP2 : Pm m (b.length - 1) * r.2.parts <= 390 := Nat.le_trans (Nat.mul_le_mul_left _ (show r.2.parts <= m by omega)) (by rw [Nat.mul_comm]; exact hP)
  have hk' : ∀ n ∈ adj b k.n, n ∈ b.names /\ ownOf b n ≠ .nil /\ (ownOf b n).parts <= Pm m (b.length - 1) /\ (ownOf b n).deep <= 2 + m * (b.length - 1) /\ (ownOf b n).Ok (2 ^ (2 + (31 * m + 2) * (b.length - 1))) := fun n hn => ⟨adj_names ok hn, (hc n hn).ne, (hc n hn).parts, (hc n hn).deep, (hc n hn).ok⟩
  exact ⟨(Gr.rk_fit hk' (by omega) n1 o1 hP1 (by omega) (by omega)).mono hns, (Gr.rk_fit hk' (by omega) n2 o2 hP2 (by omega) (by omega)).mono hns, by omega, by omega, by omega, by omega⟩
 ·have hadj := adj_self ok hk
  have n1 : Gr.Named (adj b k.n) r.1 := fun x hx => by rw [hadj]; exact ledR_within hr (mal _ hx)
  have n2 : Gr.Named (adj b k.n) r.2 := fun x hx => by rw [hadj]; exact ledR_within hr (mar _ hx)
  obtain ⟨o1, o2, hs⟩ := hm k hk he r hr
  have hc := hch k hk he
  obtain ⟨_, d0, _⟩ := clm_bnd (b := b) (ρ := ownOf b) (P := Pm m (b.length - 1)) (D := 2 + m * (b.length - 1)) (x := 2 + (31 * m + 2) * (b.length - 1)) (fun n hn => ⟨(hc n hn).parts, (hc n hn).deep⟩) (fun n hn => (hc n hn).ok) n1 n2 o1 o2 hs (by omega)
  omega
theorem Own40.ofE {b : Bk} (ok : b.Ok) (hl : b.length <= 5) (hm : ∀ k ∈ b, EndK b k.n -> ∀ r ∈ k.rs, r.1.parts + r.2.parts <= if b.length > 3 then 2 else 3) (ru : ∀ k ∈ b, ∀ r ∈ k.rs, r.1.Ok (2 ^ 29) /\ r.2.Ok (2 ^ 29)) : Own40 b (ownOf b) 62 := by
 have b1 := ok.pos
 by_cases h3 : b.length > 3
 ·have hm' : ∀ k ∈ b, EndK b k.n -> ∀ r ∈ k.rs, r.1.Ok (2 ^ 29) /\ r.2.Ok (2 ^ 29) /\ r.1.parts + r.2.parts <= 2 := fun k hk he r hr => by
   have := hm k hk he r hr
   rw [if_pos h3] at this
   exact ⟨(ru k hk r hr).1, (ru k hk r hr).2, this⟩
  have hb : b.length = 4 \/ b.length = 5 := by omega
  obtain ⟨o1, o2⟩ := own_goodE ok hm' (by rcases hb with e | e <;> rw [e] <;> decide) (by rcases hb with e | e <;> rw [e] <;> decide) (by rcases hb with e | e <;> rw [e] <;> decide)
  refine ⟨o1, ⟨2 + (31 * 2 + 2) * (b.length - 1), 2 + 2 * (b.length - 1), by omega, by omega, fun n hn he => ⟨(o2 n hn he).ne, Nat.le_trans (o2 n hn he).parts ?_, (o2 n hn he).deep, (o2 n hn he).ok⟩⟩, ru⟩
  rcases hb with e | e <;> rw [e] <;> decide
 ·have hm' : ∀ k ∈ b, EndK b k.n -> ∀ r ∈ k.rs, r.1.Ok (2 ^ 29) /\ r.2.Ok (2 ^ 29) /\ r.1.parts + r.2.parts <= 3 := fun k hk he r hr => by
   have := hm k hk he r hr
   rw [if_neg h3] at this
   exact ⟨(ru k hk r hr).1, (ru k hk r hr).2, this⟩
  have hb : b.length = 1 \/ b.length = 2 \/ b.length = 3 := by omega
  obtain ⟨o1, o2⟩ := own_goodE ok hm' (by rcases hb with e | e | e <;> rw [e] <;> decide) (by rcases hb with e | e | e <;> rw [e] <;> decide) (by rcases hb with e | e | e <;> rw [e] <;> decide)
  refine ⟨o1, ⟨2 + (31 * 3 + 2) * (b.length - 1), 2 + 3 * (b.length - 1), by omega, by omega, fun n hn he => ⟨(o2 n hn he).ne, Nat.le_trans (o2 n hn he).parts ?_, (o2 n hn he).deep, (o2 n hn he).ok⟩⟩, ru⟩
  rcases hb with e | e | e <;> rw [e] <;> decide
section
variable {K : PySem.W.Frag} {H : Hp} {bad : List Addr} {v : V} {k : Kd}
theorem KdAll.set (hv : KdA K H bad v k) : ∀ {vs : List V} {b : Bk} (i : Nat), KdAll K H bad vs b -> KdAll K H bad (vs.set i v) (b.set i k)
 | _, _, _, .nil => .nil
 | _, _, 0, .cons _ t => .cons hv t
 | _, _, i + 1, .cons h t => .cons h (KdAll.set hv i t)
end
theorem names_set : ∀ {b : Bk} {i : Nat} {k k' : Kd}, b[i]? = some k -> k'.n = k.n -> Bk.names (b.set i k') = b.names
 | [], _, _, _, h, _ => by simp at h
 | x :: r, 0, k, k', h, e => by
  have : x = k := by simpa using h
  simp [Bk.names, e, this]
 | x :: r, i + 1, k, k', h, e => by
  have h2 : r[i]? = some k := by simpa using h
  have := names_set (b := r) h2 e
  simpa [Bk.names] using this
theorem ring_mem {b : Bk} {i : Nat} {k' x : Kd} (h : x ∈ b.set i k') : x ∈ b \/ x = k' := List.mem_or_eq_of_mem_set h
structure LeastOut (P : Str -> Prop) (g : Gr) (n : Str) : Prop where
 mem : n ∈ g.within.map (·.1.1)
 out : P n
 low : ∀ m ∈ g.within.map (·.1.1), P m -> ¬ m.cps.toList < n.cps.toList
def spCheckKX (K : PySem.W.Frag) (C N : Addr) : Sp := fun vs H Q E => ∃ (v w : V) (b : Bk) (g : Gr) (ns : List Str), vs = [v, w] /\ BkA K C H v b /\ GA K H w g /\ b.length <= 60 /\ g.deep <= 68 /\ g.parts <= 3000 /\ Gr.Named ns g /\ ns.length <= 60 /\ (Gr.Named b.names g -> ∀ H', SB [] H H' -> Q .non H') /\
 ∀ n, LeastOut (fun m => m ∉ b.names) g n -> ∀ (d : Addr) (H' : Hp), SB [] H H' -> H d = none -> H' d = some (.xd [("kind", .str n)]) -> E (.ref N) (some d) H'
def spChkEX (K : PySem.W.Frag) (C N EE : Addr) : Sp := fun vs H Q E => ∃ (v w : V) (b : Bk) (g : Gr), vs = [v, w] /\ BkA K C H v b /\ b.Ok /\ GA K H w g /\ g.deep <= 68 /\ g.parts <= 3000 /\ Gr.Named b.names g /\ ((∀ x ∈ g.within, EndK b x.1.1) -> ∀ H', SB [] H H' -> Q .non H') /\
 ∀ n, LeastOut (fun m => ¬ EndK b m) g n -> ∀ (d : Addr) (H' : Hp), SB [] H H' -> H d = none -> H' d = some (.xd [("kind", .str n)]) -> E (.ref EE) (some d) H'
theorem sorted_drop {ss : List Str} (h : sortedS ss = true) : ∀ (i : Nat), sortedS (ss.drop i) = true
 | 0 => h
 | i + 1 => by
  have ih := sorted_drop h i
  cases e : ss.drop i with
  | nil => rw [List.drop_eq_nil_iff] at e; rw [List.drop_eq_nil_iff.mpr (by omega)]; rfl
  | cons x r =>
   rw [e] at ih
   have : ss.drop (i + 1) = r := by rw [<- List.drop_drop, e]; rfl
   rw [this]; exact sortedS_tail ih
theorem LeastOut.at {P : Str -> Prop} {g : Gr} {ss : List Str} (so : SrtOf ss (g.within.map (·.1.1))) {i : Nat} {n : Str} (en : ss[i]? = some n) (hp : P n) (hb : ∀ m ∈ ss.take i, ¬ P m) : LeastOut P g n := ⟨(so.mem n).mp (List.mem_of_getElem? en), hp, fun m hm hP => by
 have hm := (so.mem m).mpr hm
 rw [<- List.take_append_drop i ss] at hm
 rcases List.mem_append.mp hm with z | z
 ·exact absurd hP (hb m z)
 ·obtain ⟨hi, e⟩ := List.getElem?_eq_some_iff.mp en
  have hd := sorted_drop so.srt i
  rw [List.drop_eq_getElem_cons hi, e] at z hd
  rcases List.mem_cons.mp z with z | z
  ·rw [z]; exact List.lt_irrefl _
  ·exact rising_all hd m z⟩
instance strOrd : Orderly PyData.str where
 al a b := by simp [alike]
 eq a b := by simp [PyData.eqv, Gr.sb]
theorem cps_one {a b : Str} (h1 : ¬ a.cps.toList < b.cps.toList) (h2 : ¬ b.cps.toList < a.cps.toList) : a = b := by
 have e1 : dataLt (.str a) (.str b) = false := by rw [dataLt_str]; exact decide_eq_false h1
 have e2 : dataLt (.str b) (.str a) = false := by rw [dataLt_str]; exact decide_eq_false h2
 exact Classical.byContradiction fun z => by
  have := ol_tri (enc := PyData.str) z e1
  rw [e2] at this; cases this
theorem LeastOut.one {P : Str -> Prop} {g : Gr} {n m : Str} (h1 : LeastOut P g n) (h2 : LeastOut P g m) : n = m := cps_one (h2.low n h1.mem h1.out) (h1.low m h2.mem h2.out)
theorem LeastOut.not {b : Bk} {g : Gr} {n : Str} (h : LeastOut (fun m => m ∉ b.names) g n) (hn : Gr.Named b.names g) : False := by
 obtain ⟨x, hx, e⟩ := List.mem_map.mp h.mem
 exact h.out (e ▸ hn x hx)
end FT
namespace L2
open PySem PySem.Spec PyProof.Rows
def goneD (i : Nat) (D : Ends) : Ends := { nx := fun σ' H' => D.nx (σ'.set i none) H', rt := D.rt, bk := fun σ' H' => D.bk (σ'.set i none) H', ct := fun σ' H' => D.ct (σ'.set i none) H' }
def wManyN (K : PySem.W.Frag) (Wout : WX) (D : Ends) : List (Value × Option Nat × (Addr -> Value -> Option Addr -> TS)) -> WX
 | [] => Wout
 | (c, none, ts) :: r => fun cls d σ H => ∃ b, PySem.W.exmOne K cls c = some b /\ (b = true -> ∀ a, H a = none -> ts a cls d D σ H) /\ (b = false -> wManyN K Wout D r cls d σ H)
 | (c, some i, ts) :: r => fun cls d σ H => ∃ b, PySem.W.exmOne K cls c = some b /\ (b = true -> ∀ a, H a = none -> ts a cls d (goneD i D) (σ.set i (some (.ref a))) H) /\ (b = false -> wManyN K Wout D r cls d σ H)
inductive HdsN (X : Cx) : List ExceptHandler -> List (Value × Option Nat × (Addr -> Value -> Option Addr -> TS)) -> Prop
 | nil : HdsN X [] []
 | plain {x : Str} {c : Value} {ts : Addr -> Value -> Option Addr -> TS} {b₀ : Stmt} {suite : List Stmt} {np pos' : Pos} {hds : List ExceptHandler} {l : List (Value × Option Nat × (Addr -> Value -> Option Addr -> TS))} (hc : Names X x c)
   (hsu : ∀ (a : Addr) (oe : Obj) (cls : Value) (d : Option Addr) (pn : List (Addr × Obj)), Zc cls d oe -> (∃ vs, oe.data = .fields vs) -> PSs (X.suite a ((a, oe) :: pn)) (b₀ :: suite) (ts a cls d)) (r : HdsN X hds l) :
   HdsN X (.ExceptHandler (some (.Name x np)) none (b₀ :: suite) pos' :: hds) ((c, none, ts) :: l)
 | named {x n : Str} {c : Value} {i : Nat} {ts : Addr -> Value -> Option Addr -> TS} {b₀ : Stmt} {suite : List Stmt} {np pos' : Pos} {hds : List ExceptHandler} {l : List (Value × Option Nat × (Addr -> Value -> Option Addr -> TS))} (hi : X.N[i]? = some n) (hln : X.env.kindOf n = some .local) (hc : Names X x c)
   (hsu : ∀ (a : Addr) (oe : Obj) (cls : Value) (d : Option Addr) (pn : List (Addr × Obj)), Zc cls d oe -> (∃ vs, oe.data = .fields vs) -> PSs (X.suite a ((a, oe) :: pn)) (b₀ :: suite) (ts a cls d)) (r : HdsN X hds l) :
   HdsN X (.ExceptHandler (some (.Name x np)) (some n) (b₀ :: suite) pos' :: hds) ((c, some i, ts) :: l)
section
variable {X : Cx} {body : List Stmt} {h₀ : ExceptHandler} {hds : List ExceptHandler} {l : List (Value × Option Nat × (Addr -> Value -> Option Addr -> TS))} {pos : Pos} {tb : WX -> TS} {Wout : WX}
theorem ps_try_manyN (hs : X.stack = X.env :: X.outer) (hf : X.env.frame = some X.env.locals) (hN : X.N.Nodup) (tk : Takes X Wout)
  (hb : ∀ (W : WX) (pn : List (Addr × Obj)) (xe : Value -> Shared -> Prop), Takes (X.tr pn xe) W -> PassesOwn (model X.prog X.w) X.A X.env xe -> PSs (X.tr pn xe) body (tb W))
  (hh : HdsN X (h₀ :: hds) l) : PS X (.Try body (h₀ :: hds) [] [] pos) (fun D σ H => tb (wManyN X.K Wout D l) D σ H) := by
 refine ⟨fun pins s σ H D I h => ?_⟩
 have ok := I.ok
 have hfr : X.A.frames = some (X.env :: X.outer) := by rw [ok.frames, hs]
 refine wpAny_Try_except ?_
 refine wpAny_mono ((hb (wManyN X.K Wout D l) (X.pn ++ pins) (fun e s₁ => wpAny (model X.prog X.w) X.A (noteFrame e X.env) (fun _ s₂ => wpAny (model X.prog X.w) X.A (setFlight e none) (fun _ s₃ =>
  wpAny (model X.prog X.w) X.A (handleBy e X.env (h₀ :: hds)) (SP X pins D) X.xe s₃) X.xe s₂) X.xe s₁) (fun u s' xx => ?_) PassesOwn.looking).run [] s σ H D (I.toTry _) h) (fun f s1 hsp => ?_) (fun e s1 he => he)
 ·-- the catch
  obtain ⟨a, B, sI, pins', σ', H', cls, d, rfl, J', nb, up, sky, na, os, ag, w⟩ := xx
  have J : Inv X pins σ' H' sI := J'.ofTry ok
  have sky' : Sky B (X.env :: X.outer) a (Zc cls d) X.env.locals s'.heap := by rw [<- hs]; exact sky
  show wpAny (model X.prog X.w) X.A (noteFrame (.ref a) X.env) _ _ _
  refine Sky.land Zc.steady hfr hf sky' fun h3 fl3 up3 => ?_
  have J3 : Inv X pins σ' H' { s' with heap := h3 } := J.landed nb fl3.1 (up.trans up3) os ag
  obtain ⟨oe3, vs3, he3, hz3, hd3⟩ := fl3.there
  have notFr : ∀ {h : Heap} {o : Obj} {vs : Array Value}, h.FunFrames B (X.env :: X.outer) -> h.get? a = some o -> o.data = .fields vs -> a ∉ frs (X.env :: X.outer) := fun {h o vs} ff e dd hm => by
   obtain ⟨_, o', e', hnf⟩ := ff.mem hm
   rw [e] at e'; cases e'
   exact hnf _ dd
  have nfr := notFr fl3.2.2.1 he3 hd3
  have nL : a ≠ X.env.locals := fun z => nfr (List.mem_filterMap.mpr ⟨X.env, FT.mcs, by rw [hf, z]⟩)
  have nF : a ∉ X.fs := fun hm => by
   obtain ⟨e, he, q⟩ := List.mem_filterMap.mp hm
   exact nfr (List.mem_filterMap.mpr ⟨e, FT.mcm _ he, q⟩)
  have S3 := J3.suite he3 hd3 na nL nF
  have go : ∀ {hds' : List ExceptHandler} {l' : List (Value × Option Nat × (Addr -> Value -> Option Addr -> TS))}, HdsN X hds' l' -> wManyN X.K Wout D l' cls d σ' H' ->
    wpAny (model X.prog X.w) X.A (handleBy (.ref a) X.env hds') (SP X pins D) X.xe { s' with heap := h3 } := by
   intro hds' l' hk
   induction hk with
   | nil =>
    intro w
    refine wpAny_handleBy_nil ?_
    obtain ⟨k1, k2, k3, oe, vs, T, oT, ts', he, hz, hd, h1, hr⟩ := id fl3
    unfold PySem.passOn
    refine wpAny_bind (wpAny_field he hd h1 ?_)
    rw [if_neg (show ¬ ((Value.ref T == Value.none) = true) from by simp)]
    have fin : wpAny (model X.prog X.w) X.A (setFlight (.ref a) X.env.frame) (fun _ s4 => wpAny (model X.prog X.w) X.A (throw (.ref a) : Sem Flow) (SP X pins D) X.xe s4) X.xe { s' with heap := h3 } := by
     rw [hf]
     refine HandSPX.setFlight_upZ fl3 fun h4 hh4 up4 => wpAny_throw (tk _ _ ?_)
     exact ⟨a, B, sI, pins, σ', H', cls, d, rfl, J, nb, (up.trans up3).trans up4, .inr (.inr (by rw [hs]; exact hh4)), na, os, ag, w⟩
    first
     | exact wpAny_bind (wpAny_pure (wpAny_bind fin))
     | exact wpAny_bind fin
   | @plain x c ts b₀ suite np pos' hds2 l2 hc hsu r ih =>
    intro w
    obtain ⟨b, hb1, hyes, hno⟩ := w
    refine wpAny_handleBy_cons (codeAny_handlers_test ?_) (by intro q; cases q)
    have LT : PySem.W.Looks (model X.prog X.w) h3 (typeOf (.ref a)) cls := fun A Q E s k q => wpAny_typeOf_ref (k _ _ he3) (by rw [hz3.1]; exact q)
    have LM := PySem.W.exm_one (M := model X.prog X.w) (J3.kIn) LT hb1
    have test : ∀ {Q : Value -> Shared -> Prop} {E : Value -> Shared -> Prop}, Q c { s' with heap := h3 } -> wpAny (model X.prog X.w) (X.A.mark (some (.ref a))) (eval (.Name x np) X.env) Q E { s' with heap := h3 } := fun {Q E} q => by
     obtain ⟨hg, hdbg, hm | ⟨hm, hv, hnn⟩⟩ := hc
     ·exact ld_glob (X := X.suite a ((a, oe3) :: (X.pn ++ pins))) S3 hg hm q hdbg
     ·exact ld_blt (X := X.suite a ((a, oe3) :: (X.pn ++ pins))) S3 hg hm hv q hnn hdbg
    refine test (LM.here ?_)
    cases b with
    | true =>
     refine codeAny_handlers_suite ?_
     refine HandSPX.lands_againZ fl3 fun h4 fl4 up4 => ?_
     have J4 : Inv X pins σ' H' { s' with heap := h4 } := J.landed nb fl4.1 ((up.trans up3).trans up4) os ag
     obtain ⟨oe4, vs4, he4, hz4, hd4⟩ := fl4.there
     have S4 := J4.suite he4 hd4 na nL nF
     refine wpAny_mono ((hsu a oe4 cls d (X.pn ++ pins) hz4 ⟨_, hd4⟩).run [] _ _ H' _ S4 (hyes rfl a na)) (fun f s6 hsp => ?_) (fun _ _ z => False.elim z)
     cases f with
     | next =>
      obtain ⟨σ6, H6, S6, q6⟩ := hsp
      exact ⟨_, _, S6.unsuite ok, q6⟩
     | brk =>
      obtain ⟨σ6, H6, S6, q6⟩ := hsp
      exact ⟨_, _, S6.unsuite ok, q6⟩
     | cont =>
      obtain ⟨σ6, H6, S6, q6⟩ := hsp
      exact ⟨_, _, S6.unsuite ok, q6⟩
     | ret u =>
      obtain ⟨v6, σ6, H6, S6, r6, q6⟩ := hsp
      exact ⟨_, _, _, S6.unsuite ok, r6, q6⟩
    | false =>
     show wpAny _ X.A (handleBy (.ref a) X.env hds2) _ _ _
     exact ih (hno rfl)
   | @named x n c i ts b₀ suite np pos' hds2 l2 hi hln hc hsu r ih =>
    intro w
    obtain ⟨b, hb1, hyes, hno⟩ := w
    refine wpAny_handleBy_cons (codeAny_handlers_test ?_) (by intro q; cases q)
    have LT : PySem.W.Looks (model X.prog X.w) h3 (typeOf (.ref a)) cls := fun A Q E s k q => wpAny_typeOf_ref (k _ _ he3) (by rw [hz3.1]; exact q)
    have LM := PySem.W.exm_one (M := model X.prog X.w) (J3.kIn) LT hb1
    have test : ∀ {Q : Value -> Shared -> Prop} {E : Value -> Shared -> Prop}, Q c { s' with heap := h3 } -> wpAny (model X.prog X.w) (X.A.mark (some (.ref a))) (eval (.Name x np) X.env) Q E { s' with heap := h3 } := fun {Q E} q => by
     obtain ⟨hg, hdbg, hm | ⟨hm, hv, hnn⟩⟩ := hc
     ·exact ld_glob (X := X.suite a ((a, oe3) :: (X.pn ++ pins))) S3 hg hm q hdbg
     ·exact ld_blt (X := X.suite a ((a, oe3) :: (X.pn ++ pins))) S3 hg hm hv q hnn hdbg
    refine test (LM.here ?_)
    cases b with
    | true =>
     have hloc : Loc X.env.scope n := .inl hln
     refine codeAny_handlers_suite_as ?_
     refine HandSPX.lands_againZ fl3 fun h4 fl4 up4 => ?_
     have J4 : Inv X pins σ' H' { s' with heap := h4 } := J.landed nb fl4.1 ((up.trans up3).trans up4) os ag
     obtain ⟨oe4, vs4, he4, hz4, hd4⟩ := fl4.there
     have S4 := J4.suite he4 hd4 na nL nF
     refine store_ok (X := X.suite a ((a, oe4) :: (X.pn ++ pins))) (v := .ref a) S4 hN hi hloc rfl (fun s5 S5 => ?_) (.inr hln)
     refine wpAny_mono ((hsu a oe4 cls d (X.pn ++ pins) hz4 ⟨_, hd4⟩).run [] s5 _ H' _ S5 (hyes rfl a na)) (fun f s6 hsp => ?_) (fun _ _ z => False.elim z)
     have end_ : ∀ {σ6 : St} {H6 : Hp} {Q : Shared -> Prop}, Inv (X.suite a ((a, oe4) :: (X.pn ++ pins))) [] σ6 H6 s6 -> (∀ s7, Inv X pins (σ6.set i none) H6 s7 -> Q s7) ->
       wpAny (model X.prog X.w) X.A (do bindName X.env n .none; unbindBehindTheSuite X.env n pos') (fun _ s7 => Q s7) X.xe s6 := fun {σ6 H6 Q} S6 hq => gone_ok (S6.unsuite ok) hN hi hln hq
     cases f with
     | next =>
      obtain ⟨σ6, H6, S6, q6⟩ := hsp
      exact end_ S6 fun s7 J7 => ⟨_, _, J7, q6⟩
     | brk =>
      obtain ⟨σ6, H6, S6, q6⟩ := hsp
      exact end_ S6 fun s7 J7 => ⟨_, _, J7, q6⟩
     | cont =>
      obtain ⟨σ6, H6, S6, q6⟩ := hsp
      exact end_ S6 fun s7 J7 => ⟨_, _, J7, q6⟩
     | ret u =>
      obtain ⟨v6, σ6, H6, S6, r6, q6⟩ := hsp
      exact end_ S6 fun s7 J7 => ⟨_, _, _, J7, r6, q6⟩
    | false =>
     show wpAny _ X.A (handleBy (.ref a) X.env hds2) _ _ _
     exact ih (hno rfl)
  exact go hh w
 ·cases f with
  | next =>
   obtain ⟨σ', H', J', q⟩ := hsp
   exact wpAny_execs_nil ⟨σ', H', J'.ofTry ok, q⟩
  | brk =>
   obtain ⟨σ', H', J', q⟩ := hsp
   exact ⟨σ', H', J'.ofTry ok, q⟩
  | cont =>
   obtain ⟨σ', H', J', q⟩ := hsp
   exact ⟨σ', H', J'.ofTry ok, q⟩
  | ret u =>
   obtain ⟨v, σ', H', J', r, q⟩ := hsp
   exact ⟨v, σ', H', J'.ofTry ok, r, q⟩
end
end L2
namespace FT
open PySem PySem.W PySem.Spec PyProof.Rows L2
inductive Ho where
 | kind (n : Str)
 | endl (n : Str)
 | fine
theorem LeastOut.notE {b : Bk} {g : Gr} {n : Str} (h : LeastOut (fun m => ¬ EndK b m) g n) (hn : ∀ x ∈ g.within, EndK b x.1.1) : False := by
 obtain ⟨x, hx, e⟩ := List.mem_map.mp h.mem
 exact h.out (e ▸ hn x hx)
def HoX (NK EE : Addr) (H : Hp) (E : XK) (P : Prop) : Ho -> Prop
 | .kind n => ∀ (d : Addr) (H' : Hp), SB [] H H' -> H d = none -> H' d = some (.xd [("kind", .str n)]) -> E (.ref NK) (some d) H'
 | .endl n => ∀ (d : Addr) (H' : Hp), SB [] H H' -> H d = none -> H' d = some (.xd [("kind", .str n)]) -> E (.ref EE) (some d) H'
 | .fine => P
inductive Du67 (ends : Bool) (b : Bk) (g : Gr) : Ho -> Prop
 | k {n : Str} : LeastOut (fun m => m ∉ b.names) g n -> Du67 ends b g (.kind n)
 | e {n : Str} : ends = true -> Gr.Named b.names g -> LeastOut (fun m => ¬ EndK b m) g n -> Du67 ends b g (.endl n)
 | f : Gr.Named b.names g -> (ends = true -> ∀ x ∈ g.within, EndK b x.1.1) -> Du67 ends b g .fine
theorem nm_ps {g : Gr} {y : Str} : y ∈ g.within.map (·.1.1) ↔ ∃ p ∈ g.ps, y = p.1.1 \/ y ∈ p.1.2.within.map (·.1.1) := by
 rw [Gr.within_ps]
 simp only [List.mem_map, List.mem_flatMap, List.mem_cons]
 constructor
 ·rintro ⟨x, ⟨p, hp, rfl | hx⟩, rfl⟩
  ·exact ⟨_, hp, .inl rfl⟩
  ·exact ⟨p, hp, .inr ⟨x, hx, rfl⟩⟩
 ·rintro ⟨p, hp, rfl | ⟨x, hx, rfl⟩⟩
  ·exact ⟨p, ⟨p, hp, .inl rfl⟩, rfl⟩
  ·exact ⟨x, ⟨p, hp, .inr hx⟩, rfl⟩
theorem one_ga {K : PySem.W.Frag} {H : Hp} {a1 a2 a3 : Addr} {v : V} {n : Str} {m : Int} {g : Gr} (A1 : SqT K H a1 [.str n, v]) (A2 : SqT K H a2 [.ref a1, .int m]) (A3 : SqT K H a3 [.ref a2]) (h : GA K H v g) : GA K H (.ref a3) (.cons n g m .nil) :=
 .tup A3 (.cons (.tup A2 (.cons (.tup A1 (.cons (.str _) (.cons h .nil))) (.cons (.int _) .nil))) .nil)
theorem pss_dead {X : Cx} {l : List Stmt} : PSs X l (fun _ _ _ => False) := ⟨fun _ _ _ _ _ _ h => h.elim⟩
structure As42 (K : PySem.W.Frag) (C : Addr) (H : Hp) (v w : V) (b : Bk) (g : Gr) : Prop where
 bk : BkA K C H v b
 ok : b.Ok
 ga : GA K H w g
 deep : g.deep <= 60
 parts : g.parts <= 900
 nm : ∃ ns : List Str, Gr.Named ns g /\ ns.length <= 60
theorem As42.sb0 {K : PySem.W.Frag} {C : Addr} {H H' : Hp} {v w : V} {b : Bk} {g : Gr} (h : As42 K C H v w b g) (s : SB [] H H') : As42 K C H' v w b g := ⟨h.bk.sb0 s, h.ok, h.ga.sb s, h.deep, h.parts, h.nm⟩
def spRank42 (K : PySem.W.Frag) (C NK EE : Addr) : Sp := fun vs H Q E => ∃ (v w : V) (b : Bk) (g : Gr) (o : Ho), vs = [v, w] /\ As42 K C H v w b g /\ OwnR b (ownOf b) /\ Du67 true b g o /\ (o = .fine -> g = .nil) /\ HoX NK EE H E (∀ (x : V) (H' : Hp), SB [] H H' -> LA K H' x .nil -> Q x H') o
def spTab42 (K : PySem.W.Frag) (C NK EE : Addr) : Sp := fun vs H _ E => ∃ (v w : V) (b : Bk) (g : Gr) (o : Ho), vs = [v, w] /\ As42 K C H v w b g /\ Du67 true b g o /\ HoX NK EE H E False o
def spIsT42 (K : PySem.W.Frag) (C NK : Addr) : Sp := fun vs H _ E => ∃ (v w z : V) (b : Bk) (g : Gr) (n : Str), vs = [v, w, z] /\ As42 K C H v w b g /\ LeastOut (fun m => m ∉ b.names) g n /\ HoX NK NK H E False (.kind n)
def spWor42 (K : PySem.W.Frag) (C NK : Addr) : Sp := fun vs H _ E => ∃ (v w z : V) (b : Bk) (g : Gr) (n : Str), vs = [v, z, w] /\ As42 K C H v w b g /\ LeastOut (fun m => m ∉ b.names) g n /\ HoX NK NK H E False (.kind n)
def spOwn42 (K : PySem.W.Frag) (C NK EE : Addr) : Sp := fun vs H _ E => ∃ (v : V) (b : Bk) (n : Str) (o : Ho), vs = [v, .str n] /\ BkA K C H v b /\ b.Ok /\ OwnR b (ownOf b) /\ ((n ∉ b.names /\ o = .kind n) \/ (n ∈ b.names /\ ¬ EndK b n /\ o = .endl n)) /\ HoX NK EE H E False o
theorem HoX.any {NK EE : Addr} {H : Hp} {E : XK} {P : Prop} {o : Ho} (h : HoX NK EE H E False o) : HoX NK EE H E P o := by
 cases o with
 | kind n => exact h
 | endl n => exact h
 | fine => exact h.elim
inductive Tn42 (b : Bk) (g : Gr) : Int -> Ho -> Prop
 | rank {o : Ho} : Du67 true b g o -> o ≠ .fine -> Tn42 b g 0 o
 | tab {o : Ho} : Du67 true b g o -> o ≠ .fine -> Tn42 b g 1 o
 | ist {n : Str} : LeastOut (fun m => m ∉ b.names) g n -> Tn42 b g 2 (.kind n)
 | wor {n : Str} : LeastOut (fun m => m ∉ b.names) g n -> Tn42 b g 3 (.kind n)
 | own {n : Str} {o : Ho} {m : Int} : g = .cons n .nil m .nil -> ((n ∉ b.names /\ o = .kind n) \/ (n ∈ b.names /\ ¬ EndK b n /\ o = .endl n)) -> Tn42 b g 4 o
def spAsk42 (K : PySem.W.Frag) (C NK EE : Addr) : Sp := fun vs H _ E => ∃ (i : Int) (v z w : V) (b : Bk) (g : Gr) (o : Ho), vs = [.int i, v, z, w] /\ As42 K C H v w b g /\ OwnR b (ownOf b) /\ Tn42 b g i o /\ HoX NK EE H E False o
def spAlone42 (K : PySem.W.Frag) (c : Str -> Addr) (caught : List Str) : Addr -> Obj -> Sp := fun a oe vs H Q _ => ∃ (n wd : Str) (d : Option Addr), vs = [.ref a, .str wd] /\ Zc (.ref (c n)) d oe /\ (∃ fs, oe.data = .fields fs) /\ ((n = "NoKind" /\ wd = "kind") \/ (n = "Endless" /\ wd = "endless")) /\ n ∈ caught /\ ExD H d /\ ∀ H', SB [] H H' -> Q (.bl true) H'
def spRefd42 (K : PySem.W.Frag) (C : Addr) : Sp := fun vs H Q _ => ∃ (i : Int) (v z w : V) (b : Bk) (g : Gr) (o : Ho) (wd n : Str), vs = [.int i, v, z, w, .str wd, .str n] /\ As42 K C H v w b g /\ OwnR b (ownOf b) /\ Tn42 b g i o /\ ((o = .kind n /\ wd = "kind") \/ (o = .endl n /\ wd = "endless")) /\ NameOk n /\ ∀ H', SB [] H H' -> Q (.bl true) H'
def rgR (n : Str) (g : Gr) (m : Int) (fr : Bool) : Ru := cond fr (.cons n g m .nil, .nil) (.nil, .cons n g m .nil)
def rgK (k : Kd) (g : Gr) (m : Int) (fr : Bool) : Kd := ⟨k.n, k.w, k.rs.take 3 ++ [rgR k.n g m fr]⟩
theorem rg_within (n : Str) (g : Gr) (m : Int) (fr : Bool) : Ru.within (rgR n g m fr) = ((n, g), m) :: g.within := by cases fr <;> simp [rgR, Ru.within, Gr.within]
structure Bk42 (ks : List Str) (b : Bk) : Prop where
 ok : b.Ok
 pm : ks.Perm b.names
 ow : OwnR b (ownOf b)
 ring : ∃ n ∈ b.names, ¬ EndK b n
theorem ring42 {b : Bk} (ok : b.Ok) {ks : List Str} {rd : Bool} (h : Kinds40 ks rd b) (hl : ks.length <= 4) {i : Nat} {k : Kd} (hk : b[i]? = some k) {g : Gr} {m : Int} (hg : g.Ok 19) (hp : g.parts <= 2) (hn : Gr.Named ks g) (m1 : 1 <= m) (m3 : m <= 3) (fr : Bool) : Bk42 ks (b.set i (rgK k g m fr)) := by
 have km := List.mem_of_getElem? hk
 have en : Bk.names (b.set i (rgK k g m fr)) = b.names := names_set hk rfl
 have nmk := (ok.kd k km).1
 obtain ⟨ilt, _⟩ := List.getElem?_eq_some_iff.mp hk
 have gi : (b.set i (rgK k g m fr))[i]? = some (rgK k g m fr) := by rw [List.getElem?_set_self (by exact ilt)]
 have bl : b.length = ks.length := by have := h.names.length_eq; rwa [List.length_map] at this
 have ro : (rgR k.n g m fr).1.Ok 19 /\ (rgR k.n g m fr).2.Ok 19 := by
  have h1 : (Gr.cons k.n g m .nil).Ok 19 := ⟨nmk, hg, m1, by omega, trivial, fun p hp => nomatch hp⟩
  cases fr
  ·exact ⟨trivial, h1⟩
  ·exact ⟨h1, trivial⟩
 have rp : (rgR k.n g m fr).1.parts + (rgR k.n g m fr).2.parts <= 3 := by
  cases fr
  ·show 0 + (1 + g.parts + 0) <= 3; omega
  ·show (1 + g.parts + 0) + 0 <= 3; omega
 have rules : ∀ r ∈ (rgK k g m fr).rs, r ∈ k.rs \/ r = rgR k.n g m fr := fun r hr => by
  rcases List.mem_append.mp hr with e | e
  ·exact .inl (List.mem_of_mem_take e)
  ·exact .inr (List.mem_singleton.mp e)
 have ok2 : Bk.Ok (b.set i (rgK k g m fr)) := by
  refine ⟨by rw [List.length_set]; exact ok.pos, by rw [List.length_set]; exact ok.len, by rw [en]; exact ok.nd, fun x hx => ?_⟩
  rw [en]
  rcases ring_mem hx with e | e
  ·exact ok.kd x e
  ·rw [e]
   refine ⟨nmk, ?_, fun r hr => ?_⟩
   ·show (k.rs.take 3 ++ [rgR k.n g m fr]).length <= 4
    rw [List.length_append, List.length_take]; simp; omega
   ·rcases rules r hr with e | e
    ·exact (ok.kd k km).2.2 r e
    ·rw [e]
     refine ⟨⟨ro.1.mono (by decide), ro.2.mono (by decide), by omega⟩, fun p hp => ?_⟩
     rw [rg_within] at hp
     rcases List.mem_cons.mp hp with e | e
     ·rw [e]; exact List.mem_map.mpr ⟨k, km, rfl⟩
     ·exact h.names.mem_iff.mpr (hn p e)
 have ru : ∀ x ∈ b.set i (rgK k g m fr), ∀ r ∈ x.rs, r.1.Ok (2 ^ 29) /\ r.2.Ok (2 ^ 29) := fun x hx r hr => by
  have old : ∀ y ∈ b, ∀ r ∈ y.rs, r.1.Ok (2 ^ 29) /\ r.2.Ok (2 ^ 29) := fun y hy r hr => ⟨(h.nums y hy r hr).1.mono (by decide), (h.nums y hy r hr).2.mono (by decide)⟩
  rcases ring_mem hx with e | e
  ·exact old x e r hr
  ·rw [e] at hr
   rcases rules r hr with e | e
   ·exact old k km r e
   ·rw [e]; exact ⟨ro.1.mono (by decide), ro.2.mono (by decide)⟩
 have mem : rgK k g m fr ∈ b.set i (rgK k g m fr) := List.mem_of_getElem? gi
 have no : ¬ EndK (b.set i (rgK k g m fr)) k.n := fun he => he.noring (.one (by
  show k.n ∈ adj (b.set i (rgK k g m fr)) (rgK k g m fr).n
  rw [adj_self ok2 mem]
  refine ledR_within (r := rgR k.n g m fr) (mar _ (List.mem_singleton.mpr rfl)) (x := ((k.n, g), m)) ?_
  rw [rg_within]; exact mcs ..))
 refine ⟨ok2, by rw [en]; exact h.names.symm, (Own40.ofE ok2 (by rw [List.length_set]; omega) (fun x hx he r hr => ?_) ru).own, k.n, by rw [en]; exact List.mem_map_of_mem km, no⟩
 rw [List.length_set, bl]
 rcases ring_mem hx with e | e
 ·exact h.size x e r hr
 ·rw [e] at he
  exact (no he).elim
def spRnd42 (K : PySem.W.Frag) : Sp := fun vs H Q _ => ∃ (p nl : Addr) (ks : List Str), vs = [.ref p, .ref nl] /\ Dr H p /\ (H nl = some (.lst (ks.map V.str)) /\ nl ≠ p /\ 1 <= ks.length /\ ks.length <= 4 /\ (∀ k ∈ ks, NameOk k) /\ ks.Nodup) /\ ∀ (l : Addr) (xs : List V) (b : Bk) (H' : Hp), SB [p] H H' -> Dr H' p -> H l = none -> H' l = some (.lst xs) -> KdAll K H' [p] xs b -> Bk42 ks b -> Q (.ref l) H'
structure St42 (ds : List Str) (x : Tr × Int) : Prop where
 nm : x.1.1 ∈ ds
 ok : x.1.2.Ok 2
 parts : x.1.2.parts <= 1
 deep : x.1.2.deep <= 1
 within : Gr.Named ds x.1.2
 lo : 1 <= x.2
 hi : x.2 <= 3
def spStr42 (K : PySem.W.Frag) : Sp := fun vs H Q _ => ∃ (p el : Addr) (es : List Str) (m : Nat), vs = [.ref p, .ref el, .int (m : Int)] /\ Dr H p /\ H el = some (.lst (es.map V.str)) /\ el ≠ p /\ es.length = m + 2 /\ (∀ n ∈ es, NameOk n) /\ ∀ (v : V) (x : Tr × Int) (H' : Hp), SB [p] H H' -> Dr H' p -> Dp K H' v (Gr.pEnc x) -> St42 (es.drop m) x -> Q v H'
theorem putK_len (kvs : List (Key × V)) (k : Key) (v : V) : (putK kvs k v).length <= kvs.length + 1 := by
 unfold putK
 split
 ·rw [List.length_map]; omega
 ·rw [List.length_append]; exact Nat.le_refl _
structure Gr42 (ks : List Str) (sm : Str) (x : Tr × Int) : Prop where
 nm : x.1.1 ∈ ks
 wn : Gr.Named ks x.1.2
 has : sm = x.1.1 \/ sm ∈ x.1.2.within.map (·.1.1)
 parts : x.1.2.parts <= 5
def one42 (x : Tr × Int) : Gr := .cons x.1.1 x.1.2 x.2 .nil
theorem one42_named {ks : List Str} {x : Tr × Int} (h1 : x.1.1 ∈ ks) (h2 : Gr.Named ks x.1.2) : Gr.Named ks (one42 x) := Gr.named_iff.mpr fun p hp => by
 have hp : p ∈ [x] := hp
 rw [List.mem_singleton.mp hp]; exact ⟨h1, h2⟩
theorem one42_nm {x : Tr × Int} {n : Str} : n ∈ (one42 x).within.map (·.1.1) ↔ n = x.1.1 \/ n ∈ x.1.2.within.map (·.1.1) := by
 rw [nm_ps]
 constructor
 ·rintro ⟨p, hp, h⟩
  have hp : p ∈ [x] := hp
  rw [List.mem_singleton.mp hp] at h; exact h
 ·intro h
  exact ⟨x, List.mem_singleton.mpr rfl, h⟩
theorem one42_parts (x : Tr × Int) : (one42 x).parts = 1 + x.1.2.parts := by show 1 + x.1.2.parts + 0 = _; omega
theorem least_sorted {P : Str -> Prop} {g : Gr} {ys fl : List Str} (pm : ys.Perm fl) (srt : sortedS ys = true) (h : ∀ x, x ∈ fl ↔ x ∈ g.within.map (·.1.1) /\ P x) {n : Str} {r : List Str} (e : ys = n :: r) : LeastOut P g n := by
 have hn := (h n).mp (pm.mem_iff.mp (by rw [e]; exact mcs ..))
 refine ⟨hn.1, hn.2, fun x hx hP => ?_⟩
 have hm := pm.mem_iff.mpr ((h x).mpr ⟨hx, hP⟩)
 rw [e] at hm srt
 rcases List.mem_cons.mp hm with z | z
 ·rw [z]; exact List.lt_irrefl _
 ·exact rising_all srt x z
theorem As42.one {K : PySem.W.Frag} {C : Addr} {H : Hp} {v w : V} {b : Bk} {x : Tr × Int} {ns : List Str} (bk : BkA K C H v b) (ok : b.Ok) (ga : GA K H w (one42 x)) (hp : x.1.2.parts <= 40) (h1 : x.1.1 ∈ ns) (h2 : Gr.Named ns x.1.2) (nl : ns.length <= 60) : As42 K C H v w b (one42 x) := by
 have hq := one42_parts x
 have hd := within_deep (one42 x)
 exact ⟨bk, ok, ga, by omega, by omega, ns, one42_named h1 h2, nl⟩
structure Wh42 (ks ds : List Str) (st : Str) (g : Gr) : Prop where
 parts : g.parts <= 15
 nm : Gr.Named (ks ++ ds) g
 has : st ∈ g.within.map (·.1.1)
theorem Named_more {ns ms : List Str} {g : Gr} (h : Gr.Named ns g) (hs : ∀ x ∈ ns, x ∈ ms) : Gr.Named ms g := fun x hx => hs _ (h x hx)
theorem two42 {ks ds : List Str} {sm : Str} {x y : Tr × Int} (X : Gr42 ks sm x) (Y : St42 ds y) {bs : List (Tr × Int)} (pm : bs.Perm [x, y]) : Wh42 ks ds y.1.1 (Gr.ofPs bs) := by
 have px := X.parts
 have py := Y.parts
 refine ⟨?_, Gr.named_iff.mpr fun p hp => ?_, nm_ps.mpr ⟨y, by rw [Gr.ps_ofPs]; exact pm.mem_iff.mpr (by simp), .inl rfl⟩⟩
 ·rw [Gr.parts_ofPs]
  have tp : ∀ {as cs : List (Tr × Int)}, as.Perm cs -> Gr.tot as = Gr.tot cs := fun h => by
   induction h with
   | nil => rfl
   | cons a _ ih => show 1 + a.1.2.parts + Gr.tot _ = 1 + a.1.2.parts + Gr.tot _; rw [ih]
   | swap a c l => show 1 + c.1.2.parts + (1 + a.1.2.parts + Gr.tot l) = 1 + a.1.2.parts + (1 + c.1.2.parts + Gr.tot l); omega
   | trans _ _ h1 h2 => rw [h1, h2]
  rw [tp pm]
  show 1 + x.1.2.parts + (1 + y.1.2.parts + 0) <= 15
  omega
 ·rw [Gr.ps_ofPs] at hp
  have hp := pm.mem_iff.mp hp
  rcases List.mem_cons.mp hp with e | e
  ·rw [e]; exact ⟨mal _ X.nm, Named_more X.wn fun z hz => mal _ hz⟩
  ·rw [List.mem_singleton.mp e]; exact ⟨mar _ Y.nm, Named_more Y.within fun z hz => mar _ hz⟩
theorem in42 {ks ds : List Str} {sm : Str} {y : Tr × Int} (Y : St42 ds y) (hs : sm ∈ ks) (k : Int) : Wh42 ks ds y.1.1 (one42 ((sm, one42 y), k)) := by
 have py := Y.parts
 have ym := one42_parts y
 have zm := one42_parts ((sm, one42 y), k)
 refine ⟨by rw [zm, ym]; omega, one42_named (mal _ hs) (one42_named (mar _ Y.nm) (Named_more Y.within fun z hz => mar _ hz)), one42_nm.mpr (.inr (one42_nm.mpr (.inl rfl)))⟩
def top (i : Nat) : Stmt := PySem.Challenge.pw_felltimber_k42_no_ranks.main.body.getD i (.Pass ⟨0, 0, 0, 0⟩)
abbrev s_is_whole : Stmt := top 3
abbrev s_is_many : Stmt := top 4
abbrev s_is_name : Stmt := top 5
abbrev s_is_rising : Stmt := top 6
abbrev s_joined : Stmt := top 7
abbrev s_many_at : Stmt := top 8
abbrev s_run_of : Stmt := top 9
abbrev s_is_tree : Stmt := top 21
abbrev s_is_grove : Stmt := top 22
abbrev s_are_grove_pairs : Stmt := top 23
abbrev s_pairs_within : Stmt := top 24
abbrev s_kinds_within : Stmt := top 25
abbrev s_rules_from_nought : Stmt := top 33
abbrev s_check_kind : Stmt := top 34
abbrev s_check_kinds : Stmt := top 35
abbrev s_are_kinds : Stmt := top 36
abbrev s_is_kind : Stmt := top 37
abbrev s_is_rule : Stmt := top 38
abbrev s_is_rule_of : Stmt := top 39
abbrev s_is_ladder : Stmt := top 41
abbrev s_is_ladder_pair : Stmt := top 42
abbrev s_number : Stmt := top 43
abbrev s_is_less : Stmt := top 44
abbrev s_behind : Stmt := top 46
abbrev s_both : Stmt := top 47
abbrev s_all_together : Stmt := top 48
abbrev s_many_of : Stmt := top 49
abbrev s_power : Stmt := top 51
abbrev s_above : Stmt := top 52
abbrev s_spread : Stmt := top 53
abbrev s_tree_at : Stmt := top 55
abbrev s_all_places : Stmt := top 56
abbrev s_steps_of : Stmt := top 58
abbrev s_steps_in : Stmt := top 59
abbrev s_leads : Stmt := top 60
abbrev s_ending_kinds : Stmt := top 61
abbrev s_lead_into : Stmt := top 62
abbrev s_endless_kinds : Stmt := top 63
abbrev s_check_ends : Stmt := top 64
abbrev s_own_rank : Stmt := top 66
abbrev s_rank : Stmt := top 67
abbrev s_own_ranks : Stmt := top 68
abbrev s_climb : Stmt := top 69
abbrev s_reckoned : Stmt := top 70
abbrev s_reckoned_tree : Stmt := top 71
abbrev s_laden : Stmt := top 72
abbrev s_show_grove : Stmt := top 74
abbrev s_show_pair : Stmt := top 75
abbrev s_show_tree : Stmt := top 76
abbrev s_table : Stmt := top 79
abbrev s_add_trees : Stmt := top 80
abbrev s_add_kind : Stmt := top 81
abbrev s_is_table : Stmt := top 82
abbrev s_takes : Stmt := top 83
abbrev s_is_row : Stmt := top 84
abbrev s_takes_kind : Stmt := top 85
abbrev s_takes_tree : Stmt := top 86
abbrev s_is_last : Stmt := top 87
abbrev s_is_same : Stmt := top 88
abbrev s_worth : Stmt := top 90
abbrev s_check_worths : Stmt := top 91
abbrev s__law_draws : Stmt := top 93
abbrev s__law_next : Stmt := top 94
abbrev s__law_names : Stmt := top 95
abbrev s__law_many : Stmt := top 96
abbrev s__law_grove : Stmt := top 97
abbrev s__law_kinds : Stmt := top 98
abbrev s__law_book : Stmt := top 99
abbrev s__law_in : Stmt := top 100
abbrev s__law_endless : Stmt := top 101
abbrev s__law_asked : Stmt := top 102
abbrev s__law_alone : Stmt := top 103
abbrev s__law_refused : Stmt := top 104
abbrev s__law_rounds : Stmt := top 105
abbrev s__law_strange : Stmt := top 106
abbrev s_law : Stmt := top 107
abbrev s_NoKind___init__ : Stmt := inClass (top 15) 0
abbrev s_Endless___init__ : Stmt := inClass (top 18) 0
abbrev s_Book___init__ : Stmt := inClass (top 32) 0
abbrev s_Book_names : Stmt := inClass (top 32) 1
abbrev s_Book_spreads : Stmt := inClass (top 32) 2
abbrev s_Book_rules : Stmt := inClass (top 32) 3
abbrev s_Known___init__ : Stmt := inClass (top 78) 0
abbrev s_Known_has_trees : Stmt := inClass (top 78) 1
abbrev s_Known_of_grove : Stmt := inClass (top 78) 2
abbrev s_Known_of_tree : Stmt := inClass (top 78) 3
abbrev s_Known_of_rules : Stmt := inClass (top 78) 4
abbrev eC : List Str := ["NoKind", "Endless"]
abbrev eN : List Str := ["NoGrove", "NoPlace", "NoBook", "NoKind", "NoRule", "NoNumber", "Endless", "NoWorths"]
abbrev eK : List Str := ["NoKind", "Endless"]
def d_is_whole : He.DefD := ⟨("is_whole", none), "is_whole", "is_whole", defArgs s_is_whole, defBody s_is_whole, defScope s_is_whole, [], []⟩
def d_is_many : He.DefD := ⟨("is_many", none), "is_many", "is_many", defArgs s_is_many, defBody s_is_many, defScope s_is_many, [], []⟩
def d_is_name : He.DefD := ⟨("is_name", none), "is_name", "is_name", defArgs s_is_name, defBody s_is_name, defScope s_is_name, [], []⟩
def d_is_rising : He.DefD := ⟨("is_rising", none), "is_rising", "is_rising", defArgs s_is_rising, defBody s_is_rising, defScope s_is_rising, [], []⟩
def d_joined : He.DefD := ⟨("joined", none), "joined", "joined", defArgs s_joined, defBody s_joined, defScope s_joined, [], []⟩
def d_many_at : He.DefD := ⟨("many_at", none), "many_at", "many_at", defArgs s_many_at, defBody s_many_at, defScope s_many_at, [], []⟩
def d_run_of : He.DefD := ⟨("run_of", none), "run_of", "run_of", defArgs s_run_of, defBody s_run_of, defScope s_run_of, [], []⟩
def d_is_tree : He.DefD := ⟨("is_tree", none), "is_tree", "is_tree", defArgs s_is_tree, defBody s_is_tree, defScope s_is_tree, [], []⟩
def d_is_grove : He.DefD := ⟨("is_grove", none), "is_grove", "is_grove", defArgs s_is_grove, defBody s_is_grove, defScope s_is_grove, [], []⟩
def d_are_grove_pairs : He.DefD := ⟨("are_grove_pairs", none), "are_grove_pairs", "are_grove_pairs", defArgs s_are_grove_pairs, defBody s_are_grove_pairs, defScope s_are_grove_pairs, [], []⟩
def d_pairs_within : He.DefD := ⟨("pairs_within", none), "pairs_within", "pairs_within", defArgs s_pairs_within, defBody s_pairs_within, defScope s_pairs_within, [], []⟩
def d_kinds_within : He.DefD := ⟨("kinds_within", none), "kinds_within", "kinds_within", defArgs s_kinds_within, defBody s_kinds_within, defScope s_kinds_within, [], []⟩
def d_rules_from_nought : He.DefD := ⟨("rules_from_nought", none), "rules_from_nought", "rules_from_nought", defArgs s_rules_from_nought, defBody s_rules_from_nought, defScope s_rules_from_nought, [], []⟩
def d_check_kind : He.DefD := ⟨("check_kind", none), "check_kind", "check_kind", defArgs s_check_kind, defBody s_check_kind, defScope s_check_kind, [], []⟩
def d_check_kinds : He.DefD := ⟨("check_kinds", none), "check_kinds", "check_kinds", defArgs s_check_kinds, defBody s_check_kinds, defScope s_check_kinds, [], []⟩
def d_are_kinds : He.DefD := ⟨("are_kinds", none), "are_kinds", "are_kinds", defArgs s_are_kinds, defBody s_are_kinds, defScope s_are_kinds, [], []⟩
def d_is_kind : He.DefD := ⟨("is_kind", none), "is_kind", "is_kind", defArgs s_is_kind, defBody s_is_kind, defScope s_is_kind, [], []⟩
def d_is_rule : He.DefD := ⟨("is_rule", none), "is_rule", "is_rule", defArgs s_is_rule, defBody s_is_rule, defScope s_is_rule, [], []⟩
def d_is_rule_of : He.DefD := ⟨("is_rule_of", none), "is_rule_of", "is_rule_of", defArgs s_is_rule_of, defBody s_is_rule_of, defScope s_is_rule_of, [], []⟩
def d_is_ladder : He.DefD := ⟨("is_ladder", none), "is_ladder", "is_ladder", defArgs s_is_ladder, defBody s_is_ladder, defScope s_is_ladder, [], []⟩
def d_is_ladder_pair : He.DefD := ⟨("is_ladder_pair", none), "is_ladder_pair", "is_ladder_pair", defArgs s_is_ladder_pair, defBody s_is_ladder_pair, defScope s_is_ladder_pair, [], []⟩
def d_number : He.DefD := ⟨("number", none), "number", "number", defArgs s_number, defBody s_number, defScope s_number, [], []⟩
def d_is_less : He.DefD := ⟨("is_less", none), "is_less", "is_less", defArgs s_is_less, defBody s_is_less, defScope s_is_less, [], []⟩
def d_behind : He.DefD := ⟨("behind", none), "behind", "behind", defArgs s_behind, defBody s_behind, defScope s_behind, [], []⟩
def d_both : He.DefD := ⟨("both", none), "both", "both", defArgs s_both, defBody s_both, defScope s_both, [], []⟩
def d_all_together : He.DefD := ⟨("all_together", none), "all_together", "all_together", defArgs s_all_together, defBody s_all_together, defScope s_all_together, [], []⟩
def d_many_of : He.DefD := ⟨("many_of", none), "many_of", "many_of", defArgs s_many_of, defBody s_many_of, defScope s_many_of, [], []⟩
def d_power : He.DefD := ⟨("power", none), "power", "power", defArgs s_power, defBody s_power, defScope s_power, [], []⟩
def d_above : He.DefD := ⟨("above", none), "above", "above", defArgs s_above, defBody s_above, defScope s_above, [], []⟩
def d_spread : He.DefD := ⟨("spread", none), "spread", "spread", defArgs s_spread, defBody s_spread, defScope s_spread, [], []⟩
def d_tree_at : He.DefD := ⟨("tree_at", none), "tree_at", "tree_at", defArgs s_tree_at, defBody s_tree_at, defScope s_tree_at, [], []⟩
def d_all_places : He.DefD := ⟨("all_places", none), "all_places", "all_places", defArgs s_all_places, defBody s_all_places, defScope s_all_places, [], []⟩
def d_steps_of : He.DefD := ⟨("steps_of", none), "steps_of", "steps_of", defArgs s_steps_of, defBody s_steps_of, defScope s_steps_of, [], []⟩
def d_steps_in : He.DefD := ⟨("steps_in", none), "steps_in", "steps_in", defArgs s_steps_in, defBody s_steps_in, defScope s_steps_in, [], []⟩
def d_leads : He.DefD := ⟨("leads", none), "leads", "leads", defArgs s_leads, defBody s_leads, defScope s_leads, [], []⟩
def d_ending_kinds : He.DefD := ⟨("ending_kinds", none), "ending_kinds", "ending_kinds", defArgs s_ending_kinds, defBody s_ending_kinds, defScope s_ending_kinds, [], []⟩
def d_lead_into : He.DefD := ⟨("lead_into", none), "lead_into", "lead_into", defArgs s_lead_into, defBody s_lead_into, defScope s_lead_into, [], []⟩
def d_endless_kinds : He.DefD := ⟨("endless_kinds", none), "endless_kinds", "endless_kinds", defArgs s_endless_kinds, defBody s_endless_kinds, defScope s_endless_kinds, [], []⟩
def d_check_ends : He.DefD := ⟨("check_ends", none), "check_ends", "check_ends", defArgs s_check_ends, defBody s_check_ends, defScope s_check_ends, [], []⟩
def d_own_rank : He.DefD := ⟨("own_rank", none), "own_rank", "own_rank", defArgs s_own_rank, defBody s_own_rank, defScope s_own_rank, [], []⟩
def d_rank : He.DefD := ⟨("rank", none), "rank", "rank", defArgs s_rank, defBody s_rank, defScope s_rank, [], []⟩
def d_own_ranks : He.DefD := ⟨("own_ranks", none), "own_ranks", "own_ranks", defArgs s_own_ranks, defBody s_own_ranks, defScope s_own_ranks, [], []⟩
def d_climb : He.DefD := ⟨("climb", none), "climb", "climb", defArgs s_climb, defBody s_climb, defScope s_climb, [], []⟩
def d_reckoned : He.DefD := ⟨("reckoned", none), "reckoned", "reckoned", defArgs s_reckoned, defBody s_reckoned, defScope s_reckoned, [], []⟩
def d_reckoned_tree : He.DefD := ⟨("reckoned_tree", none), "reckoned_tree", "reckoned_tree", defArgs s_reckoned_tree, defBody s_reckoned_tree, defScope s_reckoned_tree, [], []⟩
def d_laden : He.DefD := ⟨("laden", none), "laden", "laden", defArgs s_laden, defBody s_laden, defScope s_laden, [], []⟩
def d_show_grove : He.DefD := ⟨("show_grove", none), "show_grove", "show_grove", defArgs s_show_grove, defBody s_show_grove, defScope s_show_grove, [], []⟩
def d_show_pair : He.DefD := ⟨("show_pair", none), "show_pair", "show_pair", defArgs s_show_pair, defBody s_show_pair, defScope s_show_pair, [], []⟩
def d_show_tree : He.DefD := ⟨("show_tree", none), "show_tree", "show_tree", defArgs s_show_tree, defBody s_show_tree, defScope s_show_tree, [], []⟩
def d_table : He.DefD := ⟨("table", none), "table", "table", defArgs s_table, defBody s_table, defScope s_table, [], []⟩
def d_add_trees : He.DefD := ⟨("add_trees", none), "add_trees", "add_trees", defArgs s_add_trees, defBody s_add_trees, defScope s_add_trees, [], []⟩
def d_add_kind : He.DefD := ⟨("add_kind", none), "add_kind", "add_kind", defArgs s_add_kind, defBody s_add_kind, defScope s_add_kind, [], []⟩
def d_is_table : He.DefD := ⟨("is_table", none), "is_table", "is_table", defArgs s_is_table, defBody s_is_table, defScope s_is_table, [], []⟩
def d_takes : He.DefD := ⟨("takes", none), "takes", "takes", defArgs s_takes, defBody s_takes, defScope s_takes, [], []⟩
def d_is_row : He.DefD := ⟨("is_row", none), "is_row", "is_row", defArgs s_is_row, defBody s_is_row, defScope s_is_row, [], []⟩
def d_takes_kind : He.DefD := ⟨("takes_kind", none), "takes_kind", "takes_kind", defArgs s_takes_kind, defBody s_takes_kind, defScope s_takes_kind, [], []⟩
def d_takes_tree : He.DefD := ⟨("takes_tree", none), "takes_tree", "takes_tree", defArgs s_takes_tree, defBody s_takes_tree, defScope s_takes_tree, [], []⟩
def d_is_last : He.DefD := ⟨("is_last", none), "is_last", "is_last", defArgs s_is_last, defBody s_is_last, defScope s_is_last, [], []⟩
def d_is_same : He.DefD := ⟨("is_same", none), "is_same", "is_same", defArgs s_is_same, defBody s_is_same, defScope s_is_same, [], []⟩
def d_worth : He.DefD := ⟨("worth", none), "worth", "worth", defArgs s_worth, defBody s_worth, defScope s_worth, [], []⟩
def d_check_worths : He.DefD := ⟨("check_worths", none), "check_worths", "check_worths", defArgs s_check_worths, defBody s_check_worths, defScope s_check_worths, [], []⟩
def d__law_draws : He.DefD := ⟨("_law_draws", none), "_law_draws", "_law_draws", defArgs s__law_draws, defBody s__law_draws, defScope s__law_draws, [], []⟩
def d__law_next : He.DefD := ⟨("_law_next", none), "_law_next", "_law_next", defArgs s__law_next, defBody s__law_next, defScope s__law_next, [], []⟩
def d__law_names : He.DefD := ⟨("_law_names", none), "_law_names", "_law_names", defArgs s__law_names, defBody s__law_names, defScope s__law_names, [], []⟩
def d__law_many : He.DefD := ⟨("_law_many", none), "_law_many", "_law_many", defArgs s__law_many, defBody s__law_many, defScope s__law_many, [], []⟩
def d__law_grove : He.DefD := ⟨("_law_grove", none), "_law_grove", "_law_grove", defArgs s__law_grove, defBody s__law_grove, defScope s__law_grove, [], []⟩
def d__law_kinds : He.DefD := ⟨("_law_kinds", none), "_law_kinds", "_law_kinds", defArgs s__law_kinds, defBody s__law_kinds, defScope s__law_kinds, [], []⟩
def d__law_book : He.DefD := ⟨("_law_book", none), "_law_book", "_law_book", defArgs s__law_book, defBody s__law_book, defScope s__law_book, [], []⟩
def d__law_in : He.DefD := ⟨("_law_in", none), "_law_in", "_law_in", defArgs s__law_in, defBody s__law_in, defScope s__law_in, [], []⟩
def d__law_endless : He.DefD := ⟨("_law_endless", none), "_law_endless", "_law_endless", defArgs s__law_endless, defBody s__law_endless, defScope s__law_endless, [], []⟩
def d__law_asked : He.DefD := ⟨("_law_asked", none), "_law_asked", "_law_asked", defArgs s__law_asked, defBody s__law_asked, defScope s__law_asked, [], []⟩
def d__law_alone : He.DefD := ⟨("_law_alone", none), "_law_alone", "_law_alone", defArgs s__law_alone, defBody s__law_alone, defScope s__law_alone, [], []⟩
def d__law_refused : He.DefD := ⟨("_law_refused", none), "_law_refused", "_law_refused", defArgs s__law_refused, defBody s__law_refused, defScope s__law_refused, [], []⟩
def d__law_rounds : He.DefD := ⟨("_law_rounds", none), "_law_rounds", "_law_rounds", defArgs s__law_rounds, defBody s__law_rounds, defScope s__law_rounds, [], []⟩
def d__law_strange : He.DefD := ⟨("_law_strange", none), "_law_strange", "_law_strange", defArgs s__law_strange, defBody s__law_strange, defScope s__law_strange, [], []⟩
def d_law : He.DefD := ⟨("law", none), "law", "law", defArgs s_law, defBody s_law, defScope s_law, [], []⟩
def d_NoKind___init__ : He.DefD := ⟨("NoKind", some "__init__"), "__init__", "NoKind.__init__", defArgs s_NoKind___init__, defBody s_NoKind___init__, defScope s_NoKind___init__, [], []⟩
def d_Endless___init__ : He.DefD := ⟨("Endless", some "__init__"), "__init__", "Endless.__init__", defArgs s_Endless___init__, defBody s_Endless___init__, defScope s_Endless___init__, [], []⟩
def d_Book___init__ : He.DefD := ⟨("Book", some "__init__"), "__init__", "Book.__init__", defArgs s_Book___init__, defBody s_Book___init__, defScope s_Book___init__, [], []⟩
def d_Book_names : He.DefD := ⟨("Book", some "names"), "names", "Book.names", defArgs s_Book_names, defBody s_Book_names, defScope s_Book_names, [], []⟩
def d_Book_spreads : He.DefD := ⟨("Book", some "spreads"), "spreads", "Book.spreads", defArgs s_Book_spreads, defBody s_Book_spreads, defScope s_Book_spreads, [], []⟩
def d_Book_rules : He.DefD := ⟨("Book", some "rules"), "rules", "Book.rules", defArgs s_Book_rules, defBody s_Book_rules, defScope s_Book_rules, [], []⟩
def d_Known___init__ : He.DefD := ⟨("Known", some "__init__"), "__init__", "Known.__init__", defArgs s_Known___init__, defBody s_Known___init__, defScope s_Known___init__, [], []⟩
def d_Known_has_trees : He.DefD := ⟨("Known", some "has_trees"), "has_trees", "Known.has_trees", defArgs s_Known_has_trees, defBody s_Known_has_trees, defScope s_Known_has_trees, [], []⟩
def d_Known_of_grove : He.DefD := ⟨("Known", some "of_grove"), "of_grove", "Known.of_grove", defArgs s_Known_of_grove, defBody s_Known_of_grove, defScope s_Known_of_grove, [], []⟩
def d_Known_of_tree : He.DefD := ⟨("Known", some "of_tree"), "of_tree", "Known.of_tree", defArgs s_Known_of_tree, defBody s_Known_of_tree, defScope s_Known_of_tree, [], []⟩
def d_Known_of_rules : He.DefD := ⟨("Known", some "of_rules"), "of_rules", "Known.of_rules", defArgs s_Known_of_rules, defBody s_Known_of_rules, defScope s_Known_of_rules, [], []⟩
def fn : List He.DefD := [d_is_whole, d_is_many, d_is_name, d_is_rising, d_joined, d_many_at, d_run_of, d_is_tree, d_is_grove, d_are_grove_pairs, d_pairs_within, d_kinds_within, d_rules_from_nought, d_check_kind, d_check_kinds, d_are_kinds, d_is_kind, d_is_rule, d_is_rule_of, d_is_ladder, d_is_ladder_pair, d_number, d_is_less, d_behind, d_both, d_all_together, d_many_of, d_power, d_above, d_spread, d_tree_at, d_all_places, d_steps_of, d_steps_in, d_leads, d_ending_kinds, d_lead_into, d_endless_kinds, d_check_ends, d_own_rank, d_rank, d_own_ranks, d_climb, d_reckoned, d_reckoned_tree, d_laden, d_show_grove, d_show_pair, d_show_tree, d_table, d_add_trees, d_add_kind, d_is_table, d_takes, d_is_row, d_takes_kind, d_takes_tree, d_is_last, d_is_same, d_worth, d_check_worths, d__law_draws, d__law_next, d__law_names, d__law_many, d__law_grove, d__law_kinds, d__law_book, d__law_in, d__law_endless, d__law_asked, d__law_alone, d__law_refused, d__law_rounds, d__law_strange, d_law, d_NoKind___init__, d_Endless___init__, d_Book___init__, d_Book_names, d_Book_spreads, d_Book_rules, d_Known___init__, d_Known_has_trees, d_Known_of_grove, d_Known_of_tree, d_Known_of_rules]
def fa1 : List He.Fa := [.glo "is_whole", .glo "is_many", .glo "is_name", .glo "is_rising", .glo "joined", .glo "many_at", .glo "run_of", .glo "is_tree", .glo "is_grove", .glo "are_grove_pairs", .glo "pairs_within", .glo "kinds_within", .glo "rules_from_nought", .glo "check_kind", .glo "check_kinds", .glo "are_kinds", .glo "is_kind", .glo "is_rule", .glo "is_rule_of", .glo "is_ladder", .glo "is_ladder_pair", .glo "number", .glo "is_less", .glo "behind", .glo "both", .glo "all_together", .glo "many_of", .glo "power", .glo "above", .glo "spread", .glo "tree_at", .glo "all_places", .glo "steps_of", .glo "steps_in", .glo "leads", .glo "ending_kinds", .glo "lead_into", .glo "endless_kinds", .glo "check_ends", .glo "own_rank", .glo "rank", .glo "own_ranks", .glo "climb", .glo "reckoned", .glo "reckoned_tree", .glo "laden", .glo "show_grove", .glo "show_pair", .glo "show_tree", .glo "table", .glo "add_trees", .glo "add_kind", .glo "is_table", .glo "takes", .glo "is_row", .glo "takes_kind", .glo "takes_tree", .glo "is_last", .glo "is_same", .glo "worth", .glo "check_worths", .glo "_law_draws", .glo "_law_next", .glo "_law_names", .glo "_law_many", .glo "_law_grove", .glo "_law_kinds", .glo "_law_book", .glo "_law_in", .glo "_law_endless"]
def fa2 : List He.Fa := [.glo "_law_asked", .glo "_law_alone", .glo "_law_refused", .glo "_law_rounds", .glo "_law_strange", .glo "law", .free "len", .free "isinstance", .free "int", .free "bool", .free "str", .free "tuple", .free "list", .free "all", .free "zip", .free "sum", .free "max", .free "range", .free "enumerate", .free "abs", .free "sorted", .free "min", .free "reversed", .free "any", .free "set", .free "dict", .free "repr", .glo "FellError", .free "ValueError", .glo "NoGrove", .glo "NoPlace", .glo "NoBook", .glo "NoKind", .glo "NoRule", .glo "NoNumber", .glo "Endless", .glo "NoWorths", .noat "NoKind" "kind", .noat "Endless" "kind", .str "LETTERS" "abcdefghijklmnopqrstuvwxyz", .int "LONGEST_NAME" (8), .int "MOST_KINDS" (8), .int "MOST_RULES" (4), .int "MOST_RULE_PARTS" (4), .int "MOST_MANY" (1000000000), .glo "NO_GROVES", .exc "NoBook", .exc "NoPlace", .exc "NoWorths", .meth "NoKind" "__init__", .meth "Endless" "__init__", .glo "Book", .cls "Book", .noat "Book" "spread_by_name", .noat "Book" "rows_by_name", .mkr "Book", .meth "Book" "names", .meth "Book" "spreads", .meth "Book" "rules", .glo "Known", .cls "Known", .noat "Known" "book", .noat "Known" "by_kind", .noat "Known" "by_tree", .mkr "Known", .meth "Known" "has_trees", .meth "Known" "of_grove", .meth "Known" "of_tree", .meth "Known" "of_rules"]
def fa : List He.Fa := fa1 ++ fa2
def exOk (K : PySem.W.Frag) : Bool := oexCB K (He.ga K "NoKind") && (oexCB K (He.ga K "Endless") && (no2B K (He.ga K "NO_GROVES") && (ermB K (He.ga K) eC eN)))
abbrev R : PySem.W.OpenRow := PySem.W.OpenLaw.row PySem.Challenge.rw_felltimber_k42_no_ranks
def as0 : List Addr := [3, 6, 4, 21, 28, 35, 40, 47, 52, 59, 69, 82, 94, 106, 125, 137, 149, 168, 180, 189, 194, 201, 208, 213, 216, 252, 263, 270, 277, 282, 287, 292, 297, 302, 309, 316, 323, 328, 335, 340, 345, 352, 357, 364, 371, 376, 383, 388, 393, 398, 403, 408, 415, 422, 429, 434, 441, 446, 453, 460, 465, 472, 479, 518, 529, 536, 543, 550, 557, 564, 569, 576, 583, 590, 597, 604, 611, 618, 625, 632, 637, 644, 649, 656, 661, 668, 675, 682, 689, 696, 701, 0, 20, 27, 34, 39, 46, 51, 58, 68, 81, 93, 105, 124, 136, 148, 167, 179, 188, 193, 200, 207, 212, 214, 215, 251, 262, 269, 276, 281, 286, 291, 296, 301, 308, 315, 322, 327, 334, 339, 344, 351, 356, 363, 370, 375, 382, 387, 392, 397, 402, 407, 414, 421, 428, 433, 440, 445, 452, 459, 464, 471, 478, 517, 528, 535, 542, 549, 556, 563, 568, 575, 582, 589, 596, 603, 610, 617, 624, 631, 636, 643, 648, 655, 660, 667, 674, 681, 688, 695, 700, 15, 16, 17, 18, 19, 22, 23, 24, 25, 26, 29, 30, 31, 32, 33, 36, 37, 38, 41, 42, 43, 44, 45, 48, 49, 50, 53, 54, 55, 56, 57, 67, 70, 80, 92, 104, 122, 123, 135, 147, 165, 166, 178, 183, 184, 185, 186, 187, 190, 191, 192, 195, 196, 197, 198, 199, 202, 203, 204, 205, 206, 209, 210, 211, 228, 235, 242, 249, 250, 253, 254, 257, 258, 259, 260, 261, 264, 265, 266, 267, 268, 271, 272, 273, 274, 275, 278, 279, 280, 283, 284, 285, 288, 289, 290, 293, 294, 295, 298, 299, 300, 303, 304, 305, 306, 307, 310, 311, 312, 313, 314, 317, 318, 319, 320, 321, 324, 325, 326, 329, 330, 331, 332, 333, 336, 337, 338, 341, 342, 343, 346, 347, 348, 349, 350, 353, 354, 355, 358, 359, 360, 361, 362, 365, 366, 367, 368, 369, 372, 373, 374, 377, 378, 379, 380, 381, 384, 385, 386, 389, 390, 391, 394, 395, 396, 399, 400, 401, 404, 405, 406, 409, 410, 411, 412, 413, 416, 417, 418, 419, 420, 423, 424, 425, 426, 427, 430, 431, 432, 435, 436, 437, 438, 439, 442, 443, 444, 447, 448, 449, 450, 451, 454, 455, 456, 457, 458, 461, 462, 463, 466, 467, 468, 469, 470, 473, 474, 475, 476, 477, 493, 498, 503, 510, 515, 516, 519, 520, 523, 524, 525, 526, 527, 530, 531, 532, 533, 534, 537, 538, 539, 540, 541, 544, 545, 546, 547, 548, 551, 552, 553, 554, 555, 558, 559, 560, 561, 562, 565, 566, 567, 570, 571, 572, 573, 574, 577, 578, 579, 580, 581, 584, 585, 586, 587, 588, 591, 592, 593, 594, 595, 598, 599, 600, 601, 602, 605, 606, 607, 608, 609, 612, 613, 614, 615, 616, 619, 620, 621, 622, 623, 626, 627, 628, 629, 630, 633, 634, 635, 638, 639, 640, 641, 642, 645, 646, 647, 650, 651, 652, 653, 654, 657, 658, 659, 662, 663, 664, 665, 666, 669, 670, 671, 672, 673, 676, 677, 678, 679, 680, 683, 684, 685, 686, 687, 690, 691, 692, 693, 694, 697, 698, 699, 121, 164, 227, 234, 241, 248, 492, 497, 502, 509, 514, 116, 117, 118, 119, 120, 159, 160, 161, 162, 163, 224, 225, 226, 229, 230, 231, 232, 233, 236, 237, 238, 239, 240, 243, 244, 245, 246, 247, 487, 488, 489, 490, 491, 494, 495, 496, 499, 500, 501, 504, 505, 506, 507, 508, 511, 512, 513]
def obsL (as : List Addr) (fa : List He.Fa) (fn : List He.DefD) (ex : PySem.W.Frag -> Bool) (g : Addr -> Option Obj) : AlE := (He.obsD fa fn (He.frG g as), ex (He.frG g as))
def hookL (as : List Addr) (fa : List He.Fa) (fn : List He.DefD) (ex : PySem.W.Frag -> Bool) : PySem.W.Hook where
 α := AlE
 obs := fun s => obsL as fa fn ex s.heap.get?
 val := fun _ => (He.valD fn, true)
 says := fun _ h => ∃ K : PySem.W.Frag, K.In h /\ He.SaysD fa fn K /\ ex K = true
 of := fun _ _ e => ⟨_, He.frG_in, congrArg (fun z : AlE => z.1) e, congrArg (fun z : AlE => z.2) e⟩
 keeps := fun _ _ _ ⟨K, hK, c⟩ k => ⟨K, PySem.W.Frag.In.keeps hK k, c⟩
theorem obsL_eq {as : List Addr} {fa : List He.Fa} {fn : List He.DefD} {ex : PySem.W.Frag -> Bool} {g : Addr -> Option Obj} {s : Shared} (h : ∀ a, g a = s.heap.get? a) : obsL as fa fn ex g = (hookL as fa fn ex).obs s := by
 have e : g = s.heap.get? := funext h
 rw [e] <;> rfl
abbrev hk : PySem.W.Hook := hookL as0 fa fn exOk
def ob (s : PySem.W.SharedT) : AlE := obsL as0 fa fn exOk (HandSHeadRun.getT s)
theorem ob_eq (s : PySem.W.SharedT) : ob s = hk.obs s.abs := obsL_eq (HandSHeadRun.getT_eq s)
def loose : List PySem.Str := (["is_whole", "is_many", "is_name", "is_rising", "joined", "many_at", "run_of", "FellError", "NoGrove", "NoPlace", "NoBook", "NoKind"] : List PySem.Str) ++ (["NoRule", "NoNumber", "Endless", "NoWorths", "is_tree", "is_grove", "are_grove_pairs", "pairs_within", "kinds_within", "Book", "rules_from_nought", "check_kind"] : List PySem.Str) ++ (["check_kinds", "are_kinds", "is_kind", "is_rule", "is_rule_of", "is_ladder", "is_ladder_pair", "number", "is_less", "behind", "both", "all_together"] : List PySem.Str) ++ (["many_of", "power", "above", "spread", "tree_at", "all_places", "steps_of", "steps_in", "leads", "ending_kinds", "lead_into", "endless_kinds"] : List PySem.Str) ++ (["check_ends", "own_rank", "rank", "own_ranks", "climb", "reckoned", "reckoned_tree", "laden", "show_grove", "show_pair", "show_tree", "Known"] : List PySem.Str) ++ (["table", "add_trees", "add_kind", "is_table", "takes", "is_row", "takes_kind", "takes_tree", "is_last", "is_same", "worth", "check_worths"] : List PySem.Str) ++ (["_law_draws", "_law_next", "_law_names", "_law_many", "_law_grove", "_law_kinds", "_law_book", "_law_in", "_law_endless", "_law_asked", "_law_alone", "_law_refused"] : List PySem.Str) ++ (["_law_rounds", "_law_strange", "LETTERS", "LONGEST_NAME", "MOST_KINDS", "MOST_MANY", "MOST_RULES", "MOST_RULE_PARTS", "NO_GROVES"] : List PySem.Str)
def KTr (s : PySem.W.SharedT) : PySem.W.Frag := He.frG (HandSHeadRun.getT s) as0
theorem run1 (w : World) (os : PySem.OsState) : (HandSHeadRun.endF (HandSHeadRun.stepQ (HandSHeadRun.denQ HandSHeadRun.tabQ) R.prog w) 9000 R.prog w os).map (fun s => HandSHeadRun.looksF R.prog (PySem.W.boot_heap w.params) s.abs) = some true := by
 kernel_rfl
theorem run2 (w : World) (os : PySem.OsState) : (HandSHeadRun.endF (HandSHeadRun.stepQ (HandSHeadRun.denQ HandSHeadRun.tabQ) R.prog w) 9000 R.prog w os).map (fun s => HandSHeadRun.seenQ (PySem.W.view R.prog [107]) loose (importedModules R.prog.main.body) (fun s => xlAt (PySem.W.view R.prog [107]) [] s && recOk R.toRowW.records s) s.abs) = some (openGood (PySem.W.view R.prog [107]) loose) := by
 kernel_rfl
theorem run3 (w : World) (os : PySem.OsState) : (HandSHeadRun.endF (HandSHeadRun.stepQ (HandSHeadRun.denQ HandSHeadRun.tabQ) R.prog w) 9000 R.prog w os).map (fun s => fa1.all fun f => f.ok (KTr s)) = some true := by
 kernel_rfl
theorem run4 (w : World) (os : PySem.OsState) : (HandSHeadRun.endF (HandSHeadRun.stepQ (HandSHeadRun.denQ HandSHeadRun.tabQ) R.prog w) 9000 R.prog w os).map (fun s => fa2.all fun f => f.ok (KTr s)) = some true := by
 kernel_rfl
theorem run5 (w : World) (os : PySem.OsState) : (HandSHeadRun.endF (HandSHeadRun.stepQ (HandSHeadRun.denQ HandSHeadRun.tabQ) R.prog w) 9000 R.prog w os).map (fun s => fn.all fun d => d.ok (KTr s)) = some true := by
 kernel_rfl
theorem run6 (w : World) (os : PySem.OsState) : (HandSHeadRun.endF (HandSHeadRun.stepQ (HandSHeadRun.denQ HandSHeadRun.tabQ) R.prog w) 9000 R.prog w os).map (fun s => fn.map fun d => He.fnW (KTr s) d.at_) = some (fn.map He.DefD.val) := by
 kernel_rfl
theorem run7 (w : World) (os : PySem.OsState) : (HandSHeadRun.endF (HandSHeadRun.stepQ (HandSHeadRun.denQ HandSHeadRun.tabQ) R.prog w) 9000 R.prog w os).map (fun s => exOk (KTr s)) = some true := by
 kernel_rfl
theorem map3 {σ α β γ : Type} {o : Option σ} {A : σ -> α} {B : σ -> β} {C : σ -> γ} {a : α} {b : β} {c : γ} (h1 : o.map A = some a) (h2 : o.map B = some b) (h3 : o.map C = some c) : o.map (fun s => (A s, B s, C s)) = some (a, b, c) := by
 cases o with
 | none => cases h1
 | some s => exact congrArg some (Prod.ext (Option.some.inj h1) (Prod.ext (Option.some.inj h2) (Option.some.inj h3)))
theorem mapE {σ : Type} {o : Option σ} {f1 f2 : List He.Fa} {gn : List He.DefD} {ex : PySem.W.Frag -> Bool} (K : σ -> PySem.W.Frag) (h1 : o.map (fun s => f1.all fun f => f.ok (K s)) = some true) (h2 : o.map (fun s => f2.all fun f => f.ok (K s)) = some true) (h3 : o.map (fun s => gn.all fun d => d.ok (K s)) = some true) (h4 : o.map (fun s => gn.map fun d => He.fnW (K s) d.at_) = some (gn.map He.DefD.val)) (h5 : o.map (fun s => ex (K s)) = some true) : o.map (fun s => (He.obsD (f1 ++ f2) gn (K s), ex (K s))) = some (He.valD gn, true) := by
 cases o with
 | none => cases h1
 | some s =>
  have e1 : (f1.all fun f => f.ok (K s)) = true := Option.some.inj h1
  have e2 : (f2.all fun f => f.ok (K s)) = true := Option.some.inj h2
  have e3 : (gn.all fun d => d.ok (K s)) = true := Option.some.inj h3
  have e4 : (gn.map fun d => He.fnW (K s) d.at_) = gn.map He.DefD.val := Option.some.inj h4
  have e5 : ex (K s) = true := Option.some.inj h5
  refine congrArg some (Prod.ext (Prod.ext ?_ e4) e5)
  show (((f1 ++ f2).all fun f => f.ok (K s)) && gn.all fun d => d.ok (K s)) = true
  rw [List.all_append, e1, e2, e3]; rfl
theorem run (w : World) : HandSHeadRun.RunEq R (PySem.W.view R.prog [107]) hk ob 9000 loose w := by
 intro os
 exact map3 (run1 w os) (run2 w os) (mapE KTr (run3 w os) (run4 w os) (run5 w os) (run6 w os) (run7 w os))
section
variable {P : Program} {w : World} {K : PySem.W.Frag} {mg : Str -> Option Value} {base : Heap} {f : Addr} {fd : FuncData} {ps : List Addr}
theorem sc_is_whole : FnScope ["thing"] ["thing"] (defScope s_is_whole) := ⟨rfl, rfl, rfl, by decide +kernel, rfl, by decide +kernel, by decide +kernel⟩
theorem ok_is_whole (B : BI mg) (F : Fun K "is_whole" "is_whole" s_is_whole f fd) : FnOk P w K mg base CX0 1 f fd ["thing"] (spWhole K) := by
 refine F.ok sc_is_whole (fun vs H Q E h => ?_) (fun cdv A outer s H vs Q E hr h => ?_)
 ·obtain ⟨v, n, b1, b2, rfl, _⟩ := h
  rfl
 obtain ⟨v, n, b1, b2, rfl, ty, k1, k2, q⟩ := h
 refine ⟨_, pss_one (ps_ret (pe_and (pe_isi B (pv 0) B.int boot_int) (pe_one (pe_not (pe_isi B (pv 0) B.bool boot_bool))))), ?_⟩
 refine ⟨_, rfl, _, _, n, b1, rfl, ty, k1, b1, rfl, ?_⟩
 cases b1 with
 | false => exact iteF q
 | true =>
  refine iteT ⟨_, rfl, _, _, n, b2, rfl, ty, k2 rfl, b2, rfl, ?_⟩
  exact q
end
section
variable {P : Program} {w : World} {K : PySem.W.Frag} {mg : Str -> Option Value} {base : Heap} {f : Addr} {fd : FuncData} {ps : List Addr}
theorem sc_is_many : FnScope ["thing"] ["thing"] (defScope s_is_many) := ⟨rfl, rfl, rfl, by decide +kernel, rfl, by decide +kernel, by decide +kernel⟩
theorem ok_is_many {ps : List Addr} (B : BI mg) (G : Got P w K mg base "is_whole" ["thing"] 1 (spWhole K)) (F : Fun K "is_many" "is_many" s_is_many f fd) : FnOk P w K mg base CX0 2 f fd ["thing"] (spMany K ps) := by
 refine F.ok sc_is_many (fun vs H Q E h => ?_) (fun cdv A outer s H vs Q E hr h => ?_)
 ·obtain ⟨v, d, rfl, _⟩ := h
  rfl
 obtain ⟨v, d, rfl, th, q⟩ := h
 refine ⟨_, pss_one (ps_ret (pe_and (pe_got G hr rfl (pa_cons (pv 0) pa_nil)) (pe_one (pe_cmpR op_ge (pv 0) pe_int (nomark _))))), ?_⟩
 obtain ⟨n, b1, b2, ty, k1, k2, y1, y2⟩ := th.whole
 refine ⟨_, rfl, v, n, b1, b2, rfl, ty, k1, k2, b1 && !b2, rfl, ?_⟩
 cases e : (b1 && !b2) with
 | false =>
  refine iteF ?_
  rw [y2 e] at q
  exact q
 | true =>
  obtain ⟨i, rfl, rfl⟩ := y1 e
  exact iteT ⟨_, rfl, _, _, rfl, rfl, q⟩
end
section
variable {P : Program} {w : World} {K : PySem.W.Frag} {mg : Str -> Option Value} {base : Heap} {f : Addr} {fd : FuncData}
theorem sc_is_name : FnScope ["thing"] ["thing"] (defScope s_is_name) := ⟨rfl, rfl, rfl, by decide +kernel, rfl, by decide +kernel, by decide +kernel⟩
theorem ok_is_name (B : BI mg) (L : ∃ t, mg "LETTERS" = some (.str abc t)) (N : ∃ t, mg "LONGEST_NAME" = some (.int 8 t)) (G : Got P w K mg base "run_of" ["text", "at", "signs"] 1 (spRunOf K)) (F : Fun K "is_name" "is_name" s_is_name f fd) : FnOk P w K mg base CX0 2 f fd ["thing"] (spName K) := by
 refine F.ok sc_is_name (fun vs H Q E h => ?_) (fun cdv A outer s H vs Q E hr h => ?_)
 ·obtain ⟨v, d, rfl, _⟩ := h
  rfl
 obtain ⟨v, d, rfl, th, q⟩ := h
 obtain ⟨tl, hL⟩ := L
 obtain ⟨tn, hN⟩ := N
 refine ⟨_, pss_cons (ps_if (PW.pt (pw_or (pt_not (pt_val (pe_isi B (pv 0) B.str boot_str))) (pw_or1 (pt_not (pt_chain op_le op_le pe_int (pe_callB call_len_str rfl B.len PySem.boot_len (pa_cons (pv 0) pa_nil)) (pe_glob (v := .int 8) rfl hN ⟨_, rfl⟩)))))) (pss_one (ps_ret pe_bl)) pss_nil)
  (pss_one (ps_ret (pe_cmpR op_eq (pe_got G hr rfl (pa_cons (pv 0) (pa_cons pe_int (pa_cons (pe_glob (v := .str abc) rfl hL ⟨_, rfl⟩) pa_nil)))) (pv 0) (nomark _)))), ?_⟩
 obtain ⟨n1, b, ty, kb, y1, y2⟩ := th.txt
 refine ⟨_, rfl, _, _, n1, b, rfl, ty, kb, b, rfl, ?_⟩
 cases b with
 | false =>
  refine iteT (iteT ?_)
  have e : nameD d = false := by
   cases d with
   | str z => exact absurd rfl (y2 rfl z)
   | _ => simp [nameD]
  have := q H SB.refl
  rw [e] at this
  exact this
 | true =>
 refine iteF ?_
 obtain ⟨z, rfl, rfl, hz⟩ := y1 rfl
 have hzl : z.length <= sizeLine := by have := sizeLine_eq; omega
 refine ⟨_, rfl, z, rfl, hzl, _, _, rfl, rfl, _, rfl, ?_⟩
 by_cases h1 : 1 <= z.length
 ·rw [show decide ((1 : Int) <= (z.length : Int)) = true from decide_eq_true (by omega)]
  refine iteT ⟨_, _, rfl, rfl, _, rfl, ?_⟩
  by_cases h8 : z.length <= 8
  ·rw [show decide ((z.length : Int) <= 8) = true from decide_eq_true (by omega)]
   refine iteF ?_
   refine ⟨_, rfl, z, abc, 0, rfl, by omega, Nat.zero_le _, fun e _ he hin hout => ?_⟩
   refine ⟨_, rfl, rfl, ?_⟩
   have := q H SB.refl
   rw [<- run_name h1 h8 he hin hout] at this
   exact this
  ·rw [show decide ((z.length : Int) <= 8) = false from decide_eq_false (by omega)]
   have := q H SB.refl
   rw [name_out fun h => h8 h.2] at this
   exact iteT this
 ·rw [show decide ((1 : Int) <= (z.length : Int)) = false from decide_eq_false (by omega)]
  have := q H SB.refl
  rw [name_out fun h => h1 h.1] at this
  exact iteF ⟨_, rfl, iteT this⟩
end
section
variable {P : Program} {w : World} {K : PySem.W.Frag} {mg : Str -> Option Value} {base : Heap} {f : Addr} {fd : FuncData} {ps : List Addr}
theorem sc_is_rising : FnScope N_rising ["things"] (defScope s_is_rising) := ⟨rfl, rfl, rfl, by decide +kernel, rfl, by decide +kernel, by decide +kernel⟩
theorem ok_is_rising (B : BI mg) (F : Fun K "is_rising" "is_rising" s_is_rising f fd) : FnOk P w K mg base CX0 1 f fd ["things"] (spRising K) := by
 refine F.ok sc_is_rising (fun vs H Q E h => ?_) (fun cdv A outer s H vs Q E hr h => ?_)
 ·obtain ⟨v, n, b1, rfl, _⟩ := h
  rfl
 obtain ⟨a, xs, ds, rfl, hS, hDp, hok, hal, hz, q⟩ := h
 have hu : A.units + 200 < cLine := by have := hr.un; show A.units + 200 < cLine; have h3 : (A.deeper (envOfC "is_rising" (defScope s_is_rising) s.heap.objs.size f cdv)).units = A.units + 3 := rfl; omega
 refine ⟨_, pss_one (ps_ret (pe_callB (cr_all rfl) rfl B.all boot_all (pa_cons
  (pe_lc (own := [("low", 1), ("high", 2)]) (g := gTup K 2 (gCons (gName 1) (gCons (gName 2) gNil))) (tt := tYes) (te := tOp (rLtD K) (tVar 1) (tVar 2)) rfl sc_is_rising.nd
   (pi_zip rfl B.zip (pa_cons (pv 0) (pa_cons (pe_slice sl_list (pv 0) (po_some pe_int) po_none) pa_nil)))
   (blkOk_by (N := N_rising) (sc := defScope s_is_rising) (by decide +kernel))
   (fun _ _ _ _ _ => pg_tup rfl (pgs_cons (pg_name (i := 1) sc_is_rising.nd rfl (.inl rfl)) (pgs_cons (pg_name (i := 2) sc_is_rising.nd rfl (.inl rfl)) pgs_nil)))
   (fun _ _ _ _ _ => pts_nil)
   (fun _ _ _ _ _ => pe_cmpR (op_ltD (by have := hu; show A.units + 3 + 100 < cLine; omega)) (pv 1) (pv 2) (nomark _))) pa_nil))), ?_⟩
 refine ⟨_, rfl, _, rfl, 1, rfl, a, xs, rfl, hS, fun p hp => ?_⟩
 rw [cut1]
 have e1 : SB [] H (upd H p (.lst (xs.drop 1))) := SB.new hp _
 refine ⟨a, p, xs, xs.drop 1, rfl, e1.sqL nmn hS, SqL.of upd_same, fun D hD => ?_⟩
 have hpD : p ≠ D := fun z => by subst z; rw [upd_same] at hD; cases hD
 have dl : ds.length = xs.length := (DpAll.length hDp).symm
 refine lc_it (walk_zip (n := min xs.length (xs.drop 1).length) rfl) (fun i H2 => SB [D] (upd H p (.lst (xs.drop 1))) H2 /\ H2 D = some (.lst (((ltsD ds).take i).map V.bl))) ⟨SB.new hD _, upd_same⟩ (fun i H2 hi h2 => ?_) (fun i x H2 H' hi h2 y => ?_) (fun H2 h2 => ?_)
 ·obtain ⟨h2, h3⟩ := h2
  have h4 := h2.drop hD
  exact ⟨(e1.trans h4).sqL nmn hS, h4.sqL nmn (SqL.of upd_same)⟩
 ·obtain ⟨h2, h3⟩ := h2
  have h4 := e1.trans (h2.drop hD)
  obtain ⟨T, x1, y1, rfl, hT, rfl, ex, ey⟩ := y
  have ey : (xs.drop 1)[i]? = some y1 := ey
  rw [List.getElem?_drop, Nat.add_comm] at ey
  obtain ⟨d, ed, hd⟩ := DpAll.get hDp ex
  obtain ⟨d', ed', hd'⟩ := DpAll.get (i := i + 1) hDp ey
  have e5 : SB [] H (upd H2 T (.tup [x1, y1])) := h4.trans (SB.new hT _)
  have m1 := List.mem_of_getElem? ed
  have m2 := List.mem_of_getElem? ed'
  have hTD : D ≠ T := fun z => by subst z; rw [h3] at hT; cases hT
  refine ⟨T, _, rfl, SqT.of upd_same, rfl, _, _, rfl, _, _, rfl, rfl, rfl, ?_⟩
  refine ⟨_, rfl, _, rfl, d, d', Dp_sb e5 _ _ (hok d m1).1 hd, Dp_sb e5 _ _ (hok d' m2).1 hd', hal d m1 d' m2, (hok d m1).2.1, (hok d m1).2.2, _, by rw [upd_ne hTD]; exact h3, ?_, ?_⟩
  ·have := ltsD_length ds
   rw [List.length_map, List.length_take]
   exact small1000 (by omega)
  ·refine ⟨(h2.trans (SB.new hT _)).trans (SB.set (by rw [upd_ne hTD]; exact h3) (by simp) _), ?_⟩
   rw [upd_same, List.take_add_one, ltsD_get ds i d d' ed ed']
   simp
 ·obtain ⟨h2, h3⟩ := h2
  have h4 := e1.trans (h2.drop hD)
  have e6 : (ltsD ds).take (min xs.length (xs.drop 1).length) = ltsD ds := by
   apply List.take_of_length_le
   rw [ltsD_length, List.length_drop]
   omega
  rw [e6] at h3
  exact ⟨D, _, rfl, SqL.of h3, q _ h4⟩
end
section
variable {P : Program} {w : World} {K : PySem.W.Frag} {mg : Str -> Option Value} {base : Heap} {f : Addr} {fd : FuncData}
abbrev N_joined : List Str := ["pairs", "row", "thing", "many"]
theorem sc_joined : FnScope N_joined ["pairs"] (defScope s_joined) := ⟨rfl, rfl, rfl, by decide +kernel, rfl, by decide +kernel, by decide +kernel⟩
theorem ok_joined {γ : Type} [DecidableEq γ] {enc : γ -> PyData} (hnl : ∀ g, noList (enc g) = true) (heq : ∀ g h, PyData.eqv (enc g) (enc h) = decide (g = h)) (B : BI mg) (F : Fun K "joined" "joined" s_joined f fd) : FnOk P w K mg base CX0 1 f fd ["pairs"] (spJoined K enc) := by
 refine F.ok sc_joined (fun vs H Q E h => ?_) (fun cdv A outer s H vs Q E hr h => ?_)
 ·obtain ⟨a, xs, bs, rfl, _⟩ := h
  rfl
 obtain ⟨a, xs, bs, rfl, hs, hb, hl, hsh, q⟩ := h
 have hun2 := hunT hr
 refine ⟨_, pss_cons (ps_set (i := 1) sc_joined.nd rfl (.inl rfl) (pe_lst pa_nil))
  (pss_cons (ps_for PassesOwn.never rfl (pi_list (pv 0)) (pg_tup rfl (pgs_cons (pg_name (i := 2) sc_joined.nd rfl (.inl rfl)) (pgs_cons (pg_name (i := 3) sc_joined.nd rfl (.inl rfl)) pgs_nil)))
   (pss_one (ps_if (PW.pt (pw_and (pt_truth (pv 1) (by intro _; rfl)) (pw_and1 (pt_cmpR (op_eqD (by show A.units + 3 + 64 < cLine; omega)) (pe_ix ix_tup (pe_ix ix_list (pv 1) (pe_un un_neg pe_int) (fun _ _ => rfl)) pe_int (fun _ _ => rfl)) (pv 2) (nomark _)))))
    (pss_one (ps_asg (pe_tup (pa_cons (pv 2) (pa_cons (pe_op op_add (pe_ix ix_tup (pe_ix ix_list (pv 1) (pe_un un_neg pe_int) (fun _ _ => rfl)) pe_int (fun _ _ => rfl)) (pv 3)) pa_nil))) (pg_sub (pv 1) (pe_un un_neg pe_int) set_list)))
    (pss_one (ps_expr (pe_bm PySem.F.plainAttrs_list PySem.F.slot_list_append PySem.F.type_list_append mt_append (pv 1) (pa_cons (pe_tup (pa_cons (pv 2) (pa_cons (pv 3) pa_nil))) pa_nil)))))))
  (pss_one (ps_ret (pe_callTy call_tuple_of rfl B.tuple boot_tuple (pa_cons (pv 1) pa_nil))))), ?_⟩
 refine ⟨(by show 0 <= sizeLine; decide), fun D hD => ?_⟩
 have t0 := SB.new (ps := []) hD (.lst [])
 refine ⟨_, rfl, a, rfl, ⟨xs, t0.sqL nmn hs⟩, ?_⟩
 have xl := hb.length
 refine for_list (K := K) (a := a) (xs := xs) (fun i σ H2 => SB [D] H H2 /\ ∃ acc o2 o3, σ = [some (.ref a), some (.ref D), o2, o3] /\ H2 D = some (.lst acc) /\ Bears K H2 (pairE enc) acc (jn (bs.take i))) ⟨SB.new hD _, [], none, none, rfl, upd_same, .nil⟩ (fun i σ H2 hi h2 => (h2.1.drop hD).sqL nmn hs) (fun i x σ H2 hx h2 => ?_) (fun σ H2 h2 => ?_)
 ·obtain ⟨s2, acc, o2, o3, rfl, hD2, hb2⟩ := h2
  have s2' := s2.drop hD
  obtain ⟨p, ep, hpd⟩ := hb.get hx
  have pm := List.mem_of_getElem? ep
  obtain ⟨ad, ux, rfl, hsx, hdx⟩ := pair_at hpd
  have al := hb2.length
  have jl := jn_length (bs.take i)
  rw [List.length_take] at jl
  have nl := pairE_noList hnl
  rw [jn_take bs i p ep]
  have hdx2 := Dp_sb s2' _ _ (hnl _) hdx
  refine ⟨ad, _, rfl, s2'.sqT hsx, rfl, _, _, rfl, _, _, rfl, rfl, ?_⟩
  -- the row ahead: none, or a last one
  have app : jstep (jn (bs.take i)) p = jn (bs.take i) ++ [p] -> tDrop (tBM K "list" rAppend (tVar 1) (tCons (tTup (tCons (tVar 2) (tCons (tVar 3) tNil))) tNil)) { nx := fun σ H2 => SB [D] H H2 /\ ∃ acc o2 o3, σ = [some (.ref a), some (.ref D), o2, o3] /\ H2 D = some (.lst acc) /\ Bears K H2 (pairE enc) acc (jstep (jn (bs.take i)) p), rt := Q } [some (.ref a), some (.ref D), some ux, some (.int p.2)] H2 := by
   intro e
   rw [e]
   refine ⟨_, rfl, .inl ⟨rfl, _, SqL.of hD2⟩, _, rfl, _, rfl, (by show 2 <= sizeLine; decide), fun t ht => ?_⟩
   have t3 := SB.new (ps := [D]) ht (.tup [ux, .int p.2])
   have hD3 : (upd H2 t (.tup [ux, .int p.2])) D = some (.lst acc) := by rw [upd_ne (ne_of_none hD2 ht)]; exact hD2
   refine ⟨D, acc, _, rfl, rfl, hD3, small1000 (by omega), ?_⟩
   have t4 := SB.set (ps := [D]) hD3 (by simp) (.lst (acc ++ [.ref t]))
   exact ⟨(s2.trans t3).trans t4, _, _, _, rfl, upd_same, Bears.append ((hb2.sb t3 nl).sb t4 nl) (.cons (pair_mk (t4.sqT (SqT.of upd_same)) (Dp_sb t4 _ _ (hnl _) (Dp_sb t3 _ _ (hnl _) hdx2))) .nil)⟩
  rcases List.eq_nil_or_concat (jn (bs.take i)) with he | ⟨js, z, he⟩
  ·rw [he] at hb2 app
   cases hb2
   refine ⟨_, rfl, _, .inl ⟨[], SqL.of hD2, rfl⟩, iteF (iteF ?_)⟩
   rw [he]
   exact app rfl
  ·rw [List.concat_eq_append] at he
   rw [he] at hb2 app
   rw [he]
   obtain ⟨us, u, rfl, hus, hu⟩ := hb2.snoc
   obtain ⟨az, uz, rfl, hsz, hdz⟩ := pair_at hu
   have zsh : SeqAt.shaped (enc z.1) = true := by
    obtain ⟨q2, hq2, eq2⟩ := jn_keys (bs.take i) z (by rw [he]; simp)
    rw [<- eq2]
    exact hsh q2 (List.mem_of_mem_take hq2)
   refine ⟨_, rfl, _, .inl ⟨us ++ [.ref az], SqL.of hD2, rfl⟩, ?_⟩
   have e0 : (!(us ++ [V.ref az]).isEmpty) = true := by simp
   rw [e0]
   refine iteT ?_
   refine ⟨_, rfl, 1, rfl, D, _, _, _, rfl, rfl, SqL.of hD2, at_last, az, _, _, _, rfl, rfl, hsz, atI_nat (j := 0) rfl, _, rfl, enc z.1, enc p.1, hdz, hdx2, zsh, hsh p pm, _, rfl, ?_⟩
   rw [heq]
   by_cases hz : z.1 = p.1
   ·rw [show decide (z.1 = p.1) = true by simp [hz]]
    refine iteT ?_
    refine ⟨_, rfl, _, rfl, 1, rfl, D, _, _, _, rfl, rfl, SqL.of hD2, at_last, az, _, _, _, rfl, rfl, hsz, atI_nat (j := 1) rfl, _, rfl, _, _, rfl, rfl, (by show 2 <= sizeLine; decide), fun t ht => ?_⟩
    have t3 := SB.new (ps := [D]) ht (.tup [ux, .int (z.2 + p.2)])
    have hD3 : (upd H2 t (.tup [ux, .int (z.2 + p.2)])) D = some (.lst (us ++ [.ref az])) := by rw [upd_ne (ne_of_none hD2 ht)]; exact hD2
    refine ⟨_, rfl, 1, rfl, D, _, _, us.length, rfl, rfl, hD3, ixN_last, ?_⟩
    rw [set_last]
    have t4 := SB.set (ps := [D]) hD3 (by simp) (.lst (us ++ [.ref t]))
    refine ⟨(s2.trans t3).trans t4, _, _, _, rfl, upd_same, ?_⟩
    rw [jstep_snoc, if_pos hz]
    exact Bears.append ((hus.sb t3 nl).sb t4 nl) (.cons (pair_mk (t4.sqT (SqT.of upd_same)) (Dp_sb t4 _ _ (hnl _) (Dp_sb t3 _ _ (hnl _) hdx2))) .nil)
   ·rw [show decide (z.1 = p.1) = false by simp [hz]]
    refine iteF ?_
    exact app (by rw [jstep_snoc, if_neg hz])
 ·obtain ⟨s2, acc, o2, o3, rfl, hD2, hb2⟩ := h2
  rw [xl, List.take_length] at hb2
  refine ⟨_, rfl, D, acc, rfl, .inl ⟨SqL.of hD2, fun t ht => ?_⟩⟩
  have t3 := SB.new (ps := []) ht (.tup acc)
  exact q _ _ _ ((s2.drop hD).trans t3) (SqT.of upd_same) (hb2.sb t3 (pairE_noList hnl))
abbrev N_manyat : List Str := ["pairs", "thing", "other", "many"]
theorem sc_many_at : FnScope N_manyat ["pairs", "thing"] (defScope s_many_at) := ⟨rfl, rfl, rfl, by decide +kernel, rfl, by decide +kernel, by decide +kernel⟩
theorem ok_many_at (B : BI mg) (F : Fun K "many_at" "many_at" s_many_at f fd) : FnOk P w K mg base CX0 1 f fd ["pairs", "thing"] (spManyAt K) := by
 refine F.ok sc_many_at (fun vs H Q E h => ?_) (fun cdv A outer s H vs Q E hr h => ?_)
 ·obtain ⟨v, u, l, e, rfl, _⟩ := h
  rfl
 obtain ⟨v, u, l, e, rfl, hv, hu, hd, hd2, hp, q⟩ := h
 have hun2 := hunT hr
 refine ⟨_, pss_one (ps_ret (pe_callB (cr_sum rfl) rfl B.sum boot_sum (pa_cons
  (pe_lc (own := [("other", 2), ("many", 3)]) (g := gTup K 2 (gCons (gName 2) (gCons (gName 3) gNil))) (tt := tTest (tOp (rEqD K) (tVar 2) (tVar 1))) (te := tVar 3) rfl sc_many_at.nd (pi_tup (pv 0))
   (blkOk_by (N := N_manyat) (sc := defScope s_many_at) (by decide +kernel))
   (fun _ _ _ _ _ => pg_tup rfl (pgs_cons (pg_name (i := 2) sc_many_at.nd rfl (.inl rfl)) (pgs_cons (pg_name (i := 3) sc_many_at.nd rfl (.inl rfl)) pgs_nil)))
   (fun _ _ _ _ _ => pts_one (pt_cmpR (op_eqD (by show A.units + 3 + 64 < cLine; omega)) (pv 2) (pv 1) (nomark _)))
   (fun _ _ _ _ _ => pv 3)) pa_nil))), ?_⟩
 obtain ⟨a, xs, rfl, hs, hb⟩ := LA_bears hv
 have bl := hb.length
 have lp := l.len_parts
 rw [<- Lad.ps_length] at lp
 refine ⟨_, rfl, a, rfl, ⟨xs, hs⟩, fun D hD => ?_⟩
 refine lc_it (walk_tup (xs := xs)) (fun i H2 => SB [D] H H2 /\ H2 D = some (.lst ((((l.ps.take i).filter fun p => decide (p.1 = e)).map (·.2)).map V.int))) ⟨SB.new hD _, upd_same⟩ (fun i H2 hi h2 => (h2.1.drop hD).sqT hs) (fun i x H2 H' hi h2 y => ?_) (fun H2 h2 => ?_)
 ·obtain ⟨s2, hD2⟩ := h2
  obtain ⟨rfl, ex⟩ := y
  have s2' := s2.drop hD
  obtain ⟨b, eb, hbd⟩ := hb.get ex
  obtain ⟨ad, ux, rfl, hs2, hla⟩ := LA_pair hbd
  have bd := l.mem_deep b (List.mem_of_getElem? eb)
  refine ⟨ad, _, rfl, s2'.sqT hs2, rfl, _, _, rfl, _, _, rfl, rfl, rfl, ?_⟩
  refine ⟨_, rfl, _, rfl, b.1.enc, e.enc, hla.sb s2', hu.sb s2', Lad.shaped_enc (by omega), Lad.shaped_enc (by omega), _, rfl, ?_⟩
  rw [Lad.eqv_enc]
  have fl := List.length_filter_le (fun p : Lad × Int => decide (p.1 = e)) (l.ps.take i)
  rw [List.length_take] at fl
  by_cases he : b.1 = e
  ·rw [show decide (b.1 = e) = true by simp [he]]
   refine iteT ?_
   refine ⟨_, rfl, _, hD2, ?_, ?_⟩
   ·rw [List.length_map, List.length_map]; exact small1000 (by omega)
   ·refine ⟨s2.trans (SB.set hD2 (by simp) _), ?_⟩
    rw [upd_same, List.take_add_one, eb, List.filter_append]
    simp [he]
  ·rw [show decide (b.1 = e) = false by simp [he]]
   refine iteF ?_
   refine ⟨s2, ?_⟩
   rw [hD2, List.take_add_one, eb, List.filter_append]
   simp [he]
 ·obtain ⟨s2, hD2⟩ := h2
  rw [bl, List.take_length] at hD2
  exact ⟨D, _, rfl, SqL.of hD2, q _ (s2.drop hD)⟩
theorem sc_run_of : FnScope ["text", "at", "signs", "end"] ["text", "at", "signs"] (defScope s_run_of) := ⟨rfl, rfl, rfl, by decide +kernel, rfl, by decide +kernel, by decide +kernel⟩
theorem ok_run_of (B : BI mg) (F : Fun K "run_of" "run_of" s_run_of f fd) : FnOk P w K mg base CX0 1 f fd ["text", "at", "signs"] (spRunOf K) := by
 refine F.ok sc_run_of (fun vs H Q E h => ?_) (fun cdv A outer s H vs Q E hr h => ?_)
 ·obtain ⟨z, y, k, rfl, _⟩ := h
  rfl
 obtain ⟨z, y, k, rfl, hz, hk, q⟩ := h
 refine ⟨_, pss_cons (ps_set (i := 3) sc_run_of.nd rfl (.inl rfl) (pv 1))
  (pss_cons (ps_while PassesOwn.never (PW.pt (pw_and (pt_cmpR op_lt (pv 3) (pe_callB call_len_str rfl B.len PySem.boot_len (pa_cons (pv 0) pa_nil)) (nomark _)) (pw_and1 (pt_cmpR op_in_sign (pe_ix ix_str (pv 0) (pv 3) (fun _ _ => rfl)) (pv 2) (by rfl)))))
   (pss_one (ps_aug (i := 3) sc_run_of.nd rfl (.inl rfl) pe_int ip_add)))
  (pss_one (ps_ret (pe_slice sl_str (pv 0) (po_some (pv 1)) (po_some (pv 3)))))), ?_⟩
 have hzl : z.length <= sizeLine := by have := sizeLine_eq; omega
 have hl := len_cps z
 refine ⟨_, rfl, ?_⟩
 refine ⟨fun mm σ H2 => ∃ e : Nat, mm = z.length - e /\ H2 = H /\ σ = [some (.str z), some (.int (k : Int)), some (.str y), some (.int (e : Int))] /\ k <= e /\ e <= z.length /\ (∀ j c, k <= j -> j < e -> z.cps.toList[j]? = some c -> c ∈ y.cps.toList), ⟨_, k, rfl, rfl, rfl, Nat.le_refl _, hk, fun j c h1 h2 _ => by omega⟩, fun mm σ H2 h2 => ?_⟩
 obtain ⟨e, rfl, rfl, rfl, ke, el, hin⟩ := h2
 refine ⟨_, rfl, _, rfl, z, rfl, hzl, _, _, rfl, rfl, _, rfl, ?_⟩
 have fin : (∀ c, z.cps.toList[e]? = some c -> c ∉ y.cps.toList) -> Q (.str (cutS z (some (k : Int)) (some (e : Int)))) H2 := fun ho => q e ke el hin ho
 by_cases hlt : e < z.length
 ·rw [show decide ((e : Int) < (z.length : Int)) = true from decide_eq_true (by omega)]
  refine iteT ?_
  obtain ⟨c, hc⟩ : ∃ c, z.cps.toList[e]? = some c := ⟨_, List.getElem?_eq_getElem (by omega)⟩
  refine ⟨_, rfl, _, rfl, z, _, c, rfl, rfl, hzl, atI_natN hc, _, rfl, c, y, rfl, rfl, _, rfl, ?_⟩
  by_cases hm : c ∈ y.cps.toList
  ·rw [decide_eq_true hm]
   refine iteT ?_
   refine ⟨_, fun σ' H' z => z, ?_⟩
   refine ⟨_, rfl, _, _, rfl, rfl, z.length - (e + 1), by omega, e + 1, rfl, rfl, rfl, by omega, by omega, fun j c' h1 h2 h3 => ?_⟩
   rcases Nat.lt_or_ge j e with h | h
   ·exact hin j c' h1 h h3
   ·have : j = e := by omega
    subst this
    rw [hc] at h3; cases h3; exact hm
  ·rw [decide_eq_false hm]
   refine iteF ?_
   refine ⟨_, rfl, _, rfl, _, rfl, _, rfl, _, rfl, z, rfl, hzl, fin fun c' h' => ?_⟩
   rw [hc] at h'; cases h'; exact hm
 ·rw [show decide ((e : Int) < (z.length : Int)) = false from decide_eq_false (by omega)]
  refine iteF (iteF ?_)
  refine ⟨_, rfl, _, rfl, _, rfl, _, rfl, _, rfl, z, rfl, hzl, fin fun c' h' => ?_⟩
  have := (List.getElem?_eq_some_iff.mp h').1
  omega
theorem sc_is_tree : FnScope ["thing"] ["thing"] (defScope s_is_tree) := ⟨rfl, rfl, rfl, by decide +kernel, rfl, by decide +kernel, by decide +kernel⟩
theorem none_is_tree {ps : List Str} {k : Nat} : FnOk P w K mg base CX0 k f fd ps (spIsTree K 0) := none_sp fun vs H Q E ⟨v, d, _, _, h, _⟩ => by omega
theorem ok_is_tree {n : Nat} (B : BI mg) (GN : Got P w K mg base "is_name" ["thing"] 2 (spName K)) (G : Got P w K mg base "is_grove" ["thing"] (n + 3) (spIsGrove K n)) (F : Fun K "is_tree" "is_tree" s_is_tree f fd) :
  FnOk P w K mg base CX0 (n + 4) f fd ["thing"] (spIsTree K (n + 1)) := by
 refine F.ok sc_is_tree (fun vs H Q E h => ?_) (fun cdv A outer s H vs Q E hr h => ?_)
 ·obtain ⟨v, l, rfl, _⟩ := h
  rfl
 obtain ⟨v, d, rfl, th, hd, h80, hw, q⟩ := h
 refine ⟨_, pss_one (ps_ret (pe_and (pe_isi B (pv 0) B.tuple boot_tuple) (pe_and (pe_cmpR op_eq (pe_callB call_len_seq rfl B.len PySem.boot_len (pa_cons (pv 0) pa_nil)) pe_int (nomark _))
  (pe_and (pe_got GN (hr.mono (by omega)) rfl (pa_cons (pe_ix ix_tup (pv 0) pe_int (fun _ _ => rfl)) pa_nil)) (pe_one (pe_got G hr rfl (pa_cons (pe_ix ix_tup (pv 0) pe_int (fun _ _ => rfl)) pa_nil))))))), ?_⟩
 obtain ⟨n1, b, ty, kb, y1, y2⟩ := th.ty
 refine ⟨_, rfl, _, _, n1, b, rfl, ty, kb, b, rfl, ?_⟩
 cases b with
 | false =>
  refine iteF ?_
  have e : treeD d = false := by
   cases d with
   | tuple ds => exact absurd rfl (y2 rfl ds)
   | _ => simp [treeD]
  have := q H SB.refl
  rw [e] at this
  exact this
 | true =>
 refine iteT ?_
 obtain ⟨a, xs, ds, rfl, rfl, hs, ha⟩ := y1 rfl
 refine ⟨_, rfl, a, xs, rfl, .inr hs, rfl, _, rfl, ?_⟩
 have hl := TgAll.length ha
 refine ite2 (fun c => ?_) (fun c => ?_)
 ·have c' : V.int (xs.length : Nat) = V.int 2 := of_decide_eq_true c
  injection c' with c'
  have c2 : xs.length = 2 := by omega
  cases ha with
  | nil => simp at c2
  | cons t1 ta =>
   cases ta with
   | nil => simp at c2
   | cons t2 ta =>
    cases ta with
    | cons t3 ta => simp at c2
    | nil =>
     rename_i v1 d1 v2 d2
     have q1 : d2.depth < PyData.depth (.tuple [d1, d2]) := by simp only [PyData.depth, PyData.depthAll]; omega
     have q2 : wide d2 <= wide (.tuple [d1, d2]) := by simp only [wide, wides]; omega
     refine ⟨_, rfl, a, _, _, _, rfl, rfl, hs, atI_nat (j := 0) rfl, v1, d1, rfl, t1, fun H1 h1 => ?_⟩
     refine ⟨_, rfl, ?_⟩
     cases e1 : nameD d1 with
     | false =>
      refine iteF ?_
      have := q H1 h1
      have e : treeD (.tuple [d1, d2]) = false := by simp [treeD, trD2, e1]
      rw [e] at this
      exact this
     | true =>
      refine iteT ?_
      refine ⟨_, rfl, a, _, _, _, rfl, rfl, h1.sqT hs, atI_nat (j := 1) rfl, v2, d2, rfl, Tg_sb h1 t2, by omega, by omega, by omega, fun H2 h2 => ?_⟩
      have := q H2 (h1.trans h2)
      have e : treeD (.tuple [d1, d2]) = groveD d2 := by simp [treeD, trD2, trD3, e1]
      rw [e] at this
      exact this
 ·have c' : ¬ V.int (xs.length : Nat) = V.int 2 := of_decide_eq_false (Bool.eq_false_iff.mpr c)
  have c2 : ¬ xs.length = 2 := fun z => c' (by rw [z]; rfl)
  have e : treeD (.tuple ds) = false := by
   cases e : treeD (.tuple ds) with
   | false => rfl
   | true =>
    obtain ⟨t, e2⟩ := treeD_tr _ e
    injection e2 with e2
    rw [e2] at hl
    exact absurd hl c2
  have := q H SB.refl
  rw [e] at this
  exact this
abbrev N_is_grove : List Str := ["thing", "pair"]
theorem sc_is_grove : FnScope N_is_grove ["thing"] (defScope s_is_grove) := ⟨rfl, rfl, rfl, by decide +kernel, rfl, by decide +kernel, by decide +kernel⟩
theorem none_is_grove {ps : List Str} {k : Nat} : FnOk P w K mg base CX0 k f fd ps (spIsGrove K 0) := none_sp fun vs H Q E ⟨v, d, _, _, h, _⟩ => by omega
theorem exp0_pEnc (bs : List (Tr × Int)) : (bs.map Gr.pEnc).map exp0 = bs.map fun p => Gr.tEnc p.1 := by rw [List.map_map]; rfl
theorem noLists_trs : ∀ bs : List (Tr × Int), noLists (bs.map fun p => Gr.tEnc p.1) = true
 | [] => by simp [noLists]
 | p :: r => by rw [List.map_cons, noLists, noLists_trs r, Gr.noList_tEnc]; rfl
theorem ok_is_grove {n : Nat} (B : BI mg) (GR : Got P w K mg base "is_rising" ["things"] 1 (spRising K)) (G : Got P w K mg base "are_grove_pairs" ["things"] (n + 3) (spPairsQ K true n)) (F : Fun K "is_grove" "is_grove" s_is_grove f fd) :
  FnOk P w K mg base CX0 (n + 4) f fd ["thing"] (spIsGrove K (n + 1)) := by
 refine F.ok sc_is_grove (fun vs H Q E h => ?_) (fun cdv A outer s H vs Q E hr h => ?_)
 ·obtain ⟨v, l, rfl, _⟩ := h
  rfl
 obtain ⟨v, d, rfl, th, hd, h80, hw, q⟩ := h
 refine ⟨_, pss_cons (ps_if (PW.pt (pw_or (pt_not (pt_val (pe_isi B (pv 0) B.tuple boot_tuple))) (pw_or1 (pt_not (pt_val (pe_got G hr rfl (pa_cons (pv 0) pa_nil))))))) (pss_one (ps_ret pe_bl)) pss_nil)
  (pss_one (ps_ret (pe_got GR (hr.mono (by omega)) rfl (pa_cons (pe_lc (own := [("pair", 1)]) (g := gName 1) (tt := tYes) (te := tOp (rIxT K) (tVar 1) (tC (.int 0))) rfl sc_is_grove.nd
   (pi_tup (pv 0))
   (blkOk_by (N := N_is_grove) (sc := defScope s_is_grove) (by decide +kernel))
   (fun _ _ _ _ _ => pg_name (i := 1) sc_is_grove.nd rfl (.inl rfl))
   (fun _ _ _ _ _ => pts_nil)
   (fun _ _ _ _ _ => pe_ix ix_tup (pv 1) pe_int (fun _ _ => rfl))) pa_nil)))), ?_⟩
 obtain ⟨n1, b, ty, kb, y1, y2⟩ := th.ty
 refine ⟨_, rfl, _, _, n1, b, rfl, ty, kb, b, rfl, ?_⟩
 cases b with
 | false =>
  refine iteT (iteT ?_)
  have e : groveD d = false := by
   cases d with
   | tuple ds => exact absurd rfl (y2 rfl ds)
   | _ => simp [groveD]
  have := q H SB.refl
  rw [e] at this
  exact this
 | true =>
 refine iteF ?_
 obtain ⟨a, xs, ds, rfl, rfl, hs, ha⟩ := y1 rfl
 have hl := TgAll.length ha
 have m3 : PyData.depth (.tuple ds) = PyData.depthAll ds + 1 := by simp [PyData.depth]
 refine ⟨_, rfl, a, xs, ds, rfl, by simpa using hs, ha, by omega, by omega, hw, fun H2 h2 => ⟨_, rfl, ?_⟩⟩
 cases e1 : grPs ds with
 | false =>
  refine iteT ?_
  have := q H2 h2
  rw [groveD, e1] at this
  exact this
 | true =>
  refine iteF ?_
  obtain ⟨g, rfl⟩ := grPs_enc ds e1
  have hga : GA K H (.ref a) g := Dp.tup hs (Tg_ga g ha)
  obtain ⟨a', xs', e', hs', hb⟩ := GA_bears (hga.sb h2)
  cases e'
  have hlen := hb.length
  have gl : g.encs.length = g.ps.length := by rw [Gr.encs_ps, List.length_map]
  rw [wide_tuple] at hw
  refine ⟨_, rfl, a, rfl, ⟨xs', hs'⟩, fun D hD => ?_⟩
  refine lc_it (walk_tup (xs := xs')) (fun i H3 => SB [D] H2 H3 /\ ∃ acc, H3 D = some (.lst acc) /\ DpAll K H3 acc ((g.ps.take i).map fun p => Gr.tEnc p.1)) ⟨SB.new hD _, [], upd_same, .nil⟩ (fun i H3 hi h3 => (h3.1.drop hD).sqT hs') (fun i x H3 H' hi h3 y => ?_) (fun H3 h3 => ?_)
  ·obtain ⟨h3, acc, h4, h5⟩ := h3
   obtain ⟨rfl, ex⟩ := y
   obtain ⟨p, ep, hpd⟩ := hb.get ex
   obtain ⟨ad, bd, ux, rfl, hsx, hst, hdx, hdt⟩ := PA_parts hpd
   have h6 := h3.drop hD
   have hla2 := DpAll.length h5
   refine ⟨rfl, ?_⟩
   refine ⟨_, rfl, ad, _, _, _, rfl, rfl, h6.sqT hsx, atI_nat (j := 0) rfl, acc, h4, ?_, ?_⟩
   ·rw [hla2, List.length_map, List.length_take]
    exact small1000 (by omega)
   ·have h7 := SB.set (ps := [D]) h4 (by simp) (.lst (acc ++ [.ref bd]))
    refine ⟨h3.trans h7, _, upd_same, ?_⟩
    rw [List.take_add_one, ep, List.map_append]
    exact DpAll.append (DpAll_sb h7 _ _ (noLists_trs _) h5) (.cons (Dp_sb h7 _ _ (Gr.noList_tEnc _) (Dp_sb h6 _ _ (Gr.noList_tEnc _) hdt)) .nil)
  ·obtain ⟨h3', acc, h4, h5⟩ := h3
   rw [hlen, List.take_length] at h5
   have h6 := h3'.drop hD
   have hla2 := DpAll.length h5
   refine ⟨D, acc, g.ps.map fun p => Gr.tEnc p.1, rfl, SqL.of h4, h5, ?_, ?_, ?_, fun H9 h9 => ?_⟩
   ·intro d hd'
    obtain ⟨p1, m1, rfl⟩ := List.mem_map.mp hd'
    have hd2 : (Gr.pEnc p1).depth <= PyData.depthAll g.encs := PyData.depth_le_depthAll _ _ (by rw [Gr.encs_ps]; exact List.mem_map_of_mem m1)
    have hd3 : (Gr.tEnc p1.1).depth < (Gr.pEnc p1).depth := by
     show _ < (PyData.tuple [Gr.tEnc p1.1, .int p1.2]).depth
     simp only [PyData.depth, PyData.depthAll]; omega
    exact ⟨Gr.noList_tEnc _, (fun z : Gr.tEnc p1.1 = .none => by simp [Gr.tEnc] at z), by omega⟩
   ·intro d hd' d2 hd2
    obtain ⟨p1, _, rfl⟩ := List.mem_map.mp hd'
    obtain ⟨p2, _, rfl⟩ := List.mem_map.mp hd2
    exact Orderly.al (enc := Gr.tEnc) _ _
   ·rw [hla2, List.length_map]; omega
   ·have := q H9 ((h2.trans h6).trans h9)
    rw [groveD, e1, Bool.true_and, Gr.encs_ps, exp0_pEnc] at this
    exact this
abbrev N_are_pairs : List Str := ["things", "thing"]
theorem sc_are_grove_pairs : FnScope N_are_pairs ["things"] (defScope s_are_grove_pairs) := ⟨rfl, rfl, rfl, by decide +kernel, rfl, by decide +kernel, by decide +kernel⟩
theorem none_are_grove_pairs {ps : List Str} {tp : Bool} {k : Nat} : FnOk P w K mg base CX0 k f fd ps (spPairsQ K tp 0) := none_sp fun vs H Q E ⟨a, xs, ds, _, _, _, h, _⟩ => by omega
theorem grPs_all : ∀ ds : List PyData, grPs ds = ds.all grP
 | [] => by rw [grPs]; rfl
 | d :: ds => by rw [grPs, grPs_all ds]; rfl
theorem ok_are_grove_pairs {n : Nat} (B : BI mg) (GM : Got P w K mg base "is_many" ["thing"] 2 (spMany K [])) (G : Got P w K mg base "is_tree" ["thing"] (n + 3) (spIsTree K n)) (F : Fun K "are_grove_pairs" "are_grove_pairs" s_are_grove_pairs f fd) :
  FnOk P w K mg base CX0 (n + 4) f fd ["things"] (spPairsQ K true (n + 1)) := by
 refine F.ok sc_are_grove_pairs (fun vs H Q E h => ?_) (fun cdv A outer s H vs Q E hr h => ?_)
 ·obtain ⟨a, xs, ds, rfl, _⟩ := h
  rfl
 obtain ⟨a, xs, ds, rfl, hs, ha, hd, h79, hw, q⟩ := h
 refine ⟨_, pss_cons (ps_for PassesOwn.never rfl (pi_tup (pv 0)) (pg_name (i := 1) sc_are_grove_pairs.nd rfl (.inl rfl))
   (pss_cons (ps_if (PW.pt (pw_or (pt_not (pt_val (pe_isi B (pv 1) B.tuple boot_tuple))) (pw_or1 (pt_cmpR op_ne (pe_callB call_len_seq rfl B.len PySem.boot_len (pa_cons (pv 1) pa_nil)) pe_int (nomark _))))) (pss_one (ps_ret pe_bl)) pss_nil)
   (pss_one (ps_if (PW.pt (pw_or (pt_not (pt_val (pe_got G hr rfl (pa_cons (pe_ix ix_tup (pv 1) pe_int (fun _ _ => rfl)) pa_nil)))) (pw_or1 (pt_not (pt_val (pe_got GM (hr.mono (by omega)) rfl (pa_cons (pe_ix ix_tup (pv 1) pe_int (fun _ _ => rfl)) pa_nil))))))) (pss_one (ps_ret pe_bl)) pss_nil))))
  (pss_one (ps_ret pe_bl)), ?_⟩
 have hs : SqT K H a xs := by simpa using hs
 have hl := TgAll.length ha
 rw [wide_tuple] at hw
 refine ⟨_, rfl, a, rfl, ⟨xs, hs⟩, ?_⟩
 refine for_tup (K := K) (a := a) (xs := xs) (fun i σ H2 => SB [] H H2 /\ (∃ o, σ = [some (.ref a), o]) /\ (ds.take i).all grP = true) ⟨SB.refl, ⟨none, rfl⟩, by simp⟩ (fun i σ H2 hi h2 => h2.1.sqT hs) (fun i x σ H2 hx h2 => ?_) (fun σ H2 h2 => ?_)
 ·obtain ⟨h2, ⟨o, rfl⟩, h3⟩ := h2
  obtain ⟨dx, ex, tx⟩ := TgAll.get ha hx
  have mx := List.mem_of_getElem? ex
  have m1 := depthAll_get ex
  have m2 := wide_mem _ _ mx
  have no : grP dx = false -> ∀ H', SB [] H2 H' -> Q (.bl false) H' := fun e H' s' => by
   have := q H' (h2.trans s')
   have e2 : grPs ds = false := by
    rw [grPs_all, List.all_eq_false]
    exact ⟨dx, mx, by rw [e]; exact Bool.false_ne_true⟩
   rw [e2] at this
   exact this
  obtain ⟨n1, b, ty, kb, y1, y2⟩ := (Tg_sb h2 tx).ty
  refine ⟨_, rfl, _, _, n1, b, rfl, ty, kb, b, rfl, ?_⟩
  cases b with
  | false =>
   refine iteT (iteT (no ?_ _ SB.refl))
   cases dx with
   | tuple ds => exact absurd rfl (y2 rfl ds)
   | _ => simp [grP]
  | true =>
  refine iteF ?_
  obtain ⟨b1, ys, es, rfl, rfl, hs1, ha1⟩ := y1 rfl
  refine ⟨_, rfl, b1, ys, rfl, .inr hs1, rfl, _, rfl, ?_⟩
  have hl1 := TgAll.length ha1
  by_cases c2 : ys.length = 2
  ·rw [show (!decide (V.int (ys.length : Nat) = V.int 2)) = false by rw [c2]; rfl]
   refine iteF ?_
   cases ha1 with
   | nil => simp at c2
   | cons t1 ta =>
    cases ta with
    | nil => simp at c2
    | cons t2 ta =>
     cases ta with
     | cons t3 ta => simp at c2
     | nil =>
      rename_i v1 d1 v2 d2
      have q1 : d1.depth < PyData.depth (.tuple [d1, d2]) := by simp only [PyData.depth, PyData.depthAll]; omega
      have q2 : wide d1 <= wide (.tuple [d1, d2]) := by simp only [wide, wides]; omega
      refine ⟨_, rfl, b1, _, _, _, rfl, rfl, hs1, atI_nat (j := 0) rfl, v1, d1, rfl, t1, by omega, by omega, by omega, fun H3 h3' => ?_⟩
      refine ⟨_, rfl, ?_⟩
      cases e1 : treeD d1 with
      | false => exact iteT (iteT (no (by simp [grP, grP2, e1]) _ h3'))
      | true =>
       refine iteF ?_
       refine ⟨_, rfl, b1, _, _, _, rfl, rfl, h3'.sqT hs1, atI_nat (j := 1) rfl, v2, strip d2, rfl, (Tg_sb h3' t2).th, _, rfl, ?_⟩
       rw [many_strip]
       have e : grP (.tuple [d1, d2]) = manyD d2 := by simp [grP, grP2, ladP3, e1]
       cases e2 : manyD d2 with
       | false => exact iteT (no (by rw [e, e2]) _ h3')
       | true =>
        refine iteF ⟨h2.trans h3', ⟨_, rfl⟩, ?_⟩
        rw [List.take_add_one, ex, List.all_append, h3]
        simp [e, e2]
  ·rw [show (!decide (V.int (ys.length : Nat) = V.int 2)) = true by rw [decide_eq_false (fun z => by injection z with z; omega)]; rfl]
   refine iteT (no ?_ _ SB.refl)
   cases e : grP (.tuple es) with
   | false => rfl
   | true =>
    obtain ⟨t, i, e2, _⟩ := grP_enc _ e
    injection e2 with e2
    rw [e2] at hl1
    exact absurd hl1 c2
 ·obtain ⟨h2, ⟨o, rfl⟩, h3⟩ := h2
  rw [hl, List.take_length, <- grPs_all] at h3
  have := q H2 h2
  rw [h3] at this
  exact this
theorem ok_are_grove_pairsL {n : Nat} (B : BI mg) (GM : Got P w K mg base "is_many" ["thing"] 2 (spMany K [])) (G : Got P w K mg base "is_tree" ["thing"] (n + 3) (spIsTree K n)) (F : Fun K "are_grove_pairs" "are_grove_pairs" s_are_grove_pairs f fd) :
  FnOk P w K mg base CX0 (n + 4) f fd ["things"] (spPairsQ K false (n + 1)) := by
 refine F.ok sc_are_grove_pairs (fun vs H Q E h => ?_) (fun cdv A outer s H vs Q E hr h => ?_)
 ·obtain ⟨a, xs, ds, rfl, _⟩ := h
  rfl
 obtain ⟨a, xs, ds, rfl, hs, ha, hd, h79, hw, q⟩ := h
 refine ⟨_, pss_cons (ps_for PassesOwn.never rfl (pi_list (pv 0)) (pg_name (i := 1) sc_are_grove_pairs.nd rfl (.inl rfl))
   (pss_cons (ps_if (PW.pt (pw_or (pt_not (pt_val (pe_isi B (pv 1) B.tuple boot_tuple))) (pw_or1 (pt_cmpR op_ne (pe_callB call_len_seq rfl B.len PySem.boot_len (pa_cons (pv 1) pa_nil)) pe_int (nomark _))))) (pss_one (ps_ret pe_bl)) pss_nil)
   (pss_one (ps_if (PW.pt (pw_or (pt_not (pt_val (pe_got G hr rfl (pa_cons (pe_ix ix_tup (pv 1) pe_int (fun _ _ => rfl)) pa_nil)))) (pw_or1 (pt_not (pt_val (pe_got GM (hr.mono (by omega)) rfl (pa_cons (pe_ix ix_tup (pv 1) pe_int (fun _ _ => rfl)) pa_nil))))))) (pss_one (ps_ret pe_bl)) pss_nil))))
  (pss_one (ps_ret pe_bl)), ?_⟩
 have hs : SqL K H a xs := by simpa using hs
 have hl := TgAll.length ha
 rw [wide_tuple] at hw
 refine ⟨_, rfl, a, rfl, ⟨xs, hs⟩, ?_⟩
 refine for_list (K := K) (a := a) (xs := xs) (fun i σ H2 => SB [] H H2 /\ (∃ o, σ = [some (.ref a), o]) /\ (ds.take i).all grP = true) ⟨SB.refl, ⟨none, rfl⟩, by simp⟩ (fun i σ H2 hi h2 => h2.1.sqL nmn hs) (fun i x σ H2 hx h2 => ?_) (fun σ H2 h2 => ?_)
 ·obtain ⟨h2, ⟨o, rfl⟩, h3⟩ := h2
  obtain ⟨dx, ex, tx⟩ := TgAll.get ha hx
  have mx := List.mem_of_getElem? ex
  have m1 := depthAll_get ex
  have m2 := wide_mem _ _ mx
  have no : grP dx = false -> ∀ H', SB [] H2 H' -> Q (.bl false) H' := fun e H' s' => by
   have := q H' (h2.trans s')
   have e2 : grPs ds = false := by
    rw [grPs_all, List.all_eq_false]
    exact ⟨dx, mx, by rw [e]; exact Bool.false_ne_true⟩
   rw [e2] at this
   exact this
  obtain ⟨n1, b, ty, kb, y1, y2⟩ := (Tg_sb h2 tx).ty
  refine ⟨_, rfl, _, _, n1, b, rfl, ty, kb, b, rfl, ?_⟩
  cases b with
  | false =>
   refine iteT (iteT (no ?_ _ SB.refl))
   cases dx with
   | tuple ds => exact absurd rfl (y2 rfl ds)
   | _ => simp [grP]
  | true =>
  refine iteF ?_
  obtain ⟨b1, ys, es, rfl, rfl, hs1, ha1⟩ := y1 rfl
  refine ⟨_, rfl, b1, ys, rfl, .inr hs1, rfl, _, rfl, ?_⟩
  have hl1 := TgAll.length ha1
  by_cases c2 : ys.length = 2
  ·rw [show (!decide (V.int (ys.length : Nat) = V.int 2)) = false by rw [c2]; rfl]
   refine iteF ?_
   cases ha1 with
   | nil => simp at c2
   | cons t1 ta =>
    cases ta with
    | nil => simp at c2
    | cons t2 ta =>
     cases ta with
     | cons t3 ta => simp at c2
     | nil =>
      rename_i v1 d1 v2 d2
      have q1 : d1.depth < PyData.depth (.tuple [d1, d2]) := by simp only [PyData.depth, PyData.depthAll]; omega
      have q2 : wide d1 <= wide (.tuple [d1, d2]) := by simp only [wide, wides]; omega
      refine ⟨_, rfl, b1, _, _, _, rfl, rfl, hs1, atI_nat (j := 0) rfl, v1, d1, rfl, t1, by omega, by omega, by omega, fun H3 h3' => ?_⟩
      refine ⟨_, rfl, ?_⟩
      cases e1 : treeD d1 with
      | false => exact iteT (iteT (no (by simp [grP, grP2, e1]) _ h3'))
      | true =>
       refine iteF ?_
       refine ⟨_, rfl, b1, _, _, _, rfl, rfl, h3'.sqT hs1, atI_nat (j := 1) rfl, v2, strip d2, rfl, (Tg_sb h3' t2).th, _, rfl, ?_⟩
       rw [many_strip]
       have e : grP (.tuple [d1, d2]) = manyD d2 := by simp [grP, grP2, ladP3, e1]
       cases e2 : manyD d2 with
       | false => exact iteT (no (by rw [e, e2]) _ h3')
       | true =>
        refine iteF ⟨h2.trans h3', ⟨_, rfl⟩, ?_⟩
        rw [List.take_add_one, ex, List.all_append, h3]
        simp [e, e2]
  ·rw [show (!decide (V.int (ys.length : Nat) = V.int 2)) = true by rw [decide_eq_false (fun z => by injection z with z; omega)]; rfl]
   refine iteT (no ?_ _ SB.refl)
   cases e : grP (.tuple es) with
   | false => rfl
   | true =>
    obtain ⟨t, i, e2, _⟩ := grP_enc _ e
    injection e2 with e2
    rw [e2] at hl1
    exact absurd hl1 c2
 ·obtain ⟨h2, ⟨o, rfl⟩, h3⟩ := h2
  rw [hl, List.take_length, <- grPs_all] at h3
  have := q H2 h2
  rw [h3] at this
  exact this
theorem sc_pairs_within : FnScope ["grove", "found", "pair"] ["grove"] (defScope s_pairs_within) := ⟨rfl, rfl, rfl, by decide +kernel, rfl, by decide +kernel, by decide +kernel⟩
theorem ok_pairs_within {n : Nat} (G : Got P w K mg base "pairs_within" ["grove"] n (spPairsW K n)) (F : Fun K "pairs_within" "pairs_within" s_pairs_within f fd) : FnOk P w K mg base CX0 (n + 1) f fd ["grove"] (spPairsW K (n + 1)) := by
 refine F.ok sc_pairs_within (fun vs H Q E h => ?_) (fun cdv A outer s H vs Q E hr h => ?_)
 ·obtain ⟨v, g, rfl, _⟩ := h
  rfl
 obtain ⟨v, g, rfl, hg, hd, hp, q⟩ := h
 refine ⟨_, pss_cons (ps_set (i := 1) sc_pairs_within.nd rfl (.inl rfl) (pe_lst pa_nil))
  (pss_cons (ps_for PassesOwn.never rfl (pi_tup (pv 0)) (pg_name (i := 2) sc_pairs_within.nd rfl (.inl rfl))
   (pss_cons (ps_expr (pe_bm PySem.F.plainAttrs_list PySem.F.slot_list_append PySem.F.type_list_append mt_append (pv 1) (pa_cons (pv 2) pa_nil)))
   (pss_one (ps_expr (pe_bm PySem.F.plainAttrs_list PySem.F.slot_list_extend PySem.F.type_list_extend mt_extend (pv 1) (pa_cons (pe_got G hr rfl (pa_cons (pe_ix ix_tup (pe_ix ix_tup (pv 2) pe_int (fun _ _ => rfl)) pe_int (fun _ _ => rfl)) pa_nil)) pa_nil))))))
  (pss_one (ps_ret (pv 1)))), ?_⟩
 obtain ⟨a, xs, rfl, hs, hb⟩ := GA_bears hg
 have bl := hb.length
 have wl := g.within_length
 refine ⟨(by show 0 <= sizeLine; decide), fun D hD => ?_⟩
 refine ⟨_, rfl, a, rfl, ⟨xs, (SB.new (ps := []) hD _).sqT hs⟩, ?_⟩
 refine for_it (walk_tup (xs := xs)) (fun i σ H2 => SB [D] H H2 /\ ∃ us o2, σ = [some (.ref a), some (.ref D), o2] /\ H2 D = some (.lst us) /\ Bears K H2 Gr.pEnc us ((g.ps.take i).flatMap fun p => p :: p.1.2.within)) ⟨SB.new hD _, [], none, rfl, upd_same, .nil⟩ (fun i σ H2 hi h2 => (h2.1.drop hD).sqT hs) (fun i x σ H2 H' hi h2 y => ?_) (fun σ H2 h2 => ?_)
 ·obtain ⟨s2, us, o2, rfl, hD2, hb2⟩ := h2
  obtain ⟨rfl, ex⟩ := y
  obtain ⟨p, ep, hpd⟩ := hb.get ex
  have pm := List.mem_of_getElem? ep
  obtain ⟨ad, td, ux, rfl, hs2, hs3, hga, _⟩ := PA_parts hpd
  have s2' := s2.drop hD
  have ul := hb2.length
  have hsplit : (g.ps.take (i + 1)).flatMap (fun p => p :: p.1.2.within) = (g.ps.take i).flatMap (fun p => p :: p.1.2.within) ++ (p :: p.1.2.within) := by rw [List.take_add_one, ep]; simp
  have hle : ((g.ps.take i).flatMap (fun p => p :: p.1.2.within)).length + (p.1.2.within.length + 1) <= 200000 := by
   have h1 : g.within = (g.ps.take (i + 1)).flatMap (fun p => p :: p.1.2.within) ++ (g.ps.drop (i + 1)).flatMap (fun p => p :: p.1.2.within) := by rw [Gr.within_ps, <- List.flatMap_append, List.take_append_drop]
   have h2 := congrArg List.length h1
   rw [hsplit, List.length_append, List.length_append, List.length_cons, wl] at h2
   omega
  refine ⟨_, rfl, .inl ⟨rfl, _, SqL.of hD2⟩, _, rfl, D, us, _, rfl, rfl, hD2, small5 (by omega), ?_⟩
  have t3 := SB.set (ps := [D]) hD2 (by simp) (.lst (us ++ [.ref ad]))
  have hD3 : (upd H' D (.lst (us ++ [.ref ad]))) D = some (.lst (us ++ [.ref ad])) := upd_same
  have hb3 := Bears.append (hb2.sb t3 Gr.noList_pEnc) (.cons (Dp_sb (s2.trans t3) _ _ (Gr.noList_pEnc _) hpd) .nil)
  have s3 := s2.trans t3
  have s3' := s3.drop hD
  generalize hH3 : upd H' D (.lst (us ++ [.ref ad])) = H3 at t3 hD3 hb3 s3 s3'
  have pd := g.mem_deep p pm
  have pp := g.mem_parts p pm
  refine ⟨_, rfl, .inl ⟨rfl, _, SqL.of hD3⟩, _, rfl, ad, _, _, _, rfl, rfl, s3'.sqT hs2, atI_nat (j := 0) rfl, td, _, _, _, rfl, rfl, s3'.sqT hs3, atI_nat (j := 1) rfl, ux, p.1.2, rfl, hga.sb s3', by omega, by omega, fun D2 vs2 H4 s4 hDn hD4 hb4 => ?_⟩
  have hD4' := s4.keep _ _ hD3 nmn
  have vl := hb4.length
  refine ⟨D, D2, _, _, rfl, rfl, hD4', hD4, ?_, ?_⟩
  ·rw [List.length_append, List.length_singleton]
   have : 1000000 <= sizeLine := by decide
   omega
  have t5 := SB.set (ps := [D]) hD4' (by simp) (.lst (us ++ [.ref ad] ++ vs2))
  refine ⟨(s3.trans s4.nil).trans t5, _, _, rfl, upd_same, ?_⟩
  rw [hsplit, show ((g.ps.take i).flatMap (fun p => p :: p.1.2.within) ++ (p :: p.1.2.within)) = (g.ps.take i).flatMap (fun p => p :: p.1.2.within) ++ [p] ++ p.1.2.within by simp]
  exact Bears.append ((hb3.sb s4 Gr.noList_pEnc).sb t5 Gr.noList_pEnc) (hb4.sb t5 Gr.noList_pEnc)
 ·obtain ⟨s2, us, o2, rfl, hD2, hb2⟩ := h2
  rw [bl, List.take_length, <- Gr.within_ps] at hb2
  exact ⟨_, rfl, q D us H2 (s2.drop hD) hD hD2 hb2⟩
abbrev N_kinds_within : List Str := ["grove", "tree", "many"]
theorem sc_kinds_within : FnScope N_kinds_within ["grove"] (defScope s_kinds_within) := ⟨rfl, rfl, rfl, by decide +kernel, rfl, by decide +kernel, by decide +kernel⟩
theorem ok_kinds_within (B : BI mg) (G_pairs_within : Got P w K mg base "pairs_within" ["grove"] (70) (spPairsW K 70)) (F : Fun K "kinds_within" "kinds_within" s_kinds_within f fd) : FnOk P w K mg base CX0 (71) f fd ["grove"] (spKindsF K) := by
 refine F.ok sc_kinds_within (fun vs H Q E h => ?_) (fun cdv A outer s H vs Q E hr h => ?_)
 ·obtain ⟨v, g, ns, rfl, _⟩ := h
  rfl
 obtain ⟨v, g, ns, rfl, hv, hd, hp, hk, hn, q⟩ := h
 have hun2 := hunT hr
 refine ⟨_, pss_one (ps_ret (pe_callB (cr_sortedTx rfl) rfl B.sorted (by decide +kernel) (pa_cons (pe_scS (own := [("tree", 1), ("many", 2)]) (g := (gTup K 2 (gCons (gName 1) (gCons (gName 2) gNil)))) (tt := tYes) (te := (tOp (rIxT K) (tVar 1) (tC (.int 0)))) rfl sc_kinds_within.nd (pi_list (pe_got G_pairs_within (hr.mono (by omega)) rfl (pa_cons (pv 0) pa_nil))) (blkOk_by (N := N_kinds_within) (sc := defScope s_kinds_within) (by decide +kernel)) (fun _ _ _ _ _ => (pg_tup rfl (pgs_cons (pg_name (i := 1) sc_kinds_within.nd rfl (.inl rfl)) (pgs_cons (pg_name (i := 2) sc_kinds_within.nd rfl (.inl rfl)) pgs_nil)))) (fun _ _ _ _ _ => pts_nil) (fun _ _ _ _ _ => (pe_ix ix_tup (pv 1) pe_int (fun _ _ => rfl)))) pa_nil))), ?_⟩
 have scb : 3001 < scanBound := by decide +kernel
 have wl := g.within_length
 refine ⟨_, rfl, v, g, rfl, hv, by omega, by omega, fun ll us H1 s1 nll hll hbl => ?_⟩
 have ul := hbl.length
 refine ⟨ll, rfl, ⟨_, SqL.of hll⟩, fun D nD => ?_⟩
 refine sc_seq (walk_list (xs := us)) nD (by omega) (fun i ss H2 => ss.Nodup /\ ∀ x, x ∈ ss ↔ x ∈ (g.within.take i).map fun p : Tr × Int => p.1.1) ⟨List.nodup_nil, by simp⟩ (fun H2 s2 => s2.sqL nmn (SqL.of hll)) (fun _ _ _ _ _ h => h) (fun Pv i x Hq H2 ss hi s2 y hR hl fin _ => ?_) (fun ss H2 s2 hD2 hR hl => ?_)
 ·obtain ⟨rfl, ey⟩ := y
  obtain ⟨p, ep, hpd⟩ := hbl.get ey
  obtain ⟨ad, td, ux, rfl, hs2, hs3, hga, _⟩ := PA_parts hpd
  refine ⟨ad, _, rfl, s2.sqT hs2, rfl, _, _, rfl, _, _, rfl, rfl, rfl, ?_⟩
  refine ⟨_, rfl, td, _, _, _, rfl, rfl, s2.sqT hs3, atI_nat (j := 0) rfl, fin p.1.1 _ SB.refl ⟨insS_nodup hR.1, fun x => ?_⟩⟩
  rw [insS_mem, hR.2, List.take_add_one, ep, List.map_append, List.mem_append]
  simp [or_comm]
 ·rw [ul, List.take_length] at hR
  have sl : ss.length <= 60 := by
   have := hR.1.length_le_of_subset (l₂ := ns) fun x hx => by
    obtain ⟨p, hp, e⟩ := List.mem_map.mp ((hR.2 x).mp hx)
    rw [<- e]; exact hk p hp
   omega
  refine ⟨D, ss, rfl, hD2, by omega, fun ss' p pm srt np => ?_⟩
  have t3 := SB.new (ps := []) np (.lst (ss'.map V.str))
  exact q p ss' _ ((s1.trans s2).trans t3) ((s1.trans s2).dom _ np) upd_same (.perm pm srt hR.1 hR.2) (by rw [pm.length_eq]; omega)
abbrev N_rules_from_nought : List Str := ["book", "name"]
theorem sc_rules_from_nought : FnScope N_rules_from_nought ["book", "name"] (defScope s_rules_from_nought) := ⟨rfl, rfl, rfl, by decide +kernel, rfl, by decide +kernel, by decide +kernel⟩
theorem ok_rules_from_nought {C_NO_GROVES C_Book C_NoKind : Addr} (B : BI mg) (V_NO_GROVES : mg "NO_GROVES" = some (.ref C_NO_GROVES)) (W_NO_GROVES : ∀ H, Dp K H (.ref C_NO_GROVES) (Ru.enc (.nil, .nil))) (G_Book_rules : GotMX P w K mg base C_Book "rules" ["self", "name"] (4) (spBRules K C_Book C_NoKind)) (F : Fun K "rules_from_nought" "rules_from_nought" s_rules_from_nought f fd) : FnOk P w K mg base (L2.CX P w) (5) f fd ["book", "name"] (spRulesN K C_Book C_NoKind) := by
 refine F.okX sc_rules_from_nought (fun vs H Q E h => ?_) (fun cdv A outer s H vs Q E hr h => ?_)
 ·obtain ⟨v, b, n, rfl, _⟩ := h
  rfl
 obtain ⟨v, b, n, rfl, hb, hl, hr4, qk, qE⟩ := h
 have hun2 := hunT hr
 refine ⟨_, pss_one (ps_ret (pe_op op_cat (pe_lst (pa_cons (pe_glob (v := .ref C_NO_GROVES) rfl V_NO_GROVES rfl) pa_nil)) (pe_gotMS G_Book_rules (hr.mono (by omega)) (takes_of rfl rfl rfl rfl) (pv 0) (pa_cons (pv 1) pa_nil)))), ?_⟩
 have szl := sizeLine_eq
 obtain ⟨va, vdx, vd1, vd2, rfl, hva⟩ := hb.at
 refine ⟨by show 1 <= sizeLine; decide, fun L hL => ?_⟩
 have t1 := SB.new (ps := []) hL (.lst [.ref C_NO_GROVES])
 have hL1 : upd H L (.lst [.ref C_NO_GROVES]) L = some (.lst [.ref C_NO_GROVES]) := upd_same
 generalize upd H L (.lst [.ref C_NO_GROVES]) = H1 at t1 hL1
 refine ⟨_, rfl, va, vdx, _, rfl, t1.keep _ _ hva nmn, rfl, _, rfl, _, b, n, rfl, hb.sb0 t1, hl, hr4, fun k eg ll us H2 s2 nll hll hbl => ?_, fun z d H' s' nd hd => qE z d H' (t1.trans s') (t1.dom d nd) hd⟩
 have k4 := hr4 k (Bk.get_some eg).1
 have ul := hbl.length
 refine ⟨L, ll, _, _, rfl, rfl, s2.keep _ _ hL1 nmn, hll, by show 1 + _ <= sizeLine; omega, fun M hM => ?_⟩
 have t3 := SB.new (ps := []) hM (.lst ([.ref C_NO_GROVES] ++ us))
 have s3 := t1.trans s2
 exact qk k eg M _ _ (s3.trans t3) (s3.dom _ hM) upd_same (.cons (W_NO_GROVES _) (hbl.sb t3 Ru.noList_enc))
abbrev N_check_kind : List Str := ["book", "name"]
theorem sc_check_kind : FnScope N_check_kind ["book", "name"] (defScope s_check_kind) := ⟨rfl, rfl, rfl, by decide +kernel, rfl, by decide +kernel, by decide +kernel⟩
theorem ok_check_kind {C_NoKind C_Book : Addr} (B : BI mg) (O_NoKind : OwnI P w K mg base "NoKind" C_NoKind 1) (G_Book_names : GotM P w K mg base C_Book "names" ["self"] (1) (spBNames K C_Book)) (F : Fun K "check_kind" "check_kind" s_check_kind f fd) : FnOk P w K mg base (L2.CX P w) (3) f fd ["book", "name"] (spCheckK K C_Book C_NoKind) := by
 refine F.okX sc_check_kind (fun vs H Q E h => ?_) (fun cdv A outer s H vs Q E hr h => ?_)
 ·obtain ⟨v, b, n, rfl, _⟩ := h
  rfl
 obtain ⟨v, b, n, rfl, hb, hl, qk, qE⟩ := h
 have hun2 := hunT hr
 refine ⟨_, pss_one (ps_if (pt_cmpR op_notIn_seq (pv 1) (pe_gotM0 G_Book_names (hr.mono (by omega)) (pv 0)) (by rfl)) (pss_one (ps_raise rfl (takes_of rfl rfl rfl rfl) (pmk_kind O_NoKind (hr.mono (by omega)) rfl (pv 1)))) pss_nil), ?_⟩
 obtain ⟨a, dx, d1, d2, rfl, h1⟩ := hb.at
 refine ⟨_, rfl, _, rfl, a, dx, _, rfl, h1, rfl, ?_⟩
 refine ⟨_, b, rfl, hb, hl, fun l H1 s1 hn hl1 => ?_⟩
 refine ⟨l, _, rfl, .inl (SqL.of hl1), rfl, flat_strs _, _, rfl, ?_⟩
 rw [inV_strs, Bk.get_isSome]
 cases e : b.get n with
 | some k => exact qk k e H1 s1
 | none => exact ⟨_, rfl, fun d hd => qE e d _ (s1.trans (SB.new hd _)) (s1.dom d hd) upd_same⟩
abbrev N_check_kinds : List Str := ["book", "grove", "kind"]
theorem sc_check_kinds : FnScope N_check_kinds ["book", "grove"] (defScope s_check_kinds) := ⟨rfl, rfl, rfl, by decide +kernel, rfl, by decide +kernel, by decide +kernel⟩
theorem ok_check_kinds {C_Book C_NoKind : Addr} (B : BI mg) (G_kinds_within : Got P w K mg base "kinds_within" ["grove"] (71) (spKindsF K)) (G_check_kind : GotX P w K mg base "check_kind" ["book", "name"] (3) (spCheckK K C_Book C_NoKind)) (F : Fun K "check_kinds" "check_kinds" s_check_kinds f fd) : FnOk P w K mg base (L2.CX P w) (72) f fd ["book", "grove"] (spCheckKX K C_Book C_NoKind) := by
 refine F.okX sc_check_kinds (fun vs H Q E h => ?_) (fun cdv A outer s H vs Q E hr h => ?_)
 ·obtain ⟨v, w, b, g, ns, rfl, _⟩ := h
  rfl
 obtain ⟨v, w, b, g, ns, rfl, hv, hg, hl, hd, hp, hk, hn, q, qE⟩ := h
 have hun2 := hunT hr
 refine ⟨_, pss_one (ps_for (passes_of rfl) rfl (pi_list (pe_got G_kinds_within (hr.mono (by omega)) rfl (pa_cons (pv 1) pa_nil))) (pg_name (i := 2) sc_check_kinds.nd rfl (.inl rfl))
   (pss_one (ps_expr (pe_gotS G_check_kind (hr.mono (by omega)) rfl (takes_of rfl rfl rfl rfl) (pa_cons (pv 0) (pa_cons (pv 2) pa_nil)))))), ?_⟩
 refine ⟨_, rfl, w, g, ns, rfl, hg, hd, hp, hk, hn, fun l ss H1 s1 nl hls so sl => ?_⟩
 refine ⟨l, rfl, ⟨_, SqL.of hls⟩, ?_⟩
 refine for_it (walk_list (xs := ss.map V.str)) (fun i σ H2 => SB [] H1 H2 /\ (∀ m ∈ ss.take i, ¬ (m ∉ b.names)) /\ ∃ o2, σ = [some v, some w, o2]) ⟨SB.refl, by simp, none, rfl⟩ (fun i σ H2 hi h2 => h2.1.sqL nmn (SqL.of hls)) (fun i x σ Hq H2 hi h2 y => ?_) (fun σ H2 h2 => ?_)
 ·obtain ⟨s2, bef, o2, rfl⟩ := h2
  obtain ⟨rfl, ey⟩ := y
  rw [List.getElem?_map] at ey
  obtain ⟨k, ek, rfl⟩ := Option.map_eq_some_iff.mp ey
  have s02 := s1.trans s2
  refine ⟨_, rfl, _, rfl, v, b, k, rfl, hv.sb0 s02, by omega, fun kd e H3 s3 => ⟨s2.trans s3, fun m hm => ?_, _, rfl⟩, fun z d H3 s3 nd hd3 => qE k (.at so ek (fun hm => ?_) bef) d H3 (s02.trans s3) (s02.dom _ nd) hd3⟩
  ·rw [List.take_add_one, ek] at hm
   rcases List.mem_append.mp hm with z | z
   ·exact bef m z
   ·rw [List.mem_singleton.mp z]
    exact fun z => z (List.mem_map.mpr ⟨kd, (Bk.get_some e).1, (Bk.get_some e).2⟩)
  ·obtain ⟨kd, e⟩ := Bk.get_of hm
   rw [e] at z; cases z
 ·obtain ⟨s2, bef, o2, rfl⟩ := h2
  rw [List.length_map, List.take_length] at bef
  exact q (fun x hx => Classical.byContradiction fun z => bef x.1.1 ((so.mem _).mpr (List.mem_map.mpr ⟨x, hx, rfl⟩)) z) _ (s1.trans s2)
abbrev N_are_kinds : List Str := ["things", "thing", "names", "rule"]
theorem sc_are_kinds : FnScope N_are_kinds ["things"] (defScope s_are_kinds) := ⟨rfl, rfl, rfl, by decide +kernel, rfl, by decide +kernel, by decide +kernel⟩
theorem ok_are_kinds (B : BI mg) (L_MOST_KINDS : ∃ t, mg "MOST_KINDS" = some (.int (8) t)) (G_is_kind : Got P w K mg base "is_kind" ["thing"] (86) (spIsKind K)) (G_is_rule_of : Got P w K mg base "is_rule_of" ["rule", "names"] (71) (spIsRuleOf K)) (F : Fun K "are_kinds" "are_kinds" s_are_kinds f fd) : FnOk P w K mg base CX0 (87) f fd ["things"] (spAreKinds K) := by
 refine F.ok sc_are_kinds (fun vs H Q E h => ?_) (fun cdv A outer s H vs Q E hr h => ?_)
 ·obtain ⟨l, xs, ts, rfl, _⟩ := h
  rfl
 obtain ⟨l, xs, ts, rfl, hs, ha, hf, hl, q⟩ := h
 obtain ⟨tk_MOST_KINDS, h_MOST_KINDS⟩ := L_MOST_KINDS
 have hun2 := hunT hr
 refine ⟨_, pss_cons (ps_if (pt_not (pt_chain op_le op_le pe_int (pe_callB call_len_seq rfl B.len PySem.boot_len (pa_cons (pv 0) pa_nil)) (pe_glob (v := .int (8)) rfl h_MOST_KINDS ⟨_, rfl⟩))) (pss_one (ps_ret pe_bl)) pss_nil)
  (pss_cons (ps_for PassesOwn.never rfl (pi_list (pv 0)) (pg_name (i := 1) sc_are_kinds.nd rfl (.inl rfl))
   (pss_one (ps_if (pt_not (pt_val (pe_got G_is_kind (hr.mono (by omega)) rfl (pa_cons (pv 1) pa_nil)))) (pss_one (ps_ret pe_bl)) pss_nil)))
  (pss_cons (ps_set (i := 2) sc_are_kinds.nd rfl (.inr rfl) (pe_lc (own := [("thing", 1)]) (g := (gName 1)) (tt := tYes) (te := (tOp (rIxT K) (tVar 1) (tC (.int 0)))) rfl sc_are_kinds.nd (pi_list (pv 0)) (blkOk_by (N := N_are_kinds) (sc := defScope s_are_kinds) (by decide +kernel)) (fun _ _ _ _ _ => (pg_name (i := 1) sc_are_kinds.nd rfl (.inl rfl))) (fun _ _ _ _ _ => pts_nil) (fun _ _ _ _ _ => (pe_ix ix_tup (pv 1) pe_int (fun _ _ => rfl)))))
  (pss_cons (ps_if (pt_cmpR op_ne (pe_lenSetS rfl B rfl rfl (pv 2)) (pe_callB call_len_seq rfl B.len PySem.boot_len (pa_cons (pv 2) pa_nil)) (nomark _)) (pss_one (ps_ret pe_bl)) pss_nil)
  (pss_one (ps_ret (pe_callB (cr_all rfl) rfl B.all boot_all (pa_cons (pe_lc2 (own := [("thing", 1), ("rule", 3)]) (vs1 := [3]) (wi1 := (iList K (tOp (rIxT K) (tVar 1) (tC (.int 2))))) (g := (gName 1)) (g1 := (gName 3)) (tt := tYes) (tt1 := tYes) (te := (tCall (spIsRuleOf K) [] E0 (tCons (tVar 3) (tCons (tVar 2) tNil)))) rfl sc_are_kinds.nd (pi_list (pv 0)) (blkOk_by (N := N_are_kinds) (sc := defScope s_are_kinds) (by decide +kernel)) (by simp) (fun _ _ _ _ _ => (pg_name (i := 1) sc_are_kinds.nd rfl (.inl rfl))) (fun _ _ _ _ _ => pts_nil) (fun _ _ _ _ _ => (pi_list (pe_ix ix_tup (pv 1) pe_int (fun _ _ => rfl)))) (fun _ _ _ _ _ => (pg_name (i := 3) sc_are_kinds.nd rfl (.inl rfl))) (fun _ _ _ _ _ => pts_nil) (fun _ _ _ _ _ => (pe_got G_is_rule_of (hr.mono (by omega)) rfl (pa_cons (pv 3) (pa_cons (pv 2) pa_nil))))) pa_nil))))))), ?_⟩
 have no : ¬ KTBk ts -> ∀ H', SB [] H H' -> Q (.bl false) H' := fun e H' s' => q false H' s' ⟨(fun z => nomatch z), fun z => absurd z e⟩
 have xlen := ha.length
 have szl := sizeLine_eq
 refine ⟨_, rfl, l, xs, rfl, .inl hs, _, _, rfl, rfl, _, rfl, ?_⟩
 refine ite2 (fun c => ?_) (fun c => ?_)
 ·have c1 := of_decide_eq_true c
  refine ⟨_, _, rfl, rfl, _, rfl, ?_⟩
  cases c8 : decide (((xs.length : Nat) : Int) <= 8) with
  | false =>
   have c2 := of_decide_eq_false c8
   refine iteT (no ?_ _ SB.refl)
   rintro ⟨b, e, ok⟩
   have := ok.len
   rw [e, List.length_map] at xlen
   omega
  | true =>
  refine iteF ?_
  have c2 := of_decide_eq_true c8
  refine ⟨_, rfl, l, rfl, ⟨xs, hs⟩, ?_⟩
  refine for_list (K := K) (a := l) (xs := xs) (fun i σ H2 => SB [] H H2 /\ (∃ o, σ = [some (.ref l), o, none, none]) /\ ∀ t ∈ ts.take i, KTKd t) ⟨SB.refl, ⟨none, rfl⟩, by simp⟩ (fun i σ H2 hi h2 => h2.1.sqL nmn hs) (fun i x σ H2 hx h2 => ?_) (fun σ H2 h2 => ?_)
  ·obtain ⟨h2, ⟨o, rfl⟩, h3⟩ := h2
   obtain ⟨t, et, ht⟩ := ha.get hx
   have mt := List.mem_of_getElem? et
   refine ⟨_, rfl, x, t, rfl, KTA_sb h2 ht, hf t mt, fun b H3 s3 hb => ?_⟩
   refine ⟨_, rfl, ?_⟩
   cases b with
   | false =>
    refine iteT (no ?_ _ (h2.trans s3))
    rintro ⟨bk, e, ok⟩
    rw [e] at mt
    obtain ⟨k, hk, rfl⟩ := List.mem_map.mp mt
    obtain ⟨o1, o2, o3⟩ := ok.kd k hk
    exact nomatch hb.mpr ⟨k, rfl, o1, o2, fun r hr => (o3 r hr).1⟩
   | true =>
    refine iteF ⟨h2.trans s3, ⟨_, rfl⟩, fun t' ht' => ?_⟩
    rw [List.take_add_one, et, Option.toList_some] at ht'
    rcases List.mem_append.mp ht' with h | h
    ·exact h3 t' h
    ·rw [List.mem_singleton.mp h]; exact hb.mp rfl
  ·obtain ⟨h2, ⟨o, rfl⟩, h3⟩ := h2
   rw [xlen, List.take_length] at h3
   obtain ⟨bk, et, hk⟩ := KT_all h3
   subst et
   rw [List.length_map] at xlen
   have ha2 := (ha.sb h2).kd
   have hs2 := h2.sqL nmn hs
   refine ⟨_, rfl, l, rfl, ⟨xs, hs2⟩, fun D hD => ?_⟩
   refine lc_seq (walk_list (xs := xs)) hD (by omega) (fun i us _ => us = ((Bk.names bk).take i).map V.str) rfl (fun H6 s6 => s6.sqL nmn hs2) (fun _ _ _ _ _ h => h) (fun Pv i x H6 H' us hi s6 y hR hl6 fin _ => ?_) (fun us H6 s6 hD6 hR _ => ?_)
   ·obtain ⟨rfl, ex⟩ := y
    obtain ⟨k, ek, t, r, zs, rfl, g1, g2, g3, _⟩ := ha2.get ex
    refine ⟨rfl, _, rfl, t, _, _, _, rfl, rfl, s6.sqT g1, atI_nat (j := 0) rfl, fin _ _ SB.refl ?_⟩
    rw [hR, List.take_add_one, List.getElem?_map, ek, Option.map_some, Option.toList_some, List.map_append]; rfl
   ·rw [xlen, show (Bk.names bk).take bk.length = Bk.names bk by rw [List.take_of_length_le (by simp)]] at hR
    subst hR
    have s06 := h2.trans s6
    refine ⟨_, rfl, D, Bk.names bk, rfl, SqL.of hD6, by rw [List.length_map]; omega, ?_⟩
    refine ⟨_, rfl, D, _, rfl, .inl (SqL.of hD6), rfl, _, rfl, ?_⟩
    have hnd := met_len_nodup (Bk.names bk)
    rw [show (List.map V.str (Bk.names bk)).length = (Bk.names bk).length from List.length_map ..]
    by_cases nd : (Bk.names bk).Nodup
    ·rw [hnd.mpr nd, show (!decide (V.int ((Bk.names bk).length : Nat) = V.int ((Bk.names bk).length : Nat))) = false by simp]
     refine iteF ?_
     have ha6 := ha2.sb s6 NoLst.nil
     have hs6 := s6.sqL nmn hs2
     refine ⟨_, rfl, l, rfl, ⟨xs, hs6⟩, fun E1 hE1 => ?_⟩
     have good : ∀ r : Ru, (∃ k ∈ bk, r ∈ k.rs) -> RuOk r := fun r ⟨k, h1, h2⟩ => (hk k h1).2.2 r h2
     refine lcG (walk_list (xs := xs)) (fun i H2 => SB [E1] H6 H2 /\ ∃ bs : List Bool, H2 E1 = some (.lst (bs.map V.bl)) /\ bs = ((bk.take i).flatMap fun k => k.rs.map fun r => decide (∀ p ∈ Ru.within r, p.1.1 ∈ Bk.names bk))) ⟨SB.new hE1 _, [], upd_same, rfl⟩ (fun i H2 hi h2 => (h2.1.drop hE1).sqL nmn hs6) (fun i x H2 H' hi h2 y => ?_) (fun H2 h2 => ?_)
     ·obtain ⟨s7, bs, hE7, hbs⟩ := h2
      obtain ⟨rfl, ex⟩ := y
      obtain ⟨k, ek, t, r, zs, rfl, g1, g2, g3, _⟩ := ha6.get ex
      have mk := List.mem_of_getElem? ek
      have zl := g3.length
      have r4 := (hk k mk).2.1
      have s7' := s7.drop hE1
      refine ⟨rfl, ?_⟩
      refine ⟨_, rfl, t, _, _, _, rfl, rfl, s7'.sqT g1, atI_nat (j := 2) rfl, r, rfl, ⟨zs, SqL.of (s7'.keep _ _ g2 nmn)⟩, ?_⟩
      have hsplit : ((bk.take (i + 1)).flatMap fun k => k.rs.map fun r => decide (∀ p ∈ Ru.within r, p.1.1 ∈ Bk.names bk)) = ((bk.take i).flatMap fun k => k.rs.map fun r => decide (∀ p ∈ Ru.within r, p.1.1 ∈ Bk.names bk)) ++ k.rs.map fun r => decide (∀ p ∈ Ru.within r, p.1.1 ∈ Bk.names bk) := by rw [List.take_add_one, ek]; simp
      have hlen : bs.length <= 4 * i := by
       rw [hbs]
       clear hbs hE7 s7 s7' hsplit ex ek
       induction i with
       | zero => simp
       | succ i ih =>
        rw [List.take_add_one, List.flatMap_append, List.length_append]
        have := ih (by omega)
        cases e : bk[i]? with
        | none => simp only [Option.toList_none, List.flatMap_nil, List.length_nil]; omega
        | some k2 =>
         have := (hk k2 (List.mem_of_getElem? e)).2.1
         simp only [Option.toList_some, List.flatMap_cons, List.flatMap_nil, List.append_nil, List.length_map]; omega
      refine lcG (walk_list (xs := zs)) (fun j H3 => SB [E1] H6 H3 /\ ∃ bs2 : List Bool, H3 E1 = some (.lst (bs2.map V.bl)) /\ bs2 = bs ++ ((k.rs.take j).map fun r => decide (∀ p ∈ Ru.within r, p.1.1 ∈ Bk.names bk))) ⟨s7, bs, hE7, by simp⟩ (fun j H3 hj h3 => (h3.1.drop hE1).sqL nmn (SqL.of g2)) (fun j x H3 H4 hj h3 y => ?_) (fun H3 h3 => ?_)
      ·obtain ⟨s8, bs2, hE8, hbs2⟩ := h3
       obtain ⟨rfl, ex2⟩ := y
       obtain ⟨ru, er, hru⟩ := g3.get ex2
       have s8' := s8.drop hE1
       have mr := List.mem_of_getElem? er
       refine ⟨rfl, ?_⟩
       refine ⟨_, rfl, _, rfl, _, D, ru, Bk.names bk, rfl, Dp_sb s8' _ _ (Ru.noList_enc _) hru, (hk k mk).2.2 ru mr, SqL.of (s8'.keep _ _ hD6 nmn), by rw [List.length_map]; omega, fun H9 s9 => ?_⟩
       have hE9 := s9.keep _ _ hE8 nmn
       refine ⟨_, hE9, ?_, (s8.trans s9.nil).trans (SB.set hE9 (by simp) _), bs2 ++ [decide (∀ p ∈ Ru.within ru, p.1.1 ∈ Bk.names bk)], (by rw [upd_same, List.map_append]; rfl), ?_⟩
       ·rw [List.length_map, hbs2, List.length_append, List.length_map, List.length_take]
        omega
       ·rw [hbs2, List.take_add_one, er, Option.toList_some, List.map_append, <- List.append_assoc]
        exact rfl
      ·obtain ⟨s8, bs2, hE8, hbs2⟩ := h3
       refine ⟨s8, bs2, hE8, ?_⟩
       rw [hsplit, hbs2, hbs, zl, List.take_length]
     ·obtain ⟨s7, bs, hE7, hbs⟩ := h2
      rw [xlen, List.take_length] at hbs
      refine ⟨E1, bs, rfl, SqL.of hE7, q _ _ (s06.trans (s7.drop hE1)) ?_⟩
      rw [hbs]
      simp only [List.all_flatMap, List.all_map, List.all_eq_true, Function.comp, id_eq, decide_eq_true_eq]
      constructor
      ·intro h
       exact ⟨bk, rfl, by omega, by omega, nd, fun k mk => ⟨(hk k mk).1, (hk k mk).2.1, fun r mr => ⟨(hk k mk).2.2 r mr, h k mk r mr⟩⟩⟩
      ·rintro ⟨b2, e2, ok⟩ k mk r mr
       have e3 := kts_inj e2
       subst e3
       exact ((ok.kd k mk).2.2 r mr).2
    ·rw [show (!decide (V.int ((met (Bk.names bk) (Bk.names bk).length).length : Nat) = V.int ((Bk.names bk).length : Nat))) = true by
      rw [decide_eq_false (fun z => by injection z with z; exact nd (hnd.mp (by omega)))]; rfl]
     refine iteT (no ?_ _ s06)
     rintro ⟨b2, e2, ok⟩
     have e3 := kts_inj e2
     subst e3
     exact nd ok.nd
 ·have c1 := of_decide_eq_false (Bool.eq_false_iff.mpr c)
  refine ⟨_, rfl, ?_⟩
  refine iteT (no ?_ _ SB.refl)
  rintro ⟨b, e, ok⟩
  have := ok.pos
  rw [e, List.length_map] at xlen
  omega
abbrev N_is_kind : List Str := ["thing", "name", "spreading", "rows", "row"]
theorem sc_is_kind : FnScope N_is_kind ["thing"] (defScope s_is_kind) := ⟨rfl, rfl, rfl, by decide +kernel, rfl, by decide +kernel, by decide +kernel⟩
theorem ok_is_kind (B : BI mg) (L_MOST_RULES : ∃ t, mg "MOST_RULES" = some (.int (4) t)) (G_is_name : Got P w K mg base "is_name" ["thing"] (2) (spName K)) (G_is_rule : Got P w K mg base "is_rule" ["thing"] (85) (spIsRule K)) (F : Fun K "is_kind" "is_kind" s_is_kind f fd) : FnOk P w K mg base CX0 (86) f fd ["thing"] (spIsKind K) := by
 refine F.ok sc_is_kind (fun vs H Q E h => ?_) (fun cdv A outer s H vs Q E hr h => ?_)
 ·obtain ⟨v, t, rfl, _⟩ := h
  rfl
 obtain ⟨v, t, rfl, th, hf, q⟩ := h
 obtain ⟨tk_MOST_RULES, h_MOST_RULES⟩ := L_MOST_RULES
 have hun2 := hunT hr
 refine ⟨_, pss_cons (ps_if (PW.pt (pw_or (pt_not (pt_val (pe_isi B (pv 0) B.tuple boot_tuple))) (pw_or1 (pt_cmpR op_ne (pe_callB call_len_seq rfl B.len PySem.boot_len (pa_cons (pv 0) pa_nil)) pe_int (nomark _))))) (pss_one (ps_ret pe_bl)) pss_nil)
  (pss_cons (ps_asg (pv 0) (pg_tup rfl (pgs_cons (pg_name (i := 1) sc_is_kind.nd rfl (.inl rfl)) (pgs_cons (pg_name (i := 2) sc_is_kind.nd rfl (.inl rfl)) (pgs_cons (pg_name (i := 3) sc_is_kind.nd rfl (.inl rfl)) pgs_nil)))))
  (pss_cons (ps_if (PW.pt (pw_or (pt_not (pt_val (pe_got G_is_name (hr.mono (by omega)) rfl (pa_cons (pv 1) pa_nil)))) (pw_or1 (pt_not (pt_val (pe_isi B (pv 2) B.bool boot_bool)))))) (pss_one (ps_ret pe_bl)) pss_nil)
  (pss_one (ps_ret (pe_and (pe_isi B (pv 3) B.list boot_list) (pe_and (pe_cmpR op_le (pe_callB call_len_seq rfl B.len PySem.boot_len (pa_cons (pv 3) pa_nil)) (pe_glob (v := .int (4)) rfl h_MOST_RULES ⟨_, rfl⟩) (nomark _)) (pe_one (pe_callB (cr_all rfl) rfl B.all boot_all (pa_cons (pe_lc (own := [("row", 4)]) (g := (gName 4)) (tt := tYes) (te := (tCall (spIsRule K) [] E0 (tCons (tVar 4) tNil))) rfl sc_is_kind.nd (pi_list (pv 3)) (blkOk_by (N := N_is_kind) (sc := defScope s_is_kind) (by decide +kernel)) (fun _ _ _ _ _ => (pg_name (i := 4) sc_is_kind.nd rfl (.inl rfl))) (fun _ _ _ _ _ => pts_nil) (fun _ _ _ _ _ => (pe_got G_is_rule (hr.mono (by omega)) rfl (pa_cons (pv 4) pa_nil)))) pa_nil))))))))), ?_⟩
 have no : ¬ KTKd t -> ∀ H', SB [] H H' -> Q (.bl false) H' := fun e H' s' => q false H' s' ⟨(fun z => nomatch z), fun z => absurd z e⟩
 cases t with
 | other =>
  have n0 : ¬ KTKd .other := by rintro ⟨k, e, _⟩; cases e
  obtain ⟨d, tg, hd⟩ := th
  obtain ⟨n1, b, ty, kb, y1, y2⟩ := tg.ty
  refine ⟨_, rfl, _, _, n1, b, rfl, ty, kb, b, rfl, ?_⟩
  cases b with
  | false => exact iteT (iteT (no n0 _ SB.refl))
  | true =>
  refine iteF ?_
  obtain ⟨a, xs, ds, rfl, rfl, hs, ha⟩ := y1 rfl
  refine ⟨_, rfl, a, xs, rfl, .inr hs, rfl, _, rfl, ?_⟩
  have hl := TgAll.length ha
  have h3 := hd ds rfl
  rw [show (!decide (V.int (xs.length : Nat) = V.int 3)) = true by rw [decide_eq_false (fun z => by injection z with z; omega)]; rfl]
  exact iteT (no n0 _ SB.refl)
 | three d w rs =>
  obtain ⟨a, x, y, z, rfl, hs, tx, ty, tz⟩ := th
  refine ⟨_, rfl, _, _, "tuple", true, rfl, SqT_ty hs, by decide +kernel, _, rfl, ?_⟩
  refine iteF ?_
  refine ⟨_, rfl, a, _, rfl, .inr hs, rfl, _, rfl, ?_⟩
  rw [show (!decide (V.int (([x, y, z] : List V).length : Nat) = V.int 3)) = false from rfl]
  refine iteF ?_
  refine ⟨_, rfl, a, _, rfl, hs, rfl, _, _, rfl, _, _, rfl, _, _, rfl, rfl, ?_⟩
  refine ⟨_, rfl, x, d, rfl, tx, fun H1 s1 => ?_⟩
  refine ⟨_, rfl, ?_⟩
  cases g1 : nameD d with
  | false =>
   refine iteT (iteT (no ?_ _ s1))
   rintro ⟨k, e, hk, _⟩
   injection e with e _ _
   rw [e, nameD_ok hk] at g1
   cases g1
  | true =>
  refine iteF ?_
  obtain ⟨nm, rfl, hnm⟩ := nameD_iff g1
  cases w with
  | none =>
   obtain ⟨n, ty, kb⟩ := ty
   refine ⟨_, rfl, _, _, n, false, rfl, TyX_sb s1 (fun _ _ => nmn) ty, kb, _, rfl, ?_⟩
   refine iteT (no ?_ _ s1)
   rintro ⟨k, e, _⟩
   injection e with _ e _
   cases e
  | some bb =>
  have ty : y = .bl bb := ty
  subst ty
  refine ⟨_, rfl, _, _, "bool", true, rfl, .base (.bl bb), by decide +kernel, _, rfl, ?_⟩
  refine iteF ?_
  cases rs with
  | none =>
   obtain ⟨n, ty, kb⟩ := tz
   refine ⟨_, rfl, _, _, n, false, rfl, TyX_sb s1 (fun _ _ => nmn) ty, kb, _, rfl, ?_⟩
   refine iteF (no ?_ _ s1)
   rintro ⟨k, e, _⟩
   injection e with _ _ e
   cases e
  | some ds =>
  obtain ⟨l, zs, rfl, hl, ha⟩ := tz
  obtain ⟨hd1, hd2⟩ := hf ds rfl
  refine ⟨_, rfl, _, _, "list", true, rfl, SqL_ty (s1.sqL nmn (SqL.of hl)), by decide +kernel, _, rfl, ?_⟩
  refine iteT ?_
  have hlen := TgAll.length ha
  refine ⟨_, rfl, l, _, rfl, .inl (s1.sqL nmn (SqL.of hl)), _, _, rfl, rfl, _, rfl, ?_⟩
  refine ite2 (fun c => ?_) (fun c => ?_)
  ·have c1 := of_decide_eq_true c
   rw [hlen] at c1
   have szl := sizeLine_eq
   refine ⟨_, rfl, l, rfl, ⟨_, s1.sqL nmn (SqL.of hl)⟩, fun D hD => ?_⟩
   refine lc_seq (walk_list (xs := zs)) hD (by omega) (fun i us _ => ∃ bs : List Bool, us = bs.map V.bl /\ bs.length = i /\ ∀ j b, bs[j]? = some b -> ∀ x, ds[j]? = some x -> (b = true ↔ RuD x)) ⟨[], rfl, rfl, fun j b h => by rw [List.getElem?_nil] at h; cases h⟩ (fun H6 s6 => s6.sqL nmn (s1.sqL nmn (SqL.of hl))) (fun _ _ _ _ _ h => h) (fun Pv i x H6 H' us hi s6 y hR hl6 fin _ => ?_) (fun us H6 s6 hD6 hR _ => ?_)
   ·obtain ⟨rfl, ex⟩ := y
    obtain ⟨p, ep, hp⟩ := TgAll.get ha ex
    obtain ⟨bs, rfl, hbl, hbs⟩ := hR
    refine ⟨rfl, _, rfl, x, p, rfl, Tg_sb (s1.trans s6) hp, hd2 _ (List.mem_of_getElem? ep), fun b H7 s7 hb => fin _ _ s7 ⟨bs ++ [b], by rw [List.map_append]; rfl, by rw [List.length_append, hbl]; rfl, fun j b' hj y hy => ?_⟩⟩
    by_cases hji : j < bs.length
    ·rw [List.getElem?_append_left hji] at hj
     exact hbs j b' hj y hy
    ·have hj' : j = bs.length := by
      have := (List.getElem?_eq_some_iff.mp hj).1
      rw [List.length_append, List.length_singleton] at this
      omega
     subst hj'
     rw [List.getElem?_append_right (Nat.le_refl _), Nat.sub_self] at hj
     cases hj
     rw [hbl, ep] at hy
     cases hy
     exact hb
   ·obtain ⟨bs, rfl, hbl, hbs⟩ := hR
    refine ⟨D, bs, rfl, SqL.of hD6, q _ _ (s1.trans s6) ?_⟩
    have h1 : (bs.all id = true) ↔ ∀ x ∈ ds, RuD x := by
     rw [List.all_eq_true]
     constructor
     ·intro h x hx
      obtain ⟨j, hj, e⟩ := List.getElem_of_mem hx
      have hjb : j < bs.length := by omega
      exact (hbs j bs[j] (List.getElem?_eq_getElem hjb) x (by rw [List.getElem?_eq_getElem hj, e])).mp (h _ (List.getElem_mem hjb))
     ·intro h b hb
      obtain ⟨j, hj, e⟩ := List.getElem_of_mem hb
      have hjb : j < ds.length := by omega
      exact (hbs j b (by rw [List.getElem?_eq_getElem hj, e]) ds[j] (List.getElem?_eq_getElem hjb)).mpr (h _ (List.getElem_mem hjb))
    rw [h1]
    constructor
    ·intro h
     obtain ⟨rr, e1, e2⟩ := RuD_all h
     exact ⟨⟨nm, bb, rr⟩, by rw [Kd.kt, e1], hnm, by rw [e1, List.length_map] at c1; show rr.length <= 4; omega, e2⟩
    ·rintro ⟨k, e, _, _, hk⟩ x hx
     injection e with _ _ e
     injection e with e
     rw [e] at hx
     obtain ⟨r, hr, rfl⟩ := List.mem_map.mp hx
     exact ⟨r, rfl, hk r hr⟩
  ·have c1 := of_decide_eq_false (Bool.eq_false_iff.mpr c)
   rw [hlen] at c1
   refine no ?_ _ s1
   rintro ⟨k, e, _, h4, _⟩
   injection e with _ _ e
   injection e with e
   rw [e, List.length_map] at c1
   omega
abbrev N_is_rule : List Str := ["thing", "once", "each", "pairs", "tree", "many"]
theorem sc_is_rule : FnScope N_is_rule ["thing"] (defScope s_is_rule) := ⟨rfl, rfl, rfl, by decide +kernel, rfl, by decide +kernel, by decide +kernel⟩
theorem ok_is_rule (B : BI mg) (L_MOST_RULE_PARTS : ∃ t, mg "MOST_RULE_PARTS" = some (.int (4) t)) (L_MOST_MANY : ∃ t, mg "MOST_MANY" = some (.int (1000000000) t)) (G_is_grove : Got P w K mg base "is_grove" ["thing"] (84) (spIsGrove K 81)) (G_pairs_within : Got P w K mg base "pairs_within" ["grove"] (70) (spPairsW K 70)) (F : Fun K "is_rule" "is_rule" s_is_rule f fd) : FnOk P w K mg base CX0 (85) f fd ["thing"] (spIsRule K) := by
 refine F.ok sc_is_rule (fun vs H Q E h => ?_) (fun cdv A outer s H vs Q E hr h => ?_)
 ·obtain ⟨v, d, rfl, _⟩ := h
  rfl
 obtain ⟨v, d, rfl, th, hf, q⟩ := h
 obtain ⟨tk_MOST_RULE_PARTS, h_MOST_RULE_PARTS⟩ := L_MOST_RULE_PARTS
 obtain ⟨tk_MOST_MANY, h_MOST_MANY⟩ := L_MOST_MANY
 have hun2 := hunT hr
 refine ⟨_, pss_cons (ps_if (PW.pt (pw_or (pt_not (pt_val (pe_isi B (pv 0) B.tuple boot_tuple))) (pw_or1 (pt_cmpR op_ne (pe_callB call_len_seq rfl B.len PySem.boot_len (pa_cons (pv 0) pa_nil)) pe_int (nomark _))))) (pss_one (ps_ret pe_bl)) pss_nil)
  (pss_cons (ps_asg (pv 0) (pg_tup rfl (pgs_cons (pg_name (i := 1) sc_is_rule.nd rfl (.inl rfl)) (pgs_cons (pg_name (i := 2) sc_is_rule.nd rfl (.inl rfl)) pgs_nil))))
  (pss_cons (ps_if (PW.pt (pw_or (pt_not (pt_val (pe_got G_is_grove (hr.mono (by omega)) rfl (pa_cons (pv 1) pa_nil)))) (pw_or1 (pt_not (pt_val (pe_got G_is_grove (hr.mono (by omega)) rfl (pa_cons (pv 2) pa_nil))))))) (pss_one (ps_ret pe_bl)) pss_nil)
  (pss_cons (ps_set (i := 3) sc_is_rule.nd rfl (.inl rfl) (pe_op op_cat (pe_got G_pairs_within (hr.mono (by omega)) rfl (pa_cons (pv 1) pa_nil)) (pe_got G_pairs_within (hr.mono (by omega)) rfl (pa_cons (pv 2) pa_nil))))
  (pss_one (ps_ret (pe_and (pe_cmpR op_le (pe_callB call_len_seq rfl B.len PySem.boot_len (pa_cons (pv 3) pa_nil)) (pe_glob (v := .int (4)) rfl h_MOST_RULE_PARTS ⟨_, rfl⟩) (nomark _)) (pe_one (pe_callB (cr_all rfl) rfl B.all boot_all (pa_cons (pe_lc (own := [("tree", 4), ("many", 5)]) (g := (gTup K 2 (gCons (gName 4) (gCons (gName 5) gNil)))) (tt := tYes) (te := (tOp (rI0 fun i j => .bl (decide (i <= j))) (tVar 5) (tC (.int (1000000000))))) rfl sc_is_rule.nd (pi_list (pv 3)) (blkOk_by (N := N_is_rule) (sc := defScope s_is_rule) (by decide +kernel)) (fun _ _ _ _ _ => (pg_tup rfl (pgs_cons (pg_name (i := 4) sc_is_rule.nd rfl (.inl rfl)) (pgs_cons (pg_name (i := 5) sc_is_rule.nd rfl (.inl rfl)) pgs_nil)))) (fun _ _ _ _ _ => pts_nil) (fun _ _ _ _ _ => (pe_cmpR op_le (pv 5) (pe_glob (v := .int (1000000000)) rfl h_MOST_MANY ⟨_, rfl⟩) (nomark _)))) pa_nil))))))))), ?_⟩
 have no : ¬ RuD d -> ∀ H', SB [] H H' -> Q (.bl false) H' := fun e H' s' => q false H' s' ⟨(fun z => nomatch z), fun z => absurd z e⟩
 obtain ⟨n1, b, ty, kb, y1, y2⟩ := th.ty
 refine ⟨_, rfl, _, _, n1, b, rfl, ty, kb, b, rfl, ?_⟩
 cases b with
 | false =>
  refine iteT (iteT (no ?_ _ SB.refl))
  rintro ⟨r, e, _⟩
  exact y2 rfl _ e
 | true =>
 refine iteF ?_
 obtain ⟨a, xs, ds, rfl, rfl, hs, ha⟩ := y1 rfl
 refine ⟨_, rfl, a, xs, rfl, .inr hs, rfl, _, rfl, ?_⟩
 have hl := TgAll.length ha
 by_cases c2 : xs.length = 2
 ·rw [show (!decide (V.int (xs.length : Nat) = V.int 2)) = false by rw [c2]; rfl]
  refine iteF ?_
  cases ha with
  | nil => simp at c2
  | cons t1 ta =>
   cases ta with
   | nil => simp at c2
   | cons t2 ta =>
    cases ta with
    | cons t3 ta => simp at c2
    | nil =>
     rename_i v1 d1 v2 d2
     obtain ⟨f1, f2, f3⟩ := hf
     have q1 : d1.depth < PyData.depth (.tuple [d1, d2]) /\ d2.depth < PyData.depth (.tuple [d1, d2]) := by simp only [PyData.depth, PyData.depthAll]; omega
     have q2 : wide d1 <= wide (.tuple [d1, d2]) /\ wide d2 <= wide (.tuple [d1, d2]) := by simp only [wide, wides]; omega
     refine ⟨_, rfl, a, _, rfl, hs, rfl, _, _, rfl, _, _, rfl, rfl, ?_⟩
     refine ⟨_, rfl, v1, d1, rfl, t1, by omega, by omega, by omega, fun H1 s1 => ?_⟩
     refine ⟨_, rfl, ?_⟩
     cases g1 : groveD d1 with
     | false =>
      refine iteT (iteT (no ?_ _ s1))
      intro z
      obtain ⟨g, k, e, z1, _⟩ := RuD_two z
      injection e with e
      injection e with e _
      rw [e, z1] at g1
      cases g1
     | true =>
     refine iteF ?_
     refine ⟨_, rfl, v2, d2, rfl, Tg_sb s1 t2, by omega, by omega, by omega, fun H2 s2 => ?_⟩
     have s02 := s1.trans s2
     refine ⟨_, rfl, ?_⟩
     cases g2 : groveD d2 with
     | false =>
      refine iteT (no ?_ _ s02)
      intro z
      obtain ⟨g, k, e, _, z1⟩ := RuD_two z
      injection e with e
      injection e with _ e
      injection e with e _
      rw [e, z1] at g2
      cases g2
     | true =>
     refine iteF ?_
     obtain ⟨u1, rfl⟩ := groveD_gr _ g1
     obtain ⟨u2, rfl⟩ := groveD_gr _ g2
     obtain ⟨w1, w2⟩ := f3 _ _ rfl u1 (.inl rfl)
     obtain ⟨w3, w4⟩ := f3 _ _ rfl u2 (.inr rfl)
     have ga1 : GA K H v1 u1 := by
      cases t1 with
      | tup h1 h2 => exact .tup h1 (Tg_ga u1 h2)
     have ga2 : GA K H v2 u2 := by
      cases t2 with
      | tup h1 h2 => exact .tup h1 (Tg_ga u2 h2)
     refine ⟨_, rfl, _, u1, rfl, ga1.sb s02, by omega, by omega, fun D1 us1 H3 s3 hn1 hD1 hb1 => ?_⟩
     refine ⟨_, rfl, _, u2, rfl, (ga2.sb s02).sb s3, by omega, by omega, fun D2 us2 H4 s4 hn2 hD2 hb2 => ?_⟩
     have l1 := hb1.length
     have l2 := hb2.length
     rw [Gr.within_length] at l1 l2
     have szl := sizeLine_eq
     refine ⟨D1, D2, us1, us2, rfl, rfl, s4.keep _ _ hD1 nmn, hD2, by omega, fun D3 hn3 => ?_⟩
     have t5 := SB.new (ps := []) hn3 (.lst (us1 ++ us2))
     have s05 := ((s02.trans s3).trans s4).trans t5
     have hD3 : upd H4 D3 (.lst (us1 ++ us2)) D3 = some (.lst (us1 ++ us2)) := upd_same
     have hb3 : Bears K (upd H4 D3 (.lst (us1 ++ us2))) Gr.pEnc (us1 ++ us2) (u1.within ++ u2.within) := Bears.append ((hb1.sb s4 Gr.noList_pEnc).sb t5 Gr.noList_pEnc) (hb2.sb t5 Gr.noList_pEnc)
     generalize upd H4 D3 (.lst (us1 ++ us2)) = H5 at t5 s05 hD3 hb3
     have iff1 := RuD_iff g1 g2
     refine ⟨_, rfl, D3, _, rfl, .inl (SqL.of hD3), _, _, rfl, rfl, _, rfl, ?_⟩
     refine ite2 (fun c => ?_) (fun c => ?_)
     ·have c1 := of_decide_eq_true c
      rw [List.length_append, l1, l2] at c1
      have bl3 := hb3.length
      refine ⟨_, rfl, D3, rfl, ⟨_, SqL.of hD3⟩, fun D hD => ?_⟩
      refine lc_seq (walk_list (xs := us1 ++ us2)) hD (by rw [List.length_append]; omega) (fun i us _ => us = ((u1.within ++ u2.within).take i).map fun p => V.bl (decide (p.2 <= 1000000000))) rfl (fun H6 s6 => s6.sqL nmn (SqL.of hD3)) (fun _ _ _ _ _ h => h) (fun Pv i x H6 H' us hi s6 y hR hl6 fin _ => ?_) (fun us H6 s6 hD6 hR _ => ?_)
      ·obtain ⟨rfl, ex⟩ := y
       obtain ⟨p, ep, hpd⟩ := hb3.get ex
       obtain ⟨ad, td, ux, rfl, hs2, hs3, hga, hdt⟩ := PA_parts hpd
       refine ⟨ad, _, rfl, s6.sqT hs2, rfl, _, _, rfl, _, _, rfl, rfl, rfl, ?_⟩
       refine ⟨_, rfl, _, _, rfl, rfl, fin _ _ SB.refl ?_⟩
       rw [hR, List.take_add_one, ep, Option.toList_some, List.map_append]; rfl
      ·rw [bl3, List.take_length] at hR
       subst hR
       refine ⟨D, ((u1.within ++ u2.within).map fun p => decide (p.2 <= 1000000000)), rfl, SqL.of (by rw [List.map_map]; exact hD6), q _ _ (s05.trans s6) ?_⟩
       rw [iff1]
       simp only [List.all_map, List.all_eq_true, Function.comp, id_eq, decide_eq_true_eq]
       exact ⟨fun h => ⟨by omega, h⟩, fun h => h.2⟩
     ·have c1 := of_decide_eq_false (Bool.eq_false_iff.mpr c)
      rw [List.length_append, l1, l2] at c1
      refine q false _ s05 ⟨(fun z => nomatch z), fun z => absurd (iff1.mp z).1 (by omega)⟩
 ·rw [show (!decide (V.int (xs.length : Nat) = V.int 2)) = true by rw [decide_eq_false (fun z => by injection z with z; omega)]; rfl]
  refine iteT (no ?_ _ SB.refl)
  rintro ⟨r, e, _⟩
  have e' : PyData.tuple ds = .tuple [r.1.enc, r.2.enc] := e
  injection e' with e'
  rw [e'] at hl
  exact c2 hl
abbrev N_is_rule_of : List Str := ["rule", "names", "once", "each", "tree", "many"]
theorem sc_is_rule_of : FnScope N_is_rule_of ["rule", "names"] (defScope s_is_rule_of) := ⟨rfl, rfl, rfl, by decide +kernel, rfl, by decide +kernel, by decide +kernel⟩
theorem ok_is_rule_of (B : BI mg) (G_pairs_within : Got P w K mg base "pairs_within" ["grove"] (70) (spPairsW K 70)) (F : Fun K "is_rule_of" "is_rule_of" s_is_rule_of f fd) : FnOk P w K mg base CX0 (71) f fd ["rule", "names"] (spIsRuleOf K) := by
 refine F.ok sc_is_rule_of (fun vs H Q E h => ?_) (fun cdv A outer s H vs Q E hr h => ?_)
 ·obtain ⟨v, l, r, ns, rfl, _⟩ := h
  rfl
 obtain ⟨v, l, r, ns, rfl, hv, ho, hs, hn, q⟩ := h
 have hun2 := hunT hr
 refine ⟨_, pss_cons (ps_asg (pv 0) (pg_tup rfl (pgs_cons (pg_name (i := 2) sc_is_rule_of.nd rfl (.inl rfl)) (pgs_cons (pg_name (i := 3) sc_is_rule_of.nd rfl (.inl rfl)) pgs_nil))))
  (pss_one (ps_ret (pe_callB (cr_all rfl) rfl B.all boot_all (pa_cons (pe_lc (own := [("tree", 4), ("many", 5)]) (g := (gTup K 2 (gCons (gName 4) (gCons (gName 5) gNil)))) (tt := tYes) (te := (tOp (rIn K false) (tOp (rIxT K) (tVar 4) (tC (.int 0))) (tVar 1))) rfl sc_is_rule_of.nd (pi_list (pe_op op_cat (pe_got G_pairs_within (hr.mono (by omega)) rfl (pa_cons (pv 2) pa_nil)) (pe_got G_pairs_within (hr.mono (by omega)) rfl (pa_cons (pv 3) pa_nil)))) (blkOk_by (N := N_is_rule_of) (sc := defScope s_is_rule_of) (by decide +kernel)) (fun _ _ _ _ _ => (pg_tup rfl (pgs_cons (pg_name (i := 4) sc_is_rule_of.nd rfl (.inl rfl)) (pgs_cons (pg_name (i := 5) sc_is_rule_of.nd rfl (.inl rfl)) pgs_nil)))) (fun _ _ _ _ _ => pts_nil) (fun _ _ _ _ _ => (pe_cmpR op_in_seq (pe_ix ix_tup (pv 4) pe_int (fun _ _ => rfl)) (pv 1) (by rfl)))) pa_nil)))), ?_⟩
 obtain ⟨ho1, ho2, ho3⟩ := ho
 cases (hv : Dp K H v (.tuple [r.1.enc, r.2.enc])) with
 | tup ht hd =>
 rename_i a xs
 cases hd with
 | cons g1 hd =>
 cases hd with
 | cons g2 hd =>
 cases hd
 have dp1 := (within_deep r.1)
 have dp2 := (within_deep r.2)
 refine ⟨_, rfl, a, _, rfl, ht, rfl, _, _, rfl, _, _, rfl, rfl, ?_⟩
 have ga1 : GA K H _ r.1 := g1
 have ga2 : GA K H _ r.2 := g2
 refine ⟨_, rfl, _, r.1, rfl, ga1, by omega, by omega, fun D1 us1 H3 s3 hn1 hD1 hb1 => ?_⟩
 refine ⟨_, rfl, _, r.2, rfl, ga2.sb s3, by omega, by omega, fun D2 us2 H4 s4 hn2 hD2 hb2 => ?_⟩
 have l1 := hb1.length
 have l2 := hb2.length
 rw [Gr.within_length] at l1 l2
 have szl := sizeLine_eq
 refine ⟨D1, D2, us1, us2, rfl, rfl, s4.keep _ _ hD1 nmn, hD2, by omega, fun D3 hn3 => ?_⟩
 have t5 := SB.new (ps := []) hn3 (.lst (us1 ++ us2))
 have s05 := (s3.trans s4).trans t5
 have hD3 : upd H4 D3 (.lst (us1 ++ us2)) D3 = some (.lst (us1 ++ us2)) := upd_same
 have hb3 : Bears K (upd H4 D3 (.lst (us1 ++ us2))) Gr.pEnc (us1 ++ us2) (r.1.within ++ r.2.within) := Bears.append ((hb1.sb s4 Gr.noList_pEnc).sb t5 Gr.noList_pEnc) (hb2.sb t5 Gr.noList_pEnc)
 generalize upd H4 D3 (.lst (us1 ++ us2)) = H5 at t5 s05 hD3 hb3
 have bl3 := hb3.length
 refine ⟨D3, rfl, ⟨_, SqL.of hD3⟩, fun D hD => ?_⟩
 refine lc_seq (walk_list (xs := us1 ++ us2)) hD (by rw [List.length_append]; omega) (fun i us _ => us = ((r.1.within ++ r.2.within).take i).map fun p => V.bl (decide (p.1.1 ∈ ns))) rfl (fun H6 s6 => s6.sqL nmn (SqL.of hD3)) (fun _ _ _ _ _ h => h) (fun Pv i x H6 H' us hi s6 y hR hl6 fin _ => ?_) (fun us H6 s6 hD6 hR _ => ?_)
 ·obtain ⟨rfl, ex⟩ := y
  obtain ⟨p, ep, hpd⟩ := hb3.get ex
  obtain ⟨ad, td, ux, rfl, hs2, hs3, hga, hdt⟩ := PA_parts hpd
  refine ⟨ad, _, rfl, s6.sqT hs2, rfl, _, _, rfl, _, _, rfl, rfl, rfl, ?_⟩
  refine ⟨_, rfl, td, _, _, _, rfl, rfl, s6.sqT hs3, atI_nat (j := 0) rfl, _, rfl, l, _, rfl, .inl ((s05.trans s6).sqL nmn hs), rfl, flat_strs _, fin _ _ SB.refl ?_⟩
  rw [hR, List.take_add_one, ep, Option.toList_some, List.map_append, inV_strs]; rfl
 ·rw [bl3, List.take_length] at hR
  subst hR
  refine ⟨D, ((r.1.within ++ r.2.within).map fun p => decide (p.1.1 ∈ ns)), rfl, SqL.of (by rw [List.map_map]; exact hD6), ?_⟩
  have := q _ (s05.trans s6)
  rw [show (List.map (fun p : Tr × Int => decide (p.1.1 ∈ ns)) (r.1.within ++ r.2.within)).all id = decide (∀ p ∈ Ru.within r, p.1.1 ∈ ns) by
   rw [Bool.eq_iff_iff]
   simp only [List.all_map, List.all_eq_true, Function.comp, id_eq, decide_eq_true_eq]
   exact Iff.rfl]
  exact this
end
section
variable {P : Program} {w : World} {K : PySem.W.Frag} {mg : Str -> Option Value} {base : Heap} {f : Addr} {fd : FuncData} {ps : List Addr}
theorem sc_is_ladder : FnScope N_ladder ["thing"] (defScope s_is_ladder) := ⟨rfl, rfl, rfl, by decide +kernel, rfl, by decide +kernel, by decide +kernel⟩
theorem ok_is_ladder {n : Nat} (B : BI mg) (GR : Got P w K mg base "is_rising" ["things"] 1 (spRising K)) (G : Got P w K mg base "is_ladder_pair" ["thing"] (n + 3) (spLadPair K ps n)) (F : Fun K "is_ladder" "is_ladder" s_is_ladder f fd) :
  FnOk P w K mg base CX0 (n + 4) f fd ["thing"] (spLadder K ps (n + 1)) := by
 refine F.ok sc_is_ladder (fun vs H Q E h => ?_) (fun cdv A outer s H vs Q E hr h => ?_)
 ·obtain ⟨v, l, rfl, _⟩ := h
  rfl
 obtain ⟨v, d, rfl, th, hd, h80, hw, q⟩ := h
 refine ⟨_, pss_cons (ps_if (pt_not (pt_val (pe_isi B (pv 0) B.tuple boot_tuple))) (pss_one (ps_ret pe_bl)) pss_nil)
  (pss_cons (ps_for PassesOwn.never rfl (pi_tup (pv 0)) (pg_name (i := 1) sc_is_ladder.nd rfl (.inl rfl)) (pss_one (ps_if (pt_not (pt_val (pe_got G hr rfl (pa_cons (pv 1) pa_nil)))) (pss_one (ps_ret pe_bl)) pss_nil)))
  (pss_one (ps_ret (pe_got GR (hr.mono (by omega)) rfl (pa_cons (pe_revL (pe_lc (own := [("pair", 1)]) (g := gName 1) (tt := tYes) (te := tOp (rIxT K) (tVar 1) (tC (.int 0))) rfl sc_is_ladder.nd
   (pi_tup (pv 0))
   (blkOk_by (N := N_ladder) (sc := defScope s_is_ladder) (by decide +kernel))
   (fun _ _ _ _ _ => pg_name (i := 1) sc_is_ladder.nd rfl (.inl rfl))
   (fun _ _ _ _ _ => pts_nil)
   (fun _ _ _ _ _ => pe_ix ix_tup (pv 1) pe_int (fun _ _ => rfl)))) pa_nil))))), ?_⟩
 obtain ⟨n1, b, ty, kb, y1, y2⟩ := th.ty
 refine ⟨_, rfl, _, _, n1, b, rfl, ty, kb, b, rfl, ?_⟩
 cases b with
 | false =>
  refine iteT ?_
  have e : ladD d = false := by rcases y2 rfl with ⟨i, rfl⟩ | rfl <;> simp [ladD]
  have := q H SB.refl
  rw [e] at this
  exact this
 | true =>
 refine iteF ?_
 obtain ⟨a, xs, ds, rfl, rfl, hs, ha⟩ := y1 rfl
 have hl := ThAll.length ha
 rw [wide_tuple] at hw
 refine ⟨_, rfl, a, rfl, ⟨xs, hs⟩, ?_⟩
 refine for_tup (K := K) (a := a) (xs := xs) (fun i σ H2 => SB [] H H2 /\ (∃ o, σ = [some (.ref a), o]) /\ (ds.take i).all ladP = true) ⟨SB.refl, ⟨none, rfl⟩, by simp⟩ (fun i σ H2 hi h2 => h2.1.sqT hs) (fun i x σ H2 hx h2 => ?_) (fun σ H2 h2 => ?_)
 ·obtain ⟨h2, ⟨o, rfl⟩, h3⟩ := h2
  obtain ⟨dx, ex, tx⟩ := ThAll.get ha hx
  have mx := List.mem_of_getElem? ex
  have m1 := depthAll_get ex
  have m2 := wide_mem _ _ mx
  have m3 : PyData.depth (.tuple ds) = PyData.depthAll ds + 1 := by simp [PyData.depth]
  refine ⟨_, rfl, x, dx, rfl, Th_sb h2.nil tx, by omega, by omega, by omega, fun H5 h5 => ?_⟩
  refine ⟨_, rfl, ?_⟩
  cases e1 : ladP dx with
  | false =>
   refine iteT ?_
   have e : ladD (.tuple ds) = false := by
    rw [ladD, ladPs_all]
    have : ds.all ladP = false := by
     rw [List.all_eq_false]
     exact ⟨dx, mx, by rw [e1]; exact Bool.false_ne_true⟩
    rw [this]; rfl
   have := q H5 (h2.trans h5)
   rw [e] at this
   exact this
  | true =>
   refine iteF ?_
   refine ⟨h2.trans h5, ⟨_, rfl⟩, ?_⟩
   rw [List.take_add_one, ex, List.all_append, h3]
   simp [e1]
 ·obtain ⟨h2, ⟨o, rfl⟩, h3⟩ := h2
  rw [hl, List.take_length] at h3
  rw [<- ladPs_all] at h3
  obtain ⟨l, rfl⟩ := ladPs_enc ds h3
  have hla : LA K H (.ref a) l := Th_la (ps := ps) l (.tup hs ha)
  obtain ⟨a', xs', e', hs', hlen, hx⟩ := LA_items (hla.sb h2)
  cases e'
  refine ⟨_, rfl, a, rfl, ⟨xs', hs'⟩, fun D hD => ?_⟩
  have hlw : l.ps.length <= 1000 := by
   have : l.encs.length = l.ps.length := by rw [Lad.encs_ps, List.length_map]
   omega
  refine lc_it (walk_tup (xs := xs')) (fun i H3 => SB [D] H2 H3 /\ ∃ acc, H3 D = some (.lst acc) /\ DpAll K H3 acc ((l.ps.take i).map fun p => p.1.enc)) ⟨SB.new hD _, [], upd_same, .nil⟩ (fun i H3 hi h3 => (h3.1.drop hD).sqT hs') (fun i x H3 H' hi h3 y => ?_) (fun H3 h3 => ?_)
  ·obtain ⟨h3, acc, h4, h5⟩ := h3
   obtain ⟨rfl, ex⟩ := y
   obtain ⟨p, b, u, ep, mp, rfl, hb, hu⟩ := hx i x ex
   have h6 := h3.drop hD
   have hla2 := DpAll.length h5
   refine ⟨rfl, ?_⟩
   refine ⟨_, rfl, b, _, _, _, rfl, rfl, h6.sqT hb, atI_nat (j := 0) rfl, acc, h4, ?_, ?_⟩
   ·rw [hla2, List.length_map, List.length_take]
    exact small1000 (by omega)
   ·have h7 := SB.set (ps := [D]) h4 (by simp) (.lst (acc ++ [u]))
    refine ⟨h3.trans h7, _, upd_same, ?_⟩
    rw [List.take_add_one, ep, List.map_append]
    exact DpAll.append (DpAll_sb h7 _ _ (noLists_encl _) h5) (.cons ((hu.sb h6).sb h7) .nil)
  ·obtain ⟨h3', acc, h4, h5⟩ := h3
   rw [hlen, List.take_length] at h5
   refine ⟨D, acc, rfl, SqL.of h4, fun p hp => ?_⟩
   have h7 := SB.new (ps := []) hp (.lst acc.reverse)
   have h6 := h3'.drop hD
   have hla2 := DpAll.length h5
   refine ⟨p, acc.reverse, (l.ps.map fun p => p.1.enc).reverse, rfl, SqL.of upd_same, DpAll.reverse (DpAll_sb h7 _ _ (noLists_encl _) h5), ?_, ?_, ?_, fun H9 h9 => ?_⟩
   ·intro d hd'
    rw [List.mem_reverse] at hd'
    obtain ⟨p1, m1, rfl⟩ := List.mem_map.mp hd'
    have := depth_mem m1
    have h81 : l.enc.depth <= 80 := h80
    exact ⟨Lad.noList_enc _, Lad.enc_ne _, by omega⟩
   ·intro d hd' d2 hd2
    rw [List.mem_reverse] at hd' hd2
    obtain ⟨p1, _, rfl⟩ := List.mem_map.mp hd'
    obtain ⟨p2, _, rfl⟩ := List.mem_map.mp hd2
    exact Lad.alike_enc _ _
   ·rw [List.length_reverse, hla2, List.length_map]; exact hlw
   ·have := q H9 (((h2.trans h6).trans h7).trans h9)
    have e : ladD (.tuple l.encs) = risingD (l.ps.map fun p => p.1.enc).reverse := by
     rw [ladD, h3, Bool.true_and, Lad.encs_ps, List.map_map]
     rfl
    rw [e] at this
    exact this
end
section
variable {P : Program} {w : World} {K : PySem.W.Frag} {mg : Str -> Option Value} {base : Heap} {f : Addr} {fd : FuncData} {ps : List Addr}
theorem sc_is_ladder_pair : FnScope ["thing"] ["thing"] (defScope s_is_ladder_pair) := ⟨rfl, rfl, rfl, by decide +kernel, rfl, by decide +kernel, by decide +kernel⟩
theorem ok_is_ladder_pair {n : Nat} (B : BI mg) (GM : Got P w K mg base "is_many" ["thing"] 2 (spMany K ps)) (G : Got P w K mg base "is_ladder" ["thing"] (n + 3) (spLadder K ps n)) (F : Fun K "is_ladder_pair" "is_ladder_pair" s_is_ladder_pair f fd) :
  FnOk P w K mg base CX0 (n + 4) f fd ["thing"] (spLadPair K ps (n + 1)) := by
 refine F.ok sc_is_ladder_pair (fun vs H Q E h => ?_) (fun cdv A outer s H vs Q E hr h => ?_)
 ·obtain ⟨v, l, rfl, _⟩ := h
  rfl
 obtain ⟨v, d, rfl, th, hd, h80, hw, q⟩ := h
 refine ⟨_, pss_one (ps_ret (pe_and (pe_isi B (pv 0) B.tuple boot_tuple) (pe_and (pe_cmpR op_eq (pe_callB call_len_seq rfl B.len PySem.boot_len (pa_cons (pv 0) pa_nil)) pe_int (nomark _))
  (pe_and (pe_got G hr rfl (pa_cons (pe_ix ix_tup (pv 0) pe_int (fun _ _ => rfl)) pa_nil)) (pe_one (pe_got GM (hr.mono (by omega)) rfl (pa_cons (pe_ix ix_tup (pv 0) pe_int (fun _ _ => rfl)) pa_nil))))))), ?_⟩
 obtain ⟨n1, b, ty, kb, y1, y2⟩ := th.ty
 refine ⟨_, rfl, _, _, n1, b, rfl, ty, kb, b, rfl, ?_⟩
 cases b with
 | false =>
  refine iteF ?_
  have e : ladP d = false := by rcases y2 rfl with ⟨i, rfl⟩ | rfl <;> simp [ladP]
  have := q H SB.refl
  rw [e] at this
  exact this
 | true =>
 refine iteT ?_
 obtain ⟨a, xs, ds, rfl, rfl, hs, ha⟩ := y1 rfl
 refine ⟨_, rfl, a, xs, rfl, .inr hs, rfl, _, rfl, ?_⟩
 have hl := ThAll.length ha
 refine ite2 (fun c => ?_) (fun c => ?_)
 ·have c' : V.int (xs.length : Nat) = V.int 2 := of_decide_eq_true c
  injection c' with c'
  have c2 : xs.length = 2 := by omega
  cases ha with
  | nil => simp at c2
  | cons t1 ta =>
   cases ta with
   | nil => simp at c2
   | cons t2 ta =>
    cases ta with
    | cons t3 ta => simp at c2
    | nil =>
     rename_i v1 d1 v2 d2
     have q1 : d1.depth < PyData.depth (.tuple [d1, d2]) := by simp only [PyData.depth, PyData.depthAll]; omega
     have q2 : wide d1 <= wide (.tuple [d1, d2]) := by simp only [wide, wides]; omega
     refine ⟨_, rfl, a, _, _, _, rfl, rfl, hs, atI_nat (j := 0) rfl, v1, d1, rfl, t1, by omega, by omega, by omega, fun H1 h1 => ?_⟩
     refine ⟨_, rfl, ?_⟩
     cases e1 : ladD d1 with
     | false =>
      refine iteF ?_
      have := q H1 h1
      have e : ladP (.tuple [d1, d2]) = false := by simp [ladP, ladP2, e1]
      rw [e] at this
      exact this
     | true =>
      refine iteT ?_
      refine ⟨_, rfl, a, _, _, _, rfl, rfl, h1.sqT hs, atI_nat (j := 1) rfl, v2, d2, rfl, Th_sb h1.nil t2, ?_⟩
      have := q H1 h1
      have e : ladP (.tuple [d1, d2]) = manyD d2 := by simp [ladP, ladP2, ladP3, e1]
      rw [e] at this
      exact this
 ·have c' : ¬ V.int (xs.length : Nat) = V.int 2 := of_decide_eq_false (Bool.eq_false_iff.mpr c)
  have c2 : ¬ xs.length = 2 := fun z => c' (by rw [z]; rfl)
  have e : ladP (.tuple ds) = false := by
   cases e : ladP (.tuple ds) with
   | false => rfl
   | true =>
    obtain ⟨e1, i, e2, _⟩ := ladP_iff.mp e
    injection e2 with e2
    rw [e2] at hl
    exact absurd hl c2
  have := q H SB.refl
  rw [e] at this
  exact this
end
section
variable {P : Program} {w : World} {K : PySem.W.Frag} {mg : Str -> Option Value} {base : Heap} {f : Addr} {fd : FuncData} {ps : List Addr}
theorem sc_number : FnScope ["many"] ["many"] (defScope s_number) := ⟨rfl, rfl, rfl, by decide +kernel, rfl, by decide +kernel, by decide +kernel⟩
theorem ok_number (F : Fun K "number" "number" s_number f fd) : FnOk P w K mg base CX0 1 f fd ["many"] (spNumber K) := by
 refine F.ok sc_number (fun vs H Q E h => ?_) (fun cdv A outer s H vs Q E hr h => ?_)
 ·obtain ⟨v, rfl, _⟩ := h
  rfl
 obtain ⟨i, rfl, q⟩ := h
 refine ⟨_, pss_cons (ps_if (pt_cmpR op_eq (pv 0) pe_int (nomark _)) (pss_one (ps_ret (pe_tup pa_nil))) pss_nil)
  (pss_one (ps_ret (pe_tup (pa_cons (pe_tup (pa_cons (pe_tup pa_nil) (pa_cons (pv 0) pa_nil))) pa_nil)))), ?_⟩
 refine ⟨_, rfl, rfl, _, rfl, ?_⟩
 refine ite2 (fun c => ?_) (fun c => ?_)
 ·have c' : V.int i = V.int 0 := of_decide_eq_true c
  injection c' with c'
  subst c'
  refine ⟨(by show 0 <= sizeLine; decide), fun p hp => ?_⟩
  exact q _ _ (SB.new hp _) (LA_nil (SqT.of upd_same))
 ·have c' : ¬ V.int i = V.int 0 := of_decide_eq_false (Bool.eq_false_iff.mpr c)
  have c2 : ¬ i = 0 := fun z => c' (by rw [z])
  refine ⟨(by show 0 <= sizeLine; decide), fun p1 h1 => ?_⟩
  refine ⟨_, rfl, (by show 2 <= sizeLine; decide), fun p2 h2 => ?_⟩
  refine ⟨(by show 1 <= sizeLine; decide), fun p3 h3 => ?_⟩
  have e1 : SB [] H (upd H p1 (.tup [])) := SB.new h1 _
  have e2 := SB.new (ps := []) h2 (.tup [.ref p1, .int i])
  have e3 := SB.new (ps := []) h3 (.tup [.ref p2])
  refine q _ _ (e1.trans (e2.trans e3)) ?_
  have e : Lad.num i = .cons .nil i .nil := if_neg c2
  rw [e]
  exact LA_one (SqT.of upd_same) (e3.sqT (SqT.of upd_same)) ((LA_nil (SqT.of upd_same)).sb (e2.trans e3))
end
section
variable {P : Program} {w : World} {K : PySem.W.Frag} {mg : Str -> Option Value} {base : Heap} {f : Addr} {fd : FuncData} {ps : List Addr}
theorem sc_is_less : FnScope ["one", "other"] ["one", "other"] (defScope s_is_less) := ⟨rfl, rfl, rfl, by decide +kernel, rfl, by decide +kernel, by decide +kernel⟩
theorem ok_is_less (F : Fun K "is_less" "is_less" s_is_less f fd) : FnOk P w K mg base CX0 1 f fd ["one", "other"] (spLess K) := by
 refine F.ok sc_is_less (fun vs H Q E h => ?_) (fun cdv A outer s H vs Q E hr h => ?_)
 ·obtain ⟨v, u, l, k, rfl, _⟩ := h
  rfl
 obtain ⟨v, u, l, k, rfl, hv, hu, hd, q⟩ := h
 refine ⟨_, pss_one (ps_ret (pe_cmpR (op_ltD (by have := hr.un; show A.units + 3 + 100 < cLine; have h3 : (A.deeper (envOfC "is_less" (defScope s_is_less) s.heap.objs.size f cdv)).units = A.units + 3 := rfl; omega)) (pv 0) (pv 1) (nomark _))), ?_⟩
 have := l.enc_depth
 exact ⟨_, rfl, _, rfl, l.enc, k.enc, hv, hu, l.alike_enc k, l.enc_ne, by omega, q⟩
end
section
variable {P : Program} {w : World} {K : PySem.W.Frag} {mg : Str -> Option Value} {base : Heap} {f : Addr} {fd : FuncData}
abbrev N_behind : List Str := ["one", "other", "exponent", "many", "kept", "alike", "pair"]
theorem sc_behind : FnScope N_behind ["one", "other"] (defScope s_behind) := ⟨rfl, rfl, rfl, by decide +kernel, rfl, by decide +kernel, by decide +kernel⟩
theorem ok_behind (B : BI mg) (GL : Got P w K mg base "is_less" ["one", "other"] 1 (spLess K)) (GM : Got P w K mg base "many_at" ["pairs", "thing"] 1 (spManyAt K)) (F : Fun K "behind" "behind" s_behind f fd) : FnOk P w K mg base CX0 2 f fd ["one", "other"] (spBehind K) := by
 refine F.ok sc_behind (fun vs H Q E h => ?_) (fun cdv A outer s H vs Q E hr h => ?_)
 ·obtain ⟨v, u, l, k, rfl, _⟩ := h
  rfl
 obtain ⟨v, u, l, k, rfl, hv, hu, hd, hd2, hp, hp2, q⟩ := h
 refine ⟨_, pss_cons (ps_if (pt_not (pt_truth (pv 1) (by intro _; rfl))) (pss_one (ps_ret (pv 0))) pss_nil)
  (pss_cons (ps_asg (pe_ix ix_tup (pv 1) pe_int (fun _ _ => rfl)) (pg_tup rfl (pgs_cons (pg_name (i := 2) sc_behind.nd rfl (.inr rfl)) (pgs_cons (pg_name (i := 3) sc_behind.nd rfl (.inl rfl)) pgs_nil))))
  (pss_cons (ps_set (i := 4) sc_behind.nd rfl (.inl rfl) (pe_callTy call_tuple_of rfl B.tuple boot_tuple (pa_cons
   (pe_lc (own := [("pair", 6)]) (g := gName 6) (tt := tB (tCall (spLess K) [] E0 (tCons (tVar 2) (tCons (tOp (rIxT K) (tVar 6) (tC (.int 0))) tNil)))) (te := tVar 6) rfl sc_behind.nd (pi_tup (pv 0))
    (blkOk_by (N := N_behind) (sc := defScope s_behind) (by decide +kernel))
    (fun _ _ _ _ _ => pg_name (i := 6) sc_behind.nd rfl (.inl rfl))
    (fun _ _ _ _ _ => pts_one (pt_val (pe_got GL hr rfl (pa_cons (pv 2) (pa_cons (pe_ix ix_tup (pv 6) pe_int (fun _ _ => rfl)) pa_nil)))))
    (fun _ _ _ _ _ => pv 6)) pa_nil)))
  (pss_cons (ps_set (i := 5) sc_behind.nd rfl (.inl rfl) (pe_got GM hr rfl (pa_cons (pv 0) (pa_cons (pv 2) pa_nil))))
  (pss_one (ps_ret (pe_op op_catB (pe_op op_catB (pv 4) (pe_tup (pa_cons (pe_tup (pa_cons (pv 2) (pa_cons (pe_op op_add (pv 5) (pv 3)) pa_nil))) pa_nil))) (pe_slice sl_tupB (pv 1) (po_some pe_int) po_none))))))), ?_⟩
 obtain ⟨b, ys, rfl, hsb, hbb⟩ := LA_bears hu
 refine ⟨_, rfl, _, .inr (.inl ⟨ys, hsb, rfl⟩), ?_⟩
 cases k with
 | nil =>
  cases hbb
  refine iteT ?_
  exact ⟨_, rfl, q v H SB.refl hv⟩
 | cons e m r =>
  rw [show (Lad.cons e m r).ps = (e, m) :: r.ps from rfl] at hbb
  cases hbb with
  | @cons y0 yr _ _ h0 hbr =>
  refine iteF ?_
  obtain ⟨c, ue, rfl, hsc, hle⟩ := LA_pair h0
  refine ⟨_, rfl, b, _, _, _, rfl, rfl, hsb, atI_nat (j := 0) rfl, c, _, rfl, hsc, rfl, _, _, rfl, _, _, rfl, rfl, ?_⟩
  obtain ⟨a, xs, rfl, hsa, hba⟩ := LA_bears hv
  have bl := hba.length
  have lp := l.len_parts
  rw [<- Lad.ps_length] at lp
  have ed : e.deep < (Lad.cons e m r).deep := Lad.mem_deep (.cons e m r) (e, m) (mcs ..)
  refine ⟨_, rfl, a, rfl, ⟨xs, hsa⟩, fun D hD => ?_⟩
  refine lc_it (walk_tup (xs := xs)) (fun i H2 => SB [D] H H2 /\ ∃ acc, H2 D = some (.lst acc) /\ Bears K H2 Lad.pEnc acc ((l.ps.take i).filter fun p => e.lt p.1)) ⟨SB.new hD _, [], upd_same, .nil⟩ (fun i H2 hi h2 => (h2.1.drop hD).sqT hsa) (fun i x H2 H' hi h2 y => ?_) (fun H2 h2 => ?_)
  ·obtain ⟨s2, acc, hD2, hb2⟩ := h2
   obtain ⟨rfl, ex⟩ := y
   have s2' := s2.drop hD
   obtain ⟨b1, eb, hbd⟩ := hba.get ex
   obtain ⟨ad, ux, rfl, hs2, hla⟩ := LA_pair hbd
   refine ⟨rfl, ?_⟩
   refine ⟨_, rfl, _, rfl, ad, _, _, _, rfl, rfl, s2'.sqT hs2, atI_nat (j := 0) rfl, ue, ux, e, b1.1, rfl, hle.sb s2', hla.sb s2', by omega, _, rfl, ?_⟩
   have al := hb2.length
   have fl := List.length_filter_le (fun p : Lad × Int => e.lt p.1) (l.ps.take i)
   rw [List.length_take] at fl
   cases hc : e.lt b1.1 with
   | true =>
    refine iteT ?_
    refine ⟨_, rfl, acc, hD2, small1000 (by omega), ?_⟩
    have t9 := SB.set (ps := [D]) hD2 (by simp) (.lst (acc ++ [.ref ad]))
    refine ⟨s2.trans t9, _, upd_same, ?_⟩
    rw [List.take_add_one, eb, List.filter_append]
    refine Bears.append (hb2.sb t9 Lad.pEnc_noList) ?_
    have : ([b1] : List (Lad × Int)).filter (fun p => e.lt p.1) = [b1] := by simp [hc]
    show Bears K _ Lad.pEnc _ (([b1] : List (Lad × Int)).filter (fun p => e.lt p.1))
    rw [this]
    exact .cons (Dp_sb t9 _ _ (Lad.pEnc_noList _) (Dp_sb s2' _ _ (Lad.pEnc_noList _) hbd)) .nil
   | false =>
    refine iteF ?_
    refine ⟨s2, acc, hD2, ?_⟩
    rw [List.take_add_one, eb, List.filter_append]
    simpa [hc] using hb2
  ·obtain ⟨s2, acc, hD2, hb2⟩ := h2
   rw [bl, List.take_length] at hb2
   have s2' := s2.drop hD
   refine ⟨D, acc, rfl, .inl ⟨SqL.of hD2, fun kt hkt => ?_⟩⟩
   have s3 := SB.new (ps := []) hkt (.tup acc)
   have s23 := s2'.trans s3
   refine ⟨_, rfl, _, rfl, _, ue, l, e, rfl, hv.sb s23, hle.sb s23, by omega, by omega, by omega, fun H4 s4 => ?_⟩
   refine ⟨_, rfl, _, rfl, _, rfl, _, rfl, _, _, rfl, rfl, (by show 2 <= sizeLine; decide), fun t1 ht1 => ?_⟩
   have s5 := SB.new (ps := []) ht1 (.tup [ue, .int (Lad.sumAt l.ps e + m)])
   refine ⟨(by show 1 <= sizeLine; decide), fun t2 ht2 => ?_⟩
   have s6 := SB.new (ps := []) ht2 (.tup [.ref t1])
   have al := hb2.length
   have fl := List.length_filter_le (fun p : Lad × Int => e.lt p.1) l.ps
   refine ⟨kt, t2, _, _, rfl, rfl, ((s4.trans s5).trans s6).sqT (SqT.of upd_same), SqT.of upd_same, by rw [List.length_singleton]; omega, fun c1 H7 s7 hc1 => ?_⟩
   have s47 := ((s4.trans s5).trans s6).trans s7
   refine ⟨_, rfl, 1, rfl, b, _, rfl, (s23.trans s47).sqT hsb, fun c2 H8 s8 hc2 => ?_⟩
   have e1 : cutV (V.ref c :: yr) (some 1) none = yr := by
    have := cutDrop (V.ref c :: yr) 1
    exact this
   rw [e1] at hc2
   have rl := hbr.length
   have rp := (Lad.cons e m r).len_parts
   have rp2 : r.ps.length + 1 = (Lad.cons e m r).len := by rw [<- Lad.ps_length]; rfl
   refine ⟨c1, c2, _, _, rfl, rfl, s8.sqT hc1, hc2, by rw [List.length_append, List.length_singleton]; omega, fun c3 H9 s9 hc3 => ?_⟩
   refine q _ _ (((s23.trans s47).trans s8).trans s9) ?_
   rw [Lad.bhd_cons]
   refine Bears_la hc3 ?_
   have z1 : SB [] _ H9 := (s3.trans s47).trans (s8.trans s9)
   have z2 : SB [] _ H9 := (s6.trans s7).trans (s8.trans s9)
   rw [List.append_assoc]
   refine Bears.append (hb2.sb z1 Lad.pEnc_noList) (.cons ?_ (hbr.sb ((s23.trans s47).trans (s8.trans s9)) Lad.pEnc_noList))
   exact Dp.tup (z2.sqT (SqT.of upd_same)) (.cons (hle.sb (((s23.trans s47).trans s8).trans s9)) (.cons (.int _) .nil))
theorem sc_both : FnScope ["one", "other"] ["one", "other"] (defScope s_both) := ⟨rfl, rfl, rfl, by decide +kernel, rfl, by decide +kernel, by decide +kernel⟩
theorem ok_both (G : Got P w K mg base "all_together" ["some"] 2 (spAllT K)) (F : Fun K "both" "both" s_both f fd) : FnOk P w K mg base CX0 3 f fd ["one", "other"] (spBoth K) := by
 refine F.ok sc_both (fun vs H Q E h => ?_) (fun cdv A outer s H vs Q E hr h => ?_)
 ·obtain ⟨v, u, l, k, rfl, _⟩ := h
  rfl
 obtain ⟨v, u, l, k, rfl, hv, hu, hd, hd2, hp, hp2, q⟩ := h
 refine ⟨_, pss_one (ps_ret (pe_got G hr rfl (pa_cons (pe_lst (pa_cons (pv 0) (pa_cons (pv 1) pa_nil))) pa_nil))), ?_⟩
 have lp := l.len_parts
 have kp := k.len_parts
 rw [<- Lad.ps_length] at lp kp
 refine ⟨_, rfl, _, rfl, (by show 2 <= sizeLine; decide), fun p hp => ?_⟩
 have s1 := SB.new (ps := []) hp (.lst [v, u])
 refine ⟨p, _, [l, k], rfl, SqL.of upd_same, .cons (hv.sb s1) (.cons (hu.sb s1) .nil), fun x hx => ?_, by simp; omega, fun x H' s2 hx => ?_⟩
 ·simp at hx
  rcases hx with rfl | rfl <;> assumption
 ·rw [Lad.bths_two] at hx
  exact q _ _ (s1.trans s2) hx
abbrev N_allt : List Str := ["some", "pairs", "ladder", "pair"]
theorem sc_all_together : FnScope N_allt ["some"] (defScope s_all_together) := ⟨rfl, rfl, rfl, by decide +kernel, rfl, by decide +kernel, by decide +kernel⟩
theorem ok_all_together (B : BI mg) (G : Got P w K mg base "joined" ["pairs"] 1 (spJoined K Lad.enc)) (F : Fun K "all_together" "all_together" s_all_together f fd) : FnOk P w K mg base CX0 2 f fd ["some"] (spAllT K) := by
 refine F.ok sc_all_together (fun vs H Q E h => ?_) (fun cdv A outer s H vs Q E hr h => ?_)
 ·obtain ⟨a, xs, ls, rfl, _⟩ := h
  rfl
 obtain ⟨a, xs, ls, rfl, hs, hb, hd, hn, q⟩ := h
 have hun2 := hunT hr
 refine ⟨_, pss_cons (ps_setLc2 (i := 1) (own := [("ladder", 2), ("pair", 3)]) (vs1 := [3]) (wi1 := iTup K (tVar 2)) (g := gName 2) (g1 := gName 3) (tt := tYes) (tt1 := tYes) (te := tVar 3) rfl sc_all_together.nd rfl rfl (sw_true rfl rfl rfl (by decide +kernel)) (pi_list (pv 0))
   (blkOk_by (N := N_allt) (sc := defScope s_all_together) (by decide +kernel)) (by simp)
   (fun _ _ _ _ _ => pg_name (i := 2) sc_all_together.nd rfl (.inl rfl)) (fun _ _ _ _ _ => pts_nil)
   (fun _ _ _ _ _ => pi_tup (pv 2)) (fun _ _ _ _ _ => pg_name (i := 3) sc_all_together.nd rfl (.inl rfl)) (fun _ _ _ _ _ => pts_nil) (fun _ _ _ _ _ => pv 3))
  (pss_one (ps_ret (pe_got G hr rfl (pa_cons (pe_callBK (cr_sortedLR Lad.pEnc (b := true) (by show A.units + 3 + 110 < cLine; omega)) rfl B.sorted (by decide +kernel) (pa_cons (pv 1) pa_nil) (pk_cons pe_bl pk_nil)) pa_nil)))), ?_⟩
 have xl := hb.length
 refine ⟨_, rfl, a, rfl, ⟨xs, hs⟩, fun D hD => ?_⟩
 refine lcG (walk_list (xs := xs)) (fun i H2 => SB [D] H H2 /\ ∃ acc, H2 D = some (.lst acc) /\ Bears K H Lad.pEnc acc ((ls.take i).flatMap Lad.ps)) ⟨SB.new hD _, [], upd_same, .nil⟩ (fun i H2 hi h2 => (h2.1.drop hD).sqL nmn hs) (fun i x H2 H' hi h2 y => ?_) (fun H2 h2 => ?_)
 ·obtain ⟨s2, acc, hD2, hacc⟩ := h2
  obtain ⟨rfl, ex⟩ := y
  obtain ⟨l, el, hl⟩ := hb.get ex
  obtain ⟨c, ys, rfl, hsc, hbc⟩ := LA_bears hl
  have yl := hbc.length
  refine ⟨rfl, ?_⟩
  refine ⟨_, rfl, c, rfl, ⟨ys, (s2.drop hD).sqT hsc⟩, ?_⟩
  have hsplit : (ls.take (i + 1)).flatMap Lad.ps = (ls.take i).flatMap Lad.ps ++ l.ps := by rw [List.take_add_one, el]; simp
  have hle : ((ls.take (i + 1)).flatMap Lad.ps).length <= 1900000 := by
   have h1 : ls.flatMap Lad.ps = (ls.take (i + 1)).flatMap Lad.ps ++ (ls.drop (i + 1)).flatMap Lad.ps := by rw [<- List.flatMap_append, List.take_append_drop]
   rw [h1, List.length_append] at hn
   omega
  refine lcG (walk_tup (xs := ys)) (fun j H3 => SB [D] H H3 /\ ∃ acc, H3 D = some (.lst acc) /\ Bears K H Lad.pEnc acc ((ls.take i).flatMap Lad.ps ++ l.ps.take j)) ⟨s2, acc, hD2, by simpa using hacc⟩ (fun j H3 hj h3 => (h3.1.drop hD).sqT hsc) (fun j x H3 H4 hj h3 y => ?_) (fun H3 h3 => ?_)
  ·obtain ⟨s3, acc3, hD3, hacc3⟩ := h3
   obtain ⟨rfl, ex⟩ := y
   obtain ⟨p, ep, hp⟩ := hbc.get ex
   refine ⟨rfl, ?_⟩
   refine ⟨_, rfl, acc3, hD3, ?_, s3.trans (SB.set hD3 (by simp) _), _, upd_same, ?_⟩
   ·rw [hacc3.length]
    rw [hsplit] at hle
    refine small1000 ?_
    rw [List.length_append, List.length_take] at *
    omega
   ·rw [List.take_add_one, ep, <- List.append_assoc]
    exact Bears.append hacc3 (.cons hp .nil)
  ·obtain ⟨s3, acc3, hD3, hacc3⟩ := h3
   refine ⟨s3, acc3, hD3, ?_⟩
   rw [hsplit]
   rw [yl, List.take_length] at hacc3
   exact hacc3
 ·obtain ⟨s2, acc, hD2, hacc⟩ := h2
  rw [xl, List.take_length] at hacc
  have s2' := s2.drop hD
  refine ⟨_, rfl, rfl, D, _, ls.flatMap Lad.ps, rfl, SqL.of hD2, hacc.sb s2' Lad.pEnc_noList, Lad.pEnc_all _, Lad.pEnc_sortable _, by omega, fun p hp => ?_, fun p zs hp hz => ?_⟩
  ·have := Lad.pEnc_depth p
   obtain ⟨l, hl, hp⟩ := List.mem_flatMap.mp hp
   have := hd l hl
   have := l.mem_deep p hp
   omega
  have s3 := SB.new (ps := []) hp (.lst zs)
  refine ⟨p, zs, Lad.dsc (ls.flatMap Lad.ps), rfl, SqL.of upd_same, hz.sb s3 Lad.pEnc_noList, ?_, fun b hb => ?_, fun c2 ws H3 s4 hc2 hb3 => ?_⟩
  ·rw [(Lad.dsc_perm _).length_eq]; omega
  ·refine Lad.shaped_enc ?_
   obtain ⟨l, hl, hp⟩ := List.mem_flatMap.mp ((Lad.dsc_perm _).mem_iff.mp hb)
   have := hd l hl
   have := l.mem_deep b hp
   omega
  ·exact q _ _ ((s2'.trans s3).trans s4) (Bears_la hc2 hb3)
abbrev N_manyof : List Str := ["ladder", "many", "pair"]
theorem sc_many_of : FnScope N_manyof ["ladder", "many"] (defScope s_many_of) := ⟨rfl, rfl, rfl, by decide +kernel, rfl, by decide +kernel, by decide +kernel⟩
theorem ok_many_of (B : BI mg) (F : Fun K "many_of" "many_of" s_many_of f fd) : FnOk P w K mg base CX0 1 f fd ["ladder", "many"] (spManyOf K) := by
 refine F.ok sc_many_of (fun vs H Q E h => ?_) (fun cdv A outer s H vs Q E hr h => ?_)
 ·obtain ⟨v, l, m, rfl, _⟩ := h
  rfl
 obtain ⟨v, l, m, rfl, hv, hp, hsz, hm0, hm1, q⟩ := h
 refine ⟨_, pss_cons (ps_if (pt_cmpR op_eq (pv 1) pe_int (nomark _)) (pss_one (ps_ret (pe_tup pa_nil))) pss_nil)
  (pss_one (ps_ret (pe_callTy call_tuple_of rfl B.tuple boot_tuple (pa_cons
   (pe_lc (own := [("pair", 2)]) (g := gName 2) (tt := tYes) (te := tTup (tCons (tOp (rIxT K) (tVar 2) (tC (.int 0))) (tCons (tOp (rI CMulW fun i j => .int (i * j)) (tOp (rIxT K) (tVar 2) (tC (.int 1))) (tVar 1)) tNil))) rfl sc_many_of.nd (pi_tup (pv 0))
    (blkOk_by (N := N_manyof) (sc := defScope s_many_of) (by decide +kernel))
    (fun _ _ _ _ _ => pg_name (i := 2) sc_many_of.nd rfl (.inl rfl))
    (fun _ _ _ _ _ => pts_nil)
    (fun _ _ _ _ _ => pe_tup (pa_cons (pe_ix ix_tup (pv 2) pe_int (fun _ _ => rfl)) (pa_cons (pe_op op_mulW (pe_ix ix_tup (pv 2) pe_int (fun _ _ => rfl)) (pv 1)) pa_nil)))) pa_nil)))), ?_⟩
 refine ⟨_, rfl, rfl, _, rfl, ?_⟩
 refine ite2 (fun c => ?_) (fun c => ?_)
 ·have c' : V.int m = V.int 0 := of_decide_eq_true c
  injection c' with c'
  refine ⟨(by show 0 <= sizeLine; decide), fun t ht => ?_⟩
  have e : l.tms m = .nil := if_pos c'
  exact q _ _ (SB.new ht _) (by rw [e]; exact LA_nil (SqT.of upd_same))
 ·have c' : ¬ V.int m = V.int 0 := of_decide_eq_false (Bool.eq_false_iff.mpr c)
  have c2 : ¬ m = 0 := fun z => c' (by rw [z])
  have e : l.tms m = Lad.ofPs (l.ps.map fun p => (p.1, p.2 * m)) := if_neg c2
  obtain ⟨a, xs, rfl, hsa, hba⟩ := LA_bears hv
  have xl := hba.length
  have lp := l.len_parts
  rw [<- Lad.ps_length] at lp
  refine ⟨_, rfl, a, rfl, ⟨xs, hsa⟩, fun D hD => ?_⟩
  refine lc_it (walk_tup (xs := xs)) (fun i H2 => SB [D] H H2 /\ ∃ acc, H2 D = some (.lst acc) /\ Bears K H2 Lad.pEnc acc ((l.ps.take i).map fun p => (p.1, p.2 * m))) ⟨SB.new hD _, [], upd_same, .nil⟩ (fun i H2 hi h2 => (h2.1.drop hD).sqT hsa) (fun i x H2 H' hi h2 y => ?_) (fun H2 h2 => ?_)
  ·obtain ⟨s2, acc, hD2, hb2⟩ := h2
   obtain ⟨rfl, ex⟩ := y
   have s2' := s2.drop hD
   obtain ⟨b1, eb, hbd⟩ := hba.get ex
   obtain ⟨ad, ux, rfl, hs2, hla⟩ := LA_pair hbd
   have bz := hsz b1 (List.mem_of_getElem? eb)
   have al := hb2.length
   rw [List.length_map, List.length_take] at al
   refine ⟨rfl, ?_⟩
   refine ⟨_, rfl, ad, _, _, _, rfl, rfl, s2'.sqT hs2, atI_nat (j := 0) rfl, _, rfl, ad, _, _, _, rfl, rfl, s2'.sqT hs2, atI_nat (j := 1) rfl, _, rfl, _, _, rfl, rfl, wide_mul (a := 2000) (b := 2000) (by omega) (by omega) (by decide) (by decide) (by decide), (by show 2 <= sizeLine; decide), fun t ht => ?_⟩
   have t3 := SB.new (ps := [D]) ht (.tup [ux, .int (b1.2 * m)])
   have hD3 : (upd H' t (.tup [ux, .int (b1.2 * m)])) D = some (.lst acc) := by rw [upd_ne (ne_of_none hD2 ht)]; exact hD2
   refine ⟨acc, hD3, small1000 (by omega), ?_⟩
   have t4 := SB.set (ps := [D]) hD3 (by simp) (.lst (acc ++ [.ref t]))
   refine ⟨(s2.trans t3).trans t4, _, upd_same, ?_⟩
   rw [List.take_add_one, eb, List.map_append]
   exact Bears.append ((hb2.sb t3 Lad.pEnc_noList).sb t4 Lad.pEnc_noList) (.cons (Dp.tup (t4.sqT (SqT.of upd_same)) (.cons (((hla.sb s2').sb t3).sb t4) (.cons (.int _) .nil))) .nil)
  ·obtain ⟨s2, acc, hD2, hb2⟩ := h2
   rw [xl, List.take_length] at hb2
   refine ⟨D, acc, rfl, .inl ⟨SqL.of hD2, fun t ht => ?_⟩⟩
   have t3 := SB.new (ps := []) ht (.tup acc)
   refine q _ _ ((s2.drop hD).trans t3) ?_
   rw [e]
   exact Bears_la (SqT.of upd_same) (hb2.sb t3 Lad.pEnc_noList)
theorem sc_power : FnScope ["ladder"] ["ladder"] (defScope s_power) := ⟨rfl, rfl, rfl, by decide +kernel, rfl, by decide +kernel, by decide +kernel⟩
theorem ok_power (F : Fun K "power" "power" s_power f fd) : FnOk P w K mg base CX0 1 f fd ["ladder"] (spPower K) := by
 refine F.ok sc_power (fun vs H Q E h => ?_) (fun cdv A outer s H vs Q E hr h => ?_)
 ·obtain ⟨v, l, rfl, _⟩ := h
  rfl
 obtain ⟨v, l, rfl, hv, q⟩ := h
 refine ⟨_, pss_one (ps_ret (pe_tup (pa_cons (pe_tup (pa_cons (pv 0) (pa_cons pe_int pa_nil))) pa_nil))), ?_⟩
 refine ⟨_, rfl, (by show 2 <= sizeLine; decide), fun p1 h1 => ?_⟩
 refine ⟨(by show 1 <= sizeLine; decide), fun p2 h2 => ?_⟩
 have e1 := SB.new (ps := []) h1 (.tup [v, .int 1])
 have e2 := SB.new (ps := []) h2 (.tup [.ref p1])
 exact q _ _ (e1.trans e2) (LA_one (SqT.of upd_same) (e2.sqT (SqT.of upd_same)) ((hv.sb e1).sb e2))
abbrev N_above : List Str := ["one", "other", "exponent", "kept", "pair"]
theorem sc_above : FnScope N_above ["one", "other"] (defScope s_above) := ⟨rfl, rfl, rfl, by decide +kernel, rfl, by decide +kernel, by decide +kernel⟩
theorem ok_above (B : BI mg) (GL : Got P w K mg base "is_less" ["one", "other"] 1 (spLess K)) (GN : Got P w K mg base "number" ["many"] 1 (spNumber K)) (GW : Got P w K mg base "power" ["ladder"] 1 (spPower K)) (GH : Got P w K mg base "behind" ["one", "other"] 2 (spBehind K)) (GB : Got P w K mg base "both" ["one", "other"] 3 (spBoth K)) (F : Fun K "above" "above" s_above f fd) : FnOk P w K mg base CX0 4 f fd ["one", "other"] (spAbove K) := by
 refine F.ok sc_above (fun vs H Q E h => ?_) (fun cdv A outer s H vs Q E hr h => ?_)
 ·obtain ⟨v, u, l, k, rfl, _⟩ := h
  rfl
 obtain ⟨v, u, l, k, rfl, hv, hu, hd, hd2, hp, hp2, q⟩ := h
 have hr1 := hr.mono (j := 1) (by decide)
 have hr2 := hr.mono (j := 2) (by decide)
 refine ⟨_, pss_cons (ps_if (pt_not (pt_truth (pv 1) (by intro _; rfl))) (pss_one (ps_ret (pe_got GB hr rfl (pa_cons (pv 0) (pa_cons (pe_got GN hr1 rfl (pa_cons pe_int pa_nil)) pa_nil))))) pss_nil)
  (pss_cons (ps_set (i := 2) sc_above.nd rfl (.inr rfl) (pe_ix ix_tup (pe_ix ix_tup (pv 1) pe_int (fun _ _ => rfl)) pe_int (fun _ _ => rfl)))
  (pss_cons (ps_set (i := 3) sc_above.nd rfl (.inl rfl) (pe_callTy call_tuple_of rfl B.tuple boot_tuple (pa_cons
   (pe_lc (own := [("pair", 4)]) (g := gName 4) (tt := tB (tCall (spLess K) [] E0 (tCons (tVar 2) (tCons (tOp (rIxT K) (tVar 4) (tC (.int 0))) tNil)))) (te := tVar 4) rfl sc_above.nd (pi_tup (pv 0))
    (blkOk_by (N := N_above) (sc := defScope s_above) (by decide +kernel))
    (fun _ _ _ _ _ => pg_name (i := 4) sc_above.nd rfl (.inl rfl))
    (fun _ _ _ _ _ => pts_one (pt_val (pe_got GL hr1 rfl (pa_cons (pv 2) (pa_cons (pe_ix ix_tup (pv 4) pe_int (fun _ _ => rfl)) pa_nil)))))
    (fun _ _ _ _ _ => pv 4)) pa_nil)))
  (pss_one (ps_ret (pe_got GB hr rfl (pa_cons (pv 3) (pa_cons (pe_got GW hr1 rfl (pa_cons (pe_got GH hr2 rfl (pa_cons (pv 2) (pa_cons (pe_got GN hr1 rfl (pa_cons pe_int pa_nil)) pa_nil))) pa_nil)) pa_nil))))))), ?_⟩
 obtain ⟨b, ys, rfl, hsb, hbb⟩ := LA_bears hu
 refine ⟨_, rfl, _, .inr (.inl ⟨ys, hsb, rfl⟩), ?_⟩
 cases k with
 | nil =>
  cases hbb
  refine iteT ?_
  refine ⟨_, rfl, 1, rfl, fun n1 H1 s1 hn1 => ?_⟩
  rw [Lad.num_one] at hn1
  exact ⟨v, n1, l, Lad.uno, rfl, hv.sb s1, hn1, by omega, by decide, by omega, by decide, fun x H' s2 hx => q x H' (s1.trans s2) hx⟩
 | cons e m r =>
  rw [show (Lad.cons e m r).ps = (e, m) :: r.ps from rfl] at hbb
  cases hbb with
  | @cons y0 yr _ _ h0 hbr =>
  refine iteF ?_
  obtain ⟨c, ue, rfl, hsc, hle⟩ := LA_pair h0
  refine ⟨_, rfl, b, _, _, _, rfl, rfl, hsb, atI_nat (j := 0) rfl, c, _, _, _, rfl, rfl, hsc, atI_nat (j := 0) rfl, ?_⟩
  obtain ⟨a, xs, rfl, hsa, hba⟩ := LA_bears hv
  have bl := hba.length
  have lp := l.len_parts
  rw [<- Lad.ps_length] at lp
  have ed : e.deep < (Lad.cons e m r).deep := Lad.mem_deep (.cons e m r) (e, m) (mcs ..)
  have ep : e.parts <= (Lad.cons e m r).parts := by show e.parts <= 1 + e.parts + r.parts; omega
  refine ⟨_, rfl, a, rfl, ⟨xs, hsa⟩, fun D hD => ?_⟩
  refine lc_it (walk_tup (xs := xs)) (fun i H2 => SB [D] H H2 /\ ∃ acc, H2 D = some (.lst acc) /\ Bears K H2 Lad.pEnc acc ((l.ps.take i).filter fun p => e.lt p.1)) ⟨SB.new hD _, [], upd_same, .nil⟩ (fun i H2 hi h2 => (h2.1.drop hD).sqT hsa) (fun i x H2 H' hi h2 y => ?_) (fun H2 h2 => ?_)
  ·obtain ⟨s2, acc, hD2, hb2⟩ := h2
   obtain ⟨rfl, ex⟩ := y
   have s2' := s2.drop hD
   obtain ⟨b1, eb, hbd⟩ := hba.get ex
   obtain ⟨ad, ux, rfl, hs2, hla⟩ := LA_pair hbd
   refine ⟨rfl, ?_⟩
   refine ⟨_, rfl, _, rfl, ad, _, _, _, rfl, rfl, s2'.sqT hs2, atI_nat (j := 0) rfl, ue, ux, e, b1.1, rfl, hle.sb s2', hla.sb s2', by omega, _, rfl, ?_⟩
   have al := hb2.length
   have fl := List.length_filter_le (fun p : Lad × Int => e.lt p.1) (l.ps.take i)
   rw [List.length_take] at fl
   cases hc : e.lt b1.1 with
   | true =>
    refine iteT ?_
    refine ⟨_, rfl, acc, hD2, small1000 (by omega), ?_⟩
    have t9 := SB.set (ps := [D]) hD2 (by simp) (.lst (acc ++ [.ref ad]))
    refine ⟨s2.trans t9, _, upd_same, ?_⟩
    rw [List.take_add_one, eb, List.filter_append]
    refine Bears.append (hb2.sb t9 Lad.pEnc_noList) ?_
    have : ([b1] : List (Lad × Int)).filter (fun p => e.lt p.1) = [b1] := by simp [hc]
    show Bears K _ Lad.pEnc _ (([b1] : List (Lad × Int)).filter (fun p => e.lt p.1))
    rw [this]
    exact .cons (Dp_sb t9 _ _ (Lad.pEnc_noList _) (Dp_sb s2' _ _ (Lad.pEnc_noList _) hbd)) .nil
   | false =>
    refine iteF ?_
    refine ⟨s2, acc, hD2, ?_⟩
    rw [List.take_add_one, eb, List.filter_append]
    simpa [hc] using hb2
  ·obtain ⟨s2, acc, hD2, hb2⟩ := h2
   rw [bl, List.take_length] at hb2
   have s2' := s2.drop hD
   refine ⟨D, acc, rfl, .inl ⟨SqL.of hD2, fun kt hkt => ?_⟩⟩
   have s3 := SB.new (ps := []) hkt (.tup acc)
   have s23 := s2'.trans s3
   have kept : LA K (upd H2 kt (.tup acc)) (.ref kt) (Lad.ofPs (l.ps.filter fun p => e.lt p.1)) := Bears_la (SqT.of upd_same) (hb2.sb s3 Lad.pEnc_noList)
   refine ⟨_, rfl, _, rfl, 1, rfl, fun n1 H4 s4 hn1 => ?_⟩
   rw [Lad.num_one] at hn1
   refine ⟨ue, n1, e, Lad.uno, rfl, (hle.sb s23).sb s4, hn1, by omega, by decide, by omega, by decide, fun x1 H5 s5 hx1 => ?_⟩
   refine ⟨x1, _, rfl, hx1, fun x2 H6 s6 hx2 => ?_⟩
   have b1 := Lad.bhd_parts e Lad.uno
   have b2 := Lad.bhd_deep (n := 29) (l := e) (k := Lad.uno) (by omega) (by decide)
   have b3 := Lad.filter_parts l fun p => e.lt p.1
   have b4 : Lad.uno.parts = 1 := rfl
   refine ⟨.ref kt, x2, _, _, rfl, ((kept.sb s4).sb s5).sb s6, hx2, Nat.le_trans (Lad.filter_deep _ hd) (by decide), by show max (1 + (Lad.bhd e Lad.uno).deep) 0 <= 30; omega, by omega, by show 1 + (Lad.bhd e Lad.uno).parts + 0 <= 800000; omega, fun x H' s7 hx => ?_⟩
   exact q x H' (((s23.trans s4).trans s5).trans (s6.trans s7)) hx
theorem sc_spread : FnScope ["one", "other"] ["one", "other"] (defScope s_spread) := ⟨rfl, rfl, rfl, by decide +kernel, rfl, by decide +kernel, by decide +kernel⟩
theorem ok_spread (GW : Got P w K mg base "power" ["ladder"] 1 (spPower K)) (GH : Got P w K mg base "behind" ["one", "other"] 2 (spBehind K)) (F : Fun K "spread" "spread" s_spread f fd) : FnOk P w K mg base CX0 3 f fd ["one", "other"] (spSpread K) := by
 refine F.ok sc_spread (fun vs H Q E h => ?_) (fun cdv A outer s H vs Q E hr h => ?_)
 ·obtain ⟨v, u, e, m, r, k, rfl, _⟩ := h
  rfl
 obtain ⟨v, u, e, m, r, k, rfl, hv, hu, hd, hd2, hp, hp2, q⟩ := h
 have hr1 := hr.mono (j := 1) (by decide)
 refine ⟨_, pss_cons (ps_if (pt_not (pt_truth (pv 1) (by intro _; rfl))) (pss_one (ps_ret (pv 0))) pss_nil)
  (pss_one (ps_ret (pe_got GW hr1 rfl (pa_cons (pe_got GH hr rfl (pa_cons (pe_ix ix_tup (pe_ix ix_tup (pv 0) pe_int (fun _ _ => rfl)) pe_int (fun _ _ => rfl)) (pa_cons (pv 1) pa_nil))) pa_nil)))), ?_⟩
 obtain ⟨b, ys, rfl, hsb, hbb⟩ := LA_bears hu
 refine ⟨_, rfl, _, .inr (.inl ⟨ys, hsb, rfl⟩), ?_⟩
 cases k with
 | nil =>
  cases hbb
  refine iteT ?_
  exact ⟨_, rfl, q v H SB.refl hv⟩
 | cons e2 m2 r2 =>
  rw [show (Lad.cons e2 m2 r2).ps = (e2, m2) :: r2.ps from rfl] at hbb
  cases hbb with
  | @cons y0 yr _ _ h0 hbr =>
  refine iteF ?_
  obtain ⟨a, xs, rfl, hsa, hba⟩ := LA_bears hv
  rw [show (Lad.cons e m r).ps = (e, m) :: r.ps from rfl] at hba
  cases hba with
  | @cons x0 xr _ _ g0 gbr =>
  obtain ⟨c, ue, rfl, hsc, hle⟩ := LA_pair g0
  have ed : e.deep < (Lad.cons e m r).deep := Lad.mem_deep (.cons e m r) (e, m) (mcs ..)
  have ep : e.parts <= (Lad.cons e m r).parts := by show e.parts <= 1 + e.parts + r.parts; omega
  refine ⟨_, rfl, a, _, _, _, rfl, rfl, hsa, atI_nat (j := 0) rfl, c, _, _, _, rfl, rfl, hsc, atI_nat (j := 0) rfl, _, rfl, ue, _, e, _, rfl, hle, hu, by omega, by omega, by omega, by omega, fun x1 H1 s1 hx1 => ?_⟩
  exact ⟨x1, _, rfl, hx1, fun x H' s2 hx => q x H' (s1.trans s2) hx⟩
abbrev N_tree_at : List Str := ["grove", "place", "tree", "row", "at"]
theorem sc_tree_at : FnScope N_tree_at ["grove", "place"] (defScope s_tree_at) := ⟨rfl, rfl, rfl, by decide +kernel, rfl, by decide +kernel, by decide +kernel⟩
theorem ok_tree_at {C : Addr} (B : BI mg) (O : Own K mg "NoPlace" C) (GW : Got P w K mg base "is_whole" ["thing"] 1 (spWhole K)) (F : Fun K "tree_at" "tree_at" s_tree_at f fd) : FnOk P w K mg base (L2.CX P w) 2 f fd ["grove", "place"] (spTreeAt K C) := by
 refine F.okX sc_tree_at (fun vs H Q E h => ?_) (fun cdv A outer s H vs Q E hr h => ?_)
 ·obtain ⟨v, g, a, xs, os, rfl, _⟩ := h
  rfl
 obtain ⟨v, g, a, xs, os, rfl, hv, hs, hw, q, qE⟩ := h
 refine ⟨_, pss_cons (ps_if (pt_not (pt_truth (pv 1) (by intro _; rfl))) (pss_one (ps_raise rfl (takes_of rfl rfl rfl rfl) (pmk_own PySem.F.excBase_ValueError O.q O.gC O.k (raises_own O.s O.t) rfl))) pss_nil)
  (pss_cons (ps_set (i := 2) sc_tree_at.nd rfl (.inl rfl) (pe_tup pa_nil))
  (pss_cons (ps_set (i := 3) sc_tree_at.nd rfl (.inl rfl) (pv 0))
  (pss_cons (ps_for (passes_of rfl) rfl (pi_tup (pv 1)) (pg_name (i := 4) sc_tree_at.nd rfl (.inl rfl))
   (pss_cons (ps_if (PW.pt (pw_or (pt_not (pt_val (pe_got GW hr rfl (pa_cons (pv 4) pa_nil)))) (pw_or1 (pt_not (pt_chain op_le op_lt pe_int (pv 4) (pe_callB call_len_seq rfl B.len PySem.boot_len (pa_cons (pv 3) pa_nil)))))))
    (pss_one (ps_raise rfl (takes_of rfl rfl rfl rfl) (pmk_own PySem.F.excBase_ValueError O.q O.gC O.k (raises_own O.s O.t) rfl))) pss_nil)
   (pss_cons (ps_set (i := 2) sc_tree_at.nd rfl (.inl rfl) (pe_ix ix_tup (pe_ix ix_tup (pv 3) (pv 4) (fun _ _ => rfl)) pe_int (fun _ _ => rfl)))
   (pss_one (ps_set (i := 3) sc_tree_at.nd rfl (.inl rfl) (pe_ix ix_tup (pv 2) pe_int (fun _ _ => rfl)))))))
  (pss_one (ps_ret (pv 2)))))), ?_⟩
 have wl := hw.length
 by_cases hnil : os = []
 ·have x0 : xs = [] := by rw [hnil] at wl; exact List.length_eq_zero_iff.mp wl
  exact ⟨_, rfl, false, .inr (.inl ⟨xs, hs, by rw [x0]; rfl⟩), iteT (qE (.inl hnil) _ SB.refl)⟩
 have x1 : xs ≠ [] := fun z => hnil (by rw [z] at wl; exact List.length_eq_zero_iff.mp wl.symm)
 refine ⟨_, rfl, true, .inr (.inl ⟨xs, hs, by cases xs with | nil => exact absurd rfl x1 | cons _ _ => rfl⟩), iteF ?_⟩
 refine ⟨(by show 0 <= sizeLine; decide), fun e0 he0 => ?_⟩
 have t0 := SB.new (ps := []) he0 (.tup [])
 have hv0 := hv.sb t0
 have hs0 := t0.sqT hs
 have hw' : Whs K (upd H e0 (.tup [])) xs os := Whs.sb t0 hw
 generalize hH0 : upd H e0 (.tup []) = H0 at t0 hv0 hs0 hw'
 refine ⟨_, rfl, _, rfl, a, rfl, ⟨xs, hs0⟩, ?_⟩
 refine for_tup (K := K) (a := a) (xs := xs) (fun i σ H2 => H2 = H0 /\ ∃ (tv rv : V) (t : Tr) (o4 : Option V), σ = [some v, some (.ref a), some tv, some rv, o4] /\ lk ("", g) (os.take i) = some t /\ GA K H0 rv t.2 /\ (i = 0 \/ Dp K H0 tv (Gr.tEnc t)))
  ⟨rfl, _, _, ("", g), none, rfl, rfl, hv0, .inl rfl⟩ (fun i σ H2 hi h2 => by rw [h2.1]; exact hs0) (fun i x σ H2 hx h2 => ?_) (fun σ H2 h2 => ?_)
 ·obtain ⟨rfl, tv, rv, t, o4, rfl, hlk, hrv, _⟩ := h2
  obtain ⟨o, eo, hwx⟩ := hw'.get hx
  have bad : stp t.2 o = none -> E (.ref C) none H2 := fun z => qE (.inr (lk_none hlk eo z)) _ t0
  rcases hwx with ⟨n, rfl, rfl⟩ | ⟨rfl, n, b1, b2, ty, k1, k2, k3⟩
  ·refine ⟨_, rfl, _, "int", true, false, rfl, .base (.int n), by decide +kernel, fun _ => by decide +kernel, true, rfl, iteF ?_⟩
   obtain ⟨c, ys, rfl, hsc, hbc⟩ := GA_bears hrv
   have yl := hbc.length
   refine ⟨_, rfl, _, _, rfl, rfl, _, rfl, ?_⟩
   by_cases h0 : 0 <= n
   ·rw [decide_eq_true h0]
    refine iteT ⟨_, rfl, c, ys, rfl, .inr hsc, _, _, rfl, rfl, _, rfl, ?_⟩
    obtain ⟨m, rfl⟩ : ∃ m : Nat, n = (m : Int) := ⟨n.toNat, by omega⟩
    by_cases h1 : m < ys.length
    ·rw [show decide ((m : Int) < (ys.length : Nat)) = true from decide_eq_true (by omega)]
     refine iteF ?_
     obtain ⟨y, hy⟩ : ∃ y, ys[m]? = some y := ⟨_, List.getElem?_eq_getElem h1⟩
     obtain ⟨p, ep, hpd⟩ := hbc.get hy
     obtain ⟨ad, bd, ux, rfl, hsx, hst, hdx, hdt⟩ := PA_parts hpd
     refine ⟨_, rfl, _, rfl, c, ys, _, _, rfl, rfl, hsc, atI_nat hy, ad, _, _, _, rfl, rfl, hsx, atI_nat (j := 0) rfl, ?_⟩
     refine ⟨_, rfl, bd, _, _, _, rfl, rfl, hst, atI_nat (j := 1) rfl, ?_⟩
     have es : stp t.2 (some (m : Int)) = some p.1 := by
      show (if 0 <= (m : Int) then (t.2.ps[(m : Int).toNat]?).map (·.1) else none) = _
      rw [if_pos h0, Int.toNat_natCast, ep]; rfl
     exact ⟨rfl, _, _, p.1, _, rfl, lk_next hlk eo es, hdx, .inr hdt⟩
    ·rw [show decide ((m : Int) < (ys.length : Nat)) = false from decide_eq_false (by omega)]
     refine iteT (bad ?_)
     show (if 0 <= (m : Int) then (t.2.ps[(m : Int).toNat]?).map (·.1) else none) = _
     rw [if_pos h0, Int.toNat_natCast, List.getElem?_eq_none (by omega)]; rfl
   ·rw [decide_eq_false h0]
    refine iteF ⟨_, rfl, iteT (bad ?_)⟩
    show (if 0 <= n then (t.2.ps[n.toNat]?).map (·.1) else none) = _
    rw [if_neg h0]
  ·refine ⟨_, rfl, _, n, b1, b2, rfl, ty, k1, k2, _, rfl, ?_⟩
   rw [k3]
   exact iteT (iteT (bad rfl))
 ·obtain ⟨rfl, tv, rv, t, o4, rfl, hlk, hrv, h3⟩ := h2
  rw [wl, List.take_length] at hlk
  refine ⟨_, rfl, q t hnil hlk _ _ t0 ?_⟩
  rcases h3 with h3 | h3
  ·exact absurd (List.length_eq_zero_iff.mp h3) x1
  ·exact h3
abbrev N_all_places : List Str := ["grove", "found", "at", "pair", "place"]
theorem sc_all_places : FnScope N_all_places ["grove"] (defScope s_all_places) := ⟨rfl, rfl, rfl, by decide +kernel, rfl, by decide +kernel, by decide +kernel⟩
theorem none_all_places {ps : List Str} {k : Nat} : FnOk P w K mg base CX0 k f fd ps (spAllP K 0) := none_sp fun vs H Q E ⟨v, g, _, _, h, _⟩ => by omega
theorem ok_all_places {n : Nat} (B : BI mg) (G_all_places : Got P w K mg base "all_places" ["grove"] (n) (spAllP K n)) (F : Fun K "all_places" "all_places" s_all_places f fd) : FnOk P w K mg base CX0 (n + 1) f fd ["grove"] (spAllP K (n + 1)) := by
 refine F.ok sc_all_places (fun vs H Q E h => ?_) (fun cdv A outer s H vs Q E hr h => ?_)
 ·obtain ⟨v, g, rfl, _⟩ := h
  rfl
 obtain ⟨v, g, rfl, hv, hd, hd100, hp, q⟩ := h
 have hun2 := hunT hr
 refine ⟨_, pss_cons (ps_set (i := 1) sc_all_places.nd rfl (.inl rfl) (pe_lst pa_nil))
  (pss_cons (ps_for PassesOwn.never rfl (pi_enumT rfl B.enumerate (pv 0)) (pg_tup rfl (pgs_cons (pg_name (i := 2) sc_all_places.nd rfl (.inr rfl)) (pgs_cons (pg_name (i := 3) sc_all_places.nd rfl (.inl rfl)) pgs_nil)))
   (pss_cons (ps_expr (pe_bm PySem.F.plainAttrs_list PySem.F.slot_list_append PySem.F.type_list_append mt_append (pv 1) (pa_cons (pe_tup (pa_cons (pv 2) pa_nil)) pa_nil)))
  (pss_one (ps_expr (pe_bm PySem.F.plainAttrs_list PySem.F.slot_list_extend PySem.F.type_list_extend mt_extend (pv 1) (pa_cons (pe_lc (own := [("place", 4)]) (g := (gName 4)) (tt := tYes) (te := (tOp (rCatB K) (tTup (tCons (tVar 2) tNil)) (tVar 4))) rfl sc_all_places.nd (pi_list (pe_got G_all_places (hr.mono (by omega)) rfl (pa_cons (pe_ix ix_tup (pe_ix ix_tup (pv 3) pe_int (fun _ _ => rfl)) pe_int (fun _ _ => rfl)) pa_nil))) (blkOk_by (N := N_all_places) (sc := defScope s_all_places) (by decide +kernel)) (fun _ _ _ _ _ => (pg_name (i := 4) sc_all_places.nd rfl (.inl rfl))) (fun _ _ _ _ _ => pts_nil) (fun _ _ _ _ _ => (pe_op op_catB (pe_tup (pa_cons (pv 2) pa_nil)) (pv 4)))) pa_nil))))))
  (pss_one (ps_ret (pv 1)))), ?_⟩
 obtain ⟨a, xs, rfl, hs, hb⟩ := GA_bears hv
 have bl := hb.length
 have lenb := g.ak_len 0
 refine ⟨(by show 0 <= sizeLine; decide), fun D hD => ?_⟩
 refine ⟨_, rfl, a, xs, rfl, (SB.new (ps := []) hD _).sqT hs, ?_⟩
 refine for_it (walk_enumT (xs := xs)) (fun i σ H2 => SB [D] H H2 /\ ∃ us o2 o3, σ = [some (.ref a), some (.ref D), o2, o3, none] /\ H2 D = some (.lst us) /\ Bears K H2 plEnc us ((Gr.aks (g.ps.take i) 0).map (·.1))) ⟨SB.new hD _, [], none, none, rfl, upd_same, .nil⟩ (fun i σ H2 hi h2 => (h2.1.drop hD).sqT hs) (fun i x σ H2 H' hi h2 y => ?_) (fun σ H2 h2 => ?_)
 ·obtain ⟨s2, us, o2, o3, rfl, hD2, hb2⟩ := h2
  obtain ⟨T, e1, e2, rfl, hT, rfl, ee1, ee2⟩ := y
  have he1 : e1 = .int (i : Nat) := (Option.some.inj ee1).symm
  subst he1
  obtain ⟨p, ep, hpd⟩ := hb.get ee2
  have pm := List.mem_of_getElem? ep
  obtain ⟨ad, td, ux, rfl, hs2, hs3, hga, _⟩ := PA_parts hpd
  have t3 := SB.new (ps := [D]) hT (.tup [.int (i : Nat), .ref ad])
  have hD3 : (upd H2 T (.tup [.int (i : Nat), .ref ad])) D = some (.lst us) := by rw [upd_ne (ne_of_none hD2 hT)]; exact hD2
  have hT3 : SqT K (upd H2 T (.tup [.int (i : Nat), .ref ad])) T [.int (i : Nat), .ref ad] := SqT.of upd_same
  have s3 := s2.trans t3
  have hb3 := hb2.sb t3 pl_noList
  generalize hH3 : upd H2 T (.tup [.int (i : Nat), .ref ad]) = H3 at t3 hD3 hT3 s3 hb3
  have ul := hb3.length
  rw [List.length_map] at ul
  have pd := g.mem_deep p pm
  have pp := g.mem_parts p pm
  have hsp : g.ak 0 = Gr.aks (g.ps.take i) 0 ++ Gr.akP p i ++ Gr.aks (g.ps.drop (i + 1)) (i + 1) := by
   rw [Gr.ak_ps]
   conv => lhs; rw [<- List.take_append_drop (i + 1) g.ps]
   rw [Gr.aks_append, Gr.aks_take ep, List.length_take, Nat.min_eq_left (by omega), Nat.zero_add]
  have hlen := congrArg List.length hsp
  rw [List.length_append, List.length_append] at hlen
  have hP : (Gr.akP p i).length = 1 + p.1.2.parts := by
   unfold Gr.akP
   rw [List.length_cons, List.length_map, Gr.ak_len]; omega
  refine ⟨T, _, rfl, hT3, rfl, _, _, rfl, _, _, rfl, rfl, ?_⟩
  refine ⟨_, rfl, .inl ⟨rfl, _, SqL.of hD3⟩, _, rfl, (by show 1 <= sizeLine; decide), fun t ht => ?_⟩
  have t4 := SB.new (ps := [D]) ht (.tup [.int (i : Nat)])
  have hD4 : (upd H3 t (.tup [.int (i : Nat)])) D = some (.lst us) := by rw [upd_ne (ne_of_none hD3 ht)]; exact hD3
  refine ⟨D, us, _, rfl, rfl, hD4, small1000 (by omega), ?_⟩
  have t5 := SB.set (ps := [D]) hD4 (by simp) (.lst (us ++ [.ref t]))
  have hD5 : (upd (upd H3 t (.tup [.int (i : Nat)])) D (.lst (us ++ [.ref t]))) D = some (.lst (us ++ [.ref t])) := upd_same
  have hb5 := Bears.append ((hb3.sb t4 pl_noList).sb t5 pl_noList) (.cons (PL_of (p := [i]) (t5.sqT (SqT.of upd_same))) .nil)
  have s5 := (s3.trans t4).trans t5
  generalize hH5 : upd (upd H3 t (.tup [.int (i : Nat)])) D (.lst (us ++ [.ref t])) = H5 at t5 hD5 hb5 s5
  have s5' := s5.drop hD
  refine ⟨_, rfl, .inl ⟨rfl, _, SqL.of hD5⟩, ?_⟩
  refine ⟨_, rfl, ad, _, _, _, rfl, rfl, s5'.sqT hs2, atI_nat (j := 0) rfl, td, _, _, _, rfl, rfl, s5'.sqT hs3, atI_nat (j := 1) rfl, _, p.1.2, rfl, hga.sb s5', by omega, by omega, by omega, fun D2 vs2 H6 s6 nD2 hD6 hb6 => ?_⟩
  have hD6' := s6.keep _ _ hD5 nmn
  have vl := hb6.length
  rw [List.length_map] at vl
  have pal := p.1.2.ak_len 0
  refine ⟨D2, rfl, ⟨_, SqL.of hD6⟩, fun L hL => ?_⟩
  have DL : D ≠ L := ne_of_none hD6' hL
  refine lc_seq (walk_list (xs := vs2)) hL (by have := small1000 (n := vs2.length) (by omega); omega) (fun j ws H7 => Bears K H7 plEnc ws (((p.1.2.ak 0).take j).map fun x : Pl × Str => i :: x.1)) .nil (fun H7 s7 => s7.sqL nmn (SqL.of hD6)) (fun _ _ _ _ e h => h.sb e pl_noList) (fun Pv j z Hq H7 ws hj s7 yz hR hw fin _ => ?_) (fun ws H7 s7 hL7 hR hw => ?_)
  ·obtain ⟨rfl, ez⟩ := yz
   obtain ⟨pl, epl, hpl⟩ := hb6.get ez
   rw [List.getElem?_map] at epl
   obtain ⟨x, ex, rfl⟩ := Option.map_eq_some_iff.mp epl
   obtain ⟨pa, rfl, hpa⟩ := PL_ints hpl
   have plong := p.1.2.ak_long 0 x (List.mem_of_getElem? ex)
   refine ⟨rfl, ?_⟩
   refine ⟨_, rfl, (by show 1 <= sizeLine; decide), fun t ht => ?_⟩
   have t8 := SB.new (ps := []) ht (.tup [.int (i : Nat)])
   refine ⟨_, rfl, t, pa, _, _, rfl, rfl, SqT.of upd_same, t8.sqT (s7.sqT hpa), ?_, fun c H8 s8 hc => ?_⟩
   ·rw [List.length_map, List.length_singleton]
    have := small5 (n := 1 + x.1.length) (by omega)
    omega
   refine fin _ _ (t8.trans s8) ?_
   rw [List.take_add_one, ex, Option.toList_some, List.map_append]
   exact Bears.append ((hR.sb t8 pl_noList).sb s8 pl_noList) (.cons (PL_of (p := i :: x.1) hc) .nil)
  ·rw [vl, List.take_length] at hR
   have wl := hR.length
   rw [List.length_map] at wl
   have hD7 := s7.keep _ _ hD6' nmn
   refine ⟨D, L, _, _, rfl, rfl, hD7, hL7, ?_, ?_⟩
   ·rw [List.length_append, List.length_singleton]
    have := small5 (n := us.length + 1 + ws.length) (by omega)
    omega
   have t8 := SB.set (ps := [D]) hD7 (by simp) (.lst (us ++ [.ref t] ++ ws))
   refine ⟨((s5.trans s6.nil).trans s7.nil).trans t8, _, _, _, rfl, upd_same, ?_⟩
   rw [Gr.aks_take ep, List.map_append]
   show Bears _ _ _ _ (_ ++ ([i] :: ((p.1.2.ak 0).map fun x => (i :: x.1, x.2)).map (·.1)))
   rw [List.map_map, show ∀ A B : List Pl, A ++ [i] :: B = A ++ [[i]] ++ B from fun A B => by simp]
   exact Bears.append (((hb5.sb s6 pl_noList).sb s7 pl_noList).sb t8 pl_noList) (hR.sb t8 pl_noList)
 ·obtain ⟨s2, us, o2, o3, rfl, hD2, hb2⟩ := h2
  rw [bl, List.take_length, <- Gr.ak_ps] at hb2
  exact ⟨_, rfl, q D us H2 (s2.drop hD) hD hD2 hb2⟩
abbrev N_steps_of : List Str := ["book", "name", "found", "rule", "once", "each"]
theorem sc_steps_of : FnScope N_steps_of ["book", "name"] (defScope s_steps_of) := ⟨rfl, rfl, rfl, by decide +kernel, rfl, by decide +kernel, by decide +kernel⟩
theorem ok_steps_of {C_Book C_NoKind : Addr} (B : BI mg) (G_Book_rules : GotMX P w K mg base C_Book "rules" ["self", "name"] (4) (spBRules K C_Book C_NoKind)) (G_steps_in : Got P w K mg base "steps_in" ["name", "rule", "word", "grove"] (21) (spStepsIn K)) (F : Fun K "steps_of" "steps_of" s_steps_of f fd) : FnOk P w K mg base (L2.CX P w) (22) f fd ["book", "name"] (spStepsOf K C_Book C_NoKind) := by
 refine F.okX sc_steps_of (fun vs H Q E h => ?_) (fun cdv A outer s H vs Q E hr h => ?_)
 ·obtain ⟨v, b, n, rfl, _⟩ := h
  rfl
 obtain ⟨v, b, n, rfl, hv, ok, qk, qE⟩ := h
 have hun2 := hunT hr
 refine ⟨_, pss_cons (ps_set (i := 2) sc_steps_of.nd rfl (.inl rfl) (pe_lst pa_nil))
  (pss_cons (ps_for (passes_of rfl) rfl (pi_enumS rfl B.enumerate (pe_gotMS G_Book_rules (hr.mono (by omega)) (takes_of rfl rfl rfl rfl) (pv 0) (pa_cons (pv 1) pa_nil))) (pg_tup rfl (pgs_cons (pg_name (i := 3) sc_steps_of.nd rfl (.inl rfl)) (pgs_cons (pg_tup rfl (pgs_cons (pg_name (i := 4) sc_steps_of.nd rfl (.inl rfl)) (pgs_cons (pg_name (i := 5) sc_steps_of.nd rfl (.inl rfl)) pgs_nil))) pgs_nil)))
   (pss_cons (ps_expr (pe_bm PySem.F.plainAttrs_list PySem.F.slot_list_extend PySem.F.type_list_extend mt_extend (pv 2) (pa_cons (pe_got G_steps_in (hr.mono (by omega)) rfl (pa_cons (pv 1) (pa_cons (pv 3) (pa_cons pe_str (pa_cons (pv 4) pa_nil))))) pa_nil)))
  (pss_one (ps_expr (pe_bm PySem.F.plainAttrs_list PySem.F.slot_list_extend PySem.F.type_list_extend mt_extend (pv 2) (pa_cons (pe_got G_steps_in (hr.mono (by omega)) rfl (pa_cons (pv 1) (pa_cons (pv 3) (pa_cons pe_str (pa_cons (pv 5) pa_nil))))) pa_nil))))))
  (pss_one (ps_ret (pv 2)))), ?_⟩
 have szl := sizeLine_eq
 obtain ⟨va, vdx, vd1, vd2, rfl, hva⟩ := hv.at
 have b8 := ok.len
 have rok : ∀ k ∈ b, k.rs.length <= 1000 := fun k hk => by have := (ok.kd k hk).2.1; omega
 refine ⟨(by show 0 <= sizeLine; decide), fun D hD => ?_⟩
 have t1 := SB.new (ps := []) hD (.lst [])
 have hD1 : upd H D (.lst []) D = some (.lst []) := upd_same
 generalize upd H D (.lst []) = H1 at t1 hD1
 refine ⟨_, rfl, va, vdx, _, rfl, t1.keep _ _ hva nmn, rfl, _, rfl, _, b, n, rfl, hv.sb0 t1, by omega, rok, fun k eg ll us H2 s2 nll hll hbl => ?_, fun z d H' s' nd hd => qE z d H' (t1.trans s') (Classical.byContradiction fun y => by
  have := t1.dom d; exact y (t1.dom d nd)) hd⟩
 obtain ⟨hk, rfl⟩ := Bk.get_some eg
 obtain ⟨kn, r4, rr⟩ := ok.kd k hk
 have ul := hbl.length
 have lD : ll ≠ D := fun z => by rw [z, hD1] at nll; cases nll
 have zl : (k.rs.zipIdx 1).length = k.rs.length := List.length_zipIdx
 have stl := Kd.steps_len r4 fun r hr => (rr r hr).1
 refine ⟨ll, us, rfl, SqL.of hll, ?_⟩
 refine for_it (walk_enumS (xs := us)) (fun i σ H3 => SB [D] H2 H3 /\ ∃ ws o3 o4 o5, σ = [some (.ref va), some (.str k.n), some (.ref D), o3, o4, o5] /\ H3 D = some (.lst ws) /\ Bears K H3 Sx.enc ws (((k.rs.zipIdx 1).take i).flatMap (stR k.n))) ⟨SB.refl, [], none, none, none, rfl, s2.keep _ _ hD1 nmn, .nil⟩ (fun i σ H3 hi h3 => h3.1.sqL (by simpa using lD) (SqL.of hll)) (fun i x σ H3 H' hi h3 y => ?_) (fun σ H3 h3 => ?_)
 ·obtain ⟨s3, ws, o3, o4, o5, rfl, hD3, hb3⟩ := h3
  obtain ⟨T, e1, e2, rfl, hT, rfl, ee1, ee2⟩ := y
  have he1 : e1 = .int ((i + 1 : Nat) : Int) := (Option.some.inj ee1).symm
  subst he1
  obtain ⟨r, er, hr1⟩ := hbl.get ee2
  have hr2 := Dp_sb s3 _ _ (Ru.noList_enc r) hr1
  have ro := (rr r (List.mem_of_getElem? er)).1
  have ez : (k.rs.zipIdx 1)[i]? = some (r, i + 1) := by rw [List.getElem?_zipIdx, er, Nat.add_comm]; rfl
  have hsp : ((k.rs.zipIdx 1).take (i + 1)).flatMap (stR k.n) = ((k.rs.zipIdx 1).take i).flatMap (stR k.n) ++ stG k.n (i + 1) "once" r.1 ++ stG k.n (i + 1) "each" r.2 := by
   rw [List.take_add_one, ez, List.flatMap_append]
   simp [stR]
  have hlen : (((k.rs.zipIdx 1).take (i + 1)).flatMap (stR k.n)).length <= k.steps.length := by
   show _ <= ((k.rs.zipIdx 1).flatMap (stR k.n)).length
   conv => rhs; rw [<- List.take_append_drop (i + 1) (k.rs.zipIdx 1), List.flatMap_append, List.length_append]
   omega
  rw [hsp, List.length_append, List.length_append, stG_len, stG_len] at hlen
  have wl := hb3.length
  cases (hr2 : Dp K H3 e2 (.tuple [r.1.enc, r.2.enc])) with
  | @tup ad us' _ hs' hda =>
  cases hda with
  | cons g1 hda =>
  cases hda with
  | cons g2 hda =>
  cases hda
  rename_i u1 u2
  have t4 := SB.new (ps := []) hT (.tup [.int ((i + 1 : Nat) : Int), .ref ad])
  have hT4 : SqT K (upd H3 T (.tup [.int ((i + 1 : Nat) : Int), .ref ad])) T [.int ((i + 1 : Nat) : Int), .ref ad] := SqT.of upd_same
  generalize upd H3 T (.tup [.int ((i + 1 : Nat) : Int), .ref ad]) = H4 at t4 hT4
  have hD4 := t4.keep _ _ hD3 nmn
  refine ⟨T, _, rfl, hT4, rfl, _, _, rfl, _, _, rfl, ⟨ad, _, rfl, t4.sqT hs', rfl, _, _, rfl, _, _, rfl, rfl, rfl, ?_⟩⟩
  have d1 := r.1.deep_parts
  have d2 := r.2.deep_parts
  refine ⟨_, rfl, .inl ⟨rfl, _, SqL.of hD4⟩, _, rfl, _, rfl, _, rfl, k.n, "once", i + 1, u1, r.1, rfl, GA.sb g1 t4, by omega, by omega, fun l1 v1 H5 s5 nl1 hl1 hb5 => ?_⟩
  have hD5 := s5.keep _ _ hD4 nmn
  have v1l := hb5.length
  rw [stG_len] at v1l
  refine ⟨D, l1, _, _, rfl, rfl, hD5, hl1, by omega, ?_⟩
  have t6 := SB.set (ps := [D]) hD5 (by simp) (.lst (ws ++ v1))
  have hb6 := Bears.append (((hb3.sb t4 Sx.noList_enc).sb s5 Sx.noList_enc).sb t6 Sx.noList_enc) (hb5.sb t6 Sx.noList_enc)
  have hD6 : upd H5 D (.lst (ws ++ v1)) D = some (.lst (ws ++ v1)) := upd_same
  have s6 := ((s3.trans t4.nil).trans s5.nil).trans t6
  have g2' := GA.sb (GA.sb g2 t4) s5
  have g2' := GA.sb g2' t6
  generalize upd H5 D (.lst (ws ++ v1)) = H6 at t6 hb6 hD6 s6 g2'
  refine ⟨_, rfl, .inl ⟨rfl, _, SqL.of hD6⟩, _, rfl, _, rfl, _, rfl, k.n, "each", i + 1, u2, r.2, rfl, g2', by omega, by omega, fun l2 v2 H7 s7 nl2 hl2 hb7 => ?_⟩
  have hD7 := s7.keep _ _ hD6 nmn
  have v2l := hb7.length
  rw [stG_len] at v2l
  refine ⟨D, l2, _, _, rfl, rfl, hD7, hl2, by rw [List.length_append]; omega, ?_⟩
  have t8 := SB.set (ps := [D]) hD7 (by simp) (.lst (ws ++ v1 ++ v2))
  refine ⟨(s6.trans s7.nil).trans t8, _, _, _, _, rfl, upd_same, ?_⟩
  rw [hsp]
  exact Bears.append ((hb6.sb s7 Sx.noList_enc).sb t8 Sx.noList_enc) (hb7.sb t8 Sx.noList_enc)
 ·obtain ⟨s3, ws, o3, o4, o5, rfl, hD3, hb3⟩ := h3
  rw [ul, <- zl, List.take_length] at hb3
  exact ⟨_, rfl, qk k eg D ws H3 ((t1.trans s2).nil.trans s3 |>.drop hD) hD hD3 hb3⟩
abbrev N_steps_in : List Str := ["name", "rule", "word", "grove", "place"]
theorem sc_steps_in : FnScope N_steps_in ["name", "rule", "word", "grove"] (defScope s_steps_in) := ⟨rfl, rfl, rfl, by decide +kernel, rfl, by decide +kernel, by decide +kernel⟩
theorem ok_steps_in {C_NoPlace : Addr} (B : BI mg) (G_all_places : Got P w K mg base "all_places" ["grove"] (20) (spAllP K 20)) (G_tree_at : GotX P w K mg base "tree_at" ["grove", "place"] (2) (spTreeAt K C_NoPlace)) (F : Fun K "steps_in" "steps_in" s_steps_in f fd) : FnOk P w K mg base CX0 (21) f fd ["name", "rule", "word", "grove"] (spStepsIn K) := by
 refine F.ok sc_steps_in (fun vs H Q E h => ?_) (fun cdv A outer s H vs Q E hr h => ?_)
 ·obtain ⟨n, wd, i, v, g, rfl, _⟩ := h
  rfl
 obtain ⟨n, wd, i, v, g, rfl, hv, hd, hp, q⟩ := h
 have hun2 := hunT hr
 refine ⟨_, pss_one (ps_ret (pe_lc (own := [("place", 4)]) (g := (gName 4)) (tt := tYes) (te := (tTup (tCons (tTup (tCons (tVar 0) (tCons (tVar 1) (tCons (tVar 2) (tCons (tVar 4) tNil))))) (tCons (tOp (rIxT K) (tCall (spTreeAt K C_NoPlace) [] E0 (tCons (tVar 3) (tCons (tVar 4) tNil))) (tC (.int 0))) tNil)))) rfl sc_steps_in.nd (pi_list (pe_got G_all_places (hr.mono (by omega)) rfl (pa_cons (pv 3) pa_nil))) (blkOk_by (N := N_steps_in) (sc := defScope s_steps_in) (by decide +kernel)) (fun _ _ _ _ _ => (pg_name (i := 4) sc_steps_in.nd rfl (.inl rfl))) (fun _ _ _ _ _ => pts_nil) (fun _ _ _ _ _ => (pe_tup (pa_cons (pe_tup (pa_cons (pv 0) (pa_cons (pv 1) (pa_cons (pv 2) (pa_cons (pv 4) pa_nil))))) (pa_cons (pe_ix ix_tup (pe_gotX G_tree_at (hr.mono (by omega)) rfl (pa_cons (pv 3) (pa_cons (pv 4) pa_nil))) pe_int (fun _ _ => rfl)) pa_nil)))))), ?_⟩
 have szl := sizeLine_eq
 have lenb := g.ak_len 0
 refine ⟨_, rfl, v, g, rfl, hv, hd, by omega, by omega, fun D us H1 s1 nD hD hb => ?_⟩
 have vl := hb.length
 rw [List.length_map] at vl
 refine ⟨D, rfl, ⟨_, SqL.of hD⟩, fun L hL => ?_⟩
 refine lc_seq (walk_list (xs := us)) hL (by omega) (fun j ws H2 => Bears K H2 Sx.enc ws (((g.ak 0).take j).map fun x : Pl × Str => ⟨n, i, wd, x.1, x.2⟩)) .nil (fun H2 s2 => s2.sqL nmn (SqL.of hD)) (fun _ _ _ _ e h => h.sb e Sx.noList_enc) (fun Pv j z Hq H2 ws hj s2 yz hR hw fin _ => ?_) (fun ws H2 s2 hL2 hR hw => ?_)
 ·obtain ⟨rfl, ez⟩ := yz
  obtain ⟨pl, epl, hpl⟩ := hb.get ez
  rw [List.getElem?_map] at epl
  obtain ⟨x, ex, rfl⟩ := Option.map_eq_some_iff.mp epl
  obtain ⟨pa, rfl, hpa⟩ := PL_ints hpl
  obtain ⟨n1, t, e1, e2⟩ := g.ak_place x (List.mem_of_getElem? ex)
  refine ⟨rfl, ?_⟩
  refine ⟨_, rfl, _, rfl, _, rfl, _, rfl, (by show 4 <= sizeLine; decide), fun T hT => ?_⟩
  have t3 := SB.new (ps := []) hT (.tup [.str n, .int (i : Int), .str wd, .ref pa])
  have s3 := s2.trans t3
  have hT3 : SqT K (upd H2 T (.tup [.str n, .int (i : Int), .str wd, .ref pa])) T [.str n, .int (i : Int), .str wd, .ref pa] := SqT.of upd_same
  generalize upd H2 T (.tup [.str n, .int (i : Int), .str wd, .ref pa]) = H3 at t3 s3 hT3
  refine ⟨_, rfl, _, rfl, v, g, pa, _, plO x.1, rfl, hv.sb (s1.trans s3), s3.sqT hpa, Whs.pl K H3 x.1, fun t' _ et X H4 s4 hX => ?_, fun z => ?_⟩
  ·obtain rfl : t' = t := Option.some.inj (et.symm.trans e1)
   cases (hX : Dp K H4 X (.tuple [.str t'.1, t'.2.enc])) with
   | tup hX1 hX2 =>
   cases hX2 with
   | cons k1 hX2 =>
   cases hX2 with
   | cons k2 hX2 =>
   cases hX2
   cases k1
   refine ⟨_, _, _, _, rfl, rfl, hX1, atI_nat (j := 0) rfl, (by show 2 <= sizeLine; decide), fun T2 hT2 => ?_⟩
   have t5 := SB.new (ps := []) hT2 (.tup [.ref T, .str t'.1])
   have s25 := (t3.trans s4).trans t5
   refine fin _ _ s25 ?_
   rw [List.take_add_one, ex, Option.toList_some, List.map_append]
   refine Bears.append (hR.sb s25 Sx.noList_enc) (.cons ?_ .nil)
   show Dp K _ _ (.tuple [.tuple [.str n, .int (i : Int), .str wd, plEnc x.1], .str x.2])
   rw [<- e2]
   exact .tup (SqT.of upd_same) (.cons (.tup ((s4.trans t5).sqT hT3) (.cons (.str _) (.cons (.int _) (.cons (.str _) (.cons (Dp_sb (s2.trans s25) _ _ (pl_noList _) hpl) .nil))))) (.cons (.str _) .nil))
  ·rcases z with z | z
   ·exact absurd z n1
   ·rw [e1] at z; cases z
 ·rw [vl, List.take_length] at hR
  exact q L ws H2 (s1.trans s2) (s1.dom L hL) hL2 hR
abbrev N_leads : List Str := ["book", "name", "step", "kind"]
theorem sc_leads : FnScope N_leads ["book", "name"] (defScope s_leads) := ⟨rfl, rfl, rfl, by decide +kernel, rfl, by decide +kernel, by decide +kernel⟩
theorem ok_leads {C_Book C_NoKind : Addr} (B : BI mg) (G_steps_of : GotX P w K mg base "steps_of" ["book", "name"] (22) (spStepsOf K C_Book C_NoKind)) (F : Fun K "leads" "leads" s_leads f fd) : FnOk P w K mg base (L2.CX P w) (23) f fd ["book", "name"] (spLeads K C_Book C_NoKind) := by
 refine F.okX sc_leads (fun vs H Q E h => ?_) (fun cdv A outer s H vs Q E hr h => ?_)
 ·obtain ⟨v, b, n, rfl, _⟩ := h
  rfl
 obtain ⟨v, b, n, rfl, hv, ok, qk, qE⟩ := h
 have hun2 := hunT hr
 refine ⟨_, pss_one (ps_ret (pe_callB (cr_sortedTx rfl) rfl B.sorted (by decide +kernel) (pa_cons (pe_scS (own := [("step", 2), ("kind", 3)]) (g := (gTup K 2 (gCons (gName 2) (gCons (gName 3) gNil)))) (tt := tYes) (te := (tVar 3)) rfl sc_leads.nd (pi_list (pe_gotS G_steps_of (hr.mono (by omega)) rfl (takes_of rfl rfl rfl rfl) (pa_cons (pv 0) (pa_cons (pv 1) pa_nil)))) (blkOk_by (N := N_leads) (sc := defScope s_leads) (by decide +kernel)) (fun _ _ _ _ _ => (pg_tup rfl (pgs_cons (pg_name (i := 2) sc_leads.nd rfl (.inl rfl)) (pgs_cons (pg_name (i := 3) sc_leads.nd rfl (.inl rfl)) pgs_nil)))) (fun _ _ _ _ _ => pts_nil) (fun _ _ _ _ _ => (pv 3))) pa_nil))), ?_⟩
 have scb : 1000 < scanBound := by decide +kernel
 refine ⟨_, rfl, _, rfl, v, b, n, rfl, hv, ok, fun k eg ll us H1 s1 nll hll hbl => ?_, fun z d H' s' nd hd => qE z d H' s' nd hd⟩
 obtain ⟨hk, rfl⟩ := Bk.get_some eg
 obtain ⟨kn, r4, rr⟩ := ok.kd k hk
 have stl := Kd.steps_len r4 fun r hr => (rr r hr).1
 have ul := hbl.length
 refine ⟨ll, rfl, ⟨_, SqL.of hll⟩, fun D nD => ?_⟩
 refine sc_seq (walk_list (xs := us)) nD (by omega) (fun i ss H2 => ss.Nodup /\ ∀ x, x ∈ ss ↔ x ∈ (k.steps.take i).map Sx.k) ⟨List.nodup_nil, by simp⟩ (fun H2 s2 => s2.sqL nmn (SqL.of hll)) (fun _ _ _ _ _ h => h) (fun Pv i x Hq H2 ss hi s2 y hR hl fin _ => ?_) (fun ss H2 s2 hD2 hR hl => ?_)
 ·obtain ⟨rfl, ey⟩ := y
  obtain ⟨st, es, hst⟩ := hbl.get ey
  cases (hst : Dp K H1 x (.tuple [st.st, .str st.k])) with
  | @tup ad us' _ hs' hda =>
  cases hda with
  | cons g1 hda =>
  cases hda with
  | cons g2 hda =>
  cases hda
  cases g2
  refine ⟨ad, _, rfl, s2.sqT hs', rfl, _, _, rfl, _, _, rfl, rfl, rfl, ?_⟩
  refine ⟨_, rfl, fin st.k _ SB.refl ⟨insS_nodup hR.1, fun x => ?_⟩⟩
  rw [insS_mem, hR.2, List.take_add_one, es, List.map_append, List.mem_append]
  simp [or_comm]
 ·rw [ul, List.take_length, Kd.steps_kinds] at hR
  refine ⟨D, ss, rfl, hD2, by omega, fun ss' p pm srt np => ?_⟩
  have t3 := SB.new (ps := []) np (.lst (ss'.map V.str))
  exact qk k eg p ss' _ ((s1.trans s2).trans t3) ((s1.trans s2).dom _ np) upd_same (SrtOf.perm pm srt hR.1 hR.2)
abbrev N_ending_kinds : List Str := ["book", "led", "ending", "fresh", "name"]
theorem sc_ending_kinds : FnScope N_ending_kinds ["book"] (defScope s_ending_kinds) := ⟨rfl, rfl, rfl, by decide +kernel, rfl, by decide +kernel, by decide +kernel⟩
theorem ok_ending_kinds {C_Book C_NoKind : Addr} (B : BI mg) (G_Book_names : GotM P w K mg base C_Book "names" ["self"] (1) (spBNames K C_Book)) (G_leads : GotX P w K mg base "leads" ["book", "name"] (23) (spLeads K C_Book C_NoKind)) (G_lead_into : Got P w K mg base "lead_into" ["led", "ending"] (1) (spLeadInto K)) (F : Fun K "ending_kinds" "ending_kinds" s_ending_kinds f fd) : FnOk P w K mg base CX0 (24) f fd ["book"] (spEndingO K C_Book C_NoKind) := by
 refine F.ok sc_ending_kinds (fun vs H Q E h => ?_) (fun cdv A outer s H vs Q E hr h => ?_)
 ·obtain ⟨v, b, rfl, _⟩ := h
  rfl
 obtain ⟨v, b, rfl, hv, ok, q⟩ := h
 have hun2 := hunT hr
 refine ⟨_, pss_cons (ps_setDc (i := 1) (own := [("name", 4)]) (g := (gName 4)) (tt := tYes) (tk := (tVar 4)) (tv := (tCall (spLeads K C_Book C_NoKind) [] E0 (tCons (tVar 0) (tCons (tVar 4) tNil)))) rfl sc_ending_kinds.nd rfl rfl (sw_trueD rfl rfl rfl (by decide +kernel)) (pi_list (pe_gotM0 G_Book_names (hr.mono (by omega)) (pv 0))) (blkOk_by (N := N_ending_kinds) (sc := defScope s_ending_kinds) (by decide +kernel)) (fun _ _ _ _ _ => (pg_name (i := 4) sc_ending_kinds.nd rfl (.inl rfl))) (fun _ _ _ _ _ => pts_nil) (fun _ _ _ _ _ => (pv 4)) (fun _ _ _ _ _ => (pe_gotX G_leads (hr.mono (by omega)) rfl (pa_cons (pv 0) (pa_cons (pv 4) pa_nil)))))
  (pss_cons (ps_set (i := 2) sc_ending_kinds.nd rfl (.inl rfl) (pe_lst pa_nil))
  (pss_cons (ps_set (i := 3) sc_ending_kinds.nd rfl (.inl rfl) (pe_got G_lead_into (hr.mono (by omega)) rfl (pa_cons (pv 1) (pa_cons (pv 2) pa_nil))))
  (pss_cons (ps_while PassesOwn.never (pt_truth (pv 3) (by intro _; rfl)) (pss_cons (ps_expr (pe_bm PySem.F.plainAttrs_list PySem.F.slot_list_extend PySem.F.type_list_extend mt_extend (pv 2) (pa_cons (pv 3) pa_nil)))
  (pss_one (ps_set (i := 3) sc_ending_kinds.nd rfl (.inl rfl) (pe_got G_lead_into (hr.mono (by omega)) rfl (pa_cons (pv 1) (pa_cons (pv 2) pa_nil)))))))
  (pss_one (ps_ret (pv 2)))))), ?_⟩
 have szl := sizeLine_eq
 have b8 := ok.len
 have nml : b.names.length = b.length := List.length_map ..
 obtain ⟨va, vdx, vd1, vd2, rfl, hva⟩ := hv.at
 refine ⟨_, rfl, va, vdx, _, rfl, hva, rfl, ?_⟩
 refine ⟨_, b, rfl, hv, by omega, fun nl H1 s1 nn hn => ?_⟩
 refine ⟨nl, rfl, ⟨_, SqL.of hn⟩, fun D nD => ?_⟩
 refine dc_seqQ (walk_list (xs := b.names.map V.str)) nD (by rw [List.length_map]; omega) (fun i kvs H2 => LedAll K H2 kvs (b.take i) /\ ∀ p ∈ kvs, p.2 ≠ .ref D) ⟨.nil, by simp⟩ (fun H2 s2 => s2.sqL nmn (SqL.of hn)) (fun i kvs H2 H3 s3 ⟨h1, h2⟩ => ⟨h1.sb s3 fun p hp q hq => by rw [List.mem_singleton.mp hq]; exact h2 p hp, h2⟩) (fun Pv i x Hq H2 kvs hi s2 y hR hl hD2 fin _ => ?_) (fun kvs H2 s2 hD2 hR hl => ?_)
 ·obtain ⟨rfl, ey⟩ := y
  rw [List.getElem?_map] at ey
  obtain ⟨n, en, rfl⟩ := Option.map_eq_some_iff.mp ey
  rw [List.getElem?_map] at en
  obtain ⟨k, ek, rfl⟩ := Option.map_eq_some_iff.mp en
  have km := List.mem_of_getElem? ek
  have eg := Bk.get_self ok.nd km
  obtain ⟨h1, h2⟩ := hR
  have hnew : ∀ p ∈ kvs, p.1 ≠ Sum.inr k.n := fun p hp z => by
   have h3 : p.1 ∈ (Bk.names (b.take i)).map (Sum.inr (α := Int)) := by rw [<- h1.keys]; exact List.mem_map.mpr ⟨p, hp, rfl⟩
   rw [z] at h3
   obtain ⟨m, hm, e⟩ := List.mem_map.mp h3
   have e := Sum.inr.inj e
   subst e
   exact take_fresh ok.nd ek hm
  refine ⟨rfl, _, rfl, _, rfl, _, rfl, _, b, k.n, rfl, (hv.sb0 s1).sb0 s2, ok, fun k' e' l ss H3 s3 nl' hl' so => ?_, fun z => by rw [eg] at z; cases z⟩
  rw [eg] at e'
  cases e'
  refine fin (Sum.inr k.n) (.ref l) H3 s3 ?_
  rw [putK_new hnew, List.take_add_one, ek]
  refine ⟨(h1.sb s3 (by simp)).append (.cons hl' so .nil), fun p hp => ?_⟩
  rcases List.mem_append.mp hp with hp | hp
  ·exact h2 p hp
  ·rw [List.mem_singleton.mp hp]
   intro z
   rw [V.ref.inj z, hD2] at nl'
   cases nl'
 obtain ⟨hk, hkD⟩ := hR
 rw [List.length_map, nml, List.take_length] at hk
 have s12 := s1.trans s2
 refine ⟨by show 0 <= sizeLine; decide, fun E nE => ?_⟩
 have t3 := SB.new (ps := []) nE (.lst [])
 have hE3 : upd H2 E (.lst []) E = some (.lst []) := upd_same
 have hkE := hk.ne nE
 have hD3 := t3.keep _ _ hD2 nmn
 have hk3 := hk.sb t3 (by simp)
 have s03 := s12.trans t3
 have nE0 : H E = none := s12.dom _ nE
 have DE : D ≠ E := ne_of_none hD2 nE
 generalize upd H2 E (.lst []) = H3 at t3 hE3 hD3 hk3 s03
 refine ⟨_, rfl, _, rfl, D, E, b, [], kvs, rfl, hD3, hk3, hE3, ok, fun F H4 s4 nF hF => ?_⟩
 refine nameI ⟨fun m σ H5 => ∃ (es : List Str) (F : Addr), m = 9 - es.length /\ σ = [some (.ref va), some (.ref D), some (.ref E), some (.ref F), none] /\ SB [] H H5 /\ H5 D = some (.dK kvs) /\ LedAll K H5 kvs b /\ H5 E = some (.lst (es.map V.str)) /\ H5 F = some (.lst ((b.names.filter (into b es)).map V.str)) /\ F ≠ E /\ es.Nodup /\ (∀ n ∈ es, n ∈ b.names) /\ (∀ n ∈ es, EndK b n) /\ ∀ (i : Nat) (n : Str), es[i]? = some n -> ∀ k ∈ adj b n, k ∈ es.take i,
  ⟨9, [], F, rfl, rfl, s03.trans s4, s4.keep _ _ hD3 nmn, hk3.sb s4 (by simp), s4.keep _ _ hE3 nmn, hF, (fun z => by rw [z, hE3] at nF; cases nF), List.nodup_nil, by simp, by simp, by simp⟩, fun m σ H5 hW => ?_⟩
 obtain ⟨es, F, rfl, rfl, s5, hD5, hk5, hE5, hF5, FE, nd, sub, ends, ord⟩ := hW
 have fl := List.length_filter_le (into b es) b.names
 have esl : es.length <= 8 := by
  have := nd.length_le_of_subset (l₂ := b.names) sub
  omega
 refine ⟨_, rfl, _, .inl ⟨_, SqL.of hF5, rfl⟩, ?_⟩
 by_cases hf : b.names.filter (into b es) = []
 ·rw [hf]
  refine iteF ⟨_, rfl, q E es H5 s5 nE0 hE5 ⟨nd, esl, fun n => ⟨fun h => ⟨sub n h, ends n h⟩, fun h => end_closed ok hf h.2 h.1⟩, ord⟩⟩
 ·rw [show (!((b.names.filter (into b es)).map V.str).isEmpty) = true by
   cases h : b.names.filter (into b es) with
   | nil => exact absurd h hf
   | cons _ _ => rfl]
  refine iteT ⟨_, fun σ' H' h => h, ?_⟩
  refine ⟨_, rfl, .inl ⟨rfl, _, SqL.of hE5⟩, _, rfl, E, F, _, _, rfl, rfl, hE5, hF5, by rw [List.length_map, List.length_map]; omega, ?_⟩
  rw [<- List.map_append]
  have t6 := SB.set (ps := [E]) hE5 (by simp) (.lst ((es ++ b.names.filter (into b es)).map V.str))
  have hE6 : upd H5 E (.lst ((es ++ b.names.filter (into b es)).map V.str)) E = some (.lst ((es ++ b.names.filter (into b es)).map V.str)) := upd_same
  have hD6 := t6.keep _ _ hD5 (by simpa using DE)
  have hk6 := hk5.sb t6 fun p hp q hq => by rw [List.mem_singleton.mp hq]; exact hkE p hp
  have s6 : SB [] H (upd H5 E (.lst ((es ++ b.names.filter (into b es)).map V.str))) := ((s5.nil (ps := [E])).trans t6).drop nE0
  generalize upd H5 E (.lst ((es ++ b.names.filter (into b es)).map V.str)) = H6 at t6 hE6 hD6 hk6 s6
  refine ⟨_, rfl, _, rfl, D, E, b, es ++ b.names.filter (into b es), kvs, rfl, hD6, hk6, hE6, ok, fun F2 H7 s7 nF2 hF2 => ?_⟩
  have hpos : 0 < (b.names.filter (into b es)).length := List.length_pos_iff.mpr hf
  refine ⟨9 - (es ++ b.names.filter (into b es)).length, by rw [List.length_append]; omega, es ++ b.names.filter (into b es), F2, rfl, rfl, s6.trans s7, s7.keep _ _ hD6 nmn, hk6.sb s7 (by simp), s7.keep _ _ hE6 nmn, hF2, (fun z => by rw [z, hE6] at nF2; cases nF2), ?_, fun n hn => ?_, fun n hn => ?_, fun i n ei k hk => ?_⟩
  ·refine List.nodup_append.mpr ⟨nd, ok.nd.filter _, fun x hx y hy e => ?_⟩
   subst e
   have := (List.mem_filter.mp hy).2
   unfold into at this
   rw [Bool.and_eq_true, decide_eq_true_eq] at this
   exact this.1 hx
  ·rcases List.mem_append.mp hn with h | h
   ·exact sub n h
   ·exact (List.mem_filter.mp h).1
  ·rcases List.mem_append.mp hn with h | h
   ·exact ends n h
   ·have := (List.mem_filter.mp h).2
    unfold into at this
    rw [Bool.and_eq_true, List.all_eq_true] at this
    exact .mk fun k hk => ends k (of_decide_eq_true (this.2 k hk))
  ·rcases Nat.lt_or_ge i es.length with hi | hi
   ·rw [List.getElem?_append_left hi] at ei
    rw [List.take_append_of_le_length (by omega)]
    exact ord i n ei k hk
   ·rw [List.getElem?_append_right hi] at ei
    have := (List.mem_filter.mp (List.mem_of_getElem? ei)).2
    unfold into at this
    rw [Bool.and_eq_true, List.all_eq_true] at this
    have h3 := of_decide_eq_true (this.2 k hk)
    rw [List.take_append, List.take_of_length_le hi]
    exact mal _ h3
abbrev N_lead_into : List Str := ["led", "ending", "name", "kind"]
theorem sc_lead_into : FnScope N_lead_into ["led", "ending"] (defScope s_lead_into) := ⟨rfl, rfl, rfl, by decide +kernel, rfl, by decide +kernel, by decide +kernel⟩
theorem ok_lead_into (B : BI mg) (F : Fun K "lead_into" "lead_into" s_lead_into f fd) : FnOk P w K mg base CX0 (1) f fd ["led", "ending"] (spLeadInto K) := by
 refine F.ok sc_lead_into (fun vs H Q E h => ?_) (fun cdv A outer s H vs Q E hr h => ?_)
 ·obtain ⟨d, e, b, es, kvs, rfl, _⟩ := h
  rfl
 obtain ⟨d, e, b, es, kvs, rfl, hd, hk, he, ok, q⟩ := h
 have hun2 := hunT hr
 refine ⟨_, pss_one (ps_ret (pe_lock (pe_lc (own := [("name", 2)]) (g := (gName 2)) (tt := (tAnd (tTest (tOp (rIn K true) (tVar 2) (tVar 1))) (tB (tCB (rAll K) (tCons (tLc (iList K (tDGet (tVar 0) (tVar 2))) (gName 3) tYes (tOp (rIn K false) (tVar 3) (tVar 1)) [3]) tNil))))) (te := (tVar 2)) rfl sc_lead_into.nd (pi_keys (pv 0)) (blkOk_by (N := N_lead_into) (sc := defScope s_lead_into) (by decide +kernel)) (fun _ _ _ _ _ => (pg_name (i := 2) sc_lead_into.nd rfl (.inl rfl))) (fun _ _ _ _ _ => (pts_one (PW.pt (pw_and (pt_cmpR op_notIn_seq (pv 2) (pv 1) (by rfl)) (pw_and1 (pt_val (pe_callB (cr_all rfl) rfl B.all boot_all (pa_cons (pe_lc (own := [("kind", 3)]) (g := (gName 3)) (tt := tYes) (te := (tOp (rIn K false) (tVar 3) (tVar 1))) rfl sc_lead_into.nd (pi_list (pe_dget (by show A.units + 3 + 1 < cLine; omega) (pv 0) (pv 2) (fun _ _ => rfl))) (blkOk_by (N := N_lead_into) (sc := { kind := .function, names := [(".0", .local), ("name", .local), ("all", .globalImplicit), ("ending", .cell), ("led", .cell)], isGenerator := false, isCoroutine := false }) (by decide +kernel)) (fun _ _ _ _ _ => (pg_name (i := 3) sc_lead_into.nd rfl (.inl rfl))) (fun _ _ _ _ _ => pts_nil) (fun _ _ _ _ _ => (pe_cmpR op_in_seq (pv 3) (pv 1) (by rfl)))) pa_nil)))))))) (fun _ _ _ _ _ => (pv 2))))), ?_⟩
 have szl := sizeLine_eq
 have b8 := ok.len
 have kl := hk.length
 refine ⟨d, _, hd, trivial, fun od => ?_⟩
 have hL : ∀ l xs, H l = some (.lst xs) -> upd H d (.frz od (.dK kvs)) l = some (.lst xs) := fun l xs h => by rw [upd_ne (fun z => by rw [z, hd] at h; cases h)]; exact h
 have hkL := hk.keep hL
 have heL := hL _ _ he
 have hdL : upd H d (.frz od (.dK kvs)) d = some (.frz od (.dK kvs)) := upd_same
 have un : ∀ H', SB [] (upd H d (.frz od (.dK kvs))) H' -> SB [] H (upd H' d (.dK kvs)) := fun H' s => s.unlock hd (fun _ z => nomatch z) (fun _ _ z => nomatch z)
 have dm : ∀ p, upd H d (.frz od (.dK kvs)) p = none -> H p = none := fun p h => by
  have z : p ≠ d := fun z => by rw [z, upd_same] at h; cases h
  rwa [upd_ne z] at h
 generalize upd H d (.frz od (.dK kvs)) = HL at hkL heL hdL un dm
 refine ⟨_, rfl, d, od, rfl, .inl ⟨kvs, hdL, fun D nD => ?_⟩⟩
 refine lc_seq walk_keys nD (by omega) (fun i us _ => us = ((b.names.take i).filter (into b es)).map V.str) rfl (fun H2 s2 => s2.frzs _ _ _ hdL) (fun _ _ _ _ _ h => h) (fun Pv i x Hq H2 us hi s2 y hR hu fin skip => ?_) (fun us H2 s2 hD2 hR hu => ?_)
 ·obtain ⟨rfl, k0, v0, ek, rfl⟩ := y
  obtain ⟨kd, ekd, e0⟩ := hk.get ek
  have e0 : k0 = Sum.inr kd.n := e0
  subst e0
  have km := List.mem_of_getElem? ekd
  have ea := adj_self ok km
  obtain ⟨l, ss, hv, hl, so⟩ := hkL.val (Bk.get_self ok.nd km)
  have en : b.names[i]? = some kd.n := by rw [List.getElem?_map, ekd]; rfl
  have he2 := s2.keep _ _ heL nmn
  have hl2 := s2.keep _ _ hl nmn
  have hd2 := s2.frzs _ _ _ hdL
  have hstep : ((b.names.take (i + 1)).filter (into b es)).map V.str = ((b.names.take i).filter (into b es)).map V.str ++ (if into b es kd.n = true then [V.str kd.n] else []) := by
   rw [List.take_add_one, en, List.filter_append, List.map_append]
   congr 1
   by_cases z : into b es kd.n = true
   ·simp [z]
   ·simp [z]
  refine ⟨rfl, _, rfl, _, rfl, e, _, rfl, .inl (SqL.of he2), rfl, flat_strs _, _, rfl, ?_⟩
  rw [if_pos rfl]
  show if (!inV (.str kd.n) (es.map V.str)) = true then _ else _
  rw [inV_strs]
  by_cases h1 : kd.n ∈ es
  ·rw [show (!decide (kd.n ∈ es)) = false by simp [h1]]
   refine iteF (skip _ SB.refl ?_)
   rw [hstep, show into b es kd.n = false by simp [into, h1], hR]; simp
  ·rw [show (!decide (kd.n ∈ es)) = true by simp [h1]]
   refine iteT ?_
   have sl : ss.length < 1000 := by
    have h2 := so.nd.length_le_of_subset (l₂ := b.names) fun x hx => ok.led km x ((so.mem x).mp hx)
    rw [List.length_map] at h2
    omega
   refine ⟨_, rfl, _, rfl, d, .ref l, rfl, getKR (.inr ⟨_, hd2⟩) hv, l, rfl, ⟨_, SqL.of hl2⟩, fun D2 nD2 => ?_⟩
   refine lc_seq (walk_list (xs := ss.map V.str)) nD2 (by rw [List.length_map]; omega) (fun j us _ => us = ((ss.take j).map fun k => decide (k ∈ es)).map V.bl) rfl (fun H4 s4 => s4.sqL nmn (SqL.of hl2)) (fun _ _ _ _ _ h => h) (fun Pv j z Hq H4 us4 hj s4 y hR4 hu4 fin4 _ => ?_) (fun us4 H4 s4 hD4 hR4 hu4 => ?_)
   ·obtain ⟨rfl, ez⟩ := y
    rw [List.getElem?_map] at ez
    obtain ⟨sx, ex, rfl⟩ := Option.map_eq_some_iff.mp ez
    refine ⟨rfl, _, rfl, _, rfl, e, _, rfl, .inl (SqL.of (s4.keep _ _ he2 nmn)), rfl, flat_strs _, ?_⟩
    refine fin4 _ _ SB.refl ?_
    rw [hR4, List.take_add_one, ex]
    simp [inV_strs]
   ·subst hR4
    refine ⟨D2, _, rfl, SqL.of hD4, _, rfl, ?_⟩
    have eall : ((ss.take (ss.map V.str).length).map fun k => decide (k ∈ es)).all id = (adj b kd.n).all fun k => decide (k ∈ es) := by
     rw [List.length_map, List.take_length, List.all_map, ea, <- all_srt so]; rfl
    rw [eall]
    have ei : into b es kd.n = (adj b kd.n).all fun k => decide (k ∈ es) := by unfold into; simp [h1]
    by_cases h3 : ((adj b kd.n).all fun k => decide (k ∈ es)) = true
    ·rw [h3]
     refine iteT ⟨_, rfl, fin _ _ s4 ?_⟩
     rw [hstep, ei, h3, hR]; rfl
    ·have h3 : ((adj b kd.n).all fun k => decide (k ∈ es)) = false := by simpa using h3
     rw [h3]
     refine iteF (skip _ s4 ?_)
     rw [hstep, ei, h3, hR]; simp
 ·subst hR
  have hd2 := s2.frzs _ _ _ hdL
  have Dd : D ≠ d := fun z => by rw [z, hdL] at nD; cases nD
  refine ⟨hd2, q D _ (un _ s2) (dm _ nD) ?_⟩
  rw [upd_ne Dd, hD2, kl, <- show b.names.length = b.length from List.length_map .., List.take_length]
abbrev N_endless_kinds : List Str := ["book", "ending", "name"]
theorem sc_endless_kinds : FnScope N_endless_kinds ["book"] (defScope s_endless_kinds) := ⟨rfl, rfl, rfl, by decide +kernel, rfl, by decide +kernel, by decide +kernel⟩
theorem ok_endless_kinds {C_Book C_NoKind : Addr} (B : BI mg) (G_ending_kinds : Got P w K mg base "ending_kinds" ["book"] (24) (spEndingO K C_Book C_NoKind)) (G_Book_names : GotM P w K mg base C_Book "names" ["self"] (1) (spBNames K C_Book)) (F : Fun K "endless_kinds" "endless_kinds" s_endless_kinds f fd) : FnOk P w K mg base CX0 (25) f fd ["book"] (spEndless K C_Book C_NoKind) := by
 refine F.ok sc_endless_kinds (fun vs H Q E h => ?_) (fun cdv A outer s H vs Q E hr h => ?_)
 ·obtain ⟨v, b, rfl, _⟩ := h
  rfl
 obtain ⟨v, b, rfl, hv, ok, q⟩ := h
 have hun2 := hunT hr
 refine ⟨_, pss_cons (ps_set (i := 1) sc_endless_kinds.nd rfl (.inr rfl) (pe_got G_ending_kinds (hr.mono (by omega)) rfl (pa_cons (pv 0) pa_nil)))
  (pss_one (ps_ret (pe_callB cr_sortedS rfl B.sorted (by decide +kernel) (pa_cons (pe_lc (own := [("name", 2)]) (g := (gName 2)) (tt := (tTest (tOp (rIn K true) (tVar 2) (tVar 1)))) (te := (tVar 2)) rfl sc_endless_kinds.nd (pi_list (pe_gotM0 G_Book_names (hr.mono (by omega)) (pv 0))) (blkOk_by (N := N_endless_kinds) (sc := defScope s_endless_kinds) (by decide +kernel)) (fun _ _ _ _ _ => (pg_name (i := 2) sc_endless_kinds.nd rfl (.inl rfl))) (fun _ _ _ _ _ => (pts_one (pt_cmpR op_notIn_seq (pv 2) (pv 1) (by rfl)))) (fun _ _ _ _ _ => (pv 2))) pa_nil)))), ?_⟩
 have szl := sizeLine_eq
 have b8 := ok.len
 refine ⟨_, rfl, v, b, rfl, hv, ok, fun l es H1 s1 nl hl eo => ?_⟩
 have el := eo.len
 have hm : ∀ n ∈ b.names, n ∈ es ↔ EndK b n := fun n hn => ⟨fun h => ((eo.mem n).mp h).2, fun h => (eo.mem n).mpr ⟨hn, h⟩⟩
 obtain ⟨va, vdx, vd1, vd2, rfl, hva⟩ := hv.at
 refine ⟨_, rfl, va, vdx, _, rfl, s1.keep _ _ hva nmn, rfl, ?_⟩
 refine ⟨_, b, rfl, hv.sb0 s1, by omega, fun nl2 H2 s2 nn hn => ?_⟩
 have hl2 := s2.keep _ _ hl nmn
 refine ⟨nl2, rfl, ⟨_, SqL.of hn⟩, fun D nD => ?_⟩
 have nml : b.names.length = b.length := List.length_map ..
 refine lc_seq (walk_list (xs := b.names.map V.str)) nD (by rw [List.length_map]; omega) (fun i us _ => us = ((b.names.take i).filter fun n => decide (n ∉ es)).map V.str) rfl (fun H3 s3 => s3.sqL nmn (SqL.of hn)) (fun _ _ _ _ _ h => h) (fun Pv i x Hq H3 us hi s3 y hR hu fin skip => ?_) (fun us H3 s3 hD3 hR hu => ?_)
 ·obtain ⟨rfl, ey⟩ := y
  rw [List.getElem?_map] at ey
  obtain ⟨n, en, rfl⟩ := Option.map_eq_some_iff.mp ey
  refine ⟨rfl, _, rfl, _, rfl, l, _, rfl, .inl (SqL.of (s3.keep _ _ hl2 nmn)), rfl, flat_strs _, _, rfl, ?_⟩
  rw [if_pos rfl, inV_strs]
  have hstep : ((b.names.take (i + 1)).filter fun n => decide (n ∉ es)).map V.str = ((b.names.take i).filter fun n => decide (n ∉ es)).map V.str ++ (if n ∉ es then [V.str n] else []) := by
   rw [List.take_add_one, en, List.filter_append, List.map_append]
   congr 1
   by_cases z : n ∈ es
   ·simp [z]
   ·simp [z]
  by_cases h1 : n ∈ es
  ·rw [show (!decide (n ∈ es)) = false by simp [h1]]
   refine iteF (skip _ SB.refl ?_)
   rw [hstep, if_neg (by simp [h1]), hR]; simp
  ·rw [show (!decide (n ∈ es)) = true by simp [h1]]
   refine iteT ⟨_, rfl, fin _ _ SB.refl ?_⟩
   rw [hstep, if_pos h1, hR]
 ·rw [List.length_map, List.take_length] at hR
  subst hR
  refine ⟨D, _, rfl, SqL.of hD3, ?_, fun ys p pm srt np => ?_⟩
  ·have := List.length_filter_le (fun n => decide (n ∉ es)) b.names
   omega
  have s03 := (s1.trans s2).trans s3
  refine q p ys _ (s03.trans (SB.new (ps := []) np _)) (s03.dom _ np) upd_same srt (pm.nodup_iff.mpr (ok.nd.filter _)) fun n => ?_
  rw [pm.mem_iff, List.mem_filter]
  simp only [decide_eq_true_eq]
  exact ⟨fun ⟨h1, h2⟩ => ⟨h1, fun z => h2 ((hm n h1).mpr z)⟩, fun ⟨h1, h2⟩ => ⟨h1, fun z => h2 ((hm n h1).mp z)⟩⟩
abbrev N_check_ends : List Str := ["book", "grove", "endless", "kind"]
theorem sc_check_ends : FnScope N_check_ends ["book", "grove"] (defScope s_check_ends) := ⟨rfl, rfl, rfl, by decide +kernel, rfl, by decide +kernel, by decide +kernel⟩
theorem ok_check_ends {C_Endless C_Book C_NoKind : Addr} (B : BI mg) (O_Endless : OwnI P w K mg base "Endless" C_Endless 1) (G_endless_kinds : Got P w K mg base "endless_kinds" ["book"] (25) (spEndless K C_Book C_NoKind)) (G_kinds_within : Got P w K mg base "kinds_within" ["grove"] (71) (spKindsF K)) (F : Fun K "check_ends" "check_ends" s_check_ends f fd) : FnOk P w K mg base (L2.CX P w) (72) f fd ["book", "grove"] (spChkEX K C_Book C_NoKind C_Endless) := by
 refine F.okX sc_check_ends (fun vs H Q E h => ?_) (fun cdv A outer s H vs Q E hr h => ?_)
 ·obtain ⟨v, w, b, g, rfl, _⟩ := h
  rfl
 obtain ⟨v, w, b, g, rfl, hv, ok, hg, hd, hp, hk, q, qE⟩ := h
 have hun2 := hunT hr
 refine ⟨_, pss_cons (ps_set (i := 2) sc_check_ends.nd rfl (.inl rfl) (pe_got G_endless_kinds (hr.mono (by omega)) rfl (pa_cons (pv 0) pa_nil)))
  (pss_one (ps_for (passes_of rfl) rfl (pi_list (pe_got G_kinds_within (hr.mono (by omega)) rfl (pa_cons (pv 1) pa_nil))) (pg_name (i := 3) sc_check_ends.nd rfl (.inl rfl))
   (pss_one (ps_if (pt_cmpR op_in_seq (pv 3) (pv 2) (by rfl)) (pss_one (ps_raise rfl (takes_of rfl rfl rfl rfl) (pmk_kind O_Endless (hr.mono (by omega)) rfl (pv 3)))) pss_nil)))), ?_⟩
 refine ⟨_, rfl, v, b, rfl, hv, ok, fun l ss H1 s1 nl hl srt nd hm => ?_⟩
 refine ⟨_, rfl, w, g, b.names, rfl, hg.sb s1, hd, hp, hk, by rw [List.length_map]; have := ok.len; omega, fun l2 ss2 H2 s2 nl2 hl2 so sl => ?_⟩
 refine ⟨l2, rfl, ⟨_, SqL.of hl2⟩, ?_⟩
 have hl3 := s2.keep _ _ hl nmn
 have s02 := s1.trans s2
 refine for_it (walk_list (xs := ss2.map V.str)) (fun i σ H3 => SB [] H2 H3 /\ (∀ m ∈ ss2.take i, ¬ ¬ EndK b m) /\ ∃ o3, σ = [some v, some w, some (.ref l), o3]) ⟨SB.refl, by simp, none, rfl⟩ (fun i σ H3 hi h3 => h3.1.sqL nmn (SqL.of hl2)) (fun i x σ Hq H3 hi h3 y => ?_) (fun σ H3 h3 => ?_)
 ·obtain ⟨s3, bef, o3, rfl⟩ := h3
  obtain ⟨rfl, ey⟩ := y
  rw [List.getElem?_map] at ey
  obtain ⟨k, ek, rfl⟩ := Option.map_eq_some_iff.mp ey
  obtain ⟨p, hp2, e⟩ := List.mem_map.mp ((so.mem k).mp (List.mem_of_getElem? ek))
  have kb : k ∈ b.names := e ▸ hk p hp2
  refine ⟨_, rfl, _, rfl, l, _, rfl, .inl (SqL.of (s3.keep _ _ hl3 nmn)), rfl, flat_strs _, ?_⟩
  rw [inV_strs]
  by_cases he : EndK b k
  ·rw [show decide (k ∈ ss) = false from decide_eq_false fun z => ((hm k).mp z).2 he]
   refine ⟨_, rfl, iteF ⟨s3, fun m hm2 => ?_, _, rfl⟩⟩
   rw [List.take_add_one, ek] at hm2
   rcases List.mem_append.mp hm2 with z | z
   ·exact bef m z
   ·rw [List.mem_singleton.mp z]; exact fun z => z he
  ·rw [show decide (k ∈ ss) = true from decide_eq_true ((hm k).mpr ⟨kb, he⟩)]
   refine ⟨_, rfl, iteT ⟨_, rfl, fun x nx => ?_⟩⟩
   have s03 := s02.trans s3
   exact qE k (.at so ek he bef) x _ (s03.trans (SB.new nx _)) (s03.dom _ nx) upd_same
 ·obtain ⟨s3, bef, o3, rfl⟩ := h3
  rw [List.length_map, List.take_length] at bef
  exact q (fun x hx => Classical.byContradiction fun z => bef x.1.1 ((so.mem _).mpr (List.mem_map.mpr ⟨x, hx, rfl⟩)) z) _ (s02.trans s3)
abbrev N_own_rank : List Str := ["book", "name", "found"]
theorem sc_own_rank : FnScope N_own_rank ["book", "name"] (defScope s_own_rank) := ⟨rfl, rfl, rfl, by decide +kernel, rfl, by decide +kernel, by decide +kernel⟩
theorem ok_own_rank {C_Endless C_Book C_NoKind : Addr} (B : BI mg) (O_Endless : OwnI P w K mg base "Endless" C_Endless 1) (G_check_kind : GotX P w K mg base "check_kind" ["book", "name"] (3) (spCheckK K C_Book C_NoKind)) (G_own_ranks : Got P w K mg base "own_ranks" ["book"] (47) (spOwnRanks K C_Book C_NoKind)) (F : Fun K "own_rank" "own_rank" s_own_rank f fd) : FnOk P w K mg base (L2.CX P w) (74) f fd ["book", "name"] (spOwn42 K C_Book C_NoKind C_Endless) := by
 refine F.okX sc_own_rank (fun vs H Q E h => ?_) (fun cdv A outer s H vs Q E hr h => ?_)
 ·obtain ⟨v, b, n, o, rfl, _⟩ := h
  rfl
 obtain ⟨v, b, n, o, rfl, hv, ok, ow, hd, q⟩ := h
 have hun2 := hunT hr
 refine ⟨_, pss_cons (ps_expr (pe_gotS G_check_kind (hr.mono (by omega)) rfl (takes_of rfl rfl rfl rfl) (pa_cons (pv 0) (pa_cons (pv 1) pa_nil))))
  (pss_cons (ps_set (i := 2) sc_own_rank.nd rfl (.inl rfl) (pe_got G_own_ranks (hr.mono (by omega)) rfl (pa_cons (pv 0) pa_nil)))
  (pss_cons (ps_if (pt_cmp (pc_dnotin (by show A.units + 3 + 1 < cLine; omega) (pv 1) (pv 2))) (pss_one (ps_raise rfl (takes_of rfl rfl rfl rfl) (pmk_kind O_Endless (hr.mono (by omega)) rfl (pv 1)))) pss_nil)
  (pss_one (ps_ret (pe_dget (by show A.units + 3 + 1 < cLine; omega) (pv 2) (pv 1) (fun _ _ => rfl)))))), ?_⟩
 have b8 := ok.len
 rcases hd with ⟨hn, rfl⟩ | ⟨hn, he, rfl⟩
 ·exact ⟨_, rfl, _, rfl, v, b, n, rfl, hv, by omega, fun k' e' => (hn ((Bk.get_some e').2 ▸ List.mem_map_of_mem (Bk.get_some e').1)).elim, fun _ d H1 s1 nd hd1 => q d H1 s1 nd hd1⟩
 ·obtain ⟨kd, eg⟩ := Bk.get_of hn
  refine ⟨_, rfl, _, rfl, v, b, n, rfl, hv, by omega, fun k' e' H1 s1 => ?_, fun z => by rw [eg] at z; cases z⟩
  refine ⟨_, rfl, v, b, ownOf b, rfl, hv.sb0 s1, ok, ow, fun d es H2 s2 nd hw eo => ?_⟩
  have s02 := s1.trans s2
  have hm : n ∉ es := fun z => he ((eo.mem n).mp z).2
  refine ⟨_, rfl, _, rfl, d, _, rfl, hw.none hm, _, rfl, iteT ?_⟩
  refine ⟨_, rfl, fun x nx => ?_⟩
  exact q x _ (s02.trans (SB.new nx _)) (s02.dom _ nx) upd_same
abbrev N_rank : List Str := ["book", "grove"]
theorem sc_rank : FnScope N_rank ["book", "grove"] (defScope s_rank) := ⟨rfl, rfl, rfl, by decide +kernel, rfl, by decide +kernel, by decide +kernel⟩
theorem ok_rank {C_Book C_NoKind C_Endless : Addr} (B : BI mg) (G_check_kinds : GotX P w K mg base "check_kinds" ["book", "grove"] (72) (spCheckKX K C_Book C_NoKind)) (G_check_ends : GotX P w K mg base "check_ends" ["book", "grove"] (72) (spChkEX K C_Book C_NoKind C_Endless)) (G_reckoned : Got P w K mg base "reckoned" ["book", "worths", "grove"] (45) (spReck K C_Book 20)) (G_own_ranks : Got P w K mg base "own_ranks" ["book"] (47) (spOwnRanks K C_Book C_NoKind)) (F : Fun K "rank" "rank" s_rank f fd) : FnOk P w K mg base (L2.CX P w) (73) f fd ["book", "grove"] (spRank42 K C_Book C_NoKind C_Endless) := by
 refine F.okX sc_rank (fun vs H Q E h => ?_) (fun cdv A outer s H vs Q E hr h => ?_)
 ·obtain ⟨v, w, b, g, o, rfl, _⟩ := h
  rfl
 obtain ⟨v, w, b, g, o, rfl, hA, ow, hd, hfine, q⟩ := h
 have hun2 := hunT hr
 refine ⟨_, pss_cons (ps_expr (pe_gotS G_check_kinds (hr.mono (by omega)) rfl (takes_of rfl rfl rfl rfl) (pa_cons (pv 0) (pa_cons (pv 1) pa_nil))))
  (pss_cons (ps_expr (pe_gotS G_check_ends (hr.mono (by omega)) rfl (takes_of rfl rfl rfl rfl) (pa_cons (pv 0) (pa_cons (pv 1) pa_nil))))
  (pss_one (ps_ret (pe_got G_reckoned (hr.mono (by omega)) rfl (pa_cons (pv 0) (pa_cons (pe_got G_own_ranks (hr.mono (by omega)) rfl (pa_cons (pv 0) pa_nil)) (pa_cons (pv 1) pa_nil))))))), ?_⟩
 have b8 := hA.ok.len
 obtain ⟨ns, hn, nl⟩ := hA.nm
 have hdp := hA.deep
 have hpt := hA.parts
 cases hd with
 | k lo => exact ⟨_, rfl, _, rfl, v, w, b, g, ns, rfl, hA.bk, hA.ga, by omega, by omega, by omega, hn, nl, fun h => (lo.not h).elim, fun n hn d H1 s1 nd hd1 => by rw [hn.one lo] at hd1; exact q d H1 s1 nd hd1⟩
 | e _ hnm lo =>
  refine ⟨_, rfl, _, rfl, v, w, b, g, ns, rfl, hA.bk, hA.ga, by omega, by omega, by omega, hn, nl, fun _ H1 s1 => ?_, fun n hn => (hn.not hnm).elim⟩
  exact ⟨_, rfl, _, rfl, v, w, b, g, rfl, hA.bk.sb0 s1, hA.ok, hA.ga.sb s1, by omega, by omega, hnm, fun h => (lo.notE h).elim, fun n hn d H2 s2 nd hd1 => by rw [hn.one lo] at hd1; exact q d H2 (s1.trans s2) (s1.dom _ nd) hd1⟩
 | f hnm he =>
  obtain rfl := hfine rfl
  refine ⟨_, rfl, _, rfl, v, w, b, .nil, ns, rfl, hA.bk, hA.ga, by omega, by omega, by omega, hn, nl, fun _ H1 s1 => ?_, fun n hn => (hn.not hnm).elim⟩
  refine ⟨_, rfl, _, rfl, v, w, b, .nil, rfl, hA.bk.sb0 s1, hA.ok, hA.ga.sb s1, by omega, by omega, hnm, fun _ H2 s2 => ?_, fun n hn => (hn.notE (he rfl)).elim⟩
  have s02 := s1.trans s2
  refine ⟨_, rfl, _, rfl, v, b, ownOf b, rfl, hA.bk.sb0 s02, hA.ok, ow, fun d es H3 s3 nd hw eo => ?_⟩
  have s03 := s02.trans s3
  refine ⟨_, rfl, v, w, d, b, ownOf b, es, .nil, rfl, hA.bk.sb0 s03, by omega, hw, hA.ga.sb s03, by decide, trivial, by decide, fun x H' s hx => q x H' (s03.trans s) (by rwa [Gr.rk_nil] at hx)⟩
abbrev N_own_ranks : List Str := ["book", "found", "name", "rule"]
theorem sc_own_ranks : FnScope N_own_ranks ["book"] (defScope s_own_ranks) := ⟨rfl, rfl, rfl, by decide +kernel, rfl, by decide +kernel, by decide +kernel⟩
theorem ok_own_ranks {C_Book C_NoKind : Addr} (B : BI mg) (G_ending_kinds : Got P w K mg base "ending_kinds" ["book"] (24) (spEndingO K C_Book C_NoKind)) (G_rules_from_nought : GotX P w K mg base "rules_from_nought" ["book", "name"] (5) (spRulesN K C_Book C_NoKind)) (G_climb : Got P w K mg base "climb" ["book", "worths", "rule"] (46) (spClimb K C_Book)) (F : Fun K "own_ranks" "own_ranks" s_own_ranks f fd) : FnOk P w K mg base CX0 (47) f fd ["book"] (spOwnRanks K C_Book C_NoKind) := by
 refine F.ok sc_own_ranks (fun vs H Q E h => ?_) (fun cdv A outer s H vs Q E hr h => ?_)
 ·obtain ⟨v, b, ρ, rfl, _⟩ := h
  rfl
 obtain ⟨v, b, ρ, rfl, hv, ok, ow, q⟩ := h
 have hun2 := hunT hr
 refine ⟨_, pss_cons (ps_set (i := 1) sc_own_ranks.nd rfl (.inr rfl) pe_dnewK)
  (pss_cons (ps_for PassesOwn.never rfl (pi_list (pe_got G_ending_kinds (hr.mono (by omega)) rfl (pa_cons (pv 0) pa_nil))) (pg_name (i := 2) sc_own_ranks.nd rfl (.inl rfl))
   (pss_one (ps_dput (by show A.units + 3 + 1 < cLine; omega) (pv 1) (pv 2) (pe_callB (cr_maxL rfl (by show A.units + 3 + 110 < cLine; omega)) rfl B.max boot_max (pa_cons (pe_lc (own := [("rule", 3)]) (g := (gName 3)) (tt := tYes) (te := (tCall (spClimb K C_Book) [] E0 (tCons (tVar 0) (tCons (tVar 1) (tCons (tVar 3) tNil))))) rfl sc_own_ranks.nd (pi_list (pe_gotX G_rules_from_nought (hr.mono (by omega)) rfl (pa_cons (pv 0) (pa_cons (pv 2) pa_nil)))) (blkOk_by (N := N_own_ranks) (sc := defScope s_own_ranks) (by decide +kernel)) (fun _ _ _ _ _ => (pg_name (i := 3) sc_own_ranks.nd rfl (.inl rfl))) (fun _ _ _ _ _ => pts_nil) (fun _ _ _ _ _ => (pe_got G_climb (hr.mono (by omega)) rfl (pa_cons (pv 0) (pa_cons (pv 1) (pa_cons (pv 3) pa_nil)))))) pa_nil)) rfl)))
  (pss_one (ps_ret (pv 1)))), ?_⟩
 have szl := sizeLine_eq
 have b8 := ok.len
 intro D nD
 have t1 := SB.new (ps := []) nD (.dK [])
 have hD1 : upd H D (.dK []) D = some (.dK []) := upd_same
 generalize upd H D (.dK []) = H1 at t1 hD1
 refine ⟨_, rfl, v, b, rfl, hv.sb0 t1, ok, fun l es H2 s2 nl hl eo => ?_⟩
 have e8 := eo.len
 refine ⟨l, rfl, ⟨_, SqL.of hl⟩, ?_⟩
 have Dl : D ≠ l := fun z => by rw [<- z, hD1] at nl; cases nl
 refine for_it (walk_list (xs := es.map V.str)) (fun i σ H3 => SB [D] H2 H3 /\ (∃ o2 : Option V, σ = [some v, some (.ref D), o2, none]) /\ RkD K H3 D ρ (es.take i)) ⟨SB.refl, ⟨none, rfl⟩, [], s2.keep _ _ hD1 nmn, .nil⟩ (fun i σ H3 hi h3 => h3.1.sqL (by simpa using fun z => Dl z.symm) (SqL.of hl)) (fun i x σ Hq H3 hi h3 y => ?_) (fun σ H3 h3 => ?_)
 ·obtain ⟨s3, ⟨o2, rfl⟩, hR⟩ := h3
  obtain ⟨rfl, ey⟩ := y
  rw [List.getElem?_map] at ey
  obtain ⟨n, en, rfl⟩ := Option.map_eq_some_iff.mp ey
  have s03 : SB [] H H3 := ((t1.trans s2).nil.trans s3).drop nD
  have hn := (eo.mem n).mp (List.mem_of_getElem? en)
  obtain ⟨kd, eg⟩ := Bk.get_of hn.1
  obtain ⟨km, rfl⟩ := Bk.get_some eg
  obtain ⟨kn, r4, rr⟩ := ok.kd kd km
  refine ⟨_, rfl, _, rfl, v, b, kd.n, rfl, hv.sb0 s03, by omega, fun k hk => Nat.le_trans (ok.kd k hk).2.1 (by decide), fun k' e' ll us H4 s4 nll hll hbl => ?_, fun z => by rw [eg] at z; cases z⟩
  rw [eg] at e'
  cases e'
  have ul := hbl.length
  have Dll : D ≠ ll := fun z => by
   obtain ⟨_, h1, _⟩ := hR
   rw [<- z, h1] at nll; cases nll
  have hR4 := hR.sb0 s4
  have s04 := s03.trans s4
  refine ⟨ll, rfl, ⟨_, SqL.of hll⟩, fun D2 nD2 => ?_⟩
  refine lc_seq (walk_list (xs := us)) nD2 (by rw [ul, List.length_cons]; omega) (fun j ws H5 => Bears K H5 Lad.enc ws (((noR :: kd.rs).take j).map (clm b ρ))) .nil (fun H5 s5 => s5.sqL nmn (SqL.of hll)) (fun j ws H5 H6 s6 h => h.sb s6 Lad.noList_enc) (fun Pv j x Hq H5 ws hj s5 y hR5 hu5 fin skip => ?_) (fun ws H5 s5 hD5 hR5 hu5 => ?_)
  ·obtain ⟨rfl, ey⟩ := y
   obtain ⟨r, er, hrd⟩ := hbl.get ey
   have rm := List.mem_of_getElem? er
   have rf : RFit b ρ (es.take i) r := by
    rcases List.mem_cons.mp rm with rfl | rm
    ·exact RFit_no b ρ _
    ·exact ow.fit kd km hn.2 _ (fun n h => eo.ord i _ en n h) r rm
   have rp : r.1.parts + r.2.parts <= 4 := by
    rcases List.mem_cons.mp rm with rfl | rm
    ·decide
    ·exact (rr r rm).1.2.2
   have rd1 := within_deep r.1
   have rd2 := within_deep r.2
   refine ⟨rfl, _, rfl, _, rfl, _, rfl, v, x, D, b, ρ, es.take i, r, rfl, (hv.sb0 s04).sb0 s5, by omega, hR4.sb0 s5, Dp_sb s5 _ _ (Ru.noList_enc _) hrd, by omega, by omega, by omega, by omega, rf, fun z H6 s6 hz => fin z H6 s6 ?_⟩
   rw [List.take_add_one, er, List.map_append]
   exact (hR5.sb s6 Lad.noList_enc).append (.cons hz .nil)
  ·rw [ul, List.take_length, List.map_cons, show clm b ρ noR = Lad.uno from clm_no b ρ] at hR5
   have hR6 := hR4.sb0 s5
   refine ⟨D2, ws, Lad.uno, kd.rs.map (clm b ρ), rfl, SqL.of hD5, hR5, fun l hl' => ?_, fun x hx => ?_⟩
   ·rcases List.mem_cons.mp hl' with rfl | hl'
    ·decide
    ·obtain ⟨r, rm, rfl⟩ := List.mem_map.mp hl'
     exact ow.deep kd km hn.2 r rm
   rw [<- ow.own kd km hn.2] at hx
   have fresh : kd.n ∉ es.take i := fun z => by
    obtain ⟨j, hj, ej⟩ := List.getElem_of_mem z
    rw [List.getElem_take] at ej
    rw [List.length_take] at hj
    have e2 := List.getElem_of_getElem? en
    obtain ⟨hi2, e2⟩ := e2
    exact List.pairwise_iff_getElem.mp eo.nd j i (by omega) hi2 (by omega) (ej.trans e2.symm)
   obtain ⟨H6, hput, s6, hR7⟩ := hR6.put fresh (by rw [List.length_take]; omega) hx
   refine ⟨_, rfl, _, rfl, D, H6, rfl, hput, ?_, ⟨_, rfl⟩, ?_⟩
   ·exact (s3.trans (s4.trans s5).nil).trans s6
   ·rw [List.take_add_one, en]
    exact hR7
 ·obtain ⟨s3, ⟨o2, rfl⟩, hR⟩ := h3
  rw [List.length_map, List.take_length] at hR
  exact ⟨_, rfl, q D es _ (((t1.trans s2).nil.trans s3).drop nD) nD hR eo⟩
abbrev N_climb : List Str := ["book", "worths", "rule", "once", "each"]
theorem sc_climb : FnScope N_climb ["book", "worths", "rule"] (defScope s_climb) := ⟨rfl, rfl, rfl, by decide +kernel, rfl, by decide +kernel, by decide +kernel⟩
theorem ok_climb {C_Book : Addr} (B : BI mg) (G_above : Got P w K mg base "above" ["one", "other"] (4) (spAbove K)) (G_reckoned : Got P w K mg base "reckoned" ["book", "worths", "grove"] (45) (spReck K C_Book 20)) (F : Fun K "climb" "climb" s_climb f fd) : FnOk P w K mg base CX0 (46) f fd ["book", "worths", "rule"] (spClimb K C_Book) := by
 refine F.ok sc_climb (fun vs H Q E h => ?_) (fun cdv A outer s H vs Q E hr h => ?_)
 ·obtain ⟨v, u, d, b, ρ, ns, r, rfl, _⟩ := h
  rfl
 obtain ⟨v, u, d, b, ρ, ns, r, rfl, hv, hl, hw, hu, d1, d2, p1, p2, hfit, q⟩ := h
 have hun2 := hunT hr
 refine ⟨_, pss_cons (ps_asg (pv 2) (pg_tup rfl (pgs_cons (pg_name (i := 3) sc_climb.nd rfl (.inl rfl)) (pgs_cons (pg_name (i := 4) sc_climb.nd rfl (.inl rfl)) pgs_nil))))
  (pss_one (ps_ret (pe_got G_above (hr.mono (by omega)) rfl (pa_cons (pe_got G_reckoned (hr.mono (by omega)) rfl (pa_cons (pv 0) (pa_cons (pv 1) (pa_cons (pv 3) pa_nil)))) (pa_cons (pe_got G_reckoned (hr.mono (by omega)) rfl (pa_cons (pv 0) (pa_cons (pv 1) (pa_cons (pv 4) pa_nil)))) pa_nil))))), ?_⟩
 cases hu with
 | @tup ad us' _ hs' hda =>
 cases hda with
 | cons g1 hda =>
 cases hda with
 | cons g2 hda =>
 cases hda
 obtain ⟨h1, h2, h3, h4, h5, h6⟩ := hfit
 refine ⟨_, rfl, ad, _, rfl, hs', rfl, _, _, rfl, _, _, rfl, rfl, ?_⟩
 refine ⟨_, rfl, _, rfl, _, rfl, v, _, d, b, ρ, ns, r.1, rfl, hv, hl, hw, g1, d1, h1, p1, fun x1 H1 s1 hx1 => ?_⟩
 refine ⟨_, rfl, _, rfl, _, rfl, v, _, d, b, ρ, ns, r.2, rfl, hv.sb0 s1, hl, hw.sb0 s1, GA.sb g2 s1, d2, h2, p2, fun x2 H2 s2 hx2 => ?_⟩
 exact ⟨x1, x2, _, _, rfl, hx1.sb s2, hx2, Nat.le_trans h3 (by decide), Nat.le_trans h4 (by decide), Nat.le_trans h5 (by decide), Nat.le_trans h6 (by decide), fun x H' s hx => q x H' ((s1.trans s2).trans s) hx⟩
abbrev N_reckoned : List Str := ["book", "worths", "grove", "tree", "many"]
theorem sc_reckoned : FnScope N_reckoned ["book", "worths", "grove"] (defScope s_reckoned) := ⟨rfl, rfl, rfl, by decide +kernel, rfl, by decide +kernel, by decide +kernel⟩
theorem ok_reckoned {n : Nat} {C_Book : Addr} (B : BI mg) (G_all_together : Got P w K mg base "all_together" ["some"] (2) (spAllT K)) (G_many_of : Got P w K mg base "many_of" ["ladder", "many"] (1) (spManyOf K)) (G_reckoned_tree : Got P w K mg base "reckoned_tree" ["book", "worths", "tree"] (2 * n + 6) (spReckT K C_Book n)) (F : Fun K "reckoned" "reckoned" s_reckoned f fd) : FnOk P w K mg base CX0 (2 * n + 7) f fd ["book", "worths", "grove"] (spReck K C_Book (n + 1)) := by
 refine F.ok sc_reckoned (fun vs H Q E h => ?_) (fun cdv A outer s H vs Q E hr h => ?_)
 ·obtain ⟨v, u, d, b, ρ, ns, g, rfl, _⟩ := h
  rfl
 obtain ⟨v, u, d, b, ρ, ns, g, rfl, hv, hl, hw, hg, hgd, hfit, hp, q⟩ := h
 have hun2 := hunT hr
 refine ⟨_, pss_one (ps_ret (pe_got G_all_together (hr.mono (by omega)) rfl (pa_cons (pe_lc (own := [("tree", 3), ("many", 4)]) (g := (gTup K 2 (gCons (gName 3) (gCons (gName 4) gNil)))) (tt := tYes) (te := (tCall (spManyOf K) [] E0 (tCons (tCall (spReckT K C_Book n) [] E0 (tCons (tVar 0) (tCons (tVar 1) (tCons (tVar 3) tNil)))) (tCons (tVar 4) tNil)))) rfl sc_reckoned.nd (pi_tup (pv 2)) (blkOk_by (N := N_reckoned) (sc := defScope s_reckoned) (by decide +kernel)) (fun _ _ _ _ _ => (pg_tup rfl (pgs_cons (pg_name (i := 3) sc_reckoned.nd rfl (.inl rfl)) (pgs_cons (pg_name (i := 4) sc_reckoned.nd rfl (.inl rfl)) pgs_nil)))) (fun _ _ _ _ _ => pts_nil) (fun _ _ _ _ _ => (pe_got G_many_of (hr.mono (by omega)) rfl (pa_cons (pe_got G_reckoned_tree (hr.mono (by omega)) rfl (pa_cons (pv 0) (pa_cons (pv 1) (pa_cons (pv 3) pa_nil)))) (pa_cons (pv 4) pa_nil))))) pa_nil))), ?_⟩
 obtain ⟨a, xs, rfl, hs, hb⟩ := GA_bears hg
 have xl := hb.length
 have lp := g.len_parts
 have szl := sizeLine_eq
 refine ⟨_, rfl, a, rfl, ⟨xs, hs⟩, fun D hD => ?_⟩
 refine lc_seq (walk_tup (xs := xs)) hD (by omega) (fun i us H2 => Bears K H2 Lad.enc us ((g.ps.take i).map fun p : Tr × Int => Lad.tms (Gr.rkt b ρ p.1) p.2)) .nil (fun H2 s2 => s2.sqT hs) (fun i us H2 H3 s3 h => h.sb s3 Lad.noList_enc) (fun Pv i x Hq H2 us hi s2 y hR hu fin skip => ?_) (fun us H2 s2 hD2 hR hu => ?_)
 ·obtain ⟨rfl, ey⟩ := y
  obtain ⟨p, ep, hpd⟩ := hb.get ey
  have pm := List.mem_of_getElem? ep
  obtain ⟨ad, td, ux, rfl, hs2, hs3, hga, htd⟩ := PA_parts hpd
  obtain ⟨⟨f1, f2, f3, f4, f5, f6, f7, f8⟩, f9⟩ := hfit.at p pm
  have pd := g.mem_deep p pm
  have pp := g.mem_parts p pm
  refine ⟨ad, _, rfl, s2.sqT hs2, rfl, _, _, rfl, _, _, rfl, rfl, rfl, ?_⟩
  refine ⟨_, rfl, _, rfl, _, rfl, v, .ref td, d, b, ρ, ns, p.1.1, p.1.2, rfl, hv.sb0 s2, hl, hw.sb0 s2, Dp_sb s2 _ _ (Gr.noList_tEnc _) htd, by omega, ⟨f1, f2, f3, f4, f5⟩, f9, by omega, fun x H3 s3 hx => ?_⟩
  refine ⟨_, rfl, x, _, p.2, rfl, hx, Nat.le_trans f6.parts (by decide), f6.num, f7, f8, fun y H4 s4 hy => fin y H4 (s3.trans s4) ?_⟩
  rw [List.take_add_one, ep, List.map_append]
  exact (hR.sb (s3.trans s4) Lad.noList_enc).append (.cons hy .nil)
 ·rw [xl, List.take_length, <- Gr.rkT_ps] at hR
  refine ⟨D, us, Gr.rkT b ρ g, rfl, SqL.of hD2, hR, fun l hm => ?_, Nat.le_trans hfit.len (by decide), fun x H' s hx => q x H' (s2.trans s) hx⟩
  rw [Gr.rkT_ps] at hm
  obtain ⟨p, pm, rfl⟩ := List.mem_map.mp hm
  exact Nat.le_trans (Lad.tms_deep _ (hfit.at p pm).1.2.2.2.2.2.1.deep) (by decide)
abbrev N_reckoned_tree : List Str := ["book", "worths", "tree", "kind", "held"]
theorem sc_reckoned_tree : FnScope N_reckoned_tree ["book", "worths", "tree"] (defScope s_reckoned_tree) := ⟨rfl, rfl, rfl, by decide +kernel, rfl, by decide +kernel, by decide +kernel⟩
theorem ok_reckoned_tree {n : Nat} {C_Book : Addr} (B : BI mg) (G_laden : Got P w K mg base "laden" ["book", "kind", "own", "inner"] (5) (spLaden K C_Book)) (G_reckoned : Got P w K mg base "reckoned" ["book", "worths", "grove"] (2 * n + 5) (spReck K C_Book n)) (F : Fun K "reckoned_tree" "reckoned_tree" s_reckoned_tree f fd) : FnOk P w K mg base CX0 (2 * n + 6) f fd ["book", "worths", "tree"] (spReckT K C_Book n) := by
 refine F.ok sc_reckoned_tree (fun vs H Q E h => ?_) (fun cdv A outer s H vs Q E hr h => ?_)
 ·obtain ⟨v, t, d, b, ρ, ns, k, g, rfl, _⟩ := h
  rfl
 obtain ⟨v, t, d, b, ρ, ns, k, g, rfl, hv, hl, hw, ht, hgd, ⟨kn, kb, kne, fk, fg⟩, hfit, hp, q⟩ := h
 have hun2 := hunT hr
 refine ⟨_, pss_cons (ps_asg (pv 2) (pg_tup rfl (pgs_cons (pg_name (i := 3) sc_reckoned_tree.nd rfl (.inl rfl)) (pgs_cons (pg_name (i := 4) sc_reckoned_tree.nd rfl (.inl rfl)) pgs_nil))))
  (pss_one (ps_ret (pe_got G_laden (hr.mono (by omega)) rfl (pa_cons (pv 0) (pa_cons (pv 3) (pa_cons (pe_dget (by show A.units + 3 + 1 < cLine; omega) (pv 1) (pv 3) (fun _ _ => rfl)) (pa_cons (pe_got G_reckoned (hr.mono (by omega)) rfl (pa_cons (pv 0) (pa_cons (pv 1) (pa_cons (pv 4) pa_nil)))) pa_nil))))))), ?_⟩
 obtain ⟨a, u, rfl, hs, hga⟩ := TA_parts ht
 obtain ⟨ux, hux, hul⟩ := hw.val kn
 refine ⟨_, rfl, a, _, rfl, hs, rfl, _, _, rfl, _, _, rfl, rfl, ?_⟩
 refine ⟨_, rfl, _, rfl, _, rfl, _, rfl, d, ux, rfl, hux, ?_⟩
 refine ⟨_, rfl, _, rfl, _, rfl, v, u, d, b, ρ, ns, g, rfl, hv, hl, hw, hga, hgd, hfit, hp, fun x H1 s1 hx => ?_⟩
 exact ⟨v, ux, x, b, k, ρ k, Gr.rk b ρ g, rfl, hv.sb0 s1, hl, kb, ⟨hul.sb s1, kne, fk⟩, ⟨hx, fg⟩, fun y H2 s2 hy => q y H2 (s1.trans s2) hy⟩
abbrev N_laden : List Str := ["book", "kind", "own", "inner"]
theorem sc_laden : FnScope N_laden ["book", "kind", "own", "inner"] (defScope s_laden) := ⟨rfl, rfl, rfl, by decide +kernel, rfl, by decide +kernel, by decide +kernel⟩
theorem ok_laden {C_Book C_NoKind : Addr} (B : BI mg) (G_Book_spreads : GotMX P w K mg base C_Book "spreads" ["self", "name"] (4) (spBSpreads K C_Book C_NoKind)) (G_spread : Got P w K mg base "spread" ["one", "other"] (3) (spSpread K)) (G_behind : Got P w K mg base "behind" ["one", "other"] (2) (spBehind K)) (F : Fun K "laden" "laden" s_laden f fd) : FnOk P w K mg base CX0 (5) f fd ["book", "kind", "own", "inner"] (spLaden K C_Book) := by
 refine F.ok sc_laden (fun vs H Q E h => ?_) (fun cdv A outer s H vs Q E hr h => ?_)
 ·obtain ⟨v, u, t, b, n, o, l, rfl, _⟩ := h
  rfl
 obtain ⟨v, u, t, b, n, o, l, rfl, hv, hl, hn, ⟨hu, hne, fo⟩, ⟨ht, fl⟩, q⟩ := h
 have hun2 := hunT hr
 refine ⟨_, pss_cons (ps_if (pt_val (pe_gotMX G_Book_spreads (hr.mono (by omega)) (pv 0) (pa_cons (pv 1) pa_nil))) (pss_one (ps_ret (pe_got G_spread (hr.mono (by omega)) rfl (pa_cons (pv 2) (pa_cons (pv 3) pa_nil))))) pss_nil)
  (pss_one (ps_ret (pe_got G_behind (hr.mono (by omega)) rfl (pa_cons (pv 2) (pa_cons (pv 3) pa_nil))))), ?_⟩
 obtain ⟨va, vdx, vd1, vd2, rfl, hva⟩ := hv.at
 obtain ⟨kd, eg⟩ := Bk.get_of hn
 refine ⟨_, rfl, va, vdx, _, rfl, hva, rfl, _, rfl, ?_⟩
 refine ⟨_, b, n, rfl, hv, hl, fun k' e' H1 s1 => ?_, fun z => by rw [eg] at z; cases z⟩
 rw [eg] at e'
 cases e'
 refine ⟨_, rfl, ?_⟩
 have hwd : b.wide n = kd.w := Bk.wide_get eg
 cases hk : kd.w with
 | true =>
  refine iteT ⟨_, rfl, _, rfl, ?_⟩
  cases o with
  | nil => exact absurd rfl hne
  | cons e m r =>
  refine ⟨u, t, e, m, r, l, rfl, hu.sb s1, ht.sb s1, Nat.le_trans fo.deep (by decide), Nat.le_trans fl.deep (by decide), Nat.le_trans fo.parts (by decide), Nat.le_trans fl.parts (by decide), fun x H' s2 hx => q x H' (s1.trans s2) ?_⟩
  rw [hwd, hk]
  exact hx
 | false =>
  refine iteF ⟨_, rfl, _, rfl, ?_⟩
  refine ⟨u, t, o, l, rfl, hu.sb s1, ht.sb s1, Nat.le_trans fo.deep (by decide), Nat.le_trans fl.deep (by decide), Nat.le_trans fo.parts (by decide), Nat.le_trans fl.parts (by decide), fun x H' s2 hx => q x H' (s1.trans s2) ?_⟩
  rw [hwd, hk]
  exact hx
open TL (tl)
abbrev N_show_grove : List Str := ["grove", "tree", "many"]
theorem sc_show_grove : FnScope N_show_grove ["grove"] (defScope s_show_grove) := ⟨rfl, rfl, rfl, by decide +kernel, rfl, by decide +kernel, by decide +kernel⟩
theorem ok_show_grove {n : Nat} (B : BI mg) (G_show_pair : Got P w K mg base "show_pair" ["tree", "many"] (3 * n + 3) (spShowP K n)) (F : Fun K "show_grove" "show_grove" s_show_grove f fd) : FnOk P w K mg base CX0 (3 * n + 4) f fd ["grove"] (spShowG K (n + 1)) := by
 refine F.ok sc_show_grove (fun vs H Q E h => ?_) (fun cdv A outer s H vs Q E hr h => ?_)
 ·obtain ⟨v, g, rfl, _⟩ := h
  rfl
 obtain ⟨v, g, rfl, hv, hd, ho, hp, q⟩ := h
 have hun2 := hunT hr
 refine ⟨_, pss_cons (ps_if (pt_not (pt_truth (pv 0) (by intro _; rfl))) (pss_one (ps_ret pe_str)) pss_nil)
  (pss_one (ps_ret (pe_join pe_str (pe_lc (own := [("tree", 1), ("many", 2)]) (g := (gTup K 2 (gCons (gName 1) (gCons (gName 2) gNil)))) (tt := tYes) (te := (tCall (spShowP K n) [] E0 (tCons (tVar 1) (tCons (tVar 2) tNil)))) rfl sc_show_grove.nd (pi_tup (pv 0)) (blkOk_by (N := N_show_grove) (sc := defScope s_show_grove) (by decide +kernel)) (fun _ _ _ _ _ => (pg_tup rfl (pgs_cons (pg_name (i := 1) sc_show_grove.nd rfl (.inl rfl)) (pgs_cons (pg_name (i := 2) sc_show_grove.nd rfl (.inl rfl)) pgs_nil)))) (fun _ _ _ _ _ => pts_nil) (fun _ _ _ _ _ => (pe_got G_show_pair (hr.mono (by omega)) rfl (pa_cons (pv 1) (pa_cons (pv 2) pa_nil)))))))), ?_⟩
 obtain ⟨a, xs, rfl, hs, hb⟩ := GA_bears hv
 have xl := hb.length
 have oki := Gr.ok_iff.mp ho
 have lp := g.len_parts
 refine ⟨_, rfl, _, .inr (.inl ⟨xs, hs, rfl⟩), ?_⟩
 by_cases hg : g = .nil
 ·have x0 : xs = [] := by rw [hg] at xl; exact List.length_eq_zero_iff.mp xl
  subst x0
  refine iteT (q _ _ SB.refl ?_)
  rw [hg]; rfl
 have x1 : xs.isEmpty = false := by
  cases xs with
  | nil =>
   cases hh : g with
   | nil => exact absurd hh hg
   | cons k g m r => rw [hh] at xl; simp [Gr.ps] at xl
  | cons _ _ => rfl
 rw [x1]
 refine iteF ?_
 refine ⟨⟨_, rfl⟩, ?_⟩
 refine ⟨_, rfl, a, rfl, ⟨xs, hs⟩, fun D hD => ?_⟩
 refine lc_it (walk_tup (xs := xs)) (fun i H2 => SB [D] H H2 /\ ∃ zs : List Str, H2 D = some (.lst (zs.map V.str)) /\ zs.map tl = (g.ps.take i).map Gr.pText) ⟨SB.new hD _, [], upd_same, rfl⟩ (fun i H2 hi h2 => (h2.1.drop hD).sqT hs) (fun i x H2 H' hi h2 y => ?_) (fun H2 h2 => ?_)
 ·obtain ⟨s2, zs, hD2, hz2⟩ := h2
  obtain ⟨rfl, ex⟩ := y
  have s2' := s2.drop hD
  obtain ⟨p, ep, hpd⟩ := hb.get ex
  have pm := List.mem_of_getElem? ep
  obtain ⟨pn, po, p1, pB⟩ := oki.1 p pm
  have pd := g.mem_deep p pm
  have pp := g.mem_parts p pm
  obtain ⟨ad, td, ux, rfl, hs2, hs3, hga, hdt⟩ := PA_parts hpd
  refine ⟨ad, _, rfl, s2'.sqT hs2, rfl, _, _, rfl, _, _, rfl, rfl, rfl, ?_⟩
  refine ⟨_, rfl, _, rfl, _, p.1, p.2, rfl, Dp_sb s2' _ _ (Gr.noList_tEnc _) hdt, pn, by omega, po, by omega, p1, pB, fun z H3 s3 hz => ?_⟩
  have hD3 := s3.keep _ _ hD2 nmn
  have zl := congrArg List.length hz2
  rw [List.length_map, List.length_map, List.length_take] at zl
  refine ⟨_, hD3, by rw [List.length_map]; exact small1000 (by omega), ?_⟩
  have t9 := SB.set (ps := [D]) hD3 (by simp) (.lst (zs.map V.str ++ [.str z]))
  refine ⟨(s2.trans s3.nil).trans t9, zs ++ [z], by rw [upd_same, List.map_append]; rfl, ?_⟩
  rw [List.take_add_one, ep, List.map_append, List.map_append, hz2]
  show _ ++ [tl z] = _ ++ [Gr.pText p]
  rw [hz]
 ·obtain ⟨s2, zs, hD2, hz2⟩ := h2
  rw [xl, List.take_length] at hz2
  have zl := congrArg List.length hz2
  rw [List.length_map, List.length_map] at zl
  refine ⟨_, D, zs, rfl, rfl, .inl (SqL.of hD2), ?_, ?_⟩
  ·-- lengths
   have key : ∀ (zs : List Str) (ps : List (Tr × Int)), zs.map tl = ps.map Gr.pText -> (∀ p ∈ ps, NameOk p.1.1 /\ p.1.2.Ok (10 ^ 500) /\ 1 <= p.2 /\ p.2 < 10 ^ 500 /\ p.1.2.parts <= 1000) -> (zs.map (·.length)).sum <= 515 * ps.length + 513 * Gr.tot ps := by
    intro zs
    induction zs with
    | nil => intro ps h _; cases ps with
                           | nil => simp
                           | cons _ _ => simp at h
    | cons z r ih =>
     intro ps h hps
     cases ps with
     | nil => simp at h
     | cons p s =>
      rw [List.map_cons, List.map_cons] at h
      injection h with h1 h2
      have e := ih s h2 fun q hq => hps q (mcm _ hq)
      obtain ⟨a1, a2, a3, a4, a5⟩ := hps p (mcs ..)
      have pl := pText_len (t := p.1) (m := p.2) a1 a2 a5 a3 a4
      rw [List.map_cons, List.sum_cons, TL.len_tl, h1]
      show (Gr.pText (p.1, p.2)).length + _ <= 515 * (s.length + 1) + 513 * (1 + p.1.2.parts + Gr.tot s)
      omega
   have := key zs g.ps hz2 fun p hp' => by
    obtain ⟨b1, b2, b3, b4⟩ := oki.1 p hp'
    have := g.mem_parts p hp'
    exact ⟨b1, b2, b3, b4, by omega⟩
   rw [Gr.tot_ps] at this
   show _ + zs.length * 2 <= _
   omega
  ·refine q _ _ (s2.drop hD) ?_
   rw [TL.join_eq, TL.tl_join, hz2]
   unfold Gr.text
   rw [if_neg hg, Gr.body_join g hg]
   rfl
open TL (tl)
abbrev N_show_pair : List Str := ["tree", "many"]
theorem sc_show_pair : FnScope N_show_pair ["tree", "many"] (defScope s_show_pair) := ⟨rfl, rfl, rfl, by decide +kernel, rfl, by decide +kernel, by decide +kernel⟩
theorem ok_show_pair {n : Nat} (B : BI mg) (G_show_tree : Got P w K mg base "show_tree" ["tree"] (3 * n + 2) (spShowT K n)) (F : Fun K "show_pair" "show_pair" s_show_pair f fd) : FnOk P w K mg base CX0 (3 * n + 3) f fd ["tree", "many"] (spShowP K n) := by
 refine F.ok sc_show_pair (fun vs H Q E h => ?_) (fun cdv A outer s H vs Q E hr h => ?_)
 ·obtain ⟨v, t, m, rfl, _⟩ := h
  rfl
 obtain ⟨v, t, m, rfl, hv, hn, hd, ho, hp, m1, mB, q⟩ := h
 have hun2 := hunT hr
 refine ⟨_, pss_cons (ps_if (pt_cmpR op_eq (pv 1) pe_int (nomark _)) (pss_one (ps_ret (pe_got G_show_tree (hr.mono (by omega)) rfl (pa_cons (pv 0) pa_nil)))) pss_nil)
  (pss_one (ps_ret (pe_joined (.cons (pe_fmt (pv 1)) (.cons pe_str (.cons (pe_fmt (pe_got G_show_tree (hr.mono (by omega)) rfl (pa_cons (pv 0) pa_nil))) .nil)))))), ?_⟩
 refine ⟨_, rfl, rfl, _, rfl, ?_⟩
 have hl := held_len ho hp
 have nl : (tl t.1).length <= 8 := hn.2.1
 by_cases hm : m = 1
 ·subst hm
  rw [show decide (V.int 1 = V.int 1) = true from decide_eq_true rfl]
  refine iteT ⟨_, rfl, v, t, rfl, hv, hn, hd, ho, hp, fun z H1 s1 hz => q z H1 s1 ?_⟩
  rw [hz]; rfl
 ·rw [show decide (V.int m = V.int 1) = false from decide_eq_false (fun z => hm (by injection z))]
  refine iteF ?_
  have sl := str_len (by omega) mB
  refine ⟨_, rfl, .inr ⟨m, rfl, log_small (by omega) mB, ?_⟩⟩
  refine ⟨_, rfl, ?_, ?_⟩
  ·rw [TL.len_tl, TL.tl_append, List.length_append, <- TL.len_tl, <- TL.len_tl]; have := sizeLine_eq; show 0 + _ <= _; omega
  refine ⟨_, rfl, ?_, ?_⟩
  ·rw [TL.len_tl, TL.tl_append, TL.tl_append, List.length_append, List.length_append, <- TL.len_tl, <- TL.len_tl]; have := sizeLine_eq; show 0 + _ + 1 <= _; omega
  refine ⟨_, rfl, v, t, rfl, hv, hn, hd, ho, hp, fun z H1 s1 hz => ?_⟩
  have zl : z.length <= 513010 := by rw [TL.len_tl, hz, List.length_append]; omega
  refine .inl ⟨z, rfl, by have := sizeLine_eq; omega, ⟨_, rfl, ?_, q _ _ s1 ?_⟩⟩
  ·rw [TL.len_tl, TL.tl_append, TL.tl_append, TL.tl_append, List.length_append, List.length_append, List.length_append, <- TL.len_tl, <- TL.len_tl]; have := sizeLine_eq; show 0 + _ + 1 + _ <= _; rw [<- TL.len_tl]; omega
  ·rw [TL.tl_append, TL.tl_append, TL.tl_append, hz, num_tl (by omega)]
   unfold Gr.pText numT
   rw [if_neg hm]
   show [] ++ TL.numL m.toNat ++ [32] ++ (tl t.1 ++ t.2.held) = _
   simp
open TL (tl)
abbrev N_show_tree : List Str := ["tree", "kind", "held"]
theorem sc_show_tree : FnScope N_show_tree ["tree"] (defScope s_show_tree) := ⟨rfl, rfl, rfl, by decide +kernel, rfl, by decide +kernel, by decide +kernel⟩
theorem ok_show_tree {n : Nat} (B : BI mg) (G_show_grove : Got P w K mg base "show_grove" ["grove"] (3 * n + 1) (spShowG K n)) (F : Fun K "show_tree" "show_tree" s_show_tree f fd) : FnOk P w K mg base CX0 (3 * n + 2) f fd ["tree"] (spShowT K n) := by
 refine F.ok sc_show_tree (fun vs H Q E h => ?_) (fun cdv A outer s H vs Q E hr h => ?_)
 ·obtain ⟨v, t, rfl, _⟩ := h
  rfl
 obtain ⟨v, t, rfl, hv, hn, hd, ho, hp, q⟩ := h
 have hun2 := hunT hr
 refine ⟨_, pss_cons (ps_asg (pv 0) (pg_tup rfl (pgs_cons (pg_name (i := 1) sc_show_tree.nd rfl (.inl rfl)) (pgs_cons (pg_name (i := 2) sc_show_tree.nd rfl (.inl rfl)) pgs_nil))))
  (pss_cons (ps_if (pt_not (pt_truth (pv 2) (by intro _; rfl))) (pss_one (ps_ret (pv 1))) pss_nil)
  (pss_one (ps_ret (pe_op op_add_str (pe_op op_add_str (pe_op op_add_str (pv 1) pe_str) (pe_got G_show_grove (hr.mono (by omega)) rfl (pa_cons (pv 2) pa_nil))) pe_str)))), ?_⟩
 obtain ⟨a, u, rfl, hs, hga⟩ := TA_parts hv
 refine ⟨_, rfl, a, _, rfl, hs, rfl, _, _, rfl, _, _, rfl, rfl, ?_⟩
 obtain ⟨c, xs, rfl, hsc, hbc⟩ := GA_bears hga
 have xl := hbc.length
 refine ⟨_, rfl, _, .inr (.inl ⟨xs, hsc, rfl⟩), ?_⟩
 by_cases hg : t.2 = .nil
 ·have x0 : xs = [] := by rw [hg] at xl; exact List.length_eq_zero_iff.mp xl
  subst x0
  refine iteT ⟨_, rfl, q _ _ SB.refl ?_⟩
  rw [hg]; show tl t.1 = tl t.1 ++ []; rw [List.append_nil]
 ·have x1 : xs.isEmpty = false := by
   cases xs with
   | nil =>
    cases hh : t.2 with
    | nil => exact absurd hh hg
    | cons k g m r => rw [hh] at xl; simp [Gr.ps] at xl
   | cons _ _ => rfl
  rw [x1]
  refine iteF ?_
  have nl : (tl t.1).length <= 8 := hn.2.1
  have nl2 : t.1.length <= 8 := by rw [TL.len_tl]; exact nl
  have hl := held_len ho hp
  refine ⟨_, rfl, _, _, rfl, rfl, by have := sizeLine_eq; show t.1.length + 1 <= _; omega, ?_⟩
  refine ⟨_, rfl, _, t.2, rfl, hga, hd, ho, hp, fun z H1 s1 hz => ?_⟩
  have ez : tl z = t.2.body := by rw [hz]; unfold Gr.text; rw [if_neg hg]
  have hb := Gr.body_len (C := 500) (by decide) ho
  have zl : z.length <= 513000 := by rw [TL.len_tl, ez]; omega
  have e1 : (t.1 ++ (Str.ofString "{")).length = t.1.length + 1 := by rw [TL.len_tl, TL.tl_append, List.length_append, <- TL.len_tl]; rfl
  refine ⟨_, _, rfl, rfl, by have := sizeLine_eq; rw [e1]; omega, ?_⟩
  have e2 : (t.1 ++ (Str.ofString "{") ++ z).length = t.1.length + 1 + z.length := by rw [TL.len_tl, TL.tl_append, List.length_append, <- TL.len_tl, <- TL.len_tl, e1]
  refine ⟨_, _, rfl, rfl, by have := sizeLine_eq; rw [e2]; show _ + 1 <= _; omega, ?_⟩
  refine q _ _ s1 ?_
  rw [TL.tl_append, TL.tl_append, TL.tl_append, ez]
  unfold Gr.held
  rw [if_neg hg]
  show tl t.1 ++ [123] ++ t.2.body ++ [125] = _
  simp
abbrev N_table : List Str := ["book", "grove", "known", "rows"]
theorem sc_table : FnScope N_table ["book", "grove"] (defScope s_table) := ⟨rfl, rfl, rfl, by decide +kernel, rfl, by decide +kernel, by decide +kernel⟩
theorem ok_table {C_Book C_NoKind C_Endless : Addr} (B : BI mg) (G_check_kinds : GotX P w K mg base "check_kinds" ["book", "grove"] (72) (spCheckKX K C_Book C_NoKind)) (G_check_ends : GotX P w K mg base "check_ends" ["book", "grove"] (72) (spChkEX K C_Book C_NoKind C_Endless)) (F : Fun K "table" "table" s_table f fd) : FnOk P w K mg base (L2.CX P w) (73) f fd ["book", "grove"] (spTab42 K C_Book C_NoKind C_Endless) := by
 refine F.okX sc_table (fun vs H Q E h => ?_) (fun cdv A outer s H vs Q E hr h => ?_)
 ·obtain ⟨v, w, b, g, o, rfl, _⟩ := h
  rfl
 obtain ⟨v, w, b, g, o, rfl, hA, hd, q⟩ := h
 have hun2 := hunT hr
 refine ⟨_, pss_cons (ps_expr (pe_gotS G_check_kinds (hr.mono (by omega)) rfl (takes_of rfl rfl rfl rfl) (pa_cons (pv 0) (pa_cons (pv 1) pa_nil))))
  (pss_cons (ps_expr (pe_gotS G_check_ends (hr.mono (by omega)) rfl (takes_of rfl rfl rfl rfl) (pa_cons (pv 0) (pa_cons (pv 1) pa_nil))))
  pss_dead), ?_⟩
 have b8 := hA.ok.len
 obtain ⟨ns, hn, nl⟩ := hA.nm
 have hdp := hA.deep
 have hpt := hA.parts
 cases hd with
 | k lo => exact ⟨_, rfl, _, rfl, v, w, b, g, ns, rfl, hA.bk, hA.ga, by omega, by omega, by omega, hn, nl, fun h => (lo.not h).elim, fun n hn d H1 s1 nd hd1 => by rw [hn.one lo] at hd1; exact q d H1 s1 nd hd1⟩
 | e _ hnm lo =>
  refine ⟨_, rfl, _, rfl, v, w, b, g, ns, rfl, hA.bk, hA.ga, by omega, by omega, by omega, hn, nl, fun _ H1 s1 => ?_, fun n hn => (hn.not hnm).elim⟩
  exact ⟨_, rfl, _, rfl, v, w, b, g, rfl, hA.bk.sb0 s1, hA.ok, hA.ga.sb s1, by omega, by omega, hnm, fun h => (lo.notE h).elim, fun n hn d H2 s2 nd hd1 => by rw [hn.one lo] at hd1; exact q d H2 (s1.trans s2) (s1.dom _ nd) hd1⟩
 | f => exact q.elim
abbrev N_is_table : List Str := ["book", "grove", "thing", "known", "row"]
theorem sc_is_table : FnScope N_is_table ["book", "grove", "thing"] (defScope s_is_table) := ⟨rfl, rfl, rfl, by decide +kernel, rfl, by decide +kernel, by decide +kernel⟩
theorem ok_is_table {C_Book C_NoKind : Addr} (B : BI mg) (G_check_kinds : GotX P w K mg base "check_kinds" ["book", "grove"] (72) (spCheckKX K C_Book C_NoKind)) (F : Fun K "is_table" "is_table" s_is_table f fd) : FnOk P w K mg base (L2.CX P w) (73) f fd ["book", "grove", "thing"] (spIsT42 K C_Book C_NoKind) := by
 refine F.okX sc_is_table (fun vs H Q E h => ?_) (fun cdv A outer s H vs Q E hr h => ?_)
 ·obtain ⟨v, w, z, b, g, n, rfl, _⟩ := h
  rfl
 obtain ⟨v, w, z, b, g, n, rfl, hA, lo, q⟩ := h
 have hun2 := hunT hr
 refine ⟨_, pss_cons (ps_expr (pe_gotS G_check_kinds (hr.mono (by omega)) rfl (takes_of rfl rfl rfl rfl) (pa_cons (pv 0) (pa_cons (pv 1) pa_nil))))
  pss_dead, ?_⟩
 have b8 := hA.ok.len
 obtain ⟨ns, hn, nl⟩ := hA.nm
 have hdp := hA.deep
 have hpt := hA.parts
 exact ⟨_, rfl, _, rfl, v, w, b, g, ns, rfl, hA.bk, hA.ga, by omega, by omega, by omega, hn, nl, fun h => (lo.not h).elim, fun n hn d H1 s1 nd hd1 => by rw [hn.one lo] at hd1; exact q d H1 s1 nd hd1⟩
abbrev N_worth : List Str := ["book", "worths", "grove"]
theorem sc_worth : FnScope N_worth ["book", "worths", "grove"] (defScope s_worth) := ⟨rfl, rfl, rfl, by decide +kernel, rfl, by decide +kernel, by decide +kernel⟩
theorem ok_worth {C_Book C_NoKind : Addr} (B : BI mg) (G_check_kinds : GotX P w K mg base "check_kinds" ["book", "grove"] (72) (spCheckKX K C_Book C_NoKind)) (F : Fun K "worth" "worth" s_worth f fd) : FnOk P w K mg base (L2.CX P w) (73) f fd ["book", "worths", "grove"] (spWor42 K C_Book C_NoKind) := by
 refine F.okX sc_worth (fun vs H Q E h => ?_) (fun cdv A outer s H vs Q E hr h => ?_)
 ·obtain ⟨v, w, z, b, g, n, rfl, _⟩ := h
  rfl
 obtain ⟨v, w, z, b, g, n, rfl, hA, lo, q⟩ := h
 have hun2 := hunT hr
 refine ⟨_, pss_cons (ps_expr (pe_gotS G_check_kinds (hr.mono (by omega)) rfl (takes_of rfl rfl rfl rfl) (pa_cons (pv 0) (pa_cons (pv 2) pa_nil))))
  pss_dead, ?_⟩
 have b8 := hA.ok.len
 obtain ⟨ns, hn, nl⟩ := hA.nm
 have hdp := hA.deep
 have hpt := hA.parts
 exact ⟨_, rfl, _, rfl, v, w, b, g, ns, rfl, hA.bk, hA.ga, by omega, by omega, by omega, hn, nl, fun h => (lo.not h).elim, fun n hn d H1 s1 nd hd1 => by rw [hn.one lo] at hd1; exact q d H1 s1 nd hd1⟩
abbrev N_check_worths : List Str := ["book", "worths", "names", "name"]
theorem sc_check_worths : FnScope N_check_worths ["book", "worths"] (defScope s_check_worths) := ⟨rfl, rfl, rfl, by decide +kernel, rfl, by decide +kernel, by decide +kernel⟩
theorem ok_check_worths {C_NoWorths C_Book : Addr} (B : BI mg) (O_NoWorths : Own K mg "NoWorths" C_NoWorths) (G_Book_names : GotM P w K mg base C_Book "names" ["self"] (1) (spBNames K C_Book)) (G_is_ladder : Got P w K mg base "is_ladder" ["thing"] (43) (spLadder K [] 40)) (F : Fun K "check_worths" "check_worths" s_check_worths f fd) : FnOk P w K mg base (L2.CX P w) (50) f fd ["book", "worths"] (spChkW K C_Book) := by
 refine F.okX sc_check_worths (fun vs H Q E h => ?_) (fun cdv A outer s H vs Q E hr h => ?_)
 ·obtain ⟨v, d, b, ρ, ns, P0, rfl, _⟩ := h
  rfl
 obtain ⟨v, d, b, ρ, ns, P0, rfl, hv, ok, hrk, pm, wh, hP, q⟩ := h
 have hun2 := hunT hr
 refine ⟨_, pss_cons (ps_set (i := 2) sc_check_worths.nd rfl (.inl rfl) (pe_gotM0 G_Book_names (hr.mono (by omega)) (pv 0)))
  (pss_cons (ps_if (pt_cmpR op_ne (pe_callB call_lenD rfl B.len PySem.boot_len (pa_cons (pv 1) pa_nil)) (pe_callB call_len_seq rfl B.len PySem.boot_len (pa_cons (pv 2) pa_nil)) (nomark _)) (pss_one (ps_raise rfl (takes_of rfl rfl rfl rfl) (pmk_own PySem.F.excBase_ValueError O_NoWorths.q O_NoWorths.gC O_NoWorths.k (raises_own O_NoWorths.s O_NoWorths.t) rfl))) pss_nil)
  (pss_one (ps_for (passes_of rfl) rfl (pi_list (pv 2)) (pg_name (i := 3) sc_check_worths.nd rfl (.inl rfl))
   (pss_one (ps_if (PW.pt (pw_or (pt_cmp (pc_dnotin (by show A.units + 3 + 1 < cLine; omega) (pv 3) (pv 1))) (pw_or (pt_not (pt_val (pe_got G_is_ladder (hr.mono (by omega)) rfl (pa_cons (pe_dget (by show A.units + 3 + 1 < cLine; omega) (pv 1) (pv 3) (fun _ _ => rfl)) pa_nil)))) (pw_or1 (pt_not (pt_truth (pe_dget (by show A.units + 3 + 1 < cLine; omega) (pv 1) (pv 3) (fun _ _ => rfl)) (by intro _; rfl))))))) (pss_one (ps_raise rfl (takes_of rfl rfl rfl rfl) (pmk_own PySem.F.excBase_ValueError O_NoWorths.q O_NoWorths.gC O_NoWorths.k (raises_own O_NoWorths.s O_NoWorths.t) rfl))) pss_nil))))), ?_⟩
 have szl := sizeLine_eq
 have b8 := ok.len
 have nml : b.names.length = b.length := List.length_map ..
 obtain ⟨va, vdx, vd1, vd2, rfl, hva⟩ := hv.at
 refine ⟨_, rfl, va, vdx, _, rfl, hva, rfl, ?_⟩
 refine ⟨_, b, rfl, hv, by omega, fun nl H1 s1 nn hn => ?_⟩
 have hr1 := hrk.sb0 s1
 obtain ⟨us, hd1, hb1⟩ := hr1
 have ul : us.length = ns.length := by rw [hb1.length, List.length_map]
 have zl : (zk ns us).length = b.names.length := by rw [zk_len ul, pm.length_eq]
 have zl' : (List.zipWith (fun (n : Str) (u : V) => ((Sum.inr n : Key), u)) ns us).length = b.names.length := zl
 refine ⟨_, rfl, d, _, rfl, hd1, _, rfl, nl, _, rfl, .inl (SqL.of hn), ?_⟩
 rw [zl']
 refine ⟨rfl, ?_⟩
 rw [show (b.names.map V.str).length = b.names.length from List.length_map .., decide_eq_true rfl]
 refine ⟨_, rfl, iteF (nextI ?_)⟩
 refine ⟨_, rfl, nl, rfl, ⟨_, SqL.of hn⟩, ?_⟩
 refine for_it (walk_list (xs := b.names.map V.str)) (fun i σ H2 => SB [] H1 H2 /\ ∃ o3, σ = [some (.ref va), some (.ref d), some (.ref nl), o3]) ⟨SB.refl, none, rfl⟩ (fun i σ H2 hi h2 => h2.1.sqL nmn (SqL.of hn)) (fun i x σ Hq H2 hi h2 y => ?_) (fun σ H2 h2 => ?_)
 ·obtain ⟨s2, o3, rfl⟩ := h2
  obtain ⟨rfl, ey⟩ := y
  rw [List.getElem?_map] at ey
  obtain ⟨n, en, rfl⟩ := Option.map_eq_some_iff.mp ey
  have nm := List.mem_of_getElem? en
  obtain ⟨w1, w2, w3, w4⟩ := wh.each n nm
  have nns := pm.mem_iff.mpr nm
  have hrd : RkD K H1 d ρ ns := ⟨us, hd1, hb1⟩
  obtain ⟨u, hu, hul⟩ := (hrd.sb0 s2).val nns
  have dd := (ρ n).enc_depth
  have ww := Lad.enc_width (l := ρ n) (n := 1000) (by omega) (by decide)
  refine ⟨_, rfl, _, rfl, d, _, rfl, hu, _, rfl, iteF ?_⟩
  refine ⟨_, rfl, _, rfl, d, _, rfl, hu, u, (ρ n).enc, rfl, LA_th _ hul, by omega, by omega, ww, fun H3 s3 => ?_⟩
  rw [ladD_ok w4]
  obtain ⟨u3, hu3, hul3⟩ := ((hrd.sb0 s2).sb0 s3).val nns
  obtain ⟨a, ys, rfl, hsa, hba⟩ := LA_bears hul3
  have yl := hba.length
  have yne : ys.isEmpty = false := by
   cases ys with
   | nil =>
    have : (ρ n).ps.length = 0 := yl.symm
    cases hz : ρ n with
    | nil => exact absurd hz w1
    | cons e m r => rw [hz] at this; cases this
   | cons _ _ => rfl
  refine ⟨_, rfl, iteF ⟨_, rfl, _, rfl, d, _, rfl, hu3, _, .inr (.inl ⟨ys, hsa, rfl⟩), ?_⟩⟩
  rw [yne]
  refine iteF (nextI ?_)
  exact ⟨s2.trans s3, _, rfl⟩
 ·obtain ⟨s2, o3, rfl⟩ := h2
  exact q _ (s1.trans s2)
abbrev N__law_draws : List Str := ["_law_script", "_law_many_here", "_law_found", "_law_seed", "_law_great", "_law_turn", "_law_k", "_law_cell", "_law_left", "_law_one"]
theorem sc__law_draws : FnScope N__law_draws ["_law_script", "_law_many_here"] (defScope s__law_draws) := ⟨rfl, rfl, rfl, by decide +kernel, rfl, by decide +kernel, by decide +kernel⟩
theorem ok__law_draws (B : BI mg) (F : Fun K "_law_draws" "_law_draws" s__law_draws f fd) : FnOk P w K mg base CX0 (1) f fd ["_law_script", "_law_many_here"] (spDraws K) := by
 refine F.ok sc__law_draws (fun vs H Q E h => ?_) (fun cdv A outer s H vs Q E hr h => ?_)
 ·obtain ⟨a, ns, m, rfl, _⟩ := h
  rfl
 obtain ⟨a, ns, m, rfl, ha, hl, hm, q⟩ := h
 have hun2 := hunT hr
 refine ⟨_, pss_cons (ps_set (i := 2) sc__law_draws.nd rfl (.inl rfl) (pe_lst pa_nil))
  (pss_cons (ps_set (i := 3) sc__law_draws.nd rfl (.inl rfl) pe_int)
  (pss_cons (ps_set (i := 4) sc__law_draws.nd rfl (.inl rfl) pe_int)
  (pss_cons (ps_for PassesOwn.never rfl (pi_range1 rfl B.range (pa_cons pe_int pa_nil)) (pg_name (i := 5) sc__law_draws.nd rfl (.inl rfl))
   (pss_one (ps_set (i := 4) sc__law_draws.nd rfl (.inl rfl) (pe_op op_mulW (pv 4) (pe_op op_powW pe_int pe_int)))))
  (pss_cons (ps_for PassesOwn.never rfl (pi_enum rfl B.enumerate (pa_cons (pe_slice sl_list (pv 0) po_none (po_some pe_int)) pa_nil)) (pg_tup rfl (pgs_cons (pg_name (i := 6) sc__law_draws.nd rfl (.inl rfl)) (pgs_cons (pg_name (i := 7) sc__law_draws.nd rfl (.inl rfl)) pgs_nil)))
   (pss_cons (ps_set (i := 3) sc__law_draws.nd rfl (.inl rfl) (pe_op op_mod (pe_op op_add (pe_op op_add (pe_op op_mulW (pv 3) pe_int) (pe_op op_mod (pv 7) pe_int)) pe_int) pe_int))
  (pss_one (ps_if (PW.pt (pw_or (pt_cmpR op_ge (pv 7) (pe_op op_pow pe_int pe_int) (nomark _)) (pw_or1 (pt_cmpR op_lt (pv 7) pe_int (nomark _))))) (pss_cons (ps_set (i := 8) sc__law_draws.nd rfl (.inl rfl) (pe_op op_mod (pv 7) (pv 4)))
  (pss_one (ps_while PassesOwn.never (pt_cmpR op_gt (pv 8) pe_int (nomark _)) (pss_cons (ps_expr (pe_bm PySem.F.plainAttrs_list PySem.F.slot_list_append PySem.F.type_list_append mt_append (pv 2) (pa_cons (pe_op op_mod (pv 8) (pe_op op_pow pe_int pe_int)) pa_nil)))
  (pss_one (ps_set (i := 8) sc__law_draws.nd rfl (.inl rfl) (pe_op op_fdivW (pv 8) (pe_op op_pow pe_int pe_int)))))))) (pss_cons (ps_set (i := 9) sc__law_draws.nd rfl (.inl rfl) (pe_op op_mod (pe_op op_add (pe_op op_add (pe_op op_mulW (pv 7) pe_int) (pe_op op_mul (pe_op op_mul (pv 6) (pv 6)) pe_int)) pe_int) pe_int))
  (pss_one (ps_for PassesOwn.never rfl (pi_range1 rfl B.range (pa_cons pe_int pa_nil)) (pg_name (i := 5) sc__law_draws.nd rfl (.inl rfl))
   (pss_cons (ps_set (i := 9) sc__law_draws.nd rfl (.inl rfl) (pe_op op_mod (pe_op op_add (pe_op op_add (pe_op op_mulW (pv 9) (pv 9)) (pe_op op_mul pe_int (pv 5))) pe_int) pe_int))
  (pss_one (ps_expr (pe_bm PySem.F.plainAttrs_list PySem.F.slot_list_append PySem.F.type_list_append mt_append (pv 2) (pa_cons (pv 9) pa_nil))))))))))))
  (pss_cons (ps_while PassesOwn.never (pt_cmpR op_lt (pe_callB call_len_seq rfl B.len PySem.boot_len (pa_cons (pv 2) pa_nil)) (pv 1) (nomark _)) (pss_cons (ps_set (i := 3) sc__law_draws.nd rfl (.inl rfl) (pe_op op_mod (pe_op op_add (pe_op op_mulW (pv 3) pe_int) (pe_callB call_len_seq rfl B.len PySem.boot_len (pa_cons (pv 2) pa_nil))) pe_int))
  (pss_one (ps_expr (pe_bm PySem.F.plainAttrs_list PySem.F.slot_list_append PySem.F.type_list_append mt_append (pv 2) (pa_cons (pe_op op_mod (pe_op op_mulW (pv 3) (pv 3)) pe_int) pa_nil))))))
  (pss_one (ps_ret (pe_revL (pe_slice sl_list (pv 2) po_none (po_some (pv 1))))))))))), ?_⟩
 have szl := sizeLine_eq
 refine ⟨by show 0 <= sizeLine; decide, fun W nW => ?_⟩
 have t1 := SB.new (ps := []) nW (.lst [])
 have hW1 : upd H W (.lst []) W = some (.lst (([] : List Int).map V.int)) := upd_same
 have ha1 := t1.sqL nmn ha
 generalize upd H W (.lst []) = H1 at t1 hW1 ha1
 refine ⟨_, rfl, by decide, by decide, ?_⟩
 refine for_it walk_range (fun i σ H2 => H2 = H1 /\ ∃ (G : Int) (o5 : Option V), σ = [some (.ref a), some (.int (m : Int)), some (.ref W), some (.int 29), some (.int G), o5, none, none, none, none] /\ 1 <= G /\ G.natAbs < 2 ^ (200 * i + 1))
  ⟨rfl, 1, none, rfl, by decide, by decide⟩ (fun _ _ _ _ _ => trivial) (fun i x σ H8 H' hi h2 y => ?_) (fun σ H8 h2 => ?_)
 ·obtain ⟨rfl, G, o5, rfl, G1, G2⟩ := h2
  obtain ⟨rfl, rfl⟩ := y
  have e60 : (10 : Int) ^ (60 : Int).toNat = 1000000000000000000000000000000000000000000000000000000000000 := by decide +kernel
  have b60 : ((10 : Int) ^ (60 : Int).toNat).natAbs < 2 ^ 200 := by decide +kernel
  refine ⟨_, rfl, _, _, rfl, rfl, ⟨by decide, by decide, by decide +kernel⟩, _, _, rfl, rfl, wide_mul (a := 200 * i + 1) (b := 200) G2 b60 (by omega) (by decide) (by have : i < 9 := hi; omega), ?_⟩
  refine ⟨rfl, G * (10 : Int) ^ (60 : Int).toNat, _, rfl, by rw [e60]; omega, ?_⟩
  have := wide_lt G2 b60
  rw [show 200 * (i + 1) + 1 = 200 * i + 1 + 200 by omega]
  exact this
 obtain ⟨rfl, G, o5, rfl, G1, G2⟩ := h2
 have G3 : G.natAbs < 2 ^ 1801 := G2
 refine ⟨_, rfl, 63, rfl, a, _, rfl, ha1, fun l2 nl2 => ?_⟩
 obtain ⟨ms, em, hml⟩ := cutInts ns none (some 63)
 rw [em]
 have t2 := SB.new (ps := []) nl2 (.lst (ms.map V.int))
 have hl2 : upd H8 l2 (.lst (ms.map V.int)) l2 = some (.lst (ms.map V.int)) := upd_same
 have hW2 := t2.keep _ _ hW1 nmn
 have lW : l2 ≠ W := fun z => by rw [z, hW1] at nl2; cases nl2
 have s02 := t1.trans t2
 generalize upd H8 l2 (.lst (ms.map V.int)) = H2 at t2 hl2 hW2 s02
 refine ⟨l2, _, rfl, SqL.of hl2, ?_⟩
 refine for_it (walk_enum (K := K) (a := l2) (xs := ms.map V.int)) (fun i σ H3 => SB [W] H2 H3 /\ ∃ (sd : Int) (fs : List Int) (o5 o6 o7 o8 o9 : Option V), σ = [some (.ref a), some (.int (m : Int)), some (.ref W), some (.int sd), some (.int G), o5, o6, o7, o8, o9] /\ (0 <= sd /\ sd < 2147483647) /\ H3 W = some (.lst (fs.map V.int)) /\ (∀ x ∈ fs, 0 <= x /\ x < 2147483629) /\ fs.length <= 1900 * i)
  ⟨SB.refl, 29, [], _, _, _, _, _, rfl, ⟨by decide, by decide⟩, hW2, by simp, by simp⟩ (fun i σ H3 hi h3 => h3.1.sqL (by simpa using lW) (SqL.of hl2)) (fun i x σ H3 H' hi h3 y => ?_) (fun σ H3 h3 => ?_)
 ·obtain ⟨s3, sd, fs, o5, o6, o7, o8, o9, rfl, ⟨sd0, sdm⟩, hW3, fsb, fsl⟩ := h3
  obtain ⟨T, x1, y1, rfl, hT, rfl, ex, ey⟩ := y
  have ex : some (V.int (i : Nat)) = some x1 := ex
  cases ex
  have ey : (ms.map V.int)[i]? = some y1 := ey
  rw [List.getElem?_map] at ey
  rw [List.length_map] at hi
  obtain ⟨c, ec, rfl⟩ := Option.map_eq_some_iff.mp ey
  have t4 := SB.new (ps := []) hT (.tup [.int (i : Nat), .int c])
  have hW4 := t4.keep _ _ hW3 nmn
  have s4 := s3.trans (t4.nil (ps := [W]))
  have hT4 : upd H3 T (.tup [.int (i : Nat), .int c]) T = some (.tup [.int (i : Nat), .int c]) := upd_same
  generalize upd H3 T (.tup [.int (i : Nat), .int c]) = H4 at t4 hW4 s4 hT4
  refine ⟨T, _, rfl, SqT.of hT4, rfl, _, _, rfl, _, _, rfl, rfl, ?_⟩
  have sdb : sd.natAbs < 2 ^ 32 := by omega
  refine ⟨_, rfl, _, _, rfl, rfl, wide_mul (a := 32) (b := 32) sdb (by decide) (by decide) (by decide) (by decide), _, rfl, _, _, rfl, rfl, (by show (0 : Int) < 2147483629; decide), _, _, rfl, rfl, _, _, rfl, rfl, _, _, rfl, rfl, (by show (0 : Int) < 2147483647; decide), ?_⟩
  dsimp only
  have sd2 : 0 <= (sd * 48271 + c % 2147483629 + 1) % 2147483647 /\ (sd * 48271 + c % 2147483629 + 1) % 2147483647 < 2147483647 := by omega
  generalize (sd * 48271 + c % 2147483629 + 1) % 2147483647 = sd' at sd2
  have e9 : (10 : Int) ^ (9 : Int).toNat = 1000000000 := by decide +kernel
  refine far_or (i := 7) (c := c) rfl ?_
  by_cases hc : (1000000000000000000 : Int) <= c \/ c < 0
  ·rw [decide_eq_true hc]
   refine iteT ?_
   refine ⟨_, rfl, _, rfl, _, _, rfl, rfl, (by show (0 : Int) < G; omega), ?_⟩
   have hlf : (c % G).toNat < 2 ^ 1801 := by
    have h1 := Int.emod_lt_of_pos c (show 0 < G by omega)
    have h2 := Int.emod_nonneg c (show G ≠ 0 by omega)
    generalize (2 : Nat) ^ 1801 = X at G3 ⊢
    omega
   have elf : c % G = ((c % G).toNat : Int) := (Int.toNat_of_nonneg (Int.emod_nonneg c (show G ≠ 0 by omega))).symm
   dsimp only
   rw [elf]
   refine ⟨fun mm σ H5 => ∃ (lf : Nat) (fs' : List Int), σ = [some (.ref a), some (.int (m : Int)), some (.ref W), some (.int sd'), some (.int G), o5, some (.int (i : Int)), some (.int c), some (.int (lf : Int)), o9] /\ lf < 2 ^ mm /\ SB [W] H2 H5 /\ H5 W = some (.lst (fs'.map V.int)) /\ (∀ x ∈ fs', 0 <= x /\ x < 2147483629) /\ fs'.length + mm <= 1900 * i + 1801, ⟨1801, (c % G).toNat, fs, rfl, hlf, s4, hW4, fsb, by omega⟩, fun mm σ H5 hW => ?_⟩
   obtain ⟨lf, fs', rfl, hlf, s5, hW5, fsb', fsl'⟩ := hW
   refine ⟨_, rfl, _, _, rfl, rfl, _, rfl, ?_⟩
   have hi' : i < 64 := by omega
   by_cases h0 : 0 < lf
   ·rw [decide_eq_true (show (0 : Int) < (lf : Int) by omega)]
    refine iteT ⟨_, fun σ' H' h => h, ?_⟩
    refine ⟨_, rfl, .inl ⟨rfl, _, SqL.of hW5⟩, _, rfl, _, _, rfl, rfl, ⟨by decide, by decide, by decide⟩, _, _, rfl, rfl, (by rw [e9]; show (0 : Int) < 1000000000; decide), ?_⟩
    dsimp only
    rw [e9]
    refine ⟨W, _, _, rfl, rfl, hW5, by rw [List.length_map]; omega, ?_⟩
    have e1 : fs'.map V.int ++ [V.int ((lf : Int) % 1000000000)] = (fs' ++ [(lf : Int) % 1000000000]).map V.int := by rw [List.map_append]; rfl
    rw [e1]
    have s6 := SB.set (ps := [W]) hW5 (by simp) (.lst ((fs' ++ [(lf : Int) % 1000000000]).map V.int))
    refine ⟨_, rfl, _, _, rfl, rfl, ⟨by decide, by decide, by decide⟩, _, _, rfl, rfl, (by rw [e9]; exact ⟨by decide, by decide +kernel⟩), ?_⟩
    dsimp only
    rw [e9]
    cases mm with
    | zero => simp at hlf; omega
    | succ mm =>
     refine ⟨mm, by omega, lf / 1000000000, fs' ++ [(lf : Int) % 1000000000], ?_, ?_, s5.trans s6, upd_same, fun x hx => ?_, by rw [List.length_append, List.length_singleton]; omega⟩
     ·have : (lf : Int) / 1000000000 = ((lf / 1000000000 : Nat) : Int) := by omega
      rw [this]; rfl
     ·rw [Nat.pow_succ] at hlf
      generalize (2 : Nat) ^ mm = X at hlf ⊢
      omega
     ·rcases List.mem_append.mp hx with hx | hx
      ·exact fsb' x hx
      ·rw [List.mem_singleton.mp hx]; omega
   ·rw [decide_eq_false (show ¬ (0 : Int) < (lf : Int) by omega)]
    refine iteF ?_
    exact ⟨s5, sd', fs', _, _, _, _, _, rfl, sd2, hW5, fsb', by omega⟩
  ·rw [decide_eq_false hc]
   refine iteF ?_
   have hi' : i < 64 := by omega
   refine ⟨_, rfl, _, _, rfl, rfl, wide_mul (a := 60) (b := 32) (by omega) (by decide) (by decide) (by decide) (by decide), _, rfl, _, rfl, _, _, rfl, rfl, .inl ⟨by omega, by omega⟩, _, _, rfl, rfl, .inr ⟨by decide, by decide⟩, _, _, rfl, rfl, _, _, rfl, rfl, _, _, rfl, rfl, (by show (0 : Int) < 2147483647; decide), ?_⟩
   dsimp only
   have hon : 0 <= (c * 69621 + (i : Int) * (i : Int) * 16807 + 7) % 2147483647 /\ (c * 69621 + (i : Int) * (i : Int) * 16807 + 7) % 2147483647 < 2147483647 := ⟨Int.emod_nonneg _ (by decide), Int.emod_lt_of_pos _ (by decide)⟩
   generalize (c * 69621 + (i : Int) * (i : Int) * 16807 + 7) % 2147483647 = on0 at hon
   refine ⟨_, rfl, by decide, by decide, ?_⟩
   refine for_it walk_range (fun j σ H5 => SB [W] H2 H5 /\ ∃ (on : Int) (fs' : List Int) (o5 : Option V), σ = [some (.ref a), some (.int (m : Int)), some (.ref W), some (.int sd'), some (.int G), o5, some (.int (i : Int)), some (.int c), o8, some (.int on)] /\ (0 <= on /\ on < 2147483647) /\ H5 W = some (.lst (fs'.map V.int)) /\ (∀ x ∈ fs', 0 <= x /\ x < 2147483629) /\ fs'.length <= 1900 * i + j)
    ⟨s4, on0, fs, _, rfl, hon, hW4, fsb, by omega⟩ (fun _ _ _ _ _ => trivial) (fun j x σ H5 H' hj h5 y => ?_) (fun σ H5 h5 => ?_)
   ·obtain ⟨s5, on, fs', o5', rfl, ⟨on0', onm⟩, hW5, fsb', fsl'⟩ := h5
    obtain ⟨rfl, rfl⟩ := y
    have hj : j < 4 := hj
    have onb : on.natAbs < 2 ^ 32 := by omega
    refine ⟨_, rfl, _, rfl, _, _, rfl, rfl, wide_mul (a := 32) (b := 32) onb onb (by decide) (by decide) (by decide), _, rfl, _, _, rfl, rfl, .inl ⟨by decide, by decide⟩, _, _, rfl, rfl, _, _, rfl, rfl, _, _, rfl, rfl, (by show (0 : Int) < 2147483629; decide), ?_⟩
    dsimp only
    have hon2 : 0 <= (on * on + 40692 * (0 + (j : Int)) + 3) % 2147483629 /\ (on * on + 40692 * (0 + (j : Int)) + 3) % 2147483629 < 2147483629 := ⟨Int.emod_nonneg _ (by decide), Int.emod_lt_of_pos _ (by decide)⟩
    generalize (on * on + 40692 * (0 + (j : Int)) + 3) % 2147483629 = on2 at hon2
    refine ⟨_, rfl, .inl ⟨rfl, _, SqL.of hW5⟩, _, rfl, W, _, _, rfl, rfl, hW5, by rw [List.length_map]; omega, ?_⟩
    have e1 : fs'.map V.int ++ [V.int on2] = (fs' ++ [on2]).map V.int := by rw [List.map_append]; rfl
    rw [e1]
    refine ⟨s5.trans (SB.set (ps := [W]) hW5 (by simp) _), on2, fs' ++ [on2], _, rfl, ⟨hon2.1, by omega⟩, upd_same, fun x hx => ?_, by rw [List.length_append, List.length_singleton]; omega⟩
    rcases List.mem_append.mp hx with hx | hx
    ·exact fsb' x hx
    ·rw [List.mem_singleton.mp hx]; exact hon2
   ·obtain ⟨s5, on, fs', o5', rfl, _, hW5, fsb', fsl'⟩ := h5
    have e4 : ((4 : Int)).toNat = 4 := rfl
    rw [e4] at fsl'
    exact ⟨s5, sd', fs', _, _, _, _, _, rfl, sd2, hW5, fsb', by omega⟩
 ·obtain ⟨s3, sd, fs, o5, o6, o7, o8, o9, rfl, sdb, hW3, fsb, fsl⟩ := h3
  rw [List.length_map] at fsl
  have s03 : SB [W] H H3 := s02.nil.trans s3
  refine ⟨fun mm σ H5 => ∃ (sd : Int) (fs : List Int) (o5 o6 o7 o8 o9 : Option V), mm = m - fs.length /\ σ = [some (.ref a), some (.int (m : Int)), some (.ref W), some (.int sd), some (.int G), o5, o6, o7, o8, o9] /\ (0 <= sd /\ sd < 2147483647) /\ SB [W] H H5 /\ H5 W = some (.lst (fs.map V.int)) /\ (∀ x ∈ fs, 0 <= x /\ x < 2147483629) /\ fs.length <= 130000,
   ⟨_, sd, fs, _, _, _, _, _, rfl, rfl, sdb, s03, hW3, fsb, by omega⟩, fun mm σ H5 hW => ?_⟩
  obtain ⟨sd, fs, o5, o6, o7, o8, o9, rfl, rfl, ⟨sd0, sdm⟩, s5, hW5, fsb, fsl⟩ := hW
  refine ⟨_, rfl, W, _, rfl, .inl (SqL.of hW5), _, rfl, _, _, rfl, rfl, _, rfl, ?_⟩
  rw [List.length_map]
  by_cases hlt : fs.length < m
  ·rw [decide_eq_true (show (fs.length : Int) < (m : Int) by omega)]
   refine iteT ⟨_, fun σ' H' h => h, ?_⟩
   have sdb : sd.natAbs < 2 ^ 32 := by omega
   refine ⟨_, rfl, _, _, rfl, rfl, wide_mul (a := 32) (b := 32) sdb (by decide) (by decide) (by decide) (by decide), _, rfl, W, _, rfl, .inl (SqL.of hW5), _, _, rfl, rfl, _, _, rfl, rfl, (by show (0 : Int) < 2147483647; decide), ?_⟩
   rw [List.length_map]
   have sd2 : 0 <= (sd * 48271 + (fs.length : Int)) % 2147483647 /\ (sd * 48271 + (fs.length : Int)) % 2147483647 < 2147483647 := ⟨Int.emod_nonneg _ (by decide), Int.emod_lt_of_pos _ (by decide)⟩
   dsimp only
   generalize (sd * 48271 + (fs.length : Int)) % 2147483647 = sd' at sd2
   have sdb' : sd'.natAbs < 2 ^ 32 := by omega
   refine ⟨_, rfl, .inl ⟨rfl, _, SqL.of hW5⟩, _, rfl, _, rfl, _, _, rfl, rfl, wide_mul (a := 32) (b := 32) sdb' sdb' (by decide) (by decide) (by decide), _, _, rfl, rfl, (by show (0 : Int) < 2147483629; decide), W, _, _, rfl, rfl, hW5, by rw [List.length_map]; omega, ?_⟩
   have hn : 0 <= sd' * sd' % 2147483629 /\ sd' * sd' % 2147483629 < 2147483629 := ⟨Int.emod_nonneg _ (by decide), Int.emod_lt_of_pos _ (by decide)⟩
   dsimp only
   generalize sd' * sd' % 2147483629 = nw at hn
   have e1 : fs.map V.int ++ [V.int nw] = (fs ++ [nw]).map V.int := by rw [List.map_append]; rfl
   rw [e1]
   refine ⟨m - (fs ++ [nw]).length, by rw [List.length_append, List.length_singleton]; omega, sd', fs ++ [nw], _, _, _, _, _, rfl, rfl, sd2, s5.trans (SB.set (ps := [W]) hW5 (by simp) _), upd_same, fun x hx => ?_, by rw [List.length_append, List.length_singleton]; omega⟩
   rcases List.mem_append.mp hx with hx | hx
   ·exact fsb x hx
   ·rw [List.mem_singleton.mp hx]; exact hn
  ·rw [decide_eq_false (show ¬ (fs.length : Int) < (m : Int) by omega)]
   refine iteF ?_
   refine ⟨_, rfl, _, rfl, _, rfl, W, _, rfl, SqL.of hW5, fun l3 nl3 => ?_⟩
   rw [cutTake, <- List.map_take]
   have t6 := SB.new (ps := []) nl3 (.lst ((fs.take m).map V.int))
   have hl3 : upd H5 l3 (.lst ((fs.take m).map V.int)) l3 = some (.lst ((fs.take m).map V.int)) := upd_same
   generalize upd H5 l3 (.lst ((fs.take m).map V.int)) = H6 at t6 hl3
   refine ⟨l3, _, rfl, SqL.of hl3, fun l4 nl4 => ?_⟩
   rw [<- List.map_reverse]
   have t7 := SB.new (ps := []) nl4 (.lst ((fs.take m).reverse.map V.int))
   have sW : SB [] H H5 := s5.drop nW
   refine q l4 _ ((sW.trans t6).trans t7) (sW.dom _ (t6.dom _ nl4)) ⟨(fs.take m).reverse, upd_same, fun x hx => fsb x (List.mem_of_mem_take (List.mem_reverse.mp hx)), ?_⟩
   rw [List.length_reverse, List.length_take]
   omega
abbrev N__law_next : List Str := ["_law_draws_here"]
theorem sc__law_next : FnScope N__law_next ["_law_draws_here"] (defScope s__law_next) := ⟨rfl, rfl, rfl, by decide +kernel, rfl, by decide +kernel, by decide +kernel⟩
theorem ok__law_next (B : BI mg) (F : Fun K "_law_next" "_law_next" s__law_next f fd) : FnOk P w K mg base CX0 (1) f fd ["_law_draws_here"] (spNext) := by
 refine F.ok sc__law_next (fun vs H Q E h => ?_) (fun cdv A outer s H vs Q E hr h => ?_)
 ·obtain ⟨p, rfl, _⟩ := h
  rfl
 obtain ⟨p, rfl, hp, q⟩ := h
 have hun2 := hunT hr
 refine ⟨_, pss_cons (ps_if (pt_cmpR op_gt (pe_callB call_len_seq rfl B.len PySem.boot_len (pa_cons (pv 0) pa_nil)) pe_int (nomark _)) (pss_one (ps_ret (pe_bm0 PySem.F.plainAttrs_list PySem.F.slot_list_pop PySem.F.type_list_pop mt_pop (pv 0)))) pss_nil)
  (pss_one (ps_ret pe_int)), ?_⟩
 obtain ⟨ns, hp1, hb, hl⟩ := hp
 refine ⟨_, rfl, p, _, rfl, .inl (SqL.of hp1), _, _, rfl, rfl, _, rfl, ?_⟩
 rcases List.eq_nil_or_concat ns with he | ⟨js, x, he⟩
 ·subst he
  refine iteF ?_
  exact q 0 H (by decide) (by decide) SB.refl ⟨[], hp1, by simp, by simp⟩
 ·rw [List.concat_eq_append] at he
  subst he
  rw [show decide (((0 : Int)) < (((js ++ [x]).map V.int).length : Int)) = true from decide_eq_true (by rw [List.length_map, List.length_append, List.length_singleton]; omega)]
  refine iteT ?_
  have e1 : (js ++ [x]).map V.int = js.map V.int ++ [V.int x] := by rw [List.map_append]; rfl
  rw [e1] at hp1
  have hx := hb x (by simp)
  refine ⟨_, rfl, .inl ⟨rfl, _, SqL.of hp1⟩, p, _, _, rfl, rfl, hp1, (by simp : (js.map V.int ++ [V.int x])[(js.map V.int ++ [V.int x]).length - 1]? = some (V.int x)), ?_⟩
  have edl : (js.map V.int ++ [V.int x]).dropLast = js.map V.int := by simp
  rw [edl]
  exact q x _ hx.1 hx.2 (SB.set hp1 (by simp) _) ⟨js, upd_same, fun y hy => hb y (mal _ hy), by rw [List.length_append] at hl; omega⟩
abbrev N__law_names : List Str := ["_law_draws_here", "_law_many_here", "_law_letters", "_law_head", "_law_start", "_law_names_here", "_law_k", "_law_long", "_law_place", "_law_fill", "_law_sign"]
theorem sc__law_names : FnScope N__law_names ["_law_draws_here", "_law_many_here"] (defScope s__law_names) := ⟨rfl, rfl, rfl, by decide +kernel, rfl, by decide +kernel, by decide +kernel⟩
theorem ok__law_names (B : BI mg) (G__law_next : Got P w K mg base "_law_next" ["_law_draws_here"] (1) (spNext)) (F : Fun K "_law_names" "_law_names" s__law_names f fd) : FnOk P w K mg base CX0 (2) f fd ["_law_draws_here", "_law_many_here"] (spNamesN K) := by
 refine F.ok sc__law_names (fun vs H Q E h => ?_) (fun cdv A outer s H vs Q E hr h => ?_)
 ·obtain ⟨p, m, rfl, _⟩ := h
  rfl
 obtain ⟨p, m, rfl, hp, m8, q⟩ := h
 have hun2 := hunT hr
 refine ⟨_, pss_cons (ps_set (i := 2) sc__law_names.nd rfl (.inl rfl) pe_str)
  (pss_cons (ps_set (i := 3) sc__law_names.nd rfl (.inl rfl) (pe_got G__law_next (hr.mono (by omega)) rfl (pa_cons (pv 0) pa_nil)))
  (pss_cons (ps_set (i := 4) sc__law_names.nd rfl (.inl rfl) (pe_op op_mod (pe_op op_fdivW (pv 3) pe_int) pe_int))
  (pss_cons (ps_set (i := 5) sc__law_names.nd rfl (.inl rfl) (pe_lst pa_nil))
  (pss_cons (ps_for PassesOwn.never rfl (pi_range1 rfl B.range (pa_cons (pv 1) pa_nil)) (pg_name (i := 6) sc__law_names.nd rfl (.inl rfl))
   (pss_one (ps_if (pt_cmpR op_eq (pe_op op_mod (pv 3) pe_int) pe_int (nomark _)) (pss_one (ps_expr (pe_bm PySem.F.plainAttrs_list PySem.F.slot_list_append PySem.F.type_list_append mt_append (pv 5) (pa_cons (pe_op op_mulS (pe_ix ix_str (pv 2) (pv 4) (fun _ _ => rfl)) (pe_op op_add pe_int (pe_op op_mod (pe_op op_add (pe_op op_mul pe_int (pv 6)) (pe_op op_fdivW (pv 3) pe_int)) pe_int))) pa_nil)))) (pss_cons (ps_set (i := 7) sc__law_names.nd rfl (.inl rfl) (pe_op op_add pe_int (pe_op op_mod (pe_op op_fdivW (pv 3) pe_int) pe_int)))
  (pss_cons (ps_set (i := 8) sc__law_names.nd rfl (.inl rfl) (pe_op op_mod (pe_op op_fdivW (pv 3) pe_int) (pv 7)))
  (pss_cons (ps_set (i := 9) sc__law_names.nd rfl (.inl rfl) (pe_ix ix_str (pv 2) (pe_op op_mod (pe_op op_fdivW (pv 3) pe_int) pe_int) (fun _ _ => rfl)))
  (pss_cons (ps_set (i := 10) sc__law_names.nd rfl (.inl rfl) (pe_ix ix_str (pv 2) (pe_op op_mod (pe_op op_add (pv 4) (pe_op op_mul (pv 6) (pe_op op_add pe_int (pe_op op_mul pe_int (pe_op op_mod (pe_op op_fdivW (pv 3) pe_int) pe_int))))) pe_int) (fun _ _ => rfl)))
  (pss_one (ps_expr (pe_bm PySem.F.plainAttrs_list PySem.F.slot_list_append PySem.F.type_list_append mt_append (pv 5) (pa_cons (pe_op op_add_str (pe_op op_add_str (pe_op op_mulS (pv 9) (pv 8)) (pv 10)) (pe_op op_mulS (pv 9) (pe_op op_sub (pe_op op_sub (pv 7) (pv 8)) pe_int))) pa_nil)))))))))))
  (pss_one (ps_ret (pv 5))))))), ?_⟩
 have szl := sizeLine_eq
 refine nameI (seqI (asgI ?_))
 refine ⟨_, rfl, p, rfl, hp, fun h0 H1 h00 h0m s1 hp1 => ?_⟩
 obtain ⟨hd, rfl⟩ : ∃ u : Nat, h0 = (u : Int) := ⟨h0.toNat, by omega⟩
 refine ⟨_, rfl, _, _, rfl, rfl, ⟨by decide, by decide +kernel⟩, _, _, rfl, rfl, (by show (0 : Int) < 26; decide), ?_⟩
 dsimp only
 obtain ⟨st, est, st26⟩ : ∃ u : Nat, (hd : Int) / 48 % 26 = (u : Int) /\ u < 26 := ⟨hd / 48 % 26, by omega, by omega⟩
 rw [est]
 refine ⟨by show 0 <= sizeLine; decide, fun W nW => ?_⟩
 have t2 := SB.new (ps := []) nW (.lst [])
 have hW2 : upd H1 W (.lst []) W = some (.lst []) := upd_same
 have hp2 := hp1.sb t2
 have s02 := s1.trans (t2.nil (ps := [p]))
 have nW0 := s1.dom _ nW
 have pW := hp1.ne nW
 generalize upd H1 W (.lst []) = H2 at t2 hW2 hp2 s02
 refine ⟨_, rfl, _, rfl, by omega, by omega, ?_⟩
 rw [Int.toNat_natCast]
 let long : Nat := 1 + hd / 1248 % 8
 let place : Nat := hd / 9984 % long
 let fc : Nat := 97 + hd / 79872 % 26
 let s2 : Nat := 1 + 2 * (hd / 8 % 6)
 let wA : Nat -> Str := fun i => Txt.mul ⟨#[97 + st]⟩ ((1 + (3 * i + hd / 4) % 8 : Nat) : Int)
 let wB : Nat -> Str := fun i => Txt.mul ⟨#[fc]⟩ (place : Int) ++ ⟨#[97 + (st + i * s2) % 26]⟩ ++ Txt.mul ⟨#[fc]⟩ ((long - place - 1 : Nat) : Int)
 let wd : Nat -> Str := fun i => if hd % 4 = 0 then wA i else wB i
 have long8 : 1 <= long /\ long <= 8 := by show 1 <= 1 + hd / 1248 % 8 /\ 1 + hd / 1248 % 8 <= 8; omega
 have place8 : place < long := Nat.mod_lt _ (by omega)
 have fcl : 97 <= fc /\ fc <= 122 := by show 97 <= 97 + hd / 79872 % 26 /\ 97 + hd / 79872 % 26 <= 122; omega
 have lA : ∀ i, Ltr (wA i) (1 + (3 * i + hd / 4) % 8) := fun i => Ltr.mul _ (by omega)
 have lP : Ltr (Txt.mul ⟨#[fc]⟩ (place : Int)) place := Ltr.mul _ fcl
 have lQ : Ltr (Txt.mul ⟨#[fc]⟩ ((long - place - 1 : Nat) : Int)) (long - place - 1) := Ltr.mul _ fcl
 have lB : ∀ i, Ltr (wB i) (place + 1 + (long - place - 1)) := fun i => (lP.append (Ltr.one (by omega))).append lQ
 refine for_it walk_range (fun i σ H8 => SB [W] H2 H8 /\ ∃ o6 o7 o8 o9 o10 : Option V, σ = [some (.ref p), some (.int (m : Int)), some (.str abc), some (.int (hd : Int)), some (.int (st : Int)), some (.ref W), o6, o7, o8, o9, o10] /\ H8 W = some (.lst (((List.range i).map wd).map V.str)))
  ⟨SB.refl, none, none, none, none, none, rfl, hW2⟩ (fun _ _ _ _ _ => trivial) (fun i x σ H8 H' hi h2 y => ?_) (fun σ H8 h2 => ?_)
 ·obtain ⟨s8, o6, o7, o8, o9, o10, rfl, hW8⟩ := h2
  obtain ⟨rfl, rfl⟩ := y
  refine ⟨_, rfl, _, _, rfl, rfl, (by show (0 : Int) < 4; decide), rfl, _, rfl, ?_⟩
  have fin : ∀ (z : Str) (o6 o7 o8 o9 o10 : Option V), z = wd i -> SB [W] H2 (upd H' W (.lst (((List.range i).map wd).map V.str ++ [V.str z]))) /\ ∃ o6' o7' o8' o9' o10' : Option V, [some (V.ref p), some (.int (m : Int)), some (.str abc), some (.int (hd : Int)), some (.int (st : Int)), some (.ref W), o6, o7, o8, o9, o10] = [some (.ref p), some (.int (m : Int)), some (.str abc), some (.int (hd : Int)), some (.int (st : Int)), some (.ref W), o6', o7', o8', o9', o10'] /\ upd H' W (.lst (((List.range i).map wd).map V.str ++ [V.str z])) W = some (.lst (((List.range (i + 1)).map wd).map V.str)) := fun z o6 o7 o8 o9 o10 e => by
   refine ⟨s8.trans (SB.set hW8 (by simp) _), _, _, _, _, _, rfl, ?_⟩
   rw [upd_same, List.range_succ, List.map_append, List.map_append, e]
   rfl
  by_cases h4 : hd % 4 = 0
  ·rw [show decide (V.int ((hd : Int) % 4) = V.int 0) = true from decide_eq_true (congrArg V.int (by omega))]
   refine iteT ?_
   have e1 : (1 : Int) + (3 * (0 + (i : Int)) + (hd : Int) / 4) % 8 = ((1 + (3 * i + hd / 4) % 8 : Nat) : Int) := by omega
   refine ⟨_, rfl, .inl ⟨rfl, _, SqL.of hW8⟩, _, rfl, _, rfl, abc, _, 97 + st, rfl, rfl, abc_len, atI_natN (abc_code _ st26), _, rfl, _, _, rfl, rfl, .inl ⟨by decide, by decide⟩, _, rfl, _, _, rfl, rfl, ⟨by decide, by decide +kernel⟩, _, _, rfl, rfl, _, _, rfl, rfl, (by show (0 : Int) < 8; decide), _, _, rfl, rfl, ?_⟩
   refine ⟨⟨#[97 + st]⟩, 1 + (3 * i + hd / 4) % 8, rfl, congrArg V.int e1, by omega, by show 1 <= 1000; decide, ?_⟩
   refine ⟨W, _, _, rfl, rfl, hW8, by rw [List.length_map, List.length_map, List.length_range]; omega, ?_⟩
   exact fin _ _ _ _ _ _ (show wA i = wd i by show _ = if hd % 4 = 0 then wA i else wB i; rw [if_pos h4])
  ·rw [show decide (V.int ((hd : Int) % 4) = V.int 0) = false from decide_eq_false (fun z => h4 (by injection z with z; omega))]
   refine iteF ?_
   have e1 : (1 : Int) + (hd : Int) / 1248 % 8 = (long : Int) := by show _ = ((1 + hd / 1248 % 8 : Nat) : Int); omega
   refine ⟨_, rfl, _, _, rfl, rfl, ⟨by decide, by decide +kernel⟩, _, _, rfl, rfl, (by show (0 : Int) < 8; decide), _, _, rfl, rfl, ?_⟩
   dsimp only
   rw [e1]
   have e2 : (hd : Int) / 9984 % (long : Int) = (place : Int) := by show _ = ((hd / 9984 % long : Nat) : Int); push_cast; rfl
   refine ⟨_, rfl, _, _, rfl, rfl, ⟨by decide, by decide +kernel⟩, _, rfl, _, _, rfl, rfl, (by show (0 : Int) < (long : Int); omega), ?_⟩
   dsimp only
   rw [e2]
   have e3 : (hd : Int) / 79872 % 26 = ((hd / 79872 % 26 : Nat) : Int) := by omega
   refine ⟨_, rfl, _, rfl, _, _, rfl, rfl, ⟨by decide, by decide +kernel⟩, _, _, rfl, rfl, (by show (0 : Int) < 26; decide), abc, _, fc, rfl, rfl, abc_len, ?_, ?_⟩
   ·show atI abc.cps.toList ((hd : Int) / 79872 % 26) = _
    rw [e3]
    exact atI_natN (abc_code _ (by omega))
   have e4 : ((st : Int) + (0 + (i : Int)) * (1 + 2 * ((hd : Int) / 8 % 6))) % 26 = (((st + i * s2) % 26 : Nat) : Int) := by
    have : (1 + 2 * ((hd : Int) / 8 % 6)) = (s2 : Int) := by show _ = ((1 + 2 * (hd / 8 % 6) : Nat) : Int); omega
    rw [this, Int.zero_add]; push_cast; rfl
   refine ⟨_, rfl, _, rfl, _, rfl, _, rfl, _, _, rfl, rfl, ⟨by decide, by decide +kernel⟩, _, _, rfl, rfl, (by show (0 : Int) < 6; decide), _, _, rfl, rfl, .inl ⟨by decide, by decide⟩, _, _, rfl, rfl, _, _, rfl, rfl, .inl ⟨by show (-(2 ^ 64) : Int) < 0 + (i : Int); omega, by show 0 + (i : Int) < 2 ^ 64; omega⟩, _, _, rfl, rfl, _, _, rfl, rfl, (by show (0 : Int) < 26; decide), abc, _, 97 + (st + i * s2) % 26, rfl, rfl, abc_len, ?_, ?_⟩
   ·show atI abc.cps.toList (((st : Int) + (0 + (i : Int)) * (1 + 2 * ((hd : Int) / 8 % 6))) % 26) = _
    rw [e4]
    exact atI_natN (abc_code _ (by omega))
   have e5 : (long : Int) - (place : Int) - 1 = ((long - place - 1 : Nat) : Int) := by omega
   refine ⟨_, rfl, .inl ⟨rfl, _, SqL.of hW8⟩, _, rfl, _, rfl, ⟨#[fc]⟩, place, rfl, rfl, by omega, by show 1 <= 1000; decide, _, rfl, _, _, rfl, rfl, ?_, ?_⟩
   ·rw [lP.len]; show place + 1 <= _; omega
   refine ⟨_, rfl, _, rfl, _, rfl, _, _, rfl, rfl, _, _, rfl, rfl, ⟨#[fc]⟩, long - place - 1, rfl, congrArg V.int e5, by omega, by show 1 <= 1000; decide, _, _, rfl, rfl, ?_, ?_⟩
   ·rw [(lP.append (Ltr.one (c := 97 + (st + i * s2) % 26) (by omega))).len, lQ.len]; omega
   refine ⟨W, _, _, rfl, rfl, hW8, by rw [List.length_map, List.length_map, List.length_range]; omega, ?_⟩
   exact fin _ _ _ _ _ _ (show wB i = wd i by show _ = if hd % 4 = 0 then wA i else wB i; rw [if_neg h4])
 obtain ⟨s8, o6, o7, o8, o9, o10, rfl, hW8⟩ := h2
 have hp8 := hp2.keep s8 (by simpa using pW)
 have s08 : SB [p] H H8 := (s02.mono (qs := [p, W]) (by simp)).trans (s8.mono (by simp)) |>.drop2 nW0
 refine ⟨_, rfl, q W _ H8 s08 hp8 nW0 hW8 (by simp) (fun k hk => ?_) (nodup_range fun i j hi hj hn e => ?_)⟩
 ·obtain ⟨i, hi, rfl⟩ := List.mem_map.mp hk
  show NameOk (if hd % 4 = 0 then wA i else wB i)
  by_cases h4 : hd % 4 = 0
  ·rw [if_pos h4]; exact (lA i).name (by omega) (by omega)
  ·rw [if_neg h4]; exact (lB i).name (by omega) (by omega)
 ·have e : (if hd % 4 = 0 then wA i else wB i) = (if hd % 4 = 0 then wA j else wB j) := e
  by_cases h4 : hd % 4 = 0
  ·rw [if_pos h4, if_pos h4] at e
   have e1 := (lA i).1
   rw [e, (lA j).1] at e1
   omega
  ·rw [if_neg h4, if_neg h4] at e
   have e1 := lP.mid (c := 97 + (st + i * s2) % 26) (b := Txt.mul ⟨#[fc]⟩ ((long - place - 1 : Nat) : Int))
   have e2 := lP.mid (c := 97 + (st + j * s2) % 26) (b := Txt.mul ⟨#[fc]⟩ ((long - place - 1 : Nat) : Int))
   have e' : Txt.mul ⟨#[fc]⟩ (place : Int) ++ (⟨#[97 + (st + i * s2) % 26]⟩ : Str) ++ Txt.mul ⟨#[fc]⟩ ((long - place - 1 : Nat) : Int) = Txt.mul ⟨#[fc]⟩ (place : Int) ++ (⟨#[97 + (st + j * s2) % 26]⟩ : Str) ++ Txt.mul ⟨#[fc]⟩ ((long - place - 1 : Nat) : Int) := e
   rw [e', e2] at e1
   injection e1 with e1
   have hs : s2 = 1 \/ s2 = 3 \/ s2 = 5 \/ s2 = 7 \/ s2 = 9 \/ s2 = 11 \/ s2 = 15 \/ s2 = 17 := by
    show 1 + 2 * (hd / 8 % 6) = 1 \/ 1 + 2 * (hd / 8 % 6) = 3 \/ 1 + 2 * (hd / 8 % 6) = 5 \/ 1 + 2 * (hd / 8 % 6) = 7 \/ 1 + 2 * (hd / 8 % 6) = 9 \/ 1 + 2 * (hd / 8 % 6) = 11 \/ _ \/ _
    omega
   refine hn (step_inj (b := st) hs (by omega) (by omega) ?_)
   rw [Nat.mul_comm s2 i, Nat.mul_comm s2 j]
   omega
abbrev N__law_many : List Str := ["_law_draws_here", "_law_great", "_law_figure", "_law_far"]
theorem sc__law_many : FnScope N__law_many ["_law_draws_here", "_law_great"] (defScope s__law_many) := ⟨rfl, rfl, rfl, by decide +kernel, rfl, by decide +kernel, by decide +kernel⟩
theorem ok__law_many (B : BI mg) (G__law_next : Got P w K mg base "_law_next" ["_law_draws_here"] (1) (spNext)) (F : Fun K "_law_many" "_law_many" s__law_many f fd) : FnOk P w K mg base CX0 (2) f fd ["_law_draws_here", "_law_great"] (spManyN) := by
 refine F.ok sc__law_many (fun vs H Q E h => ?_) (fun cdv A outer s H vs Q E hr h => ?_)
 ·obtain ⟨p, g, rfl, _⟩ := h
  rfl
 obtain ⟨p, g, rfl, hp, g9, g60, q⟩ := h
 have hun2 := hunT hr
 refine ⟨_, pss_cons (ps_set (i := 2) sc__law_many.nd rfl (.inl rfl) (pe_got G__law_next (hr.mono (by omega)) rfl (pa_cons (pv 0) pa_nil)))
  (pss_cons (ps_set (i := 3) sc__law_many.nd rfl (.inl rfl) (pe_op op_add (pe_op op_mul (pe_op op_fdivW (pv 2) pe_int) (pe_op op_pow pe_int pe_int)) (pe_got G__law_next (hr.mono (by omega)) rfl (pa_cons (pv 0) pa_nil))))
  (pss_cons (ps_set (i := 3) sc__law_many.nd rfl (.inl rfl) (pe_op op_add (pe_op op_mul (pv 3) (pe_op op_pow pe_int pe_int)) (pv 3)))
  (pss_one (ps_ret (pe_op op_add pe_int (pe_ix ix_list (pe_lst (pa_cons pe_int (pa_cons (pe_op op_mod (pe_op op_fdivW (pv 2) pe_int) pe_int) (pa_cons (pe_op op_mod (pe_op op_fdivW (pv 2) pe_int) pe_int) (pa_cons (pe_op op_mod (pv 3) (pv 1)) pa_nil))))) (pe_op op_mod (pv 2) pe_int) (fun _ _ => rfl))))))), ?_⟩
 refine ⟨_, rfl, p, rfl, hp, fun r1 H1 r10 r1m s1 hp1 => ?_⟩
 refine ⟨_, rfl, _, _, rfl, rfl, ⟨by decide, by decide +kernel⟩, _, _, rfl, rfl, ⟨by decide, by decide, by decide⟩, _, _, rfl, rfl, .inr ⟨by decide, by decide⟩, ?_⟩
 refine ⟨_, rfl, p, rfl, hp1, fun r2 H2 r20 r2m s2 hp2 => ?_⟩
 refine ⟨_, _, rfl, rfl, ?_⟩
 refine ⟨_, rfl, _, _, rfl, rfl, ⟨by decide, by decide, by decide⟩, _, _, rfl, rfl, .inr ⟨by decide, by decide⟩, _, rfl, _, _, rfl, rfl, ?_⟩
 dsimp only
 generalize (r1 / 4 * 10 ^ (9 : Int).toNat + r2) * 10 ^ (18 : Int).toNat + (r1 / 4 * 10 ^ (9 : Int).toNat + r2) = far
 refine ⟨_, rfl, _, _, rfl, rfl, ⟨by decide, by decide +kernel⟩, _, _, rfl, rfl, (by show (0 : Int) < 3; decide), ?_⟩
 refine ⟨_, rfl, _, _, rfl, rfl, ⟨by decide, by decide +kernel⟩, _, _, rfl, rfl, (by show (0 : Int) < 9; decide), ?_⟩
 refine ⟨_, rfl, _, rfl, _, _, rfl, rfl, (by show (0 : Int) < g; omega), ?_⟩
 refine ⟨by show 4 <= sizeLine; decide, fun L nL => ?_⟩
 refine ⟨_, rfl, _, _, rfl, rfl, (by show (0 : Int) < 4; decide), ?_⟩
 obtain ⟨z, hz, z0, zm⟩ : ∃ z : Int, atI [V.int 0, .int (r1 / 4 % 3), .int (r1 / 4 % 9), .int (far % g)] (r1 % 4) = some (.int z) /\ 0 <= z /\ z <= g - 1 := by
  have : r1 % 4 = 0 \/ r1 % 4 = 1 \/ r1 % 4 = 2 \/ r1 % 4 = 3 := by omega
  rcases this with h | h | h | h <;> rw [h]
  ·exact ⟨0, rfl, by omega, by omega⟩
  ·exact ⟨_, rfl, by omega, by omega⟩
  ·exact ⟨_, rfl, by omega, by omega⟩
  ·refine ⟨_, rfl, Int.emod_nonneg _ (by omega), ?_⟩
   have := Int.emod_lt_of_pos far (show 0 < g by omega)
   omega
 refine ⟨L, _, _, _, rfl, rfl, SqL.of upd_same, hz, ?_⟩
 refine ⟨_, _, rfl, rfl, ?_⟩
 have t3 := SB.new (ps := []) nL (.lst [V.int 0, .int (r1 / 4 % 3), .int (r1 / 4 % 9), .int (far % g)])
 exact q (1 + z) _ (by omega) (by omega) ((s1.trans s2).trans t3.nil) (hp2.sb t3)
abbrev N__law_grove : List Str := ["_law_draws_here", "_law_names_here", "_law_room", "_law_great", "_law_some", "_law_left", "_law_kind", "_law_inner", "_law_tree", "_law_many_here", "_law_one", "_law_old", "_law_pair"]
theorem sc__law_grove : FnScope N__law_grove ["_law_draws_here", "_law_names_here", "_law_room", "_law_great"] (defScope s__law_grove) := ⟨rfl, rfl, rfl, by decide +kernel, rfl, by decide +kernel, by decide +kernel⟩
theorem none__law_grove {ps : List Str} {k : Nat} : FnOk P w K mg base CX0 k f fd ps (spGroveN40 K 0) := none_sp fun vs H Q E ⟨p, nl, ks, room, g, _, _, _, h, _⟩ => by omega
theorem ok__law_grove {n : Nat} (B : BI mg) (G__law_next : Got P w K mg base "_law_next" ["_law_draws_here"] (1) (spNext)) (G__law_grove : Got P w K mg base "_law_grove" ["_law_draws_here", "_law_names_here", "_law_room", "_law_great"] (n + 2) (spGroveN40 K n)) (G__law_many : Got P w K mg base "_law_many" ["_law_draws_here", "_law_great"] (2) (spManyN)) (F : Fun K "_law_grove" "_law_grove" s__law_grove f fd) : FnOk P w K mg base CX0 (n + 3) f fd ["_law_draws_here", "_law_names_here", "_law_room", "_law_great"] (spGroveN40 K (n + 1)) := by
 refine F.ok sc__law_grove (fun vs H Q E h => ?_) (fun cdv A outer s H vs Q E hr h => ?_)
 ·obtain ⟨p, nl, ks, room, g, rfl, _⟩ := h
  rfl
 obtain ⟨p, nl, ks, room, g, rfl, hp, ⟨hn, np, kl, kok⟩, hr', r10, g9, g60, q⟩ := h
 have hun2 := hunT hr
 refine ⟨_, pss_cons (ps_set (i := 4) sc__law_grove.nd rfl (.inl rfl) (pe_lst pa_nil))
  (pss_cons (ps_set (i := 5) sc__law_grove.nd rfl (.inl rfl) (pv 2))
  (pss_cons (ps_while PassesOwn.never (PW.pt (pw_and (pt_cmpR op_gt (pv 5) pe_int (nomark _)) (pw_and1 (pt_cmpR (op_neD (by show A.units + 3 + 64 < cLine; omega)) (pv 1) (pe_lst pa_nil) (nomark _))))) (pss_cons (ps_set (i := 6) sc__law_grove.nd rfl (.inl rfl) (pe_ix ix_list (pv 1) (pe_op op_mod (pe_got G__law_next (hr.mono (by omega)) rfl (pa_cons (pv 0) pa_nil)) (pe_callB call_len_seq rfl B.len PySem.boot_len (pa_cons (pv 1) pa_nil))) (fun _ _ => rfl)))
  (pss_cons (ps_set (i := 7) sc__law_grove.nd rfl (.inl rfl) (pe_op op_mod (pe_got G__law_next (hr.mono (by omega)) rfl (pa_cons (pv 0) pa_nil)) (pv 5)))
  (pss_cons (ps_set (i := 8) sc__law_grove.nd rfl (.inr rfl) (pe_tup (pa_cons (pv 6) (pa_cons (pe_got G__law_grove (hr.mono (by omega)) rfl (pa_cons (pv 0) (pa_cons (pv 1) (pa_cons (pv 7) (pa_cons (pv 3) pa_nil))))) pa_nil))))
  (pss_cons (ps_set (i := 9) sc__law_grove.nd rfl (.inl rfl) (pe_op op_add (pe_got G__law_many (hr.mono (by omega)) rfl (pa_cons (pv 0) (pa_cons (pv 3) pa_nil))) (pe_callB (cr_sum rfl) rfl B.sum boot_sum (pa_cons (pe_lc (own := [("_law_one", 10), ("_law_old", 11)]) (g := (gTup K 2 (gCons (gName 10) (gCons (gName 11) gNil)))) (tt := (tTest (tOp (rEqD K) (tVar 10) (tVar 8)))) (te := (tVar 11)) rfl sc__law_grove.nd (pi_list (pv 4)) (blkOk_by (N := N__law_grove) (sc := defScope s__law_grove) (by decide +kernel)) (fun _ _ _ _ _ => (pg_tup rfl (pgs_cons (pg_name (i := 10) sc__law_grove.nd rfl (.inl rfl)) (pgs_cons (pg_name (i := 11) sc__law_grove.nd rfl (.inl rfl)) pgs_nil)))) (fun _ _ _ _ _ => (pts_one (pt_cmpR (op_eqD (by show A.units + 3 + 64 < cLine; omega)) (pv 10) (pv 8) (nomark _)))) (fun _ _ _ _ _ => (pv 11))) pa_nil))))
  (pss_cons (ps_set (i := 4) sc__law_grove.nd rfl (.inl rfl) (pe_op op_cat (pe_lc (own := [("_law_pair", 12)]) (g := (gName 12)) (tt := (tTest (tOp (rNeD K) (tOp (rIxT K) (tVar 12) (tC (.int 0))) (tVar 8)))) (te := (tVar 12)) rfl sc__law_grove.nd (pi_list (pv 4)) (blkOk_by (N := N__law_grove) (sc := defScope s__law_grove) (by decide +kernel)) (fun _ _ _ _ _ => (pg_name (i := 12) sc__law_grove.nd rfl (.inl rfl))) (fun _ _ _ _ _ => (pts_one (pt_cmpR (op_neD (by show A.units + 3 + 64 < cLine; omega)) (pe_ix ix_tup (pv 12) pe_int (fun _ _ => rfl)) (pv 8) (nomark _)))) (fun _ _ _ _ _ => (pv 12))) (pe_lst (pa_cons (pe_tup (pa_cons (pv 8) (pa_cons (pv 9) pa_nil))) pa_nil))))
  (pss_one (ps_set (i := 5) sc__law_grove.nd rfl (.inl rfl) (pe_op op_sub (pe_op op_sub (pv 5) pe_int) (pv 7))))))))))
  (pss_one (ps_ret (pe_callTy call_tuple_of rfl B.tuple boot_tuple (pa_cons (pe_callB (cr_sortedB Gr.pEnc (by show A.units + 3 + 110 < cLine; omega)) rfl B.sorted (by decide +kernel) (pa_cons (pv 4) pa_nil)) pa_nil)))))), ?_⟩
 have szl := sizeLine_eq
 refine ⟨by show 0 <= sizeLine; decide, fun W0 nW0 => ?_⟩
 have t1 := SB.new (ps := []) nW0 (.lst [])
 have hW1 : upd H W0 (.lst []) W0 = some (.lst []) := upd_same
 have hp1 := hp.sb t1
 have hn1 := t1.keep _ _ hn nmn
 have pW0 := hp.ne nW0
 generalize upd H W0 (.lst []) = H1 at t1 hW1 hp1 hn1
 refine ⟨_, rfl, ?_⟩
 dsimp only
 refine seq_via (fun σ' H9 => SB [p] H H9 /\ Dr H9 p /\ ∃ (W : Addr) (us : List V) (bs : List (Tr × Int)) (lf : Int) (o6 o7 o8 o9 o10 o11 o12 : Option V), σ' = [some (.ref p), some (.ref nl), some (.int (room : Int)), some (.int g), some (.ref W), some (.int lf), o6, o7, o8, o9, o10, o11, o12] /\ H9 W = some (.lst us) /\ Bears K H9 Gr.pEnc us bs /\ bs.Pairwise (fun p q => p.1 ≠ q.1) /\ (∀ x ∈ bs, x.1.1 ∈ ks /\ x.1.2.Ok (room * g + 1) /\ 1 <= x.2 /\ x.1.2.deep < room /\ Gr.Named ks x.1.2) /\ allE bs <= room * g /\ Gr.tot bs <= room) (fun nx hnx => ?_) (fun σ' H9 h => ?_)
 ·refine ⟨fun mm σ H5 => ∃ (W : Addr) (us : List V) (bs : List (Tr × Int)) (o6 o7 o8 o9 o10 o11 o12 : Option V), σ = [some (.ref p), some (.ref nl), some (.int (room : Int)), some (.int g), some (.ref W), some (.int (mm : Int)), o6, o7, o8, o9, o10, o11, o12] /\ SB [p] H H5 /\ Dr H5 p /\ (H W = none /\ W ≠ p /\ W ≠ nl) /\ H5 W = some (.lst us) /\ Bears K H5 Gr.pEnc us bs /\ bs.Pairwise (fun p q => p.1 ≠ q.1) /\ (∀ x ∈ bs, x.1.1 ∈ ks /\ x.1.2.Ok (room * g + 1) /\ 1 <= x.2 /\ x.1.2.deep < room /\ Gr.Named ks x.1.2) /\ allE bs <= (room - mm : Int) * g /\ Gr.tot bs + mm <= room /\ mm <= room, ⟨room, W0, [], [], _, _, _, _, _, _, _, rfl, t1.nil, hp1, ⟨nW0, fun z => pW0 z.symm, fun z => by rw [z, hn] at nW0; cases nW0⟩, hW1, .nil, List.Pairwise.nil, by simp, by simp [allE], by show 0 + room <= room; omega, Nat.le_refl _⟩, fun mm σ H5 hW => ?_⟩
  obtain ⟨W, us, bs, o6, o7, o8, o9, o10, o11, o12, rfl, s5, hp5, ⟨nW, Wp, Wnl⟩, hW5, hb5, pw, hbs, hall, htot, hmm⟩ := hW
  have exit : nx [some (.ref p), some (.ref nl), some (.int (room : Int)), some (.int g), some (.ref W), some (.int (mm : Int)), o6, o7, o8, o9, o10, o11, o12] H5 := hnx _ _ ⟨s5, hp5, W, us, bs, _, _, _, _, _, _, _, _, rfl, hW5, hb5, pw, hbs, Int.le_trans hall (Int.mul_le_mul_of_nonneg_right (by omega) (by omega)), by omega⟩
  refine ⟨_, rfl, _, _, rfl, rfl, _, rfl, ?_⟩
  by_cases h0 : 0 < mm
  ·rw [decide_eq_true (show (0 : Int) < (mm : Int) by omega)]
   refine iteT ?_
   have hn5 := s5.keep _ _ hn (by simpa using np)
   refine ⟨_, rfl, by show 0 <= sizeLine; decide, fun z nz => ?_⟩
   have t6 := SB.new (ps := []) nz (.lst [])
   have hz6 : upd H5 z (.lst []) z = some (.lst []) := upd_same
   have hn6 := t6.keep _ _ hn5 nmn
   refine ⟨.list (ks.map PyData.str), .list [], Dp.lst (SqL.of hn6) (Bears_dp (bears_strs ks)), Dp.lst (SqL.of hz6) .nil, names_shaped kok, by decide +kernel, _, rfl, ?_⟩
   have hp6 := hp5.sb t6
   have hW6 := t6.keep _ _ hW5 nmn
   have hb6 := hb5.sb t6 Gr.noList_pEnc
   have s6 := s5.trans (t6.nil (ps := [p]))
   by_cases hk : ks = []
   ·rw [hk]
    refine iteF ?_
    exact hnx _ _ ⟨s6, hp6, W, us, bs, _, _, _, _, _, _, _, _, rfl, hW6, hb6, pw, hbs, Int.le_trans hall (Int.mul_le_mul_of_nonneg_right (by omega) (by omega)), by omega⟩
   rw [show (!PyData.eqv (.list (ks.map PyData.str)) (.list [])) = true by cases ks with
    | nil => exact absurd rfl hk
    | cons _ _ => simp [PyData.eqv, PyData.eqvAll]]
   refine iteT ⟨_, fun σ' H' h => h, ?_⟩
   generalize upd H5 z (.lst []) = H6 at t6 hz6 hn6 hp6 hW6 hb6 s6
   have kpos : 0 < ks.length := List.length_pos_iff.mpr hk
   refine ⟨_, rfl, _, rfl, p, rfl, hp6, fun r1 H7 r10' r1m s7 hp7 => ?_⟩
   have hn7 := s7.keep _ _ hn6 (by simpa using np)
   have hW7 := s7.keep _ _ hW6 (by simpa using Wp)
   have hb7 := hb6.sb s7 Gr.noList_pEnc
   refine ⟨_, rfl, nl, _, rfl, .inl (SqL.of hn7), _, _, rfl, rfl, (by show (0 : Int) < ((ks.map V.str).length : Int); rw [List.length_map]; omega), ?_⟩
   dsimp only
   rw [List.length_map]
   obtain ⟨kn, hkn, hkm⟩ : ∃ kn, atI (ks.map V.str) (r1 % (ks.length : Int)) = some (.str kn) /\ kn ∈ ks := by
    have h1 := Int.emod_nonneg r1 (show (ks.length : Int) ≠ 0 by omega)
    have h2 := Int.emod_lt_of_pos r1 (show (0 : Int) < (ks.length : Int) by omega)
    obtain ⟨u, hu⟩ : ∃ u : Nat, r1 % (ks.length : Int) = (u : Int) := ⟨_, (Int.toNat_of_nonneg h1).symm⟩
    rw [hu] at h2 ⊢
    have hu2 : u < ks.length := by omega
    refine ⟨ks[u], atI_nat (j := u) ?_, List.getElem_mem hu2⟩
    rw [List.getElem?_map, List.getElem?_eq_getElem hu2]; rfl
   refine ⟨nl, _, _, _, rfl, rfl, SqL.of hn7, hkn, ?_⟩
   refine ⟨_, rfl, p, rfl, hp7, fun r2 H8 r20 r2m s8 hp8 => ?_⟩
   refine ⟨_, rfl, _, _, rfl, rfl, (by show (0 : Int) < (mm : Int); omega), ?_⟩
   dsimp only
   obtain ⟨inn, ein, hin⟩ : ∃ u : Nat, r2 % (mm : Int) = (u : Int) /\ u < mm := by
    have h1 := Int.emod_nonneg r2 (show (mm : Int) ≠ 0 by omega)
    have h2 := Int.emod_lt_of_pos r2 (show (0 : Int) < (mm : Int) by omega)
    exact ⟨(r2 % (mm : Int)).toNat, (Int.toNat_of_nonneg h1).symm, by omega⟩
   rw [ein]
   have hn8 := s8.keep _ _ hn7 (by simpa using np)
   refine ⟨_, rfl, _, rfl, _, rfl, _, rfl, _, rfl, p, nl, ks, inn, g, rfl, hp8, ⟨hn8, np, kl, kok⟩, by omega, by omega, g9, g60, fun gv t H9 s9 hp9 hgv tok tpt tdp tnm => ?_⟩
   have hn9 := s9.keep _ _ hn8 (by simpa using np)
   have g0 : (0 : Int) <= g := by omega
   have tok2 : t.Ok (room * g + 1) := tok.mono (by
    have := Int.mul_le_mul_of_nonneg_right (show (inn : Int) <= (room : Int) by omega) g0
    omega)
   refine ⟨by show 2 <= sizeLine; decide, fun tr ntr => ?_⟩
   have t10 := SB.new (ps := []) ntr (.tup [.str kn, gv])
   have htr : upd H9 tr (.tup [.str kn, gv]) tr = some (.tup [.str kn, gv]) := upd_same
   have hp10 := hp9.sb t10
   have hn10 := t10.keep _ _ hn9 nmn
   have hgv10 := hgv.sb t10
   have s710 : SB [p] H6 (upd H9 tr (.tup [.str kn, gv])) := ((s7.trans s8).trans s9).trans t10.nil
   generalize upd H9 tr (.tup [.str kn, gv]) = H10 at t10 htr hp10 hn10 hgv10 s710
   have hdt : Dp K H10 (.ref tr) (Gr.tEnc (kn, t)) := Dp.tup (SqT.of htr) (.cons (.str _) (.cons hgv10 .nil))
   refine ⟨_, rfl, _, rfl, p, g, rfl, hp10, g9, g60, fun nm H11 n1 ng s11 hp11 => ?_⟩
   have s611 := s710.trans s11
   have hW11 := s611.keep _ _ hW6 (by simpa using Wp)
   have hb11 := hb6.sb s611 Gr.noList_pEnc
   have hdt11 := Dp_sb s11 _ _ (Gr.noList_tEnc _) hdt
   have ul := hb11.length
   have lt := Gr.len_tot bs
   have sht : SeqAt.shaped (Gr.tEnc (kn, t)) = true := Gr.shaped_tEnc (kok kn hkm) tok (by show t.deep <= 20; omega)
   have shb : ∀ x ∈ bs, SeqAt.shaped (Gr.tEnc x.1) = true := fun x hx => Gr.shaped_tEnc (kok _ (hbs x hx).1) (hbs x hx).2.1 (by have := (hbs x hx).2.2.2.1; omega)
   refine ⟨_, rfl, W, rfl, ⟨_, SqL.of hW11⟩, fun D nD => ?_⟩
   refine lc_seq (walk_list (xs := us)) nD (by omega) (fun i ws _ => ws = (((bs.take i).filter fun x => decide (x.1 = (kn, t))).map (·.2)).map V.int) rfl (fun H2 s2 => s2.sqL nmn (SqL.of hW11)) (fun _ _ _ _ _ h => h) (fun Pv i x Hq H2 ws hi s2 y hR hu fin skip => ?_) (fun ws H12 s12 hD12 hR hu => ?_)
   ·obtain ⟨rfl, ey⟩ := y
    obtain ⟨x0, ex, hpd⟩ := hb11.get ey
    obtain ⟨ad, td, ux, rfl, hs2, hs3, hga, htd⟩ := PA_parts hpd
    refine ⟨ad, _, rfl, s2.sqT hs2, rfl, _, _, rfl, _, _, rfl, rfl, rfl, ?_⟩
    refine ⟨_, rfl, _, rfl, Gr.tEnc x0.1, Gr.tEnc (kn, t), Dp_sb s2 _ _ (Gr.noList_tEnc _) htd, Dp_sb s2 _ _ (Gr.noList_tEnc _) hdt11, shb x0 (List.mem_of_getElem? ex), sht, _, rfl, ?_⟩
    rw [Orderly.eq (enc := Gr.tEnc)]
    by_cases he : x0.1 = (kn, t)
    ·rw [decide_eq_true he]
     refine iteT ⟨_, rfl, fin _ _ SB.refl ?_⟩
     rw [hR, List.take_add_one, ex]
     simp [he]
    ·rw [decide_eq_false he]
     refine iteF (skip _ SB.refl ?_)
     rw [hR, List.take_add_one, ex]
     simp [he]
   rw [ul, List.take_length] at hR
   subst hR
   refine ⟨D, _, rfl, SqL.of hD12, ?_⟩
   refine ⟨_, _, rfl, rfl, ?_⟩
   dsimp only
   have esum := sum_same (kn, t) bs
   rw [esum]
   have s612 := s611.trans (s12.nil (ps := [p]))
   have hW12 := s12.keep _ _ hW11 nmn
   have hb12 := hb11.sb s12 Gr.noList_pEnc
   have hdt12 := Dp_sb s12 _ _ (Gr.noList_tEnc _) hdt11
   have hp12 := hp11.sb s12
   refine ⟨_, rfl, W, rfl, ⟨_, SqL.of hW12⟩, fun D2 nD2 => ?_⟩
   refine lc_seq (walk_list (xs := us)) nD2 (by omega) (fun i ws H2 => Bears K H2 Gr.pEnc ws ((bs.take i).filter fun x => decide (x.1 ≠ (kn, t)))) .nil (fun H2 s2 => s2.sqL nmn (SqL.of hW12)) (fun _ _ _ _ s h => h.sb s Gr.noList_pEnc) (fun Pv i x Hq H2 ws hi s2 y hR hu fin skip => ?_) (fun ws H13 s13 hD13 hR hu => ?_)
   ·obtain ⟨rfl, ey⟩ := y
    obtain ⟨x0, ex, hpd⟩ := hb12.get ey
    obtain ⟨ad, td, ux, rfl, hs2, hs3, hga, htd⟩ := PA_parts hpd
    refine ⟨rfl, ?_⟩
    refine ⟨_, rfl, ad, _, _, .ref td, rfl, rfl, s2.sqT hs2, rfl, _, rfl, Gr.tEnc x0.1, Gr.tEnc (kn, t), Dp_sb s2 _ _ (Gr.noList_tEnc _) htd, Dp_sb s2 _ _ (Gr.noList_tEnc _) hdt12, shb x0 (List.mem_of_getElem? ex), sht, _, rfl, ?_⟩
    rw [Orderly.eq (enc := Gr.tEnc)]
    by_cases he : x0.1 = (kn, t)
    ·rw [decide_eq_true he]
     refine iteF (skip _ SB.refl ?_)
     rw [List.take_add_one, ex]
     simpa [he] using hR
    ·rw [decide_eq_false he]
     refine iteT ⟨_, rfl, fin _ _ SB.refl ?_⟩
     rw [List.take_add_one, ex, List.filter_append]
     have : (List.filter (fun x => decide (x.1 ≠ (kn, t))) (some x0).toList) = [x0] := by simp [he]
     rw [this]
     exact hR.append (.cons (Dp_sb s2 _ _ (Gr.noList_pEnc _) hpd) .nil)
   rw [ul, List.take_length] at hR
   refine ⟨_, rfl, _, rfl, by show 2 <= sizeLine; decide, fun pr npr => ?_⟩
   have t14 := SB.new (ps := []) npr (.tup [.ref tr, .int (nm + sumE bs (kn, t))])
   have hpr : upd H13 pr (.tup [.ref tr, .int (nm + sumE bs (kn, t))]) pr = some (.tup [.ref tr, .int (nm + sumE bs (kn, t))]) := upd_same
   have hR14 := hR.sb t14 Gr.noList_pEnc
   have hD14 := t14.keep _ _ hD13 nmn
   have hdt14 := Dp_sb (s13.trans t14) _ _ (Gr.noList_tEnc _) hdt12
   have hp14 := hp12.sb (s13.trans t14)
   have s614 : SB [p] H6 (upd H13 pr (.tup [.ref tr, .int (nm + sumE bs (kn, t))])) := s612.trans (s13.trans t14).nil
   generalize upd H13 pr (.tup [.ref tr, .int (nm + sumE bs (kn, t))]) = H14 at t14 hpr hR14 hD14 hdt14 hp14 s614
   have hpair : Dp K H14 (.ref pr) (Gr.pEnc ((kn, t), nm + sumE bs (kn, t))) := pair_mk (enc := Gr.tEnc) (g := (kn, t)) (SqT.of hpr) hdt14
   refine ⟨by show 1 <= sizeLine; decide, fun L2 nL2 => ?_⟩
   have t15 := SB.new (ps := []) nL2 (.lst [.ref pr])
   have hL2 : upd H14 L2 (.lst [.ref pr]) L2 = some (.lst [.ref pr]) := upd_same
   have hD15 := t15.keep _ _ hD14 nmn
   have wl := hR.length
   have fl := List.length_filter_le (fun x : Tr × Int => decide (x.1 ≠ (kn, t))) bs
   refine ⟨D2, L2, _, _, rfl, rfl, hD15, hL2, by rw [wl, List.length_singleton]; omega, fun L3 nL3 => ?_⟩
   have t16 := SB.new (ps := []) nL3 (.lst (ws ++ [.ref pr]))
   have s616 := s614.trans (t15.trans t16).nil
   have s016 := s6.trans s616
   have el : (mm : Int) - 1 - (inn : Int) = ((mm - 1 - inn : Nat) : Int) := by omega
   refine ⟨_, rfl, _, _, rfl, rfl, _, rfl, _, _, rfl, rfl, ?_⟩
   dsimp only
   rw [el]
   have nL30 : H L3 = none := (s6.trans (s614.trans t15.nil)).dom _ nL3
   refine ⟨mm - 1 - inn, by omega, L3, _, (bs.filter fun x => decide (x.1 ≠ (kn, t))) ++ [((kn, t), nm + sumE bs (kn, t))], _, _, _, _, _, _, _, rfl, s016, hp14.sb (t15.trans t16), ⟨nL30, (fun z => hp.ne nL30 z.symm), fun z => by rw [z, hn] at nL30; cases nL30⟩, upd_same, ?_, ?_, ?_, ?_, ?_, by omega⟩
   ·exact (hR14.append (.cons hpair .nil)).sb (t15.trans t16) Gr.noList_pEnc
   ·refine List.pairwise_append.mpr ⟨pw.filter _, List.pairwise_singleton _ _, fun x hx y hy => ?_⟩
    rw [List.mem_singleton.mp hy]
    have := (List.mem_filter.mp hx).2
    simpa using this
   ·intro x hx
    rcases List.mem_append.mp hx with hx | hx
    ·exact hbs x (List.mem_filter.mp hx).1
    ·rw [List.mem_singleton.mp hx]
     have s0 : 0 <= sumE bs (kn, t) := sumE_nonneg _ fun y hy => (hbs y hy).2.2.1
     exact ⟨hkm, tok2, by show 1 <= nm + _; omega, by show t.deep < room; omega, tnm⟩
   ·have ea : allE ((bs.filter fun x => decide (x.1 ≠ (kn, t))) ++ [((kn, t), nm + sumE bs (kn, t))]) = allE bs + nm := by
     rw [allE_append]
     show allE _ + (nm + sumE bs (kn, t) + 0) = _
     have := all_out (kn, t) bs
     omega
    rw [ea]
    have h1 : ((room : Int) - mm) * g + g = ((room : Int) - mm + 1) * g := by rw [Int.add_mul, Int.one_mul]
    have h2 : ((room : Int) - mm + 1) * g <= ((room : Int) - ((mm - 1 - inn : Nat) : Int)) * g := Int.mul_le_mul_of_nonneg_right (by omega) g0
    exact Int.le_trans (Int.le_trans (Int.add_le_add hall ng) (Int.le_of_eq h1)) h2
   ·rw [Gr.tot_append]
    show Gr.tot _ + (1 + t.parts + 0) + _ <= _
    have := tot_out (fun x => decide (x.1 ≠ (kn, t))) bs
    omega
  ·rw [decide_eq_false (show ¬ (0 : Int) < (mm : Int) by omega)]
   exact iteF (iteF exit)
 ·obtain ⟨s9, hp9, W, us, bs, lf, o6, o7, o8, o9, o10, o11, o12, rfl, hW9, hb9, pw, hbs, hall, htot⟩ := h
  have lt := Gr.len_tot bs
  refine ⟨_, rfl, W, us, bs, rfl, .inl (SqL.of hW9), hb9, Gr.pEnc_all _, Gr.pEnc_sortable _, by omega, fun x hx => ?_, fun a ys na hys => ?_⟩
  ·have e1 := Gr.pEnc_depth x
   have e2 := (hbs x hx).2.2.2.1
   omega
  have u1 := SB.new (ps := []) na (.lst ys)
  refine ⟨a, ys, rfl, .inl ⟨SqL.of upd_same, fun kt nkt => ?_⟩⟩
  have u2 := SB.new (ps := []) nkt (.tup ys)
  have et : Gr.tidy bs = Gr.ofPs (srtE Gr.pEnc bs) := by unfold Gr.tidy; rw [(Gr.tdy_self pw).2]
  refine q _ (Gr.tidy bs) _ (s9.trans (u1.trans u2).nil) (hp9.sb (u1.trans u2)) ?_ (Gr.tidy_ok (C := room * g + 1) (fun x hx => ⟨kok _ (hbs x hx).1, (hbs x hx).2.1, (hbs x hx).2.2.1⟩) (by omega) (by omega)) (Nat.le_trans (Gr.tidy_parts bs) htot) (Gr.tidy_deep fun x hx => (hbs x hx).2.2.2.1) ?_
  ·rw [et]
   exact Bears_ga (SqT.of upd_same) (hys.sb (u1.trans u2) Gr.noList_pEnc)
  ·refine Gr.named_iff.mpr fun x hx => ?_
   unfold Gr.tidy at hx
   rw [Gr.ps_ofPs] at hx
   obtain ⟨y, hy, e⟩ := tdy_keys (enc := Gr.tEnc) bs x hx
   rw [<- e]
   exact ⟨(hbs y hy).1, (hbs y hy).2.2.2.2⟩
abbrev N__law_kinds : List Str := ["_law_draws_here", "_law_names_here", "_law_rounds_here", "_law_kinds_here", "_law_most", "_law_k", "_law_name", "_law_some", "_law_rules", "_law_rule", "_law_room", "_law_once"]
theorem sc__law_kinds : FnScope N__law_kinds ["_law_draws_here", "_law_names_here", "_law_rounds_here"] (defScope s__law_kinds) := ⟨rfl, rfl, rfl, by decide +kernel, rfl, by decide +kernel, by decide +kernel⟩
theorem ok__law_kinds (B : BI mg) (G__law_next : Got P w K mg base "_law_next" ["_law_draws_here"] (1) (spNext)) (G__law_grove : Got P w K mg base "_law_grove" ["_law_draws_here", "_law_names_here", "_law_room", "_law_great"] (13) (spGroveN40 K 11)) (F : Fun K "_law_kinds" "_law_kinds" s__law_kinds f fd) : FnOk P w K mg base CX0 (15) f fd ["_law_draws_here", "_law_names_here", "_law_rounds_here"] (spKindsN K) := by
 refine F.ok sc__law_kinds (fun vs H Q E h => ?_) (fun cdv A outer s H vs Q E hr h => ?_)
 ·obtain ⟨p, nl, ks, rounds, rfl, _⟩ := h
  rfl
 obtain ⟨p, nl, ks, rounds, rfl, hp, ⟨hn, np, kl, kok, knd, kne⟩, q⟩ := h
 have hun2 := hunT hr
 refine ⟨_, pss_cons (ps_set (i := 3) sc__law_kinds.nd rfl (.inl rfl) (pe_lst pa_nil))
  (pss_cons (ps_set (i := 4) sc__law_kinds.nd rfl (.inl rfl) (pe_ix ix_list (pe_lst (pa_cons pe_int (pa_cons pe_int pa_nil))) (pe_callTy call_int1 rfl B.int boot_int (pa_cons (pe_cmpR op_gt (pe_callB call_len_seq rfl B.len PySem.boot_len (pa_cons (pv 1) pa_nil)) pe_int (nomark _)) pa_nil)) (fun _ _ => rfl)))
  (pss_cons (ps_for PassesOwn.never rfl (pi_enum rfl B.enumerate (pa_cons (pv 1) pa_nil)) (pg_tup rfl (pgs_cons (pg_name (i := 5) sc__law_kinds.nd rfl (.inl rfl)) (pgs_cons (pg_name (i := 6) sc__law_kinds.nd rfl (.inl rfl)) pgs_nil)))
   (pss_cons (ps_set (i := 7) sc__law_kinds.nd rfl (.inl rfl) (pe_slice sl_list (pv 1) po_none (po_some (pv 5))))
  (pss_cons (ps_if (pt_val (pv 2)) (pss_one (ps_set (i := 7) sc__law_kinds.nd rfl (.inl rfl) (pv 1))) pss_nil)
  (pss_cons (ps_set (i := 8) sc__law_kinds.nd rfl (.inl rfl) (pe_lst pa_nil))
  (pss_cons (ps_for PassesOwn.never rfl (pi_range1 rfl B.range (pa_cons (pe_op op_mod (pe_got G__law_next (hr.mono (by omega)) rfl (pa_cons (pv 0) pa_nil)) (pe_op op_add pe_int (pv 4))) pa_nil)) (pg_name (i := 9) sc__law_kinds.nd rfl (.inl rfl))
   (pss_cons (ps_set (i := 10) sc__law_kinds.nd rfl (.inl rfl) (pe_op op_mod (pe_got G__law_next (hr.mono (by omega)) rfl (pa_cons (pv 0) pa_nil)) (pe_op op_add (pv 4) pe_int)))
  (pss_cons (ps_set (i := 11) sc__law_kinds.nd rfl (.inl rfl) (pe_got G__law_grove (hr.mono (by omega)) rfl (pa_cons (pv 0) (pa_cons (pv 7) (pa_cons (pv 10) (pa_cons (pe_op op_pow pe_int pe_int) pa_nil))))))
  (pss_one (ps_expr (pe_bm PySem.F.plainAttrs_list PySem.F.slot_list_append PySem.F.type_list_append mt_append (pv 8) (pa_cons (pe_tup (pa_cons (pv 11) (pa_cons (pe_got G__law_grove (hr.mono (by omega)) rfl (pa_cons (pv 0) (pa_cons (pv 7) (pa_cons (pe_op op_sub (pv 4) (pv 10)) (pa_cons (pe_op op_pow pe_int pe_int) pa_nil))))) pa_nil))) pa_nil)))))))
  (pss_one (ps_expr (pe_bm PySem.F.plainAttrs_list PySem.F.slot_list_insert PySem.F.type_list_insert mt_insert (pv 3) (pa_cons (pe_op op_mod (pe_got G__law_next (hr.mono (by omega)) rfl (pa_cons (pv 0) pa_nil)) (pe_op op_add (pv 5) pe_int)) (pa_cons (pe_tup (pa_cons (pv 6) (pa_cons (pe_cmpR op_eq (pe_op op_mod (pe_got G__law_next (hr.mono (by omega)) rfl (pa_cons (pv 0) pa_nil)) pe_int) pe_int (nomark _)) (pa_cons (pv 8) pa_nil)))) pa_nil))))))))))
  (pss_one (ps_ret (pv 3))))), ?_⟩
 have szl := sizeLine_eq
 have nlK := kne
 refine ⟨by show 0 <= sizeLine; decide, fun K0 nK0 => ?_⟩
 have t1 := SB.new (ps := []) nK0 (.lst [])
 have hK1 : upd H K0 (.lst []) K0 = some (.lst []) := upd_same
 have hp1 := hp.sb t1
 have hn1 := t1.keep _ _ hn nmn
 have pK0 := hp.ne nK0
 have nK : nl ≠ K0 := ne_of_none hn nK0
 generalize upd H K0 (.lst []) = H1 at t1 hK1 hp1 hn1
 refine ⟨by show 2 <= sizeLine; decide, fun M nM => ?_⟩
 have t2 := SB.new (ps := []) nM (.lst [.int 3, .int 2])
 have hM2 : upd H1 M (.lst [.int 3, .int 2]) M = some (.lst [.int 3, .int 2]) := upd_same
 have hp2 := hp1.sb t2
 have hn2 := t2.keep _ _ hn1 nmn
 have hK2 := t2.keep _ _ hK1 nmn
 have s02 := t1.trans t2
 generalize upd H1 M (.lst [.int 3, .int 2]) = H2 at t2 hM2 hp2 hn2 hK2 s02
 refine ⟨_, rfl, nl, _, rfl, .inl (SqL.of hn2), _, _, rfl, rfl, .inr ⟨_, rfl, ?_⟩⟩
 rw [List.length_map]
 obtain ⟨most, hmost, hz⟩ : ∃ most : Nat, most = (if ks.length > 3 then 2 else 3) /\ atI [V.int 3, .int 2] (if decide ((3 : Int) < (ks.length : Int)) = true then 1 else 0) = some (.int (most : Int)) := by
  by_cases h3 : ks.length > 3
  ·refine ⟨2, by rw [if_pos h3], ?_⟩
   rw [decide_eq_true (show (3 : Int) < (ks.length : Int) by omega)]; rfl
  ·refine ⟨3, by rw [if_neg h3], ?_⟩
   rw [decide_eq_false (show ¬ (3 : Int) < (ks.length : Int) by omega)]; rfl
 have m23 : most = 2 \/ most = 3 := by rw [hmost]; split <;> omega
 refine ⟨M, _, _, _, rfl, rfl, SqL.of hM2, hz, ?_⟩
 refine ⟨_, rfl, nl, _, rfl, SqL.of hn2, ?_⟩
 let goodR : Str -> Ru -> Prop := fun n r => r.1.Ok (3 * 10 ^ 8 + 1) /\ r.2.Ok (3 * 10 ^ 8 + 1) /\ r.1.parts + r.2.parts <= most /\ Gr.Named ks r.1 /\ Gr.Named ks r.2 /\ (rounds = false -> ∀ j, ks[j]? = some n -> Gr.Named (ks.take j) r.1 /\ Gr.Named (ks.take j) r.2)
 refine for_it (walk_enum (K := K) (a := nl) (xs := ks.map V.str)) (fun i σ H3 => SB [K0, p] H2 H3 /\ Dr H3 p /\ ∃ (xs : List V) (b : Bk) (o5 o6 o7 o8 o9 o10 o11 : Option V), σ = [some (.ref p), some (.ref nl), some (.bl rounds), some (.ref K0), some (.int (most : Int)), o5, o6, o7, o8, o9, o10, o11] /\ H3 K0 = some (.lst xs) /\ KdAll K H3 [p, K0] xs b /\ b.names.Perm (ks.take i) /\ ∀ k ∈ b, k.rs.length <= 4 /\ ∀ r ∈ k.rs, goodR k.n r)
  ⟨SB.refl, hp2, [], [], _, _, _, _, _, _, _, rfl, hK2, .nil, List.Perm.refl _, by simp⟩ (fun i σ H3 hi h3 => h3.1.sqL (by simp [np, nK]) (SqL.of hn2)) (fun i x σ H3 H' hi h3 y => ?_) (fun σ H3 h3 => ?_)
 ·obtain ⟨s3, hp3, xs, b, o5, o6, o7, o8, o9, o10, o11, rfl, hK3, ha3, pm, hgood⟩ := h3
  obtain ⟨T, x1, y1, rfl, hT, rfl, ex, ey⟩ := y
  have ex : some (V.int (i : Nat)) = some x1 := ex
  cases ex
  have ey : (ks.map V.str)[i]? = some y1 := ey
  rw [List.getElem?_map] at ey
  rw [List.length_map] at hi
  obtain ⟨nm, en, rfl⟩ := Option.map_eq_some_iff.mp ey
  have t4 := SB.new (ps := []) hT (.tup [.int (i : Nat), .str nm])
  have hT4 : upd H3 T (.tup [.int (i : Nat), .str nm]) T = some (.tup [.int (i : Nat), .str nm]) := upd_same
  have hp4 := hp3.sb t4
  have hK4 := t4.keep _ _ hK3 nmn
  have ha4 := ha3.sb t4 NoLst.nil
  have s4 := s3.trans (t4.nil (ps := [K0, p]))
  generalize upd H3 T (.tup [.int (i : Nat), .str nm]) = H4 at t4 hT4 hp4 hK4 ha4 s4
  have hn4 := s4.keep _ _ hn2 (by simp [np, nK])
  refine ⟨T, _, rfl, SqT.of hT4, rfl, _, _, rfl, _, _, rfl, rfl, ?_⟩
  refine ⟨_, rfl, _, rfl, _, rfl, nl, _, rfl, SqL.of hn4, fun S nS => ?_⟩
  rw [cutTakeS]
  have t5 := SB.new (ps := []) nS (.lst ((ks.take i).map V.str))
  have hS5 : upd H4 S (.lst ((ks.take i).map V.str)) S = some (.lst ((ks.take i).map V.str)) := upd_same
  have hp5 := hp4.sb t5
  have hK5 := t5.keep _ _ hK4 nmn
  have hn5 := t5.keep _ _ hn4 nmn
  have ha5 := ha4.sb t5 NoLst.nil
  have s5 := s4.trans (t5.nil (ps := [K0, p]))
  have Sp : S ≠ p := fun z => hp4.ne nS z.symm
  have SK : S ≠ K0 := fun z => by rw [z, hK4] at nS; cases nS
  generalize upd H4 S (.lst ((ks.take i).map V.str)) = H5 at t5 hS5 hp5 hK5 hn5 ha5 s5
  dsimp only
  refine seq_via (fun σ' H9 => H9 = H5 /\ ∃ (sl : Addr) (ss : List Str), σ' = [some (.ref p), some (.ref nl), some (.bl rounds), some (.ref K0), some (.int (most : Int)), some (.int (i : Int)), some (.str nm), some (.ref sl), o8, o9, o10, o11] /\ H5 sl = some (.lst (ss.map V.str)) /\ sl ≠ p /\ sl ≠ K0 /\ ss.length <= 8 /\ (∀ x ∈ ss, x ∈ ks) /\ (rounds = false -> ss = ks.take i)) (fun nx hnx => ?_) (fun σ' H9 h => ?_)
  ·refine ifI ⟨_, rfl, rounds, rfl, ?_⟩
   cases rounds with
   | true => exact iteT ⟨_, rfl, hnx _ _ ⟨rfl, nl, ks, rfl, hn5, np, nK, kl, fun _ h => h, fun z => nomatch z⟩⟩
   | false => exact iteF (hnx _ _ ⟨rfl, S, ks.take i, rfl, hS5, Sp, SK, by rw [List.length_take]; omega, fun _ h => List.mem_of_mem_take h, fun _ => rfl⟩)
  obtain ⟨rfl, sl, ss, rfl, hsl, slp, slK, ssl, ssk, sse⟩ := h
  refine ⟨by show 0 <= sizeLine; decide, fun R nR => ?_⟩
  have t6 := SB.new (ps := []) nR (.lst [])
  have hR6 : upd H9 R (.lst []) R = some (.lst []) := upd_same
  have hp6 := hp5.sb t6
  have hK6 := t6.keep _ _ hK5 nmn
  have hsl6 := t6.keep _ _ hsl nmn
  have ha6 := ha5.sb t6 NoLst.nil
  have ha6R := (ha5.more nR).sb t6 NoLst.nil
  have s6 := s5.trans (t6.nil (ps := [K0, p]))
  have Rp : R ≠ p := fun z => hp5.ne nR z.symm
  have RK : R ≠ K0 := fun z => by rw [z, hK5] at nR; cases nR
  have slR : sl ≠ R := ne_of_none hsl nR
  generalize upd H9 R (.lst []) = H6 at t6 hR6 hp6 hK6 hsl6 ha6 ha6R s6
  refine ⟨_, rfl, p, rfl, hp6, fun r1 H7 r10 r1m s7 hp7 => ?_⟩
  refine ⟨_, rfl, _, _, rfl, rfl, _, _, rfl, rfl, (by show (0 : Int) < 2 + (most : Int); omega), ?_⟩
  have hcnt : 0 <= r1 % (2 + (most : Int)) /\ r1 % (2 + (most : Int)) < 2 + (most : Int) := ⟨Int.emod_nonneg _ (by omega), Int.emod_lt_of_pos _ (by omega)⟩
  refine ⟨_, rfl, by show (-(2 ^ 62) : Int) <= r1 % (2 + (most : Int)); omega, by show r1 % (2 + (most : Int)) < 2 ^ 62; omega, ?_⟩
  have hR7 := s7.keep _ _ hR6 (by simpa using Rp)
  have hK7 := s7.keep _ _ hK6 (by simpa using fun z : K0 = p => pK0 z.symm)
  have hsl7 := s7.keep _ _ hsl6 (by simpa using slp)
  have ha7 := ha6.sb s7 (fun q hq => .inl (by rw [List.mem_singleton.mp hq]; simp))
  have s67 : SB [R, K0, p] H2 H7 := (s6.mono (by simp)).trans (s7.mono (by simp))
  refine for_it walk_range (fun j σ H8 => SB [R, p] H7 H8 /\ Dr H8 p /\ ∃ (us : List V) (rs : List Ru) (o9 o10 o11 : Option V), σ = [some (.ref p), some (.ref nl), some (.bl rounds), some (.ref K0), some (.int (most : Int)), some (.int (i : Int)), some (.str nm), some (.ref sl), some (.ref R), o9, o10, o11] /\ H8 R = some (.lst us) /\ Bears K H8 Ru.enc us rs /\ rs.length <= j /\ ∀ r ∈ rs, goodR nm r)
   ⟨SB.refl, hp7, [], [], _, _, _, rfl, hR7, .nil, Nat.le_refl _, by simp⟩ (fun _ _ _ _ _ => trivial) (fun j x σ H8 H' hj h8 y => ?_) (fun σ H8 h8 => ?_)
  ·obtain ⟨s8, hp8, us, rs, o9, o10, o11, rfl, hR8, hb8, rl, hrs⟩ := h8
   obtain ⟨rfl, rfl⟩ := y
   have hj4 : j < 5 := by omega
   refine ⟨_, rfl, p, rfl, hp8, fun r2 H9' r20 r2m s9 hp9 => ?_⟩
   refine ⟨_, rfl, _, _, rfl, rfl, _, _, rfl, rfl, (by show (0 : Int) < (most : Int) + 1; omega), ?_⟩
   dsimp only
   obtain ⟨room, er, hroom⟩ : ∃ u : Nat, r2 % ((most : Int) + 1) = (u : Int) /\ u <= most := by
    have h1 := Int.emod_nonneg r2 (show (most : Int) + 1 ≠ 0 by omega)
    have h2 := Int.emod_lt_of_pos r2 (show (0 : Int) < (most : Int) + 1 by omega)
    exact ⟨_, (Int.toNat_of_nonneg h1).symm, by omega⟩
   rw [er]
   have e8 : (10 : Int) ^ (8 : Int).toNat = 10 ^ 8 := rfl
   have hsl9 := s9.keep _ _ (s8.keep _ _ hsl7 (by simp [slR, slp])) (by simpa using slp)
   have hR9 := s9.keep _ _ hR8 (by simpa using Rp)
   have hb9 := hb8.sb s9 Ru.noList_enc
   refine ⟨_, rfl, _, rfl, _, rfl, _, _, rfl, rfl, ⟨by decide, by decide, by decide⟩, p, sl, ss, room, 10 ^ 8, rfl, hp9, ⟨hsl9, slp, ssl, fun x hx => kok x (ssk x hx)⟩, by omega, by omega, by decide, by decide, fun g1 tg1 H10 s10 hp10 hg1 ok1 pt1 dp1 nm1 => ?_⟩
   have hR10 := s10.keep _ _ hR9 (by simpa using Rp)
   have hb10 := hb9.sb s10 Ru.noList_enc
   have hsl10 := s10.keep _ _ hsl9 (by simpa using slp)
   have e9 : (most : Int) - (room : Int) = ((most - room : Nat) : Int) := by omega
   refine ⟨_, rfl, .inl ⟨rfl, _, SqL.of hR10⟩, _, rfl, _, rfl, _, rfl, _, rfl, _, rfl, _, _, rfl, rfl, _, _, rfl, rfl, ⟨by decide, by decide, by decide⟩, p, sl, ss, most - room, 10 ^ 8, (by show [V.ref p, V.ref sl, V.int ((most : Int) - (room : Int)), V.int (10 ^ (8 : Int).toNat)] = _; rw [e9]; rfl), hp10, ⟨hsl10, slp, ssl, fun x hx => kok x (ssk x hx)⟩, by omega, by omega, by decide, by decide, fun g2 tg2 H11 s11 hp11 hg2 ok2 pt2 dp2 nm2 => ?_⟩
   refine ⟨by show 2 <= sizeLine; decide, fun pr npr => ?_⟩
   have t12 := SB.new (ps := []) npr (.tup [g1, g2])
   have hpr : upd H11 pr (.tup [g1, g2]) pr = some (.tup [g1, g2]) := upd_same
   have hR12 := t12.keep _ _ (s11.keep _ _ hR10 (by simpa using Rp)) nmn
   have hb12 := (hb10.sb s11 Ru.noList_enc).sb t12 Ru.noList_enc
   have hp12 := hp11.sb t12
   have s712 : SB [R, p] H7 (upd H11 pr (.tup [g1, g2])) := s8.trans ((((s9.trans s10).trans s11).trans t12.nil).mono (by simp))
   have hru : Dp K (upd H11 pr (.tup [g1, g2])) (.ref pr) (Ru.enc (tg1, tg2)) := Dp.tup (SqT.of hpr) (.cons (GA.sb (GA.sb hg1 s11) t12) (.cons (GA.sb hg2 t12) .nil))
   generalize upd H11 pr (.tup [g1, g2]) = H12 at t12 hpr hR12 hb12 hp12 s712 hru
   have ul := hb12.length
   refine ⟨R, _, _, rfl, rfl, hR12, by rw [ul]; omega, ?_⟩
   have t13 := SB.set (ps := [R]) hR12 (by simp) (.lst (us ++ [.ref pr]))
   refine ⟨s712.trans (t13.mono (by simp)), hp12.keep t13 (by simpa using fun z : p = R => Rp z.symm), us ++ [.ref pr], rs ++ [(tg1, tg2)], _, _, _, rfl, upd_same, (hb12.append (.cons hru .nil)).sb t13 Ru.noList_enc, by rw [List.length_append, List.length_singleton]; omega, fun r hr => ?_⟩
   rcases List.mem_append.mp hr with hr | hr
   ·exact hrs r hr
   ·rw [List.mem_singleton.mp hr]
    have r3 : (room : Int) <= 3 := by omega
    refine ⟨ok1.mono (by omega), ok2.mono (by omega), by show tg1.parts + tg2.parts <= most; omega, Named_sub ssk nm1, Named_sub ssk nm2, fun hf j' ej => ?_⟩
    have : i = j' := nodup_at knd en ej
    subst this
    rw [sse hf] at nm1 nm2
    exact ⟨nm1, nm2⟩
  ·obtain ⟨s8, hp8, us, rs, o9, o10, o11, rfl, hR8, hb8, rl, hrs⟩ := h8
   have rl4 : rs.length <= 4 := by omega
   have hK8 := s8.keep _ _ hK7 (by simp [pK0.symm, RK.symm])
   have ha8 : KdAll K H8 [p, K0] xs b := by
    have h1 : SB [R, p, K0] H6 H8 := (s7.mono (by simp)).trans (s8.mono (by simp))
    exact (ha6R.sb h1 NoLst.self).less (by simp)
   refine ⟨_, rfl, .inl ⟨rfl, _, SqL.of hK8⟩, _, rfl, p, rfl, hp8, fun r3 H9' r30 r3m s9 hp9 => ?_⟩
   refine ⟨_, rfl, _, _, rfl, rfl, _, _, rfl, rfl, (by show (0 : Int) < (i : Int) + 1; omega), ?_⟩
   have hidx : 0 <= r3 % ((i : Int) + 1) /\ r3 % ((i : Int) + 1) < (i : Int) + 1 := ⟨Int.emod_nonneg _ (by omega), Int.emod_lt_of_pos _ (by omega)⟩
   refine ⟨_, rfl, _, rfl, p, rfl, hp9, fun r4 H10 r40 r4m s10 hp10 => ?_⟩
   refine ⟨_, _, rfl, rfl, (by show (0 : Int) < 2; decide), rfl, _, rfl, by show 3 <= sizeLine; decide, fun tu ntu => ?_⟩
   have t11 := SB.new (ps := []) ntu (.tup [.str nm, .bl (decide (V.int (r4 % 2) = V.int 1)), .ref R])
   have htu : upd H10 tu (.tup [.str nm, .bl (decide (V.int (r4 % 2) = V.int 1)), .ref R]) tu = some (.tup [.str nm, .bl (decide (V.int (r4 % 2) = V.int 1)), .ref R]) := upd_same
   have hR11 := t11.keep _ _ (s10.keep _ _ (s9.keep _ _ hR8 (by simpa using Rp)) (by simpa using Rp)) nmn
   have hK11 := t11.keep _ _ (s10.keep _ _ (s9.keep _ _ hK8 (by simpa using fun z : K0 = p => pK0 z.symm)) (by simpa using fun z : K0 = p => pK0 z.symm)) nmn
   have hb11 := ((hb8.sb s9 Ru.noList_enc).sb s10 Ru.noList_enc).sb t11 Ru.noList_enc
   have hpb : ∀ q ∈ [p], q ∈ [p, K0] \/ ∀ xs, H8 q ≠ some (.lst xs) := fun q hq => .inl (by rw [List.mem_singleton.mp hq]; simp)
   have ha11 := ((ha8.sb s9 (fun q hq => .inl (by rw [List.mem_singleton.mp hq]; simp))).sb s10 (fun q hq => .inl (by rw [List.mem_singleton.mp hq]; simp))).sb t11 NoLst.nil
   have hp11 := hp10.sb t11
   have s211 : SB [K0, p] H2 (upd H10 tu (.tup [.str nm, .bl (decide (V.int (r4 % 2) = V.int 1)), .ref R])) := by
    have h1 : SB [R, K0, p] H2 H8 := s67.trans (s8.mono (by simp))
    have nR2 : H2 R = none := s5.dom _ nR
    exact (h1.drop nR2).trans (((s9.trans s10).trans t11.nil).mono (by simp))
   generalize upd H10 tu (.tup [.str nm, .bl (decide (V.int (r4 % 2) = V.int 1)), .ref R]) = H11 at t11 htu hR11 hK11 hb11 ha11 hp11 s211
   have xl := ha8.length
   have bl : b.length = i := by
    have := pm.length_eq
    rw [List.length_map, List.length_take] at this
    omega
   obtain ⟨ix, eix⟩ : ∃ u : Nat, r3 % ((i : Int) + 1) = (u : Int) := ⟨_, (Int.toNat_of_nonneg hidx.1).symm⟩
   refine ⟨K0, xs, r3 % ((i : Int) + 1), .ref tu, rfl, rfl, hK11, by omega, hidx.1, by omega, ?_⟩
   rw [eix, Int.toNat_natCast]
   have t12 := SB.set (ps := [K0]) hK11 (by simp) (.lst (xs.take ix ++ [.ref tu] ++ xs.drop ix))
   refine ⟨s211.trans (t12.mono (by simp)), hp11.keep t12 (by simpa using pK0), xs.take ix ++ [.ref tu] ++ xs.drop ix, b.take ix ++ [⟨nm, decide (V.int (r4 % 2) = V.int 1), rs⟩] ++ b.drop ix, _, _, _, _, _, _, _, rfl, upd_same, ?_, ?_, fun k hk => ?_⟩
   ·have ha12 := ha11.sb t12 (fun q hq => .inl (by rw [List.mem_singleton.mp hq]; simp))
    obtain ⟨c1, c2⟩ := ha12.cut ix
    refine (c1.append (.cons ?_ .nil)).append c2
    exact ⟨tu, R, us, rfl, t12.sqT (SqT.of htu), t12.keep _ _ hR11 (by simpa using RK), hb11.sb t12 Ru.noList_enc, by simp [Rp, RK]⟩
   ·refine (names_ins b _ ix).trans ?_
    rw [List.take_add_one, en]
    exact pm.append_right _
   ·rcases List.mem_append.mp hk with hk | hk
    ·rcases List.mem_append.mp hk with hk | hk
     ·exact hgood k (List.mem_of_mem_take hk)
     ·rw [List.mem_singleton.mp hk]; exact ⟨rl4, hrs⟩
    ·exact hgood k (List.mem_of_mem_drop hk)
 ·obtain ⟨s3, hp3, xs, b, o5, o6, o7, o8, o9, o10, o11, rfl, hK3, ha3, pm, hgood⟩ := h3
  rw [List.length_map, List.take_length] at pm
  have bl : b.length = ks.length := by have := pm.length_eq; rwa [List.length_map] at this
  have kpos : 0 < ks.length := List.length_pos_iff.mpr nlK
  have hmem : ∀ k ∈ b, k.n ∈ ks := fun k hk => pm.mem_iff.mp (List.mem_map.mpr ⟨k, hk, rfl⟩)
  refine ⟨_, rfl, q K0 xs b H3 ((s02.nil.trans s3).drop nK0) hp3 nK0 hK3 ha3 ⟨by omega, by omega, pm.nodup_iff.mpr knd, fun k hk => ⟨kok _ (hmem k hk), (hgood k hk).1, fun r hr => ?_⟩⟩ ⟨pm, fun k hk r hr => ⟨((hgood k hk).2 r hr).1, ((hgood k hk).2 r hr).2.1⟩, fun k hk r hr => ?_, fun k hk => (hgood k hk).1, fun hf k hk j ej r hr => ((hgood k hk).2 r hr).2.2.2.2.2 hf j ej, fun k hk r hr => ⟨((hgood k hk).2 r hr).2.2.2.1, ((hgood k hk).2 r hr).2.2.2.2.1⟩⟩⟩
  ·obtain ⟨h1, h2, h3, h4, h5, _⟩ := (hgood k hk).2 r hr
   refine ⟨⟨h1.mono (by decide), h2.mono (by decide), by omega⟩, fun x hx => ?_⟩
   rcases List.mem_append.mp hx with hx | hx
   ·exact pm.mem_iff.mpr (h4 x hx)
   ·exact pm.mem_iff.mpr (h5 x hx)
  ·rw [<- hmost]; exact ((hgood k hk).2 r hr).2.2.1
abbrev N__law_book : List Str := ["_law_kinds_here", "_law_name", "_law_spreading", "_law_rules"]
theorem sc__law_book : FnScope N__law_book ["_law_kinds_here"] (defScope s__law_book) := ⟨rfl, rfl, rfl, by decide +kernel, rfl, by decide +kernel, by decide +kernel⟩
theorem ok__law_book {C_Book C_NoBook : Addr} (B : BI mg) (G_Book___init__ : GotI P w K mg base "Book" C_Book ["self", "kinds"] (88) (spBInit K C_Book C_NoBook)) (F : Fun K "_law_book" "_law_book" s__law_book f fd) : FnOk P w K mg base CX0 (90) f fd ["_law_kinds_here"] (spMkBook K C_Book) := by
 refine F.ok sc__law_book (fun vs H Q E h => ?_) (fun cdv A outer s H vs Q E hr h => ?_)
 ·obtain ⟨l, xs, b, rfl, _⟩ := h
  rfl
 obtain ⟨l, xs, b, rfl, hl, ha, ok, q⟩ := h
 have hun2 := hunT hr
 refine ⟨_, pss_one (ps_ret (pe_gotI G_Book___init__ (hr.mono (by omega)) rfl (pa_cons (pe_lc (own := [("_law_name", 1), ("_law_spreading", 2), ("_law_rules", 3)]) (g := (gTup K 3 (gCons (gName 1) (gCons (gName 2) (gCons (gName 3) gNil))))) (tt := tYes) (te := (tTup (tCons (tVar 1) (tCons (tVar 2) (tCons (tCB (fun xs H Q => ∃ p ys, xs = [.ref p] /\ (SqL K H p ys \/ SqT K H p ys) /\ ∀ l, H l = none -> Q (.ref l) (upd H l (.lst ys))) (tCons (tVar 3) tNil)) tNil))))) rfl sc__law_book.nd (pi_list (pv 0)) (blkOk_by (N := N__law_book) (sc := defScope s__law_book) (by decide +kernel)) (fun _ _ _ _ _ => (pg_tup rfl (pgs_cons (pg_name (i := 1) sc__law_book.nd rfl (.inl rfl)) (pgs_cons (pg_name (i := 2) sc__law_book.nd rfl (.inl rfl)) (pgs_cons (pg_name (i := 3) sc__law_book.nd rfl (.inl rfl)) pgs_nil))))) (fun _ _ _ _ _ => pts_nil) (fun _ _ _ _ _ => (pe_tup (pa_cons (pv 1) (pa_cons (pv 2) (pa_cons (pe_callTy call_list_of rfl B.list boot_list (pa_cons (pv 3) pa_nil)) pa_nil)))))) pa_nil))), ?_⟩
 exact copy_make (i := 0) rfl (fun _ _ _ => rfl) (fun _ _ _ => rfl) (fun _ _ _ => rfl) (fun _ _ _ => rfl) hl ha ok fun y H' s ny hy => q y H' s ny hy
abbrev N__law_in : List Str := ["_law_grove_here", "_law_found", "_law_tree", "_law_many_here"]
theorem sc__law_in : FnScope N__law_in ["_law_grove_here"] (defScope s__law_in) := ⟨rfl, rfl, rfl, by decide +kernel, rfl, by decide +kernel, by decide +kernel⟩
theorem none__law_in {ps : List Str} {k : Nat} : FnOk P w K mg base CX0 k f fd ps (spIn40 K 0) := none_sp fun vs H Q E ⟨v, g, _, _, h, _⟩ => by omega
theorem ok__law_in {n : Nat} (B : BI mg) (G__law_in : Got P w K mg base "_law_in" ["_law_grove_here"] (n) (spIn40 K n)) (F : Fun K "_law_in" "_law_in" s__law_in f fd) : FnOk P w K mg base CX0 (n + 1) f fd ["_law_grove_here"] (spIn40 K (n + 1)) := by
 refine F.ok sc__law_in (fun vs H Q E h => ?_) (fun cdv A outer s H vs Q E hr h => ?_)
 ·obtain ⟨v, g, rfl, _⟩ := h
  rfl
 obtain ⟨v, g, rfl, hv, hd, hp, q⟩ := h
 have hun2 := hunT hr
 refine ⟨_, pss_cons (ps_set (i := 1) sc__law_in.nd rfl (.inl rfl) (pe_lst pa_nil))
  (pss_cons (ps_for PassesOwn.never rfl (pi_tup (pv 0)) (pg_tup rfl (pgs_cons (pg_name (i := 2) sc__law_in.nd rfl (.inl rfl)) (pgs_cons (pg_name (i := 3) sc__law_in.nd rfl (.inl rfl)) pgs_nil)))
   (pss_one (ps_set (i := 1) sc__law_in.nd rfl (.inl rfl) (pe_op op_cat (pe_op op_cat (pv 1) (pe_lst (pa_cons (pv 2) pa_nil))) (pe_got G__law_in (hr.mono (by omega)) rfl (pa_cons (pe_ix ix_tup (pv 2) pe_int (fun _ _ => rfl)) pa_nil))))))
  (pss_one (ps_ret (pv 1)))), ?_⟩
 have szl := sizeLine_eq
 obtain ⟨a, xs, rfl, hs, hb⟩ := GA_bears hv
 have xl := hb.length
 refine ⟨by show 0 <= sizeLine; decide, fun D0 nD0 => ?_⟩
 have t1 := SB.new (ps := []) nD0 (.lst [])
 have hD1 : upd H D0 (.lst []) D0 = some (.lst []) := upd_same
 generalize upd H D0 (.lst []) = H1 at t1 hD1
 refine ⟨_, rfl, a, rfl, ⟨xs, t1.sqT hs⟩, ?_⟩
 refine for_it (walk_tup (xs := xs)) (fun i σ H2 => SB [] H H2 /\ ∃ (D : Addr) (us : List V) (o2 o3 : Option V), σ = [some (.ref a), some (.ref D), o2, o3] /\ H D = none /\ H2 D = some (.lst us) /\ Bears K H2 Gr.tEnc us ((g.ps.take i).flatMap fun p => p.1 :: p.1.2.ins))
  ⟨t1, D0, [], none, none, rfl, nD0, hD1, .nil⟩ (fun i σ H2 hi h2 => h2.1.sqT hs) (fun i x σ H2 H' hi h2 y => ?_) (fun σ H2 h2 => ?_)
 ·obtain ⟨s2, D, us, o2, o3, rfl, nD, hD2, hu2⟩ := h2
  obtain ⟨rfl, ey⟩ := y
  obtain ⟨p, ep, hpd⟩ := hb.get ey
  have pm := List.mem_of_getElem? ep
  obtain ⟨ad, td, ux, rfl, hs2, hs3, hga, htd⟩ := PA_parts hpd
  have pd := g.mem_deep p pm
  have pp := g.mem_parts p pm
  have ul := hu2.length
  have le : (((g.ps.take (i + 1)).flatMap fun p => p.1 :: p.1.2.ins)).length <= 1000 := by
   have h1 := Gr.ins_len g
   rw [Gr.ins_ps] at h1
   have h2 : g.ps.flatMap (fun p => p.1 :: p.1.2.ins) = (g.ps.take (i + 1)).flatMap (fun p => p.1 :: p.1.2.ins) ++ (g.ps.drop (i + 1)).flatMap (fun p => p.1 :: p.1.2.ins) := by rw [<- List.flatMap_append, List.take_append_drop]
   rw [h2, List.length_append] at h1
   omega
  have estep : (g.ps.take (i + 1)).flatMap (fun p => p.1 :: p.1.2.ins) = (g.ps.take i).flatMap (fun p => p.1 :: p.1.2.ins) ++ (p.1 :: p.1.2.ins) := by
   rw [List.take_add_one, ep, List.flatMap_append]; simp
  rw [estep, List.length_append, List.length_cons] at le
  refine ⟨ad, _, rfl, s2.sqT hs2, rfl, _, _, rfl, _, _, rfl, rfl, ?_⟩
  refine ⟨_, rfl, _, rfl, by show 1 <= sizeLine; decide, fun L nL => ?_⟩
  have t3 := SB.new (ps := []) nL (.lst [.ref td])
  have hL3 : upd H' L (.lst [.ref td]) L = some (.lst [.ref td]) := upd_same
  have hD3 := t3.keep _ _ hD2 nmn
  generalize upd H' L (.lst [.ref td]) = H3 at t3 hL3 hD3
  refine ⟨D, L, _, _, rfl, rfl, hD3, hL3, by rw [ul, List.length_singleton]; omega, fun F nF => ?_⟩
  have t4 := SB.new (ps := []) nF (.lst (us ++ [.ref td]))
  have hF4 : upd H3 F (.lst (us ++ [.ref td])) F = some (.lst (us ++ [.ref td])) := upd_same
  generalize upd H3 F (.lst (us ++ [.ref td])) = H4 at t4 hF4
  have s24 := t3.trans t4
  have s04 := s2.trans s24
  refine ⟨_, rfl, td, _, _, ux, rfl, rfl, s04.sqT hs3, rfl, ux, p.1.2, rfl, GA.sb hga s04, by omega, by omega, fun G vs5 H5 s5 nG hG hv5 => ?_⟩
  have hF5 := s5.keep _ _ hF4 nmn
  have vl := hv5.length
  refine ⟨F, G, _, _, rfl, rfl, hF5, hG, by rw [List.length_append, List.length_singleton, ul, vl]; omega, fun E6 nE6 => ?_⟩
  have t6 := SB.new (ps := []) nE6 (.lst (us ++ [.ref td] ++ vs5))
  refine ⟨(s04.trans s5).trans t6, E6, _, _, _, rfl, (s04.trans s5).dom _ nE6, upd_same, ?_⟩
  rw [estep, show (p.1 :: p.1.2.ins) = [p.1] ++ p.1.2.ins from rfl, <- List.append_assoc]
  refine ((hu2.sb ((s24.trans s5).trans t6) Gr.noList_tEnc).append (.cons ?_ .nil)).append (hv5.sb t6 Gr.noList_tEnc)
  exact Dp_sb ((s04.trans s5).trans t6) _ _ (Gr.noList_tEnc _) htd
 ·obtain ⟨s2, D, us, o2, o3, rfl, nD, hD2, hu2⟩ := h2
  rw [xl, List.take_length, <- Gr.ins_ps] at hu2
  exact ⟨_, rfl, q D us H2 s2 nD hD2 hu2⟩
abbrev N__law_endless : List Str := ["_law_kinds_here", "_law_led", "_law_name", "_law_spreading", "_law_rules", "_law_once", "_law_each", "_law_left", "_law_turn", "_law_tree", "_law_kind"]
theorem sc__law_endless : FnScope N__law_endless ["_law_kinds_here"] (defScope s__law_endless) := ⟨rfl, rfl, rfl, by decide +kernel, rfl, by decide +kernel, by decide +kernel⟩
theorem ok__law_endless (B : BI mg) (G__law_in : Got P w K mg base "_law_in" ["_law_grove_here"] (20) (spIn40 K 20)) (F : Fun K "_law_endless" "_law_endless" s__law_endless f fd) : FnOk P w K mg base CX0 (21) f fd ["_law_kinds_here"] (spEndl40 K) := by
 refine F.ok sc__law_endless (fun vs H Q E h => ?_) (fun cdv A outer s H vs Q E hr h => ?_)
 ·obtain ⟨l, xs, b, rfl, _⟩ := h
  rfl
 obtain ⟨l, xs, b, rfl, hl, ha, ok, q⟩ := h
 have hun2 := hunT hr
 refine ⟨_, pss_cons (ps_set (i := 1) sc__law_endless.nd rfl (.inr rfl) pe_dnewK)
  (pss_cons (ps_for PassesOwn.never rfl (pi_list (pv 0)) (pg_tup rfl (pgs_cons (pg_name (i := 2) sc__law_endless.nd rfl (.inl rfl)) (pgs_cons (pg_name (i := 3) sc__law_endless.nd rfl (.inl rfl)) (pgs_cons (pg_name (i := 4) sc__law_endless.nd rfl (.inl rfl)) pgs_nil))))
   (pss_cons (ps_dput (by show A.units + 3 + 1 < cLine; omega) (pv 1) (pv 2) (pe_lst pa_nil) rfl)
  (pss_one (ps_for PassesOwn.never rfl (pi_list (pv 4)) (pg_tup rfl (pgs_cons (pg_name (i := 5) sc__law_endless.nd rfl (.inl rfl)) (pgs_cons (pg_name (i := 6) sc__law_endless.nd rfl (.inl rfl)) pgs_nil)))
   (pss_one (ps_dput (by show A.units + 3 + 1 < cLine; omega) (pv 1) (pv 2) (pe_op op_cat (pe_dget (by show A.units + 3 + 1 < cLine; omega) (pv 1) (pv 2) (fun _ _ => rfl)) (pe_lc (own := [("_law_tree", 9)]) (g := (gName 9)) (tt := tYes) (te := (tOp (rIxT K) (tVar 9) (tC (.int 0)))) rfl sc__law_endless.nd (pi_list (pe_op op_cat (pe_got G__law_in (hr.mono (by omega)) rfl (pa_cons (pv 5) pa_nil)) (pe_got G__law_in (hr.mono (by omega)) rfl (pa_cons (pv 6) pa_nil)))) (blkOk_by (N := N__law_endless) (sc := defScope s__law_endless) (by decide +kernel)) (fun _ _ _ _ _ => (pg_name (i := 9) sc__law_endless.nd rfl (.inl rfl))) (fun _ _ _ _ _ => pts_nil) (fun _ _ _ _ _ => (pe_ix ix_tup (pv 9) pe_int (fun _ _ => rfl))))) rfl))))))
  (pss_cons (ps_set (i := 7) sc__law_endless.nd rfl (.inr rfl) (pe_callB (call_sortedD rfl) rfl B.sorted (by decide +kernel) (pa_cons (pv 1) pa_nil)))
  (pss_cons (ps_for PassesOwn.never rfl (pi_range1 rfl B.range (pa_cons (pe_callB call_len_seq rfl B.len PySem.boot_len (pa_cons (pv 0) pa_nil)) pa_nil)) (pg_name (i := 8) sc__law_endless.nd rfl (.inl rfl))
   (pss_one (ps_set (i := 7) sc__law_endless.nd rfl (.inr rfl) (pe_lc (own := [("_law_name", 2)]) (g := (gName 2)) (tt := (tB (tCB (rAny K) (tCons (tLc (iList K (tDGet (tVar 1) (tVar 2))) (gName 10) tYes (tOp (rIn K false) (tVar 10) (tVar 7)) [10]) tNil)))) (te := (tVar 2)) rfl sc__law_endless.nd (pi_list (pv 7)) (blkOk_by (N := N__law_endless) (sc := defScope s__law_endless) (by decide +kernel)) (fun _ _ _ _ _ => (pg_name (i := 2) sc__law_endless.nd rfl (.inl rfl))) (fun _ _ _ _ _ => (pts_one (pt_val (pe_callB (cr_any rfl) rfl B.any boot_any (pa_cons (pe_lc (own := [("_law_kind", 10)]) (g := (gName 10)) (tt := tYes) (te := (tOp (rIn K false) (tVar 10) (tVar 7))) rfl sc__law_endless.nd (pi_list (pe_dget (by show A.units + 3 + 1 < cLine; omega) (pv 1) (pv 2) (fun _ _ => rfl))) (blkOk_by (N := N__law_endless) (sc := { kind := .function, names := [(".0", .local), ("_law_name", .local), ("any", .globalImplicit), ("_law_led", .cell), ("_law_left", .cell)], isGenerator := false, isCoroutine := false }) (by decide +kernel)) (fun _ _ _ _ _ => (pg_name (i := 10) sc__law_endless.nd rfl (.inl rfl))) (fun _ _ _ _ _ => pts_nil) (fun _ _ _ _ _ => (pe_cmpR op_in_seq (pv 10) (pv 7) (by rfl)))) pa_nil))))) (fun _ _ _ _ _ => (pv 2))))))
  (pss_one (ps_ret (pv 7)))))), ?_⟩
 have szl := sizeLine_eq
 have b8 := ok.len
 have xl := ha.length
 intro D nD
 have t1 := SB.new (ps := []) nD (.dK [])
 have hD1 : upd H D (.dK []) D = some (.dK []) := upd_same
 generalize upd H D (.dK []) = H1 at t1 hD1
 refine ⟨_, rfl, l, rfl, ⟨_, SqL.of (t1.keep _ _ hl nmn)⟩, ?_⟩
 refine for_it (walk_list (xs := xs)) (fun i σ H2 => ∃ (kvs : List (Key × V)) (o2 o3 o4 o5 o6 : Option V), σ = [some (.ref l), some (.ref D), o2, o3, o4, o5, o6, none, none, none, none] /\ SB [D] H1 H2 /\ H2 D = some (.dK kvs) /\ LedB K H2 kvs (b.take i) /\ ∀ p ∈ kvs, p.2 ≠ .ref D)
  ⟨[], none, none, none, none, none, rfl, SB.refl, hD1, .nil, by simp⟩ (fun i σ H2 hi h2 => by obtain ⟨_, _, _, _, _, _, _, s, _⟩ := h2; exact (((t1.nil (ps := [D])).trans s).drop nD).sqL nmn (SqL.of hl)) (fun i x σ Hq H2 hi h2 y => ?_) (fun σ H2 h2 => ?_)
 ·obtain ⟨kvs, o2, o3, o4, o5, o6, rfl, s2, hD2, hk2, hkD⟩ := h2
  obtain ⟨rfl, ey⟩ := y
  obtain ⟨k, ek, t, r, zs, rfl, h1, h2, h3, _⟩ := ha.get ey
  have s02 : SB [] H H2 := ((t1.nil (ps := [D])).trans s2).drop nD
  have km := List.mem_of_getElem? ek
  obtain ⟨kn, r4, rr⟩ := ok.kd k km
  have kl := hk2.length
  rw [List.length_take] at kl
  have hnew : ∀ p ∈ kvs, p.1 ≠ Sum.inr k.n := hk2.new (take_fresh ok.nd ek)
  refine ⟨t, _, rfl, s02.sqT h1, rfl, _, _, rfl, _, _, rfl, _, _, rfl, rfl, ?_⟩
  refine ⟨by show 0 <= sizeLine; decide, fun L nL => ?_⟩
  have t3 := SB.new (ps := []) nL (.lst [])
  have hL3 : upd H2 L (.lst []) L = some (.lst []) := upd_same
  have LD : L ≠ D := fun z => by rw [z, hD2] at nL; cases nL
  have hD3 := t3.keep _ _ hD2 nmn
  generalize upd H2 L (.lst []) = H3 at t3 hL3 hD3
  refine ⟨_, rfl, _, rfl, D, _, rfl, DPut.k (k := Sum.inr k.n) hD3 (by omega), ?_⟩
  have t4 : SB [D] H3 (upd H3 D (.dK (putK kvs (Sum.inr k.n) (.ref L)))) := SB.setD hD3 (by simp) _
  rw [putK_new hnew] at t4 ⊢
  have hD4 : upd H3 D (.dK (kvs ++ [(Sum.inr k.n, .ref L)])) D = some (.dK (kvs ++ [(Sum.inr k.n, .ref L)])) := upd_same
  have hL4 := t4.keep _ _ hL3 (by simpa using LD)
  have hk4 := (hk2.sb t3 (by simp)).sb t4 fun p hp q hq => by rw [List.mem_singleton.mp hq]; exact hkD p hp
  have s4 := (s2.trans t3.nil).trans t4
  generalize upd H3 D (.dK (kvs ++ [(Sum.inr k.n, .ref L)])) = H4 at t4 hD4 hL4 hk4 s4
  have s04 : SB [] H H4 := ((t1.nil (ps := [D])).trans s4).drop nD
  have zl := h3.length
  have ll := ledR_len k.rs fun r hr => (rr r hr).1
  refine ⟨_, rfl, r, rfl, ⟨_, SqL.of (s04.keep _ _ h2 nmn)⟩, ?_⟩
  refine for_it (walk_list (xs := zs)) (fun j σ H5 => ∃ (M : Addr) (p5 p6 : Option V), σ = [some (.ref l), some (.ref D), some (.str k.n), some (.bl k.w), some (.ref r), p5, p6, none, none, none, none] /\ SB [D] H1 H5 /\ H5 D = some (.dK (kvs ++ [(Sum.inr k.n, .ref M)])) /\ H5 M = some (.lst ((ledR (k.rs.take j)).map V.str)) /\ M ≠ D /\ LedB K H5 kvs (b.take i))
   ⟨L, o5, o6, rfl, s4, hD4, hL4, LD, hk4⟩ (fun j σ H5 hj h5 => by obtain ⟨_, _, _, _, s, _⟩ := h5; exact (((t1.nil (ps := [D])).trans s).drop nD).sqL nmn (SqL.of h2)) (fun j x σ Hq H5 hj h5 y => ?_) (fun σ H5 h5 => ?_)
  ·obtain ⟨M, p5, p6, rfl, s5, hD5, hM5, MD, hk5⟩ := h5
   obtain ⟨rfl, ey⟩ := y
   obtain ⟨ru, er, hr⟩ := h3.get ey
   have rm := List.mem_of_getElem? er
   have ro := (rr ru rm).1
   have r4' := ro.2.2
   have s05 : SB [] H H5 := ((t1.nil (ps := [D])).trans s5).drop nD
   have d1 := ru.1.deep_parts
   have d2 := ru.2.deep_parts
   have hlen : (ledR (k.rs.take j)).length <= 16 := by
    have := ledR_len (k.rs.take j) fun r hr => (rr r (List.mem_of_mem_take hr)).1
    rw [List.length_take] at this
    omega
   cases (hr : Dp K H x (.tuple [ru.1.enc, ru.2.enc])) with
   | @tup ad us' _ hs' hda =>
   cases hda with
   | cons g1 hda =>
   cases hda with
   | cons g2 hda =>
   cases hda
   rename_i u1 u2
   refine ⟨ad, _, rfl, s05.sqT hs', rfl, _, _, rfl, _, _, rfl, rfl, ?_⟩
   have hv : valV (kvs ++ [(Sum.inr k.n, V.ref M)]) (Sum.inr k.n) = some (.ref M) := valV_last hnew
   refine ⟨_, rfl, _, rfl, D, _, rfl, getK hD5 hv, ?_⟩
   refine ⟨_, rfl, u1, ru.1, rfl, GA.sb g1 s05, by omega, by omega, fun L1 us1 H6 s6 nL1 hL1 hu1 => ?_⟩
   refine ⟨_, rfl, u2, ru.2, rfl, GA.sb g2 (s05.trans s6), by omega, by omega, fun L2 us2 H7 s7 nL2 hL2 hu2 => ?_⟩
   have l1 : us1.length = ru.1.parts := by rw [hu1.length, Gr.ins_len]
   have l2 : us2.length = ru.2.parts := by rw [hu2.length, Gr.ins_len]
   refine ⟨L1, L2, _, _, rfl, rfl, s7.keep _ _ hL1 nmn, hL2, by omega, fun N nN => ?_⟩
   have t8 := SB.new (ps := []) nN (.lst (us1 ++ us2))
   have hN8 : upd H7 N (.lst (us1 ++ us2)) N = some (.lst (us1 ++ us2)) := upd_same
   have hu8 : Bears K (upd H7 N (.lst (us1 ++ us2))) Gr.tEnc (us1 ++ us2) (ru.1.ins ++ ru.2.ins) := ((hu1.sb s7 Gr.noList_tEnc).sb t8 Gr.noList_tEnc).append (hu2.sb t8 Gr.noList_tEnc)
   generalize upd H7 N (.lst (us1 ++ us2)) = H8 at t8 hN8 hu8
   have l12 : (us1 ++ us2).length = ru.1.parts + ru.2.parts := by rw [List.length_append, l1, l2]
   generalize us1 ++ us2 = us at hN8 hu8 l12
   have ul := hu8.length
   have s58 := (s6.trans s7).trans t8
   refine ⟨N, rfl, ⟨_, SqL.of hN8⟩, fun A nA => ?_⟩
   refine lc_seq (walk_list (xs := us)) nA (by omega) (fun m ws _ => ws = ((ru.1.ins ++ ru.2.ins).take m).map fun t => V.str t.1) rfl (fun H9 s9 => s9.sqL nmn (SqL.of hN8)) (fun _ _ _ _ _ h => h) (fun Pv m z Hq H9 ws hm s9 y hR hu fin _ => ?_) (fun ws H9 s9 hA9 hR hu => ?_)
   ·obtain ⟨rfl, ez⟩ := y
    obtain ⟨tr, et, ht⟩ := hu8.get ez
    cases (ht : Dp K H8 z (.tuple [.str tr.1, tr.2.enc])) with
    | @tup ad2 us2' _ hs2 hda2 =>
    cases hda2 with
    | cons c1 hda2 =>
    cases hda2 with
    | cons c2 hda2 =>
    cases hda2
    cases c1
    refine ⟨rfl, _, rfl, ad2, _, _, _, rfl, rfl, s9.sqT hs2, atI_nat (j := 0) rfl, fin _ _ SB.refl ?_⟩
    rw [hR, List.take_add_one, et, List.map_append]; rfl
   ·subst hR
    rw [ul, List.take_length] at hA9
    have s59 := s58.trans s9
    have hD9 := s59.keep _ _ hD5 nmn
    have hM9 := s59.keep _ _ hM5 nmn
    refine ⟨M, A, _, _, rfl, rfl, hM9, hA9, by rw [List.length_map, List.length_map]; omega, fun T nT => ?_⟩
    have t10 := SB.new (ps := []) nT (.lst ((ledR (k.rs.take j)).map V.str ++ (ru.1.ins ++ ru.2.ins).map fun t => V.str t.1))
    have hT : upd H9 T (.lst ((ledR (k.rs.take j)).map V.str ++ (ru.1.ins ++ ru.2.ins).map fun t => V.str t.1)) T = some (.lst ((ledR (k.rs.take (j + 1))).map V.str)) := by
     rw [upd_same, ledR_snoc er]; simp [Function.comp_def]
    have hD10 := t10.keep _ _ hD9 nmn
    have TD : T ≠ D := fun z => by rw [z, hD9] at nT; cases nT
    generalize upd H9 T (.lst ((ledR (k.rs.take j)).map V.str ++ (ru.1.ins ++ ru.2.ins).map fun t => V.str t.1)) = H10 at t10 hT hD10
    refine ⟨_, rfl, _, rfl, D, _, rfl, DPut.k (k := Sum.inr k.n) hD10 (by rw [List.length_append, List.length_singleton]; omega), ?_⟩
    have t11 : SB [D] H10 (upd H10 D (.dK (putK (kvs ++ [(Sum.inr k.n, .ref M)]) (Sum.inr k.n) (.ref T)))) := SB.setD hD10 (by simp) _
    rw [putK_last hnew] at t11 ⊢
    refine ⟨T, _, _, rfl, ((s5.trans s59.nil).trans t10.nil).trans t11, upd_same, t11.keep _ _ hT (by simpa using TD), TD, ?_⟩
    exact (hk5.sb (s59.trans t10) (by simp)).sb t11 fun p hp q hq => by rw [List.mem_singleton.mp hq]; exact hkD p hp
  ·obtain ⟨M, p5, p6, rfl, s5, hD5, hM5, MD, hk5⟩ := h5
   rw [zl, List.take_length] at hM5
   refine ⟨_, _, _, _, _, _, rfl, s5, hD5, ?_, ?_⟩
   ·rw [List.take_add_one, ek]
    exact hk5.append (.cons hM5 .nil)
   ·intro p hp
    rcases List.mem_append.mp hp with hp | hp
    ·exact hkD p hp
    ·rw [List.mem_singleton.mp hp]; exact fun z => MD (V.ref.inj z)
 obtain ⟨kvs, o2, o3, o4, o5, o6, rfl, s2, hD2, hk2, hkD⟩ := h2
 have s02 : SB [] H H2 := ((t1.nil (ps := [D])).trans s2).drop nD
 rw [xl, List.take_length] at hk2
 have kl := hk2.length
 have nml : b.names.length = b.length := List.length_map ..
 clear hD1 s2 t1
 refine ⟨_, rfl, D, kvs, b.names, rfl, .inl hD2, hk2.keys, by omega, fun ys p pm srt np => ?_⟩
 have t3 := SB.new (ps := []) np (.lst (ys.map V.str))
 have hp3 : upd H2 p (.lst (ys.map V.str)) p = some (.lst (ys.map V.str)) := upd_same
 have hD3 := t3.keep _ _ hD2 nmn
 have hk3 := hk2.sb t3 (by simp)
 have np0 := s02.dom _ np
 generalize upd H2 p (.lst (ys.map V.str)) = H3 at t3 hp3 hD3 hk3
 have s03 := s02.trans t3
 have yl : ys.length <= 8 := by rw [pm.length_eq]; omega
 refine ⟨_, rfl, l, xs, rfl, .inl (SqL.of (s03.keep _ _ hl nmn)), _, rfl, by omega, by omega, ?_⟩
 have xe : ((xs.length : Nat) : Int).toNat = xs.length := Int.toNat_natCast _
 refine for_it (walk_range (lo := 0) (n := ((xs.length : Nat) : Int).toNat)) (fun i σ H4 => SB [] H3 H4 /\ ∃ (L : Addr) (o7 : Option V), σ = [some (.ref l), some (.ref D), o2, o3, o4, o5, o6, some (.ref L), o7, none, none] /\ H L = none /\ H4 L = some (.lst ((lft b ys i).map V.str)))
  ⟨SB.refl, p, none, rfl, np0, hp3⟩ (fun _ _ _ _ _ => trivial) (fun i x σ Hq H4 hi h4 y => ?_) (fun σ H4 h4 => ?_)
 ·obtain ⟨s4, L, o7, rfl, nL, hL4⟩ := h4
  obtain ⟨rfl, rfl⟩ := y
  have ll := lft_len (b := b) (ss := ys) i
  have hD4 := s4.keep _ _ hD3 nmn
  have hk4 := hk3.sb s4 (by simp)
  refine ⟨_, rfl, L, rfl, ⟨_, SqL.of hL4⟩, fun A nA => ?_⟩
  refine lc_seq (walk_list (xs := (lft b ys i).map V.str)) nA (by rw [List.length_map]; omega) (fun j us _ => us = (((lft b ys i).take j).filter fun n => (adj b n).any fun k => decide (k ∈ lft b ys i)).map V.str) rfl (fun H5 s5 => s5.sqL nmn (SqL.of hL4)) (fun _ _ _ _ _ h => h) (fun Pv j x Hq H5 us hj s5 y hR hu fin skip => ?_) (fun us H5 s5 hA5 hR hu => ?_)
  ·obtain ⟨rfl, ez⟩ := y
   rw [List.getElem?_map] at ez
   obtain ⟨n, en, rfl⟩ := Option.map_eq_some_iff.mp ez
   have hn : n ∈ b.names := pm.mem_iff.mp (lft_sub (List.mem_of_getElem? en))
   have hst := filt_step (fun n => (adj b n).any fun k => decide (k ∈ lft b ys i)) en
   obtain ⟨kd, eg⟩ := Bk.get_of hn
   have hD5 := s5.keep _ _ hD4 nmn
   have hL5 := s5.keep _ _ hL4 nmn
   obtain ⟨ll5, hv, hll⟩ := (hk4.sb s5 (by simp)).val eg
   have eadj := adj_get eg
   have kdm := (Bk.get_some eg).1
   have adl : (adj b n).length <= 16 := by
    have h1 := ledR_len kd.rs fun r hr => ((ok.kd kd kdm).2.2 r hr).1
    have h2 := (ok.kd kd kdm).2.1
    rw [eadj]; omega
   rw [<- eadj] at hll
   refine ⟨rfl, _, rfl, _, rfl, D, _, rfl, getK hD5 hv, ll5, rfl, ⟨_, SqL.of hll⟩, fun A2 nA2 => ?_⟩
   refine lc_seq (walk_list (xs := (adj b n).map V.str)) nA2 (by rw [List.length_map]; omega) (fun m us _ => us = (((adj b n).take m).map fun k => decide (k ∈ lft b ys i)).map V.bl) rfl (fun H6 s6 => s6.sqL nmn (SqL.of hll)) (fun _ _ _ _ _ h => h) (fun Pv m z Hq H6 us6 hm s6 y hR6 hu6 fin6 _ => ?_) (fun us6 H6 s6 hA6 hR6 hu6 => ?_)
   ·obtain ⟨rfl, ez⟩ := y
    rw [List.getElem?_map] at ez
    obtain ⟨k, ek, rfl⟩ := Option.map_eq_some_iff.mp ez
    refine ⟨rfl, _, rfl, _, rfl, L, _, rfl, .inl (SqL.of (s6.keep _ _ hL5 nmn)), rfl, flat_strs _, ?_⟩
    rw [if_neg (by decide), inV_strs]
    refine fin6 _ _ SB.refl ?_
    rw [hR6, List.take_add_one, ek]; simp
   ·subst hR6
    refine ⟨A2, _, rfl, SqL.of hA6, _, rfl, ?_⟩
    rw [List.length_map, List.take_length]
    have hany2 : (((adj b n).map fun k => decide (k ∈ lft b ys i)).any id) = (adj b n).any fun k => decide (k ∈ lft b ys i) := by rw [List.any_map]; rfl
    by_cases hz : ((adj b n).any fun k => decide (k ∈ lft b ys i)) = true
    ·rw [hany2, hz]
     refine iteT ⟨_, rfl, fin _ _ s6 ?_⟩
     rw [hst, if_pos hz, hR]
    ·rw [hany2, eq_false_of_ne_true hz]
     refine iteF (skip _ s6 ?_)
     rw [hst, if_neg hz, hR, List.append_nil]
  ·subst hR
   rw [List.length_map, List.take_length] at hA5
   refine ⟨s4.trans s5, A, _, rfl, ?_, hA5⟩
   exact s03.dom _ (s4.dom _ nA)
 ·obtain ⟨s4, L, o7, rfl, nL, hL4⟩ := h4
  rw [xe, xl] at hL4
  have ll := lft_len (b := b) (ss := ys) b.length
  exact ⟨_, rfl, q L _ H4 (s03.trans s4) nL hL4 (by omega) (lft_all ok fun x => pm.mem_iff)⟩
theorem sc_NoKind___init__ : FnScope ["self", "kind"] ["self", "kind"] (defScope s_NoKind___init__) := ⟨rfl, rfl, rfl, by decide +kernel, rfl, by decide +kernel, by decide +kernel⟩
theorem ok_NoKind___init__ {C : Addr} (F : Fun K "__init__" "NoKind.__init__" s_NoKind___init__ f fd) : FnOk P w K mg base CX0 1 f fd ["self", "kind"] (spKindI K C) := by
 refine F.ok sc_NoKind___init__ (fun vs H Q E h => ?_) (fun cdv A outer s H vs Q E hr h => ?_)
 ·obtain ⟨a, y, rfl, _⟩ := h
  rfl
 obtain ⟨a, y, rfl, T, no, ha, q⟩ := h
 refine ⟨_, pss_one (ps_ost (pv 0) (pv 1)), ?_⟩
 exact ⟨_, rfl, _, rfl, a, C, rfl, T, no, .inl ⟨ha, q⟩⟩
theorem sc_Endless___init__ : FnScope ["self", "kind"] ["self", "kind"] (defScope s_Endless___init__) := ⟨rfl, rfl, rfl, by decide +kernel, rfl, by decide +kernel, by decide +kernel⟩
theorem ok_Endless___init__ {C : Addr} (F : Fun K "__init__" "Endless.__init__" s_Endless___init__ f fd) : FnOk P w K mg base CX0 1 f fd ["self", "kind"] (spKindI K C) := by
 refine F.ok sc_Endless___init__ (fun vs H Q E h => ?_) (fun cdv A outer s H vs Q E hr h => ?_)
 ·obtain ⟨a, y, rfl, _⟩ := h
  rfl
 obtain ⟨a, y, rfl, T, no, ha, q⟩ := h
 refine ⟨_, pss_one (ps_ost (pv 0) (pv 1)), ?_⟩
 exact ⟨_, rfl, _, rfl, a, C, rfl, T, no, .inl ⟨ha, q⟩⟩
abbrev N_Book___init__ : List Str := ["self", "kinds", "name", "spreading", "rows"]
theorem sc_Book___init__ : FnScope N_Book___init__ ["self", "kinds"] (defScope s_Book___init__) := ⟨rfl, rfl, rfl, by decide +kernel, rfl, by decide +kernel, by decide +kernel⟩
theorem ok_Book___init__ {C_NoBook C_Book : Addr} (B : BI mg) (O_NoBook : Own K mg "NoBook" C_NoBook) (T_Book : ClsF K C_Book ["spread_by_name", "rows_by_name"]) (G_are_kinds : Got P w K mg base "are_kinds" ["things"] (87) (spAreKinds K)) (F : Fun K "__init__" "Book.__init__" s_Book___init__ f fd) : FnOk P w K mg base (L2.CX P w) (88) f fd ["self", "kinds"] (spBInit K C_Book C_NoBook) := by
 refine F.okX sc_Book___init__ (fun vs H Q E h => ?_) (fun cdv A outer s H vs Q E hr h => ?_)
 ·obtain ⟨x, dx, l, xs, ts, rfl, _⟩ := h
  rfl
 obtain ⟨x, dx, l, xs, ts, rfl, hx, hdx, hs, ha, hf, hl, q, qE⟩ := h
 have hun2 := hunT hr
 refine ⟨_, pss_cons (ps_if (pt_not (pt_val (pe_got G_are_kinds (hr.mono (by omega)) rfl (pa_cons (pv 1) pa_nil)))) (pss_one (ps_raise rfl (takes_of rfl rfl rfl rfl) (pmk_own PySem.F.excBase_ValueError O_NoBook.q O_NoBook.gC O_NoBook.k (raises_own O_NoBook.s O_NoBook.t) rfl))) pss_nil)
  (pss_cons (ps_fld (pv 0) (pe_dc (own := [("name", 2), ("spreading", 3), ("rows", 4)]) (g := (gTup K 3 (gCons (gName 2) (gCons (gName 3) (gCons (gName 4) gNil))))) (tt := tYes) (tk := (tVar 2)) (tv := (tVar 3)) rfl sc_Book___init__.nd (pi_list (pv 1)) (blkOk_by (N := N_Book___init__) (sc := defScope s_Book___init__) (by decide +kernel)) (fun _ _ _ _ _ => (pg_tup rfl (pgs_cons (pg_name (i := 2) sc_Book___init__.nd rfl (.inl rfl)) (pgs_cons (pg_name (i := 3) sc_Book___init__.nd rfl (.inl rfl)) (pgs_cons (pg_name (i := 4) sc_Book___init__.nd rfl (.inl rfl)) pgs_nil))))) (fun _ _ _ _ _ => pts_nil) (fun _ _ _ _ _ => (pv 2)) (fun _ _ _ _ _ => (pv 3))) rfl)
  (pss_one (ps_fld (pv 0) (pe_dc (own := [("name", 2), ("spreading", 3), ("rows", 4)]) (g := (gTup K 3 (gCons (gName 2) (gCons (gName 3) (gCons (gName 4) gNil))))) (tt := tYes) (tk := (tVar 2)) (tv := (tCB (fun xs H Q => ∃ p ys, xs = [.ref p] /\ ((SqL K H p ys /\ ∀ l, H l = none -> Q (.ref l) (upd H l (.tup ys))) \/ (SqT K H p ys /\ Q (.ref p) H))) (tCons (tVar 4) tNil))) rfl sc_Book___init__.nd (pi_list (pv 1)) (blkOk_by (N := N_Book___init__) (sc := defScope s_Book___init__) (by decide +kernel)) (fun _ _ _ _ _ => (pg_tup rfl (pgs_cons (pg_name (i := 2) sc_Book___init__.nd rfl (.inl rfl)) (pgs_cons (pg_name (i := 3) sc_Book___init__.nd rfl (.inl rfl)) (pgs_cons (pg_name (i := 4) sc_Book___init__.nd rfl (.inl rfl)) pgs_nil))))) (fun _ _ _ _ _ => pts_nil) (fun _ _ _ _ _ => (pv 2)) (fun _ _ _ _ _ => (pe_callTy call_tuple_of rfl B.tuple boot_tuple (pa_cons (pv 4) pa_nil)))) rfl))), ?_⟩
 refine ⟨_, rfl, l, xs, ts, rfl, SqL.of hs, ha, hf, hl, fun b H1 s1 hb => ?_⟩
 refine ⟨_, rfl, ?_⟩
 cases b with
 | false => exact iteT (qE (fun z => nomatch (hb.mpr z)) H1 s1)
 | true =>
 refine iteF ?_
 obtain ⟨bk, et, ok⟩ := hb.mp rfl
 subst et
 have q2 := q bk rfl ok
 have ha1 := (ha.sb s1).kd
 have hs1 := s1.keep _ _ hs nmn
 have hx1 := s1.keep _ _ hx nmn
 have xlen := ha1.length
 have szl := sizeLine_eq
 have b8 := ok.len
 have hlx : l ≠ x := ne_of hs hx (fun z => nomatch z)
 refine ⟨_, rfl, l, rfl, ⟨_, SqL.of hs1⟩, fun D hD => ?_⟩
 refine dc_seq (walk_list (xs := xs)) hD (by omega) (fun i kvs _ => kvs = Bk.spKV (bk.take i)) rfl (fun H2 s2 => s2.sqL nmn (SqL.of hs1)) (fun _ _ _ _ _ h => h) (fun Pv i y H2 H' kvs hi s2 yy hR hl2 fin _ => ?_) (fun kvs H2 s2 hD2 hR _ => ?_)
 ·obtain ⟨rfl, ey⟩ := yy
  obtain ⟨k, ek, t, r, zs, rfl, h1, h2, h3, _⟩ := ha1.get ey
  refine ⟨t, _, rfl, s2.sqT h1, rfl, _, _, rfl, _, _, rfl, _, _, rfl, rfl, rfl, ?_⟩
  refine ⟨_, rfl, _, rfl, fin (Sum.inr k.n) _ _ SB.refl ?_⟩
  rw [hR, putK_new, List.take_add_one, ek, Option.toList_some, Bk.spKV, Bk.spKV, List.map_append]
  ·rfl
  ·intro p hp e
   obtain ⟨j, hj, rfl⟩ := List.mem_map.mp hp
   injection e with e
   exact Bk.nodup_at ok.nd ek j hj e
 ·rw [xlen, List.take_length] at hR
  subst hR
  have hx2 := s2.keep _ _ hx1 nmn
  have hl2 := s2.keep _ _ hs1 nmn
  have ha2 := ha1.sb s2 NoLst.nil
  refine ⟨_, rfl, x, _, dx, _, rfl, hx2, T_Book.c, T_Book.no _ (by simp), by decide, ?_⟩
  have e1 : putF (Str.ofString "spread_by_name") (V.ref D) [] = [(Str.ofString "spread_by_name", V.ref D)] := rfl
  rw [e1]
  have t3 : SB [x] H2 (upd H2 x (.ins C_Book dx [(Str.ofString "spread_by_name", V.ref D)])) := SB.setG hx2 (by simp) (fun _ z => nomatch z) (fun _ _ z => nomatch z) _
  have nl3 : NoLst H2 [] [x] := fun p hp => .inr fun xs z => by rw [List.mem_singleton.mp hp, hx2] at z; cases z
  have ha3 := ha2.sb t3 nl3
  have hl3 := t3.keep _ _ hl2 (by simpa using hlx)
  have hx3 : upd H2 x (.ins C_Book dx [(Str.ofString "spread_by_name", V.ref D)]) x = some (.ins C_Book dx [(Str.ofString "spread_by_name", V.ref D)]) := upd_same
  have hD3 := t3.keep _ _ hD2 (by simpa using ne_of hD2 hx2 (fun z => nomatch z))
  have s03 := ((s1.trans s2).nil (ps := [x])).trans t3
  generalize upd H2 x (.ins C_Book dx [(Str.ofString "spread_by_name", V.ref D)]) = H3 at t3 ha3 hl3 hx3 hD3 s03
  refine ⟨_, rfl, l, rfl, ⟨_, SqL.of hl3⟩, fun D2 hn2 => ?_⟩
  refine dc_seq (walk_list (xs := xs)) hn2 (by omega) (fun i kvs H4 => ∃ us, kvs = Bk.rowKV (bk.take i) us /\ Bears K H4 Kd.rowE us (bk.take i)) ⟨[], rfl, .nil⟩ (fun H4 s4 => s4.sqL nmn (SqL.of hl3)) (fun i us H4 H5 s5 ⟨us', e, hb⟩ => ⟨us', e, hb.sb s5 Kd.noList_rowE⟩) (fun Pv i y H4 H' kvs hi s4 yy hR hl4 fin _ => ?_) (fun kvs H4 s4 hD4 hR _ => ?_)
  ·obtain ⟨rfl, ey⟩ := yy
   obtain ⟨us, rfl, hb⟩ := hR
   obtain ⟨k, ek, t, r, zs, rfl, h1, h2, h3, _⟩ := ha3.get ey
   refine ⟨t, _, rfl, s4.sqT h1, rfl, _, _, rfl, _, _, rfl, _, _, rfl, rfl, rfl, ?_⟩
   refine ⟨_, rfl, _, rfl, r, zs, rfl, .inl ⟨SqL.of (s4.keep _ _ h2 nmn), fun p hp => ?_⟩⟩
   have t5 := SB.new (ps := []) hp (.tup zs)
   refine fin (Sum.inr k.n) _ _ t5 ⟨us ++ [.ref p], ?_, ?_⟩
   ·rw [putK_new, List.take_add_one, ek, Option.toList_some, Bk.rowKV, Bk.rowKV, List.zipWith_append hb.length.symm]
    ·rfl
    ·intro p hp e
     obtain ⟨j, hj, e2⟩ := rowKV_mem hp
     rw [e2] at e
     injection e with e
     exact Bk.nodup_at ok.nd ek j hj e
   ·rw [List.take_add_one, ek, Option.toList_some]
    exact Bears.append (hb.sb t5 Kd.noList_rowE) (.cons (.tup (.inl (.inl upd_same)) (Bears.dp ((h3.sb s4 Ru.noList_enc).sb t5 Ru.noList_enc))) .nil)
  ·rw [xlen, List.take_length] at hR
   obtain ⟨us, rfl, hb⟩ := hR
   have hx4 := s4.keep _ _ hx3 nmn
   refine ⟨_, rfl, x, _, dx, _, rfl, hx4, T_Book.c, T_Book.no _ (by simp), by simp, ?_⟩
   have t5 : SB [x] H4 (upd H4 x (.ins C_Book dx (bkF D D2))) := SB.setG hx4 (by simp) (fun _ z => nomatch z) (fun _ _ z => nomatch z) _
   refine q2 _ ((s03.trans s4.nil).trans t5) ⟨x, dx, D, D2, us, rfl, upd_same, ?_, ?_, hb.sb t5 Kd.noList_rowE⟩
   ·exact t5.keep _ _ (s4.keep _ _ hD3 nmn) (by simpa using ne_of (s4.keep _ _ hD3 nmn) hx4 (fun z => nomatch z))
   ·exact t5.keep _ _ hD4 (by simpa using ne_of hD4 hx4 (fun z => nomatch z))
abbrev N_Book_names : List Str := ["self"]
theorem sc_Book_names : FnScope N_Book_names ["self"] (defScope s_Book_names) := ⟨rfl, rfl, rfl, by decide +kernel, rfl, by decide +kernel, by decide +kernel⟩
theorem ok_Book_names {C_Book : Addr} (B : BI mg) (T_Book : ClsF K C_Book ["spread_by_name", "rows_by_name"]) (F : Fun K "names" "Book.names" s_Book_names f fd) : FnOk P w K mg base CX0 (1) f fd ["self"] (spBNames K C_Book) := by
 refine F.ok sc_Book_names (fun vs H Q E h => ?_) (fun cdv A outer s H vs Q E hr h => ?_)
 ·obtain ⟨v, b, rfl, _⟩ := h
  rfl
 obtain ⟨v, b, rfl, hb, hl, q⟩ := h
 have hun2 := hunT hr
 refine ⟨_, pss_one (ps_ret (pe_callTy (call_listD rfl) rfl B.list boot_list (pa_cons (pe_fld (pv 0) rfl) pa_nil))), ?_⟩
 obtain ⟨a, dx, d1, d2, us, rfl, h1, h2, h3, h4⟩ := hb
 refine ⟨_, rfl, a, _, dx, _, _, rfl, h1, T_Book.c, T_Book.no _ (by simp), rfl, d1, _, rfl, .inl h2, fun p hp => ?_⟩
 exact q p _ (SB.new hp _) hp (by rw [upd_same, Bk.spKV, List.map_map, List.map_map]; rfl)
abbrev N_Book_spreads : List Str := ["self", "name"]
theorem sc_Book_spreads : FnScope N_Book_spreads ["self", "name"] (defScope s_Book_spreads) := ⟨rfl, rfl, rfl, by decide +kernel, rfl, by decide +kernel, by decide +kernel⟩
theorem ok_Book_spreads {C_Book C_NoKind : Addr} (B : BI mg) (T_Book : ClsF K C_Book ["spread_by_name", "rows_by_name"]) (G_check_kind : GotX P w K mg base "check_kind" ["book", "name"] (3) (spCheckK K C_Book C_NoKind)) (F : Fun K "spreads" "Book.spreads" s_Book_spreads f fd) : FnOk P w K mg base (L2.CX P w) (4) f fd ["self", "name"] (spBSpreads K C_Book C_NoKind) := by
 refine F.okX sc_Book_spreads (fun vs H Q E h => ?_) (fun cdv A outer s H vs Q E hr h => ?_)
 ·obtain ⟨v, b, n, rfl, _⟩ := h
  rfl
 obtain ⟨v, b, n, rfl, hb, hl, qk, qE⟩ := h
 have hun2 := hunT hr
 refine ⟨_, pss_cons (ps_expr (pe_gotS G_check_kind (hr.mono (by omega)) rfl (takes_of rfl rfl rfl rfl) (pa_cons (pv 0) (pa_cons (pv 1) pa_nil))))
  (pss_one (ps_ret (pe_dget (by show A.units + 3 + 1 < cLine; omega) (pe_fld (pv 0) rfl) (pv 1) (fun _ _ => rfl)))), ?_⟩
 refine ⟨_, rfl, _, rfl, _, b, n, rfl, hb, hl, fun k e H1 s1 => ?_, qE⟩
 obtain ⟨a, dx, d1, d2, us, rfl, h1, h2, h3, h4⟩ := hb.sb0 s1
 refine ⟨_, rfl, a, _, dx, _, _, rfl, h1, T_Book.c, T_Book.no _ (by simp), rfl, _, rfl, d1, V.bl k.w, rfl, getK h2 (by rw [Bk.spKV_val, e]; rfl), qk k e H1 s1⟩
abbrev N_Book_rules : List Str := ["self", "name"]
theorem sc_Book_rules : FnScope N_Book_rules ["self", "name"] (defScope s_Book_rules) := ⟨rfl, rfl, rfl, by decide +kernel, rfl, by decide +kernel, by decide +kernel⟩
theorem ok_Book_rules {C_Book C_NoKind : Addr} (B : BI mg) (T_Book : ClsF K C_Book ["spread_by_name", "rows_by_name"]) (G_check_kind : GotX P w K mg base "check_kind" ["book", "name"] (3) (spCheckK K C_Book C_NoKind)) (F : Fun K "rules" "Book.rules" s_Book_rules f fd) : FnOk P w K mg base (L2.CX P w) (4) f fd ["self", "name"] (spBRules K C_Book C_NoKind) := by
 refine F.okX sc_Book_rules (fun vs H Q E h => ?_) (fun cdv A outer s H vs Q E hr h => ?_)
 ·obtain ⟨v, b, n, rfl, _⟩ := h
  rfl
 obtain ⟨v, b, n, rfl, hb, hl, hr4, qk, qE⟩ := h
 have hun2 := hunT hr
 refine ⟨_, pss_cons (ps_expr (pe_gotS G_check_kind (hr.mono (by omega)) rfl (takes_of rfl rfl rfl rfl) (pa_cons (pv 0) (pa_cons (pv 1) pa_nil))))
  (pss_one (ps_ret (pe_callTy call_list_of rfl B.list boot_list (pa_cons (pe_dget (by show A.units + 3 + 1 < cLine; omega) (pe_fld (pv 0) rfl) (pv 1) (fun _ _ => rfl)) pa_nil)))), ?_⟩
 refine ⟨_, rfl, _, rfl, _, b, n, rfl, hb, hl, fun k e H1 s1 => ?_, qE⟩
 obtain ⟨a, dx, d1, d2, us, rfl, h1, h2, h3, h4⟩ := hb.sb0 s1
 obtain ⟨u, hv, hu⟩ := Bk.rowKV_val n h4 e
 refine ⟨_, rfl, a, _, dx, _, _, rfl, h1, T_Book.c, T_Book.no _ (by simp), rfl, _, rfl, d2, u, rfl, getK h3 hv, ?_⟩
 cases hu with
 | tup ht hd => exact ⟨_, _, rfl, .inr ht, fun l hl => qk k e l _ _ (s1.trans (SB.new hl _)) (s1.dom l hl) upd_same ((Bears.of hd).sb (SB.new (ps := []) hl _) Ru.noList_enc)⟩
abbrev N__law_alone : List Str := ["_law_e", "_law_wanted"]
theorem sc__law_alone : FnScope N__law_alone ["_law_e", "_law_wanted"] (defScope s__law_alone) := ⟨rfl, rfl, rfl, by decide +kernel, rfl, by decide +kernel, by decide +kernel⟩
theorem ok__law_alone {c : Str -> Addr} (B : BI mg) (T : ErrsM K mg c eC eN eK) (F : Fun K "_law_alone" "_law_alone" s__law_alone f fd) : FnP P w K mg base (1) f fd ["_law_e", "_law_wanted"] (spAlone42 K c eC) := by
 refine okP F sc__law_alone (fun a oe vs H Q E h => ?_) (fun cdv A outer s H vs Q E a oe hr h => ?_)
 ·obtain ⟨n, wd, d, rfl, hz, hf, _⟩ := h
  rfl
 obtain ⟨n, wd, d, rfl, hz, hf, hw, hn, hd, q⟩ := h
 have hun2 : A.units + 3 + 200 < cLine := by have := hr.un; have h3 : (A.deeper (envOfC "_law_alone" (defScope s__law_alone) s.heap.objs.size f cdv)).units = A.units + 3 := rfl; omega
 refine ⟨_, pss_cons (ps_if (PW.pt (pw_or (pt_val (pe_callB (call_isEgT (.head _) hz hf) rfl B.isinstance boot_isinstance (pa_cons (pv 0) (pa_cons (pe_tup (pa_cons (pe_glob (v := .ref (c "NoBook")) rfl (T.glo "NoBook" (.tail _ (.tail _ (.head _)))) rfl) (pa_cons (pe_glob (v := .ref (c "NoGrove")) rfl (T.glo "NoGrove" (.head _)) rfl) (pa_cons (pe_glob (v := .ref (c "NoNumber")) rfl (T.glo "NoNumber" (.tail _ (.tail _ (.tail _ (.tail _ (.tail _ (.head _))))))) rfl) (pa_cons (pe_glob (v := .ref (c "NoPlace")) rfl (T.glo "NoPlace" (.tail _ (.head _))) rfl) (pa_cons (pe_glob (v := .ref (c "NoRule")) rfl (T.glo "NoRule" (.tail _ (.tail _ (.tail _ (.tail _ (.head _)))))) rfl) (pa_cons (pe_glob (v := .ref (c "NoWorths")) rfl (T.glo "NoWorths" (.tail _ (.tail _ (.tail _ (.tail _ (.tail _ (.tail _ (.tail _ (.head _))))))))) rfl) pa_nil))))))) pa_nil)))) (pw_or1 (pt_not (pt_val (pe_callB (call_isEg (.head _) hz hf) rfl B.isinstance boot_isinstance (pa_cons (pv 0) (pa_cons (pe_ty (T' := "ValueError") rfl T.ve rfl) pa_nil)))))))) (pss_one (ps_ret pe_bl)) pss_nil)
  (pss_one (ps_ret (pe_and (pe_cmpR op_eq (pe_callB (call_isEg (.head _) hz hf) rfl B.isinstance boot_isinstance (pa_cons (pv 0) (pa_cons (pe_glob (v := .ref (c "NoKind")) rfl (T.glo "NoKind" (.tail _ (.tail _ (.tail _ (.head _))))) rfl) pa_nil))) (pe_cmpR op_eq (pv 1) pe_str (nomark _)) (nomark _)) (pe_one (pe_cmpR op_eq (pe_callB (call_isEg (.head _) hz hf) rfl B.isinstance boot_isinstance (pa_cons (pv 0) (pa_cons (pe_glob (v := .ref (c "Endless")) rfl (T.glo "Endless" (.tail _ (.tail _ (.tail _ (.tail _ (.tail _ (.tail _ (.head _)))))))) rfl) pa_nil))) (pe_cmpR op_eq (pv 1) pe_str (nomark _)) (nomark _)))))), ?_⟩
 refine ⟨_, rfl, by show 6 <= sizeLine; decide, fun t1 ht1 => ?_⟩
 have hd1 := hd.sb (SB.new (ps := []) ht1 (.tup ((["NoBook", "NoGrove", "NoNumber", "NoPlace", "NoRule", "NoWorths"] : List Str).map fun n => V.ref (c n))))
 have st := SB.new (ps := []) ht1 (.tup ((["NoBook", "NoGrove", "NoNumber", "NoPlace", "NoRule", "NoWorths"] : List Str).map fun n => V.ref (c n)))
 rcases hw with ⟨rfl, rfl⟩ | ⟨rfl, rfl⟩
 ·refine ⟨_, t1, _, _, _, rfl, T.exc _ hn, hd1, rfl, upd_same, paired_refs ["NoBook", "NoGrove", "NoNumber", "NoPlace", "NoRule", "NoWorths"], T.no hn (ms := ["NoBook", "NoGrove", "NoNumber", "NoPlace", "NoRule", "NoWorths"]) (by decide +kernel) (by decide +kernel), ?_⟩
  refine ⟨_, rfl, iteF ?_⟩
  refine ⟨_, rfl, _, _, _, _, rfl, T.exc _ hn, hd1, rfl, fun u r => r, T.kve _ hn, _, rfl, iteF (nextI ?_)⟩
  refine ⟨_, rfl, _, _, _, _, rfl, T.exc _ hn, hd1, rfl, fun u r => r, T.is hn (by decide +kernel), ?_⟩
  refine ⟨_, rfl, rfl, ?_⟩
  rw [show decide (V.str "kind" = V.str (Str.ofString "kind")) = true from decide_eq_true rfl]
  refine ⟨rfl, _, rfl, ?_⟩
  rw [show decide (V.bl true = V.bl true) = true from decide_eq_true rfl, if_pos rfl]
  refine ⟨_, rfl, _, _, _, _, rfl, T.exc _ hn, hd1, rfl, fun u r => r, T.isno hn (by decide +kernel) (by decide +kernel), ?_⟩
  refine ⟨_, rfl, rfl, ?_⟩
  rw [show decide (V.str "kind" = V.str (Str.ofString "endless")) = false from decide_eq_false (by decide +kernel)]
  refine ⟨rfl, ?_⟩
  rw [show decide (V.bl false = V.bl false) = true from decide_eq_true rfl]
  exact q _ st
 ·refine ⟨_, t1, _, _, _, rfl, T.exc _ hn, hd1, rfl, upd_same, paired_refs ["NoBook", "NoGrove", "NoNumber", "NoPlace", "NoRule", "NoWorths"], T.no hn (ms := ["NoBook", "NoGrove", "NoNumber", "NoPlace", "NoRule", "NoWorths"]) (by decide +kernel) (by decide +kernel), ?_⟩
  refine ⟨_, rfl, iteF ?_⟩
  refine ⟨_, rfl, _, _, _, _, rfl, T.exc _ hn, hd1, rfl, fun u r => r, T.kve _ hn, _, rfl, iteF (nextI ?_)⟩
  refine ⟨_, rfl, _, _, _, _, rfl, T.exc _ hn, hd1, rfl, fun u r => r, T.isno hn (by decide +kernel) (by decide +kernel), ?_⟩
  refine ⟨_, rfl, rfl, ?_⟩
  rw [show decide (V.str "endless" = V.str (Str.ofString "kind")) = false from decide_eq_false (by decide +kernel)]
  refine ⟨rfl, _, rfl, ?_⟩
  rw [show decide (V.bl false = V.bl false) = true from decide_eq_true rfl, if_pos rfl]
  refine ⟨_, rfl, _, _, _, _, rfl, T.exc _ hn, hd1, rfl, fun u r => r, T.is hn (by decide +kernel), ?_⟩
  refine ⟨_, rfl, rfl, ?_⟩
  rw [show decide (V.str "endless" = V.str (Str.ofString "endless")) = true from decide_eq_true rfl]
  refine ⟨rfl, ?_⟩
  rw [show decide (V.bl true = V.bl true) = true from decide_eq_true rfl]
  exact q _ st
abbrev N__law_asked : List Str := ["_law_turn", "_law_book_here", "_law_worths", "_law_grove_here"]
theorem sc__law_asked : FnScope N__law_asked ["_law_turn", "_law_book_here", "_law_worths", "_law_grove_here"] (defScope s__law_asked) := ⟨rfl, rfl, rfl, by decide +kernel, rfl, by decide +kernel, by decide +kernel⟩
theorem ok__law_asked {C_Book C_NoKind C_Endless : Addr} (B : BI mg) (G_rank : GotX P w K mg base "rank" ["book", "grove"] (73) (spRank42 K C_Book C_NoKind C_Endless)) (G_table : GotX P w K mg base "table" ["book", "grove"] (73) (spTab42 K C_Book C_NoKind C_Endless)) (G_is_table : GotX P w K mg base "is_table" ["book", "grove", "thing"] (73) (spIsT42 K C_Book C_NoKind)) (G_worth : GotX P w K mg base "worth" ["book", "worths", "grove"] (73) (spWor42 K C_Book C_NoKind)) (G_own_rank : GotX P w K mg base "own_rank" ["book", "name"] (74) (spOwn42 K C_Book C_NoKind C_Endless)) (F : Fun K "_law_asked" "_law_asked" s__law_asked f fd) : FnOk P w K mg base (L2.CX P w) (76) f fd ["_law_turn", "_law_book_here", "_law_worths", "_law_grove_here"] (spAsk42 K C_Book C_NoKind C_Endless) := by
 refine F.okX sc__law_asked (fun vs H Q E h => ?_) (fun cdv A outer s H vs Q E hr h => ?_)
 ·obtain ⟨i, v, z, w, b, g, o, rfl, _⟩ := h
  rfl
 obtain ⟨i, v, z, w, b, g, o, rfl, hA, ow, hT, q⟩ := h
 have hun2 := hunT hr
 refine ⟨_, pss_cons (ps_if (pt_cmpR op_eq (pv 0) pe_int (nomark _)) (pss_one (ps_ret (pe_gotS G_rank (hr.mono (by omega)) rfl (takes_of rfl rfl rfl rfl) (pa_cons (pv 1) (pa_cons (pv 3) pa_nil))))) pss_nil)
  (pss_cons (ps_if (pt_cmpR op_eq (pv 0) pe_int (nomark _)) (pss_one (ps_ret (pe_gotS G_table (hr.mono (by omega)) rfl (takes_of rfl rfl rfl rfl) (pa_cons (pv 1) (pa_cons (pv 3) pa_nil))))) pss_nil)
  (pss_cons (ps_if (pt_cmpR op_eq (pv 0) pe_int (nomark _)) (pss_one (ps_ret (pe_gotS G_is_table (hr.mono (by omega)) rfl (takes_of rfl rfl rfl rfl) (pa_cons (pv 1) (pa_cons (pv 3) (pa_cons (pe_lst (pa_cons (pe_tup (pa_cons pe_str (pa_cons (pv 3) (pa_cons (pe_tup pa_nil) pa_nil)))) pa_nil)) pa_nil)))))) pss_nil)
  (pss_cons (ps_if (pt_cmpR op_eq (pv 0) pe_int (nomark _)) (pss_one (ps_ret (pe_gotS G_worth (hr.mono (by omega)) rfl (takes_of rfl rfl rfl rfl) (pa_cons (pv 1) (pa_cons (pv 2) (pa_cons (pv 3) pa_nil)))))) pss_nil)
  (pss_one (ps_ret (pe_gotS G_own_rank (hr.mono (by omega)) rfl (takes_of rfl rfl rfl rfl) (pa_cons (pv 1) (pa_cons (pe_ix ix_tup (pe_ix ix_tup (pe_ix ix_tup (pv 3) pe_int (fun _ _ => rfl)) pe_int (fun _ _ => rfl)) pe_int (fun _ _ => rfl)) pa_nil)))))))), ?_⟩
 have szl := sizeLine_eq
 refine ⟨_, rfl, rfl, _, rfl, ?_⟩
 cases hT with
 | rank hd hne =>
  rw [decide_eq_true rfl]
  refine iteT ?_
  exact ⟨_, rfl, _, rfl, v, w, b, g, o, rfl, hA, ow, hd, fun e => (hne e).elim, q.any⟩
 | tab hd hne =>
  rw [decide_eq_false (by decide)]
  refine iteF (nextI ⟨_, rfl, rfl, _, rfl, ?_⟩)
  rw [decide_eq_true rfl]
  exact iteT ⟨_, rfl, _, rfl, v, w, b, g, o, rfl, hA, hd, q⟩
 | ist lo =>
  rw [decide_eq_false (by decide)]
  refine iteF (nextI ⟨_, rfl, rfl, _, rfl, ?_⟩)
  rw [decide_eq_false (by decide)]
  refine iteF (nextI ⟨_, rfl, rfl, _, rfl, ?_⟩)
  rw [decide_eq_true rfl]
  refine iteT ?_
  refine ⟨_, rfl, _, rfl, _, rfl, by show 0 <= sizeLine; decide, fun e0 n0 => ?_⟩
  have t1 := SB.new (ps := []) n0 (.tup [])
  generalize upd H e0 (.tup []) = H1 at t1 ⊢
  refine ⟨by show 3 <= sizeLine; decide, fun e1 n1 => ?_⟩
  have t2 := t1.trans (SB.new (ps := []) n1 (.tup [.str "grove", w, .ref e0]))
  generalize upd H1 e1 (.tup [.str "grove", w, .ref e0]) = H2 at t2 ⊢
  refine ⟨by show 1 <= sizeLine; decide, fun e2 n2 => ?_⟩
  have t3 := t2.trans (SB.new (ps := []) n2 (.lst [.ref e1]))
  generalize upd H2 e2 (.lst [.ref e1]) = H3 at t3 ⊢
  exact ⟨v, w, _, b, g, _, rfl, hA.sb0 t3, lo, fun d H' s nd e => q d H' (t3.trans s) (t3.dom _ nd) e⟩
 | wor lo =>
  rw [decide_eq_false (by decide)]
  refine iteF (nextI ⟨_, rfl, rfl, _, rfl, ?_⟩)
  rw [decide_eq_false (by decide)]
  refine iteF (nextI ⟨_, rfl, rfl, _, rfl, ?_⟩)
  rw [decide_eq_false (by decide)]
  refine iteF (nextI ⟨_, rfl, rfl, _, rfl, ?_⟩)
  rw [decide_eq_true rfl]
  exact iteT ⟨_, rfl, _, rfl, _, rfl, v, w, z, b, g, _, rfl, hA, lo, fun d H' s n e => q d H' s n e⟩
 | own eg hc =>
  rw [decide_eq_false (by decide)]
  refine iteF (nextI ⟨_, rfl, rfl, _, rfl, ?_⟩)
  rw [decide_eq_false (by decide)]
  refine iteF (nextI ⟨_, rfl, rfl, _, rfl, ?_⟩)
  rw [decide_eq_false (by decide)]
  refine iteF (nextI ⟨_, rfl, rfl, _, rfl, ?_⟩)
  rw [decide_eq_false (by decide)]
  refine iteF (nextI ?_)
  subst eg
  obtain ⟨a1, xs, rfl, h1, hb⟩ := GA_bears hA.ga
  cases hb with
  | cons hp hb =>
  cases hb
  obtain ⟨a2, a3, u, rfl, h2, h3, _, _⟩ := PA_parts hp
  exact ⟨_, rfl, _, rfl, a1, _, _, _, rfl, rfl, h1, atI_nat (j := 0) rfl, a2, _, _, _, rfl, rfl, h2, atI_nat (j := 0) rfl, a3, _, _, _, rfl, rfl, h3, atI_nat (j := 0) rfl, v, b, _, o, rfl, hA.bk, hA.ok, ow, hc, q⟩
abbrev N__law_refused : List Str := ["_law_turn", "_law_book_here", "_law_worths", "_law_grove_here", "_law_wanted", "_law_least", "_law_told", "_law_e", "_law_good"]
theorem sc__law_refused : FnScope N__law_refused ["_law_turn", "_law_book_here", "_law_worths", "_law_grove_here", "_law_wanted", "_law_least"] (defScope s__law_refused) := ⟨rfl, rfl, rfl, by decide +kernel, rfl, by decide +kernel, by decide +kernel⟩
theorem ok__law_refused {C_Book : Addr} {c : Str -> Addr} (B : BI mg) (T : ErrsM K mg c eC eN eK) (G__law_asked : GotX P w K mg base "_law_asked" ["_law_turn", "_law_book_here", "_law_worths", "_law_grove_here"] (76) (spAsk42 K C_Book (c "NoKind") (c "Endless"))) (G__law_alone : GotP P w K mg base "_law_alone" ["_law_e", "_law_wanted"] (1) (spAlone42 K c eC)) (F : Fun K "_law_refused" "_law_refused" s__law_refused f fd) : FnOk P w K mg base CX0 (78) f fd ["_law_turn", "_law_book_here", "_law_worths", "_law_grove_here", "_law_wanted", "_law_least"] (spRefd42 K C_Book) := by
 refine F.ok sc__law_refused (fun vs H Q E h => ?_) (fun cdv A outer s H vs Q E hr h => ?_)
 ·obtain ⟨i, v, z, w, b, g, o, wd, n, rfl, _⟩ := h
  rfl
 obtain ⟨i, v, z, w, b, g, o, wd, n, rfl, hA, ow, hT, hw, hn, q⟩ := h
 have hun2 := hunT hr
 refine ⟨_, pss_cons (ps_set (i := 6) sc__law_refused.nd rfl (.inl rfl) (pe_lst pa_nil))
  (pss_cons (L2.ps_try_manyN (l := [(.ref (c "NoKind"), some 7, fun a cls d => (tAsg (tLst (tCons (tC (.str "kind")) (tCons (tXfg K a cls d "kind" (tVar 7)) tNil))) (gName 6))), (.ref (c "Endless"), some 7, fun a cls d => (tAsg (tLst (tCons (tC (.str "endless")) (tCons (tXfg K a cls d "kind" (tVar 7)) tNil))) (gName 6)))]) (tb := fun W => (tDrop (tCallS (spAsk42 K C_Book (c "NoKind") (c "Endless")) (WE W) (tCons (tVar 0) (tCons (tVar 1) (tCons (tVar 2) (tCons (tVar 3) tNil))))))) (Wout := fun _ _ _ _ => False) rfl rfl sc__law_refused.nd takes0
   (fun W pn xe tk _ => by exact (pss_one (ps_expr (pe_gotS G__law_asked (hr.mono (by omega)) rfl tk (pa_cons (pv 0) (pa_cons (pv 1) (pa_cons (pv 2) (pa_cons (pv 3) pa_nil))))))))
   (.named rfl rfl ⟨rfl, by decide, Or.inl (T.glo "NoKind" (.tail _ (.tail _ (.tail _ (.head _)))))⟩ (fun a oe cls d pn hz hf => by exact (pss_one (ps_set (i := 6) sc__law_refused.nd rfl (.inl rfl) (pe_lst (pa_cons pe_str (pa_cons (pe_xfg (.head _) hz hf (pv 7)) pa_nil)))))) (.named rfl rfl ⟨rfl, by decide, Or.inl (T.glo "Endless" (.tail _ (.tail _ (.tail _ (.tail _ (.tail _ (.tail _ (.head _))))))))⟩ (fun a oe cls d pn hz hf => by exact (pss_one (ps_set (i := 6) sc__law_refused.nd rfl (.inl rfl) (pe_lst (pa_cons pe_str (pa_cons (pe_xfg (.head _) hz hf (pv 7)) pa_nil)))))) .nil)))
  (pss_cons (ps_set (i := 8) sc__law_refused.nd rfl (.inl rfl) pe_bl)
  (pss_cons (ps_try_as (i := 7) (tb := fun W => tDrop (tCallS (spAsk42 K C_Book (c "NoKind") (c "Endless")) (WE W) (tCons (tVar 0) (tCons (tVar 1) (tCons (tVar 2) (tCons (tVar 3) tNil)))))) (ts := fun a cls d => (tAsg (tCallP (spAlone42 K c eC) a cls d (tCons (tVar 7) (tCons (tVar 4) tNil))) (gName 8))) (Wout := fun _ _ _ _ => False) rfl rfl sc__law_refused.nd rfl rfl ⟨rfl, by decide, Or.inl T.FellError⟩ takes0
   (fun W pn xe tk _ => pss_one (ps_expr (by exact (pe_gotS G__law_asked (hr.mono (by omega)) rfl tk (pa_cons (pv 0) (pa_cons (pv 1) (pa_cons (pv 2) (pa_cons (pv 3) pa_nil))))))))
   (fun a oe cls d pn hz hf => by exact (pss_one (ps_set (i := 8) sc__law_refused.nd rfl (.inl rfl) (pe_gotP G__law_alone (hr.sui (by omega)) rfl (.head _) hz hf (pa_cons (pv 7) (pa_cons (pv 4) pa_nil)))))))
  (pss_one (ps_ret (pe_and (pv 8) (pe_one (pe_cmpR (op_eqD (by show A.units + 3 + 64 < cLine; omega)) (pv 6) (pe_lst (pa_cons (pv 4) (pa_cons (pv 5) pa_nil))) (nomark _))))))))), ?_⟩
 have szl := sizeLine_eq
 refine ⟨by show 0 <= sizeLine; decide, fun L0 nL0 => ?_⟩
 have t0 := SB.new (ps := []) nL0 (.lst [])
 generalize upd H L0 (.lst []) = H0 at t0 ⊢
 dsimp only [gName]
 refine seq_via (fun σ' H' => SB [] H H' /\ ∃ (Z : Addr) (o7 o8 : Option V), σ' = [some (.int i), some v, some z, some w, some (.str wd), some (.str n), some (.ref Z), o7, o8] /\ H' Z = some (.lst [.str wd, .str n])) (fun nx hnx => ?_) (fun σ' H' h => ?_)
 ·refine ⟨_, rfl, _, rfl, _, rfl, _, rfl, i, v, z, w, b, g, o, rfl, hA.sb0 t0, ow, hT, ?_⟩
  rcases hw with ⟨rfl, rfl⟩ | ⟨rfl, rfl⟩
  ·intro d H1 s1 nd hd1
   refine ⟨true, (T.exo "NoKind" (.head _) "NoKind" (by decide +kernel)).trans (by rw [decide_eq_true rfl]), fun _ a' ha => ?_, fun z => nomatch z⟩
   refine ⟨_, rfl, _, d, _, .str n, rfl, rfl, T.exc _ (.head _), T.nok _ (.head _), rfl, hd1, rfl, ?_⟩
   exact ⟨by show 2 <= sizeLine; decide, fun Z nZ => hnx _ _ ⟨(t0.trans s1).trans (SB.new nZ _), Z, _, _, rfl, upd_same⟩⟩
  ·intro d H1 s1 nd hd1
   refine ⟨false, (T.exo "Endless" (.tail _ (.head _)) "NoKind" (by decide +kernel)).trans (by rw [decide_eq_false (by decide +kernel)]), (fun z => nomatch z), fun _ => ⟨true, (T.exo "Endless" (.tail _ (.head _)) "Endless" (by decide +kernel)).trans (by rw [decide_eq_true rfl]), fun _ a' ha => ?_, fun z => nomatch z⟩⟩
   refine ⟨_, rfl, _, d, _, .str n, rfl, rfl, T.exc _ (.tail _ (.head _)), T.nok _ (.tail _ (.head _)), rfl, hd1, rfl, ?_⟩
   exact ⟨by show 2 <= sizeLine; decide, fun Z nZ => hnx _ _ ⟨(t0.trans s1).trans (SB.new nZ _), Z, _, _, rfl, upd_same⟩⟩
 ·obtain ⟨s1, Z, o7, o8, rfl, hZ⟩ := h
  refine ⟨_, rfl, _, rfl, _, rfl, _, rfl, i, v, z, w, b, g, o, rfl, hA.sb0 s1, ow, hT, ?_⟩
  rcases hw with ⟨rfl, rfl⟩ | ⟨rfl, rfl⟩
  ·intro d H2 s2 nd hd1
   refine ⟨true, T.exm _ (.head _), fun _ x hx => ?_, fun z => nomatch z⟩
   refine ⟨_, rfl, _, rfl, fun oe hz hf => ⟨"NoKind", "kind", some d, rfl, hz, hf, .inl ⟨rfl, rfl⟩, (.head _), .inr ⟨d, _, rfl, hd1⟩, fun H3 s3 => ?_⟩⟩
   have s03 := (s1.trans s2).trans s3
   have hZ3 := (s2.trans s3).keep _ _ hZ nmn
   refine ⟨_, rfl, _, rfl, ?_⟩
   rw [if_pos rfl]
   refine ⟨_, rfl, _, rfl, _, rfl, by show 2 <= sizeLine; decide, fun M nM => ?_⟩
   have t4 := SB.new (ps := []) nM (.lst [.str "kind", .str n])
   have sh := strs_shaped (ss := ["kind", n]) (fun x hx => by
    rcases List.mem_cons.mp hx with e | hx
    ·rw [e]; exact ⟨by decide +kernel, by decide +kernel, by decide +kernel⟩
    ·rw [List.mem_singleton.mp hx]; exact hn)
   refine ⟨.list [.str "kind", .str n], .list [.str "kind", .str n], .lst (SqL.of (t4.keep _ _ hZ3 nmn)) (.cons (.str _) (.cons (.str _) .nil)), .lst (SqL.of upd_same) (.cons (.str _) (.cons (.str _) .nil)), sh, sh, ?_⟩
   rw [show PyData.eqv (.list [.str "kind", .str n]) (.list [.str "kind", .str n]) = true by simp [PyData.eqv, PyData.eqvAll]]
   exact q _ (s03.trans t4)
  ·intro d H2 s2 nd hd1
   refine ⟨true, T.exm _ (.tail _ (.head _)), fun _ x hx => ?_, fun z => nomatch z⟩
   refine ⟨_, rfl, _, rfl, fun oe hz hf => ⟨"Endless", "endless", some d, rfl, hz, hf, .inr ⟨rfl, rfl⟩, (.tail _ (.head _)), .inr ⟨d, _, rfl, hd1⟩, fun H3 s3 => ?_⟩⟩
   have s03 := (s1.trans s2).trans s3
   have hZ3 := (s2.trans s3).keep _ _ hZ nmn
   refine ⟨_, rfl, _, rfl, ?_⟩
   rw [if_pos rfl]
   refine ⟨_, rfl, _, rfl, _, rfl, by show 2 <= sizeLine; decide, fun M nM => ?_⟩
   have t4 := SB.new (ps := []) nM (.lst [.str "endless", .str n])
   have sh := strs_shaped (ss := ["endless", n]) (fun x hx => by
    rcases List.mem_cons.mp hx with e | hx
    ·rw [e]; exact ⟨by decide +kernel, by decide +kernel, by decide +kernel⟩
    ·rw [List.mem_singleton.mp hx]; exact hn)
   refine ⟨.list [.str "endless", .str n], .list [.str "endless", .str n], .lst (SqL.of (t4.keep _ _ hZ3 nmn)) (.cons (.str _) (.cons (.str _) .nil)), .lst (SqL.of upd_same) (.cons (.str _) (.cons (.str _) .nil)), sh, sh, ?_⟩
   rw [show PyData.eqv (.list [.str "endless", .str n]) (.list [.str "endless", .str n]) = true by simp [PyData.eqv, PyData.eqvAll]]
   exact q _ (s03.trans t4)
abbrev N__law_rounds : List Str := ["_law_draws_here", "_law_names_here", "_law_kinds_here", "_law_at", "_law_ring", "_law_rule"]
theorem sc__law_rounds : FnScope N__law_rounds ["_law_draws_here", "_law_names_here"] (defScope s__law_rounds) := ⟨rfl, rfl, rfl, by decide +kernel, rfl, by decide +kernel, by decide +kernel⟩
theorem ok__law_rounds (B : BI mg) (G__law_kinds : Got P w K mg base "_law_kinds" ["_law_draws_here", "_law_names_here", "_law_rounds_here"] (15) (spKindsN K)) (G__law_next : Got P w K mg base "_law_next" ["_law_draws_here"] (1) (spNext)) (G__law_grove : Got P w K mg base "_law_grove" ["_law_draws_here", "_law_names_here", "_law_room", "_law_great"] (13) (spGroveN40 K 11)) (F : Fun K "_law_rounds" "_law_rounds" s__law_rounds f fd) : FnOk P w K mg base CX0 (16) f fd ["_law_draws_here", "_law_names_here"] (spRnd42 K) := by
 refine F.ok sc__law_rounds (fun vs H Q E h => ?_) (fun cdv A outer s H vs Q E hr h => ?_)
 ·obtain ⟨p, nm, ks, rfl, _⟩ := h
  rfl
 obtain ⟨p, nm, ks, rfl, hp, ⟨hnm, nmp, k1, k4, kok, knd⟩, q⟩ := h
 have hun2 := hunT hr
 refine ⟨_, pss_cons (ps_set (i := 2) sc__law_rounds.nd rfl (.inl rfl) (pe_got G__law_kinds (hr.mono (by omega)) rfl (pa_cons (pv 0) (pa_cons (pv 1) (pa_cons (pe_cmpR op_eq (pe_op op_mod (pe_got G__law_next (hr.mono (by omega)) rfl (pa_cons (pv 0) pa_nil)) pe_int) pe_int (nomark _)) pa_nil)))))
  (pss_cons (ps_set (i := 3) sc__law_rounds.nd rfl (.inl rfl) (pe_op op_mod (pe_got G__law_next (hr.mono (by omega)) rfl (pa_cons (pv 0) pa_nil)) (pe_callB call_len_seq rfl B.len PySem.boot_len (pa_cons (pv 1) pa_nil))))
  (pss_cons (ps_set (i := 4) sc__law_rounds.nd rfl (.inl rfl) (pe_tup (pa_cons (pe_tup (pa_cons (pe_ix ix_tup (pe_ix ix_list (pv 2) (pv 3) (fun _ _ => rfl)) pe_int (fun _ _ => rfl)) (pa_cons (pe_got G__law_grove (hr.mono (by omega)) rfl (pa_cons (pv 0) (pa_cons (pv 1) (pa_cons (pe_op op_mod (pe_got G__law_next (hr.mono (by omega)) rfl (pa_cons (pv 0) pa_nil)) pe_int) (pa_cons pe_int pa_nil))))) pa_nil))) (pa_cons (pe_op op_add pe_int (pe_op op_mod (pe_got G__law_next (hr.mono (by omega)) rfl (pa_cons (pv 0) pa_nil)) pe_int)) pa_nil))))
  (pss_cons (ps_set (i := 5) sc__law_rounds.nd rfl (.inl rfl) (pe_ix ix_list (pe_lst (pa_cons (pe_tup (pa_cons (pe_tup (pa_cons (pv 4) pa_nil)) (pa_cons (pe_tup pa_nil) pa_nil))) (pa_cons (pe_tup (pa_cons (pe_tup pa_nil) (pa_cons (pe_tup (pa_cons (pv 4) pa_nil)) pa_nil))) pa_nil))) (pe_op op_mod (pe_got G__law_next (hr.mono (by omega)) rfl (pa_cons (pv 0) pa_nil)) pe_int) (fun _ _ => rfl)))
  (pss_cons (ps_asg (pe_tup (pa_cons (pe_ix ix_tup (pe_ix ix_list (pv 2) (pv 3) (fun _ _ => rfl)) pe_int (fun _ _ => rfl)) (pa_cons (pe_ix ix_tup (pe_ix ix_list (pv 2) (pv 3) (fun _ _ => rfl)) pe_int (fun _ _ => rfl)) (pa_cons (pe_op op_cat (pe_slice sl_list (pe_ix ix_tup (pe_ix ix_list (pv 2) (pv 3) (fun _ _ => rfl)) pe_int (fun _ _ => rfl)) po_none (po_some pe_int)) (pe_lst (pa_cons (pv 5) pa_nil))) pa_nil)))) (pg_sub (pv 2) (pv 3) set_list))
  (pss_one (ps_ret (pv 2))))))), ?_⟩
 have szl := sizeLine_eq
 refine ⟨_, rfl, _, rfl, _, rfl, p, rfl, hp, fun r1 H1 r10 r1m s1 hp1 => ?_⟩
 have hnm1 := s1.keep _ _ hnm (by simpa using nmp)
 refine ⟨_, _, rfl, rfl, (by show (0 : Int) < 3; decide), rfl, p, nm, ks, decide (V.int (r1 % 3) = V.int 0), rfl, hp1, ⟨hnm1, nmp, by omega, kok, knd, fun z => by rw [z] at k1; simp at k1⟩, fun kh xs b H5 s5 hp5 nkh hkh hb0 ok h40 => ?_⟩
 have b8 := ok.len
 have b1 := ok.pos
 have bl : b.length = ks.length := by have := h40.names.length_eq; rwa [List.length_map] at this
 have hnm5 := s5.keep _ _ hnm1 (by simpa using nmp)
 have khp : kh ≠ p := (hp1.ne nkh).symm
 have nmk : nm ≠ kh := fun z => by rw [z, nkh] at hnm1; cases hnm1
 have nkh0 := s1.dom _ nkh
 have s05 := s1.trans s5
 have xl := hb0.length
 clear hp1 hnm1 hnm hp s1 s5
 refine ⟨_, rfl, p, rfl, hp5, fun r6 H6 r60 r6m s6 hp6 => ?_⟩
 have hnm6 := s6.keep _ _ hnm5 (by simpa using nmp)
 have hkh6 := s6.keep _ _ hkh (by simpa using khp)
 have hb6 := hb0.sb s6 fun q hq => .inl (by rw [List.mem_singleton.mp hq]; exact mcs ..)
 have s06 := s05.trans s6
 clear hb0 hkh hnm5 hp5 s6 s05
 refine ⟨_, rfl, nm, _, rfl, .inl (SqL.of hnm6), _, _, rfl, rfl, (by show (0 : Int) < (((ks.map V.str).length : Nat) : Int); rw [List.length_map]; omega), ?_⟩
 obtain ⟨at0, eat, atl⟩ : ∃ at0 : Nat, r6 % (((ks.map V.str).length : Nat) : Int) = (at0 : Int) /\ at0 < ks.length := by
  have h1 := Int.emod_nonneg r6 (show (((ks.map V.str).length : Nat) : Int) ≠ 0 by rw [List.length_map]; omega)
  have h2 := Int.emod_lt_of_pos r6 (show (0 : Int) < (((ks.map V.str).length : Nat) : Int) by rw [List.length_map]; omega)
  rw [List.length_map] at h1 h2
  refine ⟨(r6 % (((ks.map V.str).length : Nat) : Int)).toNat, ?_, ?_⟩
  ·rw [List.length_map]; omega
  ·rw [List.length_map]; omega
 dsimp only
 rw [eat]
 obtain ⟨kd, ekd⟩ : ∃ kd, b[at0]? = some kd := ⟨_, List.getElem?_eq_getElem (by omega)⟩
 obtain ⟨vk, evk⟩ : ∃ vk, xs[at0]? = some vk := ⟨_, List.getElem?_eq_getElem (by omega)⟩
 obtain ⟨kd', ekd', t, rl, zs, evt, h1, h2, h3, hnb⟩ := hb6.get evk
 have ekk : kd' = kd := by rw [ekd] at ekd'; exact (Option.some.inj ekd').symm
 subst ekk evt
 have km := List.mem_of_getElem? ekd
 have zl := h3.length
 have hat : atI xs (at0 : Int) = some (.ref t) := atI_nat evk
 have kne : kh ∉ [p] := by simpa using khp
 refine ⟨_, rfl, _, rfl, kh, _, _, _, rfl, rfl, SqL.of hkh6, hat, t, _, _, _, rfl, rfl, h1, atI_nat (j := 0) rfl, ?_⟩
 refine ⟨_, rfl, _, rfl, _, rfl, p, rfl, hp6, fun r7 H7 r70 r7m s7 hp7 => ?_⟩
 obtain ⟨rr, er, r3⟩ : ∃ rr : Nat, r7 % 3 = (rr : Int) /\ rr <= 2 := ⟨(r7 % 3).toNat, by omega, by omega⟩
 refine ⟨_, _, rfl, rfl, (by show (0 : Int) < 3; decide), ?_⟩
 dsimp only
 rw [er]
 have hnm7 := s7.keep _ _ hnm6 (by simpa using nmp)
 have hkh7 := s7.keep _ _ hkh6 kne
 have hb7 := hb6.sb s7 fun q hq => .inl (by rw [List.mem_singleton.mp hq]; exact mcs ..)
 have h1 := s7.sqT h1
 have rlp : rl ∉ [p] := fun z => hnb (by rw [List.mem_singleton.mp z]; exact mcs ..)
 have h2 := s7.keep _ _ h2 rlp
 have h3 := h3.sb s7 Ru.noList_enc
 have s07 := s06.trans s7
 refine ⟨p, nm, ks, rr, 9, rfl, hp7, ⟨hnm7, nmp, by omega, kok⟩, by omega, by omega, by decide, by decide, fun gv g H8 s8 hp8 hgv gok gpt gdp gnm => ?_⟩
 have g19 : g.Ok 19 := gok.mono (by omega)
 refine ⟨by show 2 <= sizeLine; decide, fun T nT => ?_⟩
 have t9 := SB.new (ps := []) nT (.tup [.str kd'.n, gv])
 have hT9 : SqT K (upd H8 T (.tup [.str kd'.n, gv])) T [.str kd'.n, gv] := SqT.of upd_same
 have hp9 := hp8.sb t9
 have hgv9 := GA.sb hgv t9
 have s79 := s8.trans t9.nil
 generalize upd H8 T (.tup [.str kd'.n, gv]) = H9 at t9 hT9 hp9 hgv9 s79 ⊢
 refine ⟨_, rfl, p, rfl, hp9, fun r8 H10 r80 r8m s10 hp10 => ?_⟩
 refine ⟨_, _, rfl, rfl, (by show (0 : Int) < 3; decide), _, _, rfl, rfl, ?_⟩
 refine ⟨by show 2 <= sizeLine; decide, fun U nU => ?_⟩
 have mm : (1 : Int) <= 1 + r8 % 3 /\ 1 + r8 % 3 <= 3 := by omega
 dsimp only
 generalize 1 + r8 % 3 = mr at mm ⊢
 have t11 := SB.new (ps := []) nU (.tup [.ref T, .int mr])
 have hU11 : SqT K (upd H10 U (.tup [.ref T, .int mr])) U [.ref T, .int mr] := SqT.of upd_same
 have hp11 := hp10.sb t11
 have hgv11 := GA.sb (GA.sb hgv9 s10) t11
 have hT11 := t11.sqT (s10.sqT hT9)
 have s711 := (s79.trans s10).trans t11.nil
 generalize upd H10 U (.tup [.ref T, .int mr]) = H11 at t11 hU11 hp11 hgv11 hT11 s711 ⊢
 have hring : Dp K H11 (.ref U) (Gr.pEnc ((kd'.n, g), mr)) := pair_mk (enc := Gr.tEnc) hU11 (Dp.tup hT11 (.cons (.str _) (.cons hgv11 .nil)))
 refine ⟨_, rfl, by show 1 <= sizeLine; decide, fun v1 nv1 => ?_⟩
 have u1 := SB.new (ps := []) nv1 (.tup [.ref U])
 have B1 := SqT.of (K := K) (upd_same : upd H11 v1 (.tup [.ref U]) v1 = some (.tup [.ref U]))
 generalize upd H11 v1 (.tup [.ref U]) = J1 at u1 B1 ⊢
 refine ⟨by show 0 <= sizeLine; decide, fun e1 ne1 => ?_⟩
 have u2 := SB.new (ps := []) ne1 (.tup [])
 have B2 := SqT.of (K := K) (upd_same : upd J1 e1 (.tup []) e1 = some (.tup []))
 generalize upd J1 e1 (.tup []) = J2 at u2 B2 ⊢
 refine ⟨by show 2 <= sizeLine; decide, fun w1 nw1 => ?_⟩
 have u3 := SB.new (ps := []) nw1 (.tup [.ref v1, .ref e1])
 have B3 := SqT.of (K := K) (upd_same : upd J2 w1 (.tup [.ref v1, .ref e1]) w1 = some (.tup [.ref v1, .ref e1]))
 generalize upd J2 w1 (.tup [.ref v1, .ref e1]) = J3 at u3 B3 ⊢
 refine ⟨by show 0 <= sizeLine; decide, fun e2 ne2 => ?_⟩
 have u4 := SB.new (ps := []) ne2 (.tup [])
 have B4 := SqT.of (K := K) (upd_same : upd J3 e2 (.tup []) e2 = some (.tup []))
 generalize upd J3 e2 (.tup []) = J4 at u4 B4 ⊢
 refine ⟨_, rfl, by show 1 <= sizeLine; decide, fun v2 nv2 => ?_⟩
 have u5 := SB.new (ps := []) nv2 (.tup [.ref U])
 have B5 := SqT.of (K := K) (upd_same : upd J4 v2 (.tup [.ref U]) v2 = some (.tup [.ref U]))
 generalize upd J4 v2 (.tup [.ref U]) = J5 at u5 B5 ⊢
 refine ⟨by show 2 <= sizeLine; decide, fun w2 nw2 => ?_⟩
 have u6 := SB.new (ps := []) nw2 (.tup [.ref e2, .ref v2])
 have B6 := SqT.of (K := K) (upd_same : upd J5 w2 (.tup [.ref e2, .ref v2]) w2 = some (.tup [.ref e2, .ref v2]))
 generalize upd J5 w2 (.tup [.ref e2, .ref v2]) = J6 at u6 B6 ⊢
 have s16 := ((((u1.trans u2).trans u3).trans u4).trans u5).trans u6
 have hr6 := Dp_sb s16 _ _ (Gr.noList_pEnc _) hring
 have d1 : GA K J6 (.ref v1) (.cons kd'.n g mr .nil) := Bears_ga (bs := [((kd'.n, g), mr)]) (((((u2.trans u3).trans u4).trans u5).trans u6).sqT B1) (.cons hr6 .nil)
 have d2 : GA K J6 (.ref v2) (.cons kd'.n g mr .nil) := Bears_ga (bs := [((kd'.n, g), mr)]) (u6.sqT B5) (.cons hr6 .nil)
 have hw1 : Dp K J6 (.ref w1) (Ru.enc (rgR kd'.n g mr true)) := .tup (((u4.trans u5).trans u6).sqT B3) (.cons d1 (.cons (GA_nil ((((u3.trans u4).trans u5).trans u6).sqT B2)) .nil))
 have hw2 : Dp K J6 (.ref w2) (Ru.enc (rgR kd'.n g mr false)) := .tup B6 (.cons (GA_nil ((u5.trans u6).sqT B4)) (.cons d2 .nil))
 refine ⟨by show 2 <= sizeLine; decide, fun ll nll => ?_⟩
 have u7 := SB.new (ps := []) nll (.lst [.ref w1, .ref w2])
 have hll : upd J6 ll (.lst [.ref w1, .ref w2]) ll = some (.lst [.ref w1, .ref w2]) := upd_same
 have s17 := s16.trans u7
 have hp7' := hp11.sb s17
 have hw1 := Dp_sb u7 _ _ (Ru.noList_enc _) hw1
 have hw2 := Dp_sb u7 _ _ (Ru.noList_enc _) hw2
 have llp : ll ∉ [p] := by simpa using fun z : ll = p => (hp11.sb s16).ne nll z.symm
 generalize upd J6 ll (.lst [.ref w1, .ref w2]) = J7 at u7 hll s17 hp7' hw1 hw2 ⊢
 refine ⟨_, rfl, p, rfl, hp7', fun r9 J8 r90 r9m s98 hp98 => ?_⟩
 refine ⟨_, _, rfl, rfl, (by show (0 : Int) < 2; decide), ?_⟩
 dsimp only
 obtain ⟨wa, fr, hat2, hwa⟩ : ∃ (wa : Addr) (fr : Bool), atI [V.ref w1, .ref w2] (r9 % 2) = some (.ref wa) /\ Dp K J8 (.ref wa) (Ru.enc (rgR kd'.n g mr fr)) := by
  have h2 : r9 % 2 = 0 \/ r9 % 2 = 1 := by omega
  rcases h2 with h2 | h2 <;> rw [h2]
  ·exact ⟨w1, true, rfl, Dp_sb s98 _ _ (Ru.noList_enc _) hw1⟩
  ·exact ⟨w2, false, rfl, Dp_sb s98 _ _ (Ru.noList_enc _) hw2⟩
 refine ⟨ll, _, _, _, rfl, rfl, SqL.of (s98.keep _ _ hll llp), hat2, ?_⟩
 have s78 := (s711.trans s17.nil).trans s98
 have hnm11 := s78.keep _ _ hnm7 (by simpa using nmp)
 have hkh11 := s78.keep _ _ hkh7 kne
 have hb11 := hb7.sb s78 fun q hq => .inl (by rw [List.mem_singleton.mp hq]; exact mcs ..)
 have h1' := s78.sqT h1
 have h2' := s78.keep _ _ h2 rlp
 have h3' := h3.sb s78 Ru.noList_enc
 have s0 := s07.trans s78
 clear hb7 hkh7 hnm7 h1 h2 h3 hr6 d1 d2 hw1 hw2 hring hgv9 hgv11 hT9 hT11 hU11 B1 B2 B3 B4 B5 B6
 refine ⟨_, rfl, _, rfl, kh, _, _, _, rfl, rfl, SqL.of hkh11, hat, t, _, _, _, rfl, rfl, h1', atI_nat (j := 0) rfl, ?_⟩
 refine ⟨_, rfl, _, rfl, kh, _, _, _, rfl, rfl, SqL.of hkh11, hat, t, _, _, _, rfl, rfl, h1', atI_nat (j := 1) rfl, ?_⟩
 refine ⟨_, rfl, _, rfl, kh, _, _, _, rfl, rfl, SqL.of hkh11, hat, t, _, _, _, rfl, rfl, h1', atI_nat (j := 2) rfl, ?_⟩
 refine ⟨_, rfl, rl, _, rfl, SqL.of h2', fun c1 nc1 => ?_⟩
 rw [show cutV zs none (some 3) = zs.take 3 from cutTake zs 3]
 have t12 := SB.new (ps := []) nc1 (.lst (zs.take 3))
 have hc12 : upd J8 c1 (.lst (zs.take 3)) c1 = some (.lst (zs.take 3)) := upd_same
 generalize upd J8 c1 (.lst (zs.take 3)) = H12 at t12 hc12 ⊢
 refine ⟨_, rfl, by show 1 <= sizeLine; decide, fun l1 nl1 => ?_⟩
 have t16 := SB.new (ps := []) nl1 (.lst [.ref wa])
 have hl16 : upd H12 l1 (.lst [.ref wa]) l1 = some (.lst [.ref wa]) := upd_same
 generalize upd H12 l1 (.lst [.ref wa]) = H16 at t16 hl16 ⊢
 have hc16 := t16.keep _ _ hc12 nmn
 have r4 := (ok.kd kd' km).2.1
 refine ⟨c1, l1, _, _, rfl, rfl, hc16, hl16, by rw [List.length_take]; show _ + 1 <= sizeLine; omega, fun C nC => ?_⟩
 have t17 := SB.new (ps := []) nC (.lst (zs.take 3 ++ [.ref wa]))
 have hC17 : upd H16 C (.lst (zs.take 3 ++ [.ref wa])) C = some (.lst (zs.take 3 ++ [.ref wa])) := upd_same
 generalize upd H16 C (.lst (zs.take 3 ++ [.ref wa])) = H17 at t17 hC17 ⊢
 have s17' := (t12.trans t16).trans t17
 refine ⟨by show 3 <= sizeLine; decide, fun t' nt' => ?_⟩
 have t18 := SB.new (ps := []) nt' (.tup [.str kd'.n, .bl kd'.w, .ref C])
 have ht18 : SqT K (upd H17 t' (.tup [.str kd'.n, .bl kd'.w, .ref C])) t' [.str kd'.n, .bl kd'.w, .ref C] := SqT.of upd_same
 generalize upd H17 t' (.tup [.str kd'.n, .bl kd'.w, .ref C]) = H18 at t18 ht18 ⊢
 have s18 := s17'.trans t18
 have hp18 := hp98.sb s18
 have hkh18 := s18.keep _ _ hkh11 nmn
 have hb18 := hb11.sb s18 NoLst.nil
 have hC18 := t18.keep _ _ hC17 nmn
 have nC11 : J8 C = none := (t12.trans t16).dom _ nC
 have Cp : C ≠ p := (hp98.ne nC11).symm
 have Ckh : C ≠ kh := fun z => by rw [z, hkh11] at nC11; cases nC11
 have hbs : Bears K H18 Ru.enc (zs.take 3 ++ [.ref wa]) (rgK kd' g mr fr).rs := Bears.append ((h3'.sb s18 Ru.noList_enc).take 3) (.cons (Dp_sb s18 _ _ (Ru.noList_enc _) hwa) .nil)
 have hkd : KdA K H18 [p, kh] (.ref t') (rgK kd' g mr fr) := ⟨t', C, _, rfl, ht18, hC18, hbs, by simp [Cp, Ckh]⟩
 have hB := ring42 ok h40 k4 ekd g19 (by omega) gnm mm.1 mm.2 fr
 refine ⟨_, rfl, _, rfl, kh, _, _, at0, rfl, rfl, hkh18, ixN_nat (by omega), ?_⟩
 have tset : SB [kh] H18 (upd H18 kh (.lst (xs.set at0 (.ref t')))) := SB.set hkh18 (List.mem_singleton.mpr rfl) _
 have sF : SB [p] H (upd H18 kh (.lst (xs.set at0 (.ref t')))) := by
  have h : SB [kh, p] H (upd H18 kh (.lst (xs.set at0 (.ref t')))) := (s0.mono fun _ z => mcm _ z).trans (s18.nil.trans (tset.mono fun _ z => by rw [List.mem_singleton.mp z]; exact mcs ..))
  exact h.drop nkh0
 refine ⟨_, rfl, q kh _ _ _ sF (hp18.keep tset (by simpa using fun z : p = kh => khp z.symm)) nkh0 upd_same ?_ hB⟩
 exact ((KdAll.set hkd at0 hb18).sb tset fun q hq => .inl (by rw [List.mem_singleton.mp hq]; simp)).less (bad' := [p]) (by simp)
abbrev N__law_strange : List Str := ["_law_draws_here", "_law_every", "_law_many_here"]
theorem sc__law_strange : FnScope N__law_strange ["_law_draws_here", "_law_every", "_law_many_here"] (defScope s__law_strange) := ⟨rfl, rfl, rfl, by decide +kernel, rfl, by decide +kernel, by decide +kernel⟩
theorem ok__law_strange (B : BI mg) (G__law_next : Got P w K mg base "_law_next" ["_law_draws_here"] (1) (spNext)) (F : Fun K "_law_strange" "_law_strange" s__law_strange f fd) : FnOk P w K mg base CX0 (3) f fd ["_law_draws_here", "_law_every", "_law_many_here"] (spStr42 K) := by
 refine F.ok sc__law_strange (fun vs H Q E h => ?_) (fun cdv A outer s H vs Q E hr h => ?_)
 ·obtain ⟨p, el, es, m, rfl, _⟩ := h
  rfl
 obtain ⟨p, el, es, m, rfl, hp, he, elp, eln, eok, q⟩ := h
 have hun2 := hunT hr
 refine ⟨_, pss_cons (ps_if (pt_cmpR op_eq (pe_op op_mod (pe_got G__law_next (hr.mono (by omega)) rfl (pa_cons (pv 0) pa_nil)) pe_int) pe_int (nomark _)) (pss_one (ps_ret (pe_tup (pa_cons (pe_tup (pa_cons (pe_ix ix_list (pv 1) (pe_un un_neg pe_int) (fun _ _ => rfl)) (pa_cons (pe_tup (pa_cons (pe_tup (pa_cons (pe_tup (pa_cons (pe_ix ix_list (pv 1) (pv 2) (fun _ _ => rfl)) (pa_cons (pe_tup pa_nil) pa_nil))) (pa_cons pe_int pa_nil))) pa_nil)) pa_nil))) (pa_cons pe_int pa_nil))))) pss_nil)
  (pss_one (ps_ret (pe_tup (pa_cons (pe_tup (pa_cons (pe_ix ix_list (pv 1) (pe_op op_add (pv 2) (pe_op op_mod (pe_got G__law_next (hr.mono (by omega)) rfl (pa_cons (pv 0) pa_nil)) pe_int)) (fun _ _ => rfl)) (pa_cons (pe_tup pa_nil) pa_nil))) (pa_cons (pe_op op_add pe_int (pe_op op_mod (pe_got G__law_next (hr.mono (by omega)) rfl (pa_cons (pv 0) pa_nil)) pe_int)) pa_nil))))), ?_⟩
 have szl := sizeLine_eq
 obtain ⟨n0, e0⟩ : ∃ n, es[m]? = some n := ⟨_, List.getElem?_eq_getElem (by omega)⟩
 obtain ⟨n1, e1⟩ : ∃ n, es[m + 1]? = some n := ⟨_, List.getElem?_eq_getElem (by omega)⟩
 have m0 : n0 ∈ es.drop m := List.mem_of_getElem? (i := 0) (by rw [List.getElem?_drop]; exact e0)
 have m1 : n1 ∈ es.drop m := List.mem_of_getElem? (i := 1) (by rw [List.getElem?_drop]; exact e1)
 have ok0 := eok n0 (List.mem_of_getElem? e0)
 have a0 : atI (es.map V.str) ((m : Nat) : Int) = some (.str n0) := atI_nat (by rw [List.getElem?_map, e0]; rfl)
 have a1 : atI (es.map V.str) (((m + 1 : Nat)) : Int) = some (.str n1) := atI_nat (by rw [List.getElem?_map, e1]; rfl)
 refine ⟨_, rfl, p, rfl, hp, fun r1 H1 r10 r1m s1 hp1 => ?_⟩
 have he1 := s1.keep _ _ he (by simpa using elp)
 refine ⟨_, _, rfl, rfl, (by show (0 : Int) < 3; decide), rfl, _, rfl, ?_⟩
 by_cases h3 : r1 % 3 = 1
 ·rw [show decide (V.int (r1 % 3) = V.int 1) = true from decide_eq_true (by rw [h3])]
  refine iteT ?_
  refine ⟨_, rfl, _, rfl, el, _, _, _, rfl, rfl, SqL.of he1, atI_end (by rw [List.length_map, eln]; exact (by rw [List.getElem?_map, show m + 2 - 1 = m + 1 by omega, e1]; rfl)), ?_⟩
  refine ⟨_, rfl, _, rfl, el, _, _, _, rfl, rfl, SqL.of he1, a0, by show 0 <= sizeLine; decide, fun z0 nz0 => ?_⟩
  have t1 := SB.new (ps := []) nz0 (.tup [])
  have B1 := SqT.of (K := K) (upd_same : upd H1 z0 (.tup []) z0 = some (.tup []))
  generalize upd H1 z0 (.tup []) = J1 at t1 B1 ⊢
  refine ⟨by show 2 <= sizeLine; decide, fun z1 nz1 => ?_⟩
  have t2 := SB.new (ps := []) nz1 (.tup [.str n0, .ref z0])
  have B2 := SqT.of (K := K) (upd_same : upd J1 z1 (.tup [.str n0, .ref z0]) z1 = some (.tup [.str n0, .ref z0]))
  generalize upd J1 z1 (.tup [.str n0, .ref z0]) = J2 at t2 B2 ⊢
  refine ⟨by show 2 <= sizeLine; decide, fun z2 nz2 => ?_⟩
  have t3 := SB.new (ps := []) nz2 (.tup [.ref z1, .int 1])
  have B3 := SqT.of (K := K) (upd_same : upd J2 z2 (.tup [.ref z1, .int 1]) z2 = some (.tup [.ref z1, .int 1]))
  generalize upd J2 z2 (.tup [.ref z1, .int 1]) = J3 at t3 B3 ⊢
  refine ⟨by show 1 <= sizeLine; decide, fun z3 nz3 => ?_⟩
  have t4 := SB.new (ps := []) nz3 (.tup [.ref z2])
  have B4 := SqT.of (K := K) (upd_same : upd J3 z3 (.tup [.ref z2]) z3 = some (.tup [.ref z2]))
  generalize upd J3 z3 (.tup [.ref z2]) = J4 at t4 B4 ⊢
  have gA := one_ga ((t3.trans t4).sqT B2) (t4.sqT B3) B4 ((GA_nil B1).sb ((t2.trans t3).trans t4))
  refine ⟨by show 2 <= sizeLine; decide, fun z4 nz4 => ?_⟩
  have t5 := SB.new (ps := []) nz4 (.tup [.str n1, .ref z3])
  have B5 := SqT.of (K := K) (upd_same : upd J4 z4 (.tup [.str n1, .ref z3]) z4 = some (.tup [.str n1, .ref z3]))
  generalize upd J4 z4 (.tup [.str n1, .ref z3]) = J5 at t5 B5 ⊢
  refine ⟨by show 2 <= sizeLine; decide, fun z5 nz5 => ?_⟩
  have t6 := SB.new (ps := []) nz5 (.tup [.ref z4, .int 1])
  have hD : Dp K (upd J5 z5 (.tup [.ref z4, .int 1])) (.ref z5) (Gr.pEnc ((n1, .cons n0 .nil 1 .nil), 1)) := pair_mk (enc := Gr.tEnc) (SqT.of upd_same) (Dp.tup (t6.sqT B5) (.cons (.str _) (.cons ((gA.sb t5).sb t6) .nil)))
  have sF := (((((t1.trans t2).trans t3).trans t4).trans t5).trans t6)
  exact q _ _ _ (s1.trans sF.nil) (hp1.sb sF) hD ⟨m1, ⟨ok0, trivial, (by decide : (1 : Int) <= 1), (by decide : (1 : Int) < 2), trivial, fun _ z => nomatch z⟩, (by decide : 1 <= 1), (by decide : 1 <= 1), fun x hx => by
   have hx : x ∈ [(((n0, Gr.nil) : Tr), (1 : Int))] := hx
   rw [List.mem_singleton.mp hx]; exact m0, (by decide : (1 : Int) <= 1), (by decide : (1 : Int) <= 3)⟩
 ·rw [show decide (V.int (r1 % 3) = V.int 1) = false from decide_eq_false fun z => h3 (V.int.inj z)]
  refine iteF (nextI ?_)
  refine ⟨_, rfl, _, rfl, _, rfl, p, rfl, hp1, fun r2 H2 r20 r2m s2 hp2 => ?_⟩
  have he2 := s2.keep _ _ he1 (by simpa using elp)
  refine ⟨_, _, rfl, rfl, (by show (0 : Int) < 2; decide), _, _, rfl, rfl, ?_⟩
  dsimp only
  obtain ⟨nn, hat, mn, okn⟩ : ∃ nn, atI (es.map V.str) ((m : Int) + r2 % 2) = some (.str nn) /\ nn ∈ es.drop m /\ NameOk nn := by
   have h2 : r2 % 2 = 0 \/ r2 % 2 = 1 := by omega
   rcases h2 with h2 | h2 <;> rw [h2]
   ·exact ⟨n0, by rw [Int.add_zero]; exact a0, m0, ok0⟩
   ·exact ⟨n1, a1, m1, eok n1 (List.mem_of_getElem? e1)⟩
  refine ⟨el, _, _, _, rfl, rfl, SqL.of he2, hat, by show 0 <= sizeLine; decide, fun z0 nz0 => ?_⟩
  have t1 := SB.new (ps := []) nz0 (.tup [])
  have B1 := SqT.of (K := K) (upd_same : upd H2 z0 (.tup []) z0 = some (.tup []))
  generalize upd H2 z0 (.tup []) = J1 at t1 B1 ⊢
  refine ⟨by show 2 <= sizeLine; decide, fun z1 nz1 => ?_⟩
  have t2 := SB.new (ps := []) nz1 (.tup [.str nn, .ref z0])
  have B2 := SqT.of (K := K) (upd_same : upd J1 z1 (.tup [.str nn, .ref z0]) z1 = some (.tup [.str nn, .ref z0]))
  have hpj := (hp2.sb t1).sb t2
  generalize upd J1 z1 (.tup [.str nn, .ref z0]) = J2 at t2 B2 hpj ⊢
  refine ⟨_, rfl, p, rfl, hpj, fun r3 H3 r30 r3m s3 hp3 => ?_⟩
  refine ⟨_, _, rfl, rfl, (by show (0 : Int) < 3; decide), _, _, rfl, rfl, ?_⟩
  refine ⟨by show 2 <= sizeLine; decide, fun z5 nz5 => ?_⟩
  dsimp only
  have mm : (1 : Int) <= 1 + r3 % 3 /\ 1 + r3 % 3 <= 3 := by omega
  generalize 1 + r3 % 3 = mr at mm ⊢
  have t6 := SB.new (ps := []) nz5 (.tup [.ref z1, .int mr])
  have hD : Dp K (upd H3 z5 (.tup [.ref z1, .int mr])) (.ref z5) (Gr.pEnc ((nn, .nil), mr)) := pair_mk (enc := Gr.tEnc) (SqT.of upd_same) (Dp.tup (t6.sqT (s3.sqT B2)) (.cons (.str _) (.cons ((((GA_nil B1).sb t2).sb s3).sb t6) .nil)))
  exact q _ _ _ (((s1.trans s2).trans ((t1.trans t2).nil.trans s3)).trans t6.nil) (hp3.sb t6) hD ⟨mn, trivial, (by decide : 0 <= 1), (by decide : 0 <= 1), fun _ z => absurd z nmn, mm.1, mm.2⟩
abbrev N_law : List Str := ["_law_script", "_law_draws_here", "_law_many_here", "_law_every", "_law_names_here", "_law_kinds_here", "_law_book_here", "_law_endless_here", "_law_worths", "_law_name", "_law_some", "_law_grove_here", "_law_found", "_law_turn", "_law_other", "_law_strange_here", "_law_whole", "_law_tree"]
theorem sc_law : FnScope N_law ["_law_script"] (defScope s_law) := ⟨rfl, rfl, rfl, by decide +kernel, rfl, by decide +kernel, by decide +kernel⟩
theorem ok_law {C_Book C_NoKind C_Endless : Addr} (B : BI mg) (G__law_draws : Got P w K mg base "_law_draws" ["_law_script", "_law_many_here"] (1) (spDraws K)) (G__law_next : Got P w K mg base "_law_next" ["_law_draws_here"] (1) (spNext)) (G__law_names : Got P w K mg base "_law_names" ["_law_draws_here", "_law_many_here"] (2) (spNamesN K)) (G__law_rounds : Got P w K mg base "_law_rounds" ["_law_draws_here", "_law_names_here"] (16) (spRnd42 K)) (G__law_book : Got P w K mg base "_law_book" ["_law_kinds_here"] (90) (spMkBook K C_Book)) (G__law_endless : Got P w K mg base "_law_endless" ["_law_kinds_here"] (21) (spEndl40 K)) (G__law_grove : Got P w K mg base "_law_grove" ["_law_draws_here", "_law_names_here", "_law_room", "_law_great"] (13) (spGroveN40 K 11)) (G__law_in : Got P w K mg base "_law_in" ["_law_grove_here"] (20) (spIn40 K 20)) (G__law_refused : Got P w K mg base "_law_refused" ["_law_turn", "_law_book_here", "_law_worths", "_law_grove_here", "_law_wanted", "_law_least"] (78) (spRefd42 K C_Book)) (G_rank : GotX P w K mg base "rank" ["book", "grove"] (73) (spRank42 K C_Book C_NoKind C_Endless)) (G__law_strange : Got P w K mg base "_law_strange" ["_law_draws_here", "_law_every", "_law_many_here"] (3) (spStr42 K)) (F : Fun K "law" "law" s_law f fd) : FnOk P w K mg base CX0 (120) f fd ["_law_script"] (spLaw K) := by
 refine F.ok sc_law (fun vs H Q E h => ?_) (fun cdv A outer s H vs Q E hr h => ?_)
 ·obtain ⟨a, ns, rfl, _⟩ := h
  rfl
 obtain ⟨a, ns, rfl, hs, nl, q⟩ := h
 have hun2 := hunT hr
 refine ⟨_, pss_cons (ps_set (i := 1) sc_law.nd rfl (.inl rfl) (pe_got G__law_draws (hr.mono (by omega)) rfl (pa_cons (pv 0) (pa_cons pe_int pa_nil))))
  (pss_cons (ps_set (i := 2) sc_law.nd rfl (.inl rfl) (pe_op op_add pe_int (pe_op op_mod (pe_got G__law_next (hr.mono (by omega)) rfl (pa_cons (pv 1) pa_nil)) pe_int)))
  (pss_cons (ps_set (i := 3) sc_law.nd rfl (.inl rfl) (pe_got G__law_names (hr.mono (by omega)) rfl (pa_cons (pv 1) (pa_cons (pe_op op_add (pv 2) pe_int) pa_nil))))
  (pss_cons (ps_set (i := 4) sc_law.nd rfl (.inr rfl) (pe_slice sl_list (pv 3) po_none (po_some (pv 2))))
  (pss_cons (ps_set (i := 5) sc_law.nd rfl (.inl rfl) (pe_got G__law_rounds (hr.mono (by omega)) rfl (pa_cons (pv 1) (pa_cons (pv 4) pa_nil))))
  (pss_cons (ps_set (i := 6) sc_law.nd rfl (.inl rfl) (pe_got G__law_book (hr.mono (by omega)) rfl (pa_cons (pv 5) pa_nil)))
  (pss_cons (ps_set (i := 7) sc_law.nd rfl (.inr rfl) (pe_got G__law_endless (hr.mono (by omega)) rfl (pa_cons (pv 5) pa_nil)))
  (pss_cons (ps_set (i := 8) sc_law.nd rfl (.inl rfl) pe_dnewK)
  (pss_cons (ps_for PassesOwn.never rfl (pi_list (pv 4)) (pg_name (i := 9) sc_law.nd rfl (.inl rfl))
   (pss_one (ps_dput (by show A.units + 3 + 1 < cLine; omega) (pv 8) (pv 9) (pe_tup (pa_cons (pe_tup (pa_cons (pe_tup pa_nil) (pa_cons (pe_op op_add pe_int (pe_op op_mod (pe_got G__law_next (hr.mono (by omega)) rfl (pa_cons (pv 1) pa_nil)) pe_int)) pa_nil))) pa_nil)) rfl)))
  (pss_cons (ps_set (i := 10) sc_law.nd rfl (.inl rfl) (pe_ix ix_list (pv 7) (pe_op op_mod (pe_got G__law_next (hr.mono (by omega)) rfl (pa_cons (pv 1) pa_nil)) (pe_callB call_len_seq rfl B.len PySem.boot_len (pa_cons (pv 7) pa_nil))) (fun _ _ => rfl)))
  (pss_cons (ps_set (i := 11) sc_law.nd rfl (.inl rfl) (pe_tup (pa_cons (pe_tup (pa_cons (pv 10) (pa_cons (pe_got G__law_grove (hr.mono (by omega)) rfl (pa_cons (pv 1) (pa_cons (pv 4) (pa_cons (pe_op op_mod (pe_got G__law_next (hr.mono (by omega)) rfl (pa_cons (pv 1) pa_nil)) pe_int) (pa_cons (pe_op op_pow pe_int pe_int) pa_nil))))) pa_nil))) (pa_cons (pe_op op_add pe_int (pe_got G__law_next (hr.mono (by omega)) rfl (pa_cons (pv 1) pa_nil))) pa_nil))))
  (pss_cons (ps_if (pt_cmpR op_eq (pe_op op_mod (pe_got G__law_next (hr.mono (by omega)) rfl (pa_cons (pv 1) pa_nil)) pe_int) pe_int (nomark _)) (pss_one (ps_set (i := 11) sc_law.nd rfl (.inl rfl) (pe_tup (pa_cons (pe_tup (pa_cons (pe_ix ix_list (pv 4) (pe_op op_mod (pe_got G__law_next (hr.mono (by omega)) rfl (pa_cons (pv 1) pa_nil)) (pv 2)) (fun _ _ => rfl)) (pa_cons (pe_tup (pa_cons (pv 11) pa_nil)) pa_nil))) (pa_cons pe_int pa_nil))))) pss_nil)
  (pss_cons (ps_set (i := 11) sc_law.nd rfl (.inl rfl) (pe_tup (pa_cons (pv 11) pa_nil)))
  (pss_cons (ps_set (i := 12) sc_law.nd rfl (.inl rfl) (pe_callB cr_sortedS rfl B.sorted (by decide +kernel) (pa_cons (pe_lc (own := [("_law_tree", 17)]) (g := (gName 17)) (tt := (tTest (tOp (rIn K false) (tOp (rIxT K) (tVar 17) (tC (.int 0))) (tVar 7)))) (te := (tOp (rIxT K) (tVar 17) (tC (.int 0)))) rfl sc_law.nd (pi_list (pe_got G__law_in (hr.mono (by omega)) rfl (pa_cons (pv 11) pa_nil))) (blkOk_by (N := N_law) (sc := defScope s_law) (by decide +kernel)) (fun _ _ _ _ _ => (pg_name (i := 17) sc_law.nd rfl (.inl rfl))) (fun _ _ _ _ _ => (pts_one (pt_cmpR op_in_seq (pe_ix ix_tup (pv 17) pe_int (fun _ _ => rfl)) (pv 7) (by rfl)))) (fun _ _ _ _ _ => (pe_ix ix_tup (pv 17) pe_int (fun _ _ => rfl)))) pa_nil)))
  (pss_cons (ps_for PassesOwn.never rfl (pi_range1 rfl B.range (pa_cons pe_int pa_nil)) (pg_name (i := 13) sc_law.nd rfl (.inl rfl))
   (pss_one (ps_if (pt_not (pt_val (pe_got G__law_refused (hr.mono (by omega)) rfl (pa_cons (pv 13) (pa_cons (pv 6) (pa_cons (pv 8) (pa_cons (pv 11) (pa_cons pe_str (pa_cons (pe_ix ix_list (pv 12) pe_int (fun _ _ => rfl)) pa_nil))))))))) (pss_one (ps_ret pe_bl)) pss_nil)))
  (pss_cons (ps_if (PW.pt (pw_or (pt_not (pt_val (pe_got G__law_refused (hr.mono (by omega)) rfl (pa_cons pe_int (pa_cons (pv 6) (pa_cons (pv 8) (pa_cons (pe_tup (pa_cons (pe_tup (pa_cons (pe_tup (pa_cons (pv 10) (pa_cons (pe_tup pa_nil) pa_nil))) (pa_cons pe_int pa_nil))) pa_nil)) (pa_cons pe_str (pa_cons (pv 10) pa_nil))))))))) (pw_or1 (pt_cmpR (op_neD (by show A.units + 3 + 64 < cLine; omega)) (pe_gotX G_rank (hr.mono (by omega)) rfl (pa_cons (pv 6) (pa_cons (pe_tup pa_nil) pa_nil))) (pe_tup pa_nil) (nomark _))))) (pss_one (ps_ret pe_bl)) pss_nil)
  (pss_cons (ps_set (i := 14) sc_law.nd rfl (.inl rfl) (pe_got G__law_strange (hr.mono (by omega)) rfl (pa_cons (pv 1) (pa_cons (pv 3) (pa_cons (pv 2) pa_nil)))))
  (pss_cons (ps_set (i := 15) sc_law.nd rfl (.inl rfl) (pe_ix ix_tup (pe_ix ix_tup (pv 14) pe_int (fun _ _ => rfl)) pe_int (fun _ _ => rfl)))
  (pss_cons (ps_set (i := 16) sc_law.nd rfl (.inl rfl) (pe_callTy call_tuple_of rfl B.tuple boot_tuple (pa_cons (pe_callB (cr_sortedW Gr.pEnc (by show A.units + 3 + 195 < cLine; omega)) rfl B.sorted (by decide +kernel) (pa_cons (pe_op op_catB (pv 11) (pe_tup (pa_cons (pv 14) pa_nil))) pa_nil)) pa_nil)))
  (pss_cons (ps_if (pt_cmpR op_eq (pe_op op_mod (pe_got G__law_next (hr.mono (by omega)) rfl (pa_cons (pv 1) pa_nil)) pe_int) pe_int (nomark _)) (pss_one (ps_set (i := 16) sc_law.nd rfl (.inl rfl) (pe_tup (pa_cons (pe_tup (pa_cons (pe_tup (pa_cons (pv 10) (pa_cons (pe_tup (pa_cons (pv 14) pa_nil)) pa_nil))) (pa_cons pe_int pa_nil))) pa_nil)))) pss_nil)
  (pss_cons (ps_set (i := 12) sc_law.nd rfl (.inl rfl) (pe_callB cr_sortedS rfl B.sorted (by decide +kernel) (pa_cons (pe_lc (own := [("_law_tree", 17)]) (g := (gName 17)) (tt := (tTest (tOp (rIn K true) (tOp (rIxT K) (tVar 17) (tC (.int 0))) (tVar 4)))) (te := (tOp (rIxT K) (tVar 17) (tC (.int 0)))) rfl sc_law.nd (pi_list (pe_got G__law_in (hr.mono (by omega)) rfl (pa_cons (pv 16) pa_nil))) (blkOk_by (N := N_law) (sc := defScope s_law) (by decide +kernel)) (fun _ _ _ _ _ => (pg_name (i := 17) sc_law.nd rfl (.inl rfl))) (fun _ _ _ _ _ => (pts_one (pt_cmpR op_notIn_seq (pe_ix ix_tup (pv 17) pe_int (fun _ _ => rfl)) (pv 4) (by rfl)))) (fun _ _ _ _ _ => (pe_ix ix_tup (pv 17) pe_int (fun _ _ => rfl)))) pa_nil)))
  (pss_cons (ps_for PassesOwn.never rfl (pi_range1 rfl B.range (pa_cons pe_int pa_nil)) (pg_name (i := 13) sc_law.nd rfl (.inl rfl))
   (pss_one (ps_if (PW.pt (pw_or (pt_not (pt_val (pe_got G__law_refused (hr.mono (by omega)) rfl (pa_cons (pv 13) (pa_cons (pv 6) (pa_cons (pv 8) (pa_cons (pv 16) (pa_cons pe_str (pa_cons (pe_ix ix_list (pv 12) pe_int (fun _ _ => rfl)) pa_nil))))))))) (pw_or1 (pt_cmpR (op_neD (by show A.units + 3 + 64 < cLine; omega)) (pe_gotX G_rank (hr.mono (by omega)) rfl (pa_cons (pv 6) (pa_cons (pe_tup pa_nil) pa_nil))) (pe_tup pa_nil) (nomark _))))) (pss_one (ps_ret pe_bl)) pss_nil)))
  (pss_one (ps_ret (pe_and (pe_got G__law_refused (hr.mono (by omega)) rfl (pa_cons pe_int (pa_cons (pv 6) (pa_cons (pv 8) (pa_cons (pe_tup (pa_cons (pe_tup (pa_cons (pe_tup (pa_cons (pv 15) (pa_cons (pe_tup pa_nil) pa_nil))) (pa_cons pe_int pa_nil))) pa_nil)) (pa_cons pe_str (pa_cons (pv 15) pa_nil))))))) (pe_one (pe_cmpR (op_eqD (by show A.units + 3 + 64 < cLine; omega)) (pe_gotX G_rank (hr.mono (by omega)) rfl (pa_cons (pv 6) (pa_cons (pe_tup pa_nil) pa_nil))) (pe_tup pa_nil) (nomark _))))))))))))))))))))))))))), ?_⟩
 have szl := sizeLine_eq
 refine ⟨_, rfl, a, ns, 500, rfl, hs, nl, by decide, fun p H1 s1 np hp1 => ?_⟩
 refine ⟨_, rfl, p, rfl, hp1, fun r H2 r0 rm s2 hp2 => ?_⟩
 refine ⟨_, _, rfl, rfl, (by show (0 : Int) < 4; decide), _, _, rfl, rfl, ?_⟩
 obtain ⟨m, em, m1, m4⟩ : ∃ m : Nat, 1 + r % 4 = (m : Int) /\ 1 <= m /\ m <= 4 := ⟨(1 + r % 4).toNat, by omega, by omega, by omega⟩
 dsimp only [gName]
 rw [em]
 refine ⟨_, rfl, _, rfl, _, _, rfl, rfl, p, m + 2, rfl, hp2, by omega, fun el es H3 s3 hp3 nel hel esl eok esd => ?_⟩
 have elp : el ≠ p := (hp2.ne nel).symm
 refine ⟨_, rfl, _, rfl, _, rfl, el, _, rfl, SqL.of hel, fun nm nnm => ?_⟩
 rw [cutTakeS]
 have t4 := SB.new (ps := []) nnm (.lst ((es.take m).map V.str))
 have hnm : upd H3 nm (.lst ((es.take m).map V.str)) nm = some (.lst ((es.take m).map V.str)) := upd_same
 have hel4 := t4.keep _ _ hel nmn
 have hp4 := hp3.sb t4
 have nmp : nm ≠ p := (hp3.ne nnm).symm
 generalize upd H3 nm (.lst ((es.take m).map V.str)) = H4 at t4 hnm hel4 hp4 ⊢
 have kl : (es.take m).length = m := by rw [List.length_take]; omega
 have knd : (es.take m).Nodup := (List.take_sublist _ _).nodup esd
 have kok : ∀ k ∈ es.take m, NameOk k := fun k hk => eok k (List.mem_of_mem_take hk)
 have kdr : ∀ k ∈ es.drop m, k ∉ es.take m /\ NameOk k := fun k hk => ⟨fun z => by
  have := List.nodup_append.mp (show (es.take m ++ es.drop m).Nodup by rw [List.take_append_drop]; exact esd)
  exact this.2.2 k z k hk rfl, eok k (List.mem_of_mem_drop hk)⟩
 have dl : (es.drop m).length = 2 := by rw [List.length_drop]; omega
 generalize hks : es.take m = ks at hnm kl knd kok kdr ⊢
 generalize hds : es.drop m = ds at kdr dl
 refine ⟨_, rfl, _, rfl, p, nm, ks, rfl, hp4, ⟨hnm, nmp, by omega, by omega, kok, knd⟩, fun kh xs b H5 s5 hp5 nkh hkh hb5 hB => ?_⟩
 have khp : kh ≠ p := (hp4.ne nkh).symm
 have hnm5 := s5.keep _ _ hnm (by simpa using nmp)
 have hel5 := s5.keep _ _ hel4 (by simpa using elp)
 have ok := hB.ok
 have b8 := ok.len
 have nb : ∀ n, n ∈ ks ↔ n ∈ b.names := fun n => hB.pm.mem_iff
 have s05 : SB [p] H H5 := s1.nil.trans (s2.trans (s3.trans (t4.nil.trans s5)))
 clear hp4 hnm hel4 hp3 hel hp2 hp1 s1 s2 s3 s5
 refine ⟨_, rfl, kh, xs, b, rfl, hkh, hb5.less (by simp), ok, fun bk H6 s6 nbk hbk => ?_⟩
 have hp6 := hp5.sb s6
 have hnm6 := s6.keep _ _ hnm5 nmn
 have hel6 := s6.keep _ _ hel5 nmn
 have hkh6 := s6.keep _ _ hkh nmn
 refine ⟨_, rfl, kh, xs, b, rfl, hkh6, (hb5.sb s6 NoLst.nil).less (by simp), ok, fun A ss H7 s7 nA hA ssl hss => ?_⟩
 have hp7 := hp6.sb s7
 have hnm7 := s7.keep _ _ hnm6 nmn
 have hel7 := s7.keep _ _ hel6 nmn
 have hbk7 := hbk.sb0 s7
 have Ap : A ≠ p := (hp6.ne nA).symm
 have s07 := (s05.trans s6.nil).trans s7.nil
 clear hp6 hnm6 hel6 hkh6 hp5 hnm5 hel5 hkh hbk s6 s7 s05
 have ssp : 0 < ss.length := by
  obtain ⟨n, hn, he⟩ := hB.ring
  exact List.length_pos_of_mem ((hss n).mpr ⟨hn, he⟩)
 intro W nW
 have Wp : W ≠ p := (hp7.ne nW).symm
 have t8 := SB.new (ps := []) nW (.dK [])
 have hW8 : upd H7 W (.dK []) W = some (.dK []) := upd_same
 generalize upd H7 W (.dK []) = H8 at t8 hW8 ⊢
 have nWH := s07.dom _ nW
 dsimp only [gName]
 have hnm8 := t8.keep _ _ hnm7 nmn
 have hA8 := t8.keep _ _ hA nmn
 have hel8 := t8.keep _ _ hel7 nmn
 have hp8 := hp7.sb t8
 have hbk8 := hbk7.sb0 t8
 have s08 := s07.trans t8.nil
 have nmW : nm ≠ W := fun z => by rw [z, nW] at hnm7; cases hnm7
 have AW : A ≠ W := fun z => by rw [z, nW] at hA; cases hA
 have elW : el ≠ W := fun z => by rw [z, nW] at hel7; cases hel7
 have ks4 : ks.length <= 4 := by omega
 have nWp : ∀ {G : Hp}, SB [W, p] H G -> SB [p] H G := fun s => s.drop (s07.dom _ nW)
 clear hnm7 hA hel7
 refine ⟨_, rfl, nm, rfl, ⟨_, SqL.of hnm8⟩, ?_⟩
 refine for_it (walk_list (xs := ks.map V.str)) (fun i σ G => SB [W, p] H8 G /\ Dr G p /\ ∃ (kvs : List (Key × V)) (o9 : Option V), σ = [some (.ref a), some (.ref p), some (.int (m : Int)), some (.ref el), some (.ref nm), some (.ref kh), some (.ref bk), some (.ref A), some (.ref W), o9, none, none, none, none, none, none, none, none] /\ G W = some (.dK kvs) /\ kvs.length <= i) ⟨SB.refl, hp8, [], none, rfl, hW8, Nat.le_refl _⟩ (fun i σ G hi h => h.1.sqL (by simp [nmp, nmW]) (SqL.of hnm8)) (fun i x σ Hq G hi h y => ?_) (fun σ G h => ?_)
 ·obtain ⟨s, hp, kvs, o9, rfl, hW, kvl⟩ := h
  obtain ⟨rfl, ey⟩ := y
  rw [List.getElem?_map] at ey
  obtain ⟨n, en, rfl⟩ := Option.map_eq_some_iff.mp ey
  rw [List.length_map] at hi
  refine ⟨by show 0 <= sizeLine; decide, fun z0 nz0 => ?_⟩
  have t1 := SB.new (ps := []) nz0 (.tup [])
  have hp1 := hp.sb t1
  have hW1 := t1.keep _ _ hW nmn
  generalize upd G z0 (.tup []) = G1 at t1 hp1 hW1 ⊢
  refine ⟨_, rfl, p, rfl, hp1, fun r2 G2 r20 r2m s2 hp2 => ?_⟩
  refine ⟨_, _, rfl, rfl, (by show (0 : Int) < 9; decide), _, _, rfl, rfl, ?_⟩
  have hW2 := s2.keep _ _ hW1 (by simpa using Wp)
  refine ⟨by show 2 <= sizeLine; decide, fun z1 nz1 => ?_⟩
  dsimp only
  generalize 1 + r2 % 9 = mr
  have t3 := SB.new (ps := []) nz1 (.tup [.ref z0, .int mr])
  have hp3 := hp2.sb t3
  have hW3 := t3.keep _ _ hW2 nmn
  generalize upd G2 z1 (.tup [.ref z0, .int mr]) = G3 at t3 hp3 hW3 ⊢
  refine ⟨by show 1 <= sizeLine; decide, fun z2 nz2 => ?_⟩
  have t4 := SB.new (ps := []) nz2 (.tup [.ref z1])
  have hp4 := hp3.sb t4
  have hW4 := t4.keep _ _ hW3 nmn
  generalize upd G3 z2 (.tup [.ref z1]) = G4 at t4 hp4 hW4 ⊢
  refine ⟨_, rfl, _, rfl, W, _, rfl, DPut.k (k := Sum.inr n) hW4 (by omega), ?_⟩
  have t5 := SB.setD (ps := [W]) hW4 (by simp) (.dK (putK kvs (Sum.inr n) (.ref z2)))
  have pl := putK_len kvs (Sum.inr n) (.ref z2)
  exact ⟨s.trans ((t1.nil.trans (s2.mono fun _ z => mcm _ z)).trans ((t3.trans t4).nil.trans (t5.mono (by simp)))), hp4.keep t5 (by simpa using Ne.symm Wp), _, _, rfl, upd_same, by omega⟩
 obtain ⟨s, hp, kvs, o9, rfl, _, _⟩ := h
 have hA9 := s.keep _ _ hA8 (by simp [Ap, AW])
 have hnm9 := s.keep _ _ hnm8 (by simp [nmp, nmW])
 have hel9 := s.keep _ _ hel8 (by simp [elp, elW])
 have s79 : SB [p] H7 G := (t8.nil.trans s).drop nW
 have hbk9 := hbk7.sb s79 hp7.lsts
 have s09 := s07.trans s79
 clear hA8 hnm8 hel8 hp8 hbk8 s08 t8 s hbk7 hp7 hW8 s79
 refine ⟨_, rfl, _, rfl, p, rfl, hp, fun ra Ha ra0 ram sa hpa => ?_⟩
 have hAa := sa.keep _ _ hA9 (by simpa using Ap)
 have hnma := sa.keep _ _ hnm9 (by simpa using nmp)
 have hela := sa.keep _ _ hel9 (by simpa using elp)
 have hbka := hbk9.sb sa hp.lsts
 have s0a := s09.trans sa
 refine ⟨_, rfl, A, _, rfl, .inl (SqL.of hAa), _, _, rfl, rfl, (by show (0 : Int) < (((ss.map V.str).length : Nat) : Int); rw [List.length_map]; omega), ?_⟩
 obtain ⟨at0, eat, atl⟩ : ∃ at0 : Nat, ra % (((ss.map V.str).length : Nat) : Int) = (at0 : Int) /\ at0 < ss.length := by
  have h1 := Int.emod_nonneg ra (show (((ss.map V.str).length : Nat) : Int) ≠ 0 by rw [List.length_map]; omega)
  have h2 := Int.emod_lt_of_pos ra (show (0 : Int) < (((ss.map V.str).length : Nat) : Int) by rw [List.length_map]; omega)
  rw [List.length_map] at h1 h2
  refine ⟨(ra % (((ss.map V.str).length : Nat) : Int)).toNat, ?_, ?_⟩
  ·rw [List.length_map]; omega
  ·rw [List.length_map]; omega
 dsimp only
 rw [eat]
 obtain ⟨sm, esm⟩ : ∃ n, ss[at0]? = some n := ⟨_, List.getElem?_eq_getElem atl⟩
 obtain ⟨smn, sme⟩ := (hss sm).mp (List.mem_of_getElem? esm)
 have smk : sm ∈ ks := (nb sm).mpr smn
 refine ⟨A, _, _, _, rfl, rfl, SqL.of hAa, atI_nat (by rw [List.getElem?_map, esm]; rfl), ?_⟩
 clear hA9 hnm9 hel9 hbk9 s09 hp sa
 refine ⟨_, rfl, _, rfl, _, rfl, _, rfl, p, rfl, hpa, fun rb Hb rb0 rbm sb hpb => ?_⟩
 refine ⟨_, _, rfl, rfl, (by show (0 : Int) < 4; decide), _, _, rfl, rfl, ⟨by decide, by decide, by decide⟩, ?_⟩
 obtain ⟨rr, er, r3⟩ : ∃ rr : Nat, rb % 4 = (rr : Int) /\ rr <= 3 := ⟨(rb % 4).toNat, by omega, by omega⟩
 dsimp only
 rw [er]
 have hnmb := sb.keep _ _ hnma (by simpa using nmp)
 refine ⟨p, nm, ks, rr, 10 ^ (30 : Int).toNat, rfl, hpb, ⟨hnmb, nmp, by omega, kok⟩, by omega, by omega, by decide, by decide, fun gv g Hc sc hpc hgv _ gpt _ gnm => ?_⟩
 refine ⟨by show 2 <= sizeLine; decide, fun T nT => ?_⟩
 have t1 := SB.new (ps := []) nT (.tup [.str sm, gv])
 have hT1 : SqT K (upd Hc T (.tup [.str sm, gv])) T [.str sm, gv] := SqT.of upd_same
 have hpd := hpc.sb t1
 have hgd := GA.sb hgv t1
 generalize upd Hc T (.tup [.str sm, gv]) = Hd at t1 hT1 hpd hgd ⊢
 refine ⟨_, rfl, p, rfl, hpd, fun re He re0 rem se hpe => ?_⟩
 refine ⟨_, _, rfl, rfl, ?_⟩
 refine ⟨by show 2 <= sizeLine; decide, fun U nU => ?_⟩
 dsimp only
 generalize 1 + re = k0
 have t2 := SB.new (ps := []) nU (.tup [.ref T, .int k0])
 have hU : Dp K (upd He U (.tup [.ref T, .int k0])) (.ref U) (Gr.pEnc ((sm, g), k0)) := pair_mk (enc := Gr.tEnc) (SqT.of upd_same) (Dp.tup (t2.sqT (se.sqT hT1)) (.cons (.str _) (.cons ((hgd.sb se).sb t2) .nil)))
 have hpf := hpe.sb t2
 have saf : SB [p] Ha (upd He U (.tup [.ref T, .int k0])) := sb.trans (sc.trans (t1.nil.trans (se.trans t2.nil)))
 generalize upd He U (.tup [.ref T, .int k0]) = Hf at t2 hU hpf saf ⊢
 have hAf := saf.keep _ _ hAa (by simpa using Ap)
 have hnmf := saf.keep _ _ hnma (by simpa using nmp)
 have helf := saf.keep _ _ hela (by simpa using elp)
 have hbkf := hbka.sb saf hpa.lsts
 have s0f := s0a.trans saf
 clear hAa hnma hela hbka s0a hpb hnmb hpc hgv hpd hgd hpe hT1 saf hpa
 have x0 : Gr42 ks sm ((sm, g), k0) := ⟨smk, gnm, .inl rfl, by show g.parts <= 5; omega⟩
 refine seq_via (fun σ' G => SB [p] Hf G /\ Dr G p /\ ∃ (x : V) (xx : Tr × Int), σ' = [some (.ref a), some (.ref p), some (.int (m : Int)), some (.ref el), some (.ref nm), some (.ref kh), some (.ref bk), some (.ref A), some (.ref W), o9, some (.str sm), some x, none, none, none, none, none, none] /\ Dp K G x (Gr.pEnc xx) /\ Gr42 ks sm xx) (fun nx hnx => ?_) (fun σ' G h => ?_)
 ·refine ⟨_, rfl, p, rfl, hpf, fun r2 G2 r20 r2m s2 hp2 => ?_⟩
  refine ⟨_, _, rfl, rfl, (by show (0 : Int) < 2; decide), rfl, _, rfl, ?_⟩
  by_cases h1 : r2 % 2 = 1
  ·rw [show decide (V.int (r2 % 2) = V.int 1) = true from decide_eq_true (by rw [h1])]
   refine iteT ?_
   have hnm2 := s2.keep _ _ hnmf (by simpa using nmp)
   refine ⟨_, rfl, _, rfl, p, rfl, hp2, fun r3 G3 r30 r3m s3 hp3 => ?_⟩
   have hnm3 := s3.keep _ _ hnm2 (by simpa using nmp)
   refine ⟨_, rfl, _, _, rfl, rfl, (by show (0 : Int) < (m : Int); omega), ?_⟩
   obtain ⟨j, ej, jl⟩ : ∃ j : Nat, r3 % (m : Int) = (j : Int) /\ j < ks.length := by
    have h1 := Int.emod_nonneg r3 (show (m : Int) ≠ 0 by omega)
    have h2 := Int.emod_lt_of_pos r3 (show (0 : Int) < (m : Int) by omega)
    exact ⟨(r3 % (m : Int)).toNat, by omega, by omega⟩
   dsimp only
   rw [ej]
   obtain ⟨n2, en2⟩ : ∃ n, ks[j]? = some n := ⟨_, List.getElem?_eq_getElem jl⟩
   refine ⟨nm, _, _, _, rfl, rfl, SqL.of hnm3, atI_nat (by rw [List.getElem?_map, en2]; rfl), ?_⟩
   refine ⟨_, rfl, by show 1 <= sizeLine; decide, fun y1 ny1 => ?_⟩
   have u1 := SB.new (ps := []) ny1 (.tup [.ref U])
   have B1 := SqT.of (K := K) (upd_same : upd G3 y1 (.tup [.ref U]) y1 = some (.tup [.ref U]))
   have hp4 := hp3.sb u1
   generalize upd G3 y1 (.tup [.ref U]) = J1 at u1 B1 hp4 ⊢
   refine ⟨by show 2 <= sizeLine; decide, fun y2 ny2 => ?_⟩
   have u2 := SB.new (ps := []) ny2 (.tup [.str n2, .ref y1])
   have B2 := SqT.of (K := K) (upd_same : upd J1 y2 (.tup [.str n2, .ref y1]) y2 = some (.tup [.str n2, .ref y1]))
   have hp5 := hp4.sb u2
   generalize upd J1 y2 (.tup [.str n2, .ref y1]) = J2 at u2 B2 hp5 ⊢
   refine ⟨by show 2 <= sizeLine; decide, fun y3 ny3 => ?_⟩
   have u3 := SB.new (ps := []) ny3 (.tup [.ref y2, .int 2])
   have hg1 : GA K (upd J2 y3 (.tup [.ref y2, .int 2])) (.ref y1) (one42 ((sm, g), k0)) := Bears_ga (bs := [((sm, g), k0)]) ((u2.trans u3).sqT B1) (.cons (Dp_sb ((s2.trans s3).trans ((u1.trans u2).trans u3).nil) _ _ (Gr.noList_pEnc _) hU) .nil)
   have hD : Dp K (upd J2 y3 (.tup [.ref y2, .int 2])) (.ref y3) (Gr.pEnc ((n2, one42 ((sm, g), k0)), 2)) := pair_mk (enc := Gr.tEnc) (SqT.of upd_same) (Dp.tup (u3.sqT B2) (.cons (.str _) (.cons hg1 .nil)))
   exact hnx _ _ ⟨(s2.trans s3).trans ((u1.trans u2).trans u3).nil, hp5.sb u3, _, _, rfl, hD, ⟨List.mem_of_getElem? en2, one42_named smk gnm, .inr (one42_nm.mpr (.inl rfl)), by rw [one42_parts]; show 1 + g.parts <= 5; omega⟩⟩
  ·rw [show decide (V.int (r2 % 2) = V.int 1) = false from decide_eq_false fun z => h1 (V.int.inj z)]
   exact iteF (hnx _ _ ⟨s2, hp2, _, _, rfl, Dp_sb s2 _ _ (Gr.noList_pEnc _) hU, x0⟩)
 obtain ⟨sg, hpg, x, xx, rfl, hx, X⟩ := h
 have hAg := sg.keep _ _ hAf (by simpa using Ap)
 have hnmg := sg.keep _ _ hnmf (by simpa using nmp)
 have helg := sg.keep _ _ helf (by simpa using elp)
 have hbkg := hbkf.sb sg hpf.lsts
 have s0g := s0f.trans sg
 clear hAf hnmf helf hbkf s0f hpf sg hU x0
 refine ⟨_, rfl, by show 1 <= sizeLine; decide, fun gt ngt => ?_⟩
 have t1 := SB.new (ps := []) ngt (.tup [x])
 have hga : GA K (upd G gt (.tup [x])) (.ref gt) (one42 xx) := Bears_ga (bs := [xx]) (SqT.of upd_same) (.cons (Dp_sb t1 _ _ (Gr.noList_pEnc _) hx) .nil)
 have hxh := Dp_sb t1 _ _ (Gr.noList_pEnc _) hx
 have hAh := t1.keep _ _ hAg nmn
 have hnmh := t1.keep _ _ hnmg nmn
 have helh := t1.keep _ _ helg nmn
 have hbkh := hbkg.sb0 t1
 have hph := hpg.sb t1
 have s0h := s0g.trans t1.nil
 clear hAg hnmg helg hbkg s0g hpg hx
 generalize upd G gt (.tup [x]) = Hh at t1 hga hxh hAh hnmh helh hbkh hph s0h ⊢
 have gp := one42_parts xx
 have xp := X.parts
 have gd := within_deep (one42 xx)
 have gnk : Gr.Named ks (one42 xx) := one42_named X.nm X.wn
 refine ⟨_, rfl, .ref gt, one42 xx, rfl, hga, by omega, by omega, fun D us Hi si nD hD hbs => ?_⟩
 have ul : us.length = (one42 xx).parts := by rw [hbs.length, Gr.ins_len]
 have enl : (one42 xx).ins.map (·.1) = (one42 xx).within.map (·.1.1) := by rw [Gr.ins_within, List.map_map]; rfl
 refine ⟨D, rfl, ⟨_, SqL.of hD⟩, fun L nL => ?_⟩
 have hAi := si.keep _ _ hAh nmn
 refine lc_seq (walk_list (xs := us)) nL (by omega) (fun i ws _ => ws = ((((one42 xx).ins.map (·.1)).take i).filter fun n => decide (n ∈ ss)).map V.str) rfl (fun G s => s.sqL nmn (SqL.of hD)) (fun _ _ _ _ _ h => h) (fun Pv i z Hq G ws hi s y hR hu fin skip => ?_) (fun ws Hj sj hL hR hu => ?_)
 ·obtain ⟨rfl, ez⟩ := y
  obtain ⟨tr, et, ht⟩ := hbs.get ez
  have ex : ((one42 xx).ins.map (·.1))[i]? = some tr.1 := by rw [List.getElem?_map, et]; rfl
  have hst := filt_step (fun n => decide (n ∈ ss)) ex
  cases (ht : Dp K Hi z (.tuple [.str tr.1, tr.2.enc])) with
  | @tup ad us2 _ hs2 hda2 =>
  cases hda2 with
  | cons c1 hda2 =>
  cases hda2 with
  | cons c2 hda2 =>
  cases hda2
  cases c1
  refine ⟨rfl, _, rfl, ad, _, _, _, rfl, rfl, s.sqT hs2, atI_nat (j := 0) rfl, _, rfl, A, _, rfl, .inl (SqL.of (s.keep _ _ hAi nmn)), rfl, flat_strs _, _, rfl, ?_⟩
  rw [if_neg (by decide), inV_strs]
  by_cases h1 : tr.1 ∈ ss
  ·rw [decide_eq_true h1]
   refine iteT ⟨_, rfl, ad, _, _, _, rfl, rfl, s.sqT hs2, atI_nat (j := 0) rfl, fin _ _ SB.refl ?_⟩
   rw [hst, if_pos (decide_eq_true h1), hR]
  ·rw [decide_eq_false h1]
   refine iteF (skip _ SB.refl ?_)
   rw [hst, if_neg (fun z => h1 (of_decide_eq_true z)), hR, List.append_nil]
 subst hR
 rw [show us.length = ((one42 xx).ins.map (·.1)).length by rw [List.length_map, hbs.length], List.take_length, enl] at hL
 have fll := List.length_filter_le (fun n => decide (n ∈ ss)) ((one42 xx).within.map (·.1.1))
 have wl : ((one42 xx).within.map (·.1.1)).length <= 6 := by rw [<- enl, List.length_map, <- hbs.length]; omega
 have hfl : ∀ n, n ∈ ((one42 xx).within.map (·.1.1)).filter (fun n => decide (n ∈ ss)) ↔ n ∈ (one42 xx).within.map (·.1.1) /\ ¬ EndK b n := fun n => by
  rw [List.mem_filter, decide_eq_true_eq, hss n]
  constructor
  ·exact fun h => ⟨h.1, h.2.2⟩
  ·intro h
   obtain ⟨z, hz, e⟩ := List.mem_map.mp h.1
   exact ⟨h.1, (nb n).mp (e ▸ gnk z hz), h.2⟩
 generalize ((one42 xx).within.map (·.1.1)).filter (fun n => decide (n ∈ ss)) = fl at hL fll hfl
 refine ⟨L, fl, rfl, SqL.of hL, by omega, fun ys py pm srt npy => ?_⟩
 have hsm : sm ∈ ys := pm.mem_iff.mpr ((hfl sm).mpr ⟨one42_nm.mpr X.has, sme⟩)
 obtain ⟨n0, r0, eys⟩ : ∃ n r, ys = n :: r := by
  cases ys with
  | nil => cases hsm
  | cons n r => exact ⟨n, r, rfl⟩
 have lo := least_sorted pm srt hfl eys
 have t2 := SB.new (ps := []) npy (.lst (ys.map V.str))
 have hpy : upd Hj py (.lst (ys.map V.str)) py = some (.lst (ys.map V.str)) := upd_same
 have sh := (si.trans sj).trans t2
 generalize upd Hj py (.lst (ys.map V.str)) = Hk at t2 hpy sh ⊢
 have hAk := sh.keep _ _ hAh nmn
 have hnmk := sh.keep _ _ hnmh nmn
 have helk := sh.keep _ _ helh nmn
 have hbkk := hbkh.sb0 sh
 have hpk := hph.sb sh
 have hgk := hga.sb sh
 have hxk := Dp_sb sh _ _ (Gr.noList_pEnc _) hxh
 have s0k := s0h.trans sh.nil
 have n0k : n0 ∈ ks := (nb n0).mpr (by
  obtain ⟨z, hz, e⟩ := List.mem_map.mp lo.mem
  exact (nb _).mp (e ▸ gnk z hz))
 have ez0 : atI (ys.map V.str) ((0 : Nat) : Int) = some (.str n0) := atI_nat (by rw [eys]; rfl)
 have gnb : Gr.Named b.names (one42 xx) := fun z hz => (nb _).mp (gnk z hz)
 have dg : Du67 true b (one42 xx) (.endl n0) := .e rfl gnb lo
 clear hAh hnmh helh hbkh hph hga hxh s0h hL hD hbs hAi sh t1 t2 si sj
 refine ⟨_, rfl, by decide, by decide, ?_⟩
 refine for_it (walk_range (lo := 0) (n := 2)) (fun i σ G => SB [] Hk G /\ ∃ o13 : Option V, σ = [some (.ref a), some (.ref p), some (.int (m : Int)), some (.ref el), some (.ref nm), some (.ref kh), some (.ref bk), some (.ref A), some (.ref W), o9, some (.str sm), some (.ref gt), some (.ref py), o13, none, none, none, none]) ⟨SB.refl, none, rfl⟩ (fun _ _ _ _ _ => trivial) (fun i x σ G H' hi h y => ?_) (fun σ G h => ?_)
 ·obtain ⟨sG, o13, rfl⟩ := h
  obtain ⟨rfl, rfl⟩ := y
  have hi2 : i < 2 := hi
  refine ⟨_, rfl, _, rfl, _, rfl, _, rfl, _, rfl, py, _, _, _, rfl, rfl, SqL.of (sG.keep _ _ hpy nmn), ez0, ?_⟩
  refine ⟨0 + (i : Int), .ref bk, .ref W, .ref gt, b, one42 xx, .endl n0, "endless", n0, rfl, As42.one (hbkk.sb0 sG) ok (hgk.sb sG) (by omega) X.nm X.wn (by omega), hB.ow, ?_, .inr ⟨rfl, rfl⟩, kok n0 n0k, fun G2 s2 => ⟨_, rfl, iteF ⟨sG.trans s2, _, rfl⟩⟩⟩
  rcases (by omega : i = 0 \/ i = 1) with rfl | rfl
  ·exact .rank dg (fun z => nomatch z)
  ·exact .tab dg (fun z => nomatch z)
 obtain ⟨sG, o13, rfl⟩ := h
 have hbG := hbkk.sb0 sG
 have hpG := hpk.sb sG
 have dN : Du67 true b .nil .fine := .f (fun _ z => absurd z nmn) fun _ _ z => absurd z nmn
 have smo : NameOk sm := kok sm smk
 refine ⟨_, rfl, _, rfl, _, rfl, by show 0 <= sizeLine; decide, fun z0 nz0 => ?_⟩
 have u1 := SB.new (ps := []) nz0 (.tup [])
 have B1 := SqT.of (K := K) (upd_same : upd G z0 (.tup []) z0 = some (.tup []))
 generalize upd G z0 (.tup []) = J1 at u1 B1 ⊢
 refine ⟨by show 2 <= sizeLine; decide, fun z1 nz1 => ?_⟩
 have u2 := SB.new (ps := []) nz1 (.tup [.str sm, .ref z0])
 have B2 := SqT.of (K := K) (upd_same : upd J1 z1 (.tup [.str sm, .ref z0]) z1 = some (.tup [.str sm, .ref z0]))
 generalize upd J1 z1 (.tup [.str sm, .ref z0]) = J2 at u2 B2 ⊢
 refine ⟨by show 2 <= sizeLine; decide, fun z2 nz2 => ?_⟩
 have u3 := SB.new (ps := []) nz2 (.tup [.ref z1, .int 1])
 have B3 := SqT.of (K := K) (upd_same : upd J2 z2 (.tup [.ref z1, .int 1]) z2 = some (.tup [.ref z1, .int 1]))
 generalize upd J2 z2 (.tup [.ref z1, .int 1]) = J3 at u3 B3 ⊢
 refine ⟨by show 1 <= sizeLine; decide, fun z3 nz3 => ?_⟩
 have u4 := SB.new (ps := []) nz3 (.tup [.ref z2])
 have B4 := SqT.of (K := K) (upd_same : upd J3 z3 (.tup [.ref z2]) z3 = some (.tup [.ref z2]))
 generalize upd J3 z3 (.tup [.ref z2]) = J4 at u4 B4 ⊢
 have u14 := ((u1.trans u2).trans u3).trans u4
 have gA : GA K J4 (.ref z3) (one42 ((sm, .nil), 1)) := one_ga ((u3.trans u4).sqT B2) (u4.sqT B3) B4 ((GA_nil B1).sb ((u2.trans u3).trans u4))
 refine ⟨_, rfl, ?_⟩
 refine ⟨4, .ref bk, .ref W, .ref z3, b, _, .endl sm, "endless", sm, rfl, As42.one (ns := ks) (hbG.sb0 u14) ok gA (by decide : 0 <= 40) smk (fun _ z => absurd z nmn) (by omega), hB.ow, .own rfl (.inr ⟨smn, sme, rfl⟩), .inr ⟨rfl, rfl⟩, smo, fun J5 u5 => ⟨_, rfl, iteF ?_⟩⟩
 refine ⟨_, rfl, by show 0 <= sizeLine; decide, fun z4 nz4 => ?_⟩
 have u6 := SB.new (ps := []) nz4 (.tup [])
 have B6 := SqT.of (K := K) (upd_same : upd J5 z4 (.tup []) z4 = some (.tup []))
 generalize upd J5 z4 (.tup []) = J6 at u6 B6 ⊢
 have u16 := (u14.trans u5).trans u6
 refine ⟨.ref bk, .ref z4, b, .nil, .fine, rfl, ⟨hbG.sb0 u16, ok, GA_nil B6, by decide, by decide, [], fun _ z => absurd z nmn, by decide⟩, hB.ow, dN, fun _ => rfl, fun rv J7 u7 hrv => ?_⟩
 refine ⟨by show 0 <= sizeLine; decide, fun z5 nz5 => ?_⟩
 have u8 := SB.new (ps := []) nz5 (.tup [])
 refine ⟨Lad.enc .nil, .tuple [], Dp_sb u8 _ _ (by decide +kernel) hrv, .tup (SqT.of upd_same) .nil, by decide +kernel, by decide +kernel, _, rfl, ?_⟩
 rw [show PyData.eqv (Lad.enc .nil) (.tuple []) = true by decide +kernel]
 refine iteF ?_
 have u18 := (u16.trans u7).trans u8
 generalize upd J7 z5 (.tup []) = K0 at u8 u18 ⊢
 have V0 := sG.trans u18
 have hpK := hpk.sb V0
 have helK := V0.keep _ _ helk nmn
 have hnmK := V0.keep _ _ hnmk nmn
 have hbK := hbkk.sb0 V0
 have hgK := hgk.sb V0
 have s0K := s0k.trans V0.nil
 clear hbG hpG gA B1 B2 B3 B4 B6 hrv u1 u2 u3 u4 u5 u6 u7 u8 u14 u16 u18 sG V0 hpk helk hnmk hbkk hgk s0k hpy hAk hxk
 dsimp only [tNext]
 refine ⟨_, rfl, _, rfl, _, rfl, p, el, es, m, rfl, hpK, helK, elp, esl, eok, fun ov yy K1 s1 hp1 hov Y => ?_⟩
 rw [hds] at Y
 have hnm1 := s1.keep _ _ hnmK (by simpa using nmp)
 have hb1 := hbK.sb s1 hpK.lsts
 have hg1 := hgK.sb s1
 have s01 := s0K.trans s1
 clear hpK helK hnmK hbK hgK s0K s1
 obtain ⟨oa, ob, ou, rfl, ho1, ho2, hou, hoT⟩ := PA_parts hov
 refine ⟨_, rfl, oa, _, _, _, rfl, rfl, ho1, atI_nat (j := 0) rfl, ob, _, _, _, rfl, rfl, ho2, atI_nat (j := 0) rfl, ?_⟩
 obtain ⟨ga, gx, ega, hgs, hgb⟩ := GA_bears hg1
 cases ega
 have gxl := hgb.length
 have gx1 : (one42 xx).ps.length = 1 := rfl
 refine ⟨_, rfl, _, rfl, by show 1 <= sizeLine; decide, fun oz noz => ?_⟩
 have v1 := SB.new (ps := []) noz (.tup [.ref oa])
 have C1 := SqT.of (K := K) (upd_same : upd K1 oz (.tup [.ref oa]) oz = some (.tup [.ref oa]))
 generalize upd K1 oz (.tup [.ref oa]) = K2 at v1 C1 ⊢
 refine ⟨gt, oz, gx, [.ref oa], rfl, rfl, v1.sqT hgs, C1, by rw [gxl, gx1]; show 1 + 1 <= 10000000; decide, fun cc K3 v2 hcc => ?_⟩
 have hyb : Dp K K3 (.ref oa) (Gr.pEnc yy) := Dp_sb (v1.trans v2) _ _ (Gr.noList_pEnc _) hov
 have Xp := X.parts
 have Yd := Y.deep
 have Xd := within_deep xx.1.2
 refine ⟨cc, _, [xx, yy], rfl, .inr hcc, Bears.append (hgb.sb (v1.trans v2) Gr.noList_pEnc) (.cons hyb .nil), Gr.pEnc_all _, Gr.pEnc_sortable _, (by decide : 2 <= 10000000), fun z hz => ?_, fun sp zs nsp hz => ?_⟩
 ·have h1 := Gr.pEnc_depth z
  rcases List.mem_cons.mp hz with e | e
  ·rw [e] at h1; rw [e]; omega
  ·rw [List.mem_singleton.mp e] at h1; rw [List.mem_singleton.mp e]; omega
 have v3 := SB.new (ps := []) nsp (.lst zs)
 have hsp : upd K3 sp (.lst zs) sp = some (.lst zs) := upd_same
 have hz := hz.sb v3 Gr.noList_pEnc
 generalize upd K3 sp (.lst zs) = K4 at v3 hsp hz ⊢
 refine ⟨sp, zs, rfl, .inl ⟨SqL.of hsp, fun wt nwt => ?_⟩⟩
 have v4 := SB.new (ps := []) nwt (.tup zs)
 have hw : GA K (upd K4 wt (.tup zs)) (.ref wt) (Gr.ofPs (srtE Gr.pEnc [xx, yy])) := Bears_ga (SqT.of upd_same) (hz.sb v4 Gr.noList_pEnc)
 have W0 := two42 X Y (srtE_perm (enc := Gr.pEnc) [xx, yy])
 generalize Gr.ofPs (srtE Gr.pEnc [xx, yy]) = wg at hw W0
 have v14 := ((v1.trans v2).trans v3).trans v4
 generalize upd K4 wt (.tup zs) = K5 at v4 hw v14 ⊢
 have hp5 := hp1.sb v14
 have hnm5 := v14.keep _ _ hnm1 nmn
 have hb5 := hb1.sb0 v14
 have ho5 := Dp_sb v14 _ _ (Gr.noList_pEnc _) hov
 have s05 := s01.trans v14.nil
 clear hp1 hnm1 hb1 hov hou hoT ho1 ho2 hgs hgb hg1 hyb hcc C1 v1 v2 v3 v4 v14 s01 hsp hz
 dsimp only [gName]
 refine seq_via (fun σ' G => SB [p] K5 G /\ ∃ (wv : V) (gw : Gr), σ' = [some (.ref a), some (.ref p), some (.int (m : Int)), some (.ref el), some (.ref nm), some (.ref kh), some (.ref bk), some (.ref A), some (.ref W), o9, some (.str sm), some (.ref gt), some (.ref py), o13, some (.ref oa), some (.str yy.1.1), some wv, none] /\ GA K G wv gw /\ Wh42 ks ds yy.1.1 gw) (fun nx hnx => ?_) (fun σ' G h => ?_)
 ·refine ⟨_, rfl, p, rfl, hp5, fun r2 G2 r20 r2m s2 hp2 => ?_⟩
  refine ⟨_, _, rfl, rfl, (by show (0 : Int) < 2; decide), rfl, _, rfl, ?_⟩
  by_cases h1 : r2 % 2 = 1
  ·rw [show decide (V.int (r2 % 2) = V.int 1) = true from decide_eq_true (by rw [h1])]
   refine iteT ?_
   refine ⟨_, rfl, _, rfl, by show 1 <= sizeLine; decide, fun y1 ny1 => ?_⟩
   have u1 := SB.new (ps := []) ny1 (.tup [.ref oa])
   have B1 := SqT.of (K := K) (upd_same : upd G2 y1 (.tup [.ref oa]) y1 = some (.tup [.ref oa]))
   generalize upd G2 y1 (.tup [.ref oa]) = J1 at u1 B1 ⊢
   refine ⟨by show 2 <= sizeLine; decide, fun y2 ny2 => ?_⟩
   have u2 := SB.new (ps := []) ny2 (.tup [.str sm, .ref y1])
   have B2 := SqT.of (K := K) (upd_same : upd J1 y2 (.tup [.str sm, .ref y1]) y2 = some (.tup [.str sm, .ref y1]))
   generalize upd J1 y2 (.tup [.str sm, .ref y1]) = J2 at u2 B2 ⊢
   refine ⟨by show 2 <= sizeLine; decide, fun y3 ny3 => ?_⟩
   have u3 := SB.new (ps := []) ny3 (.tup [.ref y2, .int 3])
   have B3 := SqT.of (K := K) (upd_same : upd J2 y3 (.tup [.ref y2, .int 3]) y3 = some (.tup [.ref y2, .int 3]))
   generalize upd J2 y3 (.tup [.ref y2, .int 3]) = J3 at u3 B3 ⊢
   refine ⟨by show 1 <= sizeLine; decide, fun y4 ny4 => ?_⟩
   have u4 := SB.new (ps := []) ny4 (.tup [.ref y3])
   have B4 := SqT.of (K := K) (upd_same : upd J3 y4 (.tup [.ref y3]) y4 = some (.tup [.ref y3]))
   generalize upd J3 y4 (.tup [.ref y3]) = J4 at u4 B4 ⊢
   have u14 := ((u1.trans u2).trans u3).trans u4
   have hg1 : GA K J4 (.ref y1) (one42 yy) := Bears_ga (bs := [yy]) (((u2.trans u3).trans u4).sqT B1) (.cons (Dp_sb (s2.trans u14.nil) _ _ (Gr.noList_pEnc _) ho5) .nil)
   have hg2 : GA K J4 (.ref y4) (one42 ((sm, one42 yy), 3)) := one_ga ((u3.trans u4).sqT B2) (u4.sqT B3) B4 hg1
   exact hnx _ _ ⟨s2.trans u14.nil, _, _, rfl, hg2, in42 Y smk 3⟩
  ·rw [show decide (V.int (r2 % 2) = V.int 1) = false from decide_eq_false fun z => h1 (V.int.inj z)]
   exact iteF (hnx _ _ ⟨s2, _, _, rfl, hw.sb s2, W0⟩)
 obtain ⟨sg, wv, gw, rfl, hgw, W1⟩ := h
 have hnm6 := sg.keep _ _ hnm5 (by simpa using nmp)
 have hb6 := hb5.sb sg hp5.lsts
 have s06 := s05.trans sg
 clear hnm5 hb5 s05 hp5 ho5 hw sg W0
 have gwp := W1.parts
 have gwd := within_deep gw
 refine ⟨_, rfl, wv, gw, rfl, hgw, by omega, by omega, fun D us Hi si nD hD hbs => ?_⟩
 have ul : us.length = gw.parts := by rw [hbs.length, Gr.ins_len]
 have enl : gw.ins.map (·.1) = gw.within.map (·.1.1) := by rw [Gr.ins_within, List.map_map]; rfl
 refine ⟨D, rfl, ⟨_, SqL.of hD⟩, fun L nL => ?_⟩
 have hnmi := si.keep _ _ hnm6 nmn
 refine lc_seq (walk_list (xs := us)) nL (by omega) (fun i ws _ => ws = (((gw.ins.map (·.1)).take i).filter fun n => decide (n ∉ ks)).map V.str) rfl (fun G s => s.sqL nmn (SqL.of hD)) (fun _ _ _ _ _ h => h) (fun Pv i z Hq G ws hi s y hR hu fin skip => ?_) (fun ws Hj sj hL hR hu => ?_)
 ·obtain ⟨rfl, ez⟩ := y
  obtain ⟨tr, et, ht⟩ := hbs.get ez
  have ex : (gw.ins.map (·.1))[i]? = some tr.1 := by rw [List.getElem?_map, et]; rfl
  have hst := filt_step (fun n => decide (n ∉ ks)) ex
  cases (ht : Dp K Hi z (.tuple [.str tr.1, tr.2.enc])) with
  | @tup ad us2 _ hs2 hda2 =>
  cases hda2 with
  | cons c1 hda2 =>
  cases hda2 with
  | cons c2 hda2 =>
  cases hda2
  cases c1
  refine ⟨rfl, _, rfl, ad, _, _, _, rfl, rfl, s.sqT hs2, atI_nat (j := 0) rfl, _, rfl, nm, _, rfl, .inl (SqL.of (s.keep _ _ hnmi nmn)), rfl, flat_strs _, _, rfl, ?_⟩
  rw [if_pos rfl, inV_strs]
  by_cases h1 : tr.1 ∈ ks
  ·rw [decide_eq_true h1]
   refine iteF (skip _ SB.refl ?_)
   rw [hst, if_neg (fun z => (of_decide_eq_true z : tr.1 ∉ ks) h1), hR, List.append_nil]
  ·rw [decide_eq_false h1]
   refine iteT ⟨_, rfl, ad, _, _, _, rfl, rfl, s.sqT hs2, atI_nat (j := 0) rfl, fin _ _ SB.refl ?_⟩
   rw [hst, if_pos (decide_eq_true h1), hR]
 subst hR
 rw [show us.length = (gw.ins.map (·.1)).length by rw [List.length_map, hbs.length], List.take_length, enl] at hL
 have fll := List.length_filter_le (fun n => decide (n ∉ ks)) (gw.within.map (·.1.1))
 have wl : (gw.within.map (·.1.1)).length <= 15 := by rw [<- enl, List.length_map, <- hbs.length]; omega
 have hfl : ∀ n, n ∈ (gw.within.map (·.1.1)).filter (fun n => decide (n ∉ ks)) ↔ n ∈ gw.within.map (·.1.1) /\ n ∉ b.names := fun n => by
  rw [List.mem_filter, decide_eq_true_eq, nb n]
 have ysk : yy.1.1 ∉ ks := (kdr _ Y.nm).1
 generalize (gw.within.map (·.1.1)).filter (fun n => decide (n ∉ ks)) = fl2 at hL fll hfl
 refine ⟨L, fl2, rfl, SqL.of hL, by omega, fun zs pz pm2 srt2 npz => ?_⟩
 have hsm2 : yy.1.1 ∈ zs := pm2.mem_iff.mpr ((hfl _).mpr ⟨W1.has, fun z => ysk ((nb _).mpr z)⟩)
 obtain ⟨n1, r1, ezs⟩ : ∃ n r, zs = n :: r := by
  cases zs with
  | nil => cases hsm2
  | cons n r => exact ⟨n, r, rfl⟩
 have lo2 := least_sorted pm2 srt2 hfl ezs
 have n1o : NameOk n1 := by
  obtain ⟨z, hz, e⟩ := List.mem_map.mp lo2.mem
  have h := W1.nm z hz
  rw [e] at h
  rcases List.mem_append.mp h with h | h
  ·exact (lo2.out ((nb _).mp h)).elim
  ·exact (kdr _ h).2
 have t2 := SB.new (ps := []) npz (.lst (zs.map V.str))
 have hpz : upd Hj pz (.lst (zs.map V.str)) pz = some (.lst (zs.map V.str)) := upd_same
 have sh := (si.trans sj).trans t2
 generalize upd Hj pz (.lst (zs.map V.str)) = Hk at t2 hpz sh ⊢
 have hbk := hb6.sb0 sh
 have hgk := hgw.sb sh
 have ez1 : atI (zs.map V.str) ((0 : Nat) : Int) = some (.str n1) := atI_nat (by rw [ezs]; rfl)
 have dk : Du67 true b gw (.kind n1) := .k lo2
 have nml : (ks ++ ds).length <= 60 := by rw [List.length_append]; omega
 have rank0 : ∀ {G : Hp} {z : Addr}, SB [] Hk G -> SqT K G z [] -> As42 K C_Book G (.ref bk) (.ref z) b .nil := fun s h => ⟨hbk.sb0 s, ok, GA_nil h, by decide, by decide, [], fun _ z => absurd z nmn, by decide⟩
 clear hL hD hbs hnmi t2 si sj hnm6 hb6 hgw
 refine ⟨_, rfl, by decide, by decide, ?_⟩
 refine for_it (walk_range (lo := 0) (n := 4)) (fun i σ G => SB [] Hk G /\ ∃ o13 : Option V, σ = [some (.ref a), some (.ref p), some (.int (m : Int)), some (.ref el), some (.ref nm), some (.ref kh), some (.ref bk), some (.ref A), some (.ref W), o9, some (.str sm), some (.ref gt), some (.ref pz), o13, some (.ref oa), some (.str yy.1.1), some wv, none]) ⟨SB.refl, _, rfl⟩ (fun _ _ _ _ _ => trivial) (fun i x σ G H' hi h y => ?_) (fun σ G h => ?_)
 ·obtain ⟨sG, o13, rfl⟩ := h
  obtain ⟨rfl, rfl⟩ := y
  have hi2 : i < 4 := hi
  refine ⟨_, rfl, _, rfl, _, rfl, _, rfl, _, rfl, pz, _, _, _, rfl, rfl, SqL.of (sG.keep _ _ hpz nmn), ez1, ?_⟩
  refine ⟨0 + (i : Int), .ref bk, .ref W, wv, b, gw, .kind n1, "kind", n1, rfl, ⟨hbk.sb0 sG, ok, hgk.sb sG, by omega, by omega, ks ++ ds, W1.nm, nml⟩, hB.ow, ?_, .inl ⟨rfl, rfl⟩, n1o, fun G2 s2 => ⟨_, rfl, iteF ?_⟩⟩
  ·rcases (by omega : i = 0 \/ i = 1 \/ i = 2 \/ i = 3) with rfl | rfl | rfl | rfl
   ·exact .rank dk (fun z => nomatch z)
   ·exact .tab dk (fun z => nomatch z)
   ·exact .ist lo2
   ·exact .wor lo2
  refine ⟨_, rfl, by show 0 <= sizeLine; decide, fun z4 nz4 => ?_⟩
  have u6 := SB.new (ps := []) nz4 (.tup [])
  have B6 := SqT.of (K := K) (upd_same : upd G2 z4 (.tup []) z4 = some (.tup []))
  generalize upd G2 z4 (.tup []) = J6 at u6 B6 ⊢
  refine ⟨.ref bk, .ref z4, b, .nil, .fine, rfl, rank0 ((sG.trans s2).trans u6) B6, hB.ow, dN, fun _ => rfl, fun rv J7 u7 hrv => ?_⟩
  refine ⟨by show 0 <= sizeLine; decide, fun z5 nz5 => ?_⟩
  have u8 := SB.new (ps := []) nz5 (.tup [])
  refine ⟨Lad.enc .nil, .tuple [], Dp_sb u8 _ _ (by decide +kernel) hrv, .tup (SqT.of upd_same) .nil, by decide +kernel, by decide +kernel, _, rfl, ?_⟩
  rw [show PyData.eqv (Lad.enc .nil) (.tuple []) = true by decide +kernel]
  exact iteF ⟨(((sG.trans s2).trans u6).trans u7).trans u8, _, rfl⟩
 obtain ⟨sG, o13, rfl⟩ := h
 have yo := (kdr _ Y.nm).2
 refine ⟨_, rfl, _, rfl, _, rfl, by show 0 <= sizeLine; decide, fun z0 nz0 => ?_⟩
 have u1 := SB.new (ps := []) nz0 (.tup [])
 have B1 := SqT.of (K := K) (upd_same : upd G z0 (.tup []) z0 = some (.tup []))
 generalize upd G z0 (.tup []) = J1 at u1 B1 ⊢
 refine ⟨by show 2 <= sizeLine; decide, fun z1 nz1 => ?_⟩
 have u2 := SB.new (ps := []) nz1 (.tup [.str yy.1.1, .ref z0])
 have B2 := SqT.of (K := K) (upd_same : upd J1 z1 (.tup [.str yy.1.1, .ref z0]) z1 = some (.tup [.str yy.1.1, .ref z0]))
 generalize upd J1 z1 (.tup [.str yy.1.1, .ref z0]) = J2 at u2 B2 ⊢
 refine ⟨by show 2 <= sizeLine; decide, fun z2 nz2 => ?_⟩
 have u3 := SB.new (ps := []) nz2 (.tup [.ref z1, .int 1])
 have B3 := SqT.of (K := K) (upd_same : upd J2 z2 (.tup [.ref z1, .int 1]) z2 = some (.tup [.ref z1, .int 1]))
 generalize upd J2 z2 (.tup [.ref z1, .int 1]) = J3 at u3 B3 ⊢
 refine ⟨by show 1 <= sizeLine; decide, fun z3 nz3 => ?_⟩
 have u4 := SB.new (ps := []) nz3 (.tup [.ref z2])
 have B4 := SqT.of (K := K) (upd_same : upd J3 z3 (.tup [.ref z2]) z3 = some (.tup [.ref z2]))
 generalize upd J3 z3 (.tup [.ref z2]) = J4 at u4 B4 ⊢
 have u14 := ((u1.trans u2).trans u3).trans u4
 have gA : GA K J4 (.ref z3) (one42 ((yy.1.1, .nil), 1)) := one_ga ((u3.trans u4).sqT B2) (u4.sqT B3) B4 ((GA_nil B1).sb ((u2.trans u3).trans u4))
 refine ⟨_, rfl, ?_⟩
 refine ⟨4, .ref bk, .ref W, .ref z3, b, _, .kind yy.1.1, "kind", yy.1.1, rfl, As42.one (ns := ds) ((hbk.sb0 sG).sb0 u14) ok gA (by decide : 0 <= 40) Y.nm (fun _ z => absurd z nmn) (by omega), hB.ow, .own rfl (.inl ⟨fun z => ysk ((nb _).mpr z), rfl⟩), .inl ⟨rfl, rfl⟩, yo, fun J5 u5 => ⟨_, rfl, ?_⟩⟩
 rw [if_pos rfl]
 refine ⟨_, rfl, by show 0 <= sizeLine; decide, fun z4 nz4 => ?_⟩
 have u6 := SB.new (ps := []) nz4 (.tup [])
 have B6 := SqT.of (K := K) (upd_same : upd J5 z4 (.tup []) z4 = some (.tup []))
 generalize upd J5 z4 (.tup []) = J6 at u6 B6 ⊢
 have u16 := (u14.trans u5).trans u6
 refine ⟨.ref bk, .ref z4, b, .nil, .fine, rfl, rank0 (sG.trans u16) B6, hB.ow, dN, fun _ => rfl, fun rv J7 u7 hrv => ?_⟩
 refine ⟨by show 0 <= sizeLine; decide, fun z5 nz5 => ?_⟩
 have u8 := SB.new (ps := []) nz5 (.tup [])
 refine ⟨Lad.enc .nil, .tuple [], Dp_sb u8 _ _ (by decide +kernel) hrv, .tup (SqT.of upd_same) .nil, by decide +kernel, by decide +kernel, ?_⟩
 rw [show PyData.eqv (Lad.enc .nil) (.tuple []) = true by decide +kernel]
 exact q _
end
theorem facts {P : Program} {w : World} {K : PySem.W.Frag} {h : Heap} {mg : Str -> Option Value} {f : Addr} (X : K.In h) (G : h.Ns mainGlobals mg) (hfa : mg ("law" : Str) = some (.ref f)) (c : He.SaysD fa fn K) (cx : exOk K = true) :
  ∃ fd : FuncData, (∀ (s : Shared) (v : Value), BindsTo s fd ⟨[v], []⟩ [("_law_script", v)]) /\ ∀ base : Heap, K.In base -> base.Ns mainGlobals mg -> FnOk P w K mg base CX0 120 f fd ["_law_script"] (spLaw K) := by
 obtain ⟨fd_is_whole, D_is_whole⟩ := c.def_ 0 (d := d_is_whole) rfl
 have F_is_whole : Fun K "is_whole" "is_whole" s_is_whole _ fd_is_whole := He5.fun_of D_is_whole
 have m_is_whole := He.glo_ok X G (c.fact 0 (f := .glo "is_whole") rfl)
 have b_is_whole := F_is_whole.binds (ps := ["thing"]) fun _ _ _ _ _ _ us hl => match us, hl with | [_], _ => rfl
 obtain ⟨fd_is_many, D_is_many⟩ := c.def_ 1 (d := d_is_many) rfl
 have F_is_many : Fun K "is_many" "is_many" s_is_many _ fd_is_many := He5.fun_of D_is_many
 have m_is_many := He.glo_ok X G (c.fact 1 (f := .glo "is_many") rfl)
 have b_is_many := F_is_many.binds (ps := ["thing"]) fun _ _ _ _ _ _ us hl => match us, hl with | [_], _ => rfl
 obtain ⟨fd_is_name, D_is_name⟩ := c.def_ 2 (d := d_is_name) rfl
 have F_is_name : Fun K "is_name" "is_name" s_is_name _ fd_is_name := He5.fun_of D_is_name
 have m_is_name := He.glo_ok X G (c.fact 2 (f := .glo "is_name") rfl)
 have b_is_name := F_is_name.binds (ps := ["thing"]) fun _ _ _ _ _ _ us hl => match us, hl with | [_], _ => rfl
 obtain ⟨fd_is_rising, D_is_rising⟩ := c.def_ 3 (d := d_is_rising) rfl
 have F_is_rising : Fun K "is_rising" "is_rising" s_is_rising _ fd_is_rising := He5.fun_of D_is_rising
 have m_is_rising := He.glo_ok X G (c.fact 3 (f := .glo "is_rising") rfl)
 have b_is_rising := F_is_rising.binds (ps := ["things"]) fun _ _ _ _ _ _ us hl => match us, hl with | [_], _ => rfl
 obtain ⟨fd_joined, D_joined⟩ := c.def_ 4 (d := d_joined) rfl
 have F_joined : Fun K "joined" "joined" s_joined _ fd_joined := He5.fun_of D_joined
 have m_joined := He.glo_ok X G (c.fact 4 (f := .glo "joined") rfl)
 have b_joined := F_joined.binds (ps := ["pairs"]) fun _ _ _ _ _ _ us hl => match us, hl with | [_], _ => rfl
 obtain ⟨fd_many_at, D_many_at⟩ := c.def_ 5 (d := d_many_at) rfl
 have F_many_at : Fun K "many_at" "many_at" s_many_at _ fd_many_at := He5.fun_of D_many_at
 have m_many_at := He.glo_ok X G (c.fact 5 (f := .glo "many_at") rfl)
 have b_many_at := F_many_at.binds (ps := ["pairs", "thing"]) fun _ _ _ _ _ _ us hl => match us, hl with | [_, _], _ => rfl
 obtain ⟨fd_run_of, D_run_of⟩ := c.def_ 6 (d := d_run_of) rfl
 have F_run_of : Fun K "run_of" "run_of" s_run_of _ fd_run_of := He5.fun_of D_run_of
 have m_run_of := He.glo_ok X G (c.fact 6 (f := .glo "run_of") rfl)
 have b_run_of := F_run_of.binds (ps := ["text", "at", "signs"]) fun _ _ _ _ _ _ us hl => match us, hl with | [_, _, _], _ => rfl
 obtain ⟨fd_is_tree, D_is_tree⟩ := c.def_ 7 (d := d_is_tree) rfl
 have F_is_tree : Fun K "is_tree" "is_tree" s_is_tree _ fd_is_tree := He5.fun_of D_is_tree
 have m_is_tree := He.glo_ok X G (c.fact 7 (f := .glo "is_tree") rfl)
 have b_is_tree := F_is_tree.binds (ps := ["thing"]) fun _ _ _ _ _ _ us hl => match us, hl with | [_], _ => rfl
 obtain ⟨fd_is_grove, D_is_grove⟩ := c.def_ 8 (d := d_is_grove) rfl
 have F_is_grove : Fun K "is_grove" "is_grove" s_is_grove _ fd_is_grove := He5.fun_of D_is_grove
 have m_is_grove := He.glo_ok X G (c.fact 8 (f := .glo "is_grove") rfl)
 have b_is_grove := F_is_grove.binds (ps := ["thing"]) fun _ _ _ _ _ _ us hl => match us, hl with | [_], _ => rfl
 obtain ⟨fd_are_grove_pairs, D_are_grove_pairs⟩ := c.def_ 9 (d := d_are_grove_pairs) rfl
 have F_are_grove_pairs : Fun K "are_grove_pairs" "are_grove_pairs" s_are_grove_pairs _ fd_are_grove_pairs := He5.fun_of D_are_grove_pairs
 have m_are_grove_pairs := He.glo_ok X G (c.fact 9 (f := .glo "are_grove_pairs") rfl)
 have b_are_grove_pairs := F_are_grove_pairs.binds (ps := ["things"]) fun _ _ _ _ _ _ us hl => match us, hl with | [_], _ => rfl
 obtain ⟨fd_pairs_within, D_pairs_within⟩ := c.def_ 10 (d := d_pairs_within) rfl
 have F_pairs_within : Fun K "pairs_within" "pairs_within" s_pairs_within _ fd_pairs_within := He5.fun_of D_pairs_within
 have m_pairs_within := He.glo_ok X G (c.fact 10 (f := .glo "pairs_within") rfl)
 have b_pairs_within := F_pairs_within.binds (ps := ["grove"]) fun _ _ _ _ _ _ us hl => match us, hl with | [_], _ => rfl
 obtain ⟨fd_kinds_within, D_kinds_within⟩ := c.def_ 11 (d := d_kinds_within) rfl
 have F_kinds_within : Fun K "kinds_within" "kinds_within" s_kinds_within _ fd_kinds_within := He5.fun_of D_kinds_within
 have m_kinds_within := He.glo_ok X G (c.fact 11 (f := .glo "kinds_within") rfl)
 have b_kinds_within := F_kinds_within.binds (ps := ["grove"]) fun _ _ _ _ _ _ us hl => match us, hl with | [_], _ => rfl
 obtain ⟨fd_rules_from_nought, D_rules_from_nought⟩ := c.def_ 12 (d := d_rules_from_nought) rfl
 have F_rules_from_nought : Fun K "rules_from_nought" "rules_from_nought" s_rules_from_nought _ fd_rules_from_nought := He5.fun_of D_rules_from_nought
 have m_rules_from_nought := He.glo_ok X G (c.fact 12 (f := .glo "rules_from_nought") rfl)
 have b_rules_from_nought := F_rules_from_nought.binds (ps := ["book", "name"]) fun _ _ _ _ _ _ us hl => match us, hl with | [_, _], _ => rfl
 obtain ⟨fd_check_kind, D_check_kind⟩ := c.def_ 13 (d := d_check_kind) rfl
 have F_check_kind : Fun K "check_kind" "check_kind" s_check_kind _ fd_check_kind := He5.fun_of D_check_kind
 have m_check_kind := He.glo_ok X G (c.fact 13 (f := .glo "check_kind") rfl)
 have b_check_kind := F_check_kind.binds (ps := ["book", "name"]) fun _ _ _ _ _ _ us hl => match us, hl with | [_, _], _ => rfl
 obtain ⟨fd_check_kinds, D_check_kinds⟩ := c.def_ 14 (d := d_check_kinds) rfl
 have F_check_kinds : Fun K "check_kinds" "check_kinds" s_check_kinds _ fd_check_kinds := He5.fun_of D_check_kinds
 have m_check_kinds := He.glo_ok X G (c.fact 14 (f := .glo "check_kinds") rfl)
 have b_check_kinds := F_check_kinds.binds (ps := ["book", "grove"]) fun _ _ _ _ _ _ us hl => match us, hl with | [_, _], _ => rfl
 obtain ⟨fd_are_kinds, D_are_kinds⟩ := c.def_ 15 (d := d_are_kinds) rfl
 have F_are_kinds : Fun K "are_kinds" "are_kinds" s_are_kinds _ fd_are_kinds := He5.fun_of D_are_kinds
 have m_are_kinds := He.glo_ok X G (c.fact 15 (f := .glo "are_kinds") rfl)
 have b_are_kinds := F_are_kinds.binds (ps := ["things"]) fun _ _ _ _ _ _ us hl => match us, hl with | [_], _ => rfl
 obtain ⟨fd_is_kind, D_is_kind⟩ := c.def_ 16 (d := d_is_kind) rfl
 have F_is_kind : Fun K "is_kind" "is_kind" s_is_kind _ fd_is_kind := He5.fun_of D_is_kind
 have m_is_kind := He.glo_ok X G (c.fact 16 (f := .glo "is_kind") rfl)
 have b_is_kind := F_is_kind.binds (ps := ["thing"]) fun _ _ _ _ _ _ us hl => match us, hl with | [_], _ => rfl
 obtain ⟨fd_is_rule, D_is_rule⟩ := c.def_ 17 (d := d_is_rule) rfl
 have F_is_rule : Fun K "is_rule" "is_rule" s_is_rule _ fd_is_rule := He5.fun_of D_is_rule
 have m_is_rule := He.glo_ok X G (c.fact 17 (f := .glo "is_rule") rfl)
 have b_is_rule := F_is_rule.binds (ps := ["thing"]) fun _ _ _ _ _ _ us hl => match us, hl with | [_], _ => rfl
 obtain ⟨fd_is_rule_of, D_is_rule_of⟩ := c.def_ 18 (d := d_is_rule_of) rfl
 have F_is_rule_of : Fun K "is_rule_of" "is_rule_of" s_is_rule_of _ fd_is_rule_of := He5.fun_of D_is_rule_of
 have m_is_rule_of := He.glo_ok X G (c.fact 18 (f := .glo "is_rule_of") rfl)
 have b_is_rule_of := F_is_rule_of.binds (ps := ["rule", "names"]) fun _ _ _ _ _ _ us hl => match us, hl with | [_, _], _ => rfl
 obtain ⟨fd_is_ladder, D_is_ladder⟩ := c.def_ 19 (d := d_is_ladder) rfl
 have F_is_ladder : Fun K "is_ladder" "is_ladder" s_is_ladder _ fd_is_ladder := He5.fun_of D_is_ladder
 have m_is_ladder := He.glo_ok X G (c.fact 19 (f := .glo "is_ladder") rfl)
 have b_is_ladder := F_is_ladder.binds (ps := ["thing"]) fun _ _ _ _ _ _ us hl => match us, hl with | [_], _ => rfl
 obtain ⟨fd_is_ladder_pair, D_is_ladder_pair⟩ := c.def_ 20 (d := d_is_ladder_pair) rfl
 have F_is_ladder_pair : Fun K "is_ladder_pair" "is_ladder_pair" s_is_ladder_pair _ fd_is_ladder_pair := He5.fun_of D_is_ladder_pair
 have m_is_ladder_pair := He.glo_ok X G (c.fact 20 (f := .glo "is_ladder_pair") rfl)
 have b_is_ladder_pair := F_is_ladder_pair.binds (ps := ["thing"]) fun _ _ _ _ _ _ us hl => match us, hl with | [_], _ => rfl
 obtain ⟨fd_number, D_number⟩ := c.def_ 21 (d := d_number) rfl
 have F_number : Fun K "number" "number" s_number _ fd_number := He5.fun_of D_number
 have m_number := He.glo_ok X G (c.fact 21 (f := .glo "number") rfl)
 have b_number := F_number.binds (ps := ["many"]) fun _ _ _ _ _ _ us hl => match us, hl with | [_], _ => rfl
 obtain ⟨fd_is_less, D_is_less⟩ := c.def_ 22 (d := d_is_less) rfl
 have F_is_less : Fun K "is_less" "is_less" s_is_less _ fd_is_less := He5.fun_of D_is_less
 have m_is_less := He.glo_ok X G (c.fact 22 (f := .glo "is_less") rfl)
 have b_is_less := F_is_less.binds (ps := ["one", "other"]) fun _ _ _ _ _ _ us hl => match us, hl with | [_, _], _ => rfl
 obtain ⟨fd_behind, D_behind⟩ := c.def_ 23 (d := d_behind) rfl
 have F_behind : Fun K "behind" "behind" s_behind _ fd_behind := He5.fun_of D_behind
 have m_behind := He.glo_ok X G (c.fact 23 (f := .glo "behind") rfl)
 have b_behind := F_behind.binds (ps := ["one", "other"]) fun _ _ _ _ _ _ us hl => match us, hl with | [_, _], _ => rfl
 obtain ⟨fd_both, D_both⟩ := c.def_ 24 (d := d_both) rfl
 have F_both : Fun K "both" "both" s_both _ fd_both := He5.fun_of D_both
 have m_both := He.glo_ok X G (c.fact 24 (f := .glo "both") rfl)
 have b_both := F_both.binds (ps := ["one", "other"]) fun _ _ _ _ _ _ us hl => match us, hl with | [_, _], _ => rfl
 obtain ⟨fd_all_together, D_all_together⟩ := c.def_ 25 (d := d_all_together) rfl
 have F_all_together : Fun K "all_together" "all_together" s_all_together _ fd_all_together := He5.fun_of D_all_together
 have m_all_together := He.glo_ok X G (c.fact 25 (f := .glo "all_together") rfl)
 have b_all_together := F_all_together.binds (ps := ["some"]) fun _ _ _ _ _ _ us hl => match us, hl with | [_], _ => rfl
 obtain ⟨fd_many_of, D_many_of⟩ := c.def_ 26 (d := d_many_of) rfl
 have F_many_of : Fun K "many_of" "many_of" s_many_of _ fd_many_of := He5.fun_of D_many_of
 have m_many_of := He.glo_ok X G (c.fact 26 (f := .glo "many_of") rfl)
 have b_many_of := F_many_of.binds (ps := ["ladder", "many"]) fun _ _ _ _ _ _ us hl => match us, hl with | [_, _], _ => rfl
 obtain ⟨fd_power, D_power⟩ := c.def_ 27 (d := d_power) rfl
 have F_power : Fun K "power" "power" s_power _ fd_power := He5.fun_of D_power
 have m_power := He.glo_ok X G (c.fact 27 (f := .glo "power") rfl)
 have b_power := F_power.binds (ps := ["ladder"]) fun _ _ _ _ _ _ us hl => match us, hl with | [_], _ => rfl
 obtain ⟨fd_above, D_above⟩ := c.def_ 28 (d := d_above) rfl
 have F_above : Fun K "above" "above" s_above _ fd_above := He5.fun_of D_above
 have m_above := He.glo_ok X G (c.fact 28 (f := .glo "above") rfl)
 have b_above := F_above.binds (ps := ["one", "other"]) fun _ _ _ _ _ _ us hl => match us, hl with | [_, _], _ => rfl
 obtain ⟨fd_spread, D_spread⟩ := c.def_ 29 (d := d_spread) rfl
 have F_spread : Fun K "spread" "spread" s_spread _ fd_spread := He5.fun_of D_spread
 have m_spread := He.glo_ok X G (c.fact 29 (f := .glo "spread") rfl)
 have b_spread := F_spread.binds (ps := ["one", "other"]) fun _ _ _ _ _ _ us hl => match us, hl with | [_, _], _ => rfl
 obtain ⟨fd_tree_at, D_tree_at⟩ := c.def_ 30 (d := d_tree_at) rfl
 have F_tree_at : Fun K "tree_at" "tree_at" s_tree_at _ fd_tree_at := He5.fun_of D_tree_at
 have m_tree_at := He.glo_ok X G (c.fact 30 (f := .glo "tree_at") rfl)
 have b_tree_at := F_tree_at.binds (ps := ["grove", "place"]) fun _ _ _ _ _ _ us hl => match us, hl with | [_, _], _ => rfl
 obtain ⟨fd_all_places, D_all_places⟩ := c.def_ 31 (d := d_all_places) rfl
 have F_all_places : Fun K "all_places" "all_places" s_all_places _ fd_all_places := He5.fun_of D_all_places
 have m_all_places := He.glo_ok X G (c.fact 31 (f := .glo "all_places") rfl)
 have b_all_places := F_all_places.binds (ps := ["grove"]) fun _ _ _ _ _ _ us hl => match us, hl with | [_], _ => rfl
 obtain ⟨fd_steps_of, D_steps_of⟩ := c.def_ 32 (d := d_steps_of) rfl
 have F_steps_of : Fun K "steps_of" "steps_of" s_steps_of _ fd_steps_of := He5.fun_of D_steps_of
 have m_steps_of := He.glo_ok X G (c.fact 32 (f := .glo "steps_of") rfl)
 have b_steps_of := F_steps_of.binds (ps := ["book", "name"]) fun _ _ _ _ _ _ us hl => match us, hl with | [_, _], _ => rfl
 obtain ⟨fd_steps_in, D_steps_in⟩ := c.def_ 33 (d := d_steps_in) rfl
 have F_steps_in : Fun K "steps_in" "steps_in" s_steps_in _ fd_steps_in := He5.fun_of D_steps_in
 have m_steps_in := He.glo_ok X G (c.fact 33 (f := .glo "steps_in") rfl)
 have b_steps_in := F_steps_in.binds (ps := ["name", "rule", "word", "grove"]) fun _ _ _ _ _ _ us hl => match us, hl with | [_, _, _, _], _ => rfl
 obtain ⟨fd_leads, D_leads⟩ := c.def_ 34 (d := d_leads) rfl
 have F_leads : Fun K "leads" "leads" s_leads _ fd_leads := He5.fun_of D_leads
 have m_leads := He.glo_ok X G (c.fact 34 (f := .glo "leads") rfl)
 have b_leads := F_leads.binds (ps := ["book", "name"]) fun _ _ _ _ _ _ us hl => match us, hl with | [_, _], _ => rfl
 obtain ⟨fd_ending_kinds, D_ending_kinds⟩ := c.def_ 35 (d := d_ending_kinds) rfl
 have F_ending_kinds : Fun K "ending_kinds" "ending_kinds" s_ending_kinds _ fd_ending_kinds := He5.fun_of D_ending_kinds
 have m_ending_kinds := He.glo_ok X G (c.fact 35 (f := .glo "ending_kinds") rfl)
 have b_ending_kinds := F_ending_kinds.binds (ps := ["book"]) fun _ _ _ _ _ _ us hl => match us, hl with | [_], _ => rfl
 obtain ⟨fd_lead_into, D_lead_into⟩ := c.def_ 36 (d := d_lead_into) rfl
 have F_lead_into : Fun K "lead_into" "lead_into" s_lead_into _ fd_lead_into := He5.fun_of D_lead_into
 have m_lead_into := He.glo_ok X G (c.fact 36 (f := .glo "lead_into") rfl)
 have b_lead_into := F_lead_into.binds (ps := ["led", "ending"]) fun _ _ _ _ _ _ us hl => match us, hl with | [_, _], _ => rfl
 obtain ⟨fd_endless_kinds, D_endless_kinds⟩ := c.def_ 37 (d := d_endless_kinds) rfl
 have F_endless_kinds : Fun K "endless_kinds" "endless_kinds" s_endless_kinds _ fd_endless_kinds := He5.fun_of D_endless_kinds
 have m_endless_kinds := He.glo_ok X G (c.fact 37 (f := .glo "endless_kinds") rfl)
 have b_endless_kinds := F_endless_kinds.binds (ps := ["book"]) fun _ _ _ _ _ _ us hl => match us, hl with | [_], _ => rfl
 obtain ⟨fd_check_ends, D_check_ends⟩ := c.def_ 38 (d := d_check_ends) rfl
 have F_check_ends : Fun K "check_ends" "check_ends" s_check_ends _ fd_check_ends := He5.fun_of D_check_ends
 have m_check_ends := He.glo_ok X G (c.fact 38 (f := .glo "check_ends") rfl)
 have b_check_ends := F_check_ends.binds (ps := ["book", "grove"]) fun _ _ _ _ _ _ us hl => match us, hl with | [_, _], _ => rfl
 obtain ⟨fd_own_rank, D_own_rank⟩ := c.def_ 39 (d := d_own_rank) rfl
 have F_own_rank : Fun K "own_rank" "own_rank" s_own_rank _ fd_own_rank := He5.fun_of D_own_rank
 have m_own_rank := He.glo_ok X G (c.fact 39 (f := .glo "own_rank") rfl)
 have b_own_rank := F_own_rank.binds (ps := ["book", "name"]) fun _ _ _ _ _ _ us hl => match us, hl with | [_, _], _ => rfl
 obtain ⟨fd_rank, D_rank⟩ := c.def_ 40 (d := d_rank) rfl
 have F_rank : Fun K "rank" "rank" s_rank _ fd_rank := He5.fun_of D_rank
 have m_rank := He.glo_ok X G (c.fact 40 (f := .glo "rank") rfl)
 have b_rank := F_rank.binds (ps := ["book", "grove"]) fun _ _ _ _ _ _ us hl => match us, hl with | [_, _], _ => rfl
 obtain ⟨fd_own_ranks, D_own_ranks⟩ := c.def_ 41 (d := d_own_ranks) rfl
 have F_own_ranks : Fun K "own_ranks" "own_ranks" s_own_ranks _ fd_own_ranks := He5.fun_of D_own_ranks
 have m_own_ranks := He.glo_ok X G (c.fact 41 (f := .glo "own_ranks") rfl)
 have b_own_ranks := F_own_ranks.binds (ps := ["book"]) fun _ _ _ _ _ _ us hl => match us, hl with | [_], _ => rfl
 obtain ⟨fd_climb, D_climb⟩ := c.def_ 42 (d := d_climb) rfl
 have F_climb : Fun K "climb" "climb" s_climb _ fd_climb := He5.fun_of D_climb
 have m_climb := He.glo_ok X G (c.fact 42 (f := .glo "climb") rfl)
 have b_climb := F_climb.binds (ps := ["book", "worths", "rule"]) fun _ _ _ _ _ _ us hl => match us, hl with | [_, _, _], _ => rfl
 obtain ⟨fd_reckoned, D_reckoned⟩ := c.def_ 43 (d := d_reckoned) rfl
 have F_reckoned : Fun K "reckoned" "reckoned" s_reckoned _ fd_reckoned := He5.fun_of D_reckoned
 have m_reckoned := He.glo_ok X G (c.fact 43 (f := .glo "reckoned") rfl)
 have b_reckoned := F_reckoned.binds (ps := ["book", "worths", "grove"]) fun _ _ _ _ _ _ us hl => match us, hl with | [_, _, _], _ => rfl
 obtain ⟨fd_reckoned_tree, D_reckoned_tree⟩ := c.def_ 44 (d := d_reckoned_tree) rfl
 have F_reckoned_tree : Fun K "reckoned_tree" "reckoned_tree" s_reckoned_tree _ fd_reckoned_tree := He5.fun_of D_reckoned_tree
 have m_reckoned_tree := He.glo_ok X G (c.fact 44 (f := .glo "reckoned_tree") rfl)
 have b_reckoned_tree := F_reckoned_tree.binds (ps := ["book", "worths", "tree"]) fun _ _ _ _ _ _ us hl => match us, hl with | [_, _, _], _ => rfl
 obtain ⟨fd_laden, D_laden⟩ := c.def_ 45 (d := d_laden) rfl
 have F_laden : Fun K "laden" "laden" s_laden _ fd_laden := He5.fun_of D_laden
 have m_laden := He.glo_ok X G (c.fact 45 (f := .glo "laden") rfl)
 have b_laden := F_laden.binds (ps := ["book", "kind", "own", "inner"]) fun _ _ _ _ _ _ us hl => match us, hl with | [_, _, _, _], _ => rfl
 obtain ⟨fd_show_grove, D_show_grove⟩ := c.def_ 46 (d := d_show_grove) rfl
 have F_show_grove : Fun K "show_grove" "show_grove" s_show_grove _ fd_show_grove := He5.fun_of D_show_grove
 have m_show_grove := He.glo_ok X G (c.fact 46 (f := .glo "show_grove") rfl)
 have b_show_grove := F_show_grove.binds (ps := ["grove"]) fun _ _ _ _ _ _ us hl => match us, hl with | [_], _ => rfl
 obtain ⟨fd_show_pair, D_show_pair⟩ := c.def_ 47 (d := d_show_pair) rfl
 have F_show_pair : Fun K "show_pair" "show_pair" s_show_pair _ fd_show_pair := He5.fun_of D_show_pair
 have m_show_pair := He.glo_ok X G (c.fact 47 (f := .glo "show_pair") rfl)
 have b_show_pair := F_show_pair.binds (ps := ["tree", "many"]) fun _ _ _ _ _ _ us hl => match us, hl with | [_, _], _ => rfl
 obtain ⟨fd_show_tree, D_show_tree⟩ := c.def_ 48 (d := d_show_tree) rfl
 have F_show_tree : Fun K "show_tree" "show_tree" s_show_tree _ fd_show_tree := He5.fun_of D_show_tree
 have m_show_tree := He.glo_ok X G (c.fact 48 (f := .glo "show_tree") rfl)
 have b_show_tree := F_show_tree.binds (ps := ["tree"]) fun _ _ _ _ _ _ us hl => match us, hl with | [_], _ => rfl
 obtain ⟨fd_table, D_table⟩ := c.def_ 49 (d := d_table) rfl
 have F_table : Fun K "table" "table" s_table _ fd_table := He5.fun_of D_table
 have m_table := He.glo_ok X G (c.fact 49 (f := .glo "table") rfl)
 have b_table := F_table.binds (ps := ["book", "grove"]) fun _ _ _ _ _ _ us hl => match us, hl with | [_, _], _ => rfl
 obtain ⟨fd_add_trees, D_add_trees⟩ := c.def_ 50 (d := d_add_trees) rfl
 have F_add_trees : Fun K "add_trees" "add_trees" s_add_trees _ fd_add_trees := He5.fun_of D_add_trees
 have m_add_trees := He.glo_ok X G (c.fact 50 (f := .glo "add_trees") rfl)
 have b_add_trees := F_add_trees.binds (ps := ["known", "rows", "grove"]) fun _ _ _ _ _ _ us hl => match us, hl with | [_, _, _], _ => rfl
 obtain ⟨fd_add_kind, D_add_kind⟩ := c.def_ 51 (d := d_add_kind) rfl
 have F_add_kind : Fun K "add_kind" "add_kind" s_add_kind _ fd_add_kind := He5.fun_of D_add_kind
 have m_add_kind := He.glo_ok X G (c.fact 51 (f := .glo "add_kind") rfl)
 have b_add_kind := F_add_kind.binds (ps := ["known", "rows", "name"]) fun _ _ _ _ _ _ us hl => match us, hl with | [_, _, _], _ => rfl
 obtain ⟨fd_is_table, D_is_table⟩ := c.def_ 52 (d := d_is_table) rfl
 have F_is_table : Fun K "is_table" "is_table" s_is_table _ fd_is_table := He5.fun_of D_is_table
 have m_is_table := He.glo_ok X G (c.fact 52 (f := .glo "is_table") rfl)
 have b_is_table := F_is_table.binds (ps := ["book", "grove", "thing"]) fun _ _ _ _ _ _ us hl => match us, hl with | [_, _, _], _ => rfl
 obtain ⟨fd_takes, D_takes⟩ := c.def_ 53 (d := d_takes) rfl
 have F_takes : Fun K "takes" "takes" s_takes _ fd_takes := He5.fun_of D_takes
 have m_takes := He.glo_ok X G (c.fact 53 (f := .glo "takes") rfl)
 have b_takes := F_takes.binds (ps := ["known", "thing"]) fun _ _ _ _ _ _ us hl => match us, hl with | [_, _], _ => rfl
 obtain ⟨fd_is_row, D_is_row⟩ := c.def_ 54 (d := d_is_row) rfl
 have F_is_row : Fun K "is_row" "is_row" s_is_row _ fd_is_row := He5.fun_of D_is_row
 have m_is_row := He.glo_ok X G (c.fact 54 (f := .glo "is_row") rfl)
 have b_is_row := F_is_row.binds (ps := ["thing", "word", "long"]) fun _ _ _ _ _ _ us hl => match us, hl with | [_, _, _], _ => rfl
 obtain ⟨fd_takes_kind, D_takes_kind⟩ := c.def_ 55 (d := d_takes_kind) rfl
 have F_takes_kind : Fun K "takes_kind" "takes_kind" s_takes_kind _ fd_takes_kind := He5.fun_of D_takes_kind
 have m_takes_kind := He.glo_ok X G (c.fact 55 (f := .glo "takes_kind") rfl)
 have b_takes_kind := F_takes_kind.binds (ps := ["known", "name", "rule", "thing"]) fun _ _ _ _ _ _ us hl => match us, hl with | [_, _, _, _], _ => rfl
 obtain ⟨fd_takes_tree, D_takes_tree⟩ := c.def_ 56 (d := d_takes_tree) rfl
 have F_takes_tree : Fun K "takes_tree" "takes_tree" s_takes_tree _ fd_takes_tree := He5.fun_of D_takes_tree
 have m_takes_tree := He.glo_ok X G (c.fact 56 (f := .glo "takes_tree") rfl)
 have b_takes_tree := F_takes_tree.binds (ps := ["known", "tree", "thing"]) fun _ _ _ _ _ _ us hl => match us, hl with | [_, _, _], _ => rfl
 obtain ⟨fd_is_last, D_is_last⟩ := c.def_ 57 (d := d_is_last) rfl
 have F_is_last : Fun K "is_last" "is_last" s_is_last _ fd_is_last := He5.fun_of D_is_last
 have m_is_last := He.glo_ok X G (c.fact 57 (f := .glo "is_last") rfl)
 have b_is_last := F_is_last.binds (ps := ["known", "grove", "thing"]) fun _ _ _ _ _ _ us hl => match us, hl with | [_, _, _], _ => rfl
 obtain ⟨fd_is_same, D_is_same⟩ := c.def_ 58 (d := d_is_same) rfl
 have F_is_same : Fun K "is_same" "is_same" s_is_same _ fd_is_same := He5.fun_of D_is_same
 have m_is_same := He.glo_ok X G (c.fact 58 (f := .glo "is_same") rfl)
 have b_is_same := F_is_same.binds (ps := ["thing", "ladder"]) fun _ _ _ _ _ _ us hl => match us, hl with | [_, _], _ => rfl
 obtain ⟨fd_worth, D_worth⟩ := c.def_ 59 (d := d_worth) rfl
 have F_worth : Fun K "worth" "worth" s_worth _ fd_worth := He5.fun_of D_worth
 have m_worth := He.glo_ok X G (c.fact 59 (f := .glo "worth") rfl)
 have b_worth := F_worth.binds (ps := ["book", "worths", "grove"]) fun _ _ _ _ _ _ us hl => match us, hl with | [_, _, _], _ => rfl
 obtain ⟨fd_check_worths, D_check_worths⟩ := c.def_ 60 (d := d_check_worths) rfl
 have F_check_worths : Fun K "check_worths" "check_worths" s_check_worths _ fd_check_worths := He5.fun_of D_check_worths
 have m_check_worths := He.glo_ok X G (c.fact 60 (f := .glo "check_worths") rfl)
 have b_check_worths := F_check_worths.binds (ps := ["book", "worths"]) fun _ _ _ _ _ _ us hl => match us, hl with | [_, _], _ => rfl
 obtain ⟨fd__law_draws, D__law_draws⟩ := c.def_ 61 (d := d__law_draws) rfl
 have F__law_draws : Fun K "_law_draws" "_law_draws" s__law_draws _ fd__law_draws := He5.fun_of D__law_draws
 have m__law_draws := He.glo_ok X G (c.fact 61 (f := .glo "_law_draws") rfl)
 have b__law_draws := F__law_draws.binds (ps := ["_law_script", "_law_many_here"]) fun _ _ _ _ _ _ us hl => match us, hl with | [_, _], _ => rfl
 obtain ⟨fd__law_next, D__law_next⟩ := c.def_ 62 (d := d__law_next) rfl
 have F__law_next : Fun K "_law_next" "_law_next" s__law_next _ fd__law_next := He5.fun_of D__law_next
 have m__law_next := He.glo_ok X G (c.fact 62 (f := .glo "_law_next") rfl)
 have b__law_next := F__law_next.binds (ps := ["_law_draws_here"]) fun _ _ _ _ _ _ us hl => match us, hl with | [_], _ => rfl
 obtain ⟨fd__law_names, D__law_names⟩ := c.def_ 63 (d := d__law_names) rfl
 have F__law_names : Fun K "_law_names" "_law_names" s__law_names _ fd__law_names := He5.fun_of D__law_names
 have m__law_names := He.glo_ok X G (c.fact 63 (f := .glo "_law_names") rfl)
 have b__law_names := F__law_names.binds (ps := ["_law_draws_here", "_law_many_here"]) fun _ _ _ _ _ _ us hl => match us, hl with | [_, _], _ => rfl
 obtain ⟨fd__law_many, D__law_many⟩ := c.def_ 64 (d := d__law_many) rfl
 have F__law_many : Fun K "_law_many" "_law_many" s__law_many _ fd__law_many := He5.fun_of D__law_many
 have m__law_many := He.glo_ok X G (c.fact 64 (f := .glo "_law_many") rfl)
 have b__law_many := F__law_many.binds (ps := ["_law_draws_here", "_law_great"]) fun _ _ _ _ _ _ us hl => match us, hl with | [_, _], _ => rfl
 obtain ⟨fd__law_grove, D__law_grove⟩ := c.def_ 65 (d := d__law_grove) rfl
 have F__law_grove : Fun K "_law_grove" "_law_grove" s__law_grove _ fd__law_grove := He5.fun_of D__law_grove
 have m__law_grove := He.glo_ok X G (c.fact 65 (f := .glo "_law_grove") rfl)
 have b__law_grove := F__law_grove.binds (ps := ["_law_draws_here", "_law_names_here", "_law_room", "_law_great"]) fun _ _ _ _ _ _ us hl => match us, hl with | [_, _, _, _], _ => rfl
 obtain ⟨fd__law_kinds, D__law_kinds⟩ := c.def_ 66 (d := d__law_kinds) rfl
 have F__law_kinds : Fun K "_law_kinds" "_law_kinds" s__law_kinds _ fd__law_kinds := He5.fun_of D__law_kinds
 have m__law_kinds := He.glo_ok X G (c.fact 66 (f := .glo "_law_kinds") rfl)
 have b__law_kinds := F__law_kinds.binds (ps := ["_law_draws_here", "_law_names_here", "_law_rounds_here"]) fun _ _ _ _ _ _ us hl => match us, hl with | [_, _, _], _ => rfl
 obtain ⟨fd__law_book, D__law_book⟩ := c.def_ 67 (d := d__law_book) rfl
 have F__law_book : Fun K "_law_book" "_law_book" s__law_book _ fd__law_book := He5.fun_of D__law_book
 have m__law_book := He.glo_ok X G (c.fact 67 (f := .glo "_law_book") rfl)
 have b__law_book := F__law_book.binds (ps := ["_law_kinds_here"]) fun _ _ _ _ _ _ us hl => match us, hl with | [_], _ => rfl
 obtain ⟨fd__law_in, D__law_in⟩ := c.def_ 68 (d := d__law_in) rfl
 have F__law_in : Fun K "_law_in" "_law_in" s__law_in _ fd__law_in := He5.fun_of D__law_in
 have m__law_in := He.glo_ok X G (c.fact 68 (f := .glo "_law_in") rfl)
 have b__law_in := F__law_in.binds (ps := ["_law_grove_here"]) fun _ _ _ _ _ _ us hl => match us, hl with | [_], _ => rfl
 obtain ⟨fd__law_endless, D__law_endless⟩ := c.def_ 69 (d := d__law_endless) rfl
 have F__law_endless : Fun K "_law_endless" "_law_endless" s__law_endless _ fd__law_endless := He5.fun_of D__law_endless
 have m__law_endless := He.glo_ok X G (c.fact 69 (f := .glo "_law_endless") rfl)
 have b__law_endless := F__law_endless.binds (ps := ["_law_kinds_here"]) fun _ _ _ _ _ _ us hl => match us, hl with | [_], _ => rfl
 obtain ⟨fd__law_asked, D__law_asked⟩ := c.def_ 70 (d := d__law_asked) rfl
 have F__law_asked : Fun K "_law_asked" "_law_asked" s__law_asked _ fd__law_asked := He5.fun_of D__law_asked
 have m__law_asked := He.glo_ok X G (c.fact 70 (f := .glo "_law_asked") rfl)
 have b__law_asked := F__law_asked.binds (ps := ["_law_turn", "_law_book_here", "_law_worths", "_law_grove_here"]) fun _ _ _ _ _ _ us hl => match us, hl with | [_, _, _, _], _ => rfl
 obtain ⟨fd__law_alone, D__law_alone⟩ := c.def_ 71 (d := d__law_alone) rfl
 have F__law_alone : Fun K "_law_alone" "_law_alone" s__law_alone _ fd__law_alone := He5.fun_of D__law_alone
 have m__law_alone := He.glo_ok X G (c.fact 71 (f := .glo "_law_alone") rfl)
 have b__law_alone := F__law_alone.binds (ps := ["_law_e", "_law_wanted"]) fun _ _ _ _ _ _ us hl => match us, hl with | [_, _], _ => rfl
 obtain ⟨fd__law_refused, D__law_refused⟩ := c.def_ 72 (d := d__law_refused) rfl
 have F__law_refused : Fun K "_law_refused" "_law_refused" s__law_refused _ fd__law_refused := He5.fun_of D__law_refused
 have m__law_refused := He.glo_ok X G (c.fact 72 (f := .glo "_law_refused") rfl)
 have b__law_refused := F__law_refused.binds (ps := ["_law_turn", "_law_book_here", "_law_worths", "_law_grove_here", "_law_wanted", "_law_least"]) fun _ _ _ _ _ _ us hl => match us, hl with | [_, _, _, _, _, _], _ => rfl
 obtain ⟨fd__law_rounds, D__law_rounds⟩ := c.def_ 73 (d := d__law_rounds) rfl
 have F__law_rounds : Fun K "_law_rounds" "_law_rounds" s__law_rounds _ fd__law_rounds := He5.fun_of D__law_rounds
 have m__law_rounds := He.glo_ok X G (c.fact 73 (f := .glo "_law_rounds") rfl)
 have b__law_rounds := F__law_rounds.binds (ps := ["_law_draws_here", "_law_names_here"]) fun _ _ _ _ _ _ us hl => match us, hl with | [_, _], _ => rfl
 obtain ⟨fd__law_strange, D__law_strange⟩ := c.def_ 74 (d := d__law_strange) rfl
 have F__law_strange : Fun K "_law_strange" "_law_strange" s__law_strange _ fd__law_strange := He5.fun_of D__law_strange
 have m__law_strange := He.glo_ok X G (c.fact 74 (f := .glo "_law_strange") rfl)
 have b__law_strange := F__law_strange.binds (ps := ["_law_draws_here", "_law_every", "_law_many_here"]) fun _ _ _ _ _ _ us hl => match us, hl with | [_, _, _], _ => rfl
 obtain ⟨fd_law, D_law⟩ := c.def_ 75 (d := d_law) rfl
 have F_law : Fun K "law" "law" s_law _ fd_law := He5.fun_of D_law
 have m_law := He.glo_ok X G (c.fact 75 (f := .glo "law") rfl)
 obtain ⟨fd_NoKind___init__, D_NoKind___init__⟩ := c.def_ 76 (d := d_NoKind___init__) rfl
 have F_NoKind___init__ : Fun K "__init__" "NoKind.__init__" s_NoKind___init__ _ fd_NoKind___init__ := He5.fun_of D_NoKind___init__
 have b_NoKind___init__ := F_NoKind___init__.binds (ps := ["self", "kind"]) fun _ _ _ _ _ _ us hl => match us, hl with | [_, _], _ => rfl
 obtain ⟨fd_Endless___init__, D_Endless___init__⟩ := c.def_ 77 (d := d_Endless___init__) rfl
 have F_Endless___init__ : Fun K "__init__" "Endless.__init__" s_Endless___init__ _ fd_Endless___init__ := He5.fun_of D_Endless___init__
 have b_Endless___init__ := F_Endless___init__.binds (ps := ["self", "kind"]) fun _ _ _ _ _ _ us hl => match us, hl with | [_, _], _ => rfl
 obtain ⟨fd_Book___init__, D_Book___init__⟩ := c.def_ 78 (d := d_Book___init__) rfl
 have F_Book___init__ : Fun K "__init__" "Book.__init__" s_Book___init__ _ fd_Book___init__ := He5.fun_of D_Book___init__
 have b_Book___init__ := F_Book___init__.binds (ps := ["self", "kinds"]) fun _ _ _ _ _ _ us hl => match us, hl with | [_, _], _ => rfl
 obtain ⟨fd_Book_names, D_Book_names⟩ := c.def_ 79 (d := d_Book_names) rfl
 have F_Book_names : Fun K "names" "Book.names" s_Book_names _ fd_Book_names := He5.fun_of D_Book_names
 have b_Book_names := F_Book_names.binds (ps := ["self"]) fun _ _ _ _ _ _ us hl => match us, hl with | [_], _ => rfl
 obtain ⟨fd_Book_spreads, D_Book_spreads⟩ := c.def_ 80 (d := d_Book_spreads) rfl
 have F_Book_spreads : Fun K "spreads" "Book.spreads" s_Book_spreads _ fd_Book_spreads := He5.fun_of D_Book_spreads
 have b_Book_spreads := F_Book_spreads.binds (ps := ["self", "name"]) fun _ _ _ _ _ _ us hl => match us, hl with | [_, _], _ => rfl
 obtain ⟨fd_Book_rules, D_Book_rules⟩ := c.def_ 81 (d := d_Book_rules) rfl
 have F_Book_rules : Fun K "rules" "Book.rules" s_Book_rules _ fd_Book_rules := He5.fun_of D_Book_rules
 have b_Book_rules := F_Book_rules.binds (ps := ["self", "name"]) fun _ _ _ _ _ _ us hl => match us, hl with | [_, _], _ => rfl
 obtain ⟨fd_Known___init__, D_Known___init__⟩ := c.def_ 82 (d := d_Known___init__) rfl
 have F_Known___init__ : Fun K "__init__" "Known.__init__" s_Known___init__ _ fd_Known___init__ := He5.fun_of D_Known___init__
 have b_Known___init__ := F_Known___init__.binds (ps := ["self", "book"]) fun _ _ _ _ _ _ us hl => match us, hl with | [_, _], _ => rfl
 obtain ⟨fd_Known_has_trees, D_Known_has_trees⟩ := c.def_ 83 (d := d_Known_has_trees) rfl
 have F_Known_has_trees : Fun K "has_trees" "Known.has_trees" s_Known_has_trees _ fd_Known_has_trees := He5.fun_of D_Known_has_trees
 have b_Known_has_trees := F_Known_has_trees.binds (ps := ["self", "grove"]) fun _ _ _ _ _ _ us hl => match us, hl with | [_, _], _ => rfl
 obtain ⟨fd_Known_of_grove, D_Known_of_grove⟩ := c.def_ 84 (d := d_Known_of_grove) rfl
 have F_Known_of_grove : Fun K "of_grove" "Known.of_grove" s_Known_of_grove _ fd_Known_of_grove := He5.fun_of D_Known_of_grove
 have b_Known_of_grove := F_Known_of_grove.binds (ps := ["self", "grove"]) fun _ _ _ _ _ _ us hl => match us, hl with | [_, _], _ => rfl
 obtain ⟨fd_Known_of_tree, D_Known_of_tree⟩ := c.def_ 85 (d := d_Known_of_tree) rfl
 have F_Known_of_tree : Fun K "of_tree" "Known.of_tree" s_Known_of_tree _ fd_Known_of_tree := He5.fun_of D_Known_of_tree
 have b_Known_of_tree := F_Known_of_tree.binds (ps := ["self", "tree"]) fun _ _ _ _ _ _ us hl => match us, hl with | [_, _], _ => rfl
 obtain ⟨fd_Known_of_rules, D_Known_of_rules⟩ := c.def_ 86 (d := d_Known_of_rules) rfl
 have F_Known_of_rules : Fun K "of_rules" "Known.of_rules" s_Known_of_rules _ fd_Known_of_rules := He5.fun_of D_Known_of_rules
 have b_Known_of_rules := F_Known_of_rules.binds (ps := ["self", "name"]) fun _ _ _ _ _ _ us hl => match us, hl with | [_, _], _ => rfl
 have B : BI mg := ⟨He.free_ok X G (c.fact 76 (f := .free "len") rfl), He.free_ok X G (c.fact 77 (f := .free "isinstance") rfl), He.free_ok X G (c.fact 78 (f := .free "int") rfl), He.free_ok X G (c.fact 79 (f := .free "bool") rfl), He.free_ok X G (c.fact 80 (f := .free "str") rfl), He.free_ok X G (c.fact 81 (f := .free "tuple") rfl), He.free_ok X G (c.fact 82 (f := .free "list") rfl), He.free_ok X G (c.fact 83 (f := .free "all") rfl), He.free_ok X G (c.fact 84 (f := .free "zip") rfl), He.free_ok X G (c.fact 85 (f := .free "sum") rfl), He.free_ok X G (c.fact 86 (f := .free "max") rfl), He.free_ok X G (c.fact 87 (f := .free "range") rfl), He.free_ok X G (c.fact 88 (f := .free "enumerate") rfl), He.free_ok X G (c.fact 89 (f := .free "abs") rfl), He.free_ok X G (c.fact 90 (f := .free "sorted") rfl), He.free_ok X G (c.fact 91 (f := .free "min") rfl), He.free_ok X G (c.fact 92 (f := .free "reversed") rfl), He.free_ok X G (c.fact 93 (f := .free "any") rfl), He.free_ok X G (c.fact 94 (f := .free "set") rfl), He.free_ok X G (c.fact 95 (f := .free "dict") rfl), He.free_ok X G (c.fact 96 (f := .free "repr") rfl)⟩
 obtain ⟨xk_NoKind, cx⟩ := He.ba cx
 obtain ⟨xk_Endless, cx⟩ := He.ba cx
 obtain ⟨xt_NO_GROVES, cx⟩ := He.ba cx
 have W_NO_GROVES := no2B_ok xt_NO_GROVES
 have T : ErrsM K mg (He.ga K) eC eN eK := ermB_ok cx (fun n hn => by
   rcases List.mem_cons.mp hn with e | hn
   ·rw [e]; exact He.glo_ok X G (c.fact 99 (f := .glo "NoGrove") rfl)
   rcases List.mem_cons.mp hn with e | hn
   ·rw [e]; exact He.glo_ok X G (c.fact 100 (f := .glo "NoPlace") rfl)
   rcases List.mem_cons.mp hn with e | hn
   ·rw [e]; exact He.glo_ok X G (c.fact 101 (f := .glo "NoBook") rfl)
   rcases List.mem_cons.mp hn with e | hn
   ·rw [e]; exact He.glo_ok X G (c.fact 102 (f := .glo "NoKind") rfl)
   rcases List.mem_cons.mp hn with e | hn
   ·rw [e]; exact He.glo_ok X G (c.fact 103 (f := .glo "NoRule") rfl)
   rcases List.mem_cons.mp hn with e | hn
   ·rw [e]; exact He.glo_ok X G (c.fact 104 (f := .glo "NoNumber") rfl)
   rcases List.mem_cons.mp hn with e | hn
   ·rw [e]; exact He.glo_ok X G (c.fact 105 (f := .glo "Endless") rfl)
   rcases List.mem_cons.mp hn with e | hn
   ·rw [e]; exact He.glo_ok X G (c.fact 106 (f := .glo "NoWorths") rfl)
   exact nomatch hn) (He.glo_ok X G (c.fact 97 (f := .glo "FellError") rfl)) (He.free_ok X G (c.fact 98 (f := .free "ValueError") rfl)) (fun n hn => by
   rcases List.mem_cons.mp hn with e | hn
   ·rw [e]; exact He.noat_ok (c.fact 107 (f := .noat "NoKind" "kind") rfl)
   rcases List.mem_cons.mp hn with e | hn
   ·rw [e]; exact He.noat_ok (c.fact 108 (f := .noat "Endless" "kind") rfl)
   exact nomatch hn)
 have L_LETTERS := He.str_ok X G (c.fact 109 (f := .str "LETTERS" "abcdefghijklmnopqrstuvwxyz") rfl)
 have L_LONGEST_NAME := He.int_ok X G (c.fact 110 (f := .int "LONGEST_NAME" (8)) rfl)
 have L_MOST_KINDS := He.int_ok X G (c.fact 111 (f := .int "MOST_KINDS" (8)) rfl)
 have L_MOST_RULES := He.int_ok X G (c.fact 112 (f := .int "MOST_RULES" (4)) rfl)
 have L_MOST_RULE_PARTS := He.int_ok X G (c.fact 113 (f := .int "MOST_RULE_PARTS" (4)) rfl)
 have L_MOST_MANY := He.int_ok X G (c.fact 114 (f := .int "MOST_MANY" (1000000000)) rfl)
 have V_NO_GROVES := He.glo_ok X G (c.fact 115 (f := .glo "NO_GROVES") rfl)
 have O_NoBook : Own K mg "NoBook" (He.ga K "NoBook") := by
  obtain ⟨y1, y2, y3, y4⟩ := He.exc_ok (c.fact 116 (f := .exc "NoBook") rfl)
  exact ⟨He.glo_ok X G (c.fact 101 (f := .glo "NoBook") rfl), y1, y2, y3, y4⟩
 have O_NoPlace : Own K mg "NoPlace" (He.ga K "NoPlace") := by
  obtain ⟨y1, y2, y3, y4⟩ := He.exc_ok (c.fact 117 (f := .exc "NoPlace") rfl)
  exact ⟨He.glo_ok X G (c.fact 100 (f := .glo "NoPlace") rfl), y1, y2, y3, y4⟩
 have O_NoWorths : Own K mg "NoWorths" (He.ga K "NoWorths") := by
  obtain ⟨y1, y2, y3, y4⟩ := He.exc_ok (c.fact 118 (f := .exc "NoWorths") rfl)
  exact ⟨He.glo_ok X G (c.fact 106 (f := .glo "NoWorths") rfl), y1, y2, y3, y4⟩
 have m_NoKind := He.glo_ok X G (c.fact 102 (f := .glo "NoKind") rfl)
 have h_NoKind := He.meth_ok (c.fact 119 (f := .meth "NoKind" "__init__") rfl)
 have n_NoKind := He.noat_ok (c.fact 107 (f := .noat "NoKind" "kind") rfl)
 have m_Endless := He.glo_ok X G (c.fact 105 (f := .glo "Endless") rfl)
 have h_Endless := He.meth_ok (c.fact 120 (f := .meth "Endless" "__init__") rfl)
 have n_Endless := He.noat_ok (c.fact 108 (f := .noat "Endless" "kind") rfl)
 have m_Book := He.glo_ok X G (c.fact 121 (f := .glo "Book") rfl)
 have c_Book := He.cls_ok (c.fact 122 (f := .cls "Book") rfl)
 have T_Book : ClsF K (He.ga K "Book") ["spread_by_name", "rows_by_name"] := ⟨c_Book, fun f hf => by
   rcases List.mem_cons.mp hf with e | hf
   ·rw [e]; exact He.noat_ok (c.fact 123 (f := .noat "Book" "spread_by_name") rfl)
   rcases List.mem_cons.mp hf with e | hf
   ·rw [e]; exact He.noat_ok (c.fact 124 (f := .noat "Book" "rows_by_name") rfl)
   exact nomatch hf⟩
 have h_Book___init__ := He.mkr_ok (c.fact 125 (f := .mkr "Book") rfl)
 have h_Book_names := He.meth_ok (c.fact 126 (f := .meth "Book" "names") rfl)
 have h_Book_spreads := He.meth_ok (c.fact 127 (f := .meth "Book" "spreads") rfl)
 have h_Book_rules := He.meth_ok (c.fact 128 (f := .meth "Book" "rules") rfl)
 have m_Known := He.glo_ok X G (c.fact 129 (f := .glo "Known") rfl)
 have c_Known := He.cls_ok (c.fact 130 (f := .cls "Known") rfl)
 have T_Known : ClsF K (He.ga K "Known") ["book", "by_kind", "by_tree"] := ⟨c_Known, fun f hf => by
   rcases List.mem_cons.mp hf with e | hf
   ·rw [e]; exact He.noat_ok (c.fact 131 (f := .noat "Known" "book") rfl)
   rcases List.mem_cons.mp hf with e | hf
   ·rw [e]; exact He.noat_ok (c.fact 132 (f := .noat "Known" "by_kind") rfl)
   rcases List.mem_cons.mp hf with e | hf
   ·rw [e]; exact He.noat_ok (c.fact 133 (f := .noat "Known" "by_tree") rfl)
   exact nomatch hf⟩
 have h_Known___init__ := He.mkr_ok (c.fact 134 (f := .mkr "Known") rfl)
 have h_Known_has_trees := He.meth_ok (c.fact 135 (f := .meth "Known" "has_trees") rfl)
 have h_Known_of_grove := He.meth_ok (c.fact 136 (f := .meth "Known" "of_grove") rfl)
 have h_Known_of_tree := He.meth_ok (c.fact 137 (f := .meth "Known" "of_tree") rfl)
 have h_Known_of_rules := He.meth_ok (c.fact 138 (f := .meth "Known" "of_rules") rfl)
 have e := hfa.symm.trans m_law
 cases e
 have b := FunD.bindsA (ps := ["_law_script"]) D_law fun _ _ _ _ _ _ us hl => match us, hl with | [_], _ => rfl
 refine ⟨fd_law, fun s v => b s [v] rfl, fun base _ _ => ?_⟩
 have g_is_whole : Got P w K mg base "is_whole" ["thing"] 1 (spWhole K) := ⟨_, _, ok_is_whole B F_is_whole, F_is_whole.kp, b_is_whole, m_is_whole⟩
 have g_is_many : Got P w K mg base "is_many" ["thing"] 2 (spMany K []) := ⟨_, _, ok_is_many B g_is_whole F_is_many, F_is_many.kp, b_is_many, m_is_many⟩
 have g_is_rising : Got P w K mg base "is_rising" ["things"] 1 (spRising K) := ⟨_, _, ok_is_rising B F_is_rising, F_is_rising.kp, b_is_rising, m_is_rising⟩
 have g_run_of : Got P w K mg base "run_of" ["text", "at", "signs"] 1 (spRunOf K) := ⟨_, _, ok_run_of B F_run_of, F_run_of.kp, b_run_of, m_run_of⟩
 have g_is_name : Got P w K mg base "is_name" ["thing"] 2 (spName K) := ⟨_, _, ok_is_name B L_LETTERS L_LONGEST_NAME g_run_of F_is_name, F_is_name.kp, b_is_name, m_is_name⟩
 have r_grove : ∀ n, Got P w K mg base "is_tree" ["thing"] (n + 3) (spIsTree K n) /\ Got P w K mg base "is_grove" ["thing"] (n + 3) (spIsGrove K n) /\ Got P w K mg base "are_grove_pairs" ["things"] (n + 3) (spPairsQ K true n) := by
  intro n
  induction n with
  | zero => exact ⟨⟨_, _, none_is_tree, F_is_tree.kp, b_is_tree, m_is_tree⟩, ⟨_, _, none_is_grove, F_is_grove.kp, b_is_grove, m_is_grove⟩, ⟨_, _, none_are_grove_pairs, F_are_grove_pairs.kp, b_are_grove_pairs, m_are_grove_pairs⟩⟩
  | succ n ih => exact ⟨⟨_, _, ok_is_tree B g_is_name ih.2.1 F_is_tree, F_is_tree.kp, b_is_tree, m_is_tree⟩, ⟨_, _, ok_is_grove B g_is_rising ih.2.2 F_is_grove, F_is_grove.kp, b_is_grove, m_is_grove⟩, ⟨_, _, ok_are_grove_pairs B g_is_many ih.1 F_are_grove_pairs, F_are_grove_pairs.kp, b_are_grove_pairs, m_are_grove_pairs⟩⟩
 have g_is_tree : Got P w K mg base "is_tree" ["thing"] 84 (spIsTree K 81) := (r_grove 81).1
 have g_is_grove : Got P w K mg base "is_grove" ["thing"] 84 (spIsGrove K 81) := (r_grove 81).2.1
 have gL_are_grove_pairs : Got P w K mg base "are_grove_pairs" ["things"] 63 (spPairsQ K false 60) := ⟨_, _, ok_are_grove_pairsL B g_is_many (r_grove 59).1 F_are_grove_pairs, F_are_grove_pairs.kp, b_are_grove_pairs, m_are_grove_pairs⟩
 have r_is_ladder : ∀ n, Got P w K mg base "is_ladder" ["thing"] (n + 3) (spLadder K [] n) /\ Got P w K mg base "is_ladder_pair" ["thing"] (n + 3) (spLadPair K [] n) := by
  intro n
  induction n with
  | zero => exact ⟨⟨_, _, none_is_ladder, F_is_ladder.kp, b_is_ladder, m_is_ladder⟩, ⟨_, _, none_is_ladder_pair, F_is_ladder_pair.kp, b_is_ladder_pair, m_is_ladder_pair⟩⟩
  | succ n ih => exact ⟨⟨_, _, ok_is_ladder B g_is_rising ih.2 F_is_ladder, F_is_ladder.kp, b_is_ladder, m_is_ladder⟩, ⟨_, _, ok_is_ladder_pair B g_is_many ih.1 F_is_ladder_pair, F_is_ladder_pair.kp, b_is_ladder_pair, m_is_ladder_pair⟩⟩
 have g_is_ladder := (r_is_ladder 40).1
 have g_number : Got P w K mg base "number" ["many"] 1 (spNumber K) := ⟨_, _, ok_number F_number, F_number.kp, b_number, m_number⟩
 have g_is_less : Got P w K mg base "is_less" ["one", "other"] 1 (spLess K) := ⟨_, _, ok_is_less F_is_less, F_is_less.kp, b_is_less, m_is_less⟩
 have g_power : Got P w K mg base "power" ["ladder"] 1 (spPower K) := ⟨_, _, ok_power F_power, F_power.kp, b_power, m_power⟩
 have r_pairs_within : ∀ n, Got P w K mg base "pairs_within" ["grove"] (n) (spPairsW K n) := by
  intro n
  induction n with
  | zero => exact ⟨_, _, none_pairs_within, F_pairs_within.kp, b_pairs_within, m_pairs_within⟩
  | succ n ih => exact ⟨_, _, ok_pairs_within ih F_pairs_within, F_pairs_within.kp, b_pairs_within, m_pairs_within⟩
 have g_pairs_within := r_pairs_within 70
 have g_tree_at : GotX P w K mg base "tree_at" ["grove", "place"] 2 (spTreeAt K (He.ga K "NoPlace")) := ⟨_, _, ok_tree_at B O_NoPlace g_is_whole F_tree_at, F_tree_at.kp, b_tree_at, m_tree_at⟩
 have g_many_at : Got P w K mg base "many_at" ["pairs", "thing"] 1 (spManyAt K) := ⟨_, _, ok_many_at B F_many_at, F_many_at.kp, b_many_at, m_many_at⟩
 have g_behind : Got P w K mg base "behind" ["one", "other"] 2 (spBehind K) := ⟨_, _, ok_behind B g_is_less g_many_at F_behind, F_behind.kp, b_behind, m_behind⟩
 have g_joined : Got P w K mg base "joined" ["pairs"] 1 (spJoined K Lad.enc) := ⟨_, _, ok_joined Lad.noList_enc Lad.eqv_enc B F_joined, F_joined.kp, b_joined, m_joined⟩
 have gG_joined : Got P w K mg base "joined" ["pairs"] 1 (spJoined K Gr.tEnc) := ⟨_, _, ok_joined Gr.noList_tEnc (Orderly.eq (enc := Gr.tEnc)) B F_joined, F_joined.kp, b_joined, m_joined⟩
 have g_all_together : Got P w K mg base "all_together" ["some"] 2 (spAllT K) := ⟨_, _, ok_all_together B g_joined F_all_together, F_all_together.kp, b_all_together, m_all_together⟩
 have g_both : Got P w K mg base "both" ["one", "other"] 3 (spBoth K) := ⟨_, _, ok_both g_all_together F_both, F_both.kp, b_both, m_both⟩
 have g_above : Got P w K mg base "above" ["one", "other"] 4 (spAbove K) := ⟨_, _, ok_above B g_is_less g_number g_power g_behind g_both F_above, F_above.kp, b_above, m_above⟩
 have g_spread : Got P w K mg base "spread" ["one", "other"] 3 (spSpread K) := ⟨_, _, ok_spread g_power g_behind F_spread, F_spread.kp, b_spread, m_spread⟩
 have g_many_of : Got P w K mg base "many_of" ["ladder", "many"] 1 (spManyOf K) := ⟨_, _, ok_many_of B F_many_of, F_many_of.kp, b_many_of, m_many_of⟩
 have g_kinds_within : Got P w K mg base "kinds_within" ["grove"] (71) (spKindsF K) := ⟨_, _, ok_kinds_within B g_pairs_within F_kinds_within, F_kinds_within.kp, b_kinds_within, m_kinds_within⟩
 have O_NoKind : OwnI P w K mg base "NoKind" (He.ga K "NoKind") 1 := ⟨m_NoKind, oexCB_ok xk_NoKind, n_NoKind, ⟨_, _, h_NoKind.at_, beq_iff_eq.mp h_NoKind.fn, ok_NoKind___init__ F_NoKind___init__, b_NoKind___init__⟩⟩
 have g_Book_names : GotM P w K mg base (He.ga K "Book") "names" ["self"] (1) (spBNames K (He.ga K "Book")) := ⟨_, _, ok_Book_names B T_Book F_Book_names, h_Book_names, b_Book_names, c_Book⟩
 have g_check_kind : GotX P w K mg base "check_kind" ["book", "name"] (3) (spCheckK K (He.ga K "Book") (He.ga K "NoKind")) := ⟨_, _, ok_check_kind B O_NoKind g_Book_names F_check_kind, F_check_kind.kp, b_check_kind, m_check_kind⟩
 have g_Book_rules : GotMX P w K mg base (He.ga K "Book") "rules" ["self", "name"] (4) (spBRules K (He.ga K "Book") (He.ga K "NoKind")) := ⟨_, _, ok_Book_rules B T_Book g_check_kind F_Book_rules, h_Book_rules, b_Book_rules, c_Book⟩
 have g_rules_from_nought : GotX P w K mg base "rules_from_nought" ["book", "name"] (5) (spRulesN K (He.ga K "Book") (He.ga K "NoKind")) := ⟨_, _, ok_rules_from_nought B V_NO_GROVES W_NO_GROVES g_Book_rules F_rules_from_nought, F_rules_from_nought.kp, b_rules_from_nought, m_rules_from_nought⟩
 have g_check_kinds : GotX P w K mg base "check_kinds" ["book", "grove"] (72) (spCheckKX K (He.ga K "Book") (He.ga K "NoKind")) := ⟨_, _, ok_check_kinds B g_kinds_within g_check_kind F_check_kinds, F_check_kinds.kp, b_check_kinds, m_check_kinds⟩
 have g_is_rule : Got P w K mg base "is_rule" ["thing"] (85) (spIsRule K) := ⟨_, _, ok_is_rule B L_MOST_RULE_PARTS L_MOST_MANY g_is_grove g_pairs_within F_is_rule, F_is_rule.kp, b_is_rule, m_is_rule⟩
 have g_is_kind : Got P w K mg base "is_kind" ["thing"] (86) (spIsKind K) := ⟨_, _, ok_is_kind B L_MOST_RULES g_is_name g_is_rule F_is_kind, F_is_kind.kp, b_is_kind, m_is_kind⟩
 have g_is_rule_of : Got P w K mg base "is_rule_of" ["rule", "names"] (71) (spIsRuleOf K) := ⟨_, _, ok_is_rule_of B g_pairs_within F_is_rule_of, F_is_rule_of.kp, b_is_rule_of, m_is_rule_of⟩
 have g_are_kinds : Got P w K mg base "are_kinds" ["things"] (87) (spAreKinds K) := ⟨_, _, ok_are_kinds B L_MOST_KINDS g_is_kind g_is_rule_of F_are_kinds, F_are_kinds.kp, b_are_kinds, m_are_kinds⟩
 have r_all_places : ∀ n, Got P w K mg base "all_places" ["grove"] (n) (spAllP K n) := by
  intro n
  induction n with
  | zero => exact ⟨_, _, none_all_places, F_all_places.kp, b_all_places, m_all_places⟩
  | succ n ih => exact ⟨_, _, ok_all_places B ih F_all_places, F_all_places.kp, b_all_places, m_all_places⟩
 have g_all_places : Got P w K mg base "all_places" ["grove"] (20) (spAllP K 20) := r_all_places 20
 have g_steps_in : Got P w K mg base "steps_in" ["name", "rule", "word", "grove"] (21) (spStepsIn K) := ⟨_, _, ok_steps_in B g_all_places g_tree_at F_steps_in, F_steps_in.kp, b_steps_in, m_steps_in⟩
 have g_steps_of : GotX P w K mg base "steps_of" ["book", "name"] (22) (spStepsOf K (He.ga K "Book") (He.ga K "NoKind")) := ⟨_, _, ok_steps_of B g_Book_rules g_steps_in F_steps_of, F_steps_of.kp, b_steps_of, m_steps_of⟩
 have g_leads : GotX P w K mg base "leads" ["book", "name"] (23) (spLeads K (He.ga K "Book") (He.ga K "NoKind")) := ⟨_, _, ok_leads B g_steps_of F_leads, F_leads.kp, b_leads, m_leads⟩
 have g_lead_into : Got P w K mg base "lead_into" ["led", "ending"] (1) (spLeadInto K) := ⟨_, _, ok_lead_into B F_lead_into, F_lead_into.kp, b_lead_into, m_lead_into⟩
 have g_ending_kinds : Got P w K mg base "ending_kinds" ["book"] (24) (spEndingO K (He.ga K "Book") (He.ga K "NoKind")) := ⟨_, _, ok_ending_kinds B g_Book_names g_leads g_lead_into F_ending_kinds, F_ending_kinds.kp, b_ending_kinds, m_ending_kinds⟩
 have g_endless_kinds : Got P w K mg base "endless_kinds" ["book"] (25) (spEndless K (He.ga K "Book") (He.ga K "NoKind")) := ⟨_, _, ok_endless_kinds B g_ending_kinds g_Book_names F_endless_kinds, F_endless_kinds.kp, b_endless_kinds, m_endless_kinds⟩
 have O_Endless : OwnI P w K mg base "Endless" (He.ga K "Endless") 1 := ⟨m_Endless, oexCB_ok xk_Endless, n_Endless, ⟨_, _, h_Endless.at_, beq_iff_eq.mp h_Endless.fn, ok_Endless___init__ F_Endless___init__, b_Endless___init__⟩⟩
 have g_check_ends : GotX P w K mg base "check_ends" ["book", "grove"] (72) (spChkEX K (He.ga K "Book") (He.ga K "NoKind") (He.ga K "Endless")) := ⟨_, _, ok_check_ends B O_Endless g_endless_kinds g_kinds_within F_check_ends, F_check_ends.kp, b_check_ends, m_check_ends⟩
 have g_Book_spreads : GotMX P w K mg base (He.ga K "Book") "spreads" ["self", "name"] (4) (spBSpreads K (He.ga K "Book") (He.ga K "NoKind")) := ⟨_, _, ok_Book_spreads B T_Book g_check_kind F_Book_spreads, h_Book_spreads, b_Book_spreads, c_Book⟩
 have g_laden : Got P w K mg base "laden" ["book", "kind", "own", "inner"] (5) (spLaden K (He.ga K "Book")) := ⟨_, _, ok_laden B g_Book_spreads g_spread g_behind F_laden, F_laden.kp, b_laden, m_laden⟩
 have r_reck : ∀ n, Got P w K mg base "reckoned" ["book", "worths", "grove"] (2 * n + 5) (spReck K (He.ga K "Book") n) := by
  intro n
  induction n with
  | zero => exact ⟨_, _, none_reck, F_reckoned.kp, b_reckoned, m_reckoned⟩
  | succ n ih =>
   have h1 : Got P w K mg base "reckoned_tree" ["book", "worths", "tree"] (2 * n + 6) (spReckT K (He.ga K "Book") n) := ⟨_, _, ok_reckoned_tree B g_laden ih F_reckoned_tree, F_reckoned_tree.kp, b_reckoned_tree, m_reckoned_tree⟩
   exact ⟨_, _, ok_reckoned B g_all_together g_many_of h1 F_reckoned, F_reckoned.kp, b_reckoned, m_reckoned⟩
 have g_reckoned : Got P w K mg base "reckoned" ["book", "worths", "grove"] 45 (spReck K (He.ga K "Book") 20) := r_reck 20
 have g_reckoned_tree : Got P w K mg base "reckoned_tree" ["book", "worths", "tree"] 46 (spReckT K (He.ga K "Book") 20) := ⟨_, _, ok_reckoned_tree (n := 20) B g_laden g_reckoned F_reckoned_tree, F_reckoned_tree.kp, b_reckoned_tree, m_reckoned_tree⟩
 have g_climb : Got P w K mg base "climb" ["book", "worths", "rule"] (46) (spClimb K (He.ga K "Book")) := ⟨_, _, ok_climb B g_above g_reckoned F_climb, F_climb.kp, b_climb, m_climb⟩
 have g_own_ranks : Got P w K mg base "own_ranks" ["book"] (47) (spOwnRanks K (He.ga K "Book") (He.ga K "NoKind")) := ⟨_, _, ok_own_ranks B g_ending_kinds g_rules_from_nought g_climb F_own_ranks, F_own_ranks.kp, b_own_ranks, m_own_ranks⟩
 have g_own_rank : GotX P w K mg base "own_rank" ["book", "name"] (74) (spOwn42 K (He.ga K "Book") (He.ga K "NoKind") (He.ga K "Endless")) := ⟨_, _, ok_own_rank B O_Endless g_check_kind g_own_ranks F_own_rank, F_own_rank.kp, b_own_rank, m_own_rank⟩
 have g_rank : GotX P w K mg base "rank" ["book", "grove"] (73) (spRank42 K (He.ga K "Book") (He.ga K "NoKind") (He.ga K "Endless")) := ⟨_, _, ok_rank B g_check_kinds g_check_ends g_reckoned g_own_ranks F_rank, F_rank.kp, b_rank, m_rank⟩
 have r_showG : ∀ n, Got P w K mg base "show_grove" ["grove"] (3 * n + 1) (spShowG K n) := by
  intro n
  induction n with
  | zero => exact ⟨_, _, none_showG, F_show_grove.kp, b_show_grove, m_show_grove⟩
  | succ n ih =>
   have h1 : Got P w K mg base "show_tree" ["tree"] (3 * n + 2) (spShowT K n) := ⟨_, _, ok_show_tree B ih F_show_tree, F_show_tree.kp, b_show_tree, m_show_tree⟩
   have h2 : Got P w K mg base "show_pair" ["tree", "many"] (3 * n + 3) (spShowP K n) := ⟨_, _, ok_show_pair B h1 F_show_pair, F_show_pair.kp, b_show_pair, m_show_pair⟩
   exact ⟨_, _, ok_show_grove B h2 F_show_grove, F_show_grove.kp, b_show_grove, m_show_grove⟩
 have g_show_grove : Got P w K mg base "show_grove" ["grove"] 61 (spShowG K 20) := r_showG 20
 have g_show_tree : Got P w K mg base "show_tree" ["tree"] 62 (spShowT K 20) := ⟨_, _, ok_show_tree (n := 20) B g_show_grove F_show_tree, F_show_tree.kp, b_show_tree, m_show_tree⟩
 have g_table : GotX P w K mg base "table" ["book", "grove"] (73) (spTab42 K (He.ga K "Book") (He.ga K "NoKind") (He.ga K "Endless")) := ⟨_, _, ok_table B g_check_kinds g_check_ends F_table, F_table.kp, b_table, m_table⟩
 have g_is_table : GotX P w K mg base "is_table" ["book", "grove", "thing"] (73) (spIsT42 K (He.ga K "Book") (He.ga K "NoKind")) := ⟨_, _, ok_is_table B g_check_kinds F_is_table, F_is_table.kp, b_is_table, m_is_table⟩
 have g_worth : GotX P w K mg base "worth" ["book", "worths", "grove"] (73) (spWor42 K (He.ga K "Book") (He.ga K "NoKind")) := ⟨_, _, ok_worth B g_check_kinds F_worth, F_worth.kp, b_worth, m_worth⟩
 have g_check_worths : GotX P w K mg base "check_worths" ["book", "worths"] (50) (spChkW K (He.ga K "Book")) := ⟨_, _, ok_check_worths B O_NoWorths g_Book_names g_is_ladder F_check_worths, F_check_worths.kp, b_check_worths, m_check_worths⟩
 have g__law_draws : Got P w K mg base "_law_draws" ["_law_script", "_law_many_here"] (1) (spDraws K) := ⟨_, _, ok__law_draws B F__law_draws, F__law_draws.kp, b__law_draws, m__law_draws⟩
 have g__law_next : Got P w K mg base "_law_next" ["_law_draws_here"] (1) (spNext) := ⟨_, _, ok__law_next B F__law_next, F__law_next.kp, b__law_next, m__law_next⟩
 have g__law_names : Got P w K mg base "_law_names" ["_law_draws_here", "_law_many_here"] (2) (spNamesN K) := ⟨_, _, ok__law_names B g__law_next F__law_names, F__law_names.kp, b__law_names, m__law_names⟩
 have g__law_many : Got P w K mg base "_law_many" ["_law_draws_here", "_law_great"] (2) (spManyN) := ⟨_, _, ok__law_many B g__law_next F__law_many, F__law_many.kp, b__law_many, m__law_many⟩
 have r__law_grove : ∀ n, Got P w K mg base "_law_grove" ["_law_draws_here", "_law_names_here", "_law_room", "_law_great"] (n + 2) (spGroveN40 K n) := by
  intro n
  induction n with
  | zero => exact ⟨_, _, none__law_grove, F__law_grove.kp, b__law_grove, m__law_grove⟩
  | succ n ih => exact ⟨_, _, ok__law_grove B g__law_next ih g__law_many F__law_grove, F__law_grove.kp, b__law_grove, m__law_grove⟩
 have g__law_grove : Got P w K mg base "_law_grove" ["_law_draws_here", "_law_names_here", "_law_room", "_law_great"] (11 + 2) (spGroveN40 K 11) := r__law_grove 11
 have g__law_kinds : Got P w K mg base "_law_kinds" ["_law_draws_here", "_law_names_here", "_law_rounds_here"] (15) (spKindsN K) := ⟨_, _, ok__law_kinds B g__law_next g__law_grove F__law_kinds, F__law_kinds.kp, b__law_kinds, m__law_kinds⟩
 have g_Book___init__ : GotI P w K mg base "Book" (He.ga K "Book") ["self", "kinds"] (88) (spBInit K (He.ga K "Book") (He.ga K "NoBook")) := ⟨_, _, ok_Book___init__ B O_NoBook T_Book g_are_kinds F_Book___init__, h_Book___init__, b_Book___init__, m_Book⟩
 have g__law_book : Got P w K mg base "_law_book" ["_law_kinds_here"] (90) (spMkBook K (He.ga K "Book")) := ⟨_, _, ok__law_book B g_Book___init__ F__law_book, F__law_book.kp, b__law_book, m__law_book⟩
 have r__law_in : ∀ n, Got P w K mg base "_law_in" ["_law_grove_here"] (n) (spIn40 K n) := by
  intro n
  induction n with
  | zero => exact ⟨_, _, none__law_in, F__law_in.kp, b__law_in, m__law_in⟩
  | succ n ih => exact ⟨_, _, ok__law_in B ih F__law_in, F__law_in.kp, b__law_in, m__law_in⟩
 have g__law_in : Got P w K mg base "_law_in" ["_law_grove_here"] (20) (spIn40 K 20) := r__law_in 20
 have g__law_endless : Got P w K mg base "_law_endless" ["_law_kinds_here"] (21) (spEndl40 K) := ⟨_, _, ok__law_endless B g__law_in F__law_endless, F__law_endless.kp, b__law_endless, m__law_endless⟩
 have g__law_asked : GotX P w K mg base "_law_asked" ["_law_turn", "_law_book_here", "_law_worths", "_law_grove_here"] (76) (spAsk42 K (He.ga K "Book") (He.ga K "NoKind") (He.ga K "Endless")) := ⟨_, _, ok__law_asked B g_rank g_table g_is_table g_worth g_own_rank F__law_asked, F__law_asked.kp, b__law_asked, m__law_asked⟩
 have g__law_alone : GotP P w K mg base "_law_alone" ["_law_e", "_law_wanted"] (1) (spAlone42 K (He.ga K) eC) := ⟨_, _, ok__law_alone B T F__law_alone, F__law_alone.kp, b__law_alone, m__law_alone⟩
 have g__law_refused : Got P w K mg base "_law_refused" ["_law_turn", "_law_book_here", "_law_worths", "_law_grove_here", "_law_wanted", "_law_least"] (78) (spRefd42 K (He.ga K "Book")) := ⟨_, _, ok__law_refused B T g__law_asked g__law_alone F__law_refused, F__law_refused.kp, b__law_refused, m__law_refused⟩
 have g__law_rounds : Got P w K mg base "_law_rounds" ["_law_draws_here", "_law_names_here"] (16) (spRnd42 K) := ⟨_, _, ok__law_rounds B g__law_kinds g__law_next g__law_grove F__law_rounds, F__law_rounds.kp, b__law_rounds, m__law_rounds⟩
 have g__law_strange : Got P w K mg base "_law_strange" ["_law_draws_here", "_law_every", "_law_many_here"] (3) (spStr42 K) := ⟨_, _, ok__law_strange B g__law_next F__law_strange, F__law_strange.kp, b__law_strange, m__law_strange⟩
 exact ok_law B g__law_draws g__law_next g__law_names g__law_rounds g__law_book g__law_endless g__law_grove g__law_in g__law_refused g_rank g__law_strange F_law
end FT
open PySem PySem.W PySem.Calls PyProof.Rows
set_option maxRecDepth 100000 in
set_option maxHeartbeats 0 in
theorem PySem.Challenge.cw_felltimber_k42_no_ranks_holds : PySem.Challenge.rw_felltimber_k42_no_ranks.Holds := by
 w_on; o_law
 refine HandSHeadRun.head_any (r := OpenLaw.row PySem.Challenge.rw_felltimber_k42_no_ranks) (q := view (OpenLaw.row PySem.Challenge.rw_felltimber_k42_no_ranks).prog [107]) (H := FT.hk) (ob := FT.ob) (M := 9000) (loose := FT.loose) (d := HandSHeadRun.topDef (OpenLaw.row PySem.Challenge.rw_felltimber_k42_no_ranks).prog 107) (kwd := []) FT.ob_eq
  (by kernel_rfl) (fun s => by kernel_rfl) FT.run (by kernel_rfl) (by kernel_rfl) (by kernel_rfl) (by rfl) (by first | assumption | decide +kernel) (by decide +kernel) ⟨rfl, rfl, rfl, rfl, rfl, by decide +kernel⟩ ?hw ?hc
 case hw => w_witness2
 case hc =>
  refine L2.walk_ofE (l := PySem.Challenge.rw_felltimber_k42_no_ranks) (n := 63) (k := 120) (x := "_law_script") (CX := L2.CX0) rfl (by decide) (by kernel_rfl) ⟨rfl, by decide, by decide⟩ ?F (fun _ _ _ _ z => z)
  intro w mg fa h Y G hmg0
  obtain ⟨K, KX, c, cx⟩ := Y
  have hmg : mg ("law" : PySem.Str) = some (.ref fa) := by
   have e : (HandSHeadRun.topDef (OpenLaw.row PySem.Challenge.rw_felltimber_k42_no_ranks).prog 107).name = ("law" : PySem.Str) := by kernel_rfl
   rw [<- e]
   exact hmg0
  obtain ⟨fd, hb, hF⟩ := FT.facts (P := (PySem.Challenge.rw_felltimber_k42_no_ranks).prog) (w := w) KX G hmg c cx
  exact ⟨K, fd, FT.spLaw K, KX, hb, fun H a ns hl _ hS => ⟨a, ns, rfl, hS, hl, fun _ => rfl⟩, hF⟩
