import PyProof.Rows.All
import Wide.All
import OpenK.AllK
import Wide.FinOn
import HandS.Evl
import HandS.Words
import HandS.WordsExc
import HandS.Gcd
import HandS.Wide
import HandS.IsInst
import HandS.Defaults
import HandS.Zip
import HandS.HeadHook1
import HandS.HeadHook2
import HandS.OwnEq
import OpenK.KOps
import OpenK.KMeth
import KE.KMathGC
import PyProof.InstNe
import PyProof.FactsAll.tuple_iterator_1
import HandS.SetFor
import PyProof.ListNew
import HandS.TupAny
import KE.KMathG
import HandS.DictComp
import PyProof.ZipIter
import PyProof.CollectWalk
import KE.KItemsList
import HandS.Base
import HandS.Call
import HandS.List
import HandS.Iter
import HandS.ListItems
import HandS.Star
import KE.KExcSuper
import HandS.ExcOwn
import HandS.ExcInit
import KE.KStateDown
import HandS.Head3
import HandS.HeadEnd
import HandS.Rev
import HandS.RevTup
import HandS.Conv
import HandS.Deep
import HandS.WideBits
import HandS.Flow
import HandS.TupMul
import HandS.TryOnly
import KE.GoesMore
import HandS.TryMany
import HandS.Style
import HandS.Small
import PyProof.Rows.Range3
import HandS.SortInts
import HandS.HeadWalk
import PySem.Challenge.RW_weirlines_k11_whole_always_even
section
set_option Elab.async false
set_option linter.all false
set_option maxRecDepth 100000
namespace WD
open PySem L2 Evl

/-! ### plain data: what never changes -/
inductive D where
  | non | bl (b : Bool) | int (i : Int) | str (x : Str)
  | tup (ds : List D) | lst (ds : List D) | obj (c : Str) (fs : List (Str × D))

mutual
inductive Is (K : PySem.W.Frag) (H : Hp) : V → D → Prop
  | non : Is K H .non .non
  | bl (b : Bool) : Is K H (.bl b) (.bl b)
  | int (i : Int) : Is K H (.int i) (.int i)
  | str (x : Str) : Is K H (.str x) (.str x)
  | tup {a : Addr} {xs : List V} {ds : List D} : SqT K H a xs → All K H xs ds → Is K H (.ref a) (.tup ds)
  | lst {a : Addr} {xs : List V} {ds : List D} : Rd H a (.lst xs) → All K H xs ds → Is K H (.ref a) (.lst ds)
  | obj {a dx : Addr} {c : Str} {fvs : List (Str × V)} {fs : List (Str × D)} : H a = some (.ins (He.ga K c) dx fvs) → AllF K H fvs fs → Is K H (.ref a) (.obj c fs)
inductive All (K : PySem.W.Frag) (H : Hp) : List V → List D → Prop
  | nil : All K H [] []
  | cons {v : V} {vs : List V} {d : D} {ds : List D} : Is K H v d → All K H vs ds → All K H (v :: vs) (d :: ds)
inductive AllF (K : PySem.W.Frag) (H : Hp) : List (Str × V) → List (Str × D) → Prop
  | nil : AllF K H [] []
  | cons {n : Str} {v : V} {vs : List (Str × V)} {d : D} {ds : List (Str × D)} : Is K H v d → AllF K H vs ds → AllF K H ((n, v) :: vs) ((n, d) :: ds)
end

section
variable {K : PySem.W.Frag} {H H' : Hp}
mutual
theorem Is.ex (e : Ex H H') : ∀ {v : V} {d : D}, Is K H v d → Is K H' v d
  | _, _, .non => .non
  | _, _, .bl b => .bl b
  | _, _, .int i => .int i
  | _, _, .str x => .str x
  | _, _, .tup h a => .tup (ex_t e h) (All.ex e a)
  | _, _, .lst h a => .lst (ex_rd e h) (All.ex e a)
  | _, _, .obj h a => .obj (e _ _ h) (AllF.ex e a)
theorem All.ex (e : Ex H H') : ∀ {vs : List V} {ds : List D}, All K H vs ds → All K H' vs ds
  | _, _, .nil => .nil
  | _, _, .cons h a => .cons (Is.ex e h) (All.ex e a)
theorem AllF.ex (e : Ex H H') : ∀ {vs : List (Str × V)} {ds : List (Str × D)}, AllF K H vs ds → AllF K H' vs ds
  | _, _, .nil => .nil
  | _, _, .cons h a => .cons (Is.ex e h) (AllF.ex e a)
end
theorem All.len : ∀ {vs : List V} {ds : List D}, All K H vs ds → vs.length = ds.length
  | _, _, .nil => rfl
  | _, _, .cons _ a => congrArg Nat.succ (All.len a)
theorem All.get : ∀ {vs : List V} {ds : List D} {i : Nat} {d : D}, All K H vs ds → ds[i]? = some d → ∃ v, vs[i]? = some v ∧ Is K H v d
  | _, _, _, _, .nil, h => by simp at h
  | _, _, 0, _, .cons h _, e => by
    simp at e
    subst e
    exact ⟨_, rfl, h⟩
  | _, _, i + 1, _, .cons _ a, e => by
    obtain ⟨v, h1, h2⟩ := All.get (i := i) a (by simpa using e)
    exact ⟨v, by simpa using h1, h2⟩
theorem All.get' : ∀ {vs : List V} {ds : List D} {i : Nat} {v : V}, All K H vs ds → vs[i]? = some v → ∃ d, ds[i]? = some d ∧ Is K H v d
  | _, _, _, _, .nil, h => by simp at h
  | _, _, 0, _, .cons h _, e => by
    simp at e
    subst e
    exact ⟨_, rfl, h⟩
  | _, _, i + 1, _, .cons _ a, e => by
    obtain ⟨d, h1, h2⟩ := All.get' (i := i) a (by simpa using e)
    exact ⟨d, by simpa using h1, h2⟩
theorem All.app : ∀ {vs ws : List V} {ds es : List D}, All K H vs ds → All K H ws es → All K H (vs ++ ws) (ds ++ es)
  | _, _, _, _, .nil, b => b
  | _, _, _, _, .cons h a, b => .cons h (All.app a b)
theorem All.one {v : V} {d : D} (h : Is K H v d) : All K H [v] [d] := .cons h .nil
theorem All.drop : ∀ {vs : List V} {ds : List D} (n : Nat), All K H vs ds → All K H (vs.drop n) (ds.drop n)
  | _, _, 0, h => h
  | _, _, _ + 1, .nil => .nil
  | _, _, n + 1, .cons _ a => All.drop n a
theorem All.take : ∀ {vs : List V} {ds : List D} (n : Nat), All K H vs ds → All K H (vs.take n) (ds.take n)
  | _, _, 0, _ => .nil
  | _, _, _ + 1, .nil => .nil
  | _, _, n + 1, .cons h a => .cons h (All.take n a)
theorem All.set {v : V} {d : D} (h : Is K H v d) : ∀ {vs : List V} {ds : List D} (n : Nat), All K H vs ds → All K H (vs.set n v) (ds.set n d)
  | _, _, _, .nil => .nil
  | _, _, 0, .cons _ a => .cons h a
  | _, _, n + 1, .cons g a => .cons g (All.set h n a)
theorem AllF.look {f : Str} {d : D} : ∀ {vs : List (Str × V)} {ds : List (Str × D)}, AllF K H vs ds → ds.lookup f = some d → ∃ v, vs.lookup f = some v ∧ Is K H v d
  | _, _, .nil, h => by simp at h
  | _, _, .cons (n := n) h a, e => by
    rw [List.lookup_cons] at e ⊢
    cases q : (f == n) with
    | true =>
      rw [q] at e
      cases e
      exact ⟨_, rfl, h⟩
    | false =>
      rw [q] at e
      exact AllF.look a e

/-! ### data without lists and objects: kept by all that is done to lists -/
mutual
def D.lf : D → Bool
  | .lst _ => false
  | .obj _ _ => false
  | .tup ds => D.lfs ds
  | _ => true
def D.lfs : List D → Bool
  | [] => true
  | d :: ds => D.lf d && D.lfs ds
end
/-- tuples stay -/
def Gt (H H' : Hp) : Prop := ∀ a xs, Rd H a (.tup xs) → Rd H' a (.tup xs)
theorem Gt.refl (H : Hp) : Gt H H := fun _ _ h => h
theorem Gt.trans {H H1 H2 : Hp} (a : Gt H H1) (b : Gt H1 H2) : Gt H H2 := fun x y h => b x y (a x y h)
theorem Gt.of (e : Ex H H') : Gt H H' := fun _ _ h => ex_rd e h
theorem Gt.upd {p : Addr} {o : HO} {u : HO} (h : H p = some u) (hu : ∀ xs, u ≠ .tup xs) (hf : ∀ ob z, u ≠ .frz ob z) : Gt H (upd H p o) := fun a xs r => by
  rcases r with r | ⟨ob, r⟩
  · exact .inl (by
      rw [upd_ne (ne_of r h (fun z => hu xs z.symm))]
      exact r)
  · exact .inr ⟨ob, by
      rw [upd_ne (ne_of r h (fun z => hf ob _ z.symm))]
      exact r⟩
theorem Gt.lst {p : Addr} {o : HO} {xs : List V} (h : H p = some (.lst xs)) : Gt H (L2.upd H p o) := Gt.upd h (fun _ z => by cases z) (fun _ _ z => by cases z)
mutual
theorem Is.gt (e : Gt H H') : ∀ {v : V} {d : D}, Is K H v d → d.lf = true → Is K H' v d
  | _, _, .non, _ => .non
  | _, _, .bl b, _ => .bl b
  | _, _, .int i, _ => .int i
  | _, _, .str x, _ => .str x
  | _, _, .tup h a, q => .tup (h.imp (fun h => e _ _ h) id) (All.gt e a q)
  | _, _, .lst _ _, q => nomatch q
  | _, _, .obj _ _, q => nomatch q
theorem All.gt (e : Gt H H') : ∀ {vs : List V} {ds : List D}, All K H vs ds → D.lfs ds = true → All K H' vs ds
  | _, _, .nil, _ => .nil
  | _, _, .cons h a, q => .cons (Is.gt e h (Bool.and_eq_true_iff.mp q).1) (All.gt e a (Bool.and_eq_true_iff.mp q).2)
end
theorem lfs_map {α : Type} (f : α → D) (h : ∀ a, (f a).lf = true) : ∀ xs : List α, D.lfs (xs.map f) = true
  | [] => rfl
  | x :: xs => by
    show ((f x).lf && D.lfs (xs.map f)) = true
    rw [h x, lfs_map f h xs]
    rfl
theorem lfs_app : ∀ {ds es : List D}, D.lfs ds = true → D.lfs es = true → D.lfs (ds ++ es) = true
  | [], _, _, h => h
  | d :: ds, es, h, h2 => by
    obtain ⟨a, b⟩ := Bool.and_eq_true_iff.mp (show (d.lf && D.lfs ds) = true from h)
    show (d.lf && D.lfs (ds ++ es)) = true
    rw [a, lfs_app b h2]
    rfl
end
end WD
end
section
set_option Elab.async false
set_option linter.all false
set_option maxRecDepth 100000
namespace WD
open PySem L2 Evl
variable {K : PySem.W.Frag} {σ : L2.St} {H H' : Hp} {ta tb te tx : TE} {t u : TT} {d d1 d2 : D} {ds es : List D}

def EvD (K : PySem.W.Frag) (te : TE) (σ : L2.St) (H : Hp) (d : D) : Prop := ∀ H1, Ex H H1 → ∀ Q : VK, (∀ v H2, Ex H1 H2 → Is K H2 v d → Q v H2) → te σ H1 Q
def EvDA (K : PySem.W.Frag) (ta : TA) (σ : L2.St) (H : Hp) (ds : List D) : Prop := ∀ H1, Ex H H1 → ∀ Q : List V → Hp → Prop, (∀ vs H2, Ex H1 H2 → All K H2 vs ds → Q vs H2) → ta σ H1 Q
/-- a new list -/
def EvN (K : PySem.W.Frag) (te : TE) (σ : L2.St) (H : Hp) (ds : List D) : Prop := ∀ H1, Ex H H1 → ∀ Q : VK, (∀ p xs H2, H1 p = none → Ex H1 H2 → H2 p = some (.lst xs) → All K H2 xs ds → Q (.ref p) H2) → te σ H1 Q
theorem EvD.mono (e : Ex H H') (h : EvD K te σ H d) : EvD K te σ H' d := fun H1 a Q q => h H1 (e.trans a) Q q
theorem EvN.mono (e : Ex H H') (h : EvN K te σ H ds) : EvN K te σ H' ds := fun H1 a Q q => h H1 (e.trans a) Q q
theorem EvN.toD (h : EvN K te σ H ds) : EvD K te σ H (.lst ds) := fun H1 e Q q => h H1 e Q fun p xs H2 _ e2 h2 a => q _ H2 e2 (.lst (.inl h2) a)
theorem EvD.is {e : D} (h : EvD K te σ H d) (q : d = e) : EvD K te σ H e := q ▸ h
theorem EvN.is (h : EvN K te σ H ds) (q : ds = es) : EvN K te σ H es := q ▸ h
theorem ed_var {i : Nat} {v : V} (h : σ[i]? = some (some v)) (a : Is K H v d) : EvD K (tVar i) σ H d := fun H1 e Q q => ⟨v, h, q v H1 (Ex.refl H1) (a.ex e)⟩
theorem ed_int {i : Int} : EvD K (tC (.int i)) σ H (.int i) := fun H1 _ _ q => q _ H1 (Ex.refl H1) (.int i)
theorem ed_bl {b : Bool} : EvD K (tC (.bl b)) σ H (.bl b) := fun H1 _ _ q => q _ H1 (Ex.refl H1) (.bl b)
theorem ed_str {x : Str} : EvD K (tC (.str x)) σ H (.str x) := fun H1 _ _ q => q _ H1 (Ex.refl H1) (.str x)
theorem ed_non : EvD K (tC .non) σ H .non := fun H1 _ _ q => q _ H1 (Ex.refl H1) .non
theorem ed_of {v : V} (h : Ev te σ H v) (a : Is K H v d) : EvD K te σ H d := fun H1 e Q q => h H1 e Q fun H2 e2 => q v H2 e2 (a.ex (e.trans e2))
theorem ev_of {v : V} (hv : ∀ H' w, Is K H' w d → w = v) (h : EvD K te σ H d) : Ev te σ H v := fun H1 e Q q => h H1 e Q fun w H2 e2 a => by
  rw [hv H2 w a]
  exact q H2 e2
theorem ev_i {i : Int} (h : EvD K te σ H (.int i)) : Ev te σ H (.int i) := ev_of (fun _ _ a => by cases a; rfl) h
theorem ev_b {b : Bool} (h : EvD K te σ H (.bl b)) : Ev te σ H (.bl b) := ev_of (fun _ _ a => by cases a; rfl) h

/-! ### operators -/
def RD (K : PySem.W.Frag) (r : R2) (d1 d2 : D) (H : Hp) (d : D) : Prop := ∀ v1 v2 H1, Ex H H1 → Is K H1 v1 d1 → Is K H1 v2 d2 → ∀ Q : VK, (∀ v H2, Ex H1 H2 → Is K H2 v d → Q v H2) → r v1 v2 H1 Q
def RNw (K : PySem.W.Frag) (r : R2) (d1 d2 : D) (H : Hp) (ds : List D) : Prop := ∀ v1 v2 H1, Ex H H1 → Is K H1 v1 d1 → Is K H1 v2 d2 → ∀ Q : VK, (∀ p xs H2, H1 p = none → Ex H1 H2 → H2 p = some (.lst xs) → All K H2 xs ds → Q (.ref p) H2) → r v1 v2 H1 Q
theorem ed_op {r : R2} (ha : EvD K ta σ H d1) (hb : EvD K tb σ H d2) (hr : RD K r d1 d2 H d) : EvD K (tOp r ta tb) σ H d := fun H1 e Q q =>
  ha H1 e _ fun v1 H2 e2 a1 => hb H2 (e.trans e2) _ fun v2 H3 e3 a2 => hr v1 v2 H3 ((e.trans e2).trans e3) (a1.ex e3) a2 Q fun v H4 e4 a => q v H4 ((e2.trans e3).trans e4) a
theorem en_op {r : R2} (ha : EvD K ta σ H d1) (hb : EvD K tb σ H d2) (hr : RNw K r d1 d2 H ds) : EvN K (tOp r ta tb) σ H ds := fun H1 e Q q =>
  ha H1 e _ fun v1 H2 e2 a1 => hb H2 (e.trans e2) _ fun v2 H3 e3 a2 => hr v1 v2 H3 ((e.trans e2).trans e3) (a1.ex e3) a2 Q fun p xs H4 hp e4 h a => q p xs H4 (fresh_back (e2.trans e3) hp) ((e2.trans e3).trans e4) h a
theorem rd_I0 {g : Int → Int → Int} {i j : Int} : RD K (rI0 fun i j => .int (g i j)) (.int i) (.int j) H (.int (g i j)) := fun v1 v2 H1 _ a1 a2 Q q => by
  cases a1; cases a2
  exact ⟨i, j, rfl, rfl, q _ H1 (Ex.refl H1) (.int _)⟩
theorem rd_B0 {g : Int → Int → Bool} {i j : Int} : RD K (rI0 fun i j => .bl (g i j)) (.int i) (.int j) H (.bl (g i j)) := fun v1 v2 H1 _ a1 a2 Q q => by
  cases a1; cases a2
  exact ⟨i, j, rfl, rfl, q _ H1 (Ex.refl H1) (.bl _)⟩
theorem rd_I {C : Int → Int → Prop} {g : Int → Int → Int} {i j : Int} (hc : C i j) : RD K (rI C fun i j => .int (g i j)) (.int i) (.int j) H (.int (g i j)) := fun v1 v2 H1 _ a1 a2 Q q => by
  cases a1; cases a2
  exact ⟨i, j, rfl, rfl, hc, q _ H1 (Ex.refl H1) (.int _)⟩
theorem ed_add {i j : Int} (ha : EvD K ta σ H (.int i)) (hb : EvD K tb σ H (.int j)) : EvD K (tOp (rI0 fun i j => .int (i + j)) ta tb) σ H (.int (i + j)) := ed_op ha hb (rd_I0 (g := fun i j => i + j))
theorem ed_sub {i j : Int} (ha : EvD K ta σ H (.int i)) (hb : EvD K tb σ H (.int j)) : EvD K (tOp (rI0 fun i j => .int (i - j)) ta tb) σ H (.int (i - j)) := ed_op ha hb (rd_I0 (g := fun i j => i - j))
theorem ed_mulW {i j : Int} (ha : EvD K ta σ H (.int i)) (hb : EvD K tb σ H (.int j)) (hc : CMulW i j) : EvD K (tOp (rI CMulW fun i j => .int (i * j)) ta tb) σ H (.int (i * j)) := ed_op ha hb (rd_I (g := fun i j => i * j) hc)
theorem ed_mul {i j : Int} (ha : EvD K ta σ H (.int i)) (hb : EvD K tb σ H (.int j)) (hc : CMul i j) : EvD K (tOp (rI CMul fun i j => .int (i * j)) ta tb) σ H (.int (i * j)) := ed_op ha hb (rd_I (g := fun i j => i * j) hc)
theorem ed_divW {i j : Int} (ha : EvD K ta σ H (.int i)) (hb : EvD K tb σ H (.int j)) (hc : CDivW i j) : EvD K (tOp (rI CDivW fun i j => .int (i / j)) ta tb) σ H (.int (i / j)) := ed_op ha hb (rd_I (g := fun i j => i / j) hc)
theorem ed_mod {i j : Int} (ha : EvD K ta σ H (.int i)) (hb : EvD K tb σ H (.int j)) (hc : 0 < j) : EvD K (tOp (rI (fun _ j => 0 < j) fun i j => .int (i % j)) ta tb) σ H (.int (i % j)) := ed_op ha hb (rd_I (C := fun _ j => 0 < j) (g := fun i j => i % j) hc)
theorem ed_pow {i j : Int} (ha : EvD K ta σ H (.int i)) (hb : EvD K tb σ H (.int j)) (hc : CPow i j) : EvD K (tOp (rI CPow fun i j => .int (i ^ j.toNat)) ta tb) σ H (.int (i ^ j.toNat)) := ed_op ha hb (rd_I (g := fun i j => i ^ j.toNat) hc)
theorem ed_neg {i : Int} (ha : EvD K ta σ H (.int i)) : EvD K (tUn (rU fun i => .int (-i)) ta) σ H (.int (-i)) := fun H1 e Q q => ha H1 e _ fun v H2 e2 a => by
  cases a
  exact ⟨i, rfl, q _ H2 e2 (.int _)⟩
theorem ed_lt {i j : Int} (ha : EvD K ta σ H (.int i)) (hb : EvD K tb σ H (.int j)) : EvD K (tOp (rI0 fun i j => .bl (decide (i < j))) ta tb) σ H (.bl (decide (i < j))) := ed_op ha hb (rd_B0 (g := fun i j => decide (i < j)))
theorem ed_le {i j : Int} (ha : EvD K ta σ H (.int i)) (hb : EvD K tb σ H (.int j)) : EvD K (tOp (rI0 fun i j => .bl (decide (i ≤ j))) ta tb) σ H (.bl (decide (i ≤ j))) := ed_op ha hb (rd_B0 (g := fun i j => decide (i ≤ j)))
theorem ed_gt {i j : Int} (ha : EvD K ta σ H (.int i)) (hb : EvD K tb σ H (.int j)) : EvD K (tOp (rI0 fun i j => .bl (decide (j < i))) ta tb) σ H (.bl (decide (j < i))) := ed_op ha hb (rd_B0 (g := fun i j => decide (j < i)))
theorem ed_ge {i j : Int} (ha : EvD K ta σ H (.int i)) (hb : EvD K tb σ H (.int j)) : EvD K (tOp (rI0 fun i j => .bl (decide (j ≤ i))) ta tb) σ H (.bl (decide (j ≤ i))) := ed_op ha hb (rd_B0 (g := fun i j => decide (j ≤ i)))
theorem ed_eqI {i j : Int} (ha : EvD K ta σ H (.int i)) (hb : EvD K tb σ H (.int j)) : EvD K (tOp rEq ta tb) σ H (.bl (decide (i = j))) := ed_op ha hb fun v1 v2 H1 _ a1 a2 Q q => by
  cases a1; cases a2
  refine ⟨rfl, ?_⟩
  have e : decide (V.int i = V.int j) = decide (i = j) := decide_eq_decide.mpr ⟨fun h => by cases h; rfl, fun h => by rw [h]⟩
  rw [e]
  exact q _ H1 (Ex.refl H1) (.bl _)
theorem ed_neI {i j : Int} (ha : EvD K ta σ H (.int i)) (hb : EvD K tb σ H (.int j)) : EvD K (tOp rNe ta tb) σ H (.bl (!decide (i = j))) := ed_op ha hb fun v1 v2 H1 _ a1 a2 Q q => by
  cases a1; cases a2
  refine ⟨rfl, ?_⟩
  have e : decide (V.int i = V.int j) = decide (i = j) := decide_eq_decide.mpr ⟨fun h => by cases h; rfl, fun h => by rw [h]⟩
  rw [e]
  exact q _ H1 (Ex.refl H1) (.bl _)
/-! ### data as PyData, for == -/
mutual
def D.py : D → PyData
  | .non => .none
  | .bl b => .bool b
  | .int i => .int i
  | .str x => .str x
  | .tup ds => .tuple (D.pys ds)
  | .lst ds => .list (D.pys ds)
  | .obj _ _ => .none
def D.pys : List D → List PyData
  | [] => []
  | d :: ds => D.py d :: D.pys ds
end
mutual
/-- no object in it -/
def D.fl : D → Bool
  | .tup ds => D.fls ds
  | .lst ds => D.fls ds
  | .obj _ _ => false
  | _ => true
def D.fls : List D → Bool
  | [] => true
  | d :: ds => D.fl d && D.fls ds
end
mutual
theorem Is.dp : ∀ {v : V} {d : D}, Is K H v d → d.fl = true → Dp K H v d.py
  | _, _, .non, _ => .non
  | _, _, .bl b, _ => .bl b
  | _, _, .int i, _ => .int i
  | _, _, .str x, _ => .str x
  | _, _, .tup h a, q => .tup h (All.dp a q)
  | _, _, .lst h a, q => .lst (.inl h) (All.dp a q)
theorem All.dp : ∀ {vs : List V} {ds : List D}, All K H vs ds → D.fls ds = true → DpAll K H vs (D.pys ds)
  | _, _, .nil, _ => .nil
  | _, _, .cons h a, q => .cons (Is.dp h (Bool.and_eq_true_iff.mp q).1) (All.dp a (Bool.and_eq_true_iff.mp q).2)
end
structure Sh (d : D) : Prop where
  fl : d.fl = true
  sh : SeqAt.shaped d.py = true
theorem ed_eqD (ha : EvD K ta σ H d1) (hb : EvD K tb σ H d2) (s1 : Sh d1) (s2 : Sh d2) : EvD K (tOp (rEqD K) ta tb) σ H (.bl (PyData.eqv d1.py d2.py)) := ed_op ha hb fun v1 v2 H1 _ a1 a2 Q q =>
  ⟨_, _, a1.dp s1.fl, a2.dp s2.fl, s1.sh, s2.sh, q _ H1 (Ex.refl H1) (.bl _)⟩
theorem ed_neD (ha : EvD K ta σ H d1) (hb : EvD K tb σ H d2) (s1 : Sh d1) (s2 : Sh d2) : EvD K (tOp (rNeD K) ta tb) σ H (.bl (!PyData.eqv d1.py d2.py)) := ed_op ha hb fun v1 v2 H1 _ a1 a2 Q q =>
  ⟨_, _, a1.dp s1.fl, a2.dp s2.fl, s1.sh, s2.sh, q _ H1 (Ex.refl H1) (.bl _)⟩
/-! ### lists, tuples -/
theorem atI_len {α β : Type} {xs : List α} {ys : List β} {i : Int} (h : xs.length = ys.length) {d : β} (e : atI ys i = some d) : ∃ j : Nat, ys[j]? = some d ∧ ∀ v, xs[j]? = some v → atI xs i = some v := by
  unfold atI at e ⊢
  rw [h]
  cases q : ixN ys.length i with
  | none =>
    rw [q] at e
    cases e
  | some j =>
    rw [q] at e
    exact ⟨j, e, fun v hv => hv⟩
theorem ed_ixT {i : Int} (ha : EvD K ta σ H (.tup ds)) (hb : EvD K tb σ H (.int i)) (hi : atI ds i = some d) : EvD K (tOp (rIxT K) ta tb) σ H d := ed_op ha hb fun v1 v2 H1 _ a1 a2 Q q => by
  cases a1 with
  | tup h a =>
    cases a2
    obtain ⟨j, h1, h2⟩ := atI_len a.len hi
    obtain ⟨v, h3, h4⟩ := a.get h1
    exact ⟨_, _, i, v, rfl, rfl, h, h2 v h3, q v H1 (Ex.refl H1) h4⟩
theorem ed_ixL {i : Int} (ha : EvD K ta σ H (.lst ds)) (hb : EvD K tb σ H (.int i)) (hi : atI ds i = some d) : EvD K (tOp (rIxL K) ta tb) σ H d := ed_op ha hb fun v1 v2 H1 _ a1 a2 Q q => by
  cases a1 with
  | lst h a =>
    cases a2
    obtain ⟨j, h1, h2⟩ := atI_len a.len hi
    obtain ⟨v, h3, h4⟩ := a.get h1
    exact ⟨_, _, i, v, rfl, rfl, .inl h, h2 v h3, q v H1 (Ex.refl H1) h4⟩
theorem ea0 : EvDA K tNil σ H [] := fun H1 _ _ q => q [] H1 (Ex.refl H1) .nil
theorem ea1 {tr : TA} (h : EvD K te σ H d) (hr : EvDA K tr σ H ds) : EvDA K (tCons te tr) σ H (d :: ds) := fun H1 e _ q =>
  h H1 e _ fun v H2 e2 a => hr H2 (e.trans e2) _ fun vs H3 e3 b => q (v :: vs) H3 (e2.trans e3) (.cons (a.ex e3) b)
theorem ed_tup {ta : TA} (h : EvDA K ta σ H ds) (hl : ds.length ≤ 100000 := by decide) : EvD K (tTup ta) σ H (.tup ds) := fun H1 e _ q =>
  h H1 e _ fun vs H2 e2 a => ⟨sz_of (by rw [a.len]; exact hl), fun p hp => q _ _ (e2.trans (Ex.new hp)) (.tup (st_of upd_same) (a.ex (Ex.new hp)))⟩
theorem en_lst {ta : TA} (h : EvDA K ta σ H ds) (hl : ds.length ≤ 100000 := by decide) : EvN K (tLst ta) σ H ds := fun H1 e _ q =>
  h H1 e _ fun vs H2 e2 a => ⟨sz_of (by rw [a.len]; exact hl), fun p hp => q p vs _ (fresh_back e2 hp) (e2.trans (Ex.new hp)) upd_same (a.ex (Ex.new hp))⟩
theorem cutA {lo hi : Option Int} {xs : List V} (a : All K H xs ds) : All K H (cutV xs lo hi) ((ds.drop (HT.sIx ds.length 0 lo)).take (HT.sIx ds.length ds.length hi - HT.sIx ds.length 0 lo)) := by
  unfold cutV
  rw [a.len]
  exact (a.drop _).take _
def cutD (xs : List D) (lo hi : Option Int) : List D := (xs.drop (HT.sIx xs.length 0 lo)).take (HT.sIx xs.length xs.length hi - HT.sIx xs.length 0 lo)
theorem en_sl {tl th : TO} {lo hi : Option Int} (h : EvD K te σ H (.lst ds)) (h1 : EvO tl σ H lo) (h2 : EvO th σ H hi) : EvN K (tSl (rSlL K) te tl th) σ H (cutD ds lo hi) := fun H1 e _ q =>
  h H1 e _ fun v H2 e2 a => by
    cases a with
    | lst hs a =>
      exact h1 H2 (e.trans e2) _ fun H3 e3 => h2 H3 ((e.trans e2).trans e3) _ fun H4 e4 =>
        ⟨_, _, rfl, ex_l (e3.trans e4) (.inl hs), fun p hp => q p _ _ (fresh_back ((e2.trans e3).trans e4) hp) (((e2.trans e3).trans e4).trans (Ex.new hp)) upd_same (cutA (a.ex ((e3.trans e4).trans (Ex.new hp))))⟩
theorem eo_s {i : Int} (h : EvD K te σ H (.int i)) : EvO (tPart te) σ H (some i) := eo_some (ev_i h)
theorem ed_lenL (h : EvD K te σ H (.lst ds)) : EvD K (tCB (rLenS K) (tCons te tNil)) σ H (.int (ds.length : Int)) := fun H1 e Q q =>
  h H1 e _ fun v H2 e2 a => by
    cases a with
    | lst hs a => exact ⟨_, _, rfl, Or.inl (.inl hs), by rw [a.len]; exact q _ H2 e2 (.int _)⟩
theorem ed_lenT (h : EvD K te σ H (.tup ds)) : EvD K (tCB (rLenS K) (tCons te tNil)) σ H (.int (ds.length : Int)) := fun H1 e Q q =>
  h H1 e _ fun v H2 e2 a => by
    cases a with
    | tup hs a => exact ⟨_, _, rfl, Or.inr hs, by rw [a.len]; exact q _ H2 e2 (.int _)⟩
def rTupS (K : PySem.W.Frag) : List V → Hp → VK → Prop := fun xs H Q => ∃ p ys, xs = [.ref p] ∧ ((SqL K H p ys ∧ ∀ l, H l = none → Q (.ref l) (upd H l (.tup ys))) ∨ (SqT K H p ys ∧ Q (.ref p) H))
theorem ed_tuple (h : EvD K te σ H (.lst ds)) : EvD K (tCB (rTupS K) (tCons te tNil)) σ H (.tup ds) := fun H1 e Q q =>
  h H1 e _ fun v H2 e2 a => by
    cases a with
    | lst hs a => exact ⟨_, _, rfl, Or.inl ⟨.inl hs, fun l hl => q _ _ (e2.trans (Ex.new hl)) (.tup (st_of upd_same) (a.ex (Ex.new hl)))⟩⟩
theorem ed_tupleT (h : EvD K te σ H (.tup ds)) : EvD K (tCB (rTupS K) (tCons te tNil)) σ H (.tup ds) := fun H1 e Q q =>
  h H1 e _ fun v H2 e2 a => by
    cases a with
    | tup hs a => exact ⟨_, _, rfl, Or.inr ⟨hs, q _ _ e2 (.tup hs a)⟩⟩
theorem en_list (h : EvD K te σ H (.lst ds)) : EvN K (tCB (rListS K) (tCons te tNil)) σ H ds := fun H1 e Q q =>
  h H1 e _ fun v H2 e2 a => by
    cases a with
    | lst hs a => exact ⟨_, _, rfl, Or.inl (.inl hs), fun l hl => q l _ _ (fresh_back e2 hl) (e2.trans (Ex.new hl)) upd_same (a.ex (Ex.new hl))⟩
theorem en_listT (h : EvD K te σ H (.tup ds)) : EvN K (tCB (rListS K) (tCons te tNil)) σ H ds := fun H1 e Q q =>
  h H1 e _ fun v H2 e2 a => by
    cases a with
    | tup hs a => exact ⟨_, _, rfl, Or.inr hs, fun l hl => q l _ _ (fresh_back e2 hl) (e2.trans (Ex.new hl)) upd_same (a.ex (Ex.new hl))⟩
theorem rd_catT (h1 : ds ≠ []) (hl : ds.length + es.length ≤ 100000) : RD K (rCatT K) (.tup ds) (.tup es) H (.tup (ds ++ es)) := fun v1 v2 H1 _ a1 a2 Q q => by
  cases a1 with
  | tup s1 a1 =>
    cases a2 with
    | tup s2 a2 =>
      refine ⟨_, _, _, _, rfl, rfl, s1, s2, ?_, sz_of (by rw [a1.len, a2.len]; exact hl), ?_, ?_⟩
      · intro z
        subst z
        cases a1
        exact h1 rfl
      · intro z
        subst z
        cases a2
        rw [List.append_nil] at q
        exact q _ H1 (Ex.refl H1) (.tup s1 a1)
      · intro _ p hp
        exact q _ _ (Ex.new hp) (.tup (st_of upd_same) ((a1.ex (Ex.new hp)).app (a2.ex (Ex.new hp))))
theorem ed_catT (ha : EvD K ta σ H (.tup ds)) (hb : EvD K tb σ H (.tup es)) (h1 : ds ≠ []) (hl : ds.length + es.length ≤ 100000) : EvD K (tOp (rCatT K) ta tb) σ H (.tup (ds ++ es)) := ed_op ha hb (rd_catT h1 hl)
/-! ### tests -/
theorem et_t {b : Bool} (h : EvD K te σ H (.bl b)) : EvT (tTest te) σ H b := Evl.et_test (ev_b h)
theorem et_v {b : Bool} (h : EvD K te σ H (.bl b)) : EvT (tB te) σ H b := Evl.et_B (ev_b h)
theorem ed_if {b : Bool} (h : EvT t σ H b) (h1 : b = true → EvD K ta σ H d1) (h2 : b = false → EvD K tb σ H d2) : EvD K (tIf t ta tb) σ H (if b then d1 else d2) := fun H1 e Q q => h H1 e _ fun H2 e2 => by
  cases b with
  | true =>
    show ta σ H2 Q
    exact h1 rfl H2 (e.trans e2) Q fun v H3 e3 a => q v H3 (e2.trans e3) a
  | false =>
    show tb σ H2 Q
    exact h2 rfl H2 (e.trans e2) Q fun v H3 e3 a => q v H3 (e2.trans e3) a
theorem ed_andV {a b : Bool} (h1 : EvD K ta σ H (.bl a)) (h2 : a = true → EvD K tb σ H (.bl b)) : EvD K (tAndV ta tb) σ H (.bl (a && b)) := ed_of (Evl.ev_andV (ev_b h1) fun q => ev_b (h2 q)) (.bl _)
theorem ed_orV {a b : Bool} (h1 : EvD K ta σ H (.bl a)) (h2 : a = false → EvD K tb σ H (.bl b)) : EvD K (tOrV ta tb) σ H (.bl (a || b)) := ed_of (Evl.ev_orV (ev_b h1) fun q => ev_b (h2 q)) (.bl _)
theorem ed_notV {a : Bool} (h1 : EvD K ta σ H (.bl a)) : EvD K (tNotV ta) σ H (.bl (!a)) := ed_of (Evl.ev_notV (ev_b h1)) (.bl _)
def tChainR (r r' : R2) (ta tb tc : TE) : TE := tChain r r' ta tb tc
/-! ### built-ins of ints -/
def rAbs : List V → Hp → VK → Prop := fun xs H Q => ∃ i, xs = [.int i] ∧ Q (.int (if i < 0 then -i else i)) H
theorem ed_abs {i : Int} (h : EvD K te σ H (.int i)) : EvD K (tCB rAbs (tCons te tNil)) σ H (.int (if i < 0 then -i else i)) := fun H1 e Q q => h H1 e _ fun v H2 e2 a => by
  cases a
  exact ⟨i, rfl, q _ H2 e2 (.int _)⟩
def rInt1 : List V → Hp → VK → Prop := fun xs H Q => (∃ i, xs = [.int i] ∧ Q (.int i) H) ∨ ∃ k, xs = [.bl k] ∧ Q (.int (if k then 1 else 0)) H
theorem ed_intI {i : Int} (h : EvD K te σ H (.int i)) : EvD K (tCB rInt1 (tCons te tNil)) σ H (.int i) := fun H1 e Q q => h H1 e _ fun v H2 e2 a => by
  cases a
  exact .inl ⟨i, rfl, q _ H2 e2 (.int _)⟩
theorem ed_intB {b : Bool} (h : EvD K te σ H (.bl b)) : EvD K (tCB rInt1 (tCons te tNil)) σ H (.int (if b then 1 else 0)) := fun H1 e Q q => h H1 e _ fun v H2 e2 a => by
  cases a
  exact .inr ⟨b, rfl, q _ H2 e2 (.int _)⟩
def rMin2 : List V → Hp → VK → Prop := fun xs H Q => ∃ i j, xs = [.int i, .int j] ∧ Q (.int (if j < i then j else i)) H
theorem ed_max2 {i j : Int} (ha : EvD K ta σ H (.int i)) (hb : EvD K tb σ H (.int j)) : EvD K (tCB rMax2 (tCons ta (tCons tb tNil))) σ H (.int (if j > i then j else i)) := ed_of (Evl.ev_max2 (ev_i ha) (ev_i hb)) (.int _)
theorem ed_min2 {i j : Int} (ha : EvD K ta σ H (.int i)) (hb : EvD K tb σ H (.int j)) : EvD K (tCB rMin2 (tCons ta (tCons tb tNil))) σ H (.int (if j < i then j else i)) := fun H1 e Q q =>
  ha H1 e _ fun v H2 e2 a => hb H2 (e.trans e2) _ fun w H3 e3 b => by
    cases a; cases b
    exact ⟨i, j, rfl, q _ H3 (e2.trans e3) (.int _)⟩
theorem ed_gcd {i j : Int} (ha : EvD K ta σ H (.int i)) (hb : EvD K tb σ H (.int j)) : EvD K (tCB rGcd (tCons ta (tCons tb tNil))) σ H (.int ((Nat.gcd i.natAbs j.natAbs : Nat) : Int)) := fun H1 e Q q =>
  ha H1 e _ fun v H2 e2 a => hb H2 (e.trans e2) _ fun w H3 e3 b => by
    cases a; cases b
    exact ⟨i, j, rfl, q _ H3 (e2.trans e3) (.int _)⟩
/-! ### promises -/
def spD (K : PySem.W.Frag) (R : List D → D → Prop) : Sp := fun vs H Q _ => ∃ ds d, All K H vs ds ∧ R ds d ∧ ∀ v H', Ex H H' → Is K H' v d → Q v H'
def spN (K : PySem.W.Frag) (R : List D → List D → Prop) : Sp := fun vs H Q _ => ∃ ds es, All K H vs ds ∧ R ds es ∧ ∀ p xs H', H p = none → Ex H H' → H' p = some (.lst xs) → All K H' xs es → Q (.ref p) H'
theorem ed_call {R : List D → D → Prop} {E : XK} {ta : TA} (h : EvDA K ta σ H ds) (hR : R ds d) : EvD K (tCall (spD K R) [] E ta) σ H d := fun H1 e Q q =>
  h H1 e _ fun vs H2 e2 a => ⟨ds, d, by rw [List.append_nil]; exact a, hR, fun v H3 e3 b => q v H3 (e2.trans e3) b⟩
theorem en_call {R : List D → List D → Prop} {E : XK} {ta : TA} (h : EvDA K ta σ H ds) (hR : R ds es) : EvN K (tCall (spN K R) [] E ta) σ H es := fun H1 e Q q =>
  h H1 e _ fun vs H2 e2 a => ⟨ds, es, by rw [List.append_nil]; exact a, hR, fun p xs H3 hp e3 h3 b => q p xs H3 (fresh_back e2 hp) (e2.trans e3) h3 b⟩
theorem ed_fld {f c : Str} {fs : List (Str × D)} (h : EvD K te σ H (.obj c fs)) (hc : Cls K (He.ga K c)) (hn : NoAttr K (He.ga K c) f) (hl : fs.lookup f = some d) : EvD K (tFld K te f) σ H d := fun H1 e Q q =>
  h H1 e _ fun v H2 e2 a => by
    cases a with
    | obj ho af =>
      obtain ⟨w, h1, h2⟩ := af.look hl
      exact ⟨_, _, _, _, w, rfl, ho, hc, hn, h1, q w H2 e2 h2⟩
theorem AllF.none {f : Str} : ∀ {vs : List (Str × V)} {ds : List (Str × D)}, AllF K H vs ds → ds.lookup f = none → vs.lookup f = none
  | _, _, .nil, _ => rfl
  | _, _, .cons (n := n) h a, e => by
    rw [List.lookup_cons] at e ⊢
    cases q : (f == n) with
    | true =>
      rw [q] at e
      cases e
    | false =>
      rw [q] at e
      exact AllF.none a e
theorem ed_meth {R : List D → D → Prop} {E : XK} {m c : Str} {fs : List (Str × D)} {tr : TA} (h : EvD K te σ H (.obj c fs)) (hl : fs.lookup m = none) (hr : EvDA K tr σ H ds) (hR : R (.obj c fs :: ds) d) :
    EvD K (tMeth (He.ga K c) m (spD K R) [] E te tr) σ H d := fun H1 e Q q =>
  h H1 e _ fun v H2 e2 a => by
    cases a with
    | obj ho af =>
      refine ⟨_, _, _, rfl, ho, AllF.none af hl, hr H2 (e.trans e2) _ fun vs H3 e3 b => ⟨_, _, .cons (.obj (e3 _ _ ho) (af.ex e3)) (by rw [List.append_nil]; exact b), hR, fun v H4 e4 c => q v H4 ((e2.trans e3).trans e4) c⟩⟩
theorem en_meth {R : List D → List D → Prop} {E : XK} {m c : Str} {fs : List (Str × D)} {tr : TA} (h : EvD K te σ H (.obj c fs)) (hl : fs.lookup m = none) (hr : EvDA K tr σ H ds) (hR : R (.obj c fs :: ds) es) :
    EvN K (tMeth (He.ga K c) m (spN K R) [] E te tr) σ H es := fun H1 e Q q =>
  h H1 e _ fun v H2 e2 a => by
    cases a with
    | obj ho af =>
      refine ⟨_, _, _, rfl, ho, AllF.none af hl, hr H2 (e.trans e2) _ fun vs H3 e3 b => ⟨_, _, .cons (.obj (e3 _ _ ho) (af.ex e3)) (by rw [List.append_nil]; exact b), hR, fun p xs H4 hp e4 h4 c => q p xs H4 (fresh_back (e2.trans e3) hp) ((e2.trans e3).trans e4) h4 c⟩⟩
end WD
end
section
set_option Elab.async false
set_option linter.all false
set_option maxRecDepth 100000
namespace WD
open PySem L2 Evl
variable {K : PySem.W.Frag} {σ : L2.St} {H H' : Hp} {ta tb te tx : TE} {t u : TT} {d d1 d2 : D} {ds es : List D} {wi : TI} {g : TG}

/-! ### what changes: the lists at L alone -/
def Mu (L : List Addr) (H H' : Hp) : Prop := (∀ a o, a ∉ L → H a = some o → H' a = some o) ∧ Gt H H'
theorem Mu.refl (L : List Addr) (H : Hp) : Mu L H H := ⟨fun _ _ _ h => h, Gt.refl H⟩
theorem Mu.trans {L : List Addr} {H H1 H2 : Hp} (a : Mu L H H1) (b : Mu L H1 H2) : Mu L H H2 := ⟨fun x o n h => b.1 x o n (a.1 x o n h), a.2.trans b.2⟩
theorem Mu.ex {L : List Addr} (e : Ex H H') : Mu L H H' := ⟨fun a o _ h => e a o h, Gt.of e⟩
theorem Mu.upd {L : List Addr} {l : Addr} {xs : List V} {o : HO} (hl : l ∈ L) (h : H l = some (.lst xs)) : Mu L H (L2.upd H l o) := ⟨fun a u n r => by
  rw [upd_ne (fun z => n (by rw [z]; exact hl))]
  exact r, Gt.lst h⟩
theorem Mu.rd {L : List Addr} {a : Addr} {u : HO} (m : Mu L H H') (h : Rd H a u) (n : a ∉ L) : Rd H' a u := by
  rcases h with h | ⟨o, h⟩
  · exact .inl (m.1 a _ n h)
  · exact .inr ⟨o, m.1 a _ n h⟩
theorem Mu.of_ex {L : List Addr} {H0 : Hp} (e : Ex H0 H) (m : Mu L H H') (n : ∀ l ∈ L, H0 l = none) : Ex H0 H' := fun a o h => m.1 a o (fun z => by
  have := n a z
  rw [this] at h
  cases h) (e a o h)
theorem rd_some {a : Addr} {u : HO} (h : Rd H a u) : ∃ o, H a = some o := by
  rcases h with h | ⟨o, h⟩
  · exact ⟨_, h⟩
  · exact ⟨_, h⟩

/-! ### what is walked -/
structure Walks (K : PySem.W.Frag) (J : It) (H2 : Hp) (L : List Addr) (Ps : Hp → Prop) (n : Nat) (item : Nat → D) : Prop where
  here : Ps H2
  stays : ∀ L' : List Addr, (∀ l ∈ L', l ∈ L ∨ H2 l = none) → ∀ H3 H4, Ps H3 → Mu L' H3 H4 → Ps H4
  go : ∀ H3, Ps H3 → ∀ i, i < n → J.go i H3 ∧ ∀ x H4, J.yld i H3 x H4 → Ex H3 H4 ∧ Is K H4 x (item i)
  stop : ∀ H3, Ps H3 → J.stop n H3
def EvI (K : PySem.W.Frag) (wi : TI) (σ : L2.St) (L : List Addr) (H : Hp) (n : Nat) (item : Nat → D) : Prop := ∀ R : It → Hp → Prop, (∀ J H2 Ps, Ex H H2 → Walks K J H2 L Ps n item → R J H2) → wi σ H R
/-- a list that is read: it is none of those that change -/
def EvS (K : PySem.W.Frag) (te : TE) (σ : L2.St) (L : List Addr) (H : Hp) (ds : List D) : Prop := ∀ H1, Ex H H1 → ∀ Q : VK, (∀ p xs H2, Ex H1 H2 → Rd H2 p (.lst xs) → p ∉ L → All K H2 xs ds → Q (.ref p) H2) → te σ H1 Q
theorem es_d {H0 : Hp} {L : List Addr} (e : Ex H0 H) (hL : ∀ l ∈ L, H0 l = none) (h : EvD K te σ H (.lst ds)) (hv : ∀ H1, Ex H H1 → ∀ Q : VK, (∀ v H2, Ex H1 H2 → Is K H0 v (.lst ds) → Q v H2) → te σ H1 Q) : EvS K te σ L H ds := fun H1 e1 Q q =>
  hv H1 e1 Q fun v H2 e2 a => by
    cases a with
    | lst r a =>
      have e3 := (e.trans e1).trans e2
      obtain ⟨o, ho⟩ := rd_some r
      exact q _ _ H2 e2 (ex_rd e3 r) (fun z => by rw [hL _ z] at ho; cases ho) (a.ex e3)
/-- a name's list, as it stood at H0 -/
theorem es_var {H0 : Hp} {L : List Addr} {i : Nat} {v : V} (h : σ[i]? = some (some v)) (a : Is K H0 v (.lst ds)) (e : Ex H0 H) (hL : ∀ l ∈ L, H0 l = none) : EvS K (tVar i) σ L H ds := fun H1 e1 Q q => ⟨v, h, by
  cases a with
  | lst r a =>
    obtain ⟨o, ho⟩ := rd_some r
    exact q _ _ H1 (Ex.refl H1) (ex_rd (e.trans e1) r) (fun z => by rw [hL _ z] at ho; cases ho) (a.ex (e.trans e1))⟩
theorem es_new {L : List Addr} (h : EvN K te σ H ds) (hL : ∀ l ∈ L, ∃ o, H l = some o) : EvS K te σ L H ds := fun H1 e1 Q q => h H1 e1 Q fun p xs H2 hp e2 h2 a => q p xs H2 e2 (.inl h2) (fun z => by
  obtain ⟨o, ho⟩ := hL p z
  rw [e1 _ _ ho] at hp
  cases hp) a
theorem es_any (h : EvD K te σ H (.lst ds)) : EvS K te σ [] H ds := fun H1 e1 Q q => h H1 e1 Q fun v H2 e2 a => by
  cases a with
  | lst r a => exact q _ _ H2 e2 r (by simp) a
theorem getD_some {ds : List D} {i : Nat} {d : D} (h : ds[i]? = some d) : ds.getD i .non = d := by rw [List.getD_eq_getElem?_getD, h]; rfl
theorem rd_one {a : Addr} {xs ys : List V} (h : Rd H a (.lst xs)) (h2 : Rd H a (.lst ys)) : xs = ys := by
  rcases h with h | ⟨o, h⟩ <;> rcases h2 with h2 | ⟨o2, h2⟩ <;> rw [h] at h2 <;> cases h2 <;> rfl
theorem ei_list {L : List Addr} (h : EvS K te σ L H ds) (hf : D.lfs ds = true) : EvI K (iList K te) σ L H ds.length (fun i => ds.getD i .non) := fun R r =>
  h H (Ex.refl H) _ fun p xs H2 e2 hp hn a => ⟨p, rfl, ⟨xs, .inl hp⟩, r (Itl K p) H2 (fun H3 => Rd H3 p (.lst xs) ∧ All K H3 xs ds) e2 ⟨⟨hp, a⟩, fun L' hL' H3 H4 q m => ⟨m.rd q.1 (fun z => by
      rcases hL' p z with z | z
      · exact hn z
      · obtain ⟨o, ho⟩ := rd_some hp
        rw [z] at ho
        cases ho), q.2.gt m.2 hf⟩, fun H3 q i hi => by
      obtain ⟨d, hd⟩ : ∃ d, ds[i]? = some d := ⟨_, List.getElem?_eq_getElem hi⟩
      obtain ⟨v, hv, hi2⟩ := q.2.get hd
      refine ⟨⟨xs, v, .inl q.1, hv⟩, fun x H4 hy => ?_⟩
      obtain ⟨h1, h2⟩ := (show H4 = H3 ∧ ∀ xs, SqL K H3 p xs → xs[i]? = some x from hy)
      subst h1
      have h3 := h2 xs (.inl q.1)
      rw [hv] at h3
      cases h3
      rw [getD_some hd]
      exact ⟨Ex.refl _, hi2⟩, fun H3 q => ⟨xs, .inl q.1, by rw [q.2.len]; exact Nat.le_refl _⟩⟩⟩
theorem ei_tup {L : List Addr} (h : EvD K te σ H (.tup ds)) (hf : D.lfs ds = true) : EvI K (iTup K te) σ L H ds.length (fun i => ds.getD i .non) := fun R r =>
  h H (Ex.refl H) _ fun v H2 e2 a => by
    cases a with
    | @tup p xs _ hp a =>
      exact ⟨p, rfl, ⟨xs, hp⟩, r (Itt K p) H2 (fun H3 => SqT K H3 p xs ∧ All K H3 xs ds) e2 ⟨⟨hp, a⟩, fun L' hL' H3 H4 q m => ⟨q.1.imp (fun h => m.2 _ _ h) id, q.2.gt m.2 hf⟩, fun H3 q i hi => by
        obtain ⟨d, hd⟩ : ∃ d, ds[i]? = some d := ⟨_, List.getElem?_eq_getElem hi⟩
        obtain ⟨v, hv, hi2⟩ := q.2.get hd
        refine ⟨⟨xs, v, q.1, hv⟩, fun x H4 hy => ?_⟩
        obtain ⟨h1, h2⟩ := (show H4 = H3 ∧ ∀ xs, SqT K H3 p xs → xs[i]? = some x from hy)
        subst h1
        have h3 := h2 xs q.1
        rw [hv] at h3
        cases h3
        rw [getD_some hd]
        exact ⟨Ex.refl _, hi2⟩, fun H3 q => ⟨xs, q.1, by rw [q.2.len]; exact Nat.le_refl _⟩⟩⟩
theorem ei_r1 {L : List Addr} {ta : TA} {n : Int} (h : EvDA K ta σ H [.int n]) (hn : -100000 ≤ n ∧ n ≤ 100000) : EvI K (iRng1 ta) σ L H n.toNat (fun i => .int (i : Int)) := fun R r =>
  h H (Ex.refl H) _ fun vs H2 e2 a => by
    cases a with
    | cons a1 a2 =>
      cases a1
      cases a2
      exact ⟨n, rfl, by omega, by omega, r (Itr 0 n.toNat) H2 (fun _ => True) e2 ⟨trivial, fun _ _ _ _ _ _ => trivial, fun H3 _ i hi => ⟨hi, fun x H4 hy => by
        obtain ⟨h1, h2⟩ := (show H4 = H3 ∧ x = .int (0 + i) from hy)
        subst h1 h2
        rw [Int.zero_add]
        exact ⟨Ex.refl _, .int _⟩⟩, fun H3 _ => Nat.le_refl _⟩⟩
theorem ei_r2 {L : List Addr} {ta : TA} {lo n : Int} (h : EvDA K ta σ H [.int lo, .int n]) (hn : -100000 ≤ lo ∧ lo ≤ 100000 ∧ -100000 ≤ n ∧ n ≤ 100000) : EvI K (iRng2 ta) σ L H (n - lo).toNat (fun i => .int (lo + i)) := fun R r =>
  h H (Ex.refl H) _ fun vs H2 e2 a => by
    cases a with
    | cons a1 a2 =>
      cases a1
      cases a2 with
      | cons a2 a3 =>
        cases a2
        cases a3
        exact ⟨lo, n, rfl, ⟨by omega, by omega, by omega, by omega⟩, r (Itr lo (n - lo).toNat) H2 (fun _ => True) e2 ⟨trivial, fun _ _ _ _ _ _ => trivial, fun H3 _ i hi => ⟨hi, fun x H4 hy => by
          obtain ⟨h1, h2⟩ := (show H4 = H3 ∧ x = .int (lo + i) from hy)
          subst h1 h2
          exact ⟨Ex.refl _, .int _⟩⟩, fun H3 _ => Nat.le_refl _⟩⟩
theorem ei_zip {L : List Addr} {tb : TE} (h : EvS K ta σ L H ds) (h' : ∀ H1, Ex H H1 → EvS K tb σ L H1 es) (hl : es.length ≤ ds.length) (hf : D.lfs ds = true) (hf' : D.lfs es = true) :
    EvI K (iZip K (tCons ta (tCons tb tNil))) σ L H es.length (fun i => .tup [ds.getD i .non, es.getD i .non]) := fun R r =>
  h H (Ex.refl H) _ fun p xs H2 e2 hp hn a => h' H2 e2 H2 (Ex.refl H2) _ fun p' xs' H3 e3 hp' hn' a' => by
    have hp3 := ex_rd e3 hp
    refine ⟨p, p', xs, xs', rfl, .inl hp3, .inl hp', r (Itz K p p') H3 (fun H4 => (Rd H4 p (.lst xs) ∧ All K H4 xs ds) ∧ Rd H4 p' (.lst xs') ∧ All K H4 xs' es) (e2.trans e3) ⟨⟨⟨hp3, a.ex e3⟩, hp', a'⟩, fun L' hL' H4 H5 q m => ⟨⟨m.rd q.1.1 (fun z => ?_), q.1.2.gt m.2 hf⟩, m.rd q.2.1 (fun z => ?_), q.2.2.gt m.2 hf'⟩, fun H4 q i hi => ?_, fun H4 q => ⟨xs, xs', .inl q.1.1, .inl q.2.1, .inr (by rw [q.2.2.len]; exact Nat.le_refl _)⟩⟩⟩
    · rcases hL' p z with z | z
      · exact hn z
      · obtain ⟨o, ho⟩ := rd_some hp3
        rw [z] at ho
        cases ho
    · rcases hL' p' z with z | z
      · exact hn' z
      · obtain ⟨o, ho⟩ := rd_some hp'
        rw [z] at ho
        cases ho
    · obtain ⟨d, hd⟩ : ∃ d, ds[i]? = some d := ⟨_, List.getElem?_eq_getElem (Nat.lt_of_lt_of_le hi hl)⟩
      obtain ⟨d', hd'⟩ : ∃ d, es[i]? = some d := ⟨_, List.getElem?_eq_getElem hi⟩
      obtain ⟨v, hv, b⟩ := q.1.2.get hd
      obtain ⟨v', hv', b'⟩ := q.2.2.get hd'
      refine ⟨⟨xs, xs', v, v', .inl q.1.1, .inl q.2.1, hv, hv'⟩, fun x H5 hy => ?_⟩
      obtain ⟨T, x1, x2, rfl, nT, rfl, f1, f2⟩ := hy
      have g1 := f1 xs (.inl q.1.1)
      have g2 := f2 xs' (.inl q.2.1)
      rw [hv] at g1
      rw [hv'] at g2
      cases g1
      cases g2
      rw [getD_some hd, getD_some hd']
      exact ⟨Ex.new nT, .tup (st_of upd_same) (.cons (b.ex (Ex.new nT)) (.cons (b'.ex (Ex.new nT)) .nil))⟩
theorem ei_enum {L : List Addr} (h : EvS K ta σ L H ds) (hf : D.lfs ds = true) :
    EvI K (iEnum K (tCons ta tNil)) σ L H ds.length (fun i => .tup [.int (i : Int), ds.getD i .non]) := fun R r =>
  h H (Ex.refl H) _ fun p xs H2 e2 hp hn a => ⟨p, xs, rfl, .inl hp, r (Ite K p) H2 (fun H4 => Rd H4 p (.lst xs) ∧ All K H4 xs ds) e2 ⟨⟨hp, a⟩, fun L' hL' H4 H5 q m => ⟨m.rd q.1 (fun z => by
      rcases hL' p z with z | z
      · exact hn z
      · obtain ⟨o, ho⟩ := rd_some hp
        rw [z] at ho
        cases ho), q.2.gt m.2 hf⟩, fun H4 q i hi => by
      obtain ⟨d, hd⟩ : ∃ d, ds[i]? = some d := ⟨_, List.getElem?_eq_getElem hi⟩
      obtain ⟨v, hv, b⟩ := q.2.get hd
      refine ⟨⟨xs, v, .inl q.1, hv⟩, fun x H5 hy => ?_⟩
      obtain ⟨T, x1, rfl, nT, rfl, f1⟩ := hy
      have g1 := f1 xs (.inl q.1)
      rw [hv] at g1
      cases g1
      rw [getD_some hd]
      exact ⟨Ex.new nT, .tup (st_of upd_same) (.cons (.int _) (.cons (b.ex (Ex.new nT)) .nil))⟩, fun H4 q => ⟨xs, .inl q.1, by rw [q.2.len]; exact Nat.le_refl _⟩⟩⟩
/-! ### loops -/
theorem s_for {L : List Addr} {n : Nat} {item : Nat → D} {D : Ends} {tw : TS} (hI : EvI K wi σ L H n item) (Pv : Nat → L2.St → Hp → Prop) (h0 : ∀ H1, Ex H H1 → Pv 0 σ H1)
    (hs : ∀ i x σ' H' H'', i < n → Pv i σ' H' → Ex H' H'' → Is K H'' x (item i) → g x σ' H'' fun σ2 H2 => tw { D with nx := fun σ3 H3 => Pv (i + 1) σ3 H3 ∧ Mu L H' H3, ct := fun σ3 H3 => Pv (i + 1) σ3 H3 ∧ Mu L H' H3, bk := D.nx } σ2 H2)
    (hd : ∀ σ' H', Pv n σ' H' → D.nx σ' H') : tFor wi g tw D σ H := hI _ fun J H2 Ps e2 w => by
  refine ⟨fun i m σ' H' => m = n - i ∧ i ≤ n ∧ Pv i σ' H' ∧ Mu L H2 H', ⟨n, by simp, Nat.zero_le _, h0 H2 e2, Mu.refl L H2⟩, ?_⟩
  rintro i m σ' H' ⟨rfl, hi, p, mu⟩
  have ps : Ps H' := w.stays L (fun l h => .inl h) H2 H' w.here mu
  by_cases hlt : i < n
  · obtain ⟨g1, g2⟩ := w.go H' ps i hlt
    refine .inr ⟨g1, fun σ3 H3 => Pv (i + 1) σ3 H3 ∧ Mu L H' H3, fun σ3 H3 q => ⟨n - (i + 1), by omega, rfl, by omega, q.1, mu.trans q.2⟩, fun x H3 hy => ?_⟩
    obtain ⟨e3, a⟩ := g2 x H3 hy
    exact hs i x σ' H' H3 hlt p e3 a
  · have e : i = n := by omega
    subst e
    exact .inl ⟨w.stop H' ps, hd σ' H' p⟩
/-! ### targets -/
theorem g_name {j : Nat} {x : V} {Q : L2.St → Hp → Prop} (k : Q (σ.set j (some x)) H) : gName j x σ H Q := k
theorem g_two {x : V} {i j : Nat} {Q : L2.St → Hp → Prop} (a : Is K H x (.tup [d1, d2])) (k : ∀ v w, Is K H v d1 → Is K H w d2 → Q ((σ.set i (some v)).set j (some w)) H) : gTup K 2 (gCons (gName i) (gCons (gName j) gNil)) x σ H Q := by
  cases a with
  | tup h a =>
    cases a with
    | cons a1 a =>
      cases a with
      | cons a2 a =>
        cases a
        exact ⟨_, _, rfl, h, rfl, _, _, rfl, _, _, rfl, rfl, k _ _ a1 a2⟩
theorem g_three {x : V} {i j l : Nat} {d3 : D} {Q : L2.St → Hp → Prop} (a : Is K H x (.tup [d1, d2, d3])) (k : ∀ v w z, Is K H v d1 → Is K H w d2 → Is K H z d3 → Q (((σ.set i (some v)).set j (some w)).set l (some z)) H) : gTup K 3 (gCons (gName i) (gCons (gName j) (gCons (gName l) gNil))) x σ H Q := by
  cases a with
  | tup h a =>
    cases a with
    | cons a1 a =>
      cases a with
      | cons a2 a =>
        cases a with
        | cons a3 a =>
          cases a
          exact ⟨_, _, rfl, h, rfl, _, _, rfl, _, _, rfl, _, _, rfl, rfl, k _ _ _ a1 a2 a3⟩
/-! ### comprehensions -/
def gives (n : Nat) (f : Nat → Bool) (v : Nat → D) : List D := ((List.range n).filter f).map v
theorem gives_yes {n : Nat} {f : Nat → Bool} {v : Nat → D} (h : f n = true) : gives (n + 1) f v = gives n f v ++ [v n] := by
  unfold gives
  rw [List.range_succ, List.filter_append, List.map_append, List.filter_cons, if_pos h] <;> rfl
theorem gives_no {n : Nat} {f : Nat → Bool} {v : Nat → D} (h : f n = false) : gives (n + 1) f v = gives n f v := by
  unfold gives
  rw [List.range_succ, List.filter_append, List.map_append, List.filter_cons, if_neg (by rw [h]; decide)]
  show _ ++ [] = _
  rw [List.append_nil]
theorem gives_len (n : Nat) (f : Nat → Bool) (v : Nat → D) : (gives n f v).length ≤ n := by
  unfold gives
  rw [List.length_map]
  have h := List.length_filter_le f (List.range n)
  rw [List.length_range] at h
  exact h
theorem gives_lf {f : Nat → Bool} {v : Nat → D} : ∀ n, (∀ i, i < n → f i = true → (v i).lf = true) → D.lfs (gives n f v) = true
  | 0, _ => rfl
  | n + 1, h => by
    have ih := gives_lf n fun i hi => h i (Nat.lt_succ_of_lt hi)
    cases hf : f n with
    | true =>
      rw [gives_yes hf]
      refine lfs_app ih ?_
      show ((v n).lf && true) = true
      rw [h n (Nat.lt_succ_self n) hf]
      rfl
    | false =>
      rw [gives_no hf]
      exact ih
theorem en_lc {n : Nat} {item : Nat → D} {vs : List Nat} (f : Nat → Bool) (v : Nat → D) (hI : ∀ H1, Ex H H1 → EvI K wi σ [] H1 n item) (hn : n ≤ 50000) (hf : ∀ i, i < n → f i = true → (v i).lf = true)
    (hs : ∀ i x H1, i < n → Ex H H1 → Is K H1 x (item i) → ∀ Q : L2.St → Hp → Prop, (∀ σ2 H2, Ex H1 H2 → wipe σ2 vs = wipe σ vs → EvT t σ2 H2 (f i) → (f i = true → EvD K te σ2 H2 (v i)) → Q σ2 H2) → g x (wipe σ vs) H1 Q) :
    EvN K (tLc wi g t te vs) σ H (gives n f v) := fun H1 e1 Q q => hI H1 e1 _ fun J H2 Ps e2 w Dl hD => by
  refine ⟨fun i m H' => m = n - i ∧ i ≤ n ∧ Mu [Dl] (L2.upd H2 Dl (.lst [])) H' ∧ ∃ acc, H' Dl = some (.lst acc) ∧ All K H' acc (gives i f v), ⟨n, by simp, Nat.zero_le _, Mu.refl _ _, [], upd_same, .nil⟩, ?_⟩
  rintro i m H' ⟨rfl, hi, mu, acc, hacc, aa⟩
  have ps0 : Ps (L2.upd H2 Dl (.lst [])) := w.stays [] (by simp) H2 _ w.here (Mu.ex (Ex.new hD))
  have ps : Ps H' := w.stays [Dl] (fun l h => .inr (by rw [List.mem_singleton.mp h]; exact hD)) _ H' ps0 mu
  have ex2 : Ex H2 H' := Mu.of_ex (Ex.new hD) mu (fun l h => by
    rw [List.mem_singleton.mp h]
    exact hD)
  by_cases hlt : i < n
  · obtain ⟨g1, g2⟩ := w.go H' ps i hlt
    refine .inr ⟨g1, fun H3 => Mu [Dl] (L2.upd H2 Dl (.lst [])) H3 ∧ ∃ acc, H3 Dl = some (.lst acc) ∧ All K H3 acc (gives (i + 1) f v), fun H3 q => ⟨n - (i + 1), by omega, rfl, by omega, q.1, q.2⟩, fun x H3 hy => ?_⟩
    obtain ⟨e3, a⟩ := g2 x H3 hy
    refine hs i x H3 hlt ((e1.trans e2).trans (ex2.trans e3)) a _ fun σ2 H4 e4 hw ht he => ⟨hw, ht H4 (Ex.refl H4) _ fun H5 e5 => ?_⟩
    have lfa : D.lfs (gives i f v) = true := gives_lf i fun j hj => hf j (by omega)
    have e35 := (e3.trans e4).trans e5
    cases hb : f i with
    | true =>
      show te σ2 H5 _
      refine he hb H5 e5 _ fun y H6 e6 ay => ⟨acc, (e35.trans e6) _ _ hacc, sz_lt (by
        rw [aa.len]
        have := gives_len i f v
        omega), (mu.trans (Mu.ex (e35.trans e6))).trans (Mu.upd (List.mem_singleton.mpr rfl) ((e35.trans e6) _ _ hacc)), _, upd_same, ?_⟩
      rw [gives_yes hb]
      have gt : Gt H6 (L2.upd H6 Dl (.lst (acc ++ [y]))) := Gt.lst ((e35.trans e6) _ _ hacc)
      exact ((aa.ex (e35.trans e6)).gt gt lfa).app (All.one (ay.gt gt (hf i hlt hb)))
    | false =>
      show _ ∧ _
      refine ⟨mu.trans (Mu.ex e35), acc, e35 _ _ hacc, ?_⟩
      rw [gives_no hb]
      exact aa.ex e35
  · have e : i = n := by omega
    subst e
    exact .inl ⟨w.stop H' ps, q Dl acc H' (fresh_back e2 hD) (e2.trans ex2) hacc aa⟩
/-- one name as the target -/
theorem en_lc1 {n j : Nat} {item : Nat → D} {vs : List Nat} (f : Nat → Bool) (v : Nat → D) (hI : ∀ H1, Ex H H1 → EvI K wi σ [] H1 n item) (hn : n ≤ 50000) (hf : ∀ i, i < n → f i = true → (v i).lf = true) (hw : ∀ x, wipe ((wipe σ vs).set j (some x)) vs = wipe σ vs)
    (ht : ∀ i x H1, i < n → Ex H H1 → Is K H1 x (item i) → EvT t ((wipe σ vs).set j (some x)) H1 (f i)) (he : ∀ i x H1, i < n → Ex H H1 → Is K H1 x (item i) → f i = true → EvD K te ((wipe σ vs).set j (some x)) H1 (v i)) :
    EvN K (tLc wi (gName j) t te vs) σ H (gives n f v) := en_lc f v hI hn hf fun i x H1 hi e a Q q => q _ H1 (Ex.refl H1) (hw x) (ht i x H1 hi e a) (he i x H1 hi e a)
theorem en_lc2 {n i1 j : Nat} {c1 c2 : Nat → D} {vs : List Nat} (f : Nat → Bool) (v : Nat → D) (hI : ∀ H1, Ex H H1 → EvI K wi σ [] H1 n (fun i => .tup [c1 i, c2 i])) (hn : n ≤ 50000) (hf : ∀ i, i < n → f i = true → (v i).lf = true) (hw : ∀ x y, wipe (((wipe σ vs).set i1 (some x)).set j (some y)) vs = wipe σ vs)
    (ht : ∀ i x y H1, i < n → Ex H H1 → Is K H1 x (c1 i) → Is K H1 y (c2 i) → EvT t (((wipe σ vs).set i1 (some x)).set j (some y)) H1 (f i)) (he : ∀ i x y H1, i < n → Ex H H1 → Is K H1 x (c1 i) → Is K H1 y (c2 i) → f i = true → EvD K te (((wipe σ vs).set i1 (some x)).set j (some y)) H1 (v i)) :
    EvN K (tLc wi (gTup K 2 (gCons (gName i1) (gCons (gName j) gNil))) t te vs) σ H (gives n f v) := en_lc f v hI hn hf fun i x H1 hi e a Q q => g_two a fun y z a1 a2 => q _ H1 (Ex.refl H1) (hw y z) (ht i y z H1 hi e a1 a2) (he i y z H1 hi e a1 a2)
theorem gives_all (n : Nat) (v : Nat → D) : gives n (fun _ => true) v = (List.range n).map v := by
  unfold gives
  rw [List.filter_eq_self.mpr (by simp)]
theorem et_yes : EvT tYes σ H true := fun H1 _ _ q => q H1 (Ex.refl H1)
/-! ### statements -/
section
variable {D : Ends} {tu tz tw : TS}
theorem q_asgD {i : Nat} (h : EvD K te σ H d) (k : ∀ v H1, Ex H H1 → Is K H1 v d → tz D (σ.set i (some v)) H1) : tSeq (tAsg te (gName i)) tz D σ H := h H (Ex.refl H) _ k
theorem s_asgD {i : Nat} (h : EvD K te σ H d) (k : ∀ v H1, Ex H H1 → Is K H1 v d → D.nx (σ.set i (some v)) H1) : tAsg te (gName i) D σ H := h H (Ex.refl H) _ k
theorem q_asgN {i : Nat} (h : EvN K te σ H ds) (k : ∀ p xs H1, H p = none → Ex H H1 → H1 p = some (.lst xs) → All K H1 xs ds → tz D (σ.set i (some (.ref p))) H1) : tSeq (tAsg te (gName i)) tz D σ H := h H (Ex.refl H) _ k
theorem s_retD (h : EvD K te σ H d) (k : ∀ v H1, Ex H H1 → Is K H1 v d → D.rt v H1) : tRet te D σ H := h H (Ex.refl H) _ k
theorem s_retN (h : EvN K te σ H ds) (k : ∀ p xs H1, H p = none → Ex H H1 → H1 p = some (.lst xs) → All K H1 xs ds → D.rt (.ref p) H1) : tRet te D σ H := h H (Ex.refl H) _ k
theorem q_tupD {i j : Nat} (h : EvD K te σ H (.tup [d1, d2])) (k : ∀ v w H1, Ex H H1 → Is K H1 v d1 → Is K H1 w d2 → tz D ((σ.set i (some v)).set j (some w)) H1) : tSeq (tAsg te (gTup K 2 (gCons (gName i) (gCons (gName j) gNil)))) tz D σ H :=
  h H (Ex.refl H) _ fun v H1 e a => g_two a fun x y a1 a2 => k x y H1 e a1 a2
theorem q_tup3D {i j l : Nat} {d3 : WD.D} (h : EvD K te σ H (.tup [d1, d2, d3])) (k : ∀ v w z H1, Ex H H1 → Is K H1 v d1 → Is K H1 w d2 → Is K H1 z d3 → tz D (((σ.set i (some v)).set j (some w)).set l (some z)) H1) : tSeq (tAsg te (gTup K 3 (gCons (gName i) (gCons (gName j) (gCons (gName l) gNil))))) tz D σ H :=
  h H (Ex.refl H) _ fun v H1 e a => g_three a fun x y z a1 a2 a3 => k x y z H1 e a1 a2 a3
theorem q_parD {i j : Nat} (ha : EvD K ta σ H d1) (hb : EvD K tb σ H d2) (k : ∀ v w H1, Ex H H1 → Is K H1 v d1 → Is K H1 w d2 → tz D ((σ.set i (some v)).set j (some w)) H1) : tSeq (tPar i j (tCons ta (tCons tb tNil))) tz D σ H :=
  ha H (Ex.refl H) _ fun v H1 e a => hb H1 e _ fun w H2 e2 b => ⟨v, w, rfl, k v w H2 (e.trans e2) (a.ex e2) b⟩
theorem s_parD {i j : Nat} (ha : EvD K ta σ H d1) (hb : EvD K tb σ H d2) (k : ∀ v w H1, Ex H H1 → Is K H1 v d1 → Is K H1 w d2 → D.nx ((σ.set i (some v)).set j (some w)) H1) : tPar i j (tCons ta (tCons tb tNil)) D σ H :=
  ha H (Ex.refl H) _ fun v H1 e a => hb H1 e _ fun w H2 e2 b => ⟨v, w, rfl, k v w H2 (e.trans e2) (a.ex e2) b⟩
theorem q_appD {l : Addr} {xs : List V} (hl : H l = some (.lst xs)) (ha : Ev ta σ H (.ref l)) (h : EvD K te σ H d) (hz : xs.length < 100000) (k : ∀ v H1, Ex H H1 → Is K H1 v d → tz D σ (upd H1 l (.lst (xs ++ [v])))) :
    tSeq (tDrop (tBM K "list" rAppend ta (tCons te tNil))) tz D σ H := ha H (Ex.refl H) _ fun H1 e1 => ⟨Or.inl ⟨rfl, xs, sq_of (e1 l _ hl)⟩, h H1 e1 _ fun v H2 e2 a => ⟨l, xs, v, rfl, rfl, e2 l _ (e1 l _ hl), sz_lt hz, k v H2 (e1.trans e2) a⟩⟩
theorem s_appD {l : Addr} {xs : List V} (hl : H l = some (.lst xs)) (ha : Ev ta σ H (.ref l)) (h : EvD K te σ H d) (hz : xs.length < 100000) (k : ∀ v H1, Ex H H1 → Is K H1 v d → D.nx σ (upd H1 l (.lst (xs ++ [v])))) :
    tDrop (tBM K "list" rAppend ta (tCons te tNil)) D σ H := ha H (Ex.refl H) _ fun H1 e1 => ⟨Or.inl ⟨rfl, xs, sq_of (e1 l _ hl)⟩, h H1 e1 _ fun v H2 e2 a => ⟨l, xs, v, rfl, rfl, e2 l _ (e1 l _ hl), sz_lt hz, k v H2 (e1.trans e2) a⟩⟩
theorem s_setD {l : Addr} {xs : List V} {i : Int} {j : Nat} (hl : H l = some (.lst xs)) (h : EvD K te σ H d) (ho : Ev ta σ H (.ref l)) (hi : EvD K tb σ H (.int i)) (hj : ixN xs.length i = some j) (k : ∀ v H1, Ex H H1 → Is K H1 v d → D.nx σ (upd H1 l (.lst (xs.set j v)))) :
    tAsg te (gSub ta tb rSetL) D σ H := h H (Ex.refl H) _ fun v H1 e1 a => ho H1 e1 _ fun H2 e2 => hi H2 (e1.trans e2) _ fun w H3 e3 b => by
  cases b
  exact ⟨l, xs, i, j, rfl, rfl, ((e1.trans e2).trans e3) l _ hl, hj, k v H3 ((e1.trans e2).trans e3) (a.ex (e2.trans e3))⟩
theorem q_setD {l : Addr} {xs : List V} {i : Int} {j : Nat} (hl : H l = some (.lst xs)) (h : EvD K te σ H d) (ho : Ev ta σ H (.ref l)) (hi : EvD K tb σ H (.int i)) (hj : ixN xs.length i = some j) (k : ∀ v H1, Ex H H1 → Is K H1 v d → tz D σ (upd H1 l (.lst (xs.set j v)))) :
    tSeq (tAsg te (gSub ta tb rSetL)) tz D σ H := s_setD (D := { D with nx := tz D }) hl h ho hi hj k
theorem q_for {L : List Addr} {n : Nat} {item : Nat → WD.D} (hI : EvI K wi σ L H n item) (Pv : Nat → L2.St → Hp → Prop) (h0 : ∀ H1, Ex H H1 → Pv 0 σ H1)
    (hs : ∀ i x σ' H' H'', i < n → Pv i σ' H' → Ex H' H'' → Is K H'' x (item i) → g x σ' H'' fun σ2 H2 => tw { D with nx := fun σ3 H3 => Pv (i + 1) σ3 H3 ∧ Mu L H' H3, ct := fun σ3 H3 => Pv (i + 1) σ3 H3 ∧ Mu L H' H3, bk := tz D } σ2 H2)
    (hd : ∀ σ' H', Pv n σ' H' → tz D σ' H') : tSeq (tFor wi g tw) tz D σ H := s_for (D := { D with nx := tz D }) hI Pv h0 hs hd
end
end WD
end
section
set_option Elab.async false
set_option linter.all false
set_option maxRecDepth 100000
namespace L2
open PySem PySem.Spec PyProof.Rows
section
variable {X : Cx} {n : Nat}
/-- a def of one's own called by the machine (a special method) -/
theorem own_call {CX : CXT} {f : Addr} {fd : FuncData} {ps : List Str} {sp : Sp} {E : XK} {A : Around} (sb : Sub X n A) (F : FnOk X.prog X.w X.K X.mg X.base CX n f fd ps sp) (hb : Binds X.K fd ps []) (hx : Passes CX X E)
    {pins : List (Addr × Obj)} {s : Shared} {σ : St} {H : Hp} {vs : List V} {us : List Value} {Q : VK} (I : Inv X pins σ H s) (rv : Vals vs us) (hsp : sp vs H Q E) :
    wpAny (model X.prog X.w) A (call (.ref f) us) (EP X pins σ Q) X.xe s := by
  have e0 : Env0 X.prog X.w X.K X.mg X.base A X.stack s H := by
    have e := I.env0
    exact ⟨by rw [sb.fr]; exact e.frames, e.mod, e.bs, e.bsz, e.funs, e.frf, e.hok, e.bare⟩
  have hl := F.len _ _ _ _ hsp
  have hlu : us.length = ps.length := by rw [← rv.length]; exact hl
  refine wpAny_call (codeAny_mono (F.run A X.stack s H ⟨us, []⟩ us vs _ E sb.room e0 (by
    have := hb s us I.kIn (by simpa using hlu)
    simpa using this) rv hsp) fun r s' hq => ?_)
  cases r with
  | error e => exact hx pins σ H s e s' I hq
  | ok fl =>
    cases fl with
    | ret w => exact I.after hq
    | next => exact False.elim hq
    | brk => exact False.elim hq
    | cont => exact False.elim hq
/-- len(o), o an instance with a __len__ of the text -/
def rLenO (C : Addr) (sp : Sp) (E : XK) : List V → Hp → VK → Prop := fun xs H Q => ∃ a dx fs, xs = [.ref a] ∧ H a = some (.ins C dx fs) ∧ sp [.ref a] H (fun v H' => ∃ i : Int, v = .int i ∧ (0 ≤ i ∧ i < 2 ^ 63) ∧ Q (.int i) H') E
theorem call_lenO {CX : CXT} {C f : Addr} {fd : FuncData} {ps : List Str} {sp : Sp} {E : XK} (F : FnOk X.prog X.w X.K X.mg X.base CX n f fd ps sp) (hs : PySem.W.findIn X.K (.ref C) "__len__" = some (some (.ref f))) (hf : PySem.W.isFn X.K (.ref f) = true)
    (hb : Binds X.K fd ps []) (hx : Passes CX X E) (hr : Room (n + 1) X.A) : CallR X (.builtin "len") (rLenO C sp E) := by
  intro pins s σ H xs us Q I r h
  obtain ⟨a, dx, fs, rfl, ha, hsp⟩ := h
  obtain ⟨u, rfl, ru⟩ := vals1 r
  cases ru
  obtain ⟨mA, J, _⟩ := ins_get I.hok ha
  obtain ⟨od, J, _⟩ := J.look
  obtain ⟨m, hF⟩ := I.fr
  refine PySem.W.len_K hF I.ok.mod.kin J hs hf ?_
  refine wpAny_mono (own_call (A := X.A.in1) (Sub.in1 ⟨hr, rfl⟩) F hb hx I (.cons (show RelV (.ref a) (.ref a) from rfl) .nil) hsp) (fun v s' z => ?_) fun _ _ x => x
  obtain ⟨w, H', I', rw', i, rfl, hi, q⟩ := z
  obtain ⟨t, rfl⟩ := rw'
  exact ⟨hi, .int i, H', I'.tok _, ⟨_, rfl⟩, q⟩
/-- x in o, o an instance with a __contains__ of the text that gives True or False -/
def rInO (C : Addr) (sp : Sp) (E : XK) (neg : Bool) : R2 := fun x y H Q => ∃ a dx fs, y = .ref a ∧ H a = some (.ins C dx fs) ∧ sp [.ref a, x] H (fun v H' => ∃ b : Bool, v = .bl b ∧ Q (.bl (if neg then !b else b)) H') E
theorem op_inO {CX : CXT} {C f : Addr} {fd : FuncData} {ps : List Str} {sp : Sp} {E : XK} (F : FnOk X.prog X.w X.K X.mg X.base CX n f fd ps sp) (hs : PySem.W.findIn X.K (.ref C) "__contains__" = some (some (.ref f))) (hf : PySem.W.isFn X.K (.ref f) = true)
    (hb : Binds X.K fd ps []) (hx : Passes CX X E) (hr : Room n X.A) : OpR X (compareOp .In) (rInO C sp E false) := by
  intro pins s σ H x y v u Q I rx ry h
  obtain ⟨a, dx, fs, rfl, ha, hsp⟩ := h
  cases ry
  obtain ⟨mA, J, _⟩ := ins_get I.hok ha
  obtain ⟨od, J, _⟩ := J.look
  obtain ⟨m, hF⟩ := I.fr
  refine PySem.W.in_K hF I.ok.mod.kin J hs hf ?_
  refine wpAny_mono (own_call (A := X.A) ⟨hr, rfl⟩ F hb hx I (.cons (show RelV (.ref a) (.ref a) from rfl) (.cons rx .nil)) hsp) (fun v s' z => ?_) fun _ _ x => x
  obtain ⟨w, H', I', rw', b, rfl, q⟩ := z
  cases rw'
  exact wpAny_truthy_bool ⟨.bl b, H', I', rfl, q⟩
theorem op_notInO {CX : CXT} {C f : Addr} {fd : FuncData} {ps : List Str} {sp : Sp} {E : XK} (F : FnOk X.prog X.w X.K X.mg X.base CX n f fd ps sp) (hs : PySem.W.findIn X.K (.ref C) "__contains__" = some (some (.ref f))) (hf : PySem.W.isFn X.K (.ref f) = true)
    (hb : Binds X.K fd ps []) (hx : Passes CX X E) (hr : Room n X.A) : OpR X (compareOp .NotIn) (rInO C sp E true) := by
  intro pins s σ H x y v u Q I rx ry h
  obtain ⟨a, dx, fs, rfl, ha, hsp⟩ := h
  cases ry
  obtain ⟨mA, J, _⟩ := ins_get I.hok ha
  obtain ⟨od, J, _⟩ := J.look
  obtain ⟨m, hF⟩ := I.fr
  refine PySem.W.notIn_K hF I.ok.mod.kin J hs hf ?_
  refine wpAny_mono (own_call (A := X.A) ⟨hr, rfl⟩ F hb hx I (.cons (show RelV (.ref a) (.ref a) from rfl) (.cons rx .nil)) hsp) (fun v s' z => ?_) fun _ _ x => x
  obtain ⟨w, H', I', rw', b, rfl, q⟩ := z
  cases rw'
  exact wpAny_truthy_bool ⟨.bl (!b), H', I', rfl, q⟩
/-- the truth of an instance with a __bool__ of the text -/
def tTruO (C : Addr) (sp : Sp) (E : XK) (ta : TE) : TT := fun σ H Q => ta σ H fun x H1 => ∃ a dx fs, x = .ref a ∧ H1 a = some (.ins C dx fs) ∧ sp [.ref a] H1 (fun v H' => ∃ b : Bool, v = .bl b ∧ Q b H') E
theorem pt_truO {CX : CXT} {C f : Addr} {fd : FuncData} {ps : List Str} {sp : Sp} {E : XK} {e : Expr} {ta : TE} (F : FnOk X.prog X.w X.K X.mg X.base CX n f fd ps sp) (hs : PySem.W.findIn X.K (.ref C) "__bool__" = some (some (.ref f))) (hf : PySem.W.isFn X.K (.ref f) = true)
    (hb : Binds X.K fd ps []) (hx : Passes CX X E) (hr : Room n X.A) (ha : PE X e ta) (he : ∀ whole, isTrue e X.env whole = (do let v ← whole; standAt e.pos; holding [v] (truthy v))) : PT X e (tTruO C sp E ta) := by
  refine ⟨fun pins s σ H Q I h => ?_⟩
  refine isTrue_plain (thn (ha.run pins s σ H _ I h) fun v s1 ⟨x, H1, I1, r1, q1⟩ => ?_) (he _)
  obtain ⟨a, dx, fs, rfl, hi, hsp⟩ := q1
  cases r1
  obtain ⟨mA, J, _⟩ := ins_get I1.hok hi
  obtain ⟨od, J, _⟩ := J.look
  obtain ⟨m, hF⟩ := I1.fr
  refine PySem.W.truthy_K hF I1.ok.mod.kin J hs hf ?_
  refine wpAny_mono (own_call (A := X.A) ⟨hr, rfl⟩ F hb hx I1 (.cons (show RelV (.ref a) (.ref a) from rfl) .nil) hsp) (fun v s' z => ?_) fun _ _ x => x
  obtain ⟨w, H', I', rw', b, rfl, q⟩ := z
  cases rw'
  exact ⟨H', I', q⟩
/-- x == y, x an instance with an __eq__ of the text that gives True or False, y of a class that is told -/
def rEqO (K : PySem.W.Frag) (C : Addr) (sp : Sp) (E : XK) : R2 := fun x y H Q => ∃ a b dx dy fs gs, x = .ref a ∧ y = .ref b ∧ H a = some (.ins C dx fs) ∧ H b = some (.ins C dy gs) ∧ sp [.ref a, .ref b] H (fun v H' => ∃ k : Bool, v = .bl k ∧ Q (.bl k) H') E
theorem op_eqO {CX : CXT} {C f : Addr} {fd : FuncData} {ps : List Str} {sp : Sp} {E : XK} (F : FnOk X.prog X.w X.K X.mg X.base CX n f fd ps sp) (hs : PySem.W.findIn X.K (.ref C) "__eq__" = some (some (.ref f))) (hf : PySem.W.isFn X.K (.ref f) = true)
    (hb : Binds X.K fd ps []) (hx : Passes CX X E) (hr : Room n X.A) : OpR X (compareOp .Eq) (rEqO X.K C sp E) := by
  intro pins s σ H x y v u Q I rx ry h
  obtain ⟨a, b, dx, dy, fs, gs, rfl, rfl, ha, hb', hsp⟩ := h
  cases rx
  cases ry
  obtain ⟨mA, J, _⟩ := ins_get I.hok ha
  obtain ⟨mB, J', _⟩ := ins_get I.hok hb'
  obtain ⟨od, J, _⟩ := J.look
  obtain ⟨od', J', _⟩ := J'.look
  obtain ⟨m, hF⟩ := I.fr
  show wpAny (model X.prog X.w) X.A (richCompare .Eq _ _) (EP X pins σ Q) X.xe s
  refine PySem.W.cmp_K (op := .Eq) (tb := .ref C) hr.units0 hF I.ok.mod.kin J J'.type (by simp [PySem.W.notFirst]) hs hf ?_
  refine wpAny_mono (own_call (A := X.A) ⟨hr, rfl⟩ F hb hx I (.cons (show RelV (.ref a) (.ref a) from rfl) (.cons (show RelV (.ref b) (.ref b) from rfl) .nil)) hsp) (fun v s' z => ?_) fun _ _ x => x
  obtain ⟨w, H', I', rw', b, rfl, q⟩ := z
  cases rw'
  exact ⟨.bl b, H', I', rfl, q⟩
/-- xs[i], read for xs[i] op= e -/
theorem get_list : PGet X (rIxL X.K) := by
  intro pins s σ H o i ov iv Q I ro ri h
  obtain ⟨p, xs, k, z, rfl, rfl, hq, he, q⟩ := h
  cases ro
  obtain ⟨t, rfl⟩ := ri
  obtain ⟨its, r, pl, hz⟩ := I.list hq
  obtain ⟨j, h1, h2, h3, h4, h5⟩ := atI_get he
  obtain ⟨w, ew, rw'⟩ := r.get h2
  have hl := r.length
  have hn := line63
  have fin : EP X pins σ Q w s := ⟨z, H, I, rw', q⟩
  by_cases h0 : 0 ≤ k
  · have hj : k.toNat = j := by
      rw [seqIndex_of h0 h5] at h1
      exact Option.some.inj h1
    exact wpAny_getItem_list pl.isList h0 (by omega) (by rw [hj]; simpa using ew) fin
  · have hj : (k + (its.toArray.size : Int)).toNat = j := by
      rw [seqIndex_neg (by omega) h4] at h1
      rw [List.size_toArray, ← hl]
      exact Option.some.inj h1
    exact wpAny_getItem_list_neg pl.isList (by omega) (by rw [List.size_toArray] <;> omega) (by omega) (by rw [hj]; simpa using ew) fin
end
end L2
end
section
set_option Elab.async false
set_option linter.all false
set_option maxRecDepth 100000
namespace PySem.W
open PySem PySem.Calls PyProof.Rows Builtin
section
variable {prog : Program} {w : World} {A : Around} {E : Value → Shared → Prop} {s : Shared} {K : Frag} {x C L f : Addr} {h₀ : Heap} {m : Str → Option Value} {ox : Obj} {od : Option Obj} {name : Str} {b tb : Value}
theorem my_ifBound {M : Model} {id : String} {args : List Value} {Q : Option Value → Shared → Prop} (X : K.In s.heap) (I : InstAt s.heap x ox C od) (hs : findIn K (.ref C) name = some (some (.builtin id))) (hb : ∀ self, bindSpecial (.builtin id) self = pure (.builtin id, [self]))
    (h : wpAny M A (call (.builtin id) (.ref x :: args)) (fun v => Q (some v)) E s) : wpAny M A (callSpecialIfBound? (.ref x) name args) Q E s := by
  simp only [callSpecialIfBound?, bindSpecialIfBound?]
  refine wpAny_holding (wpAny_bind (wpAny_bind (wpAny_bind (I.type.here ((looks_findIn X hs).here ?_)))))
  refine wpAny_bind (wpAny_askSetting (wpAny_ite ?_))
  have fin : wpAny M A (call (.builtin id) ([.ref x] ++ args) >>= fun v => pure (some v)) Q E s := wpAny_bind (wpAny_mono h (fun v s' h' => wpAny_pure h') fun _ _ h' => h')
  split
  · exact wpAny_bind ((Looks.of_pure (hb _)).here (wpAny_pure (by exact fin)))
  · exact wpAny_tryCatch (wpAny_bind ((Looks.of_pure (hb _)).here (wpAny_pure (by exact fin))))
theorem my_ne {Q : Value → Shared → Prop} (hu : A.units + 1 < cLine) (F : Fr h₀ L s.heap m) (X₀ : K.In h₀) (I : InstAt s.heap x ox C od) (hb : Looks (model prog w) s.heap (typeOf b) (.ref C))
    (hn : findIn K (.ref C) "__ne__" = some (some (.builtin "object.__ne__"))) (hm : mroIn K C (.type "object") = some true) (hs : findIn K (.ref C) "__eq__" = some (some (.ref f))) (hf : isFn K (.ref f) = true)
    (h : wpAny (model prog w) A.in1 (call (.ref f) [.ref x, b]) (fun v s' => ∃ k, v = .bool k ∧ Q (.bool (!k)) s') E s) : wpAny (model prog w) A (compareOp .NotEq (.ref x) b) Q E s := by
  have X := X₀.keeps F.keep
  have one : wpAny (model prog w) A (tryCompare (.ref x) "__ne__" b) (fun r s' => ∃ v, r = some v ∧ Q v s') E s := by
    unfold tryCompare
    refine wpAny_bind (my_ifBound X I hn PySem.F.slot_tuple_iterator_ne.bind (wpAny_call (codeAny_call_builtin PySem.F.slot_tuple_iterator_ne.plain PySem.F.cmpEntry_ne (check_slot (i := "object.__ne__") (owner := "object") (n := "__ne__") PySem.F.cmpKind_ne PySem.F.cmpSplit_ne (I.type.andThen (looks_mroIn X hm)) (PySem.F.cmpArgs_ne _ _) ?_))))
    unfold Builtin.«object.__ne__»
    refine wpAny_bind (m := slotArgs "__ne__" 1 _) (wpAny_pure ?_)
    refine wpAny_bind (m := cRoomFor _ _) (wpAny_cRoomFor (A := A.in1) hu ?_)
    refine wpAny_bind (m := callSpecialIfBound? (.ref x) (Str.ofString "__eq__") _) (ifBound_K X I hs hf (wpAny_mono h (fun r s' hq => ?_) fun _ _ y => y))
    obtain ⟨k, rfl, q⟩ := hq
    refine wpAny_bind (wpAny_truthy_bool (wpAny_pure ?_))
    exact wpAny_pure ⟨_, rfl, q⟩
  show wpAny (model prog w) A (richCompare .NotEq (.ref x) b) Q E s
  unfold richCompare
  simp only [oneThing_ref]
  refine wpAny_holding (wpAny_bind (wpAny_cRoomFor (by omega) ?_))
  refine wpAny_bind (I.type.here (wpAny_bind (hb.here ?_)))
  rw [show (Value.ref C != Value.ref C) = false from by simp]
  simp only [Bool.false_eq_true, if_false]
  refine wpAny_bind (wpAny_pure ?_)
  simp only [Bool.false_eq_true, if_false]
  refine wpAny_bind (wpAny_mono one (fun r s' z => ?_) fun _ _ e => e)
  obtain ⟨v, rfl, hq⟩ := z
  exact wpAny_pure hq
end
end PySem.W
namespace L2
open PySem PySem.Spec PyProof.Rows
section
variable {X : Cx} {n : Nat}
/-- x != y by an __eq__ of the text -/
def rNeO (K : PySem.W.Frag) (C : Addr) (sp : Sp) (E : XK) : R2 := fun x y H Q => ∃ a b dx dy fs gs, x = .ref a ∧ y = .ref b ∧ H a = some (.ins C dx fs) ∧ H b = some (.ins C dy gs) ∧ sp [.ref a, .ref b] H (fun v H' => ∃ k : Bool, v = .bl k ∧ Q (.bl (!k)) H') E
theorem op_neO {CX : CXT} {C f : Addr} {fd : FuncData} {ps : List Str} {sp : Sp} {E : XK} (F : FnOk X.prog X.w X.K X.mg X.base CX n f fd ps sp) (hs : PySem.W.findIn X.K (.ref C) "__eq__" = some (some (.ref f))) (hf : PySem.W.isFn X.K (.ref f) = true)
    (hn : PySem.W.findIn X.K (.ref C) "__ne__" = some (some (.builtin "object.__ne__"))) (hm : PySem.W.mroIn X.K C (.type "object") = some true)
    (hb : Binds X.K fd ps []) (hx : Passes CX X E) (hr : Room (n + 1) X.A) : OpR X (compareOp .NotEq) (rNeO X.K C sp E) := by
  intro pins s σ H x y v u Q I rx ry h
  obtain ⟨a, b, dx, dy, fs, gs, rfl, rfl, ha, hb', hsp⟩ := h
  cases rx
  cases ry
  obtain ⟨mA, J, _⟩ := ins_get I.hok ha
  obtain ⟨mB, J', _⟩ := ins_get I.hok hb'
  obtain ⟨od, J, _⟩ := J.look
  obtain ⟨od', J', _⟩ := J'.look
  obtain ⟨m, hF⟩ := I.fr
  have hu : X.A.units + 1 < cLine := by
    have := hr.units
    omega
  refine PySem.W.my_ne hu hF I.ok.mod.kin J J'.type hn hm hs hf ?_
  refine wpAny_mono (own_call (A := X.A.in1) (Sub.in1 ⟨hr, rfl⟩) F hb hx I (.cons (show RelV (.ref a) (.ref a) from rfl) (.cons (show RelV (.ref b) (.ref b) from rfl) .nil)) hsp) (fun v s' z => ?_) fun _ _ x => x
  obtain ⟨w, H', I', rw', k, rfl, q⟩ := z
  cases rw'
  exact ⟨k, rfl, .bl (!k), H', I', rfl, q⟩
end
end L2
end
section
set_option Elab.async false
set_option linter.all false
set_option maxRecDepth 100000
namespace WD
open PySem PySem.Spec PyProof.Rows L2 Evl
/-! ### a def of the text by its promise -/
structure FnG (P : Program) (w : World) (K : PySem.W.Frag) (mg : Str → Option Value) (base : Heap) (k : Nat) (f : Addr) (ps : List Str) (sp : Sp) : Prop where
  ex : ∃ fd, FnOk P w K mg base (L2.CX P w) k f fd ps sp ∧ Binds K fd ps []
  kp : PySem.W.keepIn K (.ref f) = true
section
variable {X : Cx} {k : Nat} {f : Addr} {ps : List Str} {sp : Sp} {x : Str} {p pos apos : Pos} {e o : Expr} {es : List Expr} {t : TA} {ta : TE} {C : Addr} {m : Str}
theorem pe_callG (F : FnG X.prog X.w X.K X.mg X.base k f ps sp) (hr : Room k X.A) (hg : Gl X x) (hm : X.mg x = some (.ref f)) (ha : PA X (e :: es) t)
    (hdb : (x == ("__debug__" : Str)) = false := by decide) (hst : starEach (e :: es) X.env = (false, eval e X.env) :: starEach es X.env := by rfl) (hpl : (backTo pos (starEach es X.env)).any (·.1) = false := by rfl) :
    PE X (.Call (.Name x p) (e :: es) [] pos) (tCall sp [] E0 t) := by
  obtain ⟨⟨fd, F, B⟩, kp⟩ := F
  exact pe_call F hr hg hm kp B .nil passL ha (hdb := hdb) (he := hst) (hpl := hpl)
theorem pe_callG0 (F : FnG X.prog X.w X.K X.mg X.base k f ps sp) (hr : Room k X.A) (hg : Gl X x) (hm : X.mg x = some (.ref f)) (hdb : (x == ("__debug__" : Str)) = false := by decide) : PE X (.Call (.Name x p) [] [] pos) (tCall sp [] E0 tNil) := by
  obtain ⟨⟨fd, F, B⟩, kp⟩ := F
  exact pe_call0 F hr hg hm kp B .nil passL (hdb := hdb)
theorem pe_methG {pl : Sem Bool} (he : PE X o ta) (c : Cls X.K C) (hm : Meth X.K C m f) (F : FnG X.prog X.w X.K X.mg X.base k f ps sp) (hr : Room k X.A) (ha : PA X (e :: es) t)
    (hst : starEach (e :: es) X.env = (false, eval e X.env) :: starEach es X.env := by rfl) (hpl : (backTo pos (starEach es X.env)).any (·.1) = false := by rfl)
    (ht : eval (.Call (.Attribute o m apos) (e :: es) [] pos) X.env = (do
      let ov ← eval o X.env
      standAt apos.atName
      let (f, first) ← holding [ov] (getMethod ov m pl)
      callWith pos f first (backTo pos (starEach (e :: es) X.env)) (backToKw pos (keywordEach [] X.env))) := by rfl) :
    PE X (.Call (.Attribute o m apos) (e :: es) [] pos) (tMeth C m sp [] E0 ta t) := by
  obtain ⟨⟨fd, F, B⟩, kp⟩ := F
  exact pe_meth he c hm F hr B .nil passL ha hst hpl ht
theorem pe_methG0 {pl : Sem Bool} (he : PE X o ta) (c : Cls X.K C) (hm : Meth X.K C m f) (F : FnG X.prog X.w X.K X.mg X.base k f ps sp) (hr : Room k X.A)
    (ht : eval (.Call (.Attribute o m apos) [] [] pos) X.env = (do
      let ov ← eval o X.env
      standAt apos.atName
      let (f, first) ← holding [ov] (getMethod ov m pl)
      callWith pos f first (backTo pos (starEach [] X.env)) (backToKw pos (keywordEach [] X.env))) := by rfl) :
    PE X (.Call (.Attribute o m apos) [] [] pos) (tMeth C m sp [] E0 ta tNil) := by
  obtain ⟨⟨fd, F, B⟩, kp⟩ := F
  exact pe_meth0 he c hm F hr B .nil passL ht
theorem pe_makeG (M : Mk X.K C f) (F : FnG X.prog X.w X.K X.mg X.base k f ps sp) (hr : Room (k + 1) X.A) (hg : Gl X x) (hm : X.mg x = some (.ref C)) (ha : PA X (e :: es) t)
    (hdb : (x == ("__debug__" : Str)) = false := by decide) (hst : starEach (e :: es) X.env = (false, eval e X.env) :: starEach es X.env := by rfl) (hpl : (backTo pos (starEach es X.env)).any (·.1) = false := by rfl) :
    PE X (.Call (.Name x p) (e :: es) [] pos) (tMake C sp [] E0 t) := by
  obtain ⟨⟨fd, F, B⟩, kp⟩ := F
  exact pe_make M F hr hg hm B .nil passL ha (hdb := hdb) (he := hst) (hpl := hpl)
theorem pe_globI {i : Int} (hg : Gl X x) (hm : ∃ t, X.mg x = some (.int i t)) (hd : (x == ("__debug__" : Str)) = false := by decide) : PE X (.Name x pos) (tC (.int i)) := by
  obtain ⟨t, hm⟩ := hm
  exact pe_glob hg hm ⟨_, rfl⟩ hd
theorem pe_tyN {n : String} (hg : Gl X x) (hm : X.mg x = none) (hv : bootBuiltins x = some (.type n)) (hn : x ≠ "__name__" := by decide) (hd : (x == ("__debug__" : Str)) = false := by decide) : PE X (.Name x pos) (tC (.ty n)) := pe_bltn hg hm hv rfl hn hd
theorem pe_clsN (hg : Gl X x) (hm : X.mg x = some (.ref C)) (hd : (x == ("__debug__" : Str)) = false := by decide) : PE X (.Name x pos) (tC (.ref C)) := pe_glob hg hm rfl hd
end
section
variable {P : Program} {w : World} {K : PySem.W.Frag} {mg : Str → Option Value} {base : Heap}
/-- a def of no defaults, its body's reading -/
theorem fnG {x qual : Str} {st : Stmt} {f : Addr} {N ps : List Str} {k : Nat} {sp : Sp} (F : ∃ fd, FunD K x qual (defArgs st) (defBody st) (defScope st) [] [] f fd) (S : FnScope N ps (defScope st)) (len : ∀ vs H Q E, sp vs H Q E → vs.length = ps.length)
    (hb : ∀ (kV doc pm : Value) (an : Option Addr) (cdv ct : Value) (us : List Value), us.length = ps.length → bindArgs (PySem.W.fnOf x qual (defArgs st) (defBody st) (defScope st) .none kV doc pm an cdv ct) ⟨us, []⟩ = pure (ps.zip us))
    (hbody : ∀ (cdv : Value) (A : Around) (outer : List Env) (s : Shared) (H : Hp) (vs : List V) (Q : VK) (E : XK), Room k (A.deeper (envOfC qual (defScope st) s.heap.objs.size f cdv)) → sp vs H Q E →
      ∃ t, PSs (cxOf (L2.CX P w) P w K mg base N qual (defScope st) f cdv A outer s H E).nox (defBody st) t ∧ t { nx := fun _ H' => Q .non H', rt := Q } (start N vs) H) : FnG P w K mg base (k + 1) f ps sp := by
  obtain ⟨fd, F⟩ := F
  exact ⟨⟨fd, F.ok S len (fun cdv A outer s H vs Q E hr h => let ⟨t, h1, h2⟩ := hbody cdv A outer s H vs Q E hr h; ⟨t, h1.nox, h2⟩), F.bindsN hb⟩, F.kp⟩
end
/-! ### types -/
def D.ty : D → Option String
  | .non => some "NoneType" | .bl _ => some "bool" | .int _ => some "int" | .str _ => some "str" | .tup _ => some "tuple" | .lst _ => some "list" | .obj _ _ => none
variable {K : PySem.W.Frag} {σ : L2.St} {H H' : Hp} {ta tb te tx : TE} {t u : TT} {d d1 d2 : D} {ds es : List D}
theorem sqT_ty {a : Addr} {xs : List V} (h : SqT K H a xs) : TyX K H (.ref a) (.type "tuple") := by
  rcases h with (h | ⟨o, h⟩) | h
  · exact .base (.tup h)
  · exact .fTuple h
  · obtain ⟨o, its, n, h1, h2, h3, _⟩ := h
    exact .kTuple h1 h2
theorem rdL_ty {a : Addr} {xs : List V} (h : Rd H a (.lst xs)) : TyX K H (.ref a) (.type "list") := by
  rcases h with h | ⟨o, h⟩
  · exact .base (.lst h)
  · exact .base (.frz h)
end WD
end
section
set_option Elab.async false
set_option linter.all false
set_option maxRecDepth 100000
namespace WD
/-! ### fractions as pairs without a common divisor -/
def fr (q : Rat) : D := .tup [.int q.num, .int (q.den : Int)]
theorem fr_lf (q : Rat) : (fr q).lf = true := rfl
theorem mkRat_pair {n : Int} {d : Nat} (hd : d ≠ 0) : (n / ((Nat.gcd n.natAbs d : Nat) : Int) = (mkRat n d).num) ∧ ((d : Int) / ((Nat.gcd n.natAbs d : Nat) : Int) = ((mkRat n d).den : Int)) := by
  rw [Rat.mkRat_def, dif_neg hd, Rat.num_normalize, Rat.den_normalize]
  exact ⟨rfl, (Int.natCast_ediv _ _).symm⟩
theorem add_pair (a b : Rat) : let g := Nat.gcd a.den b.den
    let top := a.num * ((b.den : Int) / (g : Int)) + b.num * ((a.den : Int) / (g : Int))
    let r := Nat.gcd top.natAbs g
    top / (r : Int) = (a + b).num ∧ (a.den : Int) / (g : Int) * ((b.den : Int) / (r : Int)) = ((a + b).den : Int) := by
  intro g top r
  have hg : g ≠ 0 := Nat.ne_of_gt (Nat.gcd_pos_of_pos_left _ a.den_pos)
  have e : a + b = Rat.add a b := rfl
  have e1 : top = a.num * ((b.den / g : Nat) : Int) + b.num * ((a.den / g : Nat) : Int) := by
    show a.num * ((b.den : Int) / (g : Int)) + b.num * ((a.den : Int) / (g : Int)) = _
    rw [Int.natCast_ediv, Int.natCast_ediv]
  rw [e]
  unfold Rat.add
  by_cases h1 : g = 1
  · have r1 : r = 1 := by
      show Nat.gcd top.natAbs g = 1
      rw [h1]
      exact Nat.gcd_one_right _
    have h1' : a.den.gcd b.den = 1 := h1
    rw [dif_pos h1']
    refine ⟨?_, ?_⟩
    · rw [r1, e1, h1]
      simp
    · rw [r1, h1]
      simp
  · have h1' : ¬ a.den.gcd b.den = 1 := h1
    rw [dif_neg h1']
    simp only [Rat.maybeNormalize_eq, Int.divExact_eq_ediv]
    have hr : r ∣ b.den := Nat.dvd_trans (Nat.gcd_dvd_right _ _) (Nat.gcd_dvd_right _ _)
    have er : r = (a.num * ((b.den / g : Nat) : Int) + b.num * ((a.den / g : Nat) : Int)).natAbs.gcd g := by rw [← e1]
    refine ⟨?_, ?_⟩
    · rw [e1]
      show _ / (r : Int) = _ / ((Nat.gcd _ g : Nat) : Int)
      rw [← er]
    · show _ = ((a.den / g * b.den / (Nat.gcd _ g) : Nat) : Int)
      rw [← er, Nat.mul_div_assoc _ hr]
      rw [Int.natCast_mul, Int.natCast_ediv, Int.natCast_ediv]
theorem mul_pair (a b : Rat) : let l := Nat.gcd a.num.natAbs b.den
    let r := Nat.gcd b.num.natAbs a.den
    a.num / (l : Int) * (b.num / (r : Int)) = (a * b).num ∧ (a.den : Int) / (r : Int) * ((b.den : Int) / (l : Int)) = ((a * b).den : Int) := by
  intro l r
  have e : a * b = Rat.mul a b := rfl
  rw [e]
  unfold Rat.mul
  simp only [Int.divExact_eq_ediv, Nat.divExact_eq_div]
  refine ⟨rfl, ?_⟩
  rw [Int.natCast_mul, Int.natCast_ediv, Int.natCast_ediv]
theorem mul_mk (a b : Rat) : mkRat (a.num * b.num) (a.den * b.den) = a * b := (Rat.mul_def' a b).symm
theorem add_mk (a b : Rat) : mkRat (a.num * b.den + b.num * a.den) (a.den * b.den) = a + b := (Rat.add_def' a b).symm
/-! ### sizes -/
/-- short enough for products and divisors -/
structure Sm (n : Nat) (q : Rat) : Prop where
  num : q.num.natAbs < 2 ^ n
  den : q.den < 2 ^ n
theorem Sm.mono {n m : Nat} {q : Rat} (h : Sm n q) (hn : n ≤ m) : Sm m q := ⟨Nat.lt_of_lt_of_le h.num (Nat.pow_le_pow_right (by decide) hn), Nat.lt_of_lt_of_le h.den (Nat.pow_le_pow_right (by decide) hn)⟩
theorem natAbs_div_le (i : Int) (n : Nat) : (i / (n : Int)).natAbs ≤ i.natAbs + 1 := by
  rcases Nat.eq_zero_or_pos n with h | h
  · subst h
    simp
  · have h1 : (0 : Int) < n := by omega
    have h2 := Int.emod_add_mul_ediv i n
    have h3 := Int.emod_nonneg i (by omega : (n : Int) ≠ 0)
    have h4 := Int.emod_lt_of_pos i h1
    rcases Int.le_total 0 i with p | p
    · have q1 : 0 ≤ i / (n : Int) := Int.ediv_nonneg p (by omega)
      have q2 : i / (n : Int) ≤ i := Int.ediv_le_self _ p
      omega
    · have q1 : i / (n : Int) ≤ 0 := Int.ediv_nonpos_of_nonpos_of_neg p (by omega)
      have q2 : i - (n : Int) < (n : Int) * (i / (n : Int)) := by omega
      have q3 : i - 1 ≤ i / (n : Int) := by
        rcases Int.lt_or_le (i / (n : Int)) (i - 1) with z | z
        · exfalso
          have : (n : Int) * (i / (n : Int)) ≤ (n : Int) * (i - 2) := Int.mul_le_mul_of_nonneg_left (by omega) (by omega)
          have e : (n : Int) * (i - 2) = (n : Int) * (i - 1) - n := by
            rw [Int.mul_sub, Int.mul_sub]
            omega
          have : (n : Int) * (i - 1) ≤ 1 * (i - 1) := Int.mul_le_mul_of_nonpos_right (by omega) (by omega)
          omega
        · exact z
      omega
end WD
end
section
set_option Elab.async false
set_option linter.all false
set_option maxRecDepth 100000
namespace WD
open PySem PySem.Spec PyProof.Rows L2 Evl
variable {K : PySem.W.Frag} {σ : L2.St} {H H' : Hp} {ta tb te tx : TE} {t u : TT} {d d1 d2 : D} {ds es : List D}
theorem Is.ty {v : V} {s : String} (h : Is K H v d) (e : d.ty = some s) : TyX K H v (.type s) := by
  cases h with
  | non => cases e; exact .base .non
  | bl b => cases e; exact .base (.bl b)
  | int i => cases e; exact .base (.int i)
  | str x => cases e; exact .base (.str x)
  | tup h a => cases e; exact sqT_ty h
  | lst h a => cases e; exact rdL_ty h
  | obj h a => cases e
theorem ed_isi {n s : String} {b : Bool} (h : EvD K te σ H d) (ht : d.ty = some s) (hk : kitB s n = some b) : EvD K (tCB (rIsi K) (tCons te (tCons (tC (.ty n)) tNil))) σ H (.bl b) := fun H1 e Q q =>
  h H1 e _ fun v H2 e2 a => ⟨v, _, _, _, b, rfl, .ty n, a.ty ht, kit_ty hk, q _ H2 e2 (.bl b)⟩
/-- of an instance of the text's class C, by the class itself | a built-in class -/
structure OwnTy (K : PySem.W.Frag) (c : Str) : Prop where
  cl : Cls K (He.ga K c)
  ha : PySem.W.findIn K (.ref (He.ga K c)) "__class__" = some (some (.builtin "object.__class__"))
  hn : PySem.W.specialIn K (.builtin "object.__class__") "__get__" = some (some (.builtin "getset_descriptor.__get__"))
  ht : PySem.W.takesIn K (.builtin "object.__class__") = some true
  hm : PySem.W.mroIn K (He.ga K c) (.type "object") = some true
theorem ed_isiO {c : Str} {fs : List (Str × D)} {b : Bool} (h : EvD K te σ H (.obj c fs)) (o : OwnTy K c) {C : Addr} (hk : PySem.W.kitOne K (.ref (He.ga K c)) (.ref C) = some b) : EvD K (tCB (rIsi K) (tCons te (tCons (tC (.ref C)) tNil))) σ H (.bl b) := fun H1 e Q q =>
  h H1 e _ fun v H2 e2 a => by
    cases a with
    | obj ho af => exact ⟨_, _, _, _, b, rfl, .own C, .base (.ins ho o.cl o.ha o.hn o.ht o.hm), hk, q _ H2 e2 (.bl b)⟩
/-- isinstance(x, (list, tuple)) -/
theorem ed_isiT {n1 n2 s : String} {b1 b2 : Bool} (h : EvD K te σ H d) (ht : d.ty = some s) (hk1 : kitB s n1 = some b1) (hk2 : kitB s n2 = some b2) :
    EvD K (tCB (rIsiT K) (tCons te (tCons (tTup (tCons (tC (.ty n1)) (tCons (tC (.ty n2)) tNil))) tNil))) σ H (.bl (b1 || b2)) := fun H1 e Q q =>
  h H1 e _ fun v H2 e2 a => by
    refine ⟨by show 2 ≤ sizeLine; decide, fun p hp => ⟨v, p, _, _, _, (b1 || b2), rfl, upd_same, .cons (.ty n1) (.cons (.ty n2) .nil), (a.ex (Ex.new hp)).ty ht, ?_, q _ _ (e2.trans (Ex.new hp)) (.bl _)⟩⟩
    refine kitAny_cons (b := b1) (kit_ty hk1) (fun z => ?_) (fun z => by rw [z]; rfl)
    subst z
    rw [Bool.false_or]
    exact kitAny_cons (b := b2) (kit_ty hk2) (fun z => by rw [z]; exact kitAny_nil) (fun z => z)
def D.isInt : D → Bool
  | .int _ => true
  | _ => false
/-! ### a while loop over two ints -/
theorem natAbs_nn {i : Int} (h : 0 ≤ i) : ((i.natAbs : Nat) : Int) = i := by omega
end WD
namespace WD
open PySem PySem.Spec PyProof.Rows L2 Evl
section
variable {X : Cx}
theorem call_lenS : CallR X (.builtin "len") (rLenS X.K) := call_len_seq
theorem call_listS : CallR X (.type "list") (rListS X.K) := call_list_of
theorem call_tupS : CallR X (.type "tuple") (rTupS X.K) := call_tuple_of
theorem call_absS : CallR X (.builtin "abs") rAbs := call_abs
theorem call_intS : CallR X (.type "int") rInt1 := call_int1
theorem call_maxS (hc : X.calm = true) : CallR X (.builtin "max") rMax2 := call_max2 hc
theorem call_minS (hc : X.calm = true) : CallR X (.builtin "min") rMin2 := call_min2 hc
end
end WD
end
section
set_option Elab.async false
set_option linter.all false
set_option maxRecDepth 100000
set_option maxHeartbeats 4000000
/-! set(xs) of a list of ints: the type is called; its __init__ is answered as a code of its own. -/
namespace L2
open PySem PySem.Spec PyProof.Rows
section
variable {P : Program} {w : World} {A : Around} {E : Value → Shared → Prop} {s : Shared}
/-- what the making hands on: an object of the type, and its __init__'s code -/
def Hands (P : Program) (w : World) (A : Around) (E : Value → Shared → Prop) (T ini : String) (us : List Value) (Q : Value → Shared → Prop) (o : Value) (t : Shared) : Prop :=
  t.TypeIs o T ∧ codeAny (model P w) A (.call (.builtin ini) ⟨o :: us, []⟩) (wants (fun z t' => z = .none ∧ Q o t') E) t
theorem type_hands {T nw ini : String} {us : List Value} {Q : Value → Shared → Prop} (f : TypeCalled T nw ini) (ck : checkTypeCall T ⟨us, []⟩ = pure ()) (go : codeAny (model P w) A.in1 (.call (.builtin nw) ⟨.type T :: us, []⟩) (wants (Hands P w A.in1 E T ini us Q) E) s) :
    wpAny (model P w) A (call (.type T) us) Q E s := by
  rcases f with ⟨n1, n2, ⟨mc, mt, mo⟩, md, n3, sb, il⟩
  apply wpAny_call; apply codeAny_of_tree
  show wpAny _ _ (callAny (.type T) ⟨us, []⟩) _ _ _
  apply wpAny_pure; refine ⟨Code.quiet_builtin _ (by decide +kernel), ?_⟩
  apply codeAny_builtin F.entry_type_call; rw [Around.under_plain (weight_type_call_type T us []) rfl]
  repeat (any_goals (first | assumption | wp_step))
  apply codeAny_mono go; intro r t hr
  rcases r with e | fl
  · exact hr
  cases fl with
  | next => exact False.elim hr
  | brk => exact False.elim hr
  | cont => exact False.elim hr
  | ret v =>
    obtain ⟨ty, nx⟩ := hr
    have lk := il.lookup; have bd := il.bind v
    repeat (any_goals (first | assumption | wp_step))
    apply codeAny_mono nx; intro r2 t2 hr2
    rcases r2 with e2 | fl2
    · exact hr2
    cases fl2 with
    | next => exact False.elim hr2
    | brk => exact False.elim hr2
    | cont => exact False.elim hr2
    | ret z =>
      rcases hr2 with ⟨rfl, fin⟩
      repeat (any_goals (first | assumption | wp_step))
/-- the new set's object -/
abbrev newS (w : World) : Obj := { cls := .type "set", dict := none, data := .set #[] 0 (.fresh 0 0 (!w.params.followText "set-order")) }
/-- set(xs) for a list of ints -/
theorem call_set_listR {l : Addr} {us : Array Value} (ns : List Int) {Q : Value → Shared → Prop} (hh : A.handled = none) (hl : s.heap.IsList l us) (hit : IntsAre us.toList ns) (hb : ns.length + 1 < scanBound)
    (h : ∀ (h' : Heap) (tk c : Nat), SetR w h' s.heap.objs.size (fun j => decide (j ∈ ns)) c → c ≤ ns.length → (∀ b o, s.heap.get? b = some o → h'.get? b = some o) → Q (.ref s.heap.objs.size) { s with heap := h', toks := tk }) :
    wpAny (model P w) A (call (.type "set") [.ref l]) Q E s := by
  have big : us.size = ns.length := by rw [← Array.length_toList]; exact IntsAre.length hit
  refine type_hands F.called_set (F.typeCall_set_1 (.ref l)) (code_set_led1 (.ref l) ?_)
  have here : Shared.TypeIs { s with heap := s.heap.push (newS w) } (.ref s.heap.objs.size) "set" := ⟨_, Heap.get?_push_size _ rfl, rfl⟩
  refine ⟨here, codeAny_call_builtin F.called_set.init.plain F.entry_set_init (check_set_init_1 here ?_)⟩
  rcases hl with ⟨⟨k1, k2, k3, k4⟩, got, rfl, nn, rfl⟩
  have old : l < s.heap.objs.size := Heap.lt_size got
  have gotS : (s.heap.push (newS w)).get? s.heap.objs.size = some (newS w) := Heap.get?_push_size _ rfl
  have got2 : (s.heap.push (newS w)).get? l = some { cls := .type "list", dict := k2, data := .seq us nn, slots := k4 } := Heap.get?_push_of_some _ got
  have isl : (s.heap.push (newS w)).IsList l us := ⟨_, got2, rfl, nn, rfl⟩
  have f1 := F.sub_list_set; have f2 := F.sub_list_frozenset
  have f3 : (Value.type "list" == Value.type "dict") = false := by decide
  unfold Builtin.«set.__init__» noKeywords Builtin.Frozenset.updateFrom
  generalize hpi : pyIter = PI
  wp_walk
  subst hpi
  apply wpAny_pyIter_list isl; apply wpAny_bind; apply wpAny_runValue
  have sz : (s.heap.push (newS w)).objs.size = s.heap.objs.size + 1 := Heap.size_push ..
  have nit : l ≠ (s.heap.push (newS w)).objs.size := by rw [sz]; exact Nat.ne_of_lt (Nat.lt_succ_of_lt old)
  have nfp : s.heap.objs.size ∉ [(s.heap.push (newS w)).objs.size, l] := by
    rw [sz]; intro z
    rcases List.mem_cons.mp z with z | z
    · exact Nat.ne_of_lt (Nat.lt_succ_self _) z
    · exact Nat.ne_of_gt old (List.mem_singleton.mp z)
  have val : ∀ (i : Nat) (v : Value), us[i]? = some v → ∃ k t, ns[i]? = some k ∧ v = .int k t := by
    intro i v hv
    have iu : i < us.size := (Array.getElem?_eq_some_iff.mp hv).1
    obtain ⟨t, et⟩ := IntsAre.int_at hit i v (by rw [Array.getElem?_toList]; exact hv)
    have ii : i < ns.length := by omega
    exact ⟨ns[i], t, List.getElem?_eq_getElem ii, by rw [et]; congr 1; rw [List.getD_eq_getElem?_getD, List.getElem?_eq_getElem ii]; rfl⟩
  have hh3 : A.in1.in1.in1.handled = none := by simp [hh]
  have it0 : ((s.heap.push (newS w)).push { cls := .type "list_iterator", data := .fields #[.ref l, .int 0 0] }).get? s.heap.objs.size = some (newS w) := Heap.get?_push_of_some _ gotS
  apply set_update_ints (Walks.list hh3 (s.heap.push (newS w)).objs.size l nit us).toS s.heap.objs.size nfp ns big hb val (us.size - 0) 0 _ (by omega) (Nat.zero_le _) ⟨⟨_, Heap.get?_push_size _ rfl, rfl, rfl⟩, isl.push _⟩ ⟨0, Nat.le_refl 0, setR_new_at it0⟩
  intro t c mv hc hS
  rcases t with ⟨h', g2, d2, tk, o2⟩
  have q1 : g2 = s.gens := mv.gens
  have q2 : d2 = s.drawn := mv.drawn
  have q3 : o2 = s.os := mv.os
  subst q1 q2 q3
  show wpAny _ _ _ _ _ _
  apply wpAny_pure
  show wpAny _ _ (ret Value.none) _ _ _
  refine wpAny_pure ⟨rfl, h h' tk c hS (by omega) fun b o e => ?_⟩
  have bl : b < s.heap.objs.size := Heap.lt_size e
  refine mv.heap b o (fun z => ?_) (Heap.get?_push_of_some _ (Heap.get?_push_of_some _ e))
  rcases List.mem_cons.mp z with z | z
  · exact Nat.ne_of_lt bl z
  · have y := List.mem_singleton.mp z
    have y2 : b = s.heap.objs.size + 1 := y.trans sz
    rw [y2] at bl; exact absurd bl (Nat.not_lt.mpr (Nat.le_succ _))
end
end L2
end
section
set_option Elab.async false
set_option linter.all false
set_option maxRecDepth 100000
set_option maxHeartbeats 4000000
namespace L2
open PySem PySem.Spec PyProof.Rows
section
variable {X : Cx}
/-- sorted(set(xs)), xs a list or a tuple of fewer than 64 ints -/
def tSortSet (K : PySem.W.Frag) (ta : TE) : TE := fun σ H Q => ta σ H fun x H1 => ∃ (l : Addr) (ns : List Int), x = .ref l ∧ (SqL K H1 l (ns.map V.int) ∨ SqT K H1 l (ns.map V.int)) ∧ ns.length < 64 ∧
  ∀ (ms : List Int) (p : Addr), ms.Pairwise (· < ·) → (∀ k : Int, k ∈ ms ↔ k ∈ ns) → H1 p = none → Q (.ref p) (upd H1 p (.lst (ms.map V.int)))
theorem pe_sortSet {a : Expr} {ta : TE} {p p2 q pos : Pos} (hg : Gl X "sorted") (hm : X.mg "sorted" = none) (hg2 : Gl X "set") (hm2 : X.mg "set" = none) (ha : PE X a ta) (hc : X.calm = true := by rfl)
    (hv : bootBuiltins "sorted" = some (.builtin "sorted") := by decide +kernel) (na : starEach [a] X.env = (false, eval a X.env) :: starEach [] X.env := by rfl) : PE X (.Call (.Name "sorted" p) [.Call (.Name "set" p2) [a] [] q] [] pos) (tSortSet X.K ta) := by
  refine ⟨fun pins s σ H Q I h => ?_⟩
  refine Call_ (ld_blt I hg hm hv ?_)
  refine PyProof.Rows.callWith_builtin1 (PyProof.Rows.args_cons ?_ rfl) rfl rfl
  refine Call_ (ld_blt I hg2 hm2 boot_set (PyProof.Rows.callWith_type1 (PyProof.Rows.args_cons (thn (ha.run pins s σ H _ I h) fun v s1 ⟨x, H1, I1, r1, q1⟩ => PyProof.Rows.args_nil ?_) na) na rfl))
  obtain ⟨l, ns, rfl, hq, hl, q1⟩ := q1
  cases r1
  have fin : ∀ (s2 : Shared) (b : Addr) (c : Nat), Inv X pins σ H1 s2 → SetR X.w s2.heap b (fun j => decide (j ∈ ns)) c → c ≤ ns.length →
      wpAny (model X.prog X.w) X.A (call (.builtin "sorted") [.ref b]) (EP X pins σ Q) X.xe s2 := by
    intro s2 b c J R hcn
    refine sorted_set R (J.ok.hd hc) (Nat.lt_of_le_of_lt hcn hl) fun s' u out c2 ms k g o hp hgt hi hsm hmem hlen => ?_
    have z : (ms.map V.int).length ≤ sizeLine := by
      rw [List.length_map, hlen, sizeLine_eq]
      omega
    have free : H1 u = none := J.hok.fresh hp
    have J2 : Inv X pins σ (upd H1 u (.lst (ms.map V.int))) { s2 with heap := s'.heap, gens := s'.gens, drawn := s'.drawn, toks := s'.toks } :=
      J.call (ch := []) (Un.laid k hp free) (J.hok.laid k hp ⟨z, out.toList, c2, vals_of_ints hi, hgt⟩) (by rw [g]; exact J.bare) (fun _ z => nomatch z)
    have e : s' = { s2 with heap := s'.heap, gens := s'.gens, drawn := s'.drawn, toks := s'.toks } := by
      cases s'
      cases s2
      cases o
      rfl
    rw [e]
    refine ⟨.ref u, _, J2, rfl, q1 ms u hsm (fun k => ?_) free⟩
    rw [hmem k]
    exact decide_eq_true_iff
  rcases hq with hq | hq
  · obtain ⟨its, r, pl, hz⟩ := I1.list hq
    exact call_set_listR ns (I1.ok.hd hc) pl.isList (by simpa using RZ.intsAre_vals r) (by unfold scanBound; omega) fun h' tk c R hcn keep => PyProof.Rows.args_nil (fin _ _ c (I1.kept keep) R hcn)
  · obtain ⟨its, r, pl, hz⟩ := I1.tuple hq
    exact call_set_tupI ns (I1.ok.hd hc) pl (by simpa using RZ.intsAre_vals r) (by unfold scanBound; omega) fun h' tk c R hcn keep => PyProof.Rows.args_nil (fin _ _ c (I1.kept keep) R hcn)
end
end L2
end
section
set_option Elab.async false
set_option linter.all false
set_option maxRecDepth 100000
namespace WD
open PySem PySem.Spec PyProof.Rows L2 Evl
/-! ### ascending, each once -/
def insU (x : Int) : List Int → List Int
  | [] => [x]
  | y :: ys => if x < y then x :: y :: ys else if x = y then y :: ys else y :: insU x ys
def asc (ns : List Int) : List Int := ns.foldr insU []
theorem mem_insU {x k : Int} : ∀ {ys : List Int}, k ∈ insU x ys ↔ k = x ∨ k ∈ ys
  | [] => by simp [insU]
  | y :: ys => by
    have ih := mem_insU (x := x) (k := k) (ys := ys)
    unfold insU
    split
    · simp
    · split
      · rename_i h
        subst h
        simp
      · rw [List.mem_cons, ih, List.mem_cons]
        constructor
        · rintro (h | h | h)
          · exact .inr (.inl h)
          · exact .inl h
          · exact .inr (.inr h)
        · rintro (h | h | h)
          · exact .inr (.inl h)
          · exact .inl h
          · exact .inr (.inr h)
theorem asc_insU {x : Int} : ∀ {ys : List Int}, ys.Pairwise (· < ·) → (insU x ys).Pairwise (· < ·)
  | [], _ => by simp [insU]
  | y :: ys, h => by
    obtain ⟨h1, h2⟩ := List.pairwise_cons.mp h
    unfold insU
    split
    · rename_i hx
      exact List.pairwise_cons.mpr ⟨fun z hz => by
        rcases List.mem_cons.mp hz with e | e
        · rw [e]; exact hx
        · exact Int.lt_trans hx (h1 z e), h⟩
    · split
      · exact h
      · exact List.pairwise_cons.mpr ⟨fun z hz => by
          rcases mem_insU.mp hz with e | e
          · omega
          · exact h1 z e, asc_insU h2⟩
theorem asc_pw : ∀ ns : List Int, (asc ns).Pairwise (· < ·)
  | [] => .nil
  | x :: xs => asc_insU (asc_pw xs)
theorem mem_asc {k : Int} : ∀ {ns : List Int}, k ∈ asc ns ↔ k ∈ ns
  | [] => Iff.rfl
  | x :: xs => by
    show k ∈ insU x (asc xs) ↔ _
    rw [mem_insU, mem_asc, List.mem_cons]
theorem pw_unique : ∀ {xs ys : List Int}, xs.Pairwise (· < ·) → ys.Pairwise (· < ·) → (∀ k, k ∈ xs ↔ k ∈ ys) → xs = ys
  | [], [], _, _, _ => rfl
  | [], y :: ys, _, _, h => by have := (h y).mpr List.mem_cons_self; cases this
  | x :: xs, [], _, _, h => by have := (h x).mp List.mem_cons_self; cases this
  | x :: xs, y :: ys, h1, h2, h => by
    obtain ⟨a1, a2⟩ := List.pairwise_cons.mp h1
    obtain ⟨b1, b2⟩ := List.pairwise_cons.mp h2
    have e : x = y := by
      rcases List.mem_cons.mp ((h x).mp List.mem_cons_self) with e | e
      · exact e
      · rcases List.mem_cons.mp ((h y).mpr List.mem_cons_self) with e' | e'
        · exact e'.symm
        · have := a1 y e'
          have := b1 x e
          omega
    subst e
    rw [pw_unique a2 b2 fun k => ?_]
    constructor
    · intro hk
      rcases List.mem_cons.mp ((h k).mp (List.mem_cons_of_mem _ hk)) with e | e
      · have := a1 k hk; omega
      · exact e
    · intro hk
      rcases List.mem_cons.mp ((h k).mpr (List.mem_cons_of_mem _ hk)) with e | e
      · have := b1 k hk; omega
      · exact e
theorem asc_id {ns : List Int} (h : ns.Pairwise (· < ·)) : asc ns = ns := pw_unique (asc_pw ns) h fun _ => mem_asc
def iL (ns : List Int) : List D := ns.map .int
variable {K : PySem.W.Frag} {σ : L2.St} {H H' : Hp} {ta tb te tx tc : TE} {t u : TT} {d d1 d2 d3 : D} {ds es : List D}
theorem allIL : ∀ {ns : List Int} {vs : List V}, All K H vs (iL ns) → vs = ns.map V.int
  | [], _, h => by cases h; rfl
  | n :: ns, _, h => by
    cases h with
    | cons a1 a =>
      cases a1
      rw [allIL a] <;> rfl
theorem iLall : ∀ {ns : List Int}, All K H (ns.map V.int) (iL ns)
  | [] => .nil
  | n :: ns => .cons (.int n) iLall
theorem iLlf (ns : List Int) : D.lfs (iL ns) = true := lfs_map _ (fun _ => rfl) ns
theorem iLlen (ns : List Int) : (iL ns).length = ns.length := List.length_map ..
theorem en_sortSet {ns : List Int} (h : EvD K te σ H (.lst (iL ns)) ∨ EvD K te σ H (.tup (iL ns))) (hl : ns.length < 64) : EvN K (tSortSet K te) σ H (iL (asc ns)) := fun H1 e Q q => by
  have fin : ∀ (l : Addr) (H2 : Hp), Ex H1 H2 → (SqL K H2 l (ns.map V.int) ∨ SqT K H2 l (ns.map V.int)) → ∃ (l' : Addr) (ns' : List Int), V.ref l = .ref l' ∧ (SqL K H2 l' (ns'.map V.int) ∨ SqT K H2 l' (ns'.map V.int)) ∧ ns'.length < 64 ∧
      ∀ (ms : List Int) (p : Addr), ms.Pairwise (· < ·) → (∀ k : Int, k ∈ ms ↔ k ∈ ns') → H2 p = none → Q (.ref p) (upd H2 p (.lst (ms.map V.int))) := fun l H2 e2 hq => ⟨l, ns, rfl, hq, hl, fun ms p hs hm hp => by
    have z : ms = asc ns := pw_unique hs (asc_pw ns) fun k => (hm k).trans mem_asc.symm
    subst z
    exact q p _ _ (fresh_back e2 hp) (e2.trans (Ex.new hp)) upd_same iLall⟩
  rcases h with h | h
  · exact h H1 e _ fun v H2 e2 a => by
      cases a with
      | lst r a =>
        rw [allIL a] at r
        exact fin _ H2 e2 (.inl (.inl r))
  · exact h H1 e _ fun v H2 e2 a => by
      cases a with
      | tup r a =>
        rw [allIL a] at r
        exact fin _ H2 e2 (.inr r)
/-! ### chains -/
theorem ed_chain {r r' : R2} {a b : Bool} (ha : EvD K ta σ H d1) (hb : EvD K tb σ H d2) (hr : RD K r d1 d2 H (.bl a)) (hc : a = true → EvD K tc σ H d3) (hr' : a = true → RD K r' d2 d3 H (.bl b)) : EvD K (tChain r r' ta tb tc) σ H (.bl (a && b)) := fun H1 e Q q =>
  ha H1 e _ fun v1 H2 e2 a1 => hb H2 (e.trans e2) _ fun v2 H3 e3 a2 => hr v1 v2 H3 ((e.trans e2).trans e3) (a1.ex e3) a2 _ fun z H4 e4 az => by
    cases az
    refine ⟨a, rfl, ?_⟩
    cases a with
    | true =>
      exact hc rfl H4 (((e.trans e2).trans e3).trans e4) _ fun v3 H5 e5 a3 => hr' rfl v2 v3 H5 ((((e.trans e2).trans e3).trans e4).trans e5) (a2.ex (e4.trans e5)) a3 Q fun v H6 e6 av => q v H6 ((((e2.trans e3).trans e4).trans e5).trans e6) av
    | false => exact q _ H4 ((e2.trans e3).trans e4) (.bl false)
theorem rd_lt {i j : Int} : RD K (rI0 fun i j => .bl (decide (i < j))) (.int i) (.int j) H (.bl (decide (i < j))) := rd_B0 (g := fun i j => decide (i < j))
theorem rd_le {i j : Int} : RD K (rI0 fun i j => .bl (decide (i ≤ j))) (.int i) (.int j) H (.bl (decide (i ≤ j))) := rd_B0 (g := fun i j => decide (i ≤ j))
end WD
end
section
set_option Elab.async false
set_option linter.all false
set_option maxRecDepth 100000
namespace WD
open PySem PySem.Spec PyProof.Rows L2 Evl
variable {K : PySem.W.Frag} {σ : L2.St} {H H' : Hp} {ta tb te tx tc : TE} {t u : TT} {d d1 d2 d3 : D} {ds es : List D}
/-! ### an instance is made -/
/-- what __init__ promises: the new instance at x gets its fields, nothing else that was there is touched -/
def spI (K : PySem.W.Frag) (c : Str) (R : List D → List (Str × D) → Prop) : Sp := fun vs H Q _ => ∃ x dx us ds fs H0, vs = .ref x :: us ∧ H x = some (.ins (He.ga K c) dx []) ∧ H0 x = none ∧ Ex H0 H ∧ All K H0 us ds ∧ R ds fs ∧
  ∀ H' fvs, (∀ a o, a ≠ x → H a = some o → H' a = some o) → H' x = some (.ins (He.ga K c) dx fvs) → AllF K H' fvs fs → Q .non H'
theorem ed_make {c : Str} {R : List D → List (Str × D) → Prop} {E : XK} {tr : TA} {fs : List (Str × D)} (h : EvDA K tr σ H ds) (hR : R ds fs) : EvD K (tMake (He.ga K c) (spI K c R) [] E tr) σ H (.obj c fs) := fun H1 e Q q =>
  h H1 e _ fun vs H2 e2 a x dx hx hdx ne => by
    have e3 : Ex H2 (upd (upd H2 dx (.own x)) x (.ins (He.ga K c) dx [])) := (Ex.new hdx).trans (Ex.new (by
      rw [upd_ne ne.symm]
      exact hx))
    refine ⟨x, dx, vs, ds, fs, H2, by rw [List.append_nil], upd_same, hx, e3, a, hR, fun H' fvs keep hx' af => ⟨rfl, q _ H' ?_ (.obj hx' af)⟩⟩
    exact e2.trans fun b o hb => keep b o (ne_of_none hb hx) (e3 b o hb)
/-- but for the object at x, all stays -/
def Xe (x : Addr) (H H' : Hp) : Prop := ∀ a o, a ≠ x → H a = some o → H' a = some o
theorem Xe.refl (x : Addr) (H : Hp) : Xe x H H := fun _ _ _ h => h
theorem Xe.trans {x : Addr} {H1 H2 : Hp} (a : Xe x H H1) (b : Xe x H1 H2) : Xe x H H2 := fun c o n h => b c o n (a c o n h)
theorem Xe.ex {x : Addr} (e : Ex H H') : Xe x H H' := fun a o _ h => e a o h
theorem Xe.upd {x : Addr} {o : HO} : Xe x H (L2.upd H x o) := fun a u n h => by
  rw [upd_ne n]
  exact h
theorem Xe.of_none {x : Addr} {H0 : Hp} (e : Ex H0 H) (m : Xe x H H') (n : H0 x = none) : Ex H0 H' := fun a o h => m a o (ne_of_none h n) (e a o h)
/-- self.f = e -/
theorem q_fld {D : Ends} {tz : TS} {f : Str} {x C dx : Addr} {fvs : List (Str × V)} (hx : H x = some (.ins C dx fvs)) (h : EvD K te σ H d) (ho : Ev ta σ H (.ref x)) (hc : Cls K C) (hn : NoAttr K C f) (hl : fvs.length < 1000)
    (k : ∀ v H1, Ex H H1 → Is K H1 v d → tz D σ (upd H1 x (.ins C dx (putF f v fvs)))) : tSeq (sFld K ta te f) tz D σ H :=
  h H (Ex.refl H) _ fun v H1 e1 a => ho H1 e1 _ fun H2 e2 => ⟨x, C, dx, fvs, rfl, (e1.trans e2) _ _ hx, hc, hn, hl, k v H2 (e1.trans e2) (a.ex e2)⟩
theorem s_fld {D : Ends} {f : Str} {x C dx : Addr} {fvs : List (Str × V)} (hx : H x = some (.ins C dx fvs)) (h : EvD K te σ H d) (ho : Ev ta σ H (.ref x)) (hc : Cls K C) (hn : NoAttr K C f) (hl : fvs.length < 1000)
    (k : ∀ v H1, Ex H H1 → Is K H1 v d → D.nx σ (upd H1 x (.ins C dx (putF f v fvs)))) : sFld K ta te f D σ H :=
  h H (Ex.refl H) _ fun v H1 e1 a => ho H1 e1 _ fun H2 e2 => ⟨x, C, dx, fvs, rfl, (e1.trans e2) _ _ hx, hc, hn, hl, k v H2 (e1.trans e2) (a.ex e2)⟩
theorem ev_ref {i : Nat} {x : Addr} (h : σ[i]? = some (some (.ref x))) : Ev (tVar i) σ H (.ref x) := ev_var h
/-- a call whose answer is let go -/
theorem q_do {D : Ends} {tz : TS} (h : EvD K te σ H d) (k : ∀ H1, Ex H H1 → tz D σ H1) : tSeq (tDrop te) tz D σ H := h H (Ex.refl H) _ fun _ H1 e _ => k H1 e
/-! ### loops that only look -/
theorem q_look {wi : TI} {g : TG} {n : Nat} {item : Nat → WD.D} {D : Ends} {tw tz : TS} {W : L2.St → Prop} (hI : EvI K wi σ [] H n item) (h0 : W σ)
    (hs : ∀ i x σ' H' H'', i < n → W σ' → Ex H H' → Ex H' H'' → Is K H'' x (item i) → ∀ Nx : L2.St → Hp → Prop, (∀ σ3 H3, W σ3 → Ex H'' H3 → Nx σ3 H3) → g x σ' H'' fun σ2 H2 => tw { D with nx := Nx, ct := Nx, bk := tz D } σ2 H2)
    (hd : ∀ σ' H', W σ' → Ex H H' → tz D σ' H') : tSeq (tFor wi g tw) tz D σ H :=
  q_for hI (fun _ σ' H' => W σ' ∧ Ex H H') (fun H1 e => ⟨h0, e⟩) (fun i x σ' H' H'' hi p e a => hs i x σ' H' H'' hi p.1 p.2 e a _ fun σ3 H3 w e3 => ⟨⟨w, (p.2.trans e).trans e3⟩, Mu.ex (e.trans e3)⟩) (fun σ' H' p => hd σ' H' p.1 p.2)
theorem s_look {wi : TI} {g : TG} {n : Nat} {item : Nat → WD.D} {D : Ends} {tw : TS} {W : L2.St → Prop} (hI : EvI K wi σ [] H n item) (h0 : W σ)
    (hs : ∀ i x σ' H' H'', i < n → W σ' → Ex H H' → Ex H' H'' → Is K H'' x (item i) → ∀ Nx : L2.St → Hp → Prop, (∀ σ3 H3, W σ3 → Ex H'' H3 → Nx σ3 H3) → g x σ' H'' fun σ2 H2 => tw { D with nx := Nx, ct := Nx, bk := D.nx } σ2 H2)
    (hd : ∀ σ' H', W σ' → Ex H H' → D.nx σ' H') : tFor wi g tw D σ H :=
  s_for hI (fun _ σ' H' => W σ' ∧ Ex H H') (fun H1 e => ⟨h0, e⟩) (fun i x σ' H' H'' hi p e a => hs i x σ' H' H'' hi p.1 p.2 e a _ fun σ3 H3 w e3 => ⟨⟨w, (p.2.trans e).trans e3⟩, Mu.ex (e.trans e3)⟩) (fun σ' H' p => hd σ' H' p.1 p.2)
def frs (qs : List Rat) : List D := qs.map fr
theorem frs_lf (qs : List Rat) : D.lfs (frs qs) = true := lfs_map _ (fun _ => rfl) qs
theorem frs_len (qs : List Rat) : (frs qs).length = qs.length := List.length_map ..
theorem getD_map {α : Type} (f : α → D) (xs : List α) (i : Nat) (h : i < xs.length) : (xs.map f).getD i .non = f xs[i] := by
  rw [List.getD_eq_getElem?_getD, List.getElem?_map, List.getElem?_eq_getElem h] <;> rfl
theorem map_gives {α : Type} (f : α → D) (xs : List α) (v : Nat → D) (h : ∀ i (hi : i < xs.length), v i = f xs[i]) : gives xs.length (fun _ => true) v = xs.map f := by
  rw [gives_all]
  refine List.ext_getElem? fun i => ?_
  rw [List.getElem?_map, List.getElem?_map]
  by_cases hi : i < xs.length
  · rw [List.getElem?_range hi, List.getElem?_eq_getElem hi]
    exact congrArg some (h i hi)
  · rw [List.getElem?_eq_none (by rw [List.length_range]; omega), List.getElem?_eq_none (by omega)] <;> rfl
/-! ### the row as data -/
def rowF (A : List Int) (v : List Rat) (L : List Int) : List (Str × D) := [("areas", .tup (iL A)), ("volumes", .tup (frs v)), ("locks", .tup (iL L))]
def rowD (A : List Int) (v : List Rat) (L : List Int) : D := .obj "Row" (rowF A v L)
end WD
end
section
set_option Elab.async false
set_option linter.all false
set_option maxRecDepth 100000
namespace WD
open PySem PySem.Spec PyProof.Rows L2 Evl
/-! ### defs with defaults -/
structure FnH (P : Program) (w : World) (K : PySem.W.Frag) (mg : Str → Option Value) (base : Heap) (k : Nat) (f : Addr) (ps : List Str) (sp : Sp) (dvs : List V) : Prop where
  ex : ∃ fd ds, FnOk P w K mg base (L2.CX P w) k f fd ps sp ∧ Vals dvs ds ∧ Binds K fd ps ds
  kp : PySem.W.keepIn K (.ref f) = true
section
variable {X : Cx} {k : Nat} {f : Addr} {ps : List Str} {sp : Sp} {x : Str} {p pos apos : Pos} {e o : Expr} {es : List Expr} {t : TA} {ta : TE} {C : Addr} {m : Str} {dvs : List V}
theorem pe_callH (F : FnH X.prog X.w X.K X.mg X.base k f ps sp dvs) (hr : Room k X.A) (hg : Gl X x) (hm : X.mg x = some (.ref f)) (ha : PA X (e :: es) t)
    (hdb : (x == ("__debug__" : Str)) = false := by decide) (hst : starEach (e :: es) X.env = (false, eval e X.env) :: starEach es X.env := by rfl) (hpl : (backTo pos (starEach es X.env)).any (·.1) = false := by rfl) :
    PE X (.Call (.Name x p) (e :: es) [] pos) (tCall sp dvs E0 t) := by
  obtain ⟨⟨fd, ds, F, v, B⟩, kp⟩ := F
  exact pe_call F hr hg hm kp B v passL ha (hdb := hdb) (he := hst) (hpl := hpl)
theorem pe_methH {pl : Sem Bool} (he : PE X o ta) (c : Cls X.K C) (hm : Meth X.K C m f) (F : FnH X.prog X.w X.K X.mg X.base k f ps sp dvs) (hr : Room k X.A) (ha : PA X (e :: es) t)
    (hst : starEach (e :: es) X.env = (false, eval e X.env) :: starEach es X.env := by rfl) (hpl : (backTo pos (starEach es X.env)).any (·.1) = false := by rfl)
    (ht : eval (.Call (.Attribute o m apos) (e :: es) [] pos) X.env = (do
      let ov ← eval o X.env
      standAt apos.atName
      let (f, first) ← holding [ov] (getMethod ov m pl)
      callWith pos f first (backTo pos (starEach (e :: es) X.env)) (backToKw pos (keywordEach [] X.env))) := by rfl) :
    PE X (.Call (.Attribute o m apos) (e :: es) [] pos) (tMeth C m sp dvs E0 ta t) := by
  obtain ⟨⟨fd, ds, F, v, B⟩, kp⟩ := F
  exact pe_meth he c hm F hr B v passL ha hst hpl ht
theorem pe_makeH (M : Mk X.K C f) (F : FnH X.prog X.w X.K X.mg X.base k f ps sp dvs) (hr : Room (k + 1) X.A) (hg : Gl X x) (hm : X.mg x = some (.ref C)) (ha : PA X (e :: es) t)
    (hdb : (x == ("__debug__" : Str)) = false := by decide) (hst : starEach (e :: es) X.env = (false, eval e X.env) :: starEach es X.env := by rfl) (hpl : (backTo pos (starEach es X.env)).any (·.1) = false := by rfl) :
    PE X (.Call (.Name x p) (e :: es) [] pos) (tMake C sp dvs E0 t) := by
  obtain ⟨⟨fd, ds, F, v, B⟩, kp⟩ := F
  exact pe_make M F hr hg hm B v passL ha (hdb := hdb) (he := hst) (hpl := hpl)
end
section
variable {P : Program} {w : World} {K : PySem.W.Frag} {mg : Str → Option Value} {base : Heap}
/-- a def of defaults dvs; n values are written, the defaults behind the first j fill up -/
theorem fnH {x qual : Str} {st : Stmt} {f : Addr} {N ps : List Str} {k : Nat} {sp : Sp} {dvs : List V} (n j : Nat) (F : ∃ fd, FunD K x qual (defArgs st) (defBody st) (defScope st) dvs [] f fd) (S : FnScope N ps (defScope st)) (len : ∀ vs H Q E, sp vs H Q E → vs.length = ps.length)
    (hd : dvs ≠ []) (hn : n + (dvs.length - j) = ps.length)
    (hb : ∀ (T : Addr) (kV doc pm : Value) (an : Option Addr) (cdv ct : Value) (us its : List Value), us.length = n → its.length = dvs.length →
      ∃ k, bindArgs (PySem.W.fnOf x qual (defArgs st) (defBody st) (defScope st) (.ref T) kV doc pm an cdv ct) ⟨us, []⟩ = seqItems? (.ref T) >>= k ∧ k (some its.toArray) = pure (ps.zip (us ++ its.drop j)))
    (hbody : ∀ (cdv : Value) (A : Around) (outer : List Env) (s : Shared) (H : Hp) (vs : List V) (Q : VK) (E : XK), Room k (A.deeper (envOfC qual (defScope st) s.heap.objs.size f cdv)) → sp vs H Q E →
      ∃ t, PSs (cxOf (L2.CX P w) P w K mg base N qual (defScope st) f cdv A outer s H E).nox (defBody st) t ∧ t { nx := fun _ H' => Q .non H', rt := Q } (start N vs) H) : FnH P w K mg base (k + 1) f ps sp (dvs.drop j) := by
  obtain ⟨fd, F⟩ := F
  obtain ⟨ds, v, B⟩ := F.binds1 n j hd hn hb
  exact ⟨⟨fd, ds, F.ok S len (fun cdv A outer s H vs Q E hr h => let ⟨t, h1, h2⟩ := hbody cdv A outer s H vs Q E hr h; ⟨t, h1.nox, h2⟩), v, B⟩, F.kp⟩
end
/-! ### a tuple that stands at the top -/
def tupA (K : PySem.W.Frag) (a : Addr) (vs : List V) : Bool := match K.lookup a with
  | some ⟨.type c, _, .seq its _, _⟩ => decide (c = "tuple") && (decide (its.size ≤ sizeLine) && He.relAll vs its.toList)
  | _ => false
theorem tupA_ok {K : PySem.W.Frag} {a : Addr} {vs : List V} (h : tupA K a vs = true) (H : Hp) : SqT K H a vs := by
  unfold tupA at h
  split at h
  · rename_i c _ its n _ q
    obtain ⟨h1, h2⟩ := Bool.and_eq_true_iff.mp h
    obtain ⟨h3, h4⟩ := Bool.and_eq_true_iff.mp h2
    exact .inr ⟨_, its, n, q, congrArg Value.type (of_decide_eq_true h1), rfl, of_decide_eq_true h3, He.relAll_ok h4⟩
  · cases h
theorem ed_makeH {K : PySem.W.Frag} {σ : L2.St} {H : Hp} {ds es : List D} {dvs : List V} {c : Str} {R : List D → List (Str × D) → Prop} {E : XK} {tr : TA} {fs : List (Str × D)} (h : EvDA K tr σ H ds) (hd : ∀ H, All K H dvs es) (hR : R (ds ++ es) fs) : EvD K (tMake (He.ga K c) (spI K c R) dvs E tr) σ H (.obj c fs) := fun H1 e Q q =>
  h H1 e _ fun vs H2 e2 a x dx hx hdx ne => by
    have e3 : Ex H2 (upd (upd H2 dx (.own x)) x (.ins (He.ga K c) dx [])) := (Ex.new hdx).trans (Ex.new (by
      rw [upd_ne ne.symm]
      exact hx))
    refine ⟨x, dx, vs ++ dvs, ds ++ es, fs, H2, rfl, upd_same, hx, e3, a.app (hd H2), hR, fun H' fvs keep hx' af => ⟨rfl, q _ H' ?_ (.obj hx' af)⟩⟩
    exact e2.trans fun b o hb => keep b o (ne_of_none hb hx) (e3 b o hb)
theorem ed_methH {K : PySem.W.Frag} {σ : L2.St} {H : Hp} {te : TE} {ds es : List D} {d : D} {dvs : List V} {R : List D → D → Prop} {E : XK} {m c : Str} {fs : List (Str × D)} {tr : TA} (h : EvD K te σ H (.obj c fs)) (hl : fs.lookup m = none) (hr : EvDA K tr σ H ds) (hd : ∀ H, All K H dvs es) (hR : R (.obj c fs :: (ds ++ es)) d) :
    EvD K (tMeth (He.ga K c) m (spD K R) dvs E te tr) σ H d := fun H1 e Q q =>
  h H1 e _ fun v H2 e2 a => by
    cases a with
    | obj ho af =>
      refine ⟨_, _, _, rfl, ho, AllF.none af hl, hr H2 (e.trans e2) _ fun vs H3 e3 b => ⟨_, _, .cons (.obj (e3 _ _ ho) (af.ex e3)) (b.app (hd H3)), hR, fun v H4 e4 c => q v H4 ((e2.trans e3).trans e4) c⟩⟩
end WD
end
section
set_option Elab.async false
set_option linter.all false
set_option maxRecDepth 100000
namespace WD
open PySem PySem.Spec PyProof.Rows L2 Evl
section
variable {X : Cx} {k : Nat} {f C : Addr} {ps : List Str} {sp : Sp}
theorem inO_of (F : FnG X.prog X.w X.K X.mg X.base k f ps sp) (hm : Meth X.K C "__contains__" f) (hr : Room k X.A) : OpR X (compareOp .In) (rInO C sp E0 false) := by
  obtain ⟨⟨fd, F, B⟩, kp⟩ := F
  exact op_inO F hm.at_ hm.fn B passL hr
theorem notInO_of (F : FnG X.prog X.w X.K X.mg X.base k f ps sp) (hm : Meth X.K C "__contains__" f) (hr : Room k X.A) : OpR X (compareOp .NotIn) (rInO C sp E0 true) := by
  obtain ⟨⟨fd, F, B⟩, kp⟩ := F
  exact op_notInO F hm.at_ hm.fn B passL hr
theorem lenO_of (F : FnG X.prog X.w X.K X.mg X.base k f ps sp) (hm : Meth X.K C "__len__" f) (hr : Room (k + 1) X.A) : CallR X (.builtin "len") (rLenO C sp E0) := by
  obtain ⟨⟨fd, F, B⟩, kp⟩ := F
  exact call_lenO F hm.at_ hm.fn B passL hr
theorem eqO_of (F : FnG X.prog X.w X.K X.mg X.base k f ps sp) (hm : Meth X.K C "__eq__" f) (hr : Room k X.A) : OpR X (compareOp .Eq) (rEqO X.K C sp E0) := by
  obtain ⟨⟨fd, F, B⟩, kp⟩ := F
  exact op_eqO F hm.at_ hm.fn B passL hr
theorem neO_of (F : FnG X.prog X.w X.K X.mg X.base k f ps sp) (hm : Meth X.K C "__eq__" f) (hn : PySem.W.findIn X.K (.ref C) "__ne__" = some (some (.builtin "object.__ne__"))) (ho : PySem.W.mroIn X.K C (.type "object") = some true) (hr : Room (k + 1) X.A) : OpR X (compareOp .NotEq) (rNeO X.K C sp E0) := by
  obtain ⟨⟨fd, F, B⟩, kp⟩ := F
  exact op_neO F hm.at_ hm.fn hn ho B passL hr
theorem truO_of {e : Expr} {ta : TE} (F : FnG X.prog X.w X.K X.mg X.base k f ps sp) (hm : Meth X.K C "__bool__" f) (hr : Room k X.A) (ha : PE X e ta) (he : ∀ whole, isTrue e X.env whole = (do let v ← whole; standAt e.pos; holding [v] (truthy v)) := by intro _; rfl) : PT X e (tTruO C sp E0 ta) := by
  obtain ⟨⟨fd, F, B⟩, kp⟩ := F
  exact pt_truO F hm.at_ hm.fn B passL hr ha he
end
variable {K : PySem.W.Frag} {σ : L2.St} {H H' : Hp} {ta tb te tx tc : TE} {t u : TT} {d d1 d2 d3 : D} {ds es : List D}
theorem ed_inO {c : Str} {R : List D → D → Prop} {E : XK} {fs : List (Str × D)} {b neg : Bool} (ha : EvD K ta σ H d) (hb : EvD K tb σ H (.obj c fs)) (hR : R [.obj c fs, d] (.bl b)) : EvD K (tOp (rInO (He.ga K c) (spD K R) E neg) ta tb) σ H (.bl (if neg then !b else b)) := ed_op ha hb fun v1 v2 H1 _ a1 a2 Q q => by
  cases a2 with
  | obj ho af => exact ⟨_, _, _, rfl, ho, [.obj c fs, d], .bl b, .cons (.obj ho af) (.cons a1 .nil), hR, fun v H' e i => by cases i; exact ⟨b, rfl, q _ H' e (.bl _)⟩⟩
theorem ed_lenO {c : Str} {R : List D → D → Prop} {E : XK} {fs : List (Str × D)} {n : Int} (h : EvD K te σ H (.obj c fs)) (hR : R [.obj c fs] (.int n)) (hn : 0 ≤ n ∧ n < 2 ^ 63) : EvD K (tCB (rLenO (He.ga K c) (spD K R) E) (tCons te tNil)) σ H (.int n) := fun H1 e Q q =>
  h H1 e _ fun v H2 e2 a => by
    cases a with
    | obj ho af => exact ⟨_, _, _, rfl, ho, [.obj c fs], .int n, .cons (.obj ho af) .nil, hR, fun v H' e3 i => by cases i; exact ⟨n, rfl, hn, q _ H' (e2.trans e3) (.int _)⟩⟩
theorem ed_eqO {c : Str} {R : List D → D → Prop} {E : XK} {fs gs : List (Str × D)} {b : Bool} (ha : EvD K ta σ H (.obj c fs)) (hb : EvD K tb σ H (.obj c gs)) (hR : R [.obj c fs, .obj c gs] (.bl b)) : EvD K (tOp (rEqO K (He.ga K c) (spD K R) E) ta tb) σ H (.bl b) := ed_op ha hb fun v1 v2 H1 _ a1 a2 Q q => by
  cases a1 with
  | obj h1 f1 =>
    cases a2 with
    | obj h2 f2 => exact ⟨_, _, _, _, _, _, rfl, rfl, h1, h2, _, .bl b, .cons (.obj h1 f1) (.cons (.obj h2 f2) .nil), hR, fun v H' e i => by cases i; exact ⟨b, rfl, q _ H' e (.bl _)⟩⟩
theorem ed_neO {c : Str} {R : List D → D → Prop} {E : XK} {fs gs : List (Str × D)} {b : Bool} (ha : EvD K ta σ H (.obj c fs)) (hb : EvD K tb σ H (.obj c gs)) (hR : R [.obj c fs, .obj c gs] (.bl b)) : EvD K (tOp (rNeO K (He.ga K c) (spD K R) E) ta tb) σ H (.bl (!b)) := ed_op ha hb fun v1 v2 H1 _ a1 a2 Q q => by
  cases a1 with
  | obj h1 f1 =>
    cases a2 with
    | obj h2 f2 => exact ⟨_, _, _, _, _, _, rfl, rfl, h1, h2, _, .bl b, .cons (.obj h1 f1) (.cons (.obj h2 f2) .nil), hR, fun v H' e i => by cases i; exact ⟨b, rfl, q _ H' e (.bl _)⟩⟩
theorem et_truO {c : Str} {R : List D → D → Prop} {E : XK} {fs : List (Str × D)} {b : Bool} (h : EvD K te σ H (.obj c fs)) (hR : R [.obj c fs] (.bl b)) : EvT (tTruO (He.ga K c) (spD K R) E te) σ H b := fun H1 e Q q =>
  h H1 e _ fun v H2 e2 a => by
    cases a with
    | obj ho af => exact ⟨_, _, _, rfl, ho, [.obj c fs], .bl b, .cons (.obj ho af) .nil, hR, fun v H' e3 i => by cases i; exact ⟨b, rfl, q H' (e2.trans e3)⟩⟩
/-! ### a new object, to be changed -/
def EvO' (K : PySem.W.Frag) (te : TE) (σ : L2.St) (H : Hp) (c : Str) (fs : List (Str × D)) : Prop := ∀ H1, Ex H H1 → ∀ Q : VK, (∀ x dx fvs H2, H1 x = none → Ex H1 H2 → H2 x = some (.ins (He.ga K c) dx fvs) → AllF K H2 fvs fs → Q (.ref x) H2) → te σ H1 Q
theorem eo_make {c : Str} {R : List D → List (Str × D) → Prop} {E : XK} {tr : TA} {fs : List (Str × D)} {dvs : List V} (h : EvDA K tr σ H ds) (hd : ∀ H, All K H dvs es) (hR : R (ds ++ es) fs) : EvO' K (tMake (He.ga K c) (spI K c R) dvs E tr) σ H c fs := fun H1 e Q q =>
  h H1 e _ fun vs H2 e2 a x dx hx hdx ne => by
    have e3 : Ex H2 (upd (upd H2 dx (.own x)) x (.ins (He.ga K c) dx [])) := (Ex.new hdx).trans (Ex.new (by
      rw [upd_ne ne.symm]
      exact hx))
    refine ⟨x, dx, vs ++ dvs, ds ++ es, fs, H2, rfl, upd_same, hx, e3, a.app (hd H2), hR, fun H' fvs keep hx' af => ⟨rfl, q _ _ _ H' (fresh_back e2 hx) ?_ hx' af⟩⟩
    exact e2.trans fun b o hb => keep b o (ne_of_none hb hx) (e3 b o hb)
theorem q_asgO {D : Ends} {tz : TS} {i : Nat} {c : Str} {fs : List (Str × WD.D)} (h : EvO' K te σ H c fs) (k : ∀ x dx fvs H1, H x = none → Ex H H1 → H1 x = some (.ins (He.ga K c) dx fvs) → AllF K H1 fvs fs → tz D (σ.set i (some (.ref x))) H1) : tSeq (tAsg te (gName i)) tz D σ H := h H (Ex.refl H) _ k
/-- tuples sliced: any slice that leaves something out -/
theorem ed_slT {tl th : TO} {lo hi : Option Int} (h : EvD K te σ H (.tup ds)) (h1 : EvO tl σ H lo) (h2 : EvO th σ H hi) (hw : ¬ (HT.sIx ds.length 0 lo = 0 ∧ HT.sIx ds.length ds.length hi = ds.length)) : EvD K (tSl (rSlT K) te tl th) σ H (.tup (cutD ds lo hi)) := fun H1 e _ q =>
  h H1 e _ fun v H2 e2 a => by
    cases a with
    | tup hs a =>
      exact h1 H2 (e.trans e2) _ fun H3 e3 => h2 H3 ((e.trans e2).trans e3) _ fun H4 e4 =>
        ⟨_, _, rfl, ex_t (e3.trans e4) hs, by rw [a.len]; exact hw, fun p hp => q _ _ (((e2.trans e3).trans e4).trans (Ex.new hp)) (.tup (st_of upd_same) (cutA (a.ex ((e3.trans e4).trans (Ex.new hp)))))⟩
theorem sIx_some (n : Nat) (k : Nat) : HT.sIx n 0 (some (k : Int)) = min k n := HT.sIx_nat n 0 k
theorem sIx_someH (n : Nat) (k : Nat) : HT.sIx n n (some (k : Int)) = min k n := HT.sIx_nat n n k
theorem cut_to (xs : List D) (k : Nat) : cutD xs none (some (k : Int)) = xs.take k := by
  unfold cutD
  rw [sIx_someH, HT.sIx_none, Nat.sub_zero, List.drop_zero]
  by_cases h : k ≤ xs.length
  · rw [Nat.min_eq_left h]
  · rw [Nat.min_eq_right (by omega), List.take_of_length_le (Nat.le_refl _), List.take_of_length_le (by omega)]
theorem cut_from (xs : List D) (k : Nat) : cutD xs (some (k : Int)) none = xs.drop k := by
  unfold cutD
  rw [sIx_some, HT.sIx_none]
  by_cases h : k ≤ xs.length
  · rw [Nat.min_eq_left h, List.take_of_length_le (by rw [List.length_drop]; exact Nat.le_refl _)]
  · rw [Nat.min_eq_right (by omega), Nat.sub_self, List.drop_eq_nil_of_le (Nat.le_refl _), List.drop_eq_nil_of_le (by omega)] <;> rfl
end WD
end
section
set_option Elab.async false
set_option linter.all false
set_option maxRecDepth 100000
namespace WD
open PySem PySem.Spec PyProof.Rows L2 Evl
variable {K : PySem.W.Frag} {σ : L2.St} {H H' H0 H1 : Hp} {ta tb te tx tc : TE} {d d1 d2 d3 : D} {ds es : List D}
theorem ed_catA (ha : EvD K ta σ H (.tup ds)) (hb : EvD K tb σ H (.tup es)) (hl : ds.length + es.length ≤ 100000) : EvD K (tOp (rCatA K) ta tb) σ H (.tup (ds ++ es)) := ed_op ha hb fun v1 v2 H1 _ a1 a2 Q q => by
  cases a1 with
  | tup s1 a1 =>
    cases a2 with
    | tup s2 a2 =>
      refine ⟨_, _, _, _, rfl, rfl, s1, s2, sz_of (by rw [a1.len, a2.len]; exact hl), ?_, ?_, ?_⟩
      · intro z
        subst z
        cases a1
        exact q _ _ (Ex.refl _) (.tup s2 a2)
      · intro _ z
        subst z
        cases a2
        rw [List.append_nil] at q
        exact q _ _ (Ex.refl _) (.tup s1 a1)
      · intro _ _ p hp
        exact q _ _ (Ex.new hp) (.tup (st_of upd_same) ((a1.ex (Ex.new hp)).app (a2.ex (Ex.new hp))))
theorem ed_slA {tl th : TO} {lo hi : Option Int} (h : EvD K te σ H (.tup ds)) (h1 : EvO tl σ H lo) (h2 : EvO th σ H hi) : EvD K (tSl (rSlA K) te tl th) σ H (.tup (cutD ds lo hi)) := fun H1 e _ q =>
  h H1 e _ fun v H2 e2 a => by
    cases a with
    | tup hs a =>
      refine h1 H2 (e.trans e2) _ fun H3 e3 => h2 H3 ((e.trans e2).trans e3) _ fun H4 e4 => ⟨_, _, rfl, ex_t (e3.trans e4) hs, ?_, ?_⟩
      · intro hw
        rw [a.len] at hw
        refine q _ _ ((e2.trans e3).trans e4) ?_
        have z : cutD ds lo hi = ds := by
          unfold cutD
          rw [hw.1, hw.2, List.drop_zero, Nat.sub_zero, List.take_length]
        rw [z]
        exact .tup (ex_t (e3.trans e4) hs) (a.ex (e3.trans e4))
      · intro _ p hp
        exact q _ _ (((e2.trans e3).trans e4).trans (Ex.new hp)) (.tup (st_of upd_same) (cutA (a.ex ((e3.trans e4).trans (Ex.new hp)))))
theorem Ex.updN {p : Addr} {o : HO} (e : Ex H0 H) (n : H0 p = none) : Ex H0 (upd H p o) := fun a u h => by
  rw [upd_ne (ne_of_none h n)]
  exact e a u h
theorem gtL {p : Addr} {xs : List V} {o : HO} (h : H p = some (.lst xs)) : Gt H (upd H p o) := Gt.upd h (fun _ z => by cases z) (fun _ _ z => by cases z)
theorem Is.updL {p : Addr} {xs : List V} {o : HO} {v : V} (a : Is K H v d) (h : H p = some (.lst xs)) (l : d.lf = true) : Is K (upd H p o) v d := a.gt (gtL h) l
theorem All.updL {p : Addr} {xs ys : List V} {o : HO} (a : All K H ys ds) (h : H p = some (.lst xs)) (l : D.lfs ds = true) : All K (upd H p o) ys ds := a.gt (gtL h) l
/-- what stands in the first ones -/
def S (v : List Rat) (j : Nat) : Rat := (v.take j).foldl (· + ·) 0
theorem S_zero (v : List Rat) : S v 0 = 0 := rfl
theorem S_succ (v : List Rat) (j : Nat) (h : j < v.length) : S v (j + 1) = S v j + v[j] := by
  unfold S
  rw [List.take_succ_eq_append_getElem h, List.foldl_append]
  rfl
theorem getD_frs (v : List Rat) (i : Nat) (h : i < v.length) : (frs v).getD i .non = fr v[i] := getD_map fr v i h
/-- a loop that puts things behind a list of its own, one each time -/
theorem q_grow {wi : TI} {g : TG} {tw tz : TS} {En : Ends} {n : Nat} {item f : Nat → WD.D} {W : L2.St → Prop} {p : Addr} {xs : List V} {es : List WD.D} (hp0 : H0 p = none) (e0 : Ex H0 H) (hp : H p = some (.lst xs)) (ax : All K H xs es) (hf : D.lfs es = true) (hF : ∀ i, i < n → (f i).lf = true) (hz : es.length + n < 100000)
    (hI : EvI K wi σ [p] H n item) (h0 : W σ)
    (hs : ∀ i x σ' H' ys, i < n → W σ' → Ex H0 H' → H' p = some (.lst ys) → All K H' ys (es ++ (List.range i).map f) → ys.length < 100000 → Is K H' x (item i) → ∀ Nx : L2.St → Hp → Prop,
      (∀ σ3 H3 v, W σ3 → Ex H' H3 → Is K H3 v (f i) → Nx σ3 (upd H3 p (.lst (ys ++ [v])))) → g x σ' H' fun σ2 H2 => tw { En with nx := Nx, ct := Nx, bk := tz En } σ2 H2)
    (hd : ∀ σ' H' ys, W σ' → Ex H0 H' → H' p = some (.lst ys) → All K H' ys (es ++ (List.range n).map f) → tz En σ' H') : tSeq (tFor wi g tw) tz En σ H := by
  have lfi : ∀ i, i ≤ n → D.lfs (es ++ (List.range i).map f) = true := fun i hi => lfs_app hf (by
    induction i with
    | zero => rfl
    | succ i ih =>
      rw [List.range_succ, List.map_append]
      refine lfs_app (ih (by omega)) ?_
      show ((f i).lf && true) = true
      rw [hF i (by omega)]
      rfl)
  refine q_for hI (fun i σ' H' => W σ' ∧ Ex H0 H' ∧ ∃ ys, H' p = some (.lst ys) ∧ All K H' ys (es ++ (List.range i).map f)) (fun H1 e => ⟨h0, e0.trans e, xs, e _ _ hp, by
    rw [List.range_zero, List.map_nil, List.append_nil]
    exact ax.ex e⟩) ?_ (fun σ' H' ⟨w, e, ys, hy, ay⟩ => hd σ' H' ys w e hy ay)
  rintro i x σ' H' H'' hi ⟨w, e, ys, hy, ay⟩ e2 a
  refine hs i x σ' H'' ys hi w (e.trans e2) (e2 _ _ hy) (ay.ex e2) ?_ a _ ?_
  · rw [ay.len, List.length_append, List.length_map, List.length_range]
    omega
  · intro σ3 H3 v w3 e3 av
    have hy3 := (e2.trans e3) _ _ hy
    refine ⟨⟨w3, Ex.updN ((e.trans e2).trans e3) hp0, _, upd_same, ?_⟩, (Mu.ex (e2.trans e3)).trans (Mu.upd (List.mem_singleton.mpr rfl) hy3)⟩
    rw [List.range_succ, List.map_append, ← List.append_assoc]
    exact All.app ((ay.ex (e2.trans e3)).updL hy3 (lfi i (by omega))) (.cons (av.updL hy3 (hF i hi)) .nil)
theorem EvI.is {wi : TI} {σ : L2.St} {L : List Addr} {H : Hp} {n m : Nat} {item : Nat → D} (h : EvI K wi σ L H n item) (q : n = m) : EvI K wi σ L H m item := q ▸ h
theorem ix_last (ds : List D) (d : D) : atI (ds ++ [d]) (-1) = some d := by
  unfold atI
  rw [show ixN (ds ++ [d]).length (-1) = some ds.length from by
    unfold ixN
    rw [List.length_append, if_neg (by decide), if_pos (by simp; omega)]
    congr 1
    simp
    omega]
  simp
end WD
end
section
set_option Elab.async false
set_option linter.all false
set_option maxRecDepth 100000
namespace WD
open PySem PySem.Spec PyProof.Rows L2 Evl
variable {X : Cx} {K : PySem.W.Frag}
/-! the same with the frozen part named: for what stands within a comprehension -/
theorem notInK (h : X.K = K) : OpR X (compareOp .NotIn) (rIn K true) := h ▸ op_notIn_seq
theorem inK (h : X.K = K) : OpR X (compareOp .In) (rIn K false) := h ▸ op_in_seq
theorem ixTK (h : X.K = K) : IxR X (rIxT K) := h ▸ ix_tup
theorem ixLK (h : X.K = K) : IxR X (rIxL K) := h ▸ ix_list
theorem slLK (h : X.K = K) : SlR X (rSlL K) := h ▸ sl_list
theorem slAK (h : X.K = K) : SlR X (rSlA K) := h ▸ sl_tupA
theorem catAK (h : X.K = K) : OpR X (binaryOp .Add) (rCatA K) := h ▸ op_catA
theorem lenK (h : X.K = K) : CallR X (.builtin "len") (rLenS K) := h ▸ call_lenS
theorem isiK (h : X.K = K) : CallR X (.builtin "isinstance") (rIsi K) := h ▸ call_isi
theorem eqDK (h : X.K = K) (hu : X.A.units + 64 < cLine) : OpR X (compareOp .Eq) (rEqD K) := h ▸ op_eqD hu
theorem neDK (h : X.K = K) (hu : X.A.units + 64 < cLine) : OpR X (compareOp .NotEq) (rNeD K) := h ▸ op_neD hu
theorem fldK {e : Expr} {ta : TE} {f : Str} {pos : Pos} (h : X.K = K) (he : PE X e ta) (hb : attributeBase e f X.env (eval e X.env) = eval e X.env) : PE X (.Attribute e f pos) (tFld K ta f) := h ▸ pe_fld he hb
end WD
end
section
set_option Elab.async false
set_option linter.all false
set_option maxRecDepth 100000
namespace WD
/-! small fractions -/
theorem smMk {k : Nat} {n : Int} {b : Nat} (h0 : b ≠ 0) (hn : n.natAbs < 2 ^ k) (hb : b < 2 ^ k) : Sm k (mkRat n b) := by
  rw [Rat.mkRat_def, dif_neg h0]
  refine ⟨?_, ?_⟩
  · rw [Rat.num_normalize]
    rw [Int.natAbs_ediv_of_dvd (Int.ofNat_dvd_left.mpr (Nat.gcd_dvd_left _ _))]
    exact Nat.lt_of_le_of_lt (Nat.div_le_self _ _) hn
  · rw [Rat.den_normalize]
    exact Nat.lt_of_le_of_lt (Nat.div_le_self _ _) hb
theorem Sm.add {n m : Nat} {p q : Rat} (a : Sm n p) (b : Sm m q) : Sm (n + m + 1) (p + q) := by
  rw [Rat.add_def']
  refine smMk (Nat.mul_ne_zero p.den_nz q.den_nz) ?_ ?_
  · refine Nat.lt_of_le_of_lt (Int.natAbs_add_le _ _) ?_
    rw [Int.natAbs_mul, Int.natAbs_mul, Int.natAbs_natCast, Int.natAbs_natCast, Nat.pow_succ, Nat.pow_add, Nat.mul_two]
    have h1 := Nat.mul_lt_mul_of_lt_of_le a.num (Nat.le_of_lt b.den) (Nat.two_pow_pos m)
    have h2 := Nat.mul_lt_mul_of_lt_of_le b.num (Nat.le_of_lt a.den) (Nat.two_pow_pos n)
    rw [Nat.mul_comm (2 ^ m) (2 ^ n)] at h2
    omega
  · have h := Nat.mul_lt_mul_of_lt_of_le a.den (Nat.le_of_lt b.den) (Nat.two_pow_pos m)
    rw [Nat.pow_succ, Nat.pow_add]
    omega
theorem Sm.mul {n m : Nat} {p q : Rat} (a : Sm n p) (b : Sm m q) : Sm (n + m) (p * q) := by
  rw [Rat.mul_def']
  refine smMk (Nat.mul_ne_zero p.den_nz q.den_nz) ?_ ?_
  · rw [Int.natAbs_mul, Nat.pow_add]
    exact Nat.mul_lt_mul_of_lt_of_le a.num (Nat.le_of_lt b.num) (Nat.two_pow_pos m)
  · rw [Nat.pow_add]
    exact Nat.mul_lt_mul_of_lt_of_le a.den (Nat.le_of_lt b.den) (Nat.two_pow_pos m)
theorem Sm.neg {n : Nat} {p : Rat} (a : Sm n p) : Sm n (-p) := ⟨by
  rw [Rat.neg_num, Int.natAbs_neg]
  exact a.num, by
  rw [Rat.neg_den]
  exact a.den⟩
theorem Sm.sub {n m : Nat} {p q : Rat} (a : Sm n p) (b : Sm m q) : Sm (n + m + 1) (p - q) := by
  rw [Rat.sub_eq_add_neg]
  exact a.add b.neg
theorem Sm.int {n : Nat} {i : Int} (h : i.natAbs < 2 ^ n) (hn : 1 ≤ n) : Sm n (i : Rat) := ⟨h, Nat.one_lt_two_pow (by omega)⟩
theorem fr_int (i : Int) : fr (i : Rat) = .tup [.int i, .int 1] := rfl
theorem fr_over {n : Nat} (h : n ≠ 0) : fr (mkRat 1 n) = .tup [.int 1, .int (n : Int)] := by
  have e := mkRat_pair (n := 1) h
  have g : Nat.gcd (1 : Int).natAbs n = 1 := Nat.gcd_one_left n
  rw [g] at e
  unfold fr
  rw [← e.1, ← e.2]
  simp
end WD
end
section
set_option Elab.async false
set_option linter.all false
set_option maxRecDepth 100000
namespace WD
open PySem PySem.Spec PyProof.Rows L2 Evl
section
variable {K : PySem.W.Frag} {σ : L2.St} {H H' : Hp} {ta tb te tx tc : TE} {t u : TT} {d d1 d2 d3 : D} {ds es : List D}
theorem Mu.un {L : List Addr} {p : Addr} {H H2 H' : Hp} (hp : H p = none) (e : Ex H H2) (mu : Mu (p :: L) H2 H') : Mu L H H' := ⟨fun a o n h => mu.1 a o (fun z => by
  rcases List.mem_cons.mp z with z | z
  · subst z
    rw [hp] at h
    cases h
  · exact n z) (e a o h), (Gt.of e).trans mu.2⟩
theorem Mu.more {L L' : List Addr} {H H' : Hp} (m : Mu L H H') (h : ∀ a ∈ L, a ∈ L') : Mu L' H H' := ⟨fun a o n k => m.1 a o (fun z => n (h a z)) k, m.2⟩
theorem Mu.keep {L : List Addr} {H H' : Hp} {a : Addr} {o : HO} (m : Mu L H H') (n : a ∉ L) (h : H a = some o) : H' a = some o := m.1 a o n h
/-- a list built while other things change: Inv by the turn -/
theorem en_lcM {wi : TI} {g : TG} {Q : VK} {n : Nat} {item : Nat → D} {vs : List Nat} {L : List Addr} (Inv : Nat → Hp → Prop) (f : Nat → Bool) (v : Nat → D) (hI : EvI K wi σ L H n item) (hL : ∀ l ∈ L, ∃ o, H l = some o) (hn : n ≤ 50000) (hf : ∀ i, i < n → f i = true → (v i).lf = true)
    (hst : ∀ i D Ha Hb, H D = none → Inv i Ha → Mu [D] Ha Hb → Inv i Hb) (h0 : Inv 0 H)
    (hs : ∀ i x H1, i < n → Inv i H1 → Mu L H H1 → Is K H1 x (item i) → ∀ (Y : VK) (N : Hp → Prop), (∀ y H4, f i = true → Is K H4 y (v i) → Inv (i + 1) H4 → Mu L H1 H4 → Y y H4) → (∀ H3, f i = false → Inv (i + 1) H3 → Mu L H1 H3 → N H3) →
      g x (wipe σ vs) H1 fun σ2 H2 => wipe σ2 vs = wipe σ vs ∧ t σ2 H2 fun b H3 => if b = true then te σ2 H3 Y else N H3)
    (q : ∀ p xs H', H p = none → Mu L H H' → Inv n H' → H' p = some (.lst xs) → All K H' xs (gives n f v) → Q (.ref p) H') : tLc wi g t te vs σ H Q := hI _ fun J H2 Ps e2 w Dl hD => by
  have hDH : H Dl = none := fresh_back e2 hD
  have hDL : Dl ∉ L := fun z => by
    obtain ⟨o, ho⟩ := hL _ z
    rw [hDH] at ho
    cases ho
  have hst' : ∀ i Ha Hb, Inv i Ha → Ex Ha Hb → Inv i Hb := fun i Ha Hb h e => hst i Dl Ha Hb hDH h (Mu.ex e)
  refine ⟨fun i m H' => m = n - i ∧ i ≤ n ∧ Mu (Dl :: L) (L2.upd H2 Dl (.lst [])) H' ∧ Inv i H' ∧ ∃ acc, H' Dl = some (.lst acc) ∧ All K H' acc (gives i f v), ⟨n, by simp, Nat.zero_le _, Mu.refl _ _, hst' 0 _ _ h0 (e2.trans (Ex.new hD)), [], upd_same, .nil⟩, ?_⟩
  rintro i m H' ⟨rfl, hi, mu, iv, acc, hacc, aa⟩
  have ps0 : Ps (L2.upd H2 Dl (.lst [])) := w.stays [] (by simp) H2 _ w.here (Mu.ex (Ex.new hD))
  have ps : Ps H' := w.stays (Dl :: L) (fun l h => by
    rcases List.mem_cons.mp h with h | h
    · exact .inr (by rw [h]; exact hD)
    · exact .inl h) _ H' ps0 mu
  have mu0 : Mu L H H' := Mu.un hDH (e2.trans (Ex.new hD)) mu
  by_cases hlt : i < n
  · obtain ⟨g1, g2⟩ := w.go H' ps i hlt
    refine .inr ⟨g1, fun H3 => Mu (Dl :: L) (L2.upd H2 Dl (.lst [])) H3 ∧ Inv (i + 1) H3 ∧ ∃ acc, H3 Dl = some (.lst acc) ∧ All K H3 acc (gives (i + 1) f v), fun H3 q => ⟨n - (i + 1), by omega, rfl, by omega, q.1, q.2⟩, fun x H3 hy => ?_⟩
    obtain ⟨e3, a⟩ := g2 x H3 hy
    have hacc3 := e3 _ _ hacc
    have aa3 := aa.ex e3
    have mu3 := mu.trans (Mu.ex e3)
    have lfa : D.lfs (gives i f v) = true := gives_lf i fun j hj => hf j (by omega)
    refine hs i x H3 hlt (hst' i _ _ iv e3) (mu0.trans (Mu.ex e3)) a _ _ ?_ ?_
    · intro y H6 f1 ay iv6 mu6
      have hacc6 := mu6.keep hDL hacc3
      refine ⟨acc, hacc6, sz_lt (by
        rw [aa.len]
        have := gives_len i f v
        omega), (mu3.trans (mu6.more fun a h => List.mem_cons_of_mem _ h)).trans (Mu.upd (List.mem_cons_self ..) hacc6), hst _ Dl _ _ hDH iv6 (Mu.upd (List.mem_singleton.mpr rfl) hacc6), _, upd_same, ?_⟩
      rw [gives_yes f1]
      have gt : Gt H6 (L2.upd H6 Dl (.lst (acc ++ [y]))) := Gt.lst hacc6
      exact ((aa3.gt mu6.2 lfa).gt gt lfa).app (All.one (ay.gt gt (hf i hlt f1)))
    · intro H6 f1 iv6 mu6
      refine ⟨mu3.trans (mu6.more fun a h => List.mem_cons_of_mem _ h), iv6, acc, mu6.keep hDL hacc3, ?_⟩
      rw [gives_no f1]
      exact aa3.gt mu6.2 lfa
  · have e : i = n := by omega
    subst e
    exact .inl ⟨w.stop H' ps, q Dl acc H' hDH mu0 iv hacc aa⟩
/-- o.m(..) that changes things -/
theorem em_meth {C dx x : Addr} {m : Str} {fvs : List (Str × V)} {sp : Sp} {tr : TA} {E : XK} {Q : VK} (ho : Ev te σ H (.ref x)) (hx : H x = some (.ins C dx fvs)) (hl : fvs.lookup m = none) (hr : EvDA K tr σ H ds) (k : ∀ vs H1, Ex H H1 → All K H1 vs ds → sp (.ref x :: vs) H1 Q E) : tMeth C m sp [] E te tr σ H Q :=
  ho H (Ex.refl H) _ fun H1 e1 => ⟨x, dx, fvs, rfl, e1 _ _ hx, hl, hr H1 e1 _ fun vs H2 e2 a => by
    rw [List.append_nil]
    exact k vs H2 (e1.trans e2) a⟩
theorem ed_fldX {C dx x : Addr} {f : Str} {fvs : List (Str × V)} {v : V} (ho : Ev te σ H (.ref x)) (hx : H x = some (.ins C dx fvs)) (hc : Cls K C) (hn : NoAttr K C f) (hl : fvs.lookup f = some v) (a : Is K H v d) : EvD K (tFld K te f) σ H d := fun H1 e Q q =>
  ho H1 e _ fun H2 e2 => ⟨x, C, dx, fvs, v, rfl, (e.trans e2) _ _ hx, hc, hn, hl, q v H2 e2 (a.ex (e.trans e2))⟩
theorem ev_fldX {C dx x : Addr} {f : Str} {fvs : List (Str × V)} {v : V} (ho : Ev te σ H (.ref x)) (hx : H x = some (.ins C dx fvs)) (hc : Cls K C) (hn : NoAttr K C f) (hl : fvs.lookup f = some v) : Ev (tFld K te f) σ H v := fun H1 e Q q =>
  ho H1 e _ fun H2 e2 => ⟨x, C, dx, fvs, v, rfl, (e.trans e2) _ _ hx, hc, hn, hl, q H2 e2⟩
theorem all_ints : ∀ (H : Hp) (ts : List Int), All K H (ts.map V.int) (iL ts)
  | _, [] => .nil
  | H, t :: ts => .cons (.int t) (all_ints H ts)
end
end WD
end
section
set_option Elab.async false
set_option linter.all false
set_option maxRecDepth 100000
namespace WD
open PySem PySem.Spec PyProof.Rows L2 Evl
section
variable {X : Cx} {K : PySem.W.Frag} {σ : L2.St} {H : Hp} {ta tb : TE}
def rLcm : List V → Hp → VK → Prop := fun vs H Q => ∃ a b : Nat, vs = [.int (a : Int), .int (b : Int)] ∧ a < 2 ^ 6000 ∧ b < 2 ^ 6000 ∧ Q (.int ((Nat.lcm a b : Nat) : Int)) H
theorem cr_lcm : CallR X (.builtin "math.lcm") rLcm := by
  intro pins s σ H vs us Q I r h
  obtain ⟨a, b, rfl, ha, hb, q⟩ := h
  obtain ⟨t, u, rfl⟩ := Vals.int2 r
  have e : (((Nat.lcm 1 ((a : Int)).natAbs).lcm ((b : Int)).natAbs : Nat) : Int) = ((Nat.lcm a b : Nat) : Int) := by
    rw [Int.natAbs_natCast, Int.natAbs_natCast, show Nat.lcm 1 a = a from by simp [Nat.lcm]]
  have l1 : (max 1 ((a : Int)).natAbs).log2 ≤ 6000 := PySem.W.mg_log (Nat.lt_of_lt_of_le (by
    rw [Int.natAbs_natCast]
    show max 1 a < 2 ^ 6000
    exact Nat.max_lt.mpr ⟨Nat.one_lt_two_pow (by decide), ha⟩) (Nat.pow_le_pow_right (by decide) (by decide)))
  have l2 : (max ((a : Int)).natAbs ((b : Int)).natAbs).log2 ≤ 6000 := PySem.W.mg_log (Nat.lt_of_lt_of_le (by
    rw [Int.natAbs_natCast, Int.natAbs_natCast]
    show max a b < 2 ^ 6000
    exact Nat.max_lt.mpr ⟨ha, hb⟩) (Nat.pow_le_pow_right (by decide) (by decide)))
  have hs : ((((Nat.lcm 1 ((a : Int)).natAbs).lcm ((b : Int)).natAbs : Nat) : Int)).natAbs.log2 < bitsLine := by
    rw [e, Int.natAbs_natCast]
    refine Nat.lt_of_le_of_lt (PySem.W.mg_log (k := 12000) ?_) (by decide)
    refine Nat.lt_of_lt_of_le (?_ : _ < 2 ^ 12000) (Nat.pow_le_pow_right (by decide) (by decide))
    have h1 : Nat.lcm a b ≤ a * b := by
      unfold Nat.lcm
      exact Nat.div_le_self _ _
    refine Nat.lt_of_le_of_lt h1 ?_
    rw [show (12000 : Nat) = 6000 + 6000 from rfl, Nat.pow_add]
    exact Nat.mul_lt_mul_of_lt_of_le ha (Nat.le_of_lt hb) (Nat.two_pow_pos _)
  refine call_function_meets PySem.W.MGF.kind_lcm PySem.W.MGF.plain_lcm PySem.W.MGF.entry_lcm (PySem.W.MGF.args_lcm _ _) (PySem.W.mg_run_lcm (a : Int) t (b : Int) u (by omega) (by omega) hs).meets ?_
  exact ⟨.int _, H, I.tok _, ⟨_, congrArg (fun z => Value.int z _) e⟩, q⟩
theorem ed_lcm {i j : Nat} (ha : EvD K ta σ H (.int (i : Int))) (hb : EvD K tb σ H (.int (j : Int))) (hi : i < 2 ^ 6000) (hj : j < 2 ^ 6000) : EvD K (tCB rLcm (tCons ta (tCons tb tNil))) σ H (.int ((Nat.lcm i j : Nat) : Int)) := fun H1 e Q q =>
  ha H1 e _ fun v H2 e2 a => hb H2 (e.trans e2) _ fun w H3 e3 b => by
    cases a; cases b
    exact ⟨i, j, rfl, hi, hj, q _ H3 (e2.trans e3) (.int _)⟩
end
end WD
end
section
set_option Elab.async false
set_option linter.all false
set_option maxRecDepth 100000
namespace WD
open PySem PySem.Spec PyProof.Rows L2 Evl
theorem tupK {X : Cx} {K : PySem.W.Frag} {es : List Expr} {k : Nat} {t : TGs} {n : Nat} {pos : Pos} (h : X.K = K) (hc : X.calm = true) (ht : PGs X es t)
    (hn : (assignEach es X.env).length = n := by rfl) (hst : (assignEach es X.env).findIdx? (·.1) = none := by rfl) : PG X (.Tuple es k pos) (gTup K n t) := h ▸ pg_tup hc ht hn hst
/-! fractions over one number below -/
theorem mkRat_den_dvd (n : Int) {d : Nat} (hd : d ≠ 0) : (mkRat n d).den ∣ d := by
  rw [Rat.mkRat_def, dif_neg hd, Rat.den_normalize]
  exact Nat.div_dvd_of_dvd (Nat.gcd_dvd_right _ _)
theorem num_of (q : Rat) : q * ((q.den : Int) : Rat) = (q.num : Rat) := by
  have h := Rat.mkRat_self q
  rw [Rat.mkRat_eq_div] at h
  have h1 : ((q.den : Nat) : Rat) = ((q.den : Int) : Rat) := rfl
  have h2 : ((q.den : Int) : Rat) ≠ 0 := by
    have := q.den_pos
    exact_mod_cast (by omega : (q.den : Int) ≠ 0)
  rw [h1] at h
  grind
theorem over_of_dvd {q : Rat} {M : Nat} (h : q.den ∣ M) : q * ((M : Int) : Rat) = ((q.num * ((M / q.den : Nat) : Int) : Int) : Rat) := by
  obtain ⟨c, rfl⟩ := h
  rw [Nat.mul_div_cancel_left _ q.den_pos, Rat.intCast_mul, Int.natCast_mul, Rat.intCast_mul, ← Rat.mul_assoc]
  rw [num_of]
theorem dvd_of_over {q : Rat} {M : Nat} {n : Int} (h0 : M ≠ 0) (h : q * ((M : Int) : Rat) = (n : Rat)) : q.den ∣ M := by
  have hm : ((M : Int) : Rat) ≠ 0 := by exact_mod_cast (show (M : Int) ≠ 0 by omega)
  have e : q = mkRat n M := by
    rw [Rat.mkRat_eq_div]
    have : ((M : Nat) : Rat) = ((M : Int) : Rat) := rfl
    grind
  rw [e]
  exact mkRat_den_dvd n h0
theorem den_add {p q : Rat} {M : Nat} (h0 : M ≠ 0) (hp : p.den ∣ M) (hq : q.den ∣ M) : (p + q).den ∣ M := by
  refine dvd_of_over (n := p.num * ((M / p.den : Nat) : Int) + q.num * ((M / q.den : Nat) : Int)) h0 ?_
  rw [Rat.add_mul, over_of_dvd hp, over_of_dvd hq, Rat.intCast_add]
theorem S_den {v : List Rat} {M : Nat} (h0 : M ≠ 0) (h : ∀ q ∈ v, q.den ∣ M) : ∀ j, j ≤ v.length → (S v j).den ∣ M
  | 0, _ => ⟨M, (Nat.one_mul M).symm⟩
  | j + 1, hj => by
    rw [S_succ v j hj]
    exact den_add h0 (S_den h0 h j (by omega)) (h _ (List.getElem_mem _))
theorem S_step {v : List Rat} (h : ∀ q ∈ v, 0 ≤ q) {j : Nat} (hj : j < v.length) : S v j ≤ S v (j + 1) := by
  rw [S_succ v j hj]
  have := h _ (List.getElem_mem hj)
  grind
theorem S_mono {v : List Rat} (h : ∀ q ∈ v, 0 ≤ q) {i : Nat} : ∀ {j : Nat}, i ≤ j → j ≤ v.length → S v i ≤ S v j
  | 0, h1, _ => by
    have : i = 0 := by omega
    subst this
    exact Rat.le_refl
  | j + 1, h1, h2 => by
    by_cases e : i = j + 1
    · subst e
      exact Rat.le_refl
    · exact Rat.le_trans (S_mono h (show i ≤ j by omega) (by omega)) (S_step h h2)
theorem S_nn {v : List Rat} (h : ∀ q ∈ v, 0 ≤ q) {j : Nat} (hj : j ≤ v.length) : 0 ≤ S v j := S_mono h (Nat.zero_le j) hj
/-- a row of sizes that are told -/
structure RowOk (A : List Int) (v : List Rat) (M W : Nat) : Prop where
  len : v.length = A.length
  a1 : 1 ≤ A.length
  al : A.length ≤ 24
  ar : ∀ a ∈ A, 1 ≤ a ∧ a ≤ 1000
  m0 : 0 < M
  m1 : M < 2 ^ 400
  w1 : W < 2 ^ 400
  nn : ∀ q ∈ v, 0 ≤ q
  dn : ∀ q ∈ v, q.den ∣ M
  tot : S v v.length ≤ ((W : Int) : Rat)
theorem sm_of {q : Rat} {M W : Nat} (m0 : 0 < M) (m1 : M < 2 ^ 400) (w1 : W < 2 ^ 400) (h0 : 0 ≤ q) (h1 : q ≤ ((W : Int) : Rat)) (hd : q.den ∣ M) : Sm 800 q := by
  have dl := Nat.le_of_dvd m0 hd
  refine ⟨?_, Nat.lt_of_le_of_lt dl (Nat.lt_of_lt_of_le m1 (Nat.pow_le_pow_right (by decide) (by decide)))⟩
  have hden : (0 : Rat) ≤ ((q.den : Int) : Rat) := by exact_mod_cast Int.natCast_nonneg q.den
  have e : ((q.num : Int) : Rat) = q * ((q.den : Int) : Rat) := (num_of q).symm
  have n0 : (0 : Rat) ≤ ((q.num : Int) : Rat) := by
    rw [e]
    exact Rat.mul_nonneg h0 hden
  have n1 : ((q.num : Int) : Rat) ≤ (((W : Int) * (q.den : Int) : Int) : Rat) := by
    rw [e, Rat.intCast_mul]
    exact Rat.mul_le_mul_of_nonneg_right h1 hden
  have z0 : 0 ≤ q.num := by exact_mod_cast n0
  have z1 : q.num ≤ (W : Int) * (q.den : Int) := by exact_mod_cast n1
  have z2 : q.num.natAbs ≤ W * q.den := by
    rw [← Int.natCast_mul] at z1
    omega
  have z3 : W * q.den ≤ W * M := Nat.mul_le_mul_left _ dl
  have z4 : W * M < 2 ^ 400 * 2 ^ 400 := Nat.mul_lt_mul_of_lt_of_le w1 (Nat.le_of_lt m1) (Nat.two_pow_pos _)
  rw [← Nat.pow_add] at z4
  omega
theorem RowOk.sumOk {A : List Int} {v : List Rat} {M W : Nat} (h : RowOk A v M W) {j : Nat} (hj : j ≤ v.length) : 0 ≤ S v j ∧ S v j ≤ ((W : Int) : Rat) ∧ (S v j).den ∣ M ∧ Sm 800 (S v j) := by
  have a := S_nn h.nn hj
  have b := Rat.le_trans (S_mono h.nn hj (Nat.le_refl _)) h.tot
  have c := S_den (by have := h.m0; omega) h.dn j hj
  exact ⟨a, b, c, sm_of h.m0 h.m1 h.w1 a b c⟩
theorem RowOk.le {A : List Int} {v : List Rat} {M W : Nat} (h : RowOk A v M W) {q : Rat} (hq : q ∈ v) : q ≤ ((W : Int) : Rat) := by
  obtain ⟨j, hj, rfl⟩ := List.getElem_of_mem hq
  have a := (h.sumOk (show j ≤ v.length by omega)).1
  have b := (h.sumOk (show j + 1 ≤ v.length by omega)).2.1
  rw [S_succ v j hj] at b
  grind
theorem RowOk.sm {A : List Int} {v : List Rat} {M W : Nat} (h : RowOk A v M W) {q : Rat} (hq : q ∈ v) : Sm 800 q := sm_of h.m0 h.m1 h.w1 (h.nn q hq) (h.le hq) (h.dn q hq)
section
variable {K : PySem.W.Frag} {σ : L2.St} {H : Hp} {te : TE} {ds : List D}
theorem EvI.item {wi : TI} {L : List Addr} {n : Nat} {item item' : Nat → D} (h : EvI K wi σ L H n item) (q : ∀ i, i < n → item i = item' i) : EvI K wi σ L H n item' := fun R r => h R fun J H2 Ps e w => r J H2 Ps e ⟨w.here, w.stays, fun H3 p i hi => ⟨(w.go H3 p i hi).1, fun x H4 y => ⟨((w.go H3 p i hi).2 x H4 y).1, q i hi ▸ ((w.go H3 p i hi).2 x H4 y).2⟩⟩, w.stop⟩
theorem q_fldN {En : Ends} {tz : TS} {ta : TE} {f : Str} {x C dx : Addr} {fvs : List (Str × V)} (hx : H x = some (.ins C dx fvs)) (h : EvN K te σ H ds) (ho : Ev ta σ H (.ref x)) (hc : Cls K C) (hn : NoAttr K C f) (hl : fvs.length < 1000)
    (k : ∀ p xs H1, H p = none → Ex H H1 → H1 p = some (.lst xs) → All K H1 xs ds → tz En σ (upd H1 x (.ins C dx (putF f (.ref p) fvs)))) : tSeq (sFld K ta te f) tz En σ H :=
  h H (Ex.refl H) _ fun p xs H1 hp e1 hx1 a => ho H1 e1 _ fun H2 e2 => ⟨x, C, dx, fvs, rfl, (e1.trans e2) _ _ hx, hc, hn, hl, k p xs H2 hp (e1.trans e2) (e2 _ _ hx1) (a.ex e2)⟩
theorem s_fldN {En : Ends} {ta : TE} {f : Str} {x C dx : Addr} {fvs : List (Str × V)} (hx : H x = some (.ins C dx fvs)) (h : EvN K te σ H ds) (ho : Ev ta σ H (.ref x)) (hc : Cls K C) (hn : NoAttr K C f) (hl : fvs.length < 1000)
    (k : ∀ p xs H1, H p = none → Ex H H1 → H1 p = some (.lst xs) → All K H1 xs ds → En.nx σ (upd H1 x (.ins C dx (putF f (.ref p) fvs)))) : sFld K ta te f En σ H :=
  h H (Ex.refl H) _ fun p xs H1 hp e1 hx1 a => ho H1 e1 _ fun H2 e2 => ⟨x, C, dx, fvs, rfl, (e1.trans e2) _ _ hx, hc, hn, hl, k p xs H2 hp (e1.trans e2) (e2 _ _ hx1) (a.ex e2)⟩
end
end WD
end
section
set_option Elab.async false
set_option linter.all false
set_option maxRecDepth 100000
namespace WD
open PySem PySem.Spec PyProof.Rows L2 Evl
section
variable {K : PySem.W.Frag} {σ : L2.St} {H : Hp} {te tv : TE}
def kvI (kf vi : Nat → Int) (n : Nat) : List (Key × V) := (List.range n).map fun k => (Sum.inl (kf k), V.int (vi k))
theorem putK_end (k : Key) (z : V) (kvs : List (Key × V)) (h : ∀ p ∈ kvs, p.1 ≠ k) : putK kvs k z = kvs ++ [(k, z)] := putK_new z (by
  unfold valV
  rw [List.find?_eq_none.mpr (fun p hp => by simp [h p hp])]
  rfl)
/-- a dict of ints by ints, from a comprehension with one name -/
theorem en_dc {wi : TI} {n j : Nat} {item : Nat → D} {vs : List Nat} {tk : TE} {Q : VK} (kf vi : Nat → Int) (hI : EvI K wi σ [] H n item) (hn : n ≤ 50000) (hinj : ∀ a b, a < n → b < n → kf a = kf b → a = b) (hw : ∀ x, wipe ((wipe σ vs).set j (some x)) vs = wipe σ vs)
    (hk : ∀ i x H1, i < n → Ex H H1 → Is K H1 x (item i) → EvD K tk ((wipe σ vs).set j (some x)) H1 (.int (kf i))) (hv : ∀ i x H1, i < n → Ex H H1 → Is K H1 x (item i) → EvD K tv ((wipe σ vs).set j (some x)) H1 (.int (vi i)))
    (q : ∀ p H', H p = none → Ex H H' → H' p = some (.dK (kvI kf vi n)) → Q (.ref p) H') : tDc wi (gName j) tYes tk tv vs σ H Q := hI _ fun J H2 Ps e2 w Dl hD => by
  have hDH : H Dl = none := fresh_back e2 hD
  refine ⟨fun i m H' => m = n - i ∧ i ≤ n ∧ Ps H' ∧ Ex H H' ∧ H' Dl = some (.dK (kvI kf vi i)), ⟨n, by simp, Nat.zero_le _, w.stays [] (by simp) H2 _ w.here (Mu.ex (Ex.new hD)), e2.trans (Ex.new hD), upd_same⟩, ?_⟩
  rintro i m H' ⟨rfl, hi, ps, eH, hd⟩
  by_cases hlt : i < n
  · obtain ⟨g1, g2⟩ := w.go H' ps i hlt
    refine .inr ⟨g1, fun H3 => Ps H3 ∧ Ex H H3 ∧ H3 Dl = some (.dK (kvI kf vi (i + 1))), fun H3 q => ⟨n - (i + 1), by omega, rfl, by omega, q.1, q.2⟩, fun x H3 hy => ?_⟩
    obtain ⟨e3, a⟩ := g2 x H3 hy
    show wipe ((wipe σ vs).set j (some x)) vs = wipe σ vs ∧ _
    refine ⟨hw x, ?_⟩
    show tk _ H3 _
    refine hk i x H3 hlt (eH.trans e3) a H3 (Ex.refl H3) _ fun y H4 e4 ay => ?_
    refine hv i x H3 hlt (eH.trans e3) a H4 e4 _ fun z H5 e5 az => ?_
    cases ay
    cases az
    have e35 := (e3.trans e4).trans e5
    refine ⟨kvI kf vi i, .inl (kf i), rfl, e35 _ _ hd, sz_lt (by
      unfold kvI
      rw [List.length_map, List.length_range]
      omega), ?_, ?_, ?_⟩
    · exact w.stays [Dl] (fun l h => .inr (by rw [List.mem_singleton.mp h]; exact hD)) H' _ ps ⟨fun b o nb h => by
        rw [upd_ne (fun z => nb (by rw [z]; exact List.mem_singleton.mpr rfl))]
        exact e35 _ _ h, (Gt.of e35).trans (Gt.upd (e35 _ _ hd) (fun _ z => by cases z) (fun _ _ z => by cases z))⟩
    · exact Ex.updN (eH.trans e35) hDH
    · rw [putK_end]
      · rw [upd_same]
        unfold kvI
        rw [List.range_succ, List.map_append]
        rfl
      · intro p hp
        unfold kvI at hp
        obtain ⟨k, hk, rfl⟩ := List.mem_map.mp hp
        have hk := List.mem_range.mp hk
        intro z
        have := hinj k i (by omega) hlt (Sum.inl.inj z)
        omega
  · have e : i = n := by omega
    subst e
    exact .inl ⟨w.stop H' ps, q Dl H' hDH eH hd⟩
end
end WD
end
section
set_option Elab.async false
set_option linter.all false
set_option maxRecDepth 100000
namespace WD
open PySem PySem.Spec PyProof.Rows L2 Evl
section
variable {K : PySem.W.Frag} {σ : L2.St} {H H' : Hp} {ta tb te tx tc : TE} {t u : TT} {d d1 d2 d3 : D} {ds es : List D}
/-- the same where what comes isn't told ahead: Inv by the turn and what was put -/
theorem en_lcP {wi : TI} {g : TG} {Q : VK} {n : Nat} {item : Nat → D} {vs : List Nat} {L : List Addr} (Inv : Nat → List D → Hp → Prop) (hI : EvI K wi σ L H n item) (hL : ∀ l ∈ L, ∃ o, H l = some o) (hn : n ≤ 50000)
    (hst : ∀ i ds D Ha Hb, H D = none → Inv i ds Ha → Mu [D] Ha Hb → Inv i ds Hb) (h0 : Inv 0 [] H)
    (hs : ∀ i ds x H1, i < n → Inv i ds H1 → Mu L H H1 → Is K H1 x (item i) → ∀ (Y : VK) (N : Hp → Prop), (∀ y H4 e, e.lf = true → Is K H4 y e → Inv (i + 1) (ds ++ [e]) H4 → Mu L H1 H4 → Y y H4) → (∀ H3, Inv (i + 1) ds H3 → Mu L H1 H3 → N H3) →
      g x (wipe σ vs) H1 fun σ2 H2 => wipe σ2 vs = wipe σ vs ∧ t σ2 H2 fun b H3 => if b = true then te σ2 H3 Y else N H3)
    (q : ∀ p xs ds H', H p = none → Mu L H H' → Inv n ds H' → H' p = some (.lst xs) → All K H' xs ds → Q (.ref p) H') : tLc wi g t te vs σ H Q := hI _ fun J H2 Ps e2 w Dl hD => by
  have hDH : H Dl = none := fresh_back e2 hD
  have hDL : Dl ∉ L := fun z => by
    obtain ⟨o, ho⟩ := hL _ z
    rw [hDH] at ho
    cases ho
  have hst' : ∀ i ds Ha Hb, Inv i ds Ha → Ex Ha Hb → Inv i ds Hb := fun i ds Ha Hb h e => hst i ds Dl Ha Hb hDH h (Mu.ex e)
  refine ⟨fun i m H' => m = n - i ∧ i ≤ n ∧ Mu (Dl :: L) (L2.upd H2 Dl (.lst [])) H' ∧ ∃ acc ds, Inv i ds H' ∧ ds.length ≤ i ∧ D.lfs ds = true ∧ H' Dl = some (.lst acc) ∧ All K H' acc ds, ⟨n, by simp, Nat.zero_le _, Mu.refl _ _, [], [], hst' 0 _ _ _ h0 (e2.trans (Ex.new hD)), Nat.le_refl _, rfl, upd_same, .nil⟩, ?_⟩
  rintro i m H' ⟨rfl, hi, mu, acc, ds, iv, dl, lfa, hacc, aa⟩
  have ps0 : Ps (L2.upd H2 Dl (.lst [])) := w.stays [] (by simp) H2 _ w.here (Mu.ex (Ex.new hD))
  have ps : Ps H' := w.stays (Dl :: L) (fun l h => by
    rcases List.mem_cons.mp h with h | h
    · exact .inr (by rw [h]; exact hD)
    · exact .inl h) _ H' ps0 mu
  have mu0 : Mu L H H' := Mu.un hDH (e2.trans (Ex.new hD)) mu
  by_cases hlt : i < n
  · obtain ⟨g1, g2⟩ := w.go H' ps i hlt
    refine .inr ⟨g1, fun H3 => Mu (Dl :: L) (L2.upd H2 Dl (.lst [])) H3 ∧ ∃ acc ds, Inv (i + 1) ds H3 ∧ ds.length ≤ i + 1 ∧ D.lfs ds = true ∧ H3 Dl = some (.lst acc) ∧ All K H3 acc ds, fun H3 q => ⟨n - (i + 1), by omega, rfl, by omega, q.1, q.2⟩, fun x H3 hy => ?_⟩
    obtain ⟨e3, a⟩ := g2 x H3 hy
    have hacc3 := e3 _ _ hacc
    have aa3 := aa.ex e3
    have mu3 := mu.trans (Mu.ex e3)
    refine hs i ds x H3 hlt (hst' i _ _ _ iv e3) (mu0.trans (Mu.ex e3)) a _ _ ?_ ?_
    · intro y H6 e lfe ay iv6 mu6
      have hacc6 := mu6.keep hDL hacc3
      have gt : Gt H6 (L2.upd H6 Dl (.lst (acc ++ [y]))) := Gt.lst hacc6
      refine ⟨acc, hacc6, sz_lt (by
        rw [aa.len]
        omega), (mu3.trans (mu6.more fun a h => List.mem_cons_of_mem _ h)).trans (Mu.upd (List.mem_cons_self ..) hacc6), acc ++ [y], ds ++ [e], hst _ _ Dl _ _ hDH iv6 (Mu.upd (List.mem_singleton.mpr rfl) hacc6), by rw [List.length_append, List.length_singleton]; omega, lfs_app lfa ?_, upd_same, ?_⟩
      · show (e.lf && true) = true
        rw [lfe]
        rfl
      · exact ((aa3.gt mu6.2 lfa).gt gt lfa).app (All.one (ay.gt gt lfe))
    · intro H6 iv6 mu6
      exact ⟨mu3.trans (mu6.more fun a h => List.mem_cons_of_mem _ h), acc, ds, iv6, by omega, lfa, mu6.keep hDL hacc3, aa3.gt mu6.2 lfa⟩
  · have e : i = n := by omega
    subst e
    exact .inl ⟨w.stop H' ps, q Dl acc ds H' hDH mu0 iv hacc aa⟩
end
end WD
end
section
set_option Elab.async false
set_option linter.all false
set_option maxRecDepth 100000
namespace WD
open PySem PySem.Spec PyProof.Rows L2 Evl RZ
section
variable {K : PySem.W.Frag} {σ : L2.St} {H H' : Hp} {ta tb te tx tc : TE} {t u : TT} {d d1 d2 d3 : D} {ds es : List D}
theorem Is.tup_inv {v : V} (h : Is K H v (.tup ds)) : ∃ p xs, v = .ref p ∧ SqT K H p xs ∧ All K H xs ds := by
  cases h with
  | tup h a => exact ⟨_, _, rfl, h, a⟩
theorem tup_gt {p : Addr} {xs : List V} (h : SqT K H p xs) (a : All K H xs ds) (g : Gt H H') (l : D.lfs ds = true) : SqT K H' p xs ∧ All K H' xs ds := by
  have h1 : Is K H' (.ref p) (.tup ds) := Is.gt g (.tup h a) l
  have a1 := a.gt g l
  have h2 := Is.tup h a
  rcases h with h | h
  · exact ⟨.inl (g p xs h), a1⟩
  · exact ⟨.inr h, a1⟩
theorem ei_zipT {L : List Addr} (h : EvD K ta σ H (.tup ds)) (h' : EvD K tb σ H (.tup es)) (hl : es.length ≤ ds.length) (hf : D.lfs ds = true) (hf' : D.lfs es = true) :
    EvI K (iZipA K (tCons ta (tCons tb tNil))) σ L H es.length (fun i => .tup [ds.getD i .non, es.getD i .non]) := fun R r =>
  h H (Ex.refl H) _ fun v H2 e2 i2 => h' H2 e2 _ fun v' H3 e3 i3 => by
    obtain ⟨p, xs, rfl, hp, a⟩ := Is.tup_inv (i2.ex e3)
    obtain ⟨p', xs', rfl, hp', a'⟩ := Is.tup_inv i3
    refine ⟨p, p', xs, xs', rfl, .inr ⟨hp, hp', r (ItzT K p p') H3 (fun H4 => (SqT K H4 p xs ∧ All K H4 xs ds) ∧ SqT K H4 p' xs' ∧ All K H4 xs' es) (e2.trans e3) ⟨⟨⟨hp, a⟩, hp', a'⟩, fun L' hL' H4 H5 q m => ⟨tup_gt q.1.1 q.1.2 m.2 hf, tup_gt q.2.1 q.2.2 m.2 hf'⟩, fun H4 q i hi => ?_, fun H4 q => ⟨xs, xs', q.1.1, q.2.1, .inr ?_⟩⟩⟩⟩
    · obtain ⟨d, hd⟩ : ∃ d, ds[i]? = some d := ⟨_, List.getElem?_eq_getElem (Nat.lt_of_lt_of_le hi hl)⟩
      obtain ⟨d', hd'⟩ : ∃ d, es[i]? = some d := ⟨_, List.getElem?_eq_getElem hi⟩
      obtain ⟨v, hv, b⟩ := q.1.2.get hd
      obtain ⟨v', hv', b'⟩ := q.2.2.get hd'
      refine ⟨⟨xs, xs', v, v', q.1.1, q.2.1, hv, hv'⟩, fun x H5 hy => ?_⟩
      obtain ⟨T, x1, x2, rfl, nT, rfl, f1, f2⟩ := hy
      have g1 := f1 xs q.1.1
      have g2 := f2 xs' q.2.1
      rw [hv] at g1
      rw [hv'] at g2
      cases g1
      cases g2
      rw [getD_some hd, getD_some hd']
      exact ⟨Ex.new nT, .tup (st_of upd_same) (.cons (b.ex (Ex.new nT)) (.cons (b'.ex (Ex.new nT)) .nil))⟩
    · rw [q.2.2.len]
      exact Nat.le_refl _
end
end WD
end
section
set_option Elab.async false
set_option linter.all false
set_option maxRecDepth 100000
namespace PySem
open Sem (wp)
namespace ZN
open PySem.F
/-- a zip that has handed out the tuple at T -/
abbrev Kept (h : Heap) (z TI TO T : Addr) (fl : Bool) : Prop := h.get? z = some { cls := .type "zip", dict := none, data := .fields #[rawInt T, .bool fl, .bool false, .ref TI, .ref TO], slots := #[] }
section
variable {prog : Program} {w : World} {A : Around} {E : Value → Shared → Prop} {s : Shared}
theorem alive_step {a : Addr} {o : Obj} {Q : Option Obj → Shared → Prop} (ho : s.heap.get? a = some o) (h : Q (some o) s) : wpAny (model prog w) A (loadIfAlive a) Q E s := PySem.W.kdx_alive ho h
/-- what was handed out is still there: the zip is marked, and makes its tuples anew -/
theorem free_kept {z TI TO T : Addr} {fl : Bool} {o : Obj} {Q : Bool → Shared → Prop} (hz : Kept s.heap z TI TO T fl) (hT : s.heap.get? T = some o)
    (hQ : ∀ h', Kept h' z TI TO T true → (∀ c o, c ≠ z → s.heap.get? c = some o → h'.get? c = some o) → h'.objs.size = s.heap.objs.size → Q false { s with heap := h' }) :
    wpAny (model prog w) A (Builtin.SmallTypes.ownedTupleIsFree (.ref z)) Q E s := by
  unfold Builtin.SmallTypes.ownedTupleIsFree
  refine wpAny_bind (wpAny_field hz rfl (x := rawInt T) rfl ?_)
  show wpAny _ _ (loadIfAlive ((T : Int)).toNat >>= _) _ _ _
  rw [Int.toNat_natCast]
  refine wpAny_bind (alive_step hT ?_)
  simp only [Option.isNone_some, Bool.false_eq_true, if_false]
  refine wpAny_bind (wpAny_field hz rfl (x := .bool fl) rfl ?_)
  cases fl with
  | true =>
    refine wpAny_ite_split (fun h => absurd h (by decide)) fun _ => ?_
    exact wpAny_pure (hQ s.heap hz (fun _ _ _ e => e) rfl)
  | false =>
    refine wpAny_ite_split (fun _ => ?_) fun h => absurd (by decide) h
    refine wpAny_bind (wpAny_setField_rec hz (by simp) fun h₁ hz₁ hs₁ => ?_)
    exact wpAny_pure (hQ h₁ hz₁ (fun c o n e => hs₁.extBut c o n e) hs₁.1)
theorem next_kept {z TI TO T i1 i2 l1 l2 : Addr} {fl : Bool} {o : Obj} {k1 k2 : Nat} {xs ys : Array Value} {x y : Value} {Q : Value → Shared → Prop} (D : ZipApart z TI TO i1 i2 l1 l2)
    (hz : Kept s.heap z TI TO T fl) (hT : s.heap.get? T = some o) (hTI : IsPair s.heap TI (.ref i1) (.ref i2))
    (h1 : s.heap.IsListIter i1 l1 k1) (h2 : s.heap.IsListIter i2 l2 k2) (hl1 : s.heap.IsList l1 xs) (hl2 : s.heap.IsList l2 ys) (hx : xs[k1]? = some x) (hy : ys[k2]? = some y)
    (hQ : ∀ h', Kept h' z TI TO T true → h'.IsListIter i1 l1 (k1 + 1) → h'.IsListIter i2 l2 (k2 + 1) → IsPair h' s.heap.objs.size x y → h'.objs.size = s.heap.objs.size + 1 →
      (∀ c o, c ≠ z → c ≠ i1 → c ≠ i2 → s.heap.get? c = some o → h'.get? c = some o) → Q (.ref s.heap.objs.size) { s with heap := h' }) :
    wpAny (model prog w) A (Builtin.«zip.__next__» ⟨[.ref z], []⟩) (fun fin s' => ∃ v, fin = .done (.ret v) ∧ Q v s') E s := by
  show wpAny _ _ (field (.ref z) 2 >>= _) _ _ _
  refine wpAny_bind (wpAny_field hz rfl (x := .bool false) rfl ?_)
  show wpAny _ _ (field (.ref z) 3 >>= _) _ _ _
  refine wpAny_bind (wpAny_field hz rfl (x := .ref TI) rfl ?_)
  refine wpAny_bind (wpAny_seqItems hTI rfl ?_)
  show wpAny _ _ (Builtin.SmallTypes.ownedTupleIsFree (.ref z) >>= _) _ _ _
  refine wpAny_bind (free_kept hz hT fun h₁ hz₁ hk₁ n₁ => ?_)
  rw [if_neg (by decide)]
  dsimp only
  simp only [List.forIn_toArray, List.forIn_cons, List.forIn_nil]
  have b1 := h1.at fun o e => hk₁ _ o D.i1z e
  have c1 := hl1.at fun o e => hk₁ _ o D.l1z e
  have b2 := h2.at fun o e => hk₁ _ o D.i2z e
  have c2 := hl2.at fun o e => hk₁ _ o D.l2z e
  refine wpAny_bind (wpAny_bind (wpAny_bind (wpAny_holding ?_)))
  show wpAny _ _ (Builtin.SmallTypes.nextOf (.ref i1) >>= _) _ _ _
  refine wpAny_bind (wpAny_nextOf_list_item b1 c1 hx fun h₂ d1 s₂ => wpAny_pure (wpAny_pure ?_))
  have d2 := b2.extBut s₂.extBut D.i12.symm
  have e2 := c2.extBut s₂.extBut D.l2i1
  show wpAny _ _ _ _ _ _
  refine wpAny_bind (wpAny_bind (wpAny_holding ?_))
  show wpAny _ _ (Builtin.SmallTypes.nextOf (.ref i2) >>= _) _ _ _
  refine wpAny_bind (wpAny_nextOf_list_item d2 e2 hy fun h₃ f2 s₃ => wpAny_pure (wpAny_pure (wpAny_pure ?_)))
  have f1 := d1.extBut s₃.extBut D.i12
  have n₃ : h₃.objs.size = s.heap.objs.size := by rw [s₃.1, s₂.1, n₁]
  have z₃ : Kept h₃ z TI TO T true := s₃.extBut _ _ D.i2z.symm (s₂.extBut _ _ D.i1z.symm hz₁)
  show wpAny _ _ (newTuple [x, y] >>= _) _ _ _
  refine wpAny_bind (wpAny_newTuple ?_)
  refine wpAny_pure ⟨_, rfl, ?_⟩
  have up : ∀ c o, h₃.get? c = some o → (h₃.push { cls := .type "tuple", data := .seq ([x, y] : List Value).toArray }).get? c = some o := fun c o e => Heap.get?_push_of_some _ e
  have k₃ : ∀ c o, c ≠ z → c ≠ i1 → c ≠ i2 → s.heap.get? c = some o → h₃.get? c = some o := fun c o n1 n2 n3 e => s₃.extBut _ _ n3 (s₂.extBut _ _ n2 (hk₁ c o n1 e))
  show Q (.ref h₃.objs.size) _
  rw [n₃]
  exact hQ (h₃.push { cls := .type "tuple", data := .seq ([x, y] : List Value).toArray }) (up _ _ z₃) (f1.at fun o e => up _ o e) (f2.at fun o e => up _ o e) (by rw [← n₃]; exact Heap.get?_push_size _ rfl) (by rw [Heap.size_push, n₃]) fun c o n1 n2 n3 e => up c o (k₃ c o n1 n2 n3 e)
theorem end_kept {z TI TO T i1 i2 l1 l2 : Addr} {fl : Bool} {o : Obj} {k1 : Nat} {xs : Array Value} {Q : Fin → Shared → Prop} (hh : A.handled = none) (D : ZipApart z TI TO i1 i2 l1 l2)
    (hz : Kept s.heap z TI TO T fl) (hT : s.heap.get? T = some o) (hTI : IsPair s.heap TI (.ref i1) (.ref i2))
    (h1 : s.heap.IsListIter i1 l1 k1) (hl1 : s.heap.IsList l1 xs) (hx : xs[k1]? = none)
    (hE : ∀ h' e, (∀ c o, c ≠ z → c ≠ i1 → s.heap.get? c = some o → h'.get? c = some o) → (∃ o, h'.get? e = some o ∧ o.cls = .type "StopIteration") → E (.ref e) { s with heap := h' }) :
    wpAny (model prog w) A (Builtin.«zip.__next__» ⟨[.ref z], []⟩) Q E s := by
  show wpAny _ _ (field (.ref z) 2 >>= _) _ _ _
  refine wpAny_bind (wpAny_field hz rfl (x := .bool false) rfl ?_)
  show wpAny _ _ (field (.ref z) 3 >>= _) _ _ _
  refine wpAny_bind (wpAny_field hz rfl (x := .ref TI) rfl ?_)
  refine wpAny_bind (wpAny_seqItems hTI rfl ?_)
  show wpAny _ _ (Builtin.SmallTypes.ownedTupleIsFree (.ref z) >>= _) _ _ _
  refine wpAny_bind (free_kept hz hT fun h₁ hz₁ hk₁ n₁ => ?_)
  rw [if_neg (by decide)]
  dsimp only
  simp only [List.forIn_toArray, List.forIn_cons, List.forIn_nil]
  refine wpAny_bind (wpAny_bind (wpAny_bind (wpAny_holding ?_)))
  show wpAny _ _ (Builtin.SmallTypes.nextOf (.ref i1) >>= _) _ _ _
  refine wpAny_bind (wpAny_nextOf_list_end hh (h1.at fun o e => hk₁ _ o D.i1z e) (hl1.at fun o e => hk₁ _ o D.l1z e) hx fun h₂ e s₂ he => ?_)
  exact hE h₂ e (fun c o n1 n2 x => s₂ _ _ n2 (hk₁ c o n1 x)) he
theorem pyNext_kept {z TI TO T i1 i2 l1 l2 : Addr} {fl : Bool} {o : Obj} {k1 k2 : Nat} {xs ys : Array Value} {x y : Value} {Q : Option Value → Shared → Prop} (D : ZipApart z TI TO i1 i2 l1 l2)
    (hz : Kept s.heap z TI TO T fl) (hT : s.heap.get? T = some o) (hTI : IsPair s.heap TI (.ref i1) (.ref i2))
    (h1 : s.heap.IsListIter i1 l1 k1) (h2 : s.heap.IsListIter i2 l2 k2) (hl1 : s.heap.IsList l1 xs) (hl2 : s.heap.IsList l2 ys) (hx : xs[k1]? = some x) (hy : ys[k2]? = some y)
    (hQ : ∀ h', Kept h' z TI TO T true → h'.IsListIter i1 l1 (k1 + 1) → h'.IsListIter i2 l2 (k2 + 1) → IsPair h' s.heap.objs.size x y → h'.objs.size = s.heap.objs.size + 1 →
      (∀ c o, c ≠ z → c ≠ i1 → c ≠ i2 → s.heap.get? c = some o → h'.get? c = some o) → Q (some (.ref s.heap.objs.size)) { s with heap := h' }) : wpAny (model prog w) A (pyNext (.ref z)) Q E s := by
  have ty : s.TypeIs (.ref z) "zip" := ⟨_, hz, rfl⟩
  unfold pyNext
  refine wpAny_bind (wpAny_attempt (wpAny_callSpecial?_slot (name := Str.ofString "__next__") ty slot_zip_next (wpAny_call_entry slot_zip_next ty entry_zip_next ?_ (args_zip_next_1 _))))
  exact next_kept D hz hT hTI h1 h2 hl1 hl2 hx hy fun h' a1 a2 a3 a4 a5 a6 => wpAny_pure (hQ h' a1 a2 a3 a4 a5 a6)
theorem pyNext_over {z TI TO T i1 i2 l1 l2 : Addr} {fl : Bool} {o : Obj} {k1 : Nat} {xs : Array Value} {Q : Option Value → Shared → Prop} (hh : A.handled = none) (D : ZipApart z TI TO i1 i2 l1 l2)
    (hz : Kept s.heap z TI TO T fl) (hT : s.heap.get? T = some o) (hTI : IsPair s.heap TI (.ref i1) (.ref i2)) (h1 : s.heap.IsListIter i1 l1 k1) (hl1 : s.heap.IsList l1 xs) (hx : xs[k1]? = none)
    (hQ : ∀ h', (∀ c o, c ≠ z → c ≠ i1 → s.heap.get? c = some o → h'.get? c = some o) → Q none { s with heap := h' }) : wpAny (model prog w) A (pyNext (.ref z)) Q E s := by
  have ty : s.TypeIs (.ref z) "zip" := ⟨_, hz, rfl⟩
  unfold pyNext
  refine wpAny_bind (wpAny_attempt (wpAny_callSpecial?_slot (name := Str.ofString "__next__") ty slot_zip_next (wpAny_call_entry slot_zip_next ty entry_zip_next (end_kept hh D hz hT hTI h1 hl1 hx fun h' e hk he => ?_) (args_zip_next_1 _))))
  obtain ⟨oe, ho, hc⟩ := he
  refine wpAny_bind (wpAny_isInstance (T := "StopIteration") (b := true) ⟨oe, ho, hc⟩ isSubtype_stop ?_)
  exact wpAny_pure (hQ _ hk)
/-- where list(zip(..)) stands behind i tuples, which lie at as -/
structure Zs (h : Heap) (z TI TO i1 i2 l1 l2 S : Addr) (xs ys : Array Value) (i : Nat) (as : List Addr) : Prop where
  st : (as = [] ∧ IsZip h z TI TO .none ∧ ∃ a b, IsPair h TO a b) ∨ (∃ T fl, T ∈ as ∧ Kept h z TI TO T fl)
  ti : IsPair h TI (.ref i1) (.ref i2)
  h1 : h.IsListIter i1 l1 i
  h2 : h.IsListIter i2 l2 i
  q1 : h.IsList l1 xs
  q2 : h.IsList l2 ys
  le : as.length = i
  ps : ∀ (j : Nat) (a : Addr), as[j]? = some a → ∃ x y, xs[j]? = some x ∧ ys[j]? = some y ∧ IsPair h a x y
  ap : ∀ a ∈ as, a ≠ z ∧ a ≠ TO ∧ a ≠ i1 ∧ a ≠ i2 ∧ S < a
  up : as.Pairwise (· < ·)
theorem Zs.over {h h' : Heap} {z TI TO i1 i2 l1 l2 S : Addr} {xs ys : Array Value} {i : Nat} {as : List Addr} (q : Zs h z TI TO i1 i2 l1 l2 S xs ys i as) (hz : z ≠ S) (hTI : TI ≠ S) (hTO : TO ≠ S) (hi1 : i1 ≠ S) (hi2 : i2 ≠ S) (hl1 : l1 ≠ S) (hl2 : l2 ≠ S)
    (k : ∀ c o, c ≠ S → h.get? c = some o → h'.get? c = some o) : Zs h' z TI TO i1 i2 l1 l2 S xs ys i as := by
  refine ⟨?_, k _ _ hTI q.ti, q.h1.at fun o e => k _ o hi1 e, q.h2.at fun o e => k _ o hi2 e, q.q1.at fun o e => k _ o hl1 e, q.q2.at fun o e => k _ o hl2 e, q.le, fun j a ha => ?_, q.ap, q.up⟩
  · rcases q.st with ⟨e, a, b, c, d⟩ | ⟨T, fl, m, d⟩
    · exact .inl ⟨e, k _ _ hz a, b, c, k _ _ hTO d⟩
    · exact .inr ⟨T, fl, m, k _ _ hz d⟩
  · obtain ⟨x, y, e1, e2, e3⟩ := q.ps j a ha
    exact ⟨x, y, e1, e2, k _ _ (Nat.ne_of_gt (q.ap a (List.mem_of_getElem? ha)).2.2.2.2) e3⟩
theorem step_item {z TI TO i1 i2 l1 l2 S : Addr} {xs ys : Array Value} {i : Nat} {as : List Addr} {x y : Value} {Q : Option Value → Shared → Prop} (D : ZipApart z TI TO i1 i2 l1 l2) (hS : S < s.heap.objs.size) (zs : Zs s.heap z TI TO i1 i2 l1 l2 S xs ys i as) (hx : xs[i]? = some x) (hy : ys[i]? = some y)
    (hTOl : TO < s.heap.objs.size)
    (hQ : ∀ h' a, Zs h' z TI TO i1 i2 l1 l2 S xs ys (i + 1) (as ++ [a]) → a = s.heap.objs.size → h'.objs.size = s.heap.objs.size + 1 → (∀ c o, c ≠ z → c ≠ TO → c ≠ i1 → c ≠ i2 → s.heap.get? c = some o → h'.get? c = some o) → Q (some (.ref a)) { s with heap := h' }) : wpAny (model prog w) A (pyNext (.ref z)) Q E s := by
  have lz : z < s.heap.objs.size := by
    rcases zs.st with ⟨_, a, _⟩ | ⟨T, fl, _, d⟩
    · exact Heap.lt_size a
    · exact Heap.lt_size d
  have li1 : i1 < s.heap.objs.size := by obtain ⟨_, e, _⟩ := zs.h1; exact Heap.lt_size e
  have li2 : i2 < s.heap.objs.size := by obtain ⟨_, e, _⟩ := zs.h2; exact Heap.lt_size e
  have fin : ∀ h', (∃ fl T, T ∈ as ++ [s.heap.objs.size] ∧ Kept h' z TI TO T fl) → h'.IsListIter i1 l1 (i + 1) → h'.IsListIter i2 l2 (i + 1) → IsPair h' s.heap.objs.size x y → h'.objs.size = s.heap.objs.size + 1 →
      (∀ c o, c ≠ z → c ≠ TO → c ≠ i1 → c ≠ i2 → s.heap.get? c = some o → h'.get? c = some o) → Q (some (.ref s.heap.objs.size)) { s with heap := h' } := by
    rintro h' ⟨fl, T, hm, hk⟩ a1 a2 a3 a4 k
    refine hQ h' _ ⟨.inr ⟨T, fl, hm, hk⟩, k _ _ D.TIz D.TITO D.TIi1 D.TIi2 zs.ti, a1, a2, zs.q1.at fun o e => k _ o D.l1z D.l1TO D.l1i1 D.l1i2 e, zs.q2.at fun o e => k _ o D.l2z D.l2TO D.l2i1 D.l2i2 e, by rw [List.length_append, zs.le]; rfl, fun j a ha => ?_, fun a ha => ?_, ?_⟩ rfl a4 k
    · rcases Nat.lt_or_ge j as.length with hj | hj
      · rw [List.getElem?_append_left hj] at ha
        obtain ⟨x', y', e1, e2, e3⟩ := zs.ps j a ha
        obtain ⟨n1, n2, n3, n4, n5⟩ := zs.ap a (List.mem_of_getElem? ha)
        exact ⟨x', y', e1, e2, k _ _ n1 n2 n3 n4 e3⟩
      · rw [List.getElem?_append_right hj] at ha
        have hj0 : j - as.length = 0 := by
          cases hd : j - as.length with
          | zero => rfl
          | succ m =>
            rw [hd] at ha
            simp at ha
        rw [hj0] at ha
        cases ha
        have : j = i := by
          have := zs.le
          omega
        subst this
        exact ⟨x, y, hx, hy, a3⟩
    · rcases List.mem_append.mp ha with ha | ha
      · exact zs.ap a ha
      · rw [List.mem_singleton.mp ha]
        exact ⟨Nat.ne_of_gt lz, Nat.ne_of_gt hTOl, Nat.ne_of_gt li1, Nat.ne_of_gt li2, hS⟩
    · refine List.pairwise_append.mpr ⟨zs.up, List.pairwise_singleton _ _, fun a ha b hb => ?_⟩
      rw [List.mem_singleton.mp hb]
      obtain ⟨j, hj⟩ := List.getElem?_of_mem ha
      obtain ⟨_, _, _, _, e3⟩ := zs.ps j a hj
      exact Heap.lt_size e3
  rcases zs.st with ⟨e, hz, b, c, hTO⟩ | ⟨T, fl, hm, hk⟩
  · exact wpAny_pyNext_zip_item D hz zs.ti hTO zs.h1 zs.h2 zs.q1 zs.q2 hx hy fun h' a1 a2 a3 a4 a5 a6 a7 => fin h' ⟨false, s.heap.objs.size, by simp, a1⟩ a3 a4 a5 a6 a7
  · obtain ⟨j, hj⟩ := List.getElem?_of_mem hm
    obtain ⟨x', y', _, _, e3⟩ := zs.ps j T hj
    exact pyNext_kept D hk e3 zs.ti zs.h1 zs.h2 zs.q1 zs.q2 hx hy fun h' a1 a2 a3 a4 a5 a6 => fin h' ⟨true, T, List.mem_append_left _ hm, a1⟩ a2 a3 a4 a5 fun c o n1 _ n3 n4 e => a6 c o n1 n3 n4 e
theorem step_over {z TI TO i1 i2 l1 l2 S : Addr} {xs ys : Array Value} {i : Nat} {as : List Addr} {Q : Option Value → Shared → Prop} (hh : A.handled = none) (D : ZipApart z TI TO i1 i2 l1 l2) (zs : Zs s.heap z TI TO i1 i2 l1 l2 S xs ys i as) (hx : xs[i]? = none)
    (hQ : ∀ h', (∀ c o, c ≠ z → c ≠ TO → c ≠ i1 → c ≠ i2 → s.heap.get? c = some o → h'.get? c = some o) → Q none { s with heap := h' }) : wpAny (model prog w) A (pyNext (.ref z)) Q E s := by
  rcases zs.st with ⟨e, hz, b, c, hTO⟩ | ⟨T, fl, hm, hk⟩
  · exact wpAny_pyNext_zip_end hh D hz zs.ti hTO zs.h1 zs.h2 zs.q1 zs.q2 (.inl hx) hQ
  · obtain ⟨j, hj⟩ := List.getElem?_of_mem hm
    obtain ⟨x', y', _, _, e3⟩ := zs.ps j T hj
    exact pyNext_over hh D hk e3 zs.ti zs.h1 zs.q1 hx fun h' k => hQ h' fun c o n1 _ n3 _ e => k c o n1 n3 e
variable {R : Result → Shared → Prop}
/-- the loop that takes all that a zip gives -/
theorem loop {z TI TO i1 i2 l1 l2 S : Addr} {xs ys : Array Value} (hh : A.handled = none) (D : ZipApart z TI TO i1 i2 l1 l2) (hxy : xs.size = ys.size) (hn : xs.size ≤ sizeLine) (hz : z ≠ S) (hTI : TI ≠ S) (hTO : TO ≠ S) (hi1 : i1 ≠ S) (hi2 : i2 ≠ S) (hl1 : l1 ≠ S) (hl2 : l2 ≠ S) (res : Value) (h₀ : Heap)
    (hold : ∀ c o, h₀.get? c = some o → c ≠ z ∧ c ≠ TO ∧ c ≠ i1 ∧ c ≠ i2 ∧ c ≠ S)
    (hR : ∀ h' tk acc c (as : List Addr), (∀ c o, h₀.get? c = some o → h'.get? c = some o) → h'.get? S = some { cls := .type "list", dict := none, data := .seq acc c, slots := #[] } → acc.toList = as.map Value.ref → as.length = xs.size →
      (∀ (j : Nat) (a : Addr), as[j]? = some a → ∃ x y, xs[j]? = some x ∧ ys[j]? = some y ∧ IsPair h' a x y) → (∀ a ∈ as, S < a) → as.Pairwise (· < ·) → R (.ok (.ret res)) { s with heap := h', toks := tk }) :
    ∀ (m i : Nat) (h : Heap) (tk : Nat) (acc : Array Value) (c : Nat) (as : List Addr), xs.size - i = m → i ≤ xs.size → Zs h z TI TO i1 i2 l1 l2 S xs ys i as → TO < h.objs.size → (∀ c o, h₀.get? c = some o → h.get? c = some o) →
      h.get? S = some { cls := .type "list", dict := none, data := .seq acc c, slots := #[] } → acc.toList = as.map Value.ref →
      codeAny (model prog w) A (.builtin "list.extend.loop" ⟨[.ref S, .ref z, res], []⟩) R { s with heap := h, toks := tk } := by
  intro m
  induction m with
  | zero =>
    intro i h tk acc c as hm hi zs lTO kp hS ha
    have e : i = xs.size := by omega
    refine codeAny_builtin entry_extend_loop ?_
    rw [Around.under_plainId plain_extend_loop _]
    show wpAny _ A.in1 (pyNext (.ref z) >>= _) _ _ _
    refine wpAny_bind (step_over (A := A.in1) hh D zs (by rw [e]; simp) fun h' k => ?_)
    refine wpAny_pure (hR h' tk acc c as (fun c o x => ?_) (k _ _ hz.symm hTO.symm hi1.symm hi2.symm hS) ha (by rw [zs.le, e]) (fun j a hj => ?_) (fun a x => (zs.ap a x).2.2.2.2) zs.up)
    · obtain ⟨n1, n2, n3, n4, _⟩ := hold c o x
      exact k c o n1 n2 n3 n4 (kp c o x)
    · obtain ⟨x, y, e1, e2, e3⟩ := zs.ps j a hj
      obtain ⟨n1, n2, n3, n4, _⟩ := zs.ap a (List.mem_of_getElem? hj)
      exact ⟨x, y, e1, e2, k _ _ n1 n2 n3 n4 e3⟩
  | succ m ih =>
    intro i h tk acc c as hm hi zs lTO kp hS ha
    have lt : i < xs.size := by omega
    have lt2 : i < ys.size := by omega
    refine codeAny_builtin entry_extend_loop ?_
    rw [Around.under_plainId plain_extend_loop _]
    show wpAny _ A.in1 (pyNext (.ref z) >>= _) _ _ _
    refine wpAny_bind (step_item (A := A.in1) D (Heap.lt_size hS) zs (Array.getElem?_eq_getElem lt) (Array.getElem?_eq_getElem lt2) lTO fun h' a zs' ea es k => ?_)
    have hS' := k _ _ hz.symm hTO.symm hi1.symm hi2.symm hS
    show wpAny _ A.in1 (updateSeq S (·.push (.ref a)) >>= _) _ _ _
    have as1 : acc.size = i := by
      rw [← Array.length_toList, ha, List.length_map, zs.le]
    refine wpAny_bind (wpAny_updateSeq hS' rfl (wpAny_pure ⟨plainId_quiet plain_extend_loop _, ?_⟩) (by rw [as1]; omega) (by show (acc.push (.ref a)).size ≤ sizeLine + 1; rw [Array.size_push, as1]; omega))
    have oth : ∀ b o, b ≠ S → h'.get? b = some o → (h'.update S (Obj.mapSeq (·.push (.ref a)))).get? b = some o := fun b o n e => (Heap.get?_update_other _ _ n.symm).trans e
    refine ih (i + 1) (h'.update S (Obj.mapSeq (·.push (.ref a)))) tk (acc.push (.ref a)) _ (as ++ [a]) (by omega) (by omega) (zs'.over hz hTI hTO hi1 hi2 hl1 hl2 oth) ?_ (fun c o x => ?_) (Heap.get?_update_self _ hS' rfl) (by rw [Array.toList_push, ha, List.map_append]; rfl)
    · have : (h'.update S (Obj.mapSeq (·.push (.ref a)))).objs.size = h'.objs.size := (Heap.SameBut.update ..).1
      rw [this, es]
      exact Nat.lt_succ_of_lt lTO
    · obtain ⟨n1, n2, n3, n4, n5⟩ := hold c o x
      exact oth c o n5 (k c o n1 n2 n3 n4 (kp c o x))
theorem zip_no_len : typeLookup (.type "zip") "__len__" = pure none := by rw [typeLookup_type, builtinLookup_eq_fast]; kernel_rfl
theorem zip_no_hint : typeLookup (.type "zip") "__length_hint__" = pure none := by rw [typeLookup_type, builtinLookup_eq_fast]; kernel_rfl
theorem extend_zip {z TI TO i1 i2 l1 l2 S : Addr} {xs ys : Array Value} (hh : A.handled = none) (D : ZipApart z TI TO i1 i2 l1 l2) (hxy : xs.size = ys.size) (hn : xs.size ≤ sizeLine) (hz : z ≠ S) (hTI : TI ≠ S) (hTO : TO ≠ S) (hi1 : i1 ≠ S) (hi2 : i2 ≠ S) (hl1 : l1 ≠ S) (hl2 : l2 ≠ S) (res : Value) (h₀ : Heap) (c₀ : Nat)
    (hold : ∀ c o, h₀.get? c = some o → c ≠ z ∧ c ≠ TO ∧ c ≠ i1 ∧ c ≠ i2 ∧ c ≠ S) (kp : ∀ c o, h₀.get? c = some o → s.heap.get? c = some o) (zs : Zs s.heap z TI TO i1 i2 l1 l2 S xs ys 0 []) (lTO : TO < s.heap.objs.size)
    (hS : s.heap.get? S = some { cls := .type "list", data := .seq #[] c₀ })
    (hR : ∀ h' tk acc c (as : List Addr), (∀ c o, h₀.get? c = some o → h'.get? c = some o) → h'.get? S = some { cls := .type "list", dict := none, data := .seq acc c, slots := #[] } → acc.toList = as.map Value.ref → as.length = xs.size →
      (∀ (j : Nat) (a : Addr), as[j]? = some a → ∃ x y, xs[j]? = some x ∧ ys[j]? = some y ∧ IsPair h' a x y) → (∀ a ∈ as, S < a) → as.Pairwise (· < ·) → R (.ok (.ret res)) { s with heap := h', toks := tk }) :
    wpAny (model prog w) A.in1 (Builtin.List.listExtendWith (.ref S) (.ref z) res)
      (fun fin s' => match fin with | .done f => R (.ok f) s' | .again c' => c'.quiet = true ∧ codeAny (model prog w) A c' R s') (fun e s' => R (.error e) s') s := by
  obtain ⟨zo, ezo, czo⟩ : ∃ f0, IsZip s.heap z TI TO f0 ∧ f0 = .none := by
    rcases zs.st with ⟨_, a, _⟩ | ⟨T, fl, m, _⟩
    · exact ⟨_, a, rfl⟩
    · cases m
  have ty : s.TypeIs (.ref z) "zip" := ⟨_, ezo, rfl⟩
  unfold Builtin.List.listExtendWith
  refine wpAny_bind (wpAny_typeOf ty ?_)
  have e1 : Builtin.List.listSameRef (.ref S) (.ref z) = false := by simp [Builtin.List.listSameRef, hz.symm]
  have e2 : (Value.type "zip" == Value.type "list") = false := by decide
  have e3 : (Value.type "zip" == Value.type "tuple") = false := by decide
  simp only [e1, e2, e3, Bool.or_false, Bool.false_eq_true, if_false]
  refine wpAny_bind (wpAny_pyIter_zip ezo ?_)
  refine wpAny_bind (wpAny_holding ?_)
  unfold Builtin.List.listLengthHint
  refine wpAny_bind (wpAny_specialOf ty zip_no_len ?_)
  show wpAny _ A.in1 (specialOf (Value.ref z) (Str.ofString "__length_hint__") >>= _) _ _ _
  refine wpAny_bind (wpAny_specialOf ty zip_no_hint ?_)
  refine wpAny_pure ?_
  show wpAny _ A.in1 (rule "list.extend.makes-room" >>= fun _ => Builtin.List.listTouch (.ref S) >>= fun _ => again (.builtin "list.extend.loop" ⟨[.ref S, .ref z, res], []⟩)) _ _ _
  refine wpAny_bind (wpAny_rule ?_)
  refine wpAny_bind ?_
  show wpAny _ A.in1 (updateSeq S (·.push .none) >>= fun _ => updateSeq S (·.pop)) _ _ _
  refine wpAny_bind (wpAny_updateSeq hS rfl ?_)
  have u1 := Heap.get?_update_self (Obj.mapSeq (·.push Value.none)) hS rfl
  refine wpAny_updateSeq (hz := by seq_fits) u1 rfl ?_
  have u2 := Heap.get?_update_self (Obj.mapSeq (·.pop)) u1 rfl
  have oth : ∀ b o, b ≠ S → s.heap.get? b = some o → ((s.heap.update S (Obj.mapSeq (·.push Value.none))).update S (Obj.mapSeq (·.pop))).get? b = some o :=
    fun b o n e => (Heap.get?_update_other _ _ n.symm).trans ((Heap.get?_update_other _ _ n.symm).trans e)
  refine wpAny_pure ⟨plainId_quiet plain_extend_loop _, ?_⟩
  refine loop (s := s) hh D hxy hn hz hTI hTO hi1 hi2 hl1 hl2 res h₀ hold hR xs.size 0 _ _ #[] _ [] (Nat.sub_zero _) (Nat.zero_le _) (zs.over hz hTI hTO hi1 hi2 hl1 hl2 oth) ?_ (fun c o e => oth c o (hold c o e).2.2.2.2 (kp c o e)) u2 rfl
  have z1 : ((s.heap.update S (Obj.mapSeq (·.push Value.none))).update S (Obj.mapSeq (·.pop))).objs.size = s.heap.objs.size := ((Heap.SameBut.update ..).1).trans (Heap.SameBut.update ..).1
  rw [z1]
  exact lTO
theorem list_of_zip {z TI TO i1 i2 l1 l2 : Addr} {xs ys : Array Value} {Q : Value → Shared → Prop} (hh : A.handled = none) (D : ZipApart z TI TO i1 i2 l1 l2) (hxy : xs.size = ys.size) (hn : xs.size ≤ sizeLine) (hz : IsZip s.heap z TI TO .none) (hTI : IsPair s.heap TI (.ref i1) (.ref i2)) (hTO : ∃ a b, IsPair s.heap TO a b)
    (h1 : s.heap.IsListIter i1 l1 0) (h2 : s.heap.IsListIter i2 l2 0) (q1 : s.heap.IsList l1 xs) (q2 : s.heap.IsList l2 ys) (h₀ : Heap) (hold : ∀ c o, h₀.get? c = some o → c ≠ z ∧ c ≠ TO ∧ c ≠ i1 ∧ c ≠ i2) (kp : ∀ c o, h₀.get? c = some o → s.heap.get? c = some o)
    (hQ : ∀ h' tk acc c (as : List Addr), (∀ c o, h₀.get? c = some o → h'.get? c = some o) → h'.get? s.heap.objs.size = some { cls := .type "list", dict := none, data := .seq acc c, slots := #[] } → acc.toList = as.map Value.ref → as.length = xs.size →
      (∀ (j : Nat) (a : Addr), as[j]? = some a → ∃ x y, xs[j]? = some x ∧ ys[j]? = some y ∧ IsPair h' a x y) → (∀ a ∈ as, s.heap.objs.size < a) → as.Pairwise (· < ·) → Q (.ref s.heap.objs.size) { s with heap := h', toks := tk }) :
    wpAny (model prog w) A (call (.type "list") [.ref z]) Q E s := by
  have up : ∀ c o, s.heap.get? c = some o → (s.heap.push { cls := .type "list", data := .seq #[] }).get? c = some o := fun c o e => Heap.get?_push_of_some _ e
  have ne : ∀ {c : Addr} {o : Obj}, s.heap.get? c = some o → c ≠ s.heap.objs.size := fun e => Nat.ne_of_lt (Heap.lt_size e)
  obtain ⟨pa, pb, hTO⟩ := hTO
  have n1 : i1 ≠ s.heap.objs.size := by obtain ⟨_, e, _⟩ := h1; exact ne e
  have n2 : i2 ≠ s.heap.objs.size := by obtain ⟨_, e, _⟩ := h2; exact ne e
  have n3 : l1 ≠ s.heap.objs.size := by obtain ⟨_, e, _⟩ := q1; exact ne e
  have n4 : l2 ≠ s.heap.objs.size := by obtain ⟨_, e, _⟩ := q2; exact ne e
  refine callType_codes (Q₁ := fun obj s₁ => obj = .ref s.heap.objs.size ∧ s₁ = { s with heap := s.heap.push { cls := .type "list", data := .seq #[] } }) called_list (typeCall_list_1 _) entry_list_init (code_list_new _ ⟨rfl, rfl⟩) fun obj s₁ he => ?_
  obtain ⟨rfl, rfl⟩ := he
  have hS : (s.heap.push { cls := .type "list", data := .seq #[] }).get? s.heap.objs.size = some { cls := .type "list", data := .seq #[] } := Heap.get?_push_size _ rfl
  refine ⟨⟨_, hS, rfl⟩, args_list_init_2 _ _, ?_⟩
  show wpAny _ _ (do let old ← Builtin.List.listItems (.ref s.heap.objs.size); Builtin.List.listUpdate (.ref s.heap.objs.size) (fun _ => #[]); letGo old.toList.reverse; Builtin.List.listExtendWith (.ref s.heap.objs.size) (.ref z) .none) _ _ _
  refine wpAny_bind ?_
  unfold Builtin.List.listItems
  refine wpAny_bind (wpAny_seqItems hS rfl (wpAny_pure ?_))
  show wpAny _ _ (updateSeq s.heap.objs.size (fun _ => #[]) >>= fun _ => letGo (#[] : Array Value).toList.reverse >>= fun _ => Builtin.List.listExtendWith (.ref s.heap.objs.size) (.ref z) .none) _ _ _
  refine wpAny_bind (wpAny_updateSeq hS rfl ?_)
  have u1 := Heap.get?_update_self (Obj.mapSeq (fun _ => (#[] : Array Value))) hS rfl
  have oth : ∀ c o, s.heap.get? c = some o → ((s.heap.push { cls := .type "list", data := .seq #[] }).update s.heap.objs.size (Obj.mapSeq (fun _ => (#[] : Array Value)))).get? c = some o := fun c o e => (Heap.get?_update_other _ _ (ne e).symm).trans (up c o e)
  refine wpAny_bind (wpAny_letGo ?_)
  refine extend_zip (A := A.in1) hh D hxy hn (ne hz) (ne hTI) (ne hTO) n1 n2 n3 n4 .none h₀ _ (fun c o e => ⟨(hold c o e).1, (hold c o e).2.1, (hold c o e).2.2.1, (hold c o e).2.2.2, ne (kp c o e)⟩) (fun c o e => oth c o (kp c o e))
    ⟨.inl ⟨rfl, oth _ _ hz, pa, pb, oth _ _ hTO⟩, oth _ _ hTI, h1.at fun o e => oth _ o e, h2.at fun o e => oth _ o e, q1.at fun o e => oth _ o e, q2.at fun o e => oth _ o e, rfl, fun j a h => by simp at h, (fun a h => nomatch h), List.Pairwise.nil⟩ (Heap.lt_size (oth _ _ hTO)) u1
    fun h' tk acc c as a1 a2 a3 a4 a5 a6 a7 => ⟨rfl, hQ h' tk acc c as a1 a2 a3 a4 a5 a6 a7⟩
end
end ZN
end PySem
end
section
set_option Elab.async false
set_option linter.all false
set_option maxRecDepth 100000
set_option maxHeartbeats 2000000
namespace ZL
open PySem PySem.Spec PyProof.Rows L2
/-- tuples of two at their addresses -/
def putZ : Hp → List Addr → List V → List V → Hp
  | H, a :: as, x :: xs, y :: ys => putZ (upd H a (.tup [x, y])) as xs ys
  | H, _, _, _ => H
theorem putZ_off {b : Addr} : ∀ (as : List Addr) (xs ys : List V) (H : Hp), b ∉ as → putZ H as xs ys b = H b
  | [], _, _, _, _ => rfl
  | _ :: _, [], _, _, _ => rfl
  | _ :: _, _ :: _, [], _, _ => rfl
  | a :: as, x :: xs, y :: ys, H, h => by
    have h1 := putZ_off as xs ys (upd H a (.tup [x, y])) fun z => h (List.mem_cons_of_mem _ z)
    have h2 : b ≠ a := fun z => h (by rw [z]; exact List.mem_cons_self ..)
    exact h1.trans (upd_ne h2)
theorem putZ_at : ∀ (as : List Addr) (xs ys : List V) (H : Hp), as.length = xs.length → as.length = ys.length → as.Nodup → ∀ (j : Nat) (t : Addr) (x y : V), as[j]? = some t → xs[j]? = some x → ys[j]? = some y → putZ H as xs ys t = some (.tup [x, y])
  | [], _, _, _, _, _, _, j, t, x, y, h, _, _ => by simp at h
  | _ :: _, [], _, _, h, _, _, _, _, _, _, _, _, _ => by cases h
  | _ :: _, _ :: _, [], _, _, h, _, _, _, _, _, _, _, _ => by cases h
  | a :: as, x :: xs, y :: ys, H, h1, h2, nd, j, t, u, v, e1, e2, e3 => by
    have n := List.nodup_cons.mp nd
    cases j with
    | zero =>
      cases e1
      cases e2
      cases e3
      show putZ (upd H a (.tup [x, y])) as xs ys a = _
      rw [putZ_off as xs ys _ n.1]
      exact upd_same
    | succ j => exact putZ_at as xs ys _ (Nat.succ.inj h1) (Nat.succ.inj h2) n.2 j t u v e1 e2 e3
theorem vals_at : ∀ {xs : List V} {us : List Value}, Vals xs us → ∀ {j : Nat} {u : Value}, us[j]? = some u → ∃ x, xs[j]? = some x ∧ RelV x u
  | _, _, .nil, j, u, h => by simp at h
  | _, _, .cons r t, 0, u, h => by
    cases h
    exact ⟨_, rfl, r⟩
  | _, _, .cons r t, j + 1, u, h => vals_at t h
section
variable {X : Cx} {e e2 : Expr} {ta : TA} {p p2 pos pos2 : Pos}
theorem laid {pins : List (Addr × Obj)} {σ : L2.St} {H : Hp} {s : Shared} {h' : Heap} {tk : Nat} {xs ys : List V} {us vs : List Value} {acc : Array Value} {c : Nat} {as : List Addr} {S : Addr} (I : Inv X pins σ H s) (hz : xs.length ≤ sizeLine) (r1 : Vals xs us) (r2 : Vals ys vs) (hxy : xs.length = ys.length)
    (hk : ∀ b o, s.heap.get? b = some o → h'.get? b = some o) (hSl : s.heap.objs.size ≤ S) (hS : h'.get? S = some { cls := .type "list", dict := none, data := .seq acc c, slots := #[] }) (hl : as.length = xs.length) (hacc : acc.toList = as.map Value.ref) (abv : ∀ a ∈ as, S < a) (up : as.Pairwise (· < ·))
    (hp : ∀ (j : Nat) (a : Addr), as[j]? = some a → ∃ x y, us[j]? = some x ∧ vs[j]? = some y ∧ IsPair h' a x y) :
    ∃ H' : Hp, (∀ b o, H b = some o → H' b = some o) ∧ H S = none ∧ (∀ t ∈ as, H t = none) ∧ S ∉ as ∧ H' S = some (.lst (as.map V.ref)) ∧ (∀ (j : Nat) (t : Addr) (x y : V), as[j]? = some t → xs[j]? = some x → ys[j]? = some y → H' t = some (.tup [x, y])) ∧ Inv X pins σ H' { s with heap := h', toks := tk } := by
  have sn : S ∉ as := fun z => Nat.lt_irrefl _ (abv _ z)
  have nd : as.Nodup := List.Pairwise.imp (fun {a b} (h : a < b) => Nat.ne_of_lt h) up
  have new : ∀ t ∈ as, H t = none := fun t ht => I.hok.fresh (Nat.le_of_lt (Nat.lt_of_le_of_lt hSl (abv t ht)))
  have newS : H S = none := I.hok.fresh hSl
  generalize hH0 : upd H S (.lst (as.map V.ref)) = H0
  have a1 : H0 S = some (.lst (as.map V.ref)) := by rw [← hH0]; exact upd_same
  have a2 : ∀ b, b ≠ S → H0 b = H b := fun b n => by rw [← hH0]; exact upd_ne n
  have off : ∀ b, b ∉ as → b ≠ S → putZ H0 as xs ys b = H b := fun b n1 n2 => (putZ_off as xs ys H0 n1).trans (a2 b n2)
  have low : ∀ b o, s.heap.get? b = some o → b ∉ as ∧ b ≠ S := fun b o e => ⟨fun z => absurd (Heap.lt_size e) (Nat.not_lt.mpr (Nat.le_of_lt (Nat.lt_of_le_of_lt hSl (abv b z)))), fun z => absurd (Heap.lt_size e) (Nat.not_lt.mpr (by rw [z]; exact hSl))⟩
  have kp : ∀ b u, H b = some u → putZ H0 as xs ys b = some u := fun b u e => by
    rw [off b (fun z => by rw [new b z] at e; cases e) (fun z => by rw [z, newS] at e; cases e)]
    exact e
  have eS : putZ H0 as xs ys S = some (.lst (as.map V.ref)) := (putZ_off as xs ys H0 sn).trans a1
  have at' := putZ_at as xs ys H0 hl (hl.trans hxy) nd
  refine ⟨putZ H0 as xs ys, kp, newS, new, sn, eS, at', ?_⟩
  refine I.call' (ch := []) rfl ⟨fun b o q _ _ _ => hk b o q, fun b o q _ _ _ => ⟨o.slots, hk b o q⟩, fun b o q n _ => ?_, fun b o q _ => ⟨o, hk b o q⟩, fun b xs q => kp b _ q, fun b o u q => kp b _ q, fun b ps q => ⟨#[], by rw [kp b _ q]; simp⟩⟩ (fun b u q => ?_) I.bare fun b z => by simp at z
  · obtain ⟨z1, z2⟩ := low b o q
    exact (off b z1 z2).trans n
  · by_cases hb : b ∈ as
    · obtain ⟨j, hj⟩ := List.getElem?_of_mem hb
      obtain ⟨x, y, f1, f2, f3⟩ := hp j b hj
      obtain ⟨x', g1, g2⟩ := vals_at r1 f1
      obtain ⟨y', g3, g4⟩ := vals_at r2 f2
      rw [at' j b x' y' hj g1 g3] at q
      cases q
      exact ⟨by show 2 ≤ sizeLine; decide, [x, y], .cons g2 (.cons g4 .nil), ⟨_, f3, rfl, _, rfl⟩⟩
    · by_cases hb2 : b = S
      · rw [hb2] at q ⊢
        rw [eS] at q
        cases q
        refine ⟨by rw [List.length_map]; omega, acc.toList, c, by rw [hacc]; exact LiI.vals_refs as, ?_⟩
        rw [Array.toArray_toList]
        exact hS
      · rw [off b hb hb2] at q
        exact (I.hok b u q).stay (fun d v _ y => hk d v y) (fun d y => kp d _ y) fun d xs y => kp d _ y
/-- list(zip(e, e2)) of two lists of one length -/
def tListZip (K : PySem.W.Frag) (ta : TA) : TE := fun σ H Q => ta σ H fun vs H1 => ∃ a b xs ys, vs = [.ref a, .ref b] ∧ SqL K H1 a xs ∧ SqL K H1 b ys ∧ xs.length = ys.length ∧
  ∀ (H' : Hp) (p : Addr) (ts : List Addr), (∀ b o, H1 b = some o → H' b = some o) → H1 p = none → (∀ t ∈ ts, H1 t = none) → p ∉ ts → H' p = some (.lst (ts.map V.ref)) → ts.length = xs.length →
    (∀ (j : Nat) (t : Addr) (x y : V), ts[j]? = some t → xs[j]? = some x → ys[j]? = some y → H' t = some (.tup [x, y])) → Q (.ref p) H'
theorem pe_listZip (hc : X.calm = true) (ha : PA X [e, e2] ta) (hg : Gl X "list") (hm : X.mg "list" = none) (hgz : Gl X "zip") (hmz : X.mg "zip" = none)
    (hs : starEach [.Call (.Name "zip" p2) [e, e2] [] pos2] X.env = (false, eval (.Call (.Name "zip" p2) [e, e2] [] pos2) X.env) :: starEach [] X.env := by rfl)
    (hs2 : starEach [e, e2] X.env = (false, eval e X.env) :: starEach [e2] X.env := by rfl) (hpl : (backTo pos2 (starEach [e2] X.env)).any (·.1) = false := by rfl) :
    PE X (.Call (.Name "list" p) [.Call (.Name "zip" p2) [e, e2] [] pos2] [] pos) (tListZip X.K ta) := by
  refine ⟨fun pins s σ H Q I h => ?_⟩
  refine wpAny_Call_Name_kw (ld_blt I hg hm (show bootBuiltins "list" = some (.type "list") by decide +kernel) ?_)
  refine PyProof.Rows.callWith_type1 ?_ hs rfl
  rw [hs]
  show wpAny _ _ (spliced ((false, eval (.Call (.Name "zip" p2) [e, e2] [] pos2) X.env) :: backTo pos (starEach [] X.env))) _ _ s
  refine Calls.spliced_cons ?_
  refine Call_ (ld_blt I hgz hmz PyProof.Rows.boot_zip (PyProof.Rows.callWith_type1 (thn (ha.run pos2 pins s σ H _ I h) fun us s1 ⟨vs, H1, I1, r1, q1⟩ => ?_) hs2 hpl))
  obtain ⟨a, b, xs, ys, ex, hqx, hqy, hxy, q⟩ := q1
  subst ex
  cases r1 with
  | cons r rr =>
    cases rr with
    | cons r' rr =>
      cases rr
      cases r
      cases r'
      obtain ⟨us, rv, p1, z1⟩ := I1.list hqx
      obtain ⟨ws, rv2, p2', z2⟩ := I1.list hqy
      have la : a < s1.heap.objs.size := p1.lt
      have lb : b < s1.heap.objs.size := p2'.lt
      refine call_zip_2 p1.isList p2'.isList fun h' hz hTI hTO h1 h2 hsz hk => ?_
      refine Calls.spliced_nil ?_
      have lu := rv.length
      have lw := rv2.length
      refine ZN.list_of_zip (I1.ok.hd hc) (PySem.W.ktu_apart s1.heap.objs.size a b la lb) (by simp; omega) (by simp; omega) hz hTI ⟨_, _, hTO⟩ h1 h2 (p1.isList.at fun o x => hk _ o x) (p2'.isList.at fun o x => hk _ o x) s1.heap (fun c o x => ?_) hk fun h'' tk acc c as k1 k2 k3 k4 k5 k6 k7 => ?_
      · have l : c < s1.heap.objs.size := Heap.lt_size x
        exact ⟨Nat.ne_of_lt (Nat.lt_of_lt_of_le l (Nat.le_add_right _ 4)), Nat.ne_of_lt (Nat.lt_of_lt_of_le l (Nat.le_add_right _ 3)), Nat.ne_of_lt l, Nat.ne_of_lt (Nat.lt_of_lt_of_le l (Nat.le_add_right _ 1))⟩
      · obtain ⟨H', g1, g2, g3, g4, g5, g6, J⟩ := laid (tk := tk) I1 z1 rv rv2 hxy k1 (by show s1.heap.objs.size ≤ h'.objs.size; omega) k2 (by rw [k4]; simp; omega) k3 k6 k7 (fun j t hj => by
          obtain ⟨x, y, e1, e2, e3⟩ := k5 j t hj
          exact ⟨x, y, by simpa using e1, by simpa using e2, e3⟩)
        exact ⟨.ref _, H', J, rfl, q H' _ as g1 g2 g3 g4 g5 (by rw [k4]; simp; omega) g6⟩
end
end ZL
end
section
set_option Elab.async false
set_option linter.all false
set_option maxRecDepth 100000
namespace WD
open PySem PySem.Spec PyProof.Rows L2 Evl StX
section
variable {K : PySem.W.Frag} {σ : L2.St} {H H' : Hp} {ta tb te tx tc : TE} {t u : TT} {d d1 d2 d3 : D} {ds es : List D}
theorem ea_star {tr : TA} (h : EvD K te σ H (.lst ds)) (hr : EvDA K tr σ H es) : EvDA K (tStar K te tr) σ H (ds ++ es) := fun H1 e Q q =>
  h H1 e _ fun v H2 e2 a => by
    cases a with
    | lst r a =>
      exact ⟨_, _, rfl, .inr (.inl r), hr H2 (e.trans e2) _ fun ys H3 e3 b => q _ H3 (e2.trans e3) ((a.ex e3).app b)⟩
theorem en_listZip {xs ys : List Int} (h : EvD K ta σ H (.lst (iL xs))) (h' : EvD K tb σ H (.lst (iL ys))) (hl : xs.length = ys.length) : EvN K (ZL.tListZip K (tCons ta (tCons tb tNil))) σ H ((xs.zip ys).map fun p => .tup [.int p.1, .int p.2]) := fun H1 e Q q =>
  h H1 e _ fun v H2 e2 a => h' H2 (e.trans e2) _ fun w H3 e3 b => by
    cases a with
    | lst r a =>
      cases b with
      | lst r' b =>
        have a1 := allIL a
        have b1 := allIL b
        subst a1
        subst b1
        refine ⟨_, _, _, _, rfl, .inl (ex_rd e3 r), .inl r', by rw [List.length_map, List.length_map, hl], fun H' p ts k hp nt np hx lt ht => q p _ H' (fresh_back (e2.trans e3) hp) ((e2.trans e3).trans k) hx ?_⟩
        rw [List.length_map] at lt
        have gen : ∀ (ts : List Addr) (xs ys : List Int), ts.length = xs.length → xs.length = ys.length → (∀ (j : Nat) (t : Addr) (x y : V), ts[j]? = some t → (xs.map V.int)[j]? = some x → (ys.map V.int)[j]? = some y → H' t = some (.tup [x, y])) → All K H' (ts.map V.ref) ((xs.zip ys).map fun p => .tup [.int p.1, .int p.2]) := by
          intro ts
          induction ts with
          | nil =>
            intro xs ys h1 h2 _
            cases xs with
            | nil => exact .nil
            | cons _ _ => cases h1
          | cons t ts ih =>
            intro xs ys h1 h2 hh
            cases xs with
            | nil => cases h1
            | cons x xs =>
              cases ys with
              | nil => cases h2
              | cons y ys =>
                exact .cons (.tup (st_of (hh 0 t (.int x) (.int y) rfl rfl rfl)) (.cons (.int x) (.cons (.int y) .nil))) (ih xs ys (Nat.succ.inj h1) (Nat.succ.inj h2) fun j t' x' y' a1 a2 a3 => hh (j + 1) t' x' y' a1 a2 a3)
        exact gen ts xs ys lt hl ht
end
end WD
end
section
set_option Elab.async false
set_option linter.all false
set_option maxRecDepth 100000
set_option maxHeartbeats 4000000
/-! an own exception whose __init__(self, a) says super().__init__("..") and self.f = a: made, raised, its field read -/
namespace SupX
open PySem PySem.W PySem.Calls PyProof.Rows PySem.HandSPX
/-- the body -/
def supBody (txt f a : Str) (sn : Str) (k : Nat) (p0 p1 p2 p3 p4 p5 p6 p7 p8 p9 : Pos) : List Stmt :=
  [.Expr (.Call (.Attribute (.Call (.Name "super" p0) [] [] p1) "__init__" p2) [.Constant (.str txt) k p3] [] p4) p5, .Assign [.Attribute (.Name sn p6) f p7] (.Name a p8) p9]
section
variable {prog : Program} {w : World} {A : Around} {E : Value → Shared → Prop} {h : Heap} {g : Array GenState} {d : Drawn} {t : Nat} {os : OsState}
/-- ValueError.__init__ bound to an exception, called -/
theorem call_bound {B nw ini : String} {bmB : List Value} (fb : ExcBaseFacts B nw ini bmB) {nm q : Str} {C N u e t0 : Addr} {bs bm : List Value} {hdct : Bool} {sn : List Str} {sub : List Value} {ab : Bool} {col : Option Bool} {dd : Option Addr} {k0 k1 k2 k3 k5 : Option Value} {us : List Value} {Q : Value → Shared → Prop}
    (hC : h.get? C = some (excClassObj nm q C N bs bm hdct sn sub ab col dd k0 k1 k2 k3 k5 nw)) (he : h.get? e = some (excO C t0)) (hu : h.get? u = some (kxs_mw ini e)) (hl : us.length ≤ sizeLine)
    (hq : ∀ h' t1, (∀ b o, b ≠ e → h.get? b = some o → h'.get? b = some o) → h'.get? e = some (excO C t1) → Q .none ⟨h', g, d, t, os⟩) : wpAny (model prog w) A (call (.ref u) us) Q E ⟨h, g, d, t, os⟩ := by
  apply wpAny_call; apply codeAny_of_tree
  show wpAny _ A.in1 (callAny (.ref u) ⟨us, []⟩) _ _ _
  unfold callAny; apply wpAny_bind; apply wpAny_load hu
  have mw : (Value.type "method-wrapper" == Value.type "method" || Value.type "method-wrapper" == Value.type "builtin_function_or_method" || Value.type "method-wrapper" == Value.type "method-wrapper") = true := by decide
  simp only [kxs_mw, mw, if_true]
  apply KFB.if_so (by decide); apply wpAny_bind; apply check_bound_init fb.toExcCallFacts hC he rfl
  refine wpAny_bind (wpAny_pure (wpAny_pure ⟨plainId_quiet fb.init.plain _, codeAny_builtin fb.initEntry ?_⟩))
  exact exc_init_tree (cls := .ref C) (t0 := t0) (dv := none) (c2 := .none) (c3 := .none) (b4 := .bool false) he hl fun h' k e2 _ => hq h' _ k e2
end
/-- what the written part says of the class x at C, its __init__ at fI: super().__init__(txt), then self.f = its argument -/
structure Sup (prog : Program) (K : Frag) (mg : Str → Option Value) (C fI : Addr) (x f txt : Str) : Prop where
  gC : mg x = some (.ref C)
  cls : ∃ nm q N bs bm sn sub ab col dd k0 k1 k2 k3 k5, K.lookup C = some (excClassObj nm q C N bs bm true sn sub ab col dd k0 k1 k2 k3 k5 "ValueError.__new__") ∧ refsVE bm = true
  sa : findIn K (.ref C) "__setattr__" = some (some (.builtin "object.__setattr__"))
  ga : findIn K (.ref C) "__getattribute__" = some (some (.builtin "BaseException.__getattribute__"))
  gg : findIn K (.ref C) "__getattr__" = some none
  noN : findIn K (.ref C) f = some none
  iC : findIn K (.ref C) "__init__" = some (some (.ref fI))
  tC : typeIn K (.ref fI) = some (.type "function")
  kC : keepIn K (.ref C) = true
  exC : subIn K (.ref C) (.type "BaseException") = some true
  veC : subIn K (.ref C) (.type "ValueError") = some true
  tyC : typeIn K (.ref C) = some (.type "type")
  hdC : hasDictIn K C = true
  meC : mroIn K C (.ref C) = some true
  te : exmOne K (.ref C) (.ref C) = some true
  sup : ks_superIn K C C "__init__" = some (some (.builtin "ValueError.__init__"))
  opq : nsIn K cStatics "thirdparty.any" = some none
  noS : mg "super" = none
  top : (prog.main.scope.names.lookup ("super" : Str)).isSome = false
  fn : ∃ (oc : Value) (od : Option Addr) (qual a sn : Str) (pr : Arguments) (sc : Scope) (kV doc pm : Value) (an : Option Addr) (cda cc : Addr) (ct : Value) (osl : Array (Option Value)) (ar : Arg) (k : Nat) (p0 p1 p2 p3 p4 p5 p6 p7 p8 p9 : Pos),
    K.lookup fI = some ⟨oc, od, .func (ksFn "__init__" qual pr (supBody txt f a sn k p0 p1 p2 p3 p4 p5 p6 p7 p8 p9) sc .none kV doc pm an (.ref cda) ct cc), osl⟩ ∧ codeIn K (.ref cda) qual = true ∧
    (∃ cl cld csl, K.lookup cc = some ⟨cl, cld, .cell (some (.ref C)), csl⟩) ∧ (∃ ccl cdd vs ccs file tf, K.lookup cda = some ⟨ccl, cdd, .fields vs, ccs⟩ ∧ vs[2]? = some (.str file tf) ∧ ((prog.main.file : Str) == file) = true) ∧
    (∀ u v : Value, bindArgs (ksFn "__init__" qual pr (supBody txt f a sn k p0 p1 p2 p3 p4 p5 p6 p7 p8 p9) sc .none kV doc pm an (.ref cda) ct cc) ⟨[u, v], []⟩ = pure [(sn, u), (a, v)]) ∧
    (pr.posonlyargs ++ pr.args).head? = some ar ∧ ar.arg = sn ∧ a ≠ sn ∧ (sn == ("__debug__" : Str)) = false ∧ (a == ("__debug__" : Str)) = false ∧ (∀ y ∈ sc.names, y.2 ≠ .cell) ∧ sc.names.lookup sn = some .local ∧ sc.names.lookup a = some .local ∧ sc.names.lookup ("super" : Str) = some .globalImplicit ∧
    sc.names.lookup ("__class__" : Str) = some .free ∧ sc.kind = .function ∧ sc.isCoroutine = false ∧ sc.isGenerator = false ∧
    (∀ L : Addr, ∃ pl : Sem Bool, eval (.Call (.Attribute (.Call (.Name "super" p0) [] [] p1) "__init__" p2) [.Constant (.str txt) k p3] [] p4) (ksEnv qual sc L fI (.ref cda) cc) = (do
      let ov ← attributeBase (.Call (.Name "super" p0) [] [] p1) "__init__" (ksEnv qual sc L fI (.ref cda) cc) (eval (.Call (.Name "super" p0) [] [] p1) (ksEnv qual sc L fI (.ref cda) cc))
      standAt p2.atName
      let (f, first) ← holding [ov] (getMethod ov "__init__" pl)
      callWith p4 f first (backTo p4 (starEach [.Constant (.str txt) k p3] (ksEnv qual sc L fI (.ref cda) cc))) [])) ∧
    (∀ L : Addr, interactive (ksEnv qual sc L fI (.ref cda) cc) = false) ∧
    (∀ L : Addr, swapsWith (.Call (.Attribute (.Call (.Name "super" p0) [] [] p1) "__init__" p2) [.Constant (.str txt) k p3] [] p4) none p5.line (ksEnv qual sc L fI (.ref cda) cc) = pure false) ∧
    (∀ L : Addr, swapsWith (.Name a p8) (some (.Attribute (.Name sn p6) f p7)) p9.line (ksEnv qual sc L fI (.ref cda) cc) = pure false) ∧
    (∀ L : Addr, starEach [.Constant (.str txt) k p3] (ksEnv qual sc L fI (.ref cda) cc) = (false, eval (.Constant (.str txt) k p3) (ksEnv qual sc L fI (.ref cda) cc)) :: starEach [] (ksEnv qual sc L fI (.ref cda) cc)) ∧
    (∀ L : Addr, starEach [] (ksEnv qual sc L fI (.ref cda) cc) = [])
/-- what __init__ leaves -/
structure SupEnd (h h' : Heap) (x C dx : Addr) (f : Str) (v : Value) : Prop where
  keep : ∀ b o, b ≠ x → h.get? b = some o → h'.get? b = some o
  obj : ∃ t1 : Addr, h'.get? x = some { cls := .ref C, dict := some dx, data := .fields #[.ref t1, .none, .none, .none, .bool false, .none] }
  dbig : h.objs.size ≤ dx
  dne : dx ≠ x
  ns : h'.Ns1 dx (fun y => if y = f then some v else none)
section
variable {prog : Program} {w : World} {A : Around} {E : Value → Shared → Prop} {R : Result → Shared → Prop} {s : Shared} {K : Frag} {mg mb : Str → Option Value} {C fI : Addr} {x f txt : Str}
theorem sup_init (T : Sup prog K mg C fI x f txt) {e t0 : Addr} {v : Value} (X : K.In s.heap) (G : s.heap.Ns mainGlobals mg) (B : s.heap.Ns builtinsNs mb) (bt : mb "super" = some (.type "super")) (hlim : s.heap.NoLimit) (he : s.heap.get? e = some (excO C t0)) (hnx : K.lookup e = none)
    (hroom : A.depth < recursionLimit) (hq : ∀ h' tk dx, SupEnd s.heap h' e C dx f v → R (.ok (.ret .none)) { s with heap := h', toks := tk }) : codeAny (model prog w) A (.call (.ref fI) ⟨[.ref e, v], []⟩) R s := by
  obtain ⟨oc, od, qual, a, sn, pr, sc, kV, doc, pm, an, cda, cc, ct, osl, ar, k, p0, p1, p2, p3, p4, p5, p6, p7, p8, p9, ho, hcd, ⟨cl, cld, csl, hcc⟩, ⟨ccl, cdd, vs, ccs, file, tf, hcda, hvs, hfile⟩, hbind, hp, rfl, nsn, dsn, da, hcell, l1, l2, l3, l4, kd, hco, hgen, hev, hint, hw1, hw2, hst, hst0⟩ := T.fn
  obtain ⟨nm, q, N, bs, bm, sn, sub, ab, col, dd, k0, k1, k2, k3, k5, hC, hbm⟩ := T.cls
  have hcl : clsIn K C = some { name := nm, bases := bs, mro := .ref C :: bm, ns := N, qualname := q, hasDict := true, slotNames := sn, subclasses := sub, abstract := ab, collection := col, hasDel := false } := by unfold clsIn; rw [hC] <;> rfl
  refine ks_codeAny_call_defAt (binds := [(ar.arg, .ref e), (a, v)]) hroom (X _ _ ho) rfl hlim (codeRec_of X hcd) rfl (BindsTo.of_eq (hbind _ _)) hcell (fun y hy => ?_) (fun h1 hns k1 => ?_) hco hgen kd
  · rcases List.mem_cons.mp hy with rfl | hy
    · exact l1
    · rw [List.mem_singleton.mp hy]; exact l2
  have X1 : K.In h1 := X.keeps k1
  have he1 := k1 _ _ he
  have hC1 : h1.get? C = some (excClassObj nm q C N bs bm true sn sub ab col dd _ _ _ _ _ "ValueError.__new__") := X1 _ _ hC
  have xC : e ≠ C := fun z => by rw [z, hC] at hnx; cases hnx
  have G1 : h1.Ns mainGlobals mg := G.keeps k1
  have B1 : h1.Ns builtinsNs mb := B.keeps k1
  have KF := kxs_ValueError
  show PySem.wpAt (model prog w) (A.deeper (ksEnv qual sc s.heap.objs.size fI (.ref cda) cc)) (.func (supBody txt f a ar.arg k p0 p1 p2 p3 p4 p5 p6 p7 p8 p9) (ksEnv qual sc s.heap.objs.size fI (.ref cda) cc)) (execs (supBody txt f a ar.arg k p0 p1 p2 p3 p4 p5 p6 p7 p8 p9) (ksEnv qual sc s.heap.objs.size fI (.ref cda) cc)) _ _ _
  generalize hA2 : A.deeper (ksEnv qual sc s.heap.objs.size fI (.ref cda) cc) = A2
  unfold supBody
  obtain ⟨pl, hev⟩ := hev s.heap.objs.size
  refine ks_wpAt_execs_cons (ks_wpAt_Expr_any (ks_wpAt_MethodCall (ks_wpAt_super_base (env := ksEnv qual sc s.heap.objs.size fI (.ref cda) cc) l3 l4 (by decide) rfl (X1 _ _ ho) rfl hp rfl (X1 _ _ hcda) rfl hvs hfile T.top ?_) hev) (hint _) (hw1 _))
  refine ks_loadName_global kd l3 (loadGlobal_builtin (env := ksEnv qual sc s.heap.objs.size fI (.ref cda) cc) G1 T.noS B1 bt ⟨rfl, ?_⟩)
  refine wpAny_loadName_free (c := cc) kd l4 (by rfl) ⟨_, X1 _ _ hcc, rfl⟩ (wpAny_loadName_local kd l1 hns (v := .ref e) ?_ ?_)
  · show List.lookup ar.arg [(a, v), (ar.arg, .ref e)] = some (.ref e)
    rw [List.lookup_cons, List.lookup_cons_self]
    have z : (ar.arg == a) = false := by simpa using nsn.symm
    rw [z]
  refine ks_wpAny_isType_cls hC1 rfl ⟨rfl, ?_⟩
  refine ks_wpAny_call_super hC1 rfl he1 rfl (fun c z => by cases z) (looks_mroIn X1 T.meC) fun h2 hso k2 => ?_
  have X2 : K.In h2 := X1.keeps k2
  have he2 := k2 _ _ he1
  have I2 : InstAt h2 e (excO C t0) C none := ⟨he2, rfl, rfl, trivial⟩
  have hf := T.sup
  unfold ks_superIn at hf
  rw [hcl] at hf
  refine kxs_getMethod KF hso (looks_opaque X2 T.opq) (l₀ := .ref C :: bm) (fun A Q E s k q => wpAny_bind ((looks_clsIn X2 hcl) A _ E s k (wpAny_pure q))) rfl X2 hf (I2.type.andThen (looks_subIn X2 T.veC)) xC (by decide) ?_
  have k3 : ∀ b o, h2.get? b = some o → (h2.push (kxs_mw "ValueError.__init__" e)).get? b = some o := fun b o z => Heap.get?_push_of_some _ z
  show wpAny _ _ (callWith p4 (.ref h2.objs.size) [] (backTo p4 (starEach [.Constant (.str txt) k p3] (ksEnv qual sc s.heap.objs.size fI (.ref cda) cc))) []) _ _ _
  rw [hst, hst0]
  refine kxs_callWith (i := "ValueError.__init__") (x := e) (by rfl) (evalArgs_plain ?_)
  refine spliced_cons (wpAny_Constant_str (k := k) (pos := p3) (spliced_nil ?_))
  have hu : (h2.push (kxs_mw "ValueError.__init__" e)).get? h2.objs.size = some (kxs_mw "ValueError.__init__" e) := Heap.get?_push_size _ rfl
  refine ⟨hu, ?_⟩
  refine call_bound PySem.F.excBase_ValueError (k3 _ _ (k2 _ _ hC1)) (k3 _ _ he2) hu (by show 1 ≤ sizeLine; rw [sizeLine_eq]; decide) fun h4 t4 k4 he4 => ?_
  have kk : ∀ b o, b ≠ e → s.heap.get? b = some o → h4.get? b = some o := fun b o hb z => k4 b o hb (k3 b o (k2 b o (k1 b o z)))
  have X4 : K.In h4 := fun b o z => kk b o (fun y => by rw [y, hnx] at z; cases z) (X b o z)
  have eL : s.heap.objs.size ≠ e := Nat.ne_of_gt (Heap.lt_size he)
  have lt4 : s.heap.objs.size < h4.objs.size := by
    obtain ⟨oL, es, ep, hL, r⟩ := hns
    exact Heap.lt_size (k4 _ _ eL (k3 _ _ (k2 _ _ hL)))
  have hns4 : h4.Ns s.heap.objs.size (fun y => List.lookup y [(ar.arg, Value.ref e), (a, v)].reverse) := by
    obtain ⟨oL, es, ep, hL, r⟩ := hns
    exact ⟨oL, es, ep, k4 _ _ eL (k3 _ _ (k2 _ _ hL)), r⟩
  show PySem.wpAt _ _ _ (execs [.Assign [.Attribute (.Name ar.arg p6) f p7] (.Name a p8) p9] (ksEnv qual sc s.heap.objs.size fI (.ref cda) cc)) _ _ _
  refine wpAt_of_wpAny (wpAny_execs_cons (plainObj_wpAny_Assign_Attribute ?_ (hw2 _)))
  refine wpAny_Name (wpAny_loadName_local kd l2 hns4 (v := v) ?_ ?_) da
  · show List.lookup a [(a, v), (ar.arg, .ref e)] = some v
    rw [List.lookup_cons_self]
  refine wpAny_Name (wpAny_loadName_local kd l1 hns4 (v := .ref e) ?_ ?_) dsn
  · show List.lookup ar.arg [(a, v), (ar.arg, .ref e)] = some (.ref e)
    rw [List.lookup_cons, List.lookup_cons_self]
    have z : (ar.arg == a) = false := by simpa using nsn.symm
    rw [z]
  refine set_plain X4 (ox := excO C t4) (od := none) ⟨he4, rfl, rfl, trivial⟩ T.sa ?_
  refine exc_osa X4 he4 hcl (show refsVE (.ref C :: bm) = true from hbm) rfl T.noN (fun h5 tk5 dx k5 dn dne hx5 hn5 => ?_)
  show wpAny _ _ (execs [] _) _ _ _
  exact wpAny_execs_nil (hq h5 tk5 dx ⟨fun b o hb z => k5 b o hb (kk b o hb z), ⟨t4, hx5⟩, Nat.le_of_lt (Nat.lt_of_lt_of_le lt4 dn), dne, hn5⟩)
/-- one that is made -/
structure SupMade (h h' : Heap) (e C d : Addr) (f : Str) (v : Value) : Prop where
  keep : ∀ b o, h.get? b = some o → h'.get? b = some o
  new : h.objs.size ≤ e
  obj : ∃ oe vs, h'.get? e = some oe ∧ oe.cls = .ref C ∧ oe.dict = some d ∧ oe.data = .fields vs ∧ vs[1]? = some .none
  dbig : h.objs.size ≤ d
  dne : d ≠ e
  ns : h'.Ns1 d (fun y => if y = f then some v else none)
theorem sup_made (T : Sup prog K mg C fI x f txt) {v : Value} (X : K.In s.heap) (G : s.heap.Ns mainGlobals mg) (B : s.heap.Ns builtinsNs mb) (bt : mb "super" = some (.type "super")) (hlim : s.heap.NoLimit) (hroom : A.depth + 1 < recursionLimit)
    (hq : ∀ h' tk e d, SupMade s.heap h' e C d f v → R (.ok (.ret (.ref e))) { s with heap := h', toks := tk }) : codeAny (model prog w) A (.call (.ref C) ⟨[v], []⟩) R s := by
  obtain ⟨nm, q, N, bs, bm, sn, sub, ab, col, dd, k0, k1, k2, k3, k5, hC, hbm⟩ := T.cls
  rcases s with ⟨hp, g, dr, tk, os⟩
  have up : ∀ b o, hp.get? b = some o → ((hp.push (kdv_tup [v])).push (excO C hp.objs.size)).get? b = some o := fun b o z => Heap.get?_push_of_some _ (Heap.get?_push_of_some _ z)
  have new : ((hp.push (kdv_tup [v])).push (excO C hp.objs.size)).get? (hp.objs.size + 1) = some (excO C hp.objs.size) := by heap_get
  have out : K.lookup (hp.objs.size + 1) = none := by
    cases z : K.lookup (hp.objs.size + 1) with
    | none => rfl
    | some o =>
      have y : hp.get? (hp.objs.size + 1) = some o := X _ _ z
      exact absurd (Nat.lt_of_succ_lt (Heap.lt_size y)) (Nat.lt_irrefl _)
  have one : [v].length ≤ sizeLine := by show 1 ≤ sizeLine; rw [sizeLine_eq]; decide
  refine call_own PySem.F.excBase_ValueError (fun Y => refsVE_contains Y bm hbm) (X _ _ hC) (looks_findIn X T.iC) (fun self => bind_fn X self T.tC) one ?_
  refine sup_init (s := ⟨(hp.push (kdv_tup [v])).push (excO C hp.objs.size), g, dr, tk, os⟩) T (X.keeps up) (G.keeps up) (B.keeps up) bt (hlim.keeps up) new out ?_ fun h' tk' dx F => ?_
  · show A.depth + 1 < recursionLimit
    exact hroom
  · have old : ∀ b o, hp.get? b = some o → h'.get? b = some o := fun b o z => F.keep b o (Nat.ne_of_lt (Nat.lt_succ_of_lt (Heap.lt_size z))) (up b o z)
    have big : hp.objs.size ≤ dx := by
      have y := F.dbig
      rw [Heap.size_push, Heap.size_push] at y
      exact Nat.le_trans (Nat.le_add_right _ 2) y
    obtain ⟨t1, ob⟩ := F.obj
    exact ⟨rfl, hq h' tk' (hp.objs.size + 1) dx ⟨old, Nat.le_succ _, ⟨_, _, ob, rfl, rfl, rfl, rfl⟩, big, F.dne, F.ns⟩⟩
end
end SupX
namespace L2
open PySem PySem.Spec PyProof.Rows
theorem relO_sup {v : V} {u : Value} (r : RelV v u) (f g : Str) : RelO (List.lookup g [(f, v)]) (if g = f then some u else none) := by
  by_cases z : g = f
  · subst z
    rw [if_pos rfl, List.lookup_cons_self]
    exact r
  · have y : (g == f) = false := by simpa using z
    rw [if_neg z, List.lookup_cons, y]
    exact True.intro
section
variable {X : Cx} {C fI : Addr} {x f txt : Str}
/-- C(e) -/
def tMkSup (C : Addr) (f : Str) (ta : TA) : St → Hp → XK → Prop := fun σ H Q => ta σ H fun vs H1 => ∃ v, vs = [v] ∧ ∀ d, H1 d = none → Q (.ref C) (some d) (upd H1 d (.xd [(f, v)]))
theorem pmk_sup {a : Expr} {ta : TA} {p pos : Pos} {k : Nat} (T : SupX.Sup X.prog X.K X.mg C fI x f txt) (hr : Room k X.A) (ha : PA X [a] ta) (hg : Gl X x) (hd : (x == ("__debug__" : Str)) = false := by decide)
    (hst : starEach (a :: []) X.env = (false, eval a X.env) :: starEach [] X.env := by rfl) (hpl : (backTo pos (starEach [] X.env)).any (·.1) = false := by rfl) :
    PMk X (.Call (.Name x p) [a] [] pos) (tMkSup C f ta) := by
  intro pins s σ H Q I h
  refine wpAny_Call_Name_kw (ld_glob I hg T.gC ?_ hd)
  refine PySem.W.callWith_K (h₀ := X.base) I.ok.mod.kin T.kC (thn (ha.run pos pins s σ H _ I h) fun us s1 ⟨vs, H1, I1, r1, v, ev, q1⟩ => ⟨I1.kIn, ?_⟩) hst hpl
  subst ev
  obtain ⟨u, rfl, ru⟩ := r1.one
  show wpAny _ _ (call (.ref C) [u]) _ _ _
  have lim := I1.nolimit
  obtain ⟨mb, nb, eb⟩ := I1.ok.mod.blt
  have glo : s1.heap.Ns mainGlobals X.mg := I1.ok.mod.glob.keeps I1.bk
  have blt : s1.heap.Ns builtinsNs mb := nb.keeps I1.bk
  obtain ⟨hp, g, dr, tk, os⟩ := s1
  refine wpAny_call (SupX.sup_made (s := ⟨hp, g, dr, tk, os⟩) T I1.kIn glo blt ((eb _ (by decide +kernel)).trans (by decide +kernel)) lim (by have := hr.dp; omega) fun h' tk' e d M => ?_)
  show MkP X pins σ Q (.ref e) ⟨h', g, dr, tk', os⟩
  obtain ⟨oe, fv, hoe, hc, hd2, hdat, h1⟩ := M.obj
  obtain ⟨G', g1, g2⟩ := restrict h' fun b => decide (b ≠ e)
  have gk : ∀ b, b ≠ e → G'.get? b = h'.get? b := fun b hb => g1 b (decide_eq_true hb)
  have ge : G'.get? e = none := g2 e (by simp)
  have old : ∀ b o, hp.get? b = some o → G'.get? b = some o := fun b o q => (gk b (Nat.ne_of_lt (Nat.lt_of_lt_of_le (Heap.lt_size q) M.new))).trans (M.keep b o q)
  have ob : ObjOk X.prog X.w (upd H1 d (.xd [(f, v)])) G' d (.xd [(f, v)]) := ⟨_, M.ns.at (fun o q => (gk d M.dne).trans q), fun g => relO_sup ru f g⟩
  have J : Inv X pins σ (upd H1 d (.xd [(f, v)])) ⟨G', g, dr, tk', os⟩ := I1.laid (t' := tk') old M.dbig ob
  refine ⟨e, oe, fv, ⟨G', g, dr, tk', os⟩, _, .ref C, some d, rfl, J, fun b o q => ?_, ge, hoe, ⟨hc, hd2⟩, hdat, h1, ?_, rfl, I1.bare, raises_own T.exC T.tyC, q1 d (I1.hok.fresh M.dbig)⟩
  · by_cases hb : b = e
    · have q' : G'.get? b = some o := q
      rw [hb, ge] at q'; cases q'
    · exact (gk b hb).symm.trans q
  · rw [upd_ne (Ne.symm M.dne)]
    exact I1.hok.fresh M.new
/-- raise C(e) -/
def tRaiseSup (C : Addr) (f : Str) (W : WX) (ta : TA) : TS := fun _ σ H => tMkSup C f ta σ H fun cls d H' => W cls d σ H'
theorem ps_raiseSup {a : Expr} {ta : TA} {W : WX} {p pos pos2 : Pos} {k : Nat} (hc : X.calm = true) (T : SupX.Sup X.prog X.K X.mg C fI x f txt) (hr : Room k X.A) (tk : Takes X W) (ha : PA X [a] ta) (hg : Gl X x) (hd : (x == ("__debug__" : Str)) = false := by decide)
    (hst : starEach (a :: []) X.env = (false, eval a X.env) :: starEach [] X.env := by rfl) (hpl : (backTo pos (starEach [] X.env)).any (·.1) = false := by rfl) :
    PS X (.Raise (some (.Call (.Name x p) [a] [] pos)) none pos2) (tRaiseSup C f W ta) := ps_raise hc tk (pmk_sup T hr ha hg hd hst hpl)
/-- n.f, n the exception that the suite holds (at a; its class cls, its dict d) -/
def tBySup (C : Addr) (f : Str) (a : Addr) (cls : Value) (d : Option Addr) (te : TE) : TE := fun σ H Q => te σ H fun x H1 => x = .ref a ∧ cls = .ref C ∧ ∃ (dd : Addr) (v : V), d = some dd ∧ H1 dd = some (.xd [(f, v)]) ∧ Q v H1
theorem pe_bySup {a : Addr} {oe : Obj} {cls : Value} {d : Option Addr} {pn : List (Addr × Obj)} {e : Expr} {te : TE} {pos : Pos} (T : SupX.Sup X.prog X.K X.mg C fI x f txt) (hz : Zc cls d oe) (hf : ∃ vs, oe.data = .fields vs) (he : PE (X.suite a ((a, oe) :: pn)) e te)
    (hb : attributeBase e f X.env (eval e X.env) = eval e X.env := by rfl) (hn : PySem.W.copiedNames.contains f = false := by decide) :
    PE (X.suite a ((a, oe) :: pn)) (.Attribute e f pos) (tBySup C f a cls d te) := by
  refine ⟨fun pins s σ H Q I h => ?_⟩
  refine attr_of hb (thn (he.run pins s σ H _ I h) fun u s1 hh => ?_)
  obtain ⟨x, H1, I1, rx, ex, ec, dd, v, ed, ea, q⟩ := hh
  subst ex
  obtain rfl : u = Value.ref a := rx
  subst ec
  subst ed
  obtain ⟨ha, _⟩ := I1.pin (a, oe) (List.mem_append_left _ List.mem_cons_self)
  obtain ⟨vs, hd⟩ := hf
  have hx : ObjOk X.prog X.w H1 s1.heap dd (.xd [(f, v)]) := I1.hok dd _ ea
  obtain ⟨mA, hns, hr⟩ := hx
  obtain ⟨od, ho, hl⟩ := lookIn_ns hns
  have l : List.lookup f [(f, v)] = some v := List.lookup_cons_self
  obtain ⟨u, hu, ru⟩ := RelO.some_of (v := v) (o := mA f) (by rw [← l]; exact hr f)
  have J : PySem.W.InstAt s1.heap a oe C (some od) := ⟨ha, hz.1, by unfold PySem.W.notCls; rw [hd] <;> rfl, by rw [hz.2]; exact ho⟩
  exact HandSPX.exc_get I1.kIn J T.ga T.gg T.exC (PySem.W.findObj_own T.hdC T.noN rfl (by rw [hl, hu])) (handed_of ru) ⟨v, H1, I1.tok _, ru, q⟩
end
end L2
end
section
set_option Elab.async false
set_option linter.all false
set_option maxRecDepth 100000
set_option maxHeartbeats 4000000
/-! the head's facts, with own exceptions that say super().__init__(..) -/
namespace SupX
open PySem PySem.W PySem.Calls PyProof.Rows PySem.HandSPX L2
def clsB (K : Frag) (C : Addr) : Bool := match K.lookup C with
  | some ⟨.type t, _, .cls cd, sl⟩ => decide (t = "type") && (decide (cd.mro.head? = some (.ref C)) && (refsVE (cd.mro.drop 1) && (cd.hasDict && (!cd.hasDel && (decide (sl.size = 6) && decide (sl[4]? = some (some (.builtin "ValueError.__new__"))))))))
  | _ => false
theorem clsB_ok {K : Frag} {C : Addr} (h : clsB K C = true) : ∃ nm q N bs bm sn sub ab col dd k0 k1 k2 k3 k5, K.lookup C = some (excClassObj nm q C N bs bm true sn sub ab col dd k0 k1 k2 k3 k5 "ValueError.__new__") ∧ refsVE bm = true := by
  unfold clsB at h
  cases e : K.lookup C with
  | none => rw [e] at h; cases h
  | some o =>
    obtain ⟨oc, od, dt, sl⟩ := o
    rw [e] at h
    cases oc with
    | type t =>
      cases dt with
      | cls cd =>
        obtain ⟨nm, bs, mro, ns, qn, hd, sn, sub, ab, col, del⟩ := cd
        obtain ⟨h1, h⟩ := He.ba h
        obtain ⟨h2, h⟩ := He.ba h
        obtain ⟨h3, h⟩ := He.ba h
        obtain ⟨h4, h⟩ := He.ba h
        obtain ⟨h5, h⟩ := He.ba h
        obtain ⟨h6, h7⟩ := He.ba h
        have h1 := of_decide_eq_true h1
        have h2 := of_decide_eq_true h2
        have h6 := of_decide_eq_true h6
        have h7 := of_decide_eq_true h7
        subst h1
        cases mro with
        | nil => cases h2
        | cons c bm =>
          cases h2
          cases hd with
          | false => cases h4
          | true =>
            cases del with
            | true => cases h5
            | false =>
              obtain ⟨l⟩ := sl
              match l, h6, h7 with
              | [k0, k1, k2, k3, k4, k5], _, h7 =>
                cases h7
                exact ⟨nm, qn, ns, bs, bm, sn, sub, ab, col, od, k0, k1, k2, k3, k5, rfl, h3⟩
      | _ => cases h
    | _ => cases dt <;> cases h
/-- a def that closes over its class: its text -/
abbrev FnC : Type := Option (Str × Str × Arguments × FuncBody × Scope × Addr × List Str × Addr)
def fnC (K : Frag) (f : Addr) : FnC := match K.lookup f with
  | some ⟨_, _, .func fd, _⟩ => some (fd.name, fd.qualname, fd.params, fd.body, fd.scope, fd.globals, fd.closure.map (·.1), fd.builtins)
  | _ => none
/-- an exception's class: its name, its field, its __init__, as the text has them -/
structure XcD where
  x : Str
  f : Str
  txt : Str
  qual : Str
  st : Stmt
def XcD.C (K : Frag) (d : XcD) : Addr := He.ga K d.x
def XcD.i (K : Frag) (d : XcD) : Addr := He.ma K (d.C K) "__init__"
def XcD.val (d : XcD) : FnC := some ("__init__", d.qual, defArgs d.st, .stmts (defBody d.st), defScope d.st, mainGlobals, ["__class__"], builtinsNs)
def cellB (K : Frag) (c C : Addr) : Bool := match K.lookup c with
  | some ⟨_, _, .cell (some (.ref a)), _⟩ => decide (a = C)
  | _ => false
def codeB (K : Frag) (file : Str) (cd : Value) : Bool := match cd with
  | .ref c => (match K.lookup c with
    | some ⟨_, _, .fields vs, _⟩ => (match (vs[2]? : Option Value) with
      | some (Value.str f _) => decide (f = file)
      | _ => false)
    | _ => false)
  | _ => false
def initB (K : Frag) (file : Str) (d : XcD) : Bool := match K.lookup (d.i K) with
  | some ⟨_, _, .func fd, _⟩ => codeIn K fd.code d.qual && (codeB K file fd.code && (fd.closure.all (fun q => cellB K q.2 (d.C K)) && decide (fd.defaults = .none)))
  | _ => false
def XcD.ok (K : Frag) (file : Str) (d : XcD) : Bool := He.eqO (nsIn K mainGlobals d.x) (some (some (.ref (d.C K)))) && (clsB K (d.C K) && (He.eqO (findIn K (.ref (d.C K)) "__setattr__") (some (some (.builtin "object.__setattr__"))) &&
  (He.eqO (findIn K (.ref (d.C K)) "__getattribute__") (some (some (.builtin "BaseException.__getattribute__"))) && (He.eqO (findIn K (.ref (d.C K)) "__getattr__") (some none) && (He.eqO (findIn K (.ref (d.C K)) d.f) (some none) &&
  (He.eqO (findIn K (.ref (d.C K)) "__init__") (some (some (.ref (d.i K)))) && (decide (typeIn K (.ref (d.i K)) = some (.type "function")) && (keepIn K (.ref (d.C K)) && (decide (subIn K (.ref (d.C K)) (.type "BaseException") = some true) &&
  (decide (subIn K (.ref (d.C K)) (.type "ValueError") = some true) && (decide (typeIn K (.ref (d.C K)) = some (.type "type")) && (hasDictIn K (d.C K) && (decide (mroIn K (d.C K) (.ref (d.C K)) = some true) &&
  (decide (exmOne K (.ref (d.C K)) (.ref (d.C K)) = some true) && (He.eqO (ks_superIn K (d.C K) (d.C K) "__init__") (some (some (.builtin "ValueError.__init__"))) && (He.eqO (nsIn K cStatics "thirdparty.any") (some none) && (He.eqO (nsIn K mainGlobals "super") (some none) && initB K file d)))))))))))))))))
/-- what the text of such an __init__ gives, however it stands in the heap -/
def TextOk (d : XcD) : Prop := ∃ (a sn : Str) (ar : Arg) (k : Nat) (p0 p1 p2 p3 p4 p5 p6 p7 p8 p9 : Pos), defBody d.st = supBody d.txt d.f a sn k p0 p1 p2 p3 p4 p5 p6 p7 p8 p9 ∧
  (∀ (kV doc pm : Value) (an : Option Addr) (cda cc : Addr) (ct u v : Value), bindArgs (ksFn "__init__" d.qual (defArgs d.st) (supBody d.txt d.f a sn k p0 p1 p2 p3 p4 p5 p6 p7 p8 p9) (defScope d.st) .none kV doc pm an (.ref cda) ct cc) ⟨[u, v], []⟩ = pure [(sn, u), (a, v)]) ∧
  ((defArgs d.st).posonlyargs ++ (defArgs d.st).args).head? = some ar ∧ ar.arg = sn ∧ a ≠ sn ∧ (sn == ("__debug__" : Str)) = false ∧ (a == ("__debug__" : Str)) = false ∧ (∀ y ∈ (defScope d.st).names, y.2 ≠ .cell) ∧ (defScope d.st).names.lookup sn = some .local ∧ (defScope d.st).names.lookup a = some .local ∧
  (defScope d.st).names.lookup ("super" : Str) = some .globalImplicit ∧ (defScope d.st).names.lookup ("__class__" : Str) = some .free ∧ (defScope d.st).kind = .function ∧ (defScope d.st).isCoroutine = false ∧ (defScope d.st).isGenerator = false ∧
  ∀ (L fI cda cc : Addr),
    (∃ pl : Sem Bool, eval (.Call (.Attribute (.Call (.Name "super" p0) [] [] p1) "__init__" p2) [.Constant (.str d.txt) k p3] [] p4) (ksEnv d.qual (defScope d.st) L fI (.ref cda) cc) = (do
      let ov ← attributeBase (.Call (.Name "super" p0) [] [] p1) "__init__" (ksEnv d.qual (defScope d.st) L fI (.ref cda) cc) (eval (.Call (.Name "super" p0) [] [] p1) (ksEnv d.qual (defScope d.st) L fI (.ref cda) cc))
      standAt p2.atName
      let (f, first) ← holding [ov] (getMethod ov "__init__" pl)
      callWith p4 f first (backTo p4 (starEach [.Constant (.str d.txt) k p3] (ksEnv d.qual (defScope d.st) L fI (.ref cda) cc))) [])) ∧
    interactive (ksEnv d.qual (defScope d.st) L fI (.ref cda) cc) = false ∧
    swapsWith (.Call (.Attribute (.Call (.Name "super" p0) [] [] p1) "__init__" p2) [.Constant (.str d.txt) k p3] [] p4) none p5.line (ksEnv d.qual (defScope d.st) L fI (.ref cda) cc) = pure false ∧
    swapsWith (.Name a p8) (some (.Attribute (.Name sn p6) d.f p7)) p9.line (ksEnv d.qual (defScope d.st) L fI (.ref cda) cc) = pure false ∧
    starEach [.Constant (.str d.txt) k p3] (ksEnv d.qual (defScope d.st) L fI (.ref cda) cc) = (false, eval (.Constant (.str d.txt) k p3) (ksEnv d.qual (defScope d.st) L fI (.ref cda) cc)) :: starEach [] (ksEnv d.qual (defScope d.st) L fI (.ref cda) cc) ∧
    starEach [] (ksEnv d.qual (defScope d.st) L fI (.ref cda) cc) = []
theorem sup_of {prog : Program} {K : Frag} {h : Heap} {mg : Str → Option Value} {file : Str} {d : XcD} (X : K.In h) (G : h.Ns mainGlobals mg) (t : TextOk d) (e : fnC K (d.i K) = d.val) (c : d.ok K file = true) (hp : prog.main.file = file) (ht : (prog.main.scope.names.lookup ("super" : Str)).isSome = false) :
    Sup prog K mg (d.C K) (d.i K) d.x d.f d.txt := by
  obtain ⟨c1, c⟩ := He.ba c
  obtain ⟨c2, c⟩ := He.ba c
  obtain ⟨c3, c⟩ := He.ba c
  obtain ⟨c4, c⟩ := He.ba c
  obtain ⟨c5, c⟩ := He.ba c
  obtain ⟨c6, c⟩ := He.ba c
  obtain ⟨c7, c⟩ := He.ba c
  obtain ⟨c8, c⟩ := He.ba c
  obtain ⟨c9, c⟩ := He.ba c
  obtain ⟨c10, c⟩ := He.ba c
  obtain ⟨c11, c⟩ := He.ba c
  obtain ⟨c12, c⟩ := He.ba c
  obtain ⟨c13, c⟩ := He.ba c
  obtain ⟨c14, c⟩ := He.ba c
  obtain ⟨c15, c⟩ := He.ba c
  obtain ⟨c16, c⟩ := He.ba c
  obtain ⟨c17, c⟩ := He.ba c
  obtain ⟨c18, c⟩ := He.ba c
  refine { gC := mg_of X G (He.eqO_ok c1), cls := clsB_ok c2, sa := He.eqO_ok c3, ga := He.eqO_ok c4, gg := He.eqO_ok c5, noN := He.eqO_ok c6, iC := He.eqO_ok c7, tC := of_decide_eq_true c8, kC := c9, exC := of_decide_eq_true c10, veC := of_decide_eq_true c11, tyC := of_decide_eq_true c12, hdC := c13, meC := of_decide_eq_true c14, te := of_decide_eq_true c15, sup := He.eqO_ok c16, opq := He.eqO_ok c17, noS := mg_none_of X G (He.eqO_ok c18), top := ht, fn := ?_ }
  obtain ⟨a, sn, ar, k, p0, p1, p2, p3, p4, p5, p6, p7, p8, p9, tb, t1, t2, t3, t4, t5, t6, t7, t8, t9, t10, t11, t12, t13, t14, t15⟩ := t
  unfold initB at c
  unfold fnC at e
  cases q : K.lookup (d.i K) with
  | none => rw [q] at c; cases c
  | some o =>
    obtain ⟨oc, od, dt, osl⟩ := o
    rw [q] at c e
    cases dt with
    | func fd =>
      obtain ⟨n1, n2, n3, n4, n5, n6, n7, n8, n9, n10, n11, n12, n13, n14, n15⟩ := fd
      have e2 : (some (n1, n2, n3, n4, n5, n6, n7.map (·.1), n15) : FnC) = d.val := e
      unfold XcD.val at e2
      simp only [Option.some.injEq, Prod.mk.injEq] at e2
      obtain ⟨h1, h2, h3, h4, h5, h6, h7, h8⟩ := e2
      have c' : (codeIn K n13 d.qual && (codeB K file n13 && (n7.all (fun q => cellB K q.2 (d.C K)) && decide (n8 = .none)))) = true := c
      obtain ⟨b1, b⟩ := He.ba c'
      obtain ⟨b2, b⟩ := He.ba b
      obtain ⟨b3, b4⟩ := He.ba b
      have b4 := of_decide_eq_true b4
      subst h1 h2 h3 h4 h5 h6 h8 b4
      rw [tb] at q
      match n7, h7, b3 with
      | [(z, cc)], h7, b3 =>
        have hz : z = "__class__" := by simpa using h7
        subst hz
        have b3 : cellB K cc (d.C K) = true := by simpa using b3
        cases n13 with
        | ref cda =>
          refine ⟨oc, od, d.qual, a, sn, defArgs d.st, defScope d.st, n9, n10, n11, n12, cda, cc, n14, osl, ar, k, p0, p1, p2, p3, p4, p5, p6, p7, p8, p9, by rw [tb], b1, ?_, ?_, t1 _ _ _ _ _ _ _, t2, t3, t4, t5, t6, t7, t8, t9, t10, t11, t12, t13, t14, fun L => (t15 L _ cda cc).1, fun L => (t15 L _ cda cc).2.1, fun L => (t15 L _ cda cc).2.2.1, fun L => (t15 L _ cda cc).2.2.2.1, fun L => (t15 L _ cda cc).2.2.2.2.1, fun L => (t15 L _ cda cc).2.2.2.2.2⟩
          · unfold cellB at b3
            split at b3
            · rename_i c1 c2 a sl ho
              have := of_decide_eq_true b3
              subst this
              exact ⟨_, _, _, ho⟩
            · cases b3
          · have b2 : (match K.lookup cda with
              | some ⟨_, _, .fields vs, _⟩ => (match (vs[2]? : Option Value) with
                | some (Value.str f _) => decide (f = file)
                | _ => false)
              | _ => false) = true := b2
            cases y : K.lookup cda with
            | none => rw [y] at b2; cases b2
            | some o2 =>
              obtain ⟨o2c, o2d, o2t, o2s⟩ := o2
              simp only [y] at b2
              cases o2t with
              | fields vs =>
                simp only at b2
                split at b2
                · rename_i f tf hv
                  exact ⟨_, _, vs, _, f, tf, rfl, hv, by rw [hp, of_decide_eq_true b2]; exact beq_self_eq_true _⟩
                · cases b2
              | _ => cases b2
        | _ => cases b1
    | _ => cases c
/-! ### the Hook -/
abbrev AlS : Type := He.AlD × Bool × List FnC
def frS (g : Addr → Option Obj) (n : Nat) : Frag := He.frG g (He.asD g n ++ [cStatics])
def obsS (fa : List He.Fa) (fn : List He.DefD) (xs : List XcD) (file : Str) (ex : Frag → Bool) (K : Frag) : AlS := (He.obsD fa fn K, ex K && xs.all (fun d => d.ok K file), xs.map fun d => fnC K (d.i K))
def valS (fn : List He.DefD) (xs : List XcD) : AlS := (He.valD fn, true, xs.map XcD.val)
def SaysS (fa : List He.Fa) (fn : List He.DefD) (xs : List XcD) (file : Str) (ex : Frag → Bool) (K : Frag) : Prop := obsS fa fn xs file ex K = valS fn xs
def obsSG (n : Nat) (fa : List He.Fa) (fn : List He.DefD) (xs : List XcD) (file : Str) (ex : Frag → Bool) (g : Addr → Option Obj) : AlS := obsS fa fn xs file ex (frS g n)
def hookS (n : Nat) (fa : List He.Fa) (fn : List He.DefD) (xs : List XcD) (file : Str) (ex : Frag → Bool) : Hook where
  α := AlS
  obs := fun s => obsSG n fa fn xs file ex s.heap.get?
  val := fun _ => valS fn xs
  says := fun _ h => ∃ K : Frag, K.In h ∧ SaysS fa fn xs file ex K
  of := fun _ _ e => ⟨_, He.frG_in, e⟩
  keeps := fun _ _ _ ⟨K, hK, c⟩ k => ⟨K, Frag.In.keeps hK k, c⟩
theorem obsSG_eq {n : Nat} {fa : List He.Fa} {fn : List He.DefD} {xs : List XcD} {file : Str} {ex : Frag → Bool} {g : Addr → Option Obj} {s : Shared} (h : ∀ a, g a = s.heap.get? a) : obsSG n fa fn xs file ex g = (hookS n fa fn xs file ex).obs s := by
  have e : g = s.heap.get? := funext h
  rw [e] <;> rfl
section
variable {fa : List He.Fa} {fn : List He.DefD} {xs : List XcD} {file : Str} {ex : Frag → Bool} {K : Frag}
theorem SaysS.d (c : SaysS fa fn xs file ex K) : He.SaysD fa fn K := congrArg (fun z : AlS => z.1) c
theorem SaysS.two (c : SaysS fa fn xs file ex K) : (ex K && xs.all (fun d => d.ok K file)) = true := congrArg (fun z : AlS => z.2.1) c
theorem SaysS.exq (c : SaysS fa fn xs file ex K) : ex K = true := (He.ba c.two).1
theorem SaysS.xok (c : SaysS fa fn xs file ex K) (i : Nat) {d : XcD} (h : xs[i]? = some d := by rfl) : d.ok K file = true := List.all_eq_true.mp (He.ba c.two).2 d (List.mem_of_getElem? h)
theorem SaysS.xfn (c : SaysS fa fn xs file ex K) (i : Nat) {d : XcD} (h : xs[i]? = some d := by rfl) : fnC K (d.i K) = d.val := by
  have e : (xs.map fun d => fnC K (d.i K)) = xs.map XcD.val := congrArg (fun z : AlS => z.2.2) c
  have e2 : (xs.map fun d => fnC K (d.i K))[i]? = (xs.map XcD.val)[i]? := by rw [e]
  rw [List.getElem?_map, List.getElem?_map, h] at e2
  exact Option.some.inj e2
end
end SupX
namespace WD
open PySem PySem.Spec PyProof.Rows L2
/-- no list stands in the written part -/
def noLst (K : PySem.W.Frag) : Bool := K.all fun p => match p.2.cls with
  | .type c => decide (c ≠ "list")
  | _ => true
theorem rd_of {K : PySem.W.Frag} {H : Hp} {a : Addr} {xs : List V} (n : noLst K = true) (h : SqL K H a xs) : Rd H a (.lst xs) := by
  rcases h with h | ⟨o, its, k, h1, h2, _⟩
  · exact h
  · have mem : (a, o) ∈ K := by
      have key : ∀ l : List (Addr × Obj), l.lookup a = some o → (a, o) ∈ l := by
        intro l
        induction l with
        | nil => intro h; cases h
        | cons q l ih =>
          obtain ⟨b, u⟩ := q
          intro h
          rw [List.lookup_cons] at h
          cases z : (a == b) with
          | true =>
            rw [z] at h
            cases h
            rw [beq_iff_eq.mp z]
            exact List.mem_cons_self
          | false =>
            rw [z] at h
            exact List.mem_cons_of_mem _ (ih h)
      exact key K h1
    have y := List.all_eq_true.mp n _ mem
    simp only [h2] at y
    exact absurd rfl (of_decide_eq_true y)
end WD
end
section
set_option Elab.async false
set_option linter.all false
set_option maxRecDepth 100000
namespace WD
open PySem PySem.Spec PyProof.Rows L2 Evl
section
variable {P : Program} {w : World} {K : PySem.W.Frag} {mg : Str → Option Value} {base : Heap}
/-- a def that may raise, its body's reading -/
theorem fnX {x qual : Str} {st : Stmt} {f : Addr} {N ps : List Str} {k : Nat} {sp : Sp} (F : ∃ fd, FunD K x qual (defArgs st) (defBody st) (defScope st) [] [] f fd) (S : FnScope N ps (defScope st)) (len : ∀ vs H Q E, sp vs H Q E → vs.length = ps.length)
    (hb : ∀ (kV doc pm : Value) (an : Option Addr) (cdv ct : Value) (us : List Value), us.length = ps.length → bindArgs (PySem.W.fnOf x qual (defArgs st) (defBody st) (defScope st) .none kV doc pm an cdv ct) ⟨us, []⟩ = pure (ps.zip us))
    (hbody : ∀ (cdv : Value) (A : Around) (outer : List Env) (s : Shared) (H : Hp) (vs : List V) (Q : VK) (E : XK), Room k (A.deeper (envOfC qual (defScope st) s.heap.objs.size f cdv)) → sp vs H Q E →
      ∃ t, PSs (cxOf (L2.CX P w) P w K mg base N qual (defScope st) f cdv A outer s H E) (defBody st) t ∧ t { nx := fun _ H' => Q .non H', rt := Q } (start N vs) H) : FnG P w K mg base (k + 1) f ps sp := by
  obtain ⟨fd, F⟩ := F
  exact ⟨⟨fd, F.ok S len (fun cdv A outer s H vs Q E hr h => hbody cdv A outer s H vs Q E hr h), F.bindsN hb⟩, F.kp⟩
end
section
variable {X : Cx} {k : Nat} {f : Addr} {ps : List Str} {sp : Sp} {x : Str} {p pos : Pos} {e : Expr} {es : List Expr} {t : TA} {W : WX}
/-- a call that may raise -/
theorem pe_callSG (F : FnG X.prog X.w X.K X.mg X.base k f ps sp) (hr : Room k X.A) (hg : Gl X x) (hm : X.mg x = some (.ref f)) (tk : Takes X W) (ha : PA X (e :: es) t)
    (hdb : (x == ("__debug__" : Str)) = false := by decide) (hst : starEach (e :: es) X.env = (false, eval e X.env) :: starEach es X.env := by rfl) (hpl : (backTo pos (starEach es X.env)).any (·.1) = false := by rfl) :
    PE X (.Call (.Name x p) (e :: es) [] pos) (tCallS sp (WE W) t) := by
  obtain ⟨⟨fd, F, B⟩, kp⟩ := F
  exact pe_callS F hr hg hm kp B (fun σ => passAt tk σ) ha hdb hst hpl
end
section
variable {K : PySem.W.Frag} {σ : L2.St} {H : Hp} {ta : TA} {d : D} {ds : List D} {W : WX} {C : Addr} {f : Str} {En : Ends}
theorem s_raiseSup (h : EvDA K ta σ H [d]) (k : ∀ v dd H1, H dd = none → Ex H H1 → H1 dd = some (.xd [(f, v)]) → Is K H1 v d → D.lf d = true → W (.ref C) (some dd) σ H1) (hl : D.lf d = true) : tRaiseSup C f W ta En σ H :=
  h H (Ex.refl H) _ fun vs H1 e a => by
    cases a with
    | @cons v _ _ _ av a =>
    cases a
    exact ⟨v, rfl, fun dd hd => k v dd _ (fresh_back e hd) (e.trans (Ex.new hd)) upd_same (av.ex (Ex.new hd)) hl⟩
/-- a call that raises -/
theorem q_callS {sp : Sp} {tz : TS} {tg : TG} (h : EvDA K ta σ H ds) (k : ∀ vs H1 Q, Ex H H1 → All K H1 vs ds → sp vs H1 Q (WE W σ)) : tSeq (tAsg (tCallS sp (WE W) ta) tg) tz En σ H := h H (Ex.refl H) _ fun vs H1 e a => k vs H1 _ e a
theorem s_callS {sp : Sp} (h : EvDA K ta σ H ds) (k : ∀ vs H1 Q, Ex H H1 → All K H1 vs ds → sp vs H1 Q (WE W σ)) : tDrop (tCallS sp (WE W) ta) En σ H := h H (Ex.refl H) _ fun vs H1 e a => k vs H1 _ e a
end
end WD
end
section
set_option Elab.async false
set_option linter.all false
set_option maxRecDepth 100000
set_option maxHeartbeats 4000000
namespace RL
open PySem PySem.Spec PyProof.Rows PySem.F RT
section
variable {prog : Program} {w : World} {A : Around} {E : Value → Shared → Prop} {s : Shared}
/-- list(reversed(l)) -/
theorem call_list_rev {it l : Addr} {items : Array Value} {Q : Value → Shared → Prop} (hh : A.handled = none) (hit : s.heap.IsRevIter it l ((items.size : Int) - 1)) (hl : s.heap.IsList l items) (hne : l ≠ it) (hn : items.size ≤ sizeLine)
    (hQ : ∀ (h' : Heap) (tk : Nat) (acc : Array Value) (c : Nat), (∀ b o, b ≠ it → s.heap.get? b = some o → h'.get? b = some o) → h'.get? s.heap.objs.size = some { cls := .type "list", dict := none, data := .seq acc c, slots := #[] } → ItemsOf (fun i v => items[items.size - 1 - i]? = some v) acc items.size →
      Q (.ref s.heap.objs.size) { s with heap := h', toks := tk }) :
    wpAny (model prog w) A (call (.type "list") [.ref it]) Q E s := by
  have W := (Walks.listRev (prog := prog) (w := w) (A := A.in1.in1) hh it l hne items).toS
  obtain ⟨oi, hoi, _⟩ := id hit
  obtain ⟨ol, hol, _⟩ := id hl
  have hSi : s.heap.objs.size ≠ it := Nat.ne_of_gt (Heap.lt_size hoi)
  have hSl : s.heap.objs.size ≠ l := Nat.ne_of_gt (Heap.lt_size hol)
  have hSf : s.heap.objs.size ∉ [it, l] := by simp only [List.mem_cons, List.not_mem_nil, or_false, not_or]; exact ⟨hSi, hSl⟩
  refine callType_codes (Q₁ := fun obj s₁ => obj = .ref s.heap.objs.size ∧ s₁ = { s with heap := s.heap.push { cls := .type "list", data := .seq #[] } }) called_list (typeCall_list_1 _) entry_list_init (code_list_new _ ⟨rfl, rfl⟩) fun obj s₁ he => ?_
  obtain ⟨rfl, rfl⟩ := he
  have hS : (s.heap.push { cls := .type "list", data := .seq #[] }).get? s.heap.objs.size = some { cls := .type "list", data := .seq #[] } := Heap.get?_push_size _ rfl
  refine ⟨⟨_, hS, rfl⟩, args_list_init_2 _ _, ?_⟩
  show wpAny _ _ (do let old ← Builtin.List.listItems (.ref s.heap.objs.size); Builtin.List.listUpdate (.ref s.heap.objs.size) (fun _ => #[]); letGo old.toList.reverse; Builtin.List.listExtendWith (.ref s.heap.objs.size) (.ref it) .none) _ _ _
  refine wpAny_bind ?_
  unfold Builtin.List.listItems
  refine wpAny_bind (wpAny_seqItems hS rfl (wpAny_pure ?_))
  show wpAny _ _ (updateSeq s.heap.objs.size (fun _ => #[]) >>= fun _ => letGo (#[] : Array Value).toList.reverse >>= fun _ => Builtin.List.listExtendWith (.ref s.heap.objs.size) (.ref it) .none) _ _ _
  refine wpAny_bind (wpAny_updateSeq hS rfl ?_)
  have u1 := Heap.get?_update_self (Obj.mapSeq (fun _ => (#[] : Array Value))) hS rfl
  have oth : ∀ c o, s.heap.get? c = some o → ((s.heap.push { cls := .type "list", data := .seq #[] }).update s.heap.objs.size (Obj.mapSeq (fun _ => (#[] : Array Value)))).get? c = some o := fun c o e =>
    (Heap.get?_update_other _ _ (Nat.ne_of_gt (Heap.lt_size e))).trans (Heap.get?_push_of_some _ e)
  refine wpAny_bind (wpAny_letGo ?_)
  generalize hH : ((s.heap.push { cls := .type "list", data := .seq #[] }).update s.heap.objs.size (Obj.mapSeq (fun _ => (#[] : Array Value)))) = H1 at u1 oth ⊢
  have hit1 : H1.IsRevIter it l ((items.size : Int) - 1) := hit.at fun o e => oth _ o e
  have hl1 : H1.IsList l items := hl.at fun o e => oth _ o e
  have hT : ({ s with heap := H1 } : Shared).TypeIs (.ref it) "list_reverseiterator" := Heap.IsRevIter.typeIs (s := { s with heap := H1 }) hit1
  have h1 : Builtin.List.listSameRef (.ref s.heap.objs.size) (.ref it) = false := by simp [Builtin.List.listSameRef, hSi]
  unfold Builtin.List.listExtendWith
  refine wpAny_bind (wpAny_typeOf hT ?_)
  rw [if_neg (by rw [h1]; decide)]
  refine wpAny_bind (wpAny_pyIter_revIter (s := { s with heap := H1 }) hit1 ?_)
  refine wpAny_bind (wpAny_holding ?_)
  unfold Builtin.List.listLengthHint
  refine wpAny_bind (wpAny_specialOf hT nolen_lri ?_)
  show wpAny _ _ (specialOf (Value.ref it) (Str.ofString "__length_hint__") >>= _) _ _ _
  refine wpAny_bind (wpAny_specialOf hT hint_lri ?_)
  generalize hid : ("list_reverseiterator.__length_hint__" : String) = id0
  wp_delta
  rw [show splitId id0 = some ("list_reverseiterator", "__length_hint__") from by subst hid; decide +kernel]
  subst hid
  refine wpAny_bind (wpAny_isInstance (b := true) hT (by rw [isSubtype_type]; kernel_rfl) ?_)
  refine wpAny_pure ?_
  rw [if_neg (by decide)]
  have e0 : ((items.size : Nat) : Int) - 1 - ((0 : Nat) : Int) = (items.size : Int) - 1 := by omega
  refine wpAny_pure ⟨plainId_quiet plain_extend_loop _, codeAny_extend_loopS W hn _ hSf _ items.size 0 _ _ _ rfl (Nat.zero_le _) ⟨Nat.zero_le _, by rw [e0]; exact hit1, hl1⟩ u1 (ItemsOf.nil _) fun s' acc' c' hm hS' hacc => ?_⟩
  refine ⟨rfl, ?_⟩
  rw [Moved.eq_with hm]
  refine hQ s'.heap s'.toks acc' c' (fun b o hb e => hm.heap b o (fun hmem => ?_) (oth b o e)) hS' hacc
  rcases List.mem_cons.mp hmem with e' | hmem
  · exact absurd (Heap.lt_size e) (by rw [e']; exact Nat.lt_irrefl _)
  · exact hb (List.mem_singleton.mp hmem)
end
end RL
namespace L2
open PySem PySem.Spec PyProof.Rows
section
variable {X : Cx}
def tListRev (K : PySem.W.Frag) (te : TE) : TE := fun σ H Q => te σ H fun v H1 => ∃ (a : Addr) (xs : List V), v = .ref a ∧ SqL K H1 a xs ∧ ∀ q, H1 q = none → Q (.ref q) (upd H1 q (.lst xs.reverse))
theorem pe_listRev {e : Expr} {te : TE} {p p2 pos pos2 : Pos} (hc : X.calm = true) (hg : Gl X "list") (hm : X.mg "list" = none) (hg2 : Gl X "reversed") (hm2 : X.mg "reversed" = none) (he : PE X e te)
    (hs : starEach [e] X.env = (false, eval e X.env) :: starEach [] X.env := by rfl)
    (hs2 : starEach [.Call (.Name "reversed" p2) [e] [] pos2] X.env = (false, eval (.Call (.Name "reversed" p2) [e] [] pos2) X.env) :: starEach [] X.env := by rfl) :
    PE X (.Call (.Name "list" p) [.Call (.Name "reversed" p2) [e] [] pos2] [] pos) (tListRev X.K te) := by
  refine ⟨fun pins s σ H Q I h => ?_⟩
  refine Call_ (ld_blt I hg hm boot_list (PyProof.Rows.callWith_type1 (args_cons (Call_ (ld_blt I hg2 hm2 PyProof.Rows.boot_reversed (PyProof.Rows.callWith_type1 (args_cons (thn (he.run pins s σ H _ I h) fun u s1 ⟨v, H1, I1, r1, q1⟩ => args_nil ?_) hs) hs rfl))) hs2) hs2 rfl))
  obtain ⟨a, xs, ev, hq, q⟩ := q1
  subst ev
  obtain rfl : u = Value.ref a := r1
  obtain ⟨its, rv, p', hz⟩ := I1.list hq
  refine call_reversed_list p'.isList (args_nil ?_)
  have k0 : ∀ b o, s1.heap.get? b = some o → (s1.heap.push (revObj a ((its.toArray.size : Int) - 1))).get? b = some o := fun b o e => Heap.get?_push_of_some _ e
  have hl := p'.isList
  obtain ⟨ol, hol, _⟩ := id hl
  have hne : a ≠ s1.heap.objs.size := Nat.ne_of_lt (Heap.lt_size hol)
  have hn : its.toArray.size ≤ sizeLine := by rw [List.size_toArray, ← rv.length]; exact hz
  refine RL.call_list_rev (s := { s1 with heap := s1.heap.push (revObj a ((its.toArray.size : Int) - 1)) }) (I1.ok.hd hc) ⟨_, Heap.get?_push_size _ rfl, rfl, rfl⟩ (hl.push _) hne hn fun h' tk acc c hk hS hi => ?_
  have k1 : ∀ b o, s1.heap.get? b = some o → h'.get? b = some o := fun b o e => hk b o (Nat.ne_of_lt (Heap.lt_size e)) (k0 b o e)
  refine ⟨.ref _, upd H1 (s1.heap.push (revObj a ((its.toArray.size : Int) - 1))).objs.size (.lst xs.reverse), I1.laid (t' := tk) k1 (by rw [Heap.size_push]; omega) (show ObjOk X.prog X.w _ _ _ (.lst xs.reverse) from ⟨by rw [List.length_reverse]; exact hz, acc.toList, c, RT.vals_rev rv hi, ?_⟩), rfl, q _ (I1.hok.fresh (by rw [Heap.size_push]; omega))⟩
  rw [Array.toArray_toList]
  exact hS
/-- list(range(a, b, c)), c below 0: a, a + c .. -/
def tListRg3 (ta : TA) : TE := fun σ H Q => ta σ H fun vs H1 => ∃ (i j c : Int) (n : Nat), vs = [.int i, .int j, .int c] ∧ RgC i j c n ∧ n ≤ 2 ^ 20 ∧ ∀ q, H1 q = none → Q (.ref q) (upd H1 q (.lst ((List.range n).map fun k => V.int (i + (k : Nat) * c))))
theorem pe_listRg3 {a b c : Expr} {ta : TA} {p p2 pos pos2 : Pos} (hc : X.calm = true) (hg : Gl X "list") (hm : X.mg "list" = none) (hg2 : Gl X "range") (hm2 : X.mg "range" = none) (ha : PA X [a, b, c] ta)
    (hs : starEach [a, b, c] X.env = (false, eval a X.env) :: starEach [b, c] X.env := by rfl) (hpl : (backTo pos2 (starEach [b, c] X.env)).any (·.1) = false := by rfl)
    (hs2 : starEach [.Call (.Name "range" p2) [a, b, c] [] pos2] X.env = (false, eval (.Call (.Name "range" p2) [a, b, c] [] pos2) X.env) :: starEach [] X.env := by rfl) :
    PE X (.Call (.Name "list" p) [.Call (.Name "range" p2) [a, b, c] [] pos2] [] pos) (tListRg3 ta) := by
  refine ⟨fun pins s σ H Q I h => ?_⟩
  refine Call_ (ld_blt I hg hm boot_list (PyProof.Rows.callWith_type1 (args_cons (Call_ (ld_blt I hg2 hm2 boot_range (PyProof.Rows.callWith_type1 (thn (ha.run pos2 pins s σ H _ I h) fun us s1 ⟨vs, H1, I1, r1, q1⟩ => ?_) hs hpl))) hs2) hs2 rfl))
  obtain ⟨i, j, k, n, e, ⟨c0, c1, c2, c3⟩, hn, q⟩ := q1
  subst e
  cases r1 with
  | cons r rr =>
    cases rr with
    | cons r' rr =>
      cases rr with
      | cons r'' rr =>
        cases rr
        obtain ⟨t, rfl⟩ := r
        obtain ⟨t', rfl⟩ := r'
        obtain ⟨t'', rfl⟩ := r''
        refine call_range_3 c0 (args_nil ?_) (.inl (PyProof.noPylong_small c1))
        refine call_list_range (n := n) (I1.ok.hd hc) (IsRange.new ..) c2 c3 (Nat.le_trans hn (by decide)) fun h' tk acc cc hk e' hi => ?_
        have k0 : ∀ b o, s1.heap.get? b = some o → h'.get? b = some o := fun b o e => hk b o (Heap.get?_push_of_some _ e)
        refine ⟨.ref _, upd H1 _ (.lst ((List.range n).map fun m => V.int (i + (m : Nat) * k))), I1.laid (t' := tk) k0 (by rw [Heap.size_push]; omega) (show ObjOk X.prog X.w _ _ _ (.lst _) from ⟨?_, acc.toList, cc, ?_, ?_⟩), rfl, q _ (I1.hok.fresh (by rw [Heap.size_push]; omega))⟩
        · rw [List.length_map, List.length_range, sizeLine_eq]; omega
        · have el : acc.toList.length = n := by rw [Array.length_toList]; exact hi.1
          rw [← el]
          refine vals_of_get acc.toList _ fun m u hm => ?_
          obtain ⟨t, rfl⟩ := hi.2 m u (by rw [← hm, Array.getElem?_toList])
          exact ⟨t, rfl⟩
        · rw [Array.toArray_toList]; exact e'
/-- x in (.., ..), data of any depth in a tuple -/
def rInDT (K : PySem.W.Frag) : R2 := fun x y H Q => ∃ d ds, Dp K H x d ∧ Dp K H y (.tuple ds) ∧ PyData.canLay0 d = true ∧ PyData.canLayAll0 ds = true ∧ PyData.depthAll ds ≤ 60 ∧ Q (.bl (ds.any fun z => PyData.eqv z d)) H
theorem op_inDT (hu : X.A.units + 64 < cLine) : OpR X (compareOp .In) (rInDT X.K) := by
  intro pins s σ H x y v u Q I rx ry h
  obtain ⟨d, ds, hd, he, sd, se, hdp, q⟩ := h
  obtain ⟨as, r1⟩ := Dp.reads I d x v hd rx
  obtain ⟨bs, r2⟩ := Dp.reads I (.tuple ds) y u he ry
  exact SeqAt.in_tuple_reads r2 r1 se sd (by omega) ⟨.bl _, H, I, rfl, q⟩
/-- a + b, a an instance with an __add__ of the text -/
def rAddO (C : Addr) (sp : Sp) (E : XK) : R2 := fun x y H Q => ∃ a b dx dy fs gs, x = .ref a ∧ y = .ref b ∧ H a = some (.ins C dx fs) ∧ H b = some (.ins C dy gs) ∧ sp [.ref a, .ref b] H (fun v H' => ∃ c, v = .ref c ∧ Q (.ref c) H') E
def tAddS (C : Addr) (sp : Sp) (E : St → XK) (ta tb : TE) : TE := fun σ H Q => ta σ H fun x H1 => tb σ H1 fun y H2 => ∃ a b dx dy fs gs, x = .ref a ∧ y = .ref b ∧ H2 a = some (.ins C dx fs) ∧ H2 b = some (.ins C dy gs) ∧ sp [.ref a, .ref b] H2 (fun v H' => ∃ c, v = .ref c ∧ Q (.ref c) H') (E σ)
section
variable {CX : CXT} {C f : Addr} {fd : FuncData} {ps : List Str} {sp : Sp} {n : Nat} {pins : List (Addr × Obj)} {s : Shared} {σ : St} {H : Hp} {E : XK}
theorem run_addO (F : FnOk X.prog X.w X.K X.mg X.base CX n f fd ps sp) (hm : Meth X.K C "__add__" f) (hsf : PySem.W.selfFirst X.K C = true) (hb : Binds X.K fd ps []) (hx : PassesAt CX X σ E) (hr : Room n X.A)
    {a b dx dy : Addr} {fs gs : List (Str × V)} {Q : VK} (I : Inv X pins σ H s) (ha : H a = some (.ins C dx fs)) (hb' : H b = some (.ins C dy gs)) (hsp : sp [.ref a, .ref b] H (fun v H' => ∃ c, v = .ref c ∧ Q (.ref c) H') E) :
    wpAny (model X.prog X.w) X.A (binaryOp .Add (.ref a) (.ref b)) (EP X pins σ Q) X.xe s := by
  obtain ⟨mA, J, _⟩ := ins_get I.hok ha
  obtain ⟨mB, J', _⟩ := ins_get I.hok hb'
  obtain ⟨od, J, _⟩ := J.look
  obtain ⟨od', J', _⟩ := J'.look
  obtain ⟨m, hF⟩ := I.fr
  refine PySem.W.binop_K (op := .Add) hF I.ok.mod.kin J J'.type hsf hm.at_ hm.fn ?_
  refine wpAny_mono (run_fnS (E := fun _ => E) F hr hb hx I (.cons (show RelV (.ref a) (.ref a) from rfl) (.cons (show RelV (.ref b) (.ref b) from rfl) .nil)) hsp) (fun v s' z => ?_) fun _ _ x => x
  obtain ⟨w, H', I', rw', c, rfl, q⟩ := z
  cases rw'
  exact ⟨.ref c, H', I', rfl, q⟩
end
section
variable {C f : Addr} {ps : List Str} {sp : Sp} {n : Nat} {e1 e2 : Expr} {ta tb : TE} {pos : Pos} {W : WX}
theorem addO_of (F : WD.FnG X.prog X.w X.K X.mg X.base n f ps sp) (hm : Meth X.K C "__add__" f) (hsf : PySem.W.selfFirst X.K C = true) (hr : Room n X.A) : OpR X (binaryOp .Add) (rAddO C sp E0) := by
  obtain ⟨⟨fd, F, B⟩, kp⟩ := F
  intro pins s σ H x y v u Q I rx ry h
  obtain ⟨a, b, dx, dy, fs, gs, rfl, rfl, ha, hb', hsp⟩ := h
  cases rx
  cases ry
  exact run_addO F hm hsf B (fun pins H s e s' I c => passL pins σ H s e s' I c) hr I ha hb' hsp
theorem pe_addSG (F : WD.FnG X.prog X.w X.K X.mg X.base n f ps sp) (hm : Meth X.K C "__add__" f) (hsf : PySem.W.selfFirst X.K C = true) (hr : Room n X.A) (tk : Takes X W) (ha : PE X e1 ta) (hb : PE X e2 tb) : PE X (.BinOp e1 .Add e2 pos) (tAddS C sp (WE W) ta tb) := by
  obtain ⟨⟨fd, F, B⟩, kp⟩ := F
  refine ⟨fun pins s σ H Q I h => ?_⟩
  refine wpAny_BinOp (binT ha hb I h fun v u s2 x y H2 I2 rx ry q => ?_)
  obtain ⟨a, b, dx, dy, fs, gs, rfl, rfl, ha, hb', hsp⟩ := q
  cases rx
  cases ry
  exact run_addO F hm hsf B (passAt tk σ) hr I2 ha hb' hsp
def tMakeX (C : Addr) (sp : Sp) (E : St → XK) (t : TA) : TE := fun σ H Q => t σ H fun vs H1 => ∀ x dx, H1 x = none → H1 dx = none → dx ≠ x → sp (.ref x :: vs) (upd (upd H1 dx (.own x)) x (.ins C dx [])) (fun v H2 => v = .non ∧ Q (.ref x) H2) (E σ)
theorem run_makeS {CX : CXT} {fd : FuncData} {pins : List (Addr × Obj)} {σ : St} {H : Hp} {s : Shared} {Q : VK} {E : XK} {us : List Value} {vs : List V} (M : Mk X.K C f) (F : FnOk X.prog X.w X.K X.mg X.base CX n f fd ps sp) (hr : Room (n + 1) X.A) (hb : Binds X.K fd ps [])
    (hx : PassesAt CX X σ E) (I : Inv X pins σ H s) (r : Vals vs us)
    (h : ∀ x dx, H x = none → H dx = none → dx ≠ x → sp (.ref x :: vs) (upd (upd H dx (.own x)) x (.ins C dx [])) (fun v H2 => v = .non ∧ Q (.ref x) H2) E) :
    wpAny (model X.prog X.w) X.A (call (.ref C) us) (EP X pins σ Q) X.xe s := by
  have hq := h (s.heap.objs.size + 1) s.heap.objs.size (I.hok.fresh (Nat.le_succ _)) (I.hok.fresh (Nat.le_refl _)) (Nat.ne_of_lt (Nat.lt_succ_self _))
  have I2 := Inv.made (C := C) I
  have r2 : Vals (V.ref (s.heap.objs.size + 1) :: vs) (Value.ref (s.heap.objs.size + 1) :: us) := .cons rfl r
  have hl : (Value.ref (s.heap.objs.size + 1) :: us).length = ps.length := by
    have e := r2.length
    rw [F.len _ _ _ _ hq] at e
    exact e.symm
  refine wpAny_call (make_map (f := f) I.kIn M.makes M.init (beq_iff_eq.mp M.fn) (codeAny_mono (F.run _ X.stack _ _ ⟨Value.ref (s.heap.objs.size + 1) :: us, []⟩ (Value.ref (s.heap.objs.size + 1) :: us) _ _ E (hr.make C us [])
    (I2.env0.make C us []) (by
      have b := hb _ (Value.ref (s.heap.objs.size + 1) :: us) I2.kIn (by rw [List.append_nil]; exact hl)
      rw [List.append_nil] at b
      exact b) r2 hq) fun r s' hq' => ?_))
  cases r with
  | error e => exact hx pins _ _ e s' I2 hq'
  | ok fl =>
    cases fl with
    | ret u =>
      obtain ⟨v, H', I3, rv, ev, q3⟩ := I2.after hq'
      subst ev
      exact ⟨rv, ⟨V.ref (s.heap.objs.size + 1), H', I3, rfl, q3⟩⟩
    | next => exact False.elim hq'
    | brk => exact False.elim hq'
    | cont => exact False.elim hq'
theorem pe_makeSG {e : Expr} {es : List Expr} {x : Str} {p : Pos} {t : TA} (M : Mk X.K C f) (F : WD.FnG X.prog X.w X.K X.mg X.base n f ps sp) (hr : Room (n + 1) X.A) (hg : Gl X x) (hm : X.mg x = some (.ref C)) (tk : Takes X W) (ha : PA X (e :: es) t)
    (hdb : (x == ("__debug__" : Str)) = false := by decide) (he : starEach (e :: es) X.env = (false, eval e X.env) :: starEach es X.env := by rfl) (hpl : (backTo pos (starEach es X.env)).any (·.1) = false := by rfl) :
    PE X (.Call (.Name x p) (e :: es) [] pos) (tMakeX C sp (WE W) t) := by
  obtain ⟨⟨fd, F, B⟩, kp⟩ := F
  refine ⟨fun pins s σ H Q I h => ?_⟩
  refine wpAny_Call_Name_kw (ld_glob I hg hm ?_ hdb)
  refine PySem.W.callWith_K (h₀ := X.base) I.ok.mod.kin M.kp (thn (ha.run pos pins s σ H _ I h) fun us s1 ⟨vs, H1, I1, r, q⟩ => ⟨I1.kIn, ?_⟩) he hpl
  exact run_makeS M F hr B (passAt tk σ) I1 r q
def tMethX (C : Addr) (m : Str) (sp : Sp) (E : St → XK) (ta : TE) (t : TA) : TE := fun σ H Q => ta σ H fun x H1 => ∃ a dx fs, x = .ref a ∧ H1 a = some (.ins C dx fs) ∧ fs.lookup m = none ∧ t σ H1 fun vs H2 => sp (.ref a :: vs) H2 Q (E σ)
theorem pe_methSG {o e : Expr} {es : List Expr} {m : Str} {apos : Pos} {t : TA} {pl : Sem Bool} (he : PE X o ta) (c : Cls X.K C) (hm : Meth X.K C m f) (F : WD.FnG X.prog X.w X.K X.mg X.base n f ps sp) (hr : Room n X.A) (tk : Takes X W) (ha : PA X (e :: es) t)
    (hst : starEach (e :: es) X.env = (false, eval e X.env) :: starEach es X.env := by rfl) (hpl : (backTo pos (starEach es X.env)).any (·.1) = false := by rfl)
    (ht : eval (.Call (.Attribute o m apos) (e :: es) [] pos) X.env = (do
      let ov ← eval o X.env
      standAt apos.atName
      let (f, first) ← holding [ov] (getMethod ov m pl)
      callWith pos f first (backTo pos (starEach (e :: es) X.env)) (backToKw pos (keywordEach [] X.env))) := by rfl) :
    PE X (.Call (.Attribute o m apos) (e :: es) [] pos) (tMethX C m sp (WE W) ta t) := by
  obtain ⟨⟨fd, F, B⟩, kp⟩ := F
  refine ⟨fun pins s σ H Q I h => ?_⟩
  refine PySem.W.methodCall_KW (pl := pl) (thn (he.run pins s σ H _ I h) fun u s1 ⟨x, H1, I1, rx, a, dx, fs, ex, ea, l, q⟩ => ?_) ht
  subst ex
  obtain rfl : u = Value.ref a := rx
  refine getmeth_ok I1 ea c hm l ?_
  refine PySem.W.callWith_K (first := [.ref a]) (h₀ := X.base) I.ok.mod.kin hm.kp (thn (ha.run pos pins s1 σ H1 _ I1 q) fun us s2 ⟨vs, H2, I2, r, q2⟩ => ⟨I2.kIn, ?_⟩) hst hpl
  exact run_fnS (E := fun _ => WE W σ) (us := .ref a :: us) (vs := .ref a :: vs) F hr B (passAt tk σ) I2 (.cons rfl r) q2
end
end
end L2
end
section
set_option Elab.async false
set_option linter.all false
set_option maxRecDepth 100000
/-! PM: a program read as plain functions. Data D, cells for what changes, worlds, what evaluates to what. -/
namespace PM
open PySem L2 Evl

inductive D where
  | non | bl (b : Bool) | int (i : Int) | str (x : Str)
  | tup (ds : List D) | lst (ds : List D) | obj (c : Str) (fs : List (Str × D)) | ptr (n : Nat) | scr (ns : List Int)
instance : Inhabited D := ⟨.non⟩
inductive Cell where
  | lst (ds : List D) | obj (c : Str) (fs : List (Str × D)) | dead
abbrev Sto := List Cell
/-- an exception: its class, its one field -/
structure Er where
  cls : Str
  arg : Option (Str × D)
inductive Out (α : Type) where
  | ok (a : α) (s : Sto) | er (x : Er) (s : Sto) | no
abbrev M (α : Type) := Sto → Out α
def ret {α : Type} (a : α) : M α := fun s => .ok a s
def Out.then {α β : Type} (o : Out α) (f : α → M β) : Out β := match o with
  | .ok a s => f a s
  | .er x s => .er x s
  | .no => .no
def bind {α β : Type} (m : M α) (f : α → M β) : M β := fun s => (m s).then f
def stuck {α : Type} : M α := fun _ => .no
structure Env where
  sl : List (Option D)
  ex : Option (Nat × Er)
inductive SO where
  | nx (e : Env) (s : Sto) | rt (d : D) (s : Sto) | bk (e : Env) (s : Sto) | ct (e : Env) (s : Sto) | er (x : Er) (e : Env) (s : Sto) | no
abbrev Stm := Env → Sto → SO

@[simp] theorem ret_ap {α : Type} (a : α) (s : Sto) : ret a s = .ok a s := rfl
@[simp] theorem bind_ap {α β : Type} (m : M α) (f : α → M β) (s : Sto) : bind m f s = (m s).then f := rfl
@[simp] theorem then_ok {α β : Type} (a : α) (s : Sto) (f : α → M β) : (Out.ok a s).then f = f a s := rfl
@[simp] theorem then_er {α β : Type} (x : Er) (s : Sto) (f : α → M β) : (Out.er x s).then f = .er x s := rfl
@[simp] theorem then_no {α β : Type} (f : α → M β) : (Out.no : Out α).then f = .no := rfl
@[simp] theorem stuck_ap {α : Type} (s : Sto) : (stuck : M α) s = .no := rfl

def Out.sat {α : Type} (o : Out α) (P : α → Sto → Prop) (E : Er → Sto → Prop) : Prop := match o with
  | .ok a s => P a s
  | .er x s => E x s
  | .no => False
theorem sat_then {α β : Type} {o : Out α} {f : α → M β} {P : β → Sto → Prop} {E : Er → Sto → Prop} : (o.then f).sat P E ↔ o.sat (fun a s => (f a s).sat P E) E := by
  cases o <;> exact Iff.rfl
theorem Out.sat.imp {α : Type} {o : Out α} {P P' : α → Sto → Prop} {E E' : Er → Sto → Prop} (h : o.sat P E) (hp : ∀ a s, P a s → P' a s) (he : ∀ x s, E x s → E' x s) : o.sat P' E' := by
  cases o with
  | ok a s => exact hp a s h
  | er x s => exact he x s h
  | no => exact h
def SO.sat (o : SO) (N : Env → Sto → Prop) (R : D → Sto → Prop) (B C : Env → Sto → Prop) (E : Er → Env → Sto → Prop) : Prop := match o with
  | .nx e s => N e s
  | .rt d s => R d s
  | .bk e s => B e s
  | .ct e s => C e s
  | .er x e s => E x e s
  | .no => False
theorem SO.sat.imp {o : SO} {N N' B B' C C' : Env → Sto → Prop} {R R' : D → Sto → Prop} {E E' : Er → Env → Sto → Prop} (h : o.sat N R B C E) (hn : ∀ e s, N e s → N' e s) (hr : ∀ d s, R d s → R' d s) (hb : ∀ e s, B e s → B' e s) (hc : ∀ e s, C e s → C' e s) (he : ∀ x e s, E x e s → E' x e s) : o.sat N' R' B' C' E' := by
  cases o with
  | nx e s => exact hn e s h
  | rt d s => exact hr d s h
  | bk e s => exact hb e s h
  | ct e s => exact hc e s h
  | er x e s => exact he x e s h
  | no => exact h

/-! ### worlds -/
/-- F: what is known and stays; B: where the cells stand; U: what stands there and is nobody's business -/
structure Wd where
  F : Hp
  B : List Addr
  U : Hp
structure Wd.le (w w' : Wd) : Prop where
  f : Ex w.F w'.F
  b : w.B <+: w'.B
  u : w'.U = w.U
theorem Wd.le.refl (w : Wd) : w.le w := ⟨Ex.refl _, List.prefix_rfl, rfl⟩
theorem Wd.le.trans {a b c : Wd} (h : a.le b) (g : b.le c) : a.le c := ⟨h.f.trans g.f, h.b.trans g.b, g.u.trans h.u⟩
mutual
inductive VR (K : PySem.W.Frag) (w : Wd) : V → D → Prop
  | non : VR K w .non .non
  | bl (b : Bool) : VR K w (.bl b) (.bl b)
  | int (i : Int) : VR K w (.int i) (.int i)
  | str (x : Str) : VR K w (.str x) (.str x)
  | tup {a : Addr} {xs : List V} {ds : List D} : SqT K w.F a xs → VRs K w xs ds → VR K w (.ref a) (.tup ds)
  | lst {a : Addr} {xs : List V} {ds : List D} : w.F a = some (.lst xs) → VRs K w xs ds → VR K w (.ref a) (.lst ds)
  | scr {a : Addr} {ns : List Int} : Rd w.F a (.lst (ns.map V.int)) → VR K w (.ref a) (.scr ns)
  | obj {a dx : Addr} {c : Str} {fvs : List (Str × V)} {fs : List (Str × D)} : w.F a = some (.ins (He.ga K c) dx fvs) → VRf K w fvs fs → VR K w (.ref a) (.obj c fs)
  | ptr {a : Addr} {n : Nat} : w.B[n]? = some a → VR K w (.ref a) (.ptr n)
inductive VRs (K : PySem.W.Frag) (w : Wd) : List V → List D → Prop
  | nil : VRs K w [] []
  | cons {v : V} {vs : List V} {d : D} {ds : List D} : VR K w v d → VRs K w vs ds → VRs K w (v :: vs) (d :: ds)
inductive VRf (K : PySem.W.Frag) (w : Wd) : List (Str × V) → List (Str × D) → Prop
  | nil : VRf K w [] []
  | cons {n : Str} {v : V} {vs : List (Str × V)} {d : D} {ds : List (Str × D)} : VR K w v d → VRf K w vs ds → VRf K w ((n, v) :: vs) ((n, d) :: ds)
end
section
variable {K : PySem.W.Frag} {w w' : Wd}
theorem pre_get {α : Type} {l l' : List α} {n : Nat} {a : α} (h : l <+: l') (e : l[n]? = some a) : l'[n]? = some a := by
  obtain ⟨r, rfl⟩ := h
  rw [List.getElem?_append_left (List.getElem?_eq_some_iff.mp e).1]
  exact e
mutual
theorem VR.up (e : w.le w') : ∀ {v : V} {d : D}, VR K w v d → VR K w' v d
  | _, _, .non => .non
  | _, _, .bl b => .bl b
  | _, _, .int i => .int i
  | _, _, .str x => .str x
  | _, _, .tup h a => .tup (ex_t e.f h) (VRs.up e a)
  | _, _, .lst h a => .lst (e.f _ _ h) (VRs.up e a)
  | _, _, .scr h => .scr (ex_rd e.f h)
  | _, _, .obj h a => .obj (e.f _ _ h) (VRf.up e a)
  | _, _, .ptr h => .ptr (pre_get e.b h)
theorem VRs.up (e : w.le w') : ∀ {v : List V} {d : List D}, VRs K w v d → VRs K w' v d
  | _, _, .nil => .nil
  | _, _, .cons h a => .cons (VR.up e h) (VRs.up e a)
theorem VRf.up (e : w.le w') : ∀ {v : List (Str × V)} {d : List (Str × D)}, VRf K w v d → VRf K w' v d
  | _, _, .nil => .nil
  | _, _, .cons h a => .cons (VR.up e h) (VRf.up e a)
end
theorem nd_ix {α : Type} : ∀ {l : List α} {i j : Nat} {a : α}, l.Nodup → l[i]? = some a → l[j]? = some a → i = j
  | [], _, _, _, _, h, _ => by simp at h
  | x :: l, 0, 0, _, _, _, _ => rfl
  | x :: l, 0, j + 1, a, n, h, g => by
    simp at h g
    subst h
    exact absurd (List.mem_of_getElem? g) (List.nodup_cons.mp n).1
  | x :: l, i + 1, 0, a, n, h, g => by
    simp at h g
    subst g
    exact absurd (List.mem_of_getElem? h) (List.nodup_cons.mp n).1
  | x :: l, i + 1, j + 1, a, n, h, g => congrArg Nat.succ (nd_ix (List.nodup_cons.mp n).2 (by simpa using h) (by simpa using g))
theorem VRs.len : ∀ {vs : List V} {ds : List D}, VRs K w vs ds → vs.length = ds.length
  | _, _, .nil => rfl
  | _, _, .cons _ a => congrArg Nat.succ (VRs.len a)
theorem VRs.get : ∀ {vs : List V} {ds : List D} {i : Nat} {d : D}, VRs K w vs ds → ds[i]? = some d → ∃ v, vs[i]? = some v ∧ VR K w v d
  | _, _, _, _, .nil, h => by simp at h
  | _, _, 0, _, .cons h _, e => by
    simp at e
    subst e
    exact ⟨_, rfl, h⟩
  | _, _, i + 1, _, .cons _ a, e => by
    obtain ⟨v, h1, h2⟩ := VRs.get (i := i) a (by simpa using e)
    exact ⟨v, by simpa using h1, h2⟩
theorem VRs.app : ∀ {vs ws : List V} {ds es : List D}, VRs K w vs ds → VRs K w ws es → VRs K w (vs ++ ws) (ds ++ es)
  | _, _, _, _, .nil, b => b
  | _, _, _, _, .cons h a, b => .cons h (VRs.app a b)
theorem VRs.one {v : V} {d : D} (h : VR K w v d) : VRs K w [v] [d] := .cons h .nil
theorem VRs.drop : ∀ {vs : List V} {ds : List D} (n : Nat), VRs K w vs ds → VRs K w (vs.drop n) (ds.drop n)
  | _, _, 0, h => h
  | _, _, _ + 1, .nil => .nil
  | _, _, n + 1, .cons _ a => VRs.drop n a
theorem VRs.take : ∀ {vs : List V} {ds : List D} (n : Nat), VRs K w vs ds → VRs K w (vs.take n) (ds.take n)
  | _, _, 0, _ => .nil
  | _, _, _ + 1, .nil => .nil
  | _, _, n + 1, .cons h a => .cons h (VRs.take n a)
theorem VRs.set {v : V} {d : D} (h : VR K w v d) : ∀ {vs : List V} {ds : List D} (n : Nat), VRs K w vs ds → VRs K w (vs.set n v) (ds.set n d)
  | _, _, _, .nil => .nil
  | _, _, 0, .cons _ a => .cons h a
  | _, _, n + 1, .cons g a => .cons g (VRs.set h n a)
theorem VRs.rep : ∀ {vs : List V} {ds : List D} (n : Nat), VRs K w vs ds → VRs K w (List.replicate n vs).flatten (List.replicate n ds).flatten
  | _, _, 0, _ => .nil
  | _, _, n + 1, h => by
    rw [List.replicate_succ, List.replicate_succ, List.flatten_cons, List.flatten_cons]
    exact h.app (VRs.rep n h)
theorem VRs.rev {vs : List V} {ds : List D} (h : VRs K w vs ds) : VRs K w vs.reverse ds.reverse := by
  induction h using VRs.rec (motive_1 := fun _ _ _ => True) (motive_3 := fun _ _ _ => True) with
  | nil => exact .nil
  | cons h a _ ih =>
    rw [List.reverse_cons, List.reverse_cons]
    exact ih.app (.one h)
  | _ => trivial
theorem VRs.ints : ∀ (ns : List Int), VRs K w (ns.map V.int) (ns.map D.int)
  | [] => .nil
  | n :: ns => .cons (.int n) (VRs.ints ns)
theorem VRf.look {f : Str} {d : D} : ∀ {vs : List (Str × V)} {ds : List (Str × D)}, VRf K w vs ds → ds.lookup f = some d → ∃ v, vs.lookup f = some v ∧ VR K w v d
  | _, _, .nil, h => by simp at h
  | _, _, .cons (n := n) h a, e => by
    rw [List.lookup_cons] at e ⊢
    cases q : (f == n) with
    | true =>
      rw [q] at e
      cases e
      exact ⟨_, rfl, h⟩
    | false =>
      rw [q] at e
      exact VRf.look a e
theorem VRf.none {f : Str} : ∀ {vs : List (Str × V)} {ds : List (Str × D)}, VRf K w vs ds → ds.lookup f = none → vs.lookup f = none
  | _, _, .nil, _ => rfl
  | _, _, .cons (n := n) h a, e => by
    rw [List.lookup_cons] at e ⊢
    cases q : (f == n) with
    | true =>
      rw [q] at e
      cases e
    | false =>
      rw [q] at e
      exact VRf.none a e
theorem VRf.len : ∀ {vs : List (Str × V)} {ds : List (Str × D)}, VRf K w vs ds → vs.length = ds.length
  | _, _, .nil => rfl
  | _, _, .cons _ a => congrArg Nat.succ (VRf.len a)
def putD (f : Str) (v : D) : List (Str × D) → List (Str × D)
  | [] => [(f, v)]
  | (g, x) :: r => if g = f then (g, v) :: r else (g, x) :: putD f v r
theorem VRf.put {f : Str} {v : V} {d : D} (h : VR K w v d) : ∀ {vs : List (Str × V)} {ds : List (Str × D)}, VRf K w vs ds → VRf K w (putF f v vs) (putD f d ds)
  | _, _, .nil => .cons h .nil
  | _, _, .cons (n := n) g a => by
    unfold putF putD
    by_cases e : n = f
    · rw [if_pos e, if_pos e]
      exact .cons h a
    · rw [if_neg e, if_neg e]
      exact .cons g (VRf.put h a)
end
/-- what is hidden does not matter to values -/
structure Wd.eqv (w w' : Wd) : Prop where
  f : w'.F = w.F
  b : w'.B = w.B
section
variable {K : PySem.W.Frag} {w w' : Wd}
mutual
theorem VR.via (e : w.eqv w') : ∀ {v : V} {d : D}, VR K w v d → VR K w' v d
  | _, _, .non => .non
  | _, _, .bl b => .bl b
  | _, _, .int i => .int i
  | _, _, .str x => .str x
  | _, _, .tup h a => .tup (e.f ▸ h) (VRs.via e a)
  | _, _, .lst h a => .lst (e.f ▸ h) (VRs.via e a)
  | _, _, .scr h => .scr (e.f ▸ h)
  | _, _, .obj h a => .obj (e.f ▸ h) (VRf.via e a)
  | _, _, .ptr h => .ptr (e.b ▸ h)
theorem VRs.via (e : w.eqv w') : ∀ {v : List V} {d : List D}, VRs K w v d → VRs K w' v d
  | _, _, .nil => .nil
  | _, _, .cons h a => .cons (VR.via e h) (VRs.via e a)
theorem VRf.via (e : w.eqv w') : ∀ {v : List (Str × V)} {d : List (Str × D)}, VRf K w v d → VRf K w' v d
  | _, _, .nil => .nil
  | _, _, .cons h a => .cons (VR.via e h) (VRf.via e a)
end
end
def Cell.live : Cell → Bool
  | .dead => false
  | _ => true
def CellOk (K : PySem.W.Frag) (w : Wd) (H : Hp) (a : Addr) : Cell → Prop
  | .lst ds => ∃ xs, H a = some (.lst xs) ∧ VRs K w xs ds
  | .obj c fs => ∃ dx fvs, H a = some (.ins (He.ga K c) dx fvs) ∧ VRf K w fvs fs
  | .dead => True
structure Rel (K : PySem.W.Frag) (w : Wd) (S : Sto) (H : Hp) : Prop where
  ex : Ex w.F H
  len : w.B.length = S.length
  nd : w.B.Nodup
  used : ∀ a ∈ w.B, ∃ o, H a = some o
  cell : ∀ (n : Nat) (a : Addr) (c : Cell), w.B[n]? = some a → S[n]? = some c → c.live = true → w.F a = none ∧ CellOk K w H a c
  hid : ∀ (a : Addr) (o : HO), w.U a = some o → H a = some o ∧ w.F a = none ∧ a ∉ w.B
section
variable {K : PySem.W.Frag} {w w' : Wd} {S : Sto} {H H' : Hp}
theorem CellOk.up {a : Addr} {c : Cell} (e : w.le w') (h : CellOk K w H a c) (hh : H' a = H a) : CellOk K w' H' a c := by
  cases c with
  | lst ds =>
    obtain ⟨xs, h1, h2⟩ := h
    exact ⟨xs, hh.trans h1, h2.up e⟩
  | obj c fs =>
    obtain ⟨dx, fvs, h1, h2⟩ := h
    exact ⟨dx, fvs, hh.trans h1, h2.up e⟩
  | dead => trivial
theorem CellOk.via {a : Addr} {c : Cell} (e : w.eqv w') (h : CellOk K w H a c) (hh : H' a = H a) : CellOk K w' H' a c := by
  cases c with
  | lst ds =>
    obtain ⟨xs, h1, h2⟩ := h
    exact ⟨xs, hh.trans h1, h2.via e⟩
  | obj c fs =>
    obtain ⟨dx, fvs, h1, h2⟩ := h
    exact ⟨dx, fvs, hh.trans h1, h2.via e⟩
  | dead => trivial
/-- the known part grows by an object at p, new -/
def Wd.plus (w : Wd) (p : Addr) (o : HO) : Wd := ⟨upd w.F p o, w.B, w.U⟩
theorem Rel.fresh (r : Rel K w S H) {p : Addr} (h : H p = none) : w.F p = none := fresh_back r.ex h
theorem Wd.le_plus {p : Addr} {o : HO} (h : w.F p = none) : w.le (w.plus p o) := ⟨Ex.new h, List.prefix_rfl, rfl⟩
theorem Rel.plus (r : Rel K w S H) {p : Addr} {o : HO} (h : H p = none) : w.le (w.plus p o) ∧ Rel K (w.plus p o) S (upd H p o) := by
  have hF := r.fresh h
  have le : w.le (w.plus p o) := Wd.le_plus hF
  refine ⟨le, ?_, r.len, r.nd, fun a ha => ?_, fun n a c h1 h2 h3 => ?_, fun a u hu => by
    obtain ⟨k1, k2, k3⟩ := r.hid a u hu
    have ne : a ≠ p := ne_of_none k1 h
    exact ⟨by rw [upd_ne ne]; exact k1, show upd w.F p o a = none by rw [upd_ne ne]; exact k2, k3⟩⟩
  · intro a u e
    by_cases q : a = p
    · subst q
      have : upd w.F a o a = some u := e
      rw [upd_same] at this
      rw [upd_same]
      exact this
    · have : upd w.F p o a = some u := e
      rw [upd_ne q] at this
      rw [upd_ne q]
      exact r.ex a u this
  · obtain ⟨u, hu⟩ := r.used a ha
    exact ⟨u, by rw [upd_ne (ne_of_none hu h)]; exact hu⟩
  · obtain ⟨g1, g2⟩ := r.cell n a c h1 h2 h3
    obtain ⟨u, hu⟩ := r.used a (List.mem_of_getElem? h1)
    have ne : a ≠ p := ne_of_none hu h
    exact ⟨show upd w.F p o a = none by rw [upd_ne ne]; exact g1, g2.up le (upd_ne ne)⟩
/-- the heap grows by things that nobody speaks of -/
theorem Rel.grow (r : Rel K w S H) (e : Ex H H') : Rel K w S H' := by
  refine ⟨r.ex.trans e, r.len, r.nd, fun a ha => ?_, fun n a c h1 h2 h3 => ?_, fun a u hu => ⟨e a u (r.hid a u hu).1, (r.hid a u hu).2⟩⟩
  · obtain ⟨u, hu⟩ := r.used a ha
    exact ⟨u, e a u hu⟩
  · obtain ⟨g1, g2⟩ := r.cell n a c h1 h2 h3
    obtain ⟨u, hu⟩ := r.used a (List.mem_of_getElem? h1)
    exact ⟨g1, g2.up (Wd.le.refl w) ((e a u hu).trans hu.symm)⟩
/-- a new cell -/
def Wd.cell (w : Wd) (p : Addr) : Wd := ⟨w.F, w.B ++ [p], w.U⟩
theorem Wd.le_cell {p : Addr} : w.le (w.cell p) := ⟨Ex.refl _, List.prefix_append _ _, rfl⟩
theorem Rel.newcell (r : Rel K w S H) {p : Addr} {o : HO} {c : Cell} (h : H p = none) (hc : CellOk K w (upd H p o) p c) : Rel K (w.cell p) (S ++ [c]) (upd H p o) := by
  have np : p ∉ w.B := fun hp => by
    obtain ⟨u, hu⟩ := r.used p hp
    rw [h] at hu
    cases hu
  refine ⟨fun a u e => ?_, by simp [Wd.cell, r.len], ?_, fun a ha => ?_, fun n a c' h1 h2 h3 => ?_, fun a u hu => by
    obtain ⟨k1, k2, k3⟩ := r.hid a u hu
    have ne : a ≠ p := ne_of_none k1 h
    exact ⟨by rw [upd_ne ne]; exact k1, k2, fun z => by
      rcases List.mem_append.mp (show a ∈ w.B ++ [p] from z) with z | z
      · exact k3 z
      · exact ne (List.mem_singleton.mp z)⟩⟩
  · have := r.ex a u e
    rw [upd_ne (ne_of_none this h)]
    exact this
  · exact List.nodup_append.mpr ⟨r.nd, by simp, fun a ha b hb => by
      rw [List.mem_singleton.mp hb]
      exact fun z => np (z ▸ ha)⟩
  · rcases List.mem_append.mp ha with ha | ha
    · obtain ⟨u, hu⟩ := r.used a ha
      exact ⟨u, by rw [upd_ne (ne_of_none hu h)]; exact hu⟩
    · rw [List.mem_singleton.mp ha]
      exact ⟨o, upd_same⟩
  · have h1' : (w.B ++ [p])[n]? = some a := h1
    by_cases hn : n < w.B.length
    · rw [List.getElem?_append_left hn] at h1'
      rw [List.getElem?_append_left (by rw [← r.len]; exact hn)] at h2
      obtain ⟨g1, g2⟩ := r.cell n a c' h1' h2 h3
      have ne : a ≠ p := fun z => np (z ▸ List.mem_of_getElem? h1')
      exact ⟨g1, g2.up Wd.le_cell (upd_ne ne)⟩
    · have e : n = w.B.length := by
        have := (List.getElem?_eq_some_iff.mp h1').1
        simp at this
        omega
      subst e
      rw [List.getElem?_append_right (Nat.le_refl _), Nat.sub_self] at h1'
      rw [List.getElem?_append_right (by rw [r.len]; exact Nat.le_refl _), r.len, Nat.sub_self] at h2
      cases h1'
      cases h2
      exact ⟨r.fresh h, hc.up Wd.le_cell rfl⟩
theorem cell_at (p : Addr) (r : Rel K w S H) : (w.cell p).B[S.length]? = some p := by
  show (w.B ++ [p])[S.length]? = some p
  rw [← r.len, List.getElem?_append_right (Nat.le_refl _), Nat.sub_self]
  rfl
/-- a cell is written -/
theorem Rel.put (r : Rel K w S H) {n : Nat} {a : Addr} {c0 c : Cell} {o : HO} (h1 : w.B[n]? = some a) (h2 : S[n]? = some c0) (h3 : c0.live = true) (hc : CellOk K w (upd H a o) a c) : Rel K w (S.set n c) (upd H a o) := by
  obtain ⟨f0, _⟩ := r.cell n a c0 h1 h2 h3
  refine ⟨fun b u e => ?_, by rw [r.len, List.length_set], r.nd, fun b hb => ?_, fun m b c' g1 g2 g3 => ?_, fun b u hu => by
    obtain ⟨k1, k2, k3⟩ := r.hid b u hu
    have ne : b ≠ a := fun z => k3 (z ▸ List.mem_of_getElem? h1)
    exact ⟨by rw [upd_ne ne]; exact k1, k2, k3⟩⟩
  · rw [upd_ne (ne_of_none e f0)]
    exact r.ex b u e
  · by_cases q : b = a
    · subst q
      exact ⟨o, upd_same⟩
    · obtain ⟨u, hu⟩ := r.used b hb
      exact ⟨u, by rw [upd_ne q]; exact hu⟩
  · by_cases q : m = n
    · subst q
      rw [h1] at g1
      cases g1
      rw [List.getElem?_set_self (List.getElem?_eq_some_iff.mp h2).1] at g2
      cases g2
      exact ⟨f0, hc⟩
    · rw [List.getElem?_set_ne (fun z => q z.symm)] at g2
      obtain ⟨k1, k2⟩ := r.cell m b c' g1 g2 g3
      have ne : b ≠ a := fun z => by
        subst z
        exact q (nd_ix r.nd g1 h1)
      exact ⟨k1, k2.up (Wd.le.refl w) (upd_ne ne)⟩
/-- a cell becomes known: never to be written again -/
theorem Rel.freeze (r : Rel K w S H) {n : Nat} {a : Addr} {c : Cell} {o : HO} (h1 : w.B[n]? = some a) (h2 : S[n]? = some c) (h3 : c.live = true) (ho : H a = some o) : w.le (w.plus a o) ∧ Rel K (w.plus a o) (S.set n .dead) H := by
  obtain ⟨f0, _⟩ := r.cell n a c h1 h2 h3
  have le : w.le (w.plus a o) := Wd.le_plus f0
  refine ⟨le, fun b u e => ?_, by rw [List.length_set]; exact r.len, r.nd, r.used, fun m b c' g1 g2 g3 => ?_, fun b u hu => by
    obtain ⟨k1, k2, k3⟩ := r.hid b u hu
    have ne : b ≠ a := fun z => k3 (z ▸ List.mem_of_getElem? h1)
    exact ⟨k1, show upd w.F a o b = none by rw [upd_ne ne]; exact k2, k3⟩⟩
  · have e' : upd w.F a o b = some u := e
    by_cases q : b = a
    · subst q
      rw [upd_same] at e'
      cases e'
      exact ho
    · rw [upd_ne q] at e'
      exact r.ex b u e'
  · by_cases q : m = n
    · subst q
      rw [List.getElem?_set_self (List.getElem?_eq_some_iff.mp h2).1] at g2
      cases g2
      cases g3
    · rw [List.getElem?_set_ne (fun z => q z.symm)] at g2
      obtain ⟨k1, k2⟩ := r.cell m b c' g1 g2 g3
      have ne : b ≠ a := fun z => by
        subst z
        exact q (nd_ix r.nd g1 h1)
      exact ⟨show upd w.F a o b = none by rw [upd_ne ne]; exact k1, k2.up le rfl⟩
/-- something hidden: it stands there, unknown -/
def Wd.hide (w : Wd) (p : Addr) (o : HO) : Wd := ⟨w.F, w.B, upd w.U p o⟩
theorem Rel.hide (r : Rel K w S H) {p : Addr} {o : HO} (h : H p = none) : Rel K (w.hide p o) S (upd H p o) := by
  have r2 := r.grow (Ex.new (o := o) h)
  refine ⟨r2.ex, r2.len, r2.nd, r2.used, fun n a c h1 h2 h3 => ⟨(r2.cell n a c h1 h2 h3).1, CellOk.via (w := w) (w' := w.hide p o) ⟨rfl, rfl⟩ (r2.cell n a c h1 h2 h3).2 rfl⟩, fun a u hu => ?_⟩
  by_cases q : a = p
  · subst q
    have : upd w.U a o a = some u := hu
    rw [upd_same] at this
    cases this
    exact ⟨upd_same, r.fresh h, fun z => by
      obtain ⟨v, hv⟩ := r.used a z
      rw [h] at hv
      cases hv⟩
  · have : upd w.U p o a = some u := hu
    rw [upd_ne q] at this
    exact r2.hid a u this
/-- .. it changes -/
theorem Rel.rehide {p : Addr} {o : HO} (r : Rel K (w.hide p o) S H) {o' : HO} : Rel K (w.hide p o') S (upd H p o') := by
  obtain ⟨k1, k2, k3⟩ := r.hid p o upd_same
  have nB : ∀ a ∈ w.B, a ≠ p := fun a ha z => k3 (z ▸ ha)
  refine ⟨fun a u e => ?_, r.len, r.nd, fun a ha => ?_, fun n a c h1 h2 h3 => ?_, fun a u hu => ?_⟩
  · rw [upd_ne (ne_of_none e k2)]
    exact r.ex a u e
  · obtain ⟨v, hv⟩ := r.used a ha
    exact ⟨v, by rw [upd_ne (nB a ha)]; exact hv⟩
  · obtain ⟨g1, g2⟩ := r.cell n a c h1 h2 h3
    exact ⟨g1, CellOk.via (w := w.hide p o) (w' := w.hide p o') ⟨rfl, rfl⟩ g2 (upd_ne (nB a (List.mem_of_getElem? h1)))⟩
  · by_cases q : a = p
    · subst q
      have : upd w.U a o' a = some u := hu
      rw [upd_same] at this
      cases this
      exact ⟨upd_same, k2, k3⟩
    · have e1 : upd w.U p o' a = some u := hu
      rw [upd_ne q] at e1
      obtain ⟨m1, m2, m3⟩ := r.hid a u (by show upd w.U p o a = some u; rw [upd_ne q]; exact e1)
      exact ⟨by rw [upd_ne q]; exact m1, m2, m3⟩
/-- .. it is let go of -/
theorem Rel.unhide {p : Addr} {o : HO} (r : Rel K (w.hide p o) S H) (hu : ∀ a u, w.U a = some u → a ≠ p) : Rel K w S H := 
  ⟨r.ex, r.len, r.nd, r.used, fun n a c h1 h2 h3 => ⟨(r.cell n a c h1 h2 h3).1, CellOk.via (w := w.hide p o) (w' := w) ⟨rfl, rfl⟩ (r.cell n a c h1 h2 h3).2 rfl⟩, fun a u h => r.hid a u (by show upd w.U p o a = some u; rw [upd_ne (hu a u h)]; exact h)⟩
end
end PM
end
section
set_option Elab.async false
set_option linter.all false
set_option maxRecDepth 100000
namespace PM
open PySem L2 Evl
/-- where a text is read: the module's facts, what is wished of an exception, the exception that a suite holds -/
structure Ct where
  K : PySem.W.Frag
  W : WX
  sx : Addr × Value × Option Addr
def ErR (K : PySem.W.Frag) (w : Wd) (x : Er) (c : Value) (dd : Option Addr) : Prop := c = .ref (He.ga K x.cls) ∧ match x.arg with
  | none => True
  | some (f, d) => ∃ a v, dd = some a ∧ w.F a = some (.xd [(f, v)]) ∧ VR K w v d
theorem ErR.up {K : PySem.W.Frag} {w w' : Wd} {x : Er} {c : Value} {dd : Option Addr} (e : w.le w') (h : ErR K w x c dd) : ErR K w' x c dd := by
  refine ⟨h.1, ?_⟩
  have h2 := h.2
  cases q : x.arg with
  | none => trivial
  | some p =>
    rw [q] at h2
    obtain ⟨a, v, h3, h4, h5⟩ := h2
    exact ⟨a, v, h3, e.f _ _ h4, h5.up e⟩
structure EnvR (C : Ct) (w : Wd) (σ : L2.St) (e : Env) : Prop where
  len : σ.length = e.sl.length
  sl : ∀ (i : Nat) (d : D), e.sl[i]? = some (some d) → ∃ v, σ[i]? = some (some v) ∧ VR C.K w v d
  ex : ∀ (i : Nat) (x : Er), e.ex = some (i, x) → σ[i]? = some (some (.ref C.sx.1)) ∧ ErR C.K w x C.sx.2.1 C.sx.2.2
theorem EnvR.up {C : Ct} {w w' : Wd} {σ : L2.St} {e : Env} (l : w.le w') (h : EnvR C w σ e) : EnvR C w' σ e := ⟨h.len, fun i d q => by
  obtain ⟨v, h1, h2⟩ := h.sl i d q
  exact ⟨v, h1, h2.up l⟩, fun i x q => ⟨(h.ex i x q).1, (h.ex i x q).2.up l⟩⟩
def PV (K : PySem.W.Frag) (w : Wd) (Q : VK) (d : D) (S : Sto) : Prop := ∀ (w' : Wd) (H' : Hp) (v : V), w.le w' → Rel K w' S H' → VR K w' v d → Q v H'
def PX (C : Ct) (w : Wd) (σ : L2.St) (x : Er) (S : Sto) : Prop := ∀ (w' : Wd) (H' : Hp) (c : Value) (dd : Option Addr), w.le w' → Rel C.K w' S H' → ErR C.K w' x c dd → C.W c dd σ H'
def PB (K : PySem.W.Frag) (w : Wd) (Q : Bool → Hp → Prop) (b : Bool) (S : Sto) : Prop := ∀ (w' : Wd) (H' : Hp), w.le w' → Rel K w' S H' → Q b H'
def PL (K : PySem.W.Frag) (w : Wd) (Q : List V → Hp → Prop) (ds : List D) (S : Sto) : Prop := ∀ (w' : Wd) (H' : Hp) (vs : List V), w.le w' → Rel K w' S H' → VRs K w' vs ds → Q vs H'
def PO' (K : PySem.W.Frag) (w : Wd) (Q : Option Int → Hp → Prop) (o : Option Int) (S : Sto) : Prop := ∀ (w' : Wd) (H' : Hp), w.le w' → Rel K w' S H' → Q o H'
theorem PX.up {C : Ct} {w w' : Wd} {σ : L2.St} {x : Er} {S : Sto} (l : w.le w') (h : PX C w σ x S) : PX C w' σ x S := fun w2 H c d l2 r e => h w2 H c d (l.trans l2) r e
theorem PV.up {K : PySem.W.Frag} {w w' : Wd} {Q : VK} {d : D} {S : Sto} (l : w.le w') (h : PV K w Q d S) : PV K w' Q d S := fun w2 H v l2 r e => h w2 H v (l.trans l2) r e
theorem PB.up {K : PySem.W.Frag} {w w' : Wd} {Q : Bool → Hp → Prop} {b : Bool} {S : Sto} (l : w.le w') (h : PB K w Q b S) : PB K w' Q b S := fun w2 H l2 r => h w2 H (l.trans l2) r
theorem PL.up {K : PySem.W.Frag} {w w' : Wd} {Q : List V → Hp → Prop} {d : List D} {S : Sto} (l : w.le w') (h : PL K w Q d S) : PL K w' Q d S := fun w2 H v l2 r e => h w2 H v (l.trans l2) r e
def SndE (C : Ct) (te : TE) (m : Env → M D) : Prop := ∀ (e : Env) (σ : L2.St) (w : Wd) (S : Sto) (H : Hp) (Q : VK), EnvR C w σ e → Rel C.K w S H → (m e S).sat (PV C.K w Q) (PX C w σ) → te σ H Q
def SndT (C : Ct) (tt : TT) (m : Env → M Bool) : Prop := ∀ (e : Env) (σ : L2.St) (w : Wd) (S : Sto) (H : Hp) (Q : Bool → Hp → Prop), EnvR C w σ e → Rel C.K w S H → (m e S).sat (PB C.K w Q) (PX C w σ) → tt σ H Q
def SndA (C : Ct) (ta : TA) (m : Env → M (List D)) : Prop := ∀ (e : Env) (σ : L2.St) (w : Wd) (S : Sto) (H : Hp) (Q : List V → Hp → Prop), EnvR C w σ e → Rel C.K w S H → (m e S).sat (PL C.K w Q) (PX C w σ) → ta σ H Q
def SndO (C : Ct) (to : TO) (m : Env → M (Option Int)) : Prop := ∀ (e : Env) (σ : L2.St) (w : Wd) (S : Sto) (H : Hp) (Q : Option Int → Hp → Prop), EnvR C w σ e → Rel C.K w S H → (m e S).sat (PO' C.K w Q) (PX C w σ) → to σ H Q
/-- what is asked of a place where things may be raised -/
structure Hyp (X : Cx) (C : Ct) : Prop where
  tk : Takes X C.W
  ps : PassesOwn (model X.prog X.w) X.A X.env X.xe
structure CE (X : Cx) (C : Ct) (e : Expr) (te : TE) (m : Env → M D) : Prop where
  hK : X.K = C.K
  pe : Hyp X C → PE X e te
  sn : SndE C te m
structure CT (X : Cx) (C : Ct) (e : Expr) (tt : TT) (m : Env → M Bool) : Prop where
  hK : X.K = C.K
  pt : Hyp X C → PT X e tt
  sn : SndT C tt m
structure CW (X : Cx) (C : Ct) (e : Expr) (tt : TT) (m : Env → M Bool) : Prop where
  hK : X.K = C.K
  pw : Hyp X C → PW X e tt
  sn : SndT C tt m
structure CA (X : Cx) (C : Ct) (es : List Expr) (ta : TA) (m : Env → M (List D)) : Prop where
  pa : Hyp X C → PA X es ta
  sn : SndA C ta m
structure COp (X : Cx) (C : Ct) (e : Option Expr) (to : TO) (m : Env → M (Option Int)) : Prop where
  po : Hyp X C → PO X e to
  sn : SndO C to m

/-! ### what is computed -/
def gd {α : Type} (c : Prop) [Decidable c] (m : M α) : M α := if c then m else stuck
theorem gd_sat {α : Type} {c : Prop} [Decidable c] {m : M α} {S : Sto} {P : α → Sto → Prop} {E : Er → Sto → Prop} (h : (gd c m S).sat P E) : c ∧ (m S).sat P E := by
  unfold gd at h
  by_cases q : c
  · rw [if_pos q] at h
    exact ⟨q, h⟩
  · rw [if_neg q] at h
    exact h.elim
theorem gd_yes {α : Type} {c : Prop} [Decidable c] {m : M α} (h : c) : gd c m = m := if_pos h
def eVar (i : Nat) (e : Env) : M D := match e.sl[i]? with
  | some (some d) => ret d
  | _ => stuck
def eC (d : D) (_ : Env) : M D := ret d
def e2 (g : D → D → M D) (a b : Env → M D) (e : Env) : M D := bind (a e) fun x => bind (b e) fun y => g x y
def e1 (g : D → M D) (a : Env → M D) (e : Env) : M D := bind (a e) g
def aNil (_ : Env) : M (List D) := ret []
def aCons (a : Env → M D) (r : Env → M (List D)) (e : Env) : M (List D) := bind (a e) fun d => bind (r e) fun ds => ret (d :: ds)
def eA (g : List D → M D) (a : Env → M (List D)) (e : Env) : M D := bind (a e) g
def lim : Nat := 100000
def dTup (ds : List D) : M D := gd (ds.length ≤ lim) (ret (.tup ds))
def dLst (ds : List D) : M D := gd (ds.length ≤ lim) (ret (.lst ds))
/-- a new list that may change -/
def dNew (ds : List D) : M D := fun S => if ds.length ≤ lim then .ok (.ptr S.length) (S ++ [.lst ds]) else .no
def dBool : D → M Bool
  | .bl b => ret b
  | _ => stuck
def tOf (a : Env → M D) (e : Env) : M Bool := bind (a e) dBool
def tNotP (a : Env → M Bool) (e : Env) : M Bool := bind (a e) fun b => ret (!b)
def tAndP (a b : Env → M Bool) (e : Env) : M Bool := bind (a e) fun x => if x then b e else ret false
def tOrP (a b : Env → M Bool) (e : Env) : M Bool := bind (a e) fun x => if x then ret true else b e
def eIf (t : Env → M Bool) (a b : Env → M D) (e : Env) : M D := bind (t e) fun x => if x then a e else b e
def eAnd (a b : Env → M D) (e : Env) : M D := bind (a e) fun x => bind (dBool x) fun c => if c then b e else ret (.bl false)
def eOr (a b : Env → M D) (e : Env) : M D := bind (a e) fun x => bind (dBool x) fun c => if c then ret (.bl true) else b e
def eNot (a : Env → M D) (e : Env) : M D := bind (a e) fun x => bind (dBool x) fun c => ret (.bl (!c))
def dAdd : D → D → M D
  | .int i, .int j => ret (.int (i + j))
  | .tup a, .tup b => gd (a.length + b.length ≤ lim) (ret (.tup (a ++ b)))
  | .lst a, .lst b => gd (a.length + b.length ≤ lim) (ret (.lst (a ++ b)))
  | _, _ => stuck
def dSub : D → D → M D
  | .int i, .int j => ret (.int (i - j))
  | _, _ => stuck
def dMul : D → D → M D
  | .int i, .int j => gd (i.natAbs.log2 + j.natAbs.log2 < 1000000) (ret (.int (i * j)))
  | .lst a, .int k => gd (-1000 ≤ k ∧ k ≤ 1000 ∧ a.length * k.toNat ≤ lim) (ret (.lst (List.replicate k.toNat a).flatten))
  | .tup a, .int k => gd (a.length ≠ 0 ∧ 1 ≤ k ∧ k ≤ 1000 ∧ a.length ≤ 1000) (ret (.tup (List.replicate k.toNat a).flatten))
  | _, _ => stuck
def dDiv : D → D → M D
  | .int i, .int j => gd (0 < j ∧ j.natAbs.log2 < 9000) (ret (.int (i / j)))
  | _, _ => stuck
def dMod : D → D → M D
  | .int i, .int j => gd (0 < j) (ret (.int (i % j)))
  | _, _ => stuck
def dPow : D → D → M D
  | .int i, .int j => gd (0 ≤ j ∧ j ≤ 1000000 ∧ i.natAbs < 2 ^ 64) (ret (.int (i ^ j.toNat)))
  | _, _ => stuck
def dShl : D → D → M D
  | .int i, .int j => gd (0 ≤ j ∧ (Builtin.Int.intBits i : Int) + j ≤ 2 ^ 27) (ret (.int (i * 2 ^ j.toNat)))
  | _, _ => stuck
def dShr : D → D → M D
  | .int i, .int j => gd (0 ≤ j) (ret (.int (i / 2 ^ j.toNat)))
  | _, _ => stuck
def dNeg : D → M D
  | .int i => ret (.int (-i))
  | _ => stuck
def dLt : D → D → M D
  | .int i, .int j => ret (.bl (decide (i < j)))
  | _, _ => stuck
def dLe : D → D → M D
  | .int i, .int j => ret (.bl (decide (i ≤ j)))
  | _, _ => stuck
def dGt : D → D → M D
  | .int i, .int j => ret (.bl (decide (j < i)))
  | _, _ => stuck
def dGe : D → D → M D
  | .int i, .int j => ret (.bl (decide (j ≤ i)))
  | _, _ => stuck
def D.isNon : D → Bool
  | .non => true
  | _ => false
/-- x is None -/
def dIsN (neg : Bool) : D → D → M D
  | d, .non => ret (.bl (neg != d.isNon))
  | _, _ => stuck

/-! ### all of one -/
section
variable {X : Cx} {C : Ct} {ta tb tc te : TE} {a b c : Expr} {ma mb mc : Env → M D} {pos : Pos}
theorem ce_var (i : Nat) {x : Str} (hN : X.N[i]? = some x := by rfl) (hv : Vis X.env.scope x := by first | exact Or.inl rfl | exact Or.inr (Or.inl rfl) | exact Or.inr (Or.inr rfl)) (hd : (x == ("__debug__" : Str)) = false := by decide)
    (hcd : (x == ("__classdict__" : Str)) = false := by decide) (hK : X.K = C.K := by rfl) : CE X C (.Name x pos) (tVar i) (eVar i) := ⟨hK, fun y => pe_var hN hv hd hcd, fun e σ w S H Q E R h => by
  unfold eVar at h
  cases q : e.sl[i]? with
  | none =>
    rw [q] at h
    exact h.elim
  | some o =>
    cases o with
    | none =>
      rw [q] at h
      exact h.elim
    | some d =>
      rw [q] at h
      obtain ⟨v, h1, h2⟩ := E.sl i d q
      exact ⟨v, h1, h w H v (Wd.le.refl w) R h2⟩⟩
theorem snd_c {v : V} {d : D} (hv : ∀ w, VR C.K w v d) : SndE C (tC v) (eC d) := fun e σ w S H Q E R h => h w H v (Wd.le.refl w) R (hv w)
theorem ce_int {i : Int} {j} (hK : X.K = C.K := by rfl) : CE X C (.Constant (.int i) j pos) (tC (.int i)) (eC (.int i)) := ⟨hK, fun y => pe_int, snd_c fun _ => .int i⟩
theorem ce_bl {i : Bool} {j} (hK : X.K = C.K := by rfl) : CE X C (.Constant (.bool i) j pos) (tC (.bl i)) (eC (.bl i)) := ⟨hK, fun y => pe_bl, snd_c fun _ => .bl i⟩
theorem ce_non {j} (hK : X.K = C.K := by rfl) : CE X C (.Constant .none j pos) (tC .non) (eC .non) := ⟨hK, fun y => pe_non, snd_c fun _ => .non⟩
theorem ce_str {x j} (hK : X.K = C.K := by rfl) : CE X C (.Constant (.str x) j pos) (tC (.str x)) (eC (.str x)) := ⟨hK, fun y => pe_str, snd_c fun _ => .str x⟩
theorem ce_globI {x : Str} {i : Int} (hg : Gl X x) (hm : ∃ t, X.mg x = some (.int i t)) (hd : (x == ("__debug__" : Str)) = false := by decide) (hK : X.K = C.K := by rfl) : CE X C (.Name x pos) (tC (.int i)) (eC (.int i)) := ⟨hK, fun y => WD.pe_globI hg hm hd, snd_c fun _ => .int i⟩
/-- a rule of two values -/
def OpS (K : PySem.W.Frag) (r : R2) (g : D → D → M D) : Prop := ∀ (w : Wd) (S : Sto) (H : Hp) (x y : V) (d1 d2 : D) (Q : VK) (E : Er → Sto → Prop), Rel K w S H → VR K w x d1 → VR K w y d2 → (g d1 d2 S).sat (PV K w Q) E → r x y H Q
def UnS (K : PySem.W.Frag) (r : V → Hp → VK → Prop) (g : D → M D) : Prop := ∀ (w : Wd) (S : Sto) (H : Hp) (x : V) (d : D) (Q : VK) (E : Er → Sto → Prop), Rel K w S H → VR K w x d → (g d S).sat (PV K w Q) E → r x H Q
def CallS (K : PySem.W.Frag) (r : List V → Hp → VK → Prop) (g : List D → M D) : Prop := ∀ (w : Wd) (S : Sto) (H : Hp) (xs : List V) (ds : List D) (Q : VK) (E : Er → Sto → Prop), Rel K w S H → VRs K w xs ds → (g ds S).sat (PV K w Q) E → r xs H Q
theorem snd_op {r : R2} {g : D → D → M D} (ha : SndE C ta ma) (hb : SndE C tb mb) (hr : OpS C.K r g) : SndE C (tOp r ta tb) (e2 g ma mb) := fun e σ w S H Q E R h => by
  have h := sat_then.mp h
  refine ha e σ w S H _ E R (h.imp (fun d1 S1 h1 w1 H1 v1 l1 R1 r1 => ?_) (fun x s hx => hx))
  have h1 := sat_then.mp h1
  refine hb e σ w1 S1 H1 _ (E.up l1) R1 (h1.imp (fun d2 S2 h2 w2 H2 v2 l2 R2 r2 => ?_) (fun x s hx => hx.up l1))
  exact hr w2 S2 H2 v1 v2 d1 d2 Q _ R2 (r1.up l2) r2 (h2.imp (fun d s q => q.up (l1.trans l2)) fun _ _ z => z)
theorem snd_un {r : V → Hp → VK → Prop} {g : D → M D} (ha : SndE C ta ma) (hr : UnS C.K r g) : SndE C (tUn r ta) (e1 g ma) := fun e σ w S H Q E R h => by
  have h := sat_then.mp h
  refine ha e σ w S H _ E R (h.imp (fun d1 S1 h1 w1 H1 v1 l1 R1 r1 => ?_) (fun x s hx => hx))
  exact hr w1 S1 H1 v1 d1 Q _ R1 r1 (h1.imp (fun d s q => q.up l1) fun _ _ z => z)
theorem ce_op {op : Operator} {r : R2} {g : D → D → M D} (ho : OpR X (binaryOp op) r) (hs : OpS C.K r g) (ha : CE X C a ta ma) (hb : CE X C b tb mb) : CE X C (.BinOp a op b pos) (tOp r ta tb) (e2 g ma mb) :=
  ⟨ha.hK, fun y => pe_op ho (ha.pe y) (hb.pe y), snd_op ha.sn hb.sn hs⟩
theorem ce_cmp {op : CmpOp} {r : R2} {g : D → D → M D} (ho : OpR X (compareOp op) r) (hs : OpS C.K r g) (ha : CE X C a ta ma) (hb : CE X C b tb mb) (hm : behindInMarks op b = false) : CE X C (.Compare a [op] [b] pos) (tOp r ta tb) (e2 g ma mb) :=
  ⟨ha.hK, fun y => pe_cmpR ho (ha.pe y) (hb.pe y) hm, snd_op ha.sn hb.sn hs⟩
theorem opOr {f : Value → Value → Sem Value} {r1 r2 : R2} (h1 : OpR X f r1) (h2 : OpR X f r2) : OpR X f (fun x y H Q => r1 x y H Q ∨ r2 x y H Q) := fun pins s σ H x y v u Q I rx ry h => by
  rcases h with h | h
  · exact h1 pins s σ H x y v u Q I rx ry h
  · exact h2 pins s σ H x y v u Q I rx ry h
theorem OpS.orL {K : PySem.W.Frag} {r1 r2 : R2} {g : D → D → M D} (h : OpS K r1 g) : OpS K (fun x y H Q => r1 x y H Q ∨ r2 x y H Q) g := fun w S H x y d1 d2 Q E R a b z => .inl (h w S H x y d1 d2 Q E R a b z)
/-! ints -/
abbrev rAddZ (K : PySem.W.Frag) : R2 := fun x y H Q => rI0 (fun i j => .int (i + j)) x y H Q ∨ (rCatA K x y H Q ∨ rCat x y H Q)
theorem sz_lim {n : Nat} (h : n ≤ lim) : n ≤ sizeLine := sz_of h
theorem ops_add (K : PySem.W.Frag) : OpS K (rAddZ K) dAdd := fun w S H x y d1 d2 Q E R a b h => by
  cases a with
  | int i =>
    cases b with
    | int j => exact .inl ⟨i, j, rfl, rfl, h w H _ (Wd.le.refl w) R (.int _)⟩
    | _ => exact h.elim
  | @tup p xs ds s1 a1 =>
    cases b with
    | @tup q ys es s2 a2 =>
      obtain ⟨c, h⟩ := gd_sat h
      · refine .inr (.inl ⟨p, q, xs, ys, rfl, rfl, ex_t R.ex s1, ex_t R.ex s2, sz_lim (by rw [a1.len, a2.len]; exact c), fun z => ?_, fun _ z => ?_, fun _ _ l hl => ?_⟩)
        · subst z
          cases a1
          exact h w H _ (Wd.le.refl w) R (.tup s2 a2)
        · subst z
          cases a2
          exact h w H _ (Wd.le.refl w) R (by rw [List.append_nil]; exact .tup s1 a1)
        · obtain ⟨le, R'⟩ := R.plus (o := .tup (xs ++ ys)) hl
          exact h _ _ _ le R' (.tup (st_of upd_same) ((a1.up le).app (a2.up le)))
    | _ => exact h.elim
  | @lst p xs ds s1 a1 =>
    cases b with
    | @lst q ys es s2 a2 =>
      obtain ⟨c, h⟩ := gd_sat h
      · refine .inr (.inr ⟨p, q, xs, ys, rfl, rfl, R.ex _ _ s1, R.ex _ _ s2, sz_lim (by rw [a1.len, a2.len]; exact c), fun l hl => ?_⟩)
        obtain ⟨le, R'⟩ := R.plus (o := .lst (xs ++ ys)) hl
        exact h _ _ _ le R' (.lst upd_same ((a1.up le).app (a2.up le)))
    | _ => exact h.elim
  | _ => exact h.elim
theorem ce_add (ha : CE X C a ta ma) (hb : CE X C b tb mb) : CE X C (.BinOp a .Add b pos) (tOp (rAddZ C.K) ta tb) (e2 dAdd ma mb) := ce_op (by rw [← ha.hK]; exact opOr op_add (opOr op_catA op_cat)) (ops_add _) ha hb
end
end PM
end
section
set_option Elab.async false
set_option linter.all false
set_option maxRecDepth 100000
set_option maxHeartbeats 4000000
namespace WD
open PySem PySem.Spec PyProof.Rows L2 Evl
section
variable {K : PySem.W.Frag} {σ : L2.St} {H H' H1 : Hp} {ta tb te : TE} {tr : TA} {d d1 d2 : D} {ds es : List D} {En : Ends} {E : XK} {W : WX}
/-! ### what raises -/
/-- an expression that never gives a value -/
def EvX (te : TE) (σ : L2.St) (H : Hp) : Prop := ∀ H1, Ex H H1 → ∀ Q : VK, te σ H1 Q
theorem s_doX (h : EvX te σ H) : tDrop te En σ H := h H (Ex.refl H) _
theorem q_doX {tz : TS} (h : EvX te σ H) : tSeq (tDrop te) tz En σ H := h H (Ex.refl H) _
theorem s_retX (h : EvX te σ H) : tRet te En σ H := h H (Ex.refl H) _
theorem q_asgX {tg : TG} {tz : TS} (h : EvX te σ H) : tSeq (tAsg te tg) tz En σ H := h H (Ex.refl H) _
theorem ex_call {sp : Sp} {E : L2.St → XK} (h : EvDA K tr σ H ds) (k : ∀ vs H1 Q, Ex H H1 → All K H1 vs ds → sp vs H1 Q (E σ)) : EvX (tCallS sp E tr) σ H := fun H1 e Q => h H1 e _ fun vs H2 e2 a => k vs H2 Q (e.trans e2) a
theorem ex_meth {sp : Sp} {E : L2.St → XK} {m c : Str} {fs : List (Str × D)} (h : EvD K te σ H (.obj c fs)) (hl : fs.lookup m = none) (hr : EvDA K tr σ H ds) (k : ∀ vs H1 Q, Ex H H1 → All K H1 vs (.obj c fs :: ds) → sp vs H1 Q (E σ)) :
    EvX (tMethX (He.ga K c) m sp E te tr) σ H := fun H1 e Q => h H1 e _ fun v H2 e2 a => by
  cases a with
  | @obj x dx _ fvs _ hx af =>
    refine ⟨x, dx, fvs, rfl, hx, AllF.none af hl, hr H2 (e.trans e2) _ fun vs H3 e3 a3 => k _ H3 Q ((e.trans e2).trans e3) (.cons (.obj (e3 _ _ hx) (af.ex e3)) a3)⟩
theorem ex_make {c : Str} {sp : Sp} {E : L2.St → XK} (h : EvDA K tr σ H ds) (k : ∀ x dx vs H1 Q, Ex H H1 → H1 x = none → All K H1 vs ds → Ex H1 (upd (upd H1 dx (.own x)) x (.ins (He.ga K c) dx [])) → sp (.ref x :: vs) (upd (upd H1 dx (.own x)) x (.ins (He.ga K c) dx [])) Q (E σ)) : EvX (tMakeX (He.ga K c) sp E tr) σ H := fun H1 e Q =>
  h H1 e _ fun vs H2 e2 a x dx hx hdx ne => k x dx vs H2 _ (e.trans e2) hx a ((Ex.new hdx).trans (Ex.new (by
    rw [upd_ne ne.symm]
    exact hx)))
theorem ex_add {sp : Sp} {E : L2.St → XK} {c : Str} {fs gs : List (Str × D)} (h1 : EvD K ta σ H (.obj c fs)) (h2 : EvD K tb σ H (.obj c gs)) (k : ∀ vs H1 Q, Ex H H1 → All K H1 vs [.obj c fs, .obj c gs] → sp vs H1 Q (E σ)) : EvX (tAddS (He.ga K c) sp E ta tb) σ H := fun H1 e Q =>
  h1 H1 e _ fun v H2 e2 a => h2 H2 (e.trans e2) _ fun u H3 e3 b => by
    have a3 := a.ex e3
    cases a3 with
    | @obj x dx _ fvs _ hx af =>
      cases b with
      | @obj y dy _ gvs _ hy ag =>
        exact ⟨x, y, dx, dy, fvs, gvs, rfl, rfl, hx, hy, k _ H3 _ ((e.trans e2).trans e3) (.cons (.obj hx af) (.cons (.obj hy ag) .nil))⟩
theorem ed_addO {R : List D → D → Prop} {E : XK} {c : Str} {fs gs hs : List (Str × D)} (h1 : EvD K ta σ H (.obj c fs)) (h2 : EvD K tb σ H (.obj c gs)) (hR : R [.obj c fs, .obj c gs] (.obj c hs)) : EvD K (tOp (rAddO (He.ga K c) (spD K R) E) ta tb) σ H (.obj c hs) := ed_op h1 h2 fun v1 v2 H1 _ a1 a2 Q q => by
  cases a1 with
  | @obj x dx _ fvs _ hx af =>
    cases a2 with
    | @obj y dy _ gvs _ hy ag =>
      refine ⟨x, y, dx, dy, fvs, gvs, rfl, rfl, hx, hy, _, _, .cons (.obj hx af) (.cons (.obj hy ag) .nil), hR, fun v H' e a => ?_⟩
      cases a with
      | obj h1 h2 => exact ⟨_, rfl, q _ H' e (.obj h1 h2)⟩
/-! ### shifts, sums, lists of ranges and turned about -/
theorem ed_shl {i : Int} {j : Nat} (ha : EvD K ta σ H (.int i)) (hb : EvD K tb σ H (.int (j : Int))) (hc : CShl i (j : Int)) : EvD K (tOp (rI CShl fun i j => .int (i * 2 ^ j.toNat)) ta tb) σ H (.int (i * 2 ^ j)) := (ed_op ha hb (rd_I (g := fun i j => i * 2 ^ j.toNat) hc)).is (by rw [Int.toNat_natCast])
theorem ed_shr {i : Int} {j : Nat} (ha : EvD K ta σ H (.int i)) (hb : EvD K tb σ H (.int (j : Int))) : EvD K (tOp (rI (fun _ j => 0 ≤ j) fun i j => .int (i / 2 ^ j.toNat)) ta tb) σ H (.int (i / 2 ^ j)) := (ed_op ha hb (rd_I (C := fun _ j => 0 ≤ j) (g := fun i j => i / 2 ^ j.toNat) (Int.natCast_nonneg j))).is (by rw [Int.toNat_natCast])
theorem ed_sum {L : List Int} (h : EvD K te σ H (.lst (iL L))) : EvD K (tCB (rSum K) (tCons te tNil)) σ H (.int L.sum) := fun H1 e Q q => h H1 e _ fun v H2 e2 a => by
  cases a with
  | @lst p xs _ hp ax =>
    have := allIL ax
    subst this
    exact ⟨p, L, rfl, .inl hp, q _ H2 e2 (.int _)⟩
theorem en_rev (h : EvD K te σ H (.lst ds)) : EvN K (tListRev K te) σ H ds.reverse := fun H1 e Q q => h H1 e _ fun v H2 e2 a => by
  cases a with
  | @lst p xs _ hp ax =>
    refine ⟨p, xs, rfl, .inl hp, fun r hr => q r xs.reverse _ (fresh_back e2 hr) (e2.trans (Ex.new hr)) upd_same ?_⟩
    have rev : ∀ {xs : List V} {ds : List D}, All K H2 xs ds → All K H2 xs.reverse ds.reverse := fun {xs ds} a => by
      induction xs generalizing ds with
      | nil =>
        cases a
        exact .nil
      | cons x xs ih =>
        cases a with
        | cons h1 h2 =>
          rw [List.reverse_cons, List.reverse_cons]
          exact (ih h2).app (.one h1)
    exact (rev ax).ex (Ex.new hr)
theorem en_rg2 {lo n : Int} (ha : EvD K ta σ H (.int lo)) (hb : EvD K tb σ H (.int n)) (hn : -100000 ≤ lo ∧ lo ≤ 100000 ∧ -100000 ≤ n ∧ n ≤ 100000) : EvN K (tLstRg (tRg2 ta tb)) σ H (iL ((List.range (n - lo).toNat).map fun i : Nat => lo + (i : Int))) := fun H1 e Q q =>
  ha H1 e _ fun v H2 e2 a => hb H2 (e.trans e2) _ fun u H3 e3 b => by
    cases a
    cases b
    refine ⟨lo, n, rfl, rfl, ⟨by omega, by omega, by omega, by omega, by omega⟩, fun r hr => q r (rgV lo n) _ (fresh_back (e2.trans e3) hr) ((e2.trans e3).trans (Ex.new hr)) upd_same ?_⟩
    have h : rgV lo n = ((List.range (n - lo).toNat).map fun i : Nat => lo + (i : Int)).map V.int := by
      unfold rgV
      rw [List.map_map]
      rfl
    rw [h]
    exact all_ints _ _
theorem en_rg3 {hi lo : Int} {t1 t2 t3 : TE} (ha : EvDA K (tCons t1 (tCons t2 (tCons t3 tNil))) σ H [.int hi, .int lo, .int (-1)]) (hn : -100000 ≤ lo ∧ lo ≤ 100000 ∧ -100000 ≤ hi ∧ hi ≤ 100000) : EvN K (tListRg3 (tCons t1 (tCons t2 (tCons t3 tNil)))) σ H (iL ((List.range (hi - lo).toNat).map fun i : Nat => hi - (i : Int))) := fun H1 e Q q =>
  ha H1 e _ fun vs H2 e2 a => by
    have h3 : vs = [.int hi, .int lo, .int (-1)] := by
      match vs, a with
      | [_, _, _], .cons h1 (.cons h2 (.cons h3 .nil)) =>
        cases h1
        cases h2
        cases h3
        rfl
    refine ⟨hi, lo, -1, (hi - lo).toNat, h3, RgC.neg (by omega) (by omega) (by omega) (by omega), by omega, fun r hr => q r _ _ (fresh_back e2 hr) (e2.trans (Ex.new hr)) upd_same ?_⟩
    have h : ((List.range (hi - lo).toNat).map fun k => V.int (hi + (k : Nat) * (-1))) = ((List.range (hi - lo).toNat).map fun i : Nat => hi - (i : Int)).map V.int := by
      rw [List.map_map]
      refine List.map_congr_left fun i _ => ?_
      show V.int (hi + (i : Int) * (-1)) = V.int (hi - (i : Int))
      rw [show hi + (i : Int) * (-1) = hi - (i : Int) from by omega]
    rw [h]
    exact all_ints _ _
theorem ed_inDT {ds : List D} {d : D} (ha : EvD K ta σ H d) (hb : EvD K tb σ H (.tup ds)) (s1 : d.fl = true) (s2 : D.fls ds = true) (l1 : d.py.canLay0 = true) (l2 : PyData.canLayAll0 (D.pys ds) = true) (l3 : PyData.depthAll (D.pys ds) ≤ 60) :
    EvD K (tOp (rInDT K) ta tb) σ H (.bl ((D.pys ds).any fun z => PyData.eqv z d.py)) := ed_op ha hb fun v1 v2 H1 _ a1 a2 Q q =>
  ⟨_, _, a1.dp s1, Is.dp (d := .tup ds) a2 s2, l1, l2, l3, q _ H1 (Ex.refl H1) (.bl _)⟩
/-- l.extend(e) -/
theorem s_extD {l : Addr} {xs : List V} (hl : H l = some (.lst xs)) (ho : Ev ta σ H (.ref l)) (h : EvN K te σ H ds) (hz : xs.length + ds.length ≤ 100000) (k : ∀ vs H1, Ex H H1 → All K H1 vs ds → En.nx σ (upd H1 l (.lst (xs ++ vs)))) :
    tDrop (tBM K "list" rExtend ta (tCons te tNil)) En σ H := ho H (Ex.refl H) _ fun H1 e1 => ⟨Or.inl ⟨rfl, xs, sq_of (e1 l _ hl)⟩, h H1 e1 _ fun p ys H2 hp e2 hy a => ⟨l, p, xs, ys, rfl, rfl, e2 l _ (e1 l _ hl), hy, by
    have := a.len
    rw [sizeLine_eq]
    omega, k ys H2 (e1.trans e2) a⟩⟩
end
end WD
end
section
set_option Elab.async false
set_option linter.all false
set_option maxRecDepth 100000
set_option maxHeartbeats 4000000
namespace WD
open PySem PySem.Spec PyProof.Rows L2 Evl
section
variable {K : PySem.W.Frag} {σ : L2.St} {H H' H0 H1 : Hp} {ta tb te : TE} {tr : TA} {d d1 d2 : D} {ds : List D}
/-- a new list that grows by lists -/
theorem q_growL {wi : TI} {g : TG} {tw tz : TS} {En : Ends} {n : Nat} {item : Nat → WD.D} {f : Nat → List WD.D} {W : L2.St → Prop} {p : Addr} {xs : List V} {es : List WD.D} (hp0 : H0 p = none) (e0 : Ex H0 H) (hp : H p = some (.lst xs)) (ax : All K H xs es) (hf : D.lfs es = true) (hF : ∀ i, i < n → D.lfs (f i) = true)
    (hI : EvI K wi σ [p] H n item) (h0 : W σ)
    (hs : ∀ i x σ' H' ys, i < n → W σ' → Ex H0 H' → H' p = some (.lst ys) → All K H' ys (es ++ (List.range i).flatMap f) → Is K H' x (item i) → ∀ Nx : L2.St → Hp → Prop,
      (∀ σ3 H3 vs, W σ3 → Ex H' H3 → All K H3 vs (f i) → Nx σ3 (upd H3 p (.lst (ys ++ vs)))) → g x σ' H' fun σ2 H2 => tw { En with nx := Nx, ct := Nx, bk := tz En } σ2 H2)
    (hd : ∀ σ' H' ys, W σ' → Ex H0 H' → H' p = some (.lst ys) → All K H' ys (es ++ (List.range n).flatMap f) → tz En σ' H') : tSeq (tFor wi g tw) tz En σ H := by
  have lfi : ∀ i, i ≤ n → D.lfs (es ++ (List.range i).flatMap f) = true := fun i hi => lfs_app hf (by
    induction i with
    | zero => rfl
    | succ i ih =>
      rw [List.range_succ, List.flatMap_append]
      refine lfs_app (ih (by omega)) ?_
      show D.lfs (f i ++ []) = true
      rw [List.append_nil]
      exact hF i (by omega))
  refine q_for hI (fun i σ' H' => W σ' ∧ Ex H0 H' ∧ ∃ ys, H' p = some (.lst ys) ∧ All K H' ys (es ++ (List.range i).flatMap f)) (fun H1 e => ⟨h0, e0.trans e, xs, e _ _ hp, by
    rw [List.range_zero, List.flatMap_nil, List.append_nil]
    exact ax.ex e⟩) ?_ (fun σ' H' ⟨w, e, ys, hy, ay⟩ => hd σ' H' ys w e hy ay)
  rintro i x σ' H' H'' hi ⟨w, e, ys, hy, ay⟩ e2 a
  refine hs i x σ' H'' ys hi w (e.trans e2) (e2 _ _ hy) (ay.ex e2) a _ ?_
  intro σ3 H3 vs w3 e3 av
  have hy3 := (e2.trans e3) _ _ hy
  refine ⟨⟨w3, Ex.updN ((e.trans e2).trans e3) hp0, _, upd_same, ?_⟩, (Mu.ex (e2.trans e3)).trans (Mu.upd (List.mem_singleton.mpr rfl) hy3)⟩
  rw [List.range_succ, List.flatMap_append, ← List.append_assoc]
  refine All.app ((ay.ex (e2.trans e3)).updL hy3 (lfi i (by omega))) ?_
  show All K _ vs (f i ++ [])
  rw [List.append_nil]
  exact av.updL hy3 (hF i hi)
end
end WD
end
section
set_option Elab.async false
set_option linter.all false
set_option maxRecDepth 100000
set_option maxHeartbeats 4000000
namespace PySem.W
open PySem PySem.Calls PyProof.Rows Builtin
section
variable {prog : Program} {w : World} {A : Around} {E : Value → Shared → Prop} {s : Shared} {K : Frag} {x C L f : Addr} {h₀ : Heap} {m : Str → Option Value} {ox : Obj} {od : Option Obj} {name : Str} {b tb : Value}
/-- x != b, b of another type -/
theorem my_ne2 {Q : Value → Shared → Prop} (hu : A.units + 1 < cLine) (F : Fr h₀ L s.heap m) (X₀ : K.In h₀) (I : InstAt s.heap x ox C od) (hb : Looks (model prog w) s.heap (typeOf b) tb) (ht : (Value.ref C != tb) = true) (e : subIn K tb (.ref C) = some false)
    (hn : findIn K (.ref C) "__ne__" = some (some (.builtin "object.__ne__"))) (hm : mroIn K C (.type "object") = some true) (hs : findIn K (.ref C) "__eq__" = some (some (.ref f))) (hf : isFn K (.ref f) = true)
    (h : wpAny (model prog w) A.in1 (call (.ref f) [.ref x, b]) (fun v s' => ∃ k, v = .bool k ∧ Q (.bool (!k)) s') E s) : wpAny (model prog w) A (compareOp .NotEq (.ref x) b) Q E s := by
  have X := X₀.keeps F.keep
  have one : wpAny (model prog w) A (tryCompare (.ref x) "__ne__" b) (fun r s' => ∃ v, r = some v ∧ Q v s') E s := by
    unfold tryCompare
    refine wpAny_bind (my_ifBound X I hn PySem.F.slot_tuple_iterator_ne.bind (wpAny_call (codeAny_call_builtin PySem.F.slot_tuple_iterator_ne.plain PySem.F.cmpEntry_ne (check_slot (i := "object.__ne__") (owner := "object") (n := "__ne__") PySem.F.cmpKind_ne PySem.F.cmpSplit_ne (I.type.andThen (looks_mroIn X hm)) (PySem.F.cmpArgs_ne _ _) ?_))))
    unfold Builtin.«object.__ne__»
    refine wpAny_bind (m := slotArgs "__ne__" 1 _) (wpAny_pure ?_)
    refine wpAny_bind (m := cRoomFor _ _) (wpAny_cRoomFor (A := A.in1) hu ?_)
    refine wpAny_bind (m := callSpecialIfBound? (.ref x) (Str.ofString "__eq__") _) (ifBound_K X I hs hf (wpAny_mono h (fun r s' hq => ?_) fun _ _ y => y))
    obtain ⟨k, rfl, q⟩ := hq
    refine wpAny_bind (wpAny_truthy_bool (wpAny_pure ?_))
    exact wpAny_pure ⟨_, rfl, q⟩
  show wpAny (model prog w) A (richCompare .NotEq (.ref x) b) Q E s
  unfold richCompare
  simp only [oneThing_ref]
  refine wpAny_holding (wpAny_bind (wpAny_cRoomFor (by omega) ?_))
  refine wpAny_bind (I.type.here (wpAny_bind (hb.here ?_)))
  rw [if_pos ht]
  refine wpAny_bind ((looks_subIn X e).here ?_)
  simp only [Bool.false_eq_true, if_false]
  refine wpAny_bind (wpAny_mono one (fun r s' z => ?_) fun _ _ e => e)
  obtain ⟨v, rfl, hq⟩ := z
  exact wpAny_pure hq
end
end PySem.W
namespace L2
open PySem PySem.Spec PyProof.Rows
section
variable {X : Cx} {n : Nat}
/-- x != i by an __eq__ of the text, i an int -/
def rNeI (C : Addr) (sp : Sp) (E : XK) : R2 := fun x y H Q => ∃ a dx fs i, x = .ref a ∧ y = .int i ∧ H a = some (.ins C dx fs) ∧ sp [.ref a, .int i] H (fun v H' => ∃ k : Bool, v = .bl k ∧ Q (.bl (!k)) H') E
theorem neI_of {C f : Addr} {ps : List Str} {sp : Sp} (F : WD.FnG X.prog X.w X.K X.mg X.base n f ps sp) (hm : Meth X.K C "__eq__" f) (hn : PySem.W.findIn X.K (.ref C) "__ne__" = some (some (.builtin "object.__ne__"))) (ho : PySem.W.mroIn X.K C (.type "object") = some true) (hi : PySem.W.subIn X.K (.type "int") (.ref C) = some false) (hr : Room (n + 1) X.A) : OpR X (compareOp .NotEq) (rNeI C sp E0) := by
  obtain ⟨⟨fd, F, B⟩, kp⟩ := F
  intro pins s σ H x y v u Q I rx ry h
  obtain ⟨a, dx, fs, i, rfl, rfl, ha, hsp⟩ := h
  cases rx
  obtain ⟨t, rfl⟩ := ry
  obtain ⟨mA, J, _⟩ := ins_get I.hok ha
  obtain ⟨od, J, _⟩ := J.look
  obtain ⟨m, hF⟩ := I.fr
  have hu : X.A.units + 1 < cLine := by
    have := hr.units
    omega
  refine PySem.W.my_ne2 (tb := .type "int") hu hF I.ok.mod.kin J (PySem.W.Looks.of_pure rfl) rfl hi hn ho hm.at_ hm.fn ?_
  refine wpAny_mono (own_call (A := X.A.in1) (Sub.in1 ⟨hr, rfl⟩) F B passL I (.cons (show RelV (.ref a) (.ref a) from rfl) (.cons (show RelV (.int i) (.int i t) from ⟨t, rfl⟩) .nil)) hsp) (fun v s' z => ?_) fun _ _ x => x
  obtain ⟨w, H', I', rw', k, rfl, q⟩ := z
  cases rw'
  exact ⟨k, rfl, .bl (!k), H', I', rfl, q⟩
theorem tuple_mul1 (l : Addr) (items : Array Value) (n : Nat) (dd : Option Addr) (sl : Array (Option Value)) (u : Tok) :
    Meets (Builtin.«tuple.__mul__» ⟨[.ref l, .int 1 u], []⟩) (fun _ R s => s.heap.get? l = some { cls := .type "tuple", dict := dd, data := .seq items n, slots := sl } ∧ R (.ok (.ret (Value.ref l))) s) :=
  .of_wp fun prog w A R s h => by
    obtain ⟨hp, g, d, tk, os⟩ := s
    obtain ⟨hl, h⟩ := h
    have f1 := AutoSeq1.idx_int
    have c0 : (decide ((1 : Int) < -(2 ^ 63)) || decide ((1 : Int) ≥ 2 ^ 63)) = false := by decide
    have c1 : (items.isEmpty || (1 : Int) == 1) = true := by simp
    wp_walk using wpAny_loadPart' hl
    repeat (first
      | (refine wpAny_ite_false (decide_eq_false (by rw [c0]; exact Bool.false_ne_true)) ?_; wp_walk using wpAny_loadPart' hl)
      | (refine wpAny_ite_true (decide_eq_true c1) ?_; wp_walk using wpAny_loadPart' hl))
    exact ⟨_, rfl, h⟩
/-- t * k, k from 1 on -/
def rRepT1 (K : PySem.W.Frag) : R2 := fun x y H Q => ∃ l k xs, x = .ref l ∧ y = .int k ∧ SqT K H l xs ∧ xs ≠ [] ∧ 1 ≤ k ∧ k ≤ 1000 ∧ xs.length ≤ 1000 ∧ (k = 1 → Q (.ref l) H) ∧ (2 ≤ k → ∀ p, H p = none → Q (.ref p) (upd H p (.tup (List.replicate k.toNat xs).flatten)))
theorem op_repT1 : OpR X (binaryOp .Mult) (rRepT1 X.K) := by
  intro pins s σ H x y v u Q I rx ry h
  obtain ⟨l, k, xs, rfl, rfl, hT, hne, h1, h2, hz, q1, q2⟩ := h
  by_cases c : 2 ≤ k
  · exact op_repT pins s σ H _ _ v u Q I rx ry ⟨l, k, xs, rfl, rfl, hT, hne, c, h2, hz, q2 c⟩
  · have e : k = 1 := by omega
    subst e
    cases rx
    obtain ⟨t, rfl⟩ := ry
    obtain ⟨its, r, ⟨⟨cls, dd, data, sl⟩, ho, hc, n, hd⟩, hs⟩ := I.tuple hT
    simp only at hc hd
    subst hc hd
    refine wpAny_binaryOp_repeat_ref (T := "tuple") (U := "int") (by decide) ⟨_, ho, rfl⟩ (fun s' => typeIs_int s' 1 t) noFill_tuple_mul F.fills_int_mul F.slot_int_rmul repeat_tuple F.slot_int_index.lookup
      (call_meets F.slot_int_rmul (typeIs_int s 1 t) F.entry_int_rmul (F.args_int_rmul_2 _ _) (int_rmul_tuple 1 t l its.toArray n dd sl)
        ⟨ho, rfl, ⟨_, ho, rfl⟩, call_meets F.slot_tuple_mul ⟨_, ho, rfl⟩ F.entry_tuple_mul (F.args_tuple_mul_2 _ _) (tuple_mul1 l its.toArray n dd sl t) ⟨ho, ?_⟩⟩)
    exact ⟨.ref l, H, I, rfl, q1 rfl⟩
end
end L2
namespace WD
open PySem PySem.Spec PyProof.Rows L2 Evl
section
variable {K : PySem.W.Frag} {σ : L2.St} {H : Hp} {ta tb te : TE} {d : D} {ds : List D}
theorem ed_neIO {c : Str} {R : List D → D → Prop} {E : XK} {fs : List (Str × D)} {i : Int} {b : Bool} (ha : EvD K ta σ H (.obj c fs)) (hb : EvD K tb σ H (.int i)) (hR : R [.obj c fs, .int i] (.bl b)) : EvD K (tOp (rNeI (He.ga K c) (spD K R) E) ta tb) σ H (.bl (!b)) := ed_op ha hb fun v1 v2 H1 _ a1 a2 Q q => by
  cases a2
  cases a1 with
  | @obj x dx _ fvs _ hx af =>
    refine ⟨x, dx, fvs, i, rfl, rfl, hx, _, _, .cons (.obj hx af) (.cons (.int i) .nil), hR, fun v H' e a => ?_⟩
    cases a
    exact ⟨b, rfl, q _ H' e (.bl _)⟩
theorem All.rep {vs : List V} {H : Hp} (a : All K H vs ds) : ∀ n : Nat, All K H (List.replicate n vs).flatten (List.replicate n ds).flatten
  | 0 => .nil
  | n + 1 => by
    rw [List.replicate_succ, List.replicate_succ, List.flatten_cons, List.flatten_cons]
    exact a.app (All.rep a n)
theorem en_rep {n : Nat} (h : EvN K ta σ H ds) (hb : ∀ H1, EvD K tb σ H1 (.int (n : Int))) (hn : ds.length * n ≤ 100000) (hn2 : n ≤ 100000) : EvN K (tOp rRep ta tb) σ H (List.replicate n ds).flatten := fun H1 e Q q =>
  h H1 e _ fun p xs H2 hp e2 hx ax => hb H2 H2 (Ex.refl _) _ fun v H3 e3 i3 => by
    cases i3
    refine ⟨p, n, xs, rfl, rfl, e3 _ _ hx, by omega, by omega, by rw [ax.len, Int.toNat_natCast, sizeLine_eq]; omega, fun r hr => q r _ _ (fresh_back (e2.trans e3) hr) ((e2.trans e3).trans (Ex.new hr)) upd_same ?_⟩
    rw [Int.toNat_natCast]
    exact ((All.rep (ax.ex e3) n)).ex (Ex.new hr)
theorem ed_repT {n : Nat} (h : EvD K ta σ H (.tup ds)) (hb : ∀ H1, EvD K tb σ H1 (.int (n : Int))) (h0 : ds ≠ []) (hd : ds.length ≤ 1000) (hn1 : 1 ≤ n) (hn : n ≤ 1000) : EvD K (tOp (rRepT1 K) ta tb) σ H (.tup (List.replicate n ds).flatten) := fun H1 e Q q =>
  h H1 e _ fun v H2 e2 a => hb H2 H2 (Ex.refl _) _ fun w H3 e3 i3 => by
    cases i3
    obtain ⟨p, xs, rfl, hp, ax⟩ := Is.tup_inv (a.ex e3)
    refine ⟨p, n, xs, rfl, rfl, hp, fun z => h0 (by
      have := ax.len
      rw [z] at this
      exact List.eq_nil_of_length_eq_zero this.symm), by omega, by omega, by rw [ax.len]; exact hd, fun z => ?_, fun z r hr => ?_⟩
    · have e1 : n = 1 := by omega
      subst e1
      refine q _ H3 (e2.trans e3) (.tup hp ?_)
      simpa using ax
    · refine q _ _ ((e2.trans e3).trans (Ex.new hr)) (.tup (st_of upd_same) ?_)
      rw [Int.toNat_natCast]
      exact (All.rep ax n).ex (Ex.new hr)
theorem ei_tupN (h : EvD K te σ H (.tup ds)) : EvI K (iTup K te) σ [] H ds.length (fun i => ds.getD i .non) := fun R r =>
  h H (Ex.refl H) _ fun v H2 e2 i2 => by
    obtain ⟨p, xs, rfl, hp, a⟩ := Is.tup_inv i2
    exact ⟨p, rfl, ⟨xs, hp⟩, r (Itt K p) H2 (fun H3 => Ex H2 H3) e2 ⟨Ex.refl _, fun L' hL' H3 H4 q m => Mu.of_ex q m fun l hl => (hL' l hl).elim (fun z => nomatch z) id, fun H3 q i hi => by
        obtain ⟨d, hd⟩ : ∃ d, ds[i]? = some d := ⟨_, List.getElem?_eq_getElem hi⟩
        obtain ⟨v, hv, hi2⟩ := (a.ex q).get hd
        refine ⟨⟨xs, v, ex_t q hp, hv⟩, fun x H4 hy => ?_⟩
        obtain ⟨h1, h2⟩ := (show H4 = H3 ∧ ∀ xs, SqT K H3 p xs → xs[i]? = some x from hy)
        subst h1
        have h3 := h2 xs (ex_t q hp)
        rw [hv] at h3
        cases h3
        rw [getD_some hd]
        exact ⟨Ex.refl _, hi2⟩, fun H3 q => ⟨xs, ex_t q hp, by rw [a.len]; exact Nat.le_refl _⟩⟩⟩
end
end WD
end
section
set_option Elab.async false
set_option linter.all false
set_option maxRecDepth 100000
namespace PM
open PySem L2 Evl
section
variable {X : Cx} {C : Ct} {ta tb tc te : TE} {a b c : Expr} {ma mb mc : Env → M D} {pos : Pos}
/-! ### numbers -/
theorem ops_ii {r : R2} {g : D → D → M D} {K : PySem.W.Frag} (hg : ∀ d1 d2 S P E, (g d1 d2 S).sat P E → ∃ i j, d1 = .int i ∧ d2 = .int j) (hr : ∀ (i j : Int) (w : Wd) (S : Sto) (H : Hp) (Q : VK) (E : Er → Sto → Prop), Rel K w S H → (g (.int i) (.int j) S).sat (PV K w Q) E → r (.int i) (.int j) H Q) : OpS K r g := fun w S H x y d1 d2 Q E R a b h => by
  obtain ⟨i, j, rfl, rfl⟩ := hg d1 d2 S _ _ h
  cases a
  cases b
  exact hr i j w S H Q E R h
theorem isII {g : D → D → M D} {g' : Int → Int → M D} (e : ∀ i j, g (.int i) (.int j) = g' i j) (n : ∀ d1 d2 : D, (¬ ∃ i j, d1 = .int i ∧ d2 = .int j) → g d1 d2 = stuck) : ∀ d1 d2 S P E, (g d1 d2 S).sat P E → ∃ i j, d1 = .int i ∧ d2 = .int j := fun d1 d2 S P E h => by
  by_cases q : ∃ i j, d1 = .int i ∧ d2 = .int j
  · exact q
  · rw [n d1 d2 q] at h
    exact h.elim
theorem ops_sub (K : PySem.W.Frag) : OpS K (rI0 fun i j => .int (i - j)) dSub := ops_ii (fun d1 d2 S P E h => by
  cases d1 <;> first | exact h.elim | skip
  cases d2 <;> first | exact h.elim | exact ⟨_, _, rfl, rfl⟩) fun i j w S H Q E R h => ⟨i, j, rfl, rfl, h w H _ (Wd.le.refl w) R (.int _)⟩
theorem ce_sub (ha : CE X C a ta ma) (hb : CE X C b tb mb) : CE X C (.BinOp a .Sub b pos) (tOp (rI0 fun i j => .int (i - j)) ta tb) (e2 dSub ma mb) := ce_op op_sub (ops_sub _) ha hb
theorem ops_div (K : PySem.W.Frag) : OpS K (rI CDivW fun i j => .int (i / j)) dDiv := ops_ii (fun d1 d2 S P E h => by
  cases d1 <;> first | exact h.elim | skip
  cases d2 <;> first | exact h.elim | exact ⟨_, _, rfl, rfl⟩) fun i j w S H Q E R h => by
  obtain ⟨c, h⟩ := gd_sat h
  exact ⟨i, j, rfl, rfl, c, h w H _ (Wd.le.refl w) R (.int _)⟩
theorem ce_div (ha : CE X C a ta ma) (hb : CE X C b tb mb) : CE X C (.BinOp a .FloorDiv b pos) (tOp (rI CDivW fun i j => .int (i / j)) ta tb) (e2 dDiv ma mb) := ce_op op_fdivW (ops_div _) ha hb
theorem ops_mod (K : PySem.W.Frag) : OpS K (rI (fun _ j => 0 < j) fun i j => .int (i % j)) dMod := ops_ii (fun d1 d2 S P E h => by
  cases d1 <;> first | exact h.elim | skip
  cases d2 <;> first | exact h.elim | exact ⟨_, _, rfl, rfl⟩) fun i j w S H Q E R h => by
  obtain ⟨c, h⟩ := gd_sat h
  exact ⟨i, j, rfl, rfl, c, h w H _ (Wd.le.refl w) R (.int _)⟩
theorem ce_mod (ha : CE X C a ta ma) (hb : CE X C b tb mb) : CE X C (.BinOp a .Mod b pos) (tOp (rI (fun _ j => 0 < j) fun i j => .int (i % j)) ta tb) (e2 dMod ma mb) := ce_op op_mod (ops_mod _) ha hb
theorem ops_pow (K : PySem.W.Frag) : OpS K (rI CPow fun i j => .int (i ^ j.toNat)) dPow := ops_ii (fun d1 d2 S P E h => by
  cases d1 <;> first | exact h.elim | skip
  cases d2 <;> first | exact h.elim | exact ⟨_, _, rfl, rfl⟩) fun i j w S H Q E R h => by
  obtain ⟨c, h⟩ := gd_sat h
  exact ⟨i, j, rfl, rfl, c, h w H _ (Wd.le.refl w) R (.int _)⟩
theorem ce_pow (ha : CE X C a ta ma) (hb : CE X C b tb mb) : CE X C (.BinOp a .Pow b pos) (tOp (rI CPow fun i j => .int (i ^ j.toNat)) ta tb) (e2 dPow ma mb) := ce_op op_pow (ops_pow _) ha hb
theorem ops_shl (K : PySem.W.Frag) : OpS K (rI CShl fun i j => .int (i * 2 ^ j.toNat)) dShl := ops_ii (fun d1 d2 S P E h => by
  cases d1 <;> first | exact h.elim | skip
  cases d2 <;> first | exact h.elim | exact ⟨_, _, rfl, rfl⟩) fun i j w S H Q E R h => by
  obtain ⟨c, h⟩ := gd_sat h
  exact ⟨i, j, rfl, rfl, c, h w H _ (Wd.le.refl w) R (.int _)⟩
theorem ce_shl (ha : CE X C a ta ma) (hb : CE X C b tb mb) : CE X C (.BinOp a .LShift b pos) (tOp (rI CShl fun i j => .int (i * 2 ^ j.toNat)) ta tb) (e2 dShl ma mb) := ce_op op_shlW (ops_shl _) ha hb
theorem ops_shr (K : PySem.W.Frag) : OpS K (rI (fun _ j => 0 ≤ j) fun i j => .int (i / 2 ^ j.toNat)) dShr := ops_ii (fun d1 d2 S P E h => by
  cases d1 <;> first | exact h.elim | skip
  cases d2 <;> first | exact h.elim | exact ⟨_, _, rfl, rfl⟩) fun i j w S H Q E R h => by
  obtain ⟨c, h⟩ := gd_sat h
  exact ⟨i, j, rfl, rfl, c, h w H _ (Wd.le.refl w) R (.int _)⟩
theorem ce_shr (ha : CE X C a ta ma) (hb : CE X C b tb mb) : CE X C (.BinOp a .RShift b pos) (tOp (rI (fun _ j => 0 ≤ j) fun i j => .int (i / 2 ^ j.toNat)) ta tb) (e2 dShr ma mb) := ce_op op_shr (ops_shr _) ha hb
abbrev rMulZ (K : PySem.W.Frag) : R2 := fun x y H Q => rI CMulW (fun i j => .int (i * j)) x y H Q ∨ (rRep x y H Q ∨ rRepT1 K x y H Q)
theorem ops_mul (K : PySem.W.Frag) : OpS K (rMulZ K) dMul := fun w S H x y d1 d2 Q E R a b h => by
  cases a with
  | int i =>
    cases b with
    | int j =>
      obtain ⟨c, h⟩ := gd_sat h
      exact .inl ⟨i, j, rfl, rfl, c, h w H _ (Wd.le.refl w) R (.int _)⟩
    | _ => exact h.elim
  | @lst p xs ds s1 a1 =>
    cases b with
    | int k =>
      obtain ⟨⟨c1, c2, c3⟩, h⟩ := gd_sat h
      refine .inr (.inl ⟨p, k, xs, rfl, rfl, R.ex _ _ s1, by omega, by omega, sz_lim (by rw [a1.len]; exact c3), fun l hl => ?_⟩)
      obtain ⟨le, R'⟩ := R.plus (o := .lst (List.replicate k.toNat xs).flatten) hl
      exact h _ _ _ le R' (.lst upd_same ((a1.up le).rep _))
    | _ => exact h.elim
  | @tup p xs ds s1 a1 =>
    cases b with
    | int k =>
      obtain ⟨⟨c0, c1, c2, c3⟩, h⟩ := gd_sat h
      refine .inr (.inr ⟨p, k, xs, rfl, rfl, ex_t R.ex s1, fun z => ?_, c1, c2, by rw [a1.len]; exact c3, fun e => ?_, fun _ l hl => ?_⟩)
      · subst z
        cases a1
        exact c0 rfl
      · subst e
        exact h w H _ (Wd.le.refl w) R (by
          show VR K w _ (.tup (List.replicate 1 ds).flatten)
          rw [List.replicate_one, List.flatten_singleton]
          exact .tup s1 a1)
      · obtain ⟨le, R'⟩ := R.plus (o := .tup (List.replicate k.toNat xs).flatten) hl
        exact h _ _ _ le R' (.tup (st_of upd_same) ((a1.up le).rep _))
    | _ => exact h.elim
  | _ => exact h.elim
theorem ce_mul (ha : CE X C a ta ma) (hb : CE X C b tb mb) : CE X C (.BinOp a .Mult b pos) (tOp (rMulZ C.K) ta tb) (e2 dMul ma mb) := ce_op (by rw [← ha.hK]; exact opOr op_mulW (opOr op_rep op_repT1)) (ops_mul _) ha hb
theorem ce_neg (ha : CE X C a ta ma) : CE X C (.UnaryOp .USub a pos) (tUn (rU fun i => .int (-i)) ta) (e1 dNeg ma) := ⟨ha.hK, fun y => pe_un un_neg (ha.pe y), snd_un ha.sn fun w S H x d Q E R a h => by
  cases a with
  | int i => exact ⟨i, rfl, h w H _ (Wd.le.refl w) R (.int _)⟩
  | _ => exact h.elim⟩
theorem ops_lt (K : PySem.W.Frag) : OpS K (rI0 fun i j => .bl (decide (i < j))) dLt := ops_ii (fun d1 d2 S P E h => by
  cases d1 <;> first | exact h.elim | skip
  cases d2 <;> first | exact h.elim | exact ⟨_, _, rfl, rfl⟩) fun i j w S H Q E R h => ⟨i, j, rfl, rfl, h w H _ (Wd.le.refl w) R (.bl _)⟩
theorem ops_le (K : PySem.W.Frag) : OpS K (rI0 fun i j => .bl (decide (i ≤ j))) dLe := ops_ii (fun d1 d2 S P E h => by
  cases d1 <;> first | exact h.elim | skip
  cases d2 <;> first | exact h.elim | exact ⟨_, _, rfl, rfl⟩) fun i j w S H Q E R h => ⟨i, j, rfl, rfl, h w H _ (Wd.le.refl w) R (.bl _)⟩
theorem ops_gt (K : PySem.W.Frag) : OpS K (rI0 fun i j => .bl (decide (j < i))) dGt := ops_ii (fun d1 d2 S P E h => by
  cases d1 <;> first | exact h.elim | skip
  cases d2 <;> first | exact h.elim | exact ⟨_, _, rfl, rfl⟩) fun i j w S H Q E R h => ⟨i, j, rfl, rfl, h w H _ (Wd.le.refl w) R (.bl _)⟩
theorem ops_ge (K : PySem.W.Frag) : OpS K (rI0 fun i j => .bl (decide (j ≤ i))) dGe := ops_ii (fun d1 d2 S P E h => by
  cases d1 <;> first | exact h.elim | skip
  cases d2 <;> first | exact h.elim | exact ⟨_, _, rfl, rfl⟩) fun i j w S H Q E R h => ⟨i, j, rfl, rfl, h w H _ (Wd.le.refl w) R (.bl _)⟩
theorem ops_isN (K : PySem.W.Frag) : OpS K (fun x y H Q => y = .non ∧ Q (.bl (decide (x = .non))) H) (dIsN false) := fun w S H x y d1 d2 Q E R a b h => by
  cases b with
  | non =>
    refine ⟨rfl, ?_⟩
    cases a <;> exact h w H _ (Wd.le.refl w) R (.bl _)
  | _ => cases a <;> exact h.elim
theorem ops_notN (K : PySem.W.Frag) : OpS K (fun x y H Q => y = .non ∧ Q (.bl (!decide (x = .non))) H) (dIsN true) := fun w S H x y d1 d2 Q E R a b h => by
  cases b with
  | non =>
    refine ⟨rfl, ?_⟩
    cases a <;> exact h w H _ (Wd.le.refl w) R (.bl _)
  | _ => cases a <;> exact h.elim
/-! ### data: ==, in -/
mutual
def D.py : D → PyData
  | .bl b => .bool b
  | .int i => .int i
  | .str x => .str x
  | .tup ds => .tuple (D.pys ds)
  | .lst ds => .list (D.pys ds)
  | .scr ns => .list (ns.map .int)
  | _ => .none
def D.pys : List D → List PyData
  | [] => []
  | d :: ds => D.py d :: D.pys ds
end
/-- what == is asked of: no object in it, at most n deep -/
def D.okD : Nat → D → Bool
  | _, .non => true
  | _, .bl _ => true
  | _, .int _ => true
  | _, .str x => PyData.strOk x
  | n + 1, .tup ds => ds.all (D.okD n)
  | n + 1, .lst ds => ds.all (D.okD n)
  | _ + 1, .scr _ => true
  | _, _ => false
theorem okD_ints (n : Nat) (ns : List Int) : (ns.map D.int).all (D.okD n) = true := List.all_eq_true.mpr fun d hd => by
  obtain ⟨i, _, rfl⟩ := List.mem_map.mp hd
  cases n <;> rfl
theorem pys_map : ∀ ds : List D, D.pys ds = ds.map D.py
  | [] => rfl
  | d :: ds => by
    show D.py d :: D.pys ds = _
    rw [pys_map ds]
    rfl
theorem lay_all : ∀ ds : List PyData, (∀ d ∈ ds, d.canLay0 = true) → PyData.canLayAll0 ds = true
  | [], _ => by simp only [PyData.canLayAll0]
  | d :: ds, h => by
    simp only [PyData.canLayAll0, h d (by simp), lay_all ds fun e he => h e (by simp [he]), Bool.and_self]
theorem dep_all {n : Nat} : ∀ ds : List PyData, (∀ d ∈ ds, d.depth ≤ n) → PyData.depthAll ds ≤ n
  | [], _ => by simp [PyData.depthAll]
  | d :: ds, h => by
    simp only [PyData.depthAll]
    have h1 := h d (by simp)
    have h2 := dep_all ds fun e he => h e (by simp [he])
    omega
theorem Dp.ints {K : PySem.W.Frag} {H : Hp} : ∀ ns : List Int, DpAll K H (ns.map V.int) (ns.map PyData.int)
  | [] => .nil
  | n :: ns => .cons (.int n) (Dp.ints ns)
theorem dp_of {K : PySem.W.Frag} {w : Wd} {H : Hp} (e : Ex w.F H) : ∀ (n : Nat) (v : V) (d : D), VR K w v d → d.okD n = true → Dp K H v d.py ∧ d.py.canLay0 = true ∧ d.py.depth ≤ n := by
  intro n
  induction n with
  | zero =>
    intro v d a h
    cases a with
    | non => exact ⟨.non, rfl, by simp [D.py, PyData.depth]⟩
    | bl b => exact ⟨.bl b, rfl, by simp [D.py, PyData.depth]⟩
    | int i => exact ⟨.int i, rfl, by simp [D.py, PyData.depth]⟩
    | str x => exact ⟨.str x, by
        simp only [D.py, PyData.canLay0]
        exact h, by simp [D.py, PyData.depth]⟩
    | _ => cases h
  | succ n ih =>
    have seq : ∀ (vs : List V) (ds : List D), VRs K w vs ds → ds.all (D.okD n) = true → DpAll K H vs (D.pys ds) ∧ PyData.canLayAll0 (D.pys ds) = true ∧ PyData.depthAll (D.pys ds) ≤ n := by
      intro vs
      induction vs with
      | nil =>
        intro ds a h
        cases a
        exact ⟨.nil, by simp [D.pys, PyData.canLayAll0], by simp [D.pys, PyData.depthAll]⟩
      | cons v vs ih2 =>
        intro ds a h
        cases a with
        | cons a1 a2 =>
          obtain ⟨h1, h2⟩ := Bool.and_eq_true_iff.mp (show (D.okD n _ && List.all _ (D.okD n)) = true from h)
          obtain ⟨p1, p2, p3⟩ := ih _ _ a1 h1
          obtain ⟨q1, q2, q3⟩ := ih2 _ a2 h2
          refine ⟨.cons p1 q1, by simp only [D.pys, PyData.canLayAll0, p2, q2, Bool.and_self], ?_⟩
          simp only [D.pys, PyData.depthAll]
          omega
    intro v d a h
    cases a with
    | non => exact ⟨.non, rfl, by simp [D.py, PyData.depth]⟩
    | bl b => exact ⟨.bl b, rfl, by simp [D.py, PyData.depth]⟩
    | int i => exact ⟨.int i, rfl, by simp [D.py, PyData.depth]⟩
    | str x => exact ⟨.str x, by
        simp only [D.py, PyData.canLay0]
        exact h, by simp [D.py, PyData.depth]⟩
    | tup s a =>
      obtain ⟨p1, p2, p3⟩ := seq _ _ a h
      refine ⟨.tup (ex_t e s) p1, by simpa [D.py, PyData.canLay0] using p2, ?_⟩
      simp only [D.py, PyData.depth]
      omega
    | lst s a =>
      obtain ⟨p1, p2, p3⟩ := seq _ _ a h
      refine ⟨.lst (.inl (.inl (e _ _ s))) p1, by simpa [D.py, PyData.canLay0] using p2, ?_⟩
      simp only [D.py, PyData.depth]
      omega
    | @scr _ ns s =>
      refine ⟨.lst (.inl (ex_rd e s)) (Dp.ints _), ?_, ?_⟩
      · simp only [D.py, PyData.canLay0]
        exact lay_all _ fun d hd => by
          obtain ⟨i, _, rfl⟩ := List.mem_map.mp hd
          rfl
      · simp only [D.py, PyData.depth]
        have := dep_all (n := 0) (List.map PyData.int ns) fun d hd => by
          obtain ⟨i, _, rfl⟩ := List.mem_map.mp hd
          simp [PyData.depth]
        omega
    | _ => cases h
theorem sh_of {d : PyData} {n : Nat} (h1 : d.canLay0 = true) (h2 : d.depth ≤ n) (hn : n ≤ 60) : SeqAt.shaped d = true := by
  unfold SeqAt.shaped
  rw [h1, decide_eq_true (by omega)]
  rfl
/-- a list that changes, read as it stands -/
def rdD (S : Sto) : D → D
  | .ptr n => match S[n]? with
    | some (.lst ds) => .lst ds
    | _ => .ptr n
  | d => d
theorem rdD_dp {K : PySem.W.Frag} {w : Wd} {S : Sto} {H : Hp} {v : V} {d : D} (R : Rel K w S H) (a : VR K w v d) (h : (rdD S d).okD 12 = true) : Dp K H v (rdD S d).py ∧ SeqAt.shaped (rdD S d).py = true := by
  by_cases hp : ∃ n ds, d = .ptr n ∧ S[n]? = some (.lst ds)
  · obtain ⟨n, ds, rfl, hs⟩ := hp
    have er : rdD S (.ptr n) = .lst ds := by
      show (match S[n]? with
        | some (.lst ds) => D.lst ds
        | _ => .ptr n) = _
      rw [hs]
    cases a with
    | ptr hb =>
      obtain ⟨_, xs, hx, ax⟩ := R.cell _ _ _ hb hs rfl
      rw [er] at h ⊢
      -- read in the world grown by it
      have gr : VR K ⟨upd w.F _ (.lst xs), w.B, w.U⟩ (.ref _) (.lst ds) := .lst upd_same (ax.up (Wd.le_plus (R.cell _ _ _ hb hs rfl).1))
      obtain ⟨R2l, R2⟩ := R.freeze hb hs rfl hx
      obtain ⟨p1, p2, p3⟩ := dp_of R2.ex 12 _ _ gr h
      exact ⟨p1, sh_of p2 p3 (by decide)⟩
  · have er : rdD S d = d := by
      cases d with
      | ptr n =>
        show (match S[n]? with
          | some (.lst ds) => D.lst ds
          | _ => .ptr n) = _
        cases q : S[n]? with
        | none => rfl
        | some c =>
          cases c with
          | lst ds => exact absurd ⟨n, ds, rfl, q⟩ hp
          | _ => rfl
      | _ => rfl
    rw [er] at h ⊢
    obtain ⟨p1, p2, p3⟩ := dp_of R.ex 12 _ _ a h
    exact ⟨p1, sh_of p2 p3 (by decide)⟩
def dEq (neg : Bool) (x y : D) : M D := fun S => gd ((rdD S x).okD 12 = true ∧ (rdD S y).okD 12 = true) (ret (.bl (neg != PyData.eqv (rdD S x).py (rdD S y).py))) S
theorem ops_eq (K : PySem.W.Frag) : OpS K (rEqD K) (dEq false) := fun w S H x y d1 d2 Q E R a b h => by
  obtain ⟨⟨c1, c2⟩, h⟩ := gd_sat h
  obtain ⟨p1, p2⟩ := rdD_dp R a c1
  obtain ⟨q1, q2⟩ := rdD_dp R b c2
  refine ⟨_, _, p1, q1, p2, q2, ?_⟩
  have := h w H _ (Wd.le.refl w) R (.bl _)
  rwa [Bool.false_bne] at this
theorem ops_ne (K : PySem.W.Frag) : OpS K (rNeD K) (dEq true) := fun w S H x y d1 d2 Q E R a b h => by
  obtain ⟨⟨c1, c2⟩, h⟩ := gd_sat h
  obtain ⟨p1, p2⟩ := rdD_dp R a c1
  obtain ⟨q1, q2⟩ := rdD_dp R b c2
  refine ⟨_, _, p1, q1, p2, q2, ?_⟩
  have := h w H _ (Wd.le.refl w) R (.bl _)
  rwa [Bool.true_bne] at this
/-- x in a list of data | a tuple -/
def dIn (neg : Bool) (x y : D) : M D := fun S => match rdD S y with
  | .lst ds => gd ((rdD S x).okD 12 = true ∧ (D.lst ds).okD 12 = true) (ret (.bl (neg != (D.pys ds).any fun z => PyData.eqv z (rdD S x).py))) S
  | .tup ds => gd (neg = false ∧ (rdD S x).okD 12 = true ∧ (D.tup ds).okD 12 = true) (ret (.bl ((D.pys ds).any fun z => PyData.eqv z (rdD S x).py))) S
  | _ => .no
theorem ce_eq (hu : X.A.units + 64 < cLine) (ha : CE X C a ta ma) (hb : CE X C b tb mb) : CE X C (.Compare a [.Eq] [b] pos) (tOp (rEqD C.K) ta tb) (e2 (dEq false) ma mb) := ce_cmp (by rw [← ha.hK]; exact op_eqD hu) (ops_eq _) ha hb (nobehind _ (by decide) (by decide))
theorem ce_ne (hu : X.A.units + 64 < cLine) (ha : CE X C a ta ma) (hb : CE X C b tb mb) : CE X C (.Compare a [.NotEq] [b] pos) (tOp (rNeD C.K) ta tb) (e2 (dEq true) ma mb) := ce_cmp (by rw [← ha.hK]; exact op_neD hu) (ops_ne _) ha hb (nobehind _ (by decide) (by decide))
theorem ce_lt (ha : CE X C a ta ma) (hb : CE X C b tb mb) : CE X C (.Compare a [.Lt] [b] pos) (tOp (rI0 fun i j => .bl (decide (i < j))) ta tb) (e2 dLt ma mb) := ce_cmp op_lt (ops_lt _) ha hb (nobehind _ (by decide) (by decide))
theorem ce_le (ha : CE X C a ta ma) (hb : CE X C b tb mb) : CE X C (.Compare a [.LtE] [b] pos) (tOp (rI0 fun i j => .bl (decide (i ≤ j))) ta tb) (e2 dLe ma mb) := ce_cmp op_le (ops_le _) ha hb (nobehind _ (by decide) (by decide))
theorem ce_gt (ha : CE X C a ta ma) (hb : CE X C b tb mb) : CE X C (.Compare a [.Gt] [b] pos) (tOp (rI0 fun i j => .bl (decide (j < i))) ta tb) (e2 dGt ma mb) := ce_cmp op_gt (ops_gt _) ha hb (nobehind _ (by decide) (by decide))
theorem ce_ge (ha : CE X C a ta ma) (hb : CE X C b tb mb) : CE X C (.Compare a [.GtE] [b] pos) (tOp (rI0 fun i j => .bl (decide (j ≤ i))) ta tb) (e2 dGe ma mb) := ce_cmp op_ge (ops_ge _) ha hb (nobehind _ (by decide) (by decide))
theorem ce_isN (ha : CE X C a ta ma) (hb : CE X C b tb mb) : CE X C (.Compare a [.Is] [b] pos) (tOp (fun x y H Q => y = .non ∧ Q (.bl (decide (x = .non))) H) ta tb) (e2 (dIsN false) ma mb) := ce_cmp op_isN (ops_isN _) ha hb (nobehind _ (by decide) (by decide))
theorem ce_notN (ha : CE X C a ta ma) (hb : CE X C b tb mb) : CE X C (.Compare a [.IsNot] [b] pos) (tOp (fun x y H Q => y = .non ∧ Q (.bl (!decide (x = .non))) H) ta tb) (e2 (dIsN true) ma mb) := ce_cmp op_notN (ops_notN _) ha hb (nobehind _ (by decide) (by decide))
theorem ops_in (K : PySem.W.Frag) : OpS K (fun x y H Q => rInD K x y H Q ∨ rInDT K x y H Q) (dIn false) := fun w S H x y d1 d2 Q E R a b h => by
  unfold dIn at h
  cases q : rdD S d2 with
  | lst ds =>
    rw [q] at h
    obtain ⟨⟨c1, c2⟩, h⟩ := gd_sat h
    rw [← q] at c2
    obtain ⟨p1, p2⟩ := rdD_dp R a c1
    obtain ⟨q1, q2⟩ := rdD_dp R b c2
    rw [q] at q1 q2
    refine .inl ⟨_, _, p1, q1, p2, q2, ?_⟩
    have := h w H _ (Wd.le.refl w) R (.bl _)
    rwa [Bool.false_bne] at this
  | tup ds =>
    rw [q] at h
    obtain ⟨⟨_, c1, c2⟩, h⟩ := gd_sat h
    rw [← q] at c2
    obtain ⟨p1, p2⟩ := rdD_dp R a c1
    obtain ⟨q1, q2⟩ := rdD_dp R b c2
    have e2 : d2 = .tup ds := by
      cases d2 with
      | ptr n =>
        have z : (match S[n]? with
          | some (.lst ds) => D.lst ds
          | _ => .ptr n) = .tup ds := q
        cases r : S[n]? with
        | none =>
          rw [r] at z
          cases z
        | some cc =>
          rw [r] at z
          cases cc <;> cases z
      | _ => exact q
    obtain ⟨r1, r2, r3⟩ := dp_of R.ex 12 _ _ (e2 ▸ b) (q ▸ c2)
    refine .inr ⟨_, D.pys ds, p1, r1, SeqAt.canLay_of_shaped p2, by simpa [D.py, PyData.canLay0] using r2, ?_, h w H _ (Wd.le.refl w) R (.bl _)⟩
    simp only [D.py, PyData.depth] at r3
    omega
  | _ =>
    rw [q] at h
    exact h.elim
theorem ops_notIn (K : PySem.W.Frag) : OpS K (rNotInD K) (dIn true) := fun w S H x y d1 d2 Q E R a b h => by
  unfold dIn at h
  cases q : rdD S d2 with
  | lst ds =>
    rw [q] at h
    obtain ⟨⟨c1, c2⟩, h⟩ := gd_sat h
    rw [← q] at c2
    obtain ⟨p1, p2⟩ := rdD_dp R a c1
    obtain ⟨q1, q2⟩ := rdD_dp R b c2
    rw [q] at q1 q2
    refine ⟨_, _, p1, q1, p2, q2, ?_⟩
    have := h w H _ (Wd.le.refl w) R (.bl _)
    rwa [Bool.true_bne] at this
  | tup ds =>
    rw [q] at h
    obtain ⟨⟨c0, _⟩, h⟩ := gd_sat h
    cases c0
  | _ =>
    rw [q] at h
    exact h.elim
theorem ce_in (hu : X.A.units + 65 < cLine) (ha : CE X C a ta ma) (hb : CE X C b tb mb) (hm : behindInMarks .In b = false) : CE X C (.Compare a [.In] [b] pos) (tOp (fun x y H Q => rInD C.K x y H Q ∨ rInDT C.K x y H Q) ta tb) (e2 (dIn false) ma mb) := ce_cmp (by rw [← ha.hK]; exact opOr (op_inD hu) (op_inDT (by omega))) (ops_in _) ha hb hm
/-- x not in a tuple of plain things -/
def dNotInF (x y : D) : M D := fun S => match y with
  | .tup ds => gd (D.okD 0 x = true ∧ ds.all (D.okD 0) = true) (ret (.bl (!(D.pys ds).any fun z => PyData.eqv z x.py))) S
  | _ => dIn true x y S
theorem flat_of {K : PySem.W.Frag} {w : Wd} {v : V} {d : D} (a : VR K w v d) (h : D.okD 0 d = true) : flatV v = true := by
  cases a <;> first | rfl | cases h
theorem eqV_py {K : PySem.W.Frag} {w : Wd} {v u : V} {d e : D} (a : VR K w v d) (b : VR K w u e) (h1 : D.okD 0 d = true) (h2 : D.okD 0 e = true) : eqV v u = PyData.eqv d.py e.py := by
  cases a <;> first | (cases h1; done) | (cases b <;> first | (cases h2; done) | (simp [eqV, D.py, PyData.eqv] <;> done) | skip)
theorem anyV_py {K : PySem.W.Frag} {w : Wd} {v : V} {d : D} (a : VR K w v d) (h : D.okD 0 d = true) : ∀ {vs : List V} {ds : List D}, VRs K w vs ds → ds.all (D.okD 0) = true → vs.all flatV = true ∧ inV v vs = (D.pys ds).any fun z => PyData.eqv z d.py
  | _, _, .nil, _ => ⟨rfl, rfl⟩
  | _, _, .cons (v := u) (vs := vs) (d := e) (ds := ds) b bs, q => by
    obtain ⟨q1, q2⟩ := Bool.and_eq_true_iff.mp (show (D.okD 0 e && List.all ds (D.okD 0)) = true from q)
    obtain ⟨r1, r2⟩ := anyV_py a h bs q2
    refine ⟨by
      show (flatV u && vs.all flatV) = true
      rw [flat_of b q1, r1]
      rfl, ?_⟩
    show (eqV u v || inV v vs) = (PyData.eqv e.py d.py || (D.pys ds).any fun z => PyData.eqv z d.py)
    rw [eqV_py b a q1 h, r2]
theorem ops_notInF (K : PySem.W.Frag) : OpS K (fun x y H Q => rIn K true x y H Q ∨ rNotInD K x y H Q) dNotInF := fun w S H x y d1 d2 Q E R a b h => by
  unfold dNotInF at h
  cases b with
  | tup s bs =>
    obtain ⟨⟨c1, c2⟩, h⟩ := gd_sat h
    obtain ⟨r1, r2⟩ := anyV_py a c1 bs c2
    refine .inl ⟨_, _, rfl, .inr (ex_t R.ex s), flat_of a c1, r1, ?_⟩
    rw [r2]
    exact h w H _ (Wd.le.refl w) R (.bl _)
  | non => exact .inr (ops_notIn K w S H _ _ _ _ Q E R a .non h)
  | bl k => exact .inr (ops_notIn K w S H _ _ _ _ Q E R a (.bl k) h)
  | int k => exact .inr (ops_notIn K w S H _ _ _ _ Q E R a (.int k) h)
  | str k => exact .inr (ops_notIn K w S H _ _ _ _ Q E R a (.str k) h)
  | lst s bs => exact .inr (ops_notIn K w S H _ _ _ _ Q E R a (.lst s bs) h)
  | obj s bs => exact .inr (ops_notIn K w S H _ _ _ _ Q E R a (.obj s bs) h)
  | ptr s => exact .inr (ops_notIn K w S H _ _ _ _ Q E R a (.ptr s) h)
  | scr s => exact .inr (ops_notIn K w S H _ _ _ _ Q E R a (.scr s) h)
theorem ce_notIn (hu : X.A.units + 65 < cLine) (ha : CE X C a ta ma) (hb : CE X C b tb mb) (hm : behindInMarks .NotIn b = false) : CE X C (.Compare a [.NotIn] [b] pos) (tOp (fun x y H Q => rIn C.K true x y H Q ∨ rNotInD C.K x y H Q) ta tb) (e2 dNotInF ma mb) := ce_cmp (by rw [← ha.hK]; exact opOr op_notIn_seq (op_notInD hu)) (ops_notInF _) ha hb hm
/-! ### bools -/
theorem bool_sat {K : PySem.W.Frag} {w : Wd} {v : V} {d : D} {S : Sto} {P : Bool → Sto → Prop} {E : Er → Sto → Prop} (a : VR K w v d) (h : (dBool d S).sat P E) : ∃ k, d = .bl k ∧ v = .bl k ∧ P k S := by
  cases a with
  | bl k => exact ⟨k, rfl, rfl, h⟩
  | _ => exact h.elim
theorem snd_B (ha : SndE C ta ma) : SndT C (tB ta) (tOf ma) := fun e σ w S H Q E R h => by
  have h := sat_then.mp h
  refine ha e σ w S H _ E R (h.imp (fun d1 S1 h1 w1 H1 v1 l1 R1 r1 => ?_) (fun x s hx => hx))
  obtain ⟨k, rfl, rfl, h2⟩ := bool_sat r1 h1
  exact ⟨k, rfl, h2 w1 H1 l1 R1⟩
theorem snd_test (ha : SndE C ta ma) : SndT C (tTest ta) (tOf ma) := snd_B ha
theorem ct_val {e : Expr} (h : CE X C e te ma) (he : ∀ whole, isTrue e X.env whole = (do let v ← whole; standAt e.pos; holding [v] (truthy v)) := by intro _; rfl) : CT X C e (tB te) (tOf ma) := ⟨h.hK, fun y => pt_val (h.pe y) he, snd_B h.sn⟩
theorem snd_notT {t : TT} {m : Env → M Bool} (h : SndT C t m) : SndT C (tNot t) (tNotP m) := fun e σ w S H Q E R q => by
  have q := sat_then.mp q
  exact h e σ w S H _ E R (q.imp (fun b S1 h1 => h1) (fun x s hx => hx))
theorem ct_not {t : TT} {m : Env → M Bool} (h : CT X C a t m) : CT X C (.UnaryOp .Not a pos) (tNot t) (tNotP m) := ⟨h.hK, fun y => pt_not (h.pt y), snd_notT h.sn⟩
theorem snd_andT {t u : TT} {m n : Env → M Bool} (h : SndT C t m) (g : SndT C u n) : SndT C (tAnd t u) (tAndP m n) := fun e σ w S H Q E R q => by
  have q := sat_then.mp q
  refine h e σ w S H _ E R (q.imp (fun k S1 h1 w1 H1 l1 R1 => ?_) (fun x s hx => hx))
  cases k with
  | true => exact g e σ w1 S1 H1 _ (E.up l1) R1 (Out.sat.imp (show (n e S1).sat _ _ from h1) (fun b s z => z.up l1) fun x s z => z.up l1)
  | false => exact h1 w1 H1 l1 R1
theorem snd_orT {t u : TT} {m n : Env → M Bool} (h : SndT C t m) (g : SndT C u n) : SndT C (tOr t u) (tOrP m n) := fun e σ w S H Q E R q => by
  have q := sat_then.mp q
  refine h e σ w S H _ E R (q.imp (fun k S1 h1 w1 H1 l1 R1 => ?_) (fun x s hx => hx))
  cases k with
  | false => exact g e σ w1 S1 H1 _ (E.up l1) R1 (Out.sat.imp (show (n e S1).sat _ _ from h1) (fun b s z => z.up l1) fun x s z => z.up l1)
  | true => exact h1 w1 H1 l1 R1
theorem cw_and {t u : TT} {m n : Env → M Bool} {rest : List Expr} (h : CT X C a t m) (g : CW X C (.BoolOp .And (b :: rest) pos) u n) : CW X C (.BoolOp .And (a :: b :: rest) pos) (tAnd t u) (tAndP m n) := ⟨h.hK, fun y => pw_and (h.pt y) (g.pw y), snd_andT h.sn g.sn⟩
theorem cw_or {t u : TT} {m n : Env → M Bool} {rest : List Expr} (h : CT X C a t m) (g : CW X C (.BoolOp .Or (b :: rest) pos) u n) : CW X C (.BoolOp .Or (a :: b :: rest) pos) (tOr t u) (tOrP m n) := ⟨h.hK, fun y => pw_or (h.pt y) (g.pw y), snd_orT h.sn g.sn⟩
theorem cw_and1 {t : TT} {m : Env → M Bool} (h : CT X C a t m) : CW X C (.BoolOp .And [a] pos) t m := ⟨h.hK, fun y => pw_and1 (h.pt y), h.sn⟩
theorem cw_or1 {t : TT} {m : Env → M Bool} (h : CT X C a t m) : CW X C (.BoolOp .Or [a] pos) t m := ⟨h.hK, fun y => pw_or1 (h.pt y), h.sn⟩
theorem cw_t {t : TT} {m : Env → M Bool} (h : CW X C a t m) : CT X C a t m := ⟨h.hK, fun y => PW.pt (h.pw y), h.sn⟩
theorem ct_cmp {op : CmpOp} {r : R2} {g : D → D → M D} (ho : OpR X (compareOp op) r) (hs : OpS C.K r g) (ha : CE X C a ta ma) (hb : CE X C b tb mb) (hm : behindInMarks op b = false) : CT X C (.Compare a [op] [b] pos) (tTest (tOp r ta tb)) (tOf (e2 g ma mb)) :=
  ⟨ha.hK, fun y => pt_cmpR ho (ha.pe y) (hb.pe y) hm, snd_test (snd_op ha.sn hb.sn hs)⟩
theorem snd_if {t : TT} {m : Env → M Bool} (h : SndT C t m) (ha : SndE C ta ma) (hb : SndE C tb mb) : SndE C (tIf t ta tb) (eIf m ma mb) := fun e σ w S H Q E R q => by
  have q := sat_then.mp q
  refine h e σ w S H _ E R (q.imp (fun k S1 h1 w1 H1 l1 R1 => ?_) (fun x s hx => hx))
  cases k with
  | true => exact ha e σ w1 S1 H1 _ (E.up l1) R1 (Out.sat.imp (show (ma e S1).sat _ _ from h1) (fun b s z => z.up l1) fun x s z => z.up l1)
  | false => exact hb e σ w1 S1 H1 _ (E.up l1) R1 (Out.sat.imp (show (mb e S1).sat _ _ from h1) (fun b s z => z.up l1) fun x s z => z.up l1)
theorem ce_if {t : TT} {m : Env → M Bool} (h : CT X C c t m) (ha : CE X C a ta ma) (hb : CE X C b tb mb) : CE X C (.IfExp c a b pos) (tIf t ta tb) (eIf m ma mb) := ⟨h.hK, fun y => pe_ifExp (h.pt y) (ha.pe y) (hb.pe y), snd_if h.sn ha.sn hb.sn⟩
theorem ce_not (ha : CE X C a ta ma) : CE X C (.UnaryOp .Not a pos) (tNotV ta) (eNot ma) := ⟨ha.hK, fun y => pe_not (ha.pe y), fun e σ w S H Q E R h => by
  have h := sat_then.mp h
  refine ha.sn e σ w S H _ E R (h.imp (fun d1 S1 h1 w1 H1 v1 l1 R1 r1 => ?_) (fun x s hx => hx))
  obtain ⟨k, rfl, rfl, h2⟩ := bool_sat r1 (sat_then.mp h1)
  exact ⟨k, rfl, h2 w1 H1 _ l1 R1 (.bl _)⟩⟩
theorem ce_one {op : BoolOp} (ha : CE X C a ta ma) : CE X C (.BoolOp op [a] pos) ta ma := ⟨ha.hK, fun y => pe_one (ha.pe y), ha.sn⟩
theorem ce_and {rest : List Expr} (ha : CE X C a ta ma) (hb : CE X C (.BoolOp .And (b :: rest) pos) tb mb) : CE X C (.BoolOp .And (a :: b :: rest) pos) (tAndV ta tb) (eAnd ma mb) := ⟨ha.hK, fun y => pe_and (ha.pe y) (hb.pe y), fun e σ w S H Q E R h => by
  have h := sat_then.mp h
  refine ha.sn e σ w S H _ E R (h.imp (fun d1 S1 h1 w1 H1 v1 l1 R1 r1 => ?_) (fun x s hx => hx))
  obtain ⟨k, rfl, rfl, h2⟩ := bool_sat r1 (sat_then.mp h1)
  refine ⟨k, rfl, ?_⟩
  cases k with
  | true => exact hb.sn e σ w1 S1 H1 _ (E.up l1) R1 (Out.sat.imp (show (mb e S1).sat _ _ from h2) (fun b s z => z.up l1) fun x s z => z.up l1)
  | false => exact h2 w1 H1 _ l1 R1 (.bl _)⟩
theorem ce_or {rest : List Expr} (ha : CE X C a ta ma) (hb : CE X C (.BoolOp .Or (b :: rest) pos) tb mb) : CE X C (.BoolOp .Or (a :: b :: rest) pos) (tOrV ta tb) (eOr ma mb) := ⟨ha.hK, fun y => pe_or (ha.pe y) (hb.pe y), fun e σ w S H Q E R h => by
  have h := sat_then.mp h
  refine ha.sn e σ w S H _ E R (h.imp (fun d1 S1 h1 w1 H1 v1 l1 R1 r1 => ?_) (fun x s hx => hx))
  obtain ⟨k, rfl, rfl, h2⟩ := bool_sat r1 (sat_then.mp h1)
  refine ⟨k, rfl, ?_⟩
  cases k with
  | false => exact hb.sn e σ w1 S1 H1 _ (E.up l1) R1 (Out.sat.imp (show (mb e S1).sat _ _ from h2) (fun b s z => z.up l1) fun x s z => z.up l1)
  | true => exact h2 w1 H1 _ l1 R1 (.bl _)⟩
/-- a < b < c -/
def eChain (g g' : D → D → M D) (a b c : Env → M D) (e : Env) : M D := bind (a e) fun x => bind (b e) fun y => bind (g x y) fun z => bind (dBool z) fun k => if k then bind (c e) fun u => g' y u else ret (.bl false)
theorem snd_chain {r r' : R2} {g g' : D → D → M D} (ha : SndE C ta ma) (hb : SndE C tb mb) (hc : SndE C tc mc) (hr : OpS C.K r g) (hr' : OpS C.K r' g') : SndE C (tChain r r' ta tb tc) (eChain g g' ma mb mc) := fun e σ w S H Q E R h => by
  have h := sat_then.mp h
  refine ha e σ w S H _ E R (h.imp (fun d1 S1 h1 w1 H1 v1 l1 R1 r1 => ?_) (fun x s hx => hx))
  have h1 := sat_then.mp h1
  refine hb e σ w1 S1 H1 _ (E.up l1) R1 (h1.imp (fun d2 S2 h2 w2 H2 v2 l2 R2 r2 => ?_) (fun x s hx => hx.up l1))
  have h2 := sat_then.mp h2
  refine hr w2 S2 H2 v1 v2 d1 d2 _ _ R2 (r1.up l2) r2 (h2.imp (fun d3 S3 h3 w3 H3 v3 l3 R3 r3 => ?_) fun _ _ z => z)
  obtain ⟨k, rfl, rfl, h4⟩ := bool_sat r3 (sat_then.mp h3)
  refine ⟨k, rfl, ?_⟩
  have l13 := (l1.trans l2).trans l3
  cases k with
  | false => exact h4 w3 H3 _ l13 R3 (.bl _)
  | true =>
    have h4 := sat_then.mp (show ((mc e S3).then _).sat _ _ from h4)
    refine hc e σ w3 S3 H3 _ (E.up l13) R3 (h4.imp (fun d4 S4 h5 w4 H4 v4 l4 R4 r4 => ?_) (fun x s hx => hx.up l13))
    exact hr' w4 S4 H4 v2 v4 d2 d4 Q _ R4 (r2.up (l3.trans l4)) r4 (h5.imp (fun d s q => q.up (l13.trans l4)) fun _ _ z => z)
theorem ce_chain {op op' : CmpOp} {r r' : R2} {g g' : D → D → M D} (ho : OpR X (compareOp op) r) (ho' : OpR X (compareOp op') r') (hs : OpS C.K r g) (hs' : OpS C.K r' g') (ha : CE X C a ta ma) (hb : CE X C b tb mb) (hc : CE X C c tc mc)
    (hm : lastMarks [op, op'] [b, c] = false := by with_unfolding_all rfl) : CE X C (.Compare a [op, op'] [b, c] pos) (tChain r r' ta tb tc) (eChain g g' ma mb mc) := ⟨ha.hK, fun y => pe_chain ho ho' (ha.pe y) (hb.pe y) (hc.pe y) hm, snd_chain ha.sn hb.sn hc.sn hs hs'⟩
theorem ct_chain {op op' : CmpOp} {r r' : R2} {g g' : D → D → M D} (ho : OpR X (compareOp op) r) (ho' : OpR X (compareOp op') r') (hs : OpS C.K r g) (hs' : OpS C.K r' g') (ha : CE X C a ta ma) (hb : CE X C b tb mb) (hc : CE X C c tc mc)
    (hm : lastMarks [op, op'] [b, c] = false := by with_unfolding_all rfl) : CT X C (.Compare a [op, op'] [b, c] pos) (tTest (tChain r r' ta tb tc)) (tOf (eChain g g' ma mb mc)) := ⟨ha.hK, fun y => pt_chain ho ho' (ha.pe y) (hb.pe y) (hc.pe y) hm, snd_test (snd_chain ha.sn hb.sn hc.sn hs hs')⟩
end
end PM
end
section
set_option Elab.async false
set_option linter.all false
set_option maxRecDepth 100000
namespace PM
open PySem L2 Evl
section
variable {X : Cx} {C : Ct} {ta tb tc te : TE} {a b c : Expr} {ma mb mc : Env → M D} {pos : Pos}
/-! ### arguments, displays -/
theorem ca_nil : CA X C [] tNil aNil := ⟨fun y => pa_nil, fun e σ w S H Q E R h => h w H [] (Wd.le.refl w) R .nil⟩
theorem snd_cons {tr : TA} {mr : Env → M (List D)} (h : SndE C te mc) (g : SndA C tr mr) : SndA C (tCons te tr) (aCons mc mr) := fun e σ w S H Q E R q => by
  have q := sat_then.mp q
  refine h e σ w S H _ E R (q.imp (fun d S1 h1 w1 H1 v1 l1 R1 r1 => ?_) (fun x s hx => hx))
  have h1 := sat_then.mp h1
  refine g e σ w1 S1 H1 _ (E.up l1) R1 (h1.imp (fun ds S2 h2 w2 H2 vs l2 R2 rs => ?_) (fun x s hx => hx.up l1))
  exact h2 w2 H2 _ (l1.trans l2) R2 (.cons (r1.up l2) rs)
theorem ca_cons {e : Expr} {es : List Expr} {tr : TA} {mr : Env → M (List D)} (h : CE X C e te mc) (g : CA X C es tr mr) (hs : starEach (e :: es) X.env = (false, eval e X.env) :: starEach es X.env := by rfl) : CA X C (e :: es) (tCons te tr) (aCons mc mr) :=
  ⟨fun y => pa_cons (h.pe y) (g.pa y) hs, snd_cons h.sn g.sn⟩
/-- a list that is read, as it stands -/
def rdL (S : Sto) : D → Option (List D)
  | .lst ds => some ds
  | .scr ns => some (ns.map .int)
  | .ptr n => match S[n]? with
    | some (.lst ds) => some ds
    | _ => none
  | _ => none
/-- a list or a tuple -/
def rdQ (S : Sto) : D → Option (List D)
  | .tup ds => some ds
  | d => rdL S d
theorem rdL_ok {K : PySem.W.Frag} {w : Wd} {S : Sto} {H : Hp} {v : V} {d : D} {ds : List D} (R : Rel K w S H) (a : VR K w v d) (h : rdL S d = some ds) : ∃ p xs, v = .ref p ∧ SqL K H p xs ∧ VRs K w xs ds ∧ Rd H p (.lst xs) := by
  cases a with
  | lst s as =>
    cases h
    exact ⟨_, _, rfl, .inl (.inl (R.ex _ _ s)), as, .inl (R.ex _ _ s)⟩
  | @scr p ns s =>
    cases h
    exact ⟨_, _, rfl, .inl (ex_rd R.ex s), VRs.ints ns, ex_rd R.ex s⟩
  | @ptr p n hb =>
    cases q : S[n]? with
    | none =>
      simp [rdL, q] at h
    | some cc =>
      cases cc with
      | lst es =>
        simp [rdL, q] at h
        subst h
        obtain ⟨_, xs, hx, ax⟩ := R.cell _ _ _ hb q rfl
        exact ⟨_, _, rfl, .inl (.inl hx), ax, .inl hx⟩
      | _ => simp [rdL, q] at h
  | _ => cases h
theorem rdQ_ok {K : PySem.W.Frag} {w : Wd} {S : Sto} {H : Hp} {v : V} {d : D} {ds : List D} (R : Rel K w S H) (a : VR K w v d) (h : rdQ S d = some ds) : ∃ p xs, v = .ref p ∧ (SqL K H p xs ∨ SqT K H p xs) ∧ VRs K w xs ds := by
  cases a with
  | tup s as =>
    cases h
    exact ⟨_, _, rfl, .inr (ex_t R.ex s), as⟩
  | non => cases h
  | bl b => cases h
  | int b => cases h
  | str b => cases h
  | obj s as => cases h
  | lst s as =>
    obtain ⟨p, xs, h1, h2, h3, _⟩ := rdL_ok R (.lst s as) h
    exact ⟨p, xs, h1, .inl h2, h3⟩
  | scr s =>
    obtain ⟨p, xs, h1, h2, h3, _⟩ := rdL_ok R (.scr s) h
    exact ⟨p, xs, h1, .inl h2, h3⟩
  | ptr s =>
    obtain ⟨p, xs, h1, h2, h3, _⟩ := rdL_ok R (.ptr s) h
    exact ⟨p, xs, h1, .inl h2, h3⟩
def aStar (a : Env → M D) (r : Env → M (List D)) (e : Env) : M (List D) := bind (a e) fun d => fun S => match rdQ S d with
  | some xs => (bind (r e) fun ds => ret (xs ++ ds)) S
  | none => .no
theorem ca_star {e : Expr} {es : List Expr} {p : Pos} {tr : TA} {mr : Env → M (List D)} (h : CE X C e te mc) (g : CA X C es tr mr) (hs : starEach (.Starred e p :: es) X.env = (true, eval e X.env) :: starEach es X.env := by rfl) : CA X C (.Starred e p :: es) (StX.tStar C.K te tr) (aStar mc mr) :=
  ⟨fun y => by rw [← h.hK]; exact StX.pa_star (h.pe y) (g.pa y) hs, fun e σ w S H Q E R q => by
    have q := sat_then.mp q
    refine h.sn e σ w S H _ E R (q.imp (fun d S1 h1 w1 H1 v1 l1 R1 r1 => ?_) (fun x s hx => hx))
    cases z : rdQ S1 d with
    | none =>
      rw [z] at h1
      exact h1.elim
    | some xs =>
      rw [z] at h1
      obtain ⟨p, vs, e1, e2, e3⟩ := rdQ_ok R1 r1 z
      refine ⟨p, vs, e1, e2.symm, ?_⟩
      have h1 := sat_then.mp (show ((mr e S1).then _).sat _ _ from h1)
      refine g.sn e σ w1 S1 H1 _ (E.up l1) R1 (h1.imp (fun ds S2 h2 w2 H2 us l2 R2 rs => ?_) (fun x s hx => hx.up l1))
      exact h2 w2 H2 _ (l1.trans l2) R2 ((e3.up l2).app rs)⟩
theorem snd_tup {tr : TA} {mr : Env → M (List D)} (g : SndA C tr mr) : SndE C (tTup tr) (eA dTup mr) := fun e σ w S H Q E R q => by
  have q := sat_then.mp q
  refine g e σ w S H _ E R (q.imp (fun ds S1 h1 w1 H1 vs l1 R1 rs => ?_) (fun x s hx => hx))
  obtain ⟨c, h1⟩ := gd_sat h1
  refine ⟨sz_lim (by rw [rs.len]; exact c), fun p hp => ?_⟩
  obtain ⟨le, R'⟩ := R1.plus (o := .tup vs) hp
  exact h1 _ _ _ (l1.trans le) R' (.tup (st_of upd_same) (rs.up le))
theorem ce_tup {es : List Expr} {tr : TA} {mr : Env → M (List D)} {x1} (g : CA X C es tr mr) (hK : X.K = C.K := by rfl) : CE X C (.Tuple es x1 pos) (tTup tr) (eA dTup mr) := ⟨hK, fun y => pe_tup (g.pa y), snd_tup g.sn⟩
theorem ce_lst {es : List Expr} {tr : TA} {mr : Env → M (List D)} (g : CA X C es tr mr) (hK : X.K = C.K := by rfl) : CE X C (.List es pos) (tLst tr) (eA dLst mr) := ⟨hK, fun y => pe_lst (g.pa y), fun e σ w S H Q E R q => by
  have q := sat_then.mp q
  refine g.sn e σ w S H _ E R (q.imp (fun ds S1 h1 w1 H1 vs l1 R1 rs => ?_) (fun x s hx => hx))
  obtain ⟨c, h1⟩ := gd_sat h1
  refine ⟨sz_lim (by rw [rs.len]; exact c), fun p hp => ?_⟩
  obtain ⟨le, R'⟩ := R1.plus (o := .lst vs) hp
  exact h1 _ _ _ (l1.trans le) R' (.lst upd_same (rs.up le))⟩
/-- [..], a list that will change -/
theorem ce_lstC {es : List Expr} {tr : TA} {mr : Env → M (List D)} (g : CA X C es tr mr) (hK : X.K = C.K := by rfl) : CE X C (.List es pos) (tLst tr) (eA dNew mr) := ⟨hK, fun y => pe_lst (g.pa y), fun e σ w S H Q E R q => by
  have q := sat_then.mp q
  refine g.sn e σ w S H _ E R (q.imp (fun ds S1 h1 w1 H1 vs l1 R1 rs => ?_) (fun x s hx => hx))
  unfold dNew at h1
  by_cases c : ds.length ≤ lim
  · rw [if_pos c] at h1
    refine ⟨sz_lim (by rw [rs.len]; exact c), fun p hp => ?_⟩
    have R' := R1.newcell (o := .lst vs) (c := .lst ds) hp ⟨vs, upd_same, rs⟩
    exact h1 _ _ _ (l1.trans Wd.le_cell) R' (.ptr (cell_at p R1))
  · rw [if_neg c] at h1
    exact h1.elim⟩
/-! ### parts -/
def dIx (x y : D) : M D := fun S => match y with
  | .int i => match rdQ S x with
    | some ds => match atI ds i with
      | some d => .ok d S
      | none => .no
    | none => .no
  | _ => .no
theorem atI_of {α β : Type} {xs : List α} {ys : List β} {i : Int} (h : xs.length = ys.length) {d : β} (e : atI ys i = some d) : ∃ j : Nat, ys[j]? = some d ∧ ∀ v, xs[j]? = some v → atI xs i = some v := WD.atI_len h e
theorem ops_ix (K : PySem.W.Frag) : OpS K (fun x y H Q => rIxT K x y H Q ∨ rIxL K x y H Q) dIx := fun w S H x y d1 d2 Q E R a b h => by
  cases b with
  | int i =>
    cases z : rdQ S d1 with
    | none =>
      simp only [dIx, z] at h
      exact h.elim
    | some ds =>
      simp only [dIx, z] at h
      cases z2 : atI ds i with
      | none =>
        rw [z2] at h
        exact h.elim
      | some d =>
        rw [z2] at h
        obtain ⟨p, xs, rfl, e2, e3⟩ := rdQ_ok R a z
        obtain ⟨j, j1, j2⟩ := atI_of e3.len z2
        obtain ⟨v, v1, v2⟩ := e3.get j1
        rcases e2 with e2 | e2
        · exact .inr ⟨p, xs, i, v, rfl, rfl, e2, j2 v v1, h w H v (Wd.le.refl w) R v2⟩
        · exact .inl ⟨p, xs, i, v, rfl, rfl, e2, j2 v v1, h w H v (Wd.le.refl w) R v2⟩
  | _ =>
    simp only [dIx] at h
    exact h.elim
theorem ixOr {r1 r2 : R2} (h1 : IxR X r1) (h2 : IxR X r2) : IxR X (fun x y H Q => r1 x y H Q ∨ r2 x y H Q) := fun va sl pins s σ H x y v u Q I rx ry h hs => by
  rcases h with h | h
  · exact h1 va sl pins s σ H x y v u Q I rx ry h hs
  · exact h2 va sl pins s σ H x y v u Q I rx ry h hs
theorem ce_ix (ha : CE X C a ta ma) (hb : CE X C b tb mb) (hs : PlainIx b := by exact fun _ _ => rfl) : CE X C (.Subscript a b pos) (tOp (fun x y H Q => rIxT C.K x y H Q ∨ rIxL C.K x y H Q) ta tb) (e2 dIx ma mb) :=
  ⟨ha.hK, fun y => pe_ix (by rw [← ha.hK]; exact ixOr ix_tup ix_list) (ha.pe y) (hb.pe y) hs, snd_op ha.sn hb.sn (ops_ix _)⟩
def oNone (_ : Env) : M (Option Int) := ret none
def oSome (a : Env → M D) (e : Env) : M (Option Int) := bind (a e) fun d => match d with
  | .int i => ret (some i)
  | _ => stuck
theorem co_none : COp X C none tNoPart oNone := ⟨fun y => po_none, fun e σ w S H Q E R h => h w H (Wd.le.refl w) R⟩
theorem co_some (ha : CE X C a ta ma) : COp X C (some a) (tPart ta) (oSome ma) := ⟨fun y => po_some (ha.pe y), fun e σ w S H Q E R h => by
  have h := sat_then.mp h
  refine ha.sn e σ w S H _ E R (h.imp (fun d1 S1 h1 w1 H1 v1 l1 R1 r1 => ?_) (fun x s hx => hx))
  cases r1 with
  | int i => exact ⟨i, rfl, h1 w1 H1 l1 R1⟩
  | _ => exact h1.elim⟩
def cutD (ds : List D) (lo hi : Option Int) : List D := (ds.drop (HT.sIx ds.length 0 lo)).take (HT.sIx ds.length ds.length hi - HT.sIx ds.length 0 lo)
theorem cutR {K : PySem.W.Frag} {w : Wd} {lo hi : Option Int} {xs : List V} {ds : List D} (a : VRs K w xs ds) : VRs K w (cutV xs lo hi) (cutD ds lo hi) := by
  unfold cutV cutD
  rw [a.len]
  exact (a.drop _).take _
def dSl (x : D) (lo hi : Option Int) : M D := fun S => match x with
  | .tup ds => .ok (.tup (cutD ds lo hi)) S
  | _ => match rdL S x with
    | some ds => .ok (.lst (cutD ds lo hi)) S
    | none => .no
def eSl (a : Env → M D) (lo hi : Env → M (Option Int)) (e : Env) : M D := bind (a e) fun x => bind (lo e) fun l => bind (hi e) fun h => dSl x l h
theorem slOr {r1 r2 : V → Option Int → Option Int → Hp → VK → Prop} (h1 : SlR X r1) (h2 : SlR X r2) : SlR X (fun x l u H Q => r1 x l u H Q ∨ r2 x l u H Q) := fun pins s σ H x v vl vu lo hi sl Q I rx hs p1 p2 h => by
  rcases h with h | h
  · exact h1 pins s σ H x v vl vu lo hi sl Q I rx hs p1 p2 h
  · exact h2 pins s σ H x v vl vu lo hi sl Q I rx hs p1 p2 h
theorem snd_sl {tl th : TO} {ml mh : Env → M (Option Int)} (ha : SndE C ta ma) (hl : SndO C tl ml) (hh : SndO C th mh) : SndE C (tSl (fun x l u H Q => rSlA C.K x l u H Q ∨ rSlL C.K x l u H Q) ta tl th) (eSl ma ml mh) := fun e σ w S H Q E R h => by
  have h := sat_then.mp h
  refine ha e σ w S H _ E R (h.imp (fun d1 S1 h1 w1 H1 v1 l1 R1 r1 => ?_) (fun x s hx => hx))
  have h1 := sat_then.mp h1
  refine hl e σ w1 S1 H1 _ (E.up l1) R1 (h1.imp (fun lo S2 h2 w2 H2 l2 R2 => ?_) (fun x s hx => hx.up l1))
  have h2 := sat_then.mp h2
  refine hh e σ w2 S2 H2 _ (E.up (l1.trans l2)) R2 (h2.imp (fun hi S3 h3 w3 H3 l3 R3 => ?_) (fun x s hx => hx.up (l1.trans l2)))
  have l13 := (l1.trans l2).trans l3
  have r3 := r1.up (l2.trans l3)
  have lists : ∀ ds, rdL S3 d1 = some ds → (Out.ok (D.lst (cutD ds lo hi)) S3).sat (PV C.K w Q) (PX C w σ) → rSlL C.K v1 lo hi H3 Q := fun ds z h => by
    obtain ⟨p, xs, rfl, e2, e3, _⟩ := rdL_ok R3 r3 z
    refine ⟨p, xs, rfl, e2, fun q hq => ?_⟩
    obtain ⟨le, R'⟩ := R3.plus (o := .lst (cutV xs lo hi)) hq
    exact h _ _ _ (l13.trans le) R' (.lst upd_same ((cutR e3).up le))
  by_cases ht : ∃ ds, d1 = .tup ds
  · obtain ⟨ds, rfl⟩ := ht
    cases r3 with
    | @tup p xs _ s as =>
      refine .inl ⟨p, xs, rfl, ex_t R3.ex s, fun z => ?_, fun _ q hq => ?_⟩
      · refine h3 w3 H3 _ l13 R3 ?_
        have : cutD ds lo hi = ds := by
          unfold cutD
          rw [← as.len, z.1, z.2, List.drop_zero, Nat.sub_zero, as.len, List.take_length]
        rw [this]
        exact .tup s as
      · obtain ⟨le, R'⟩ := R3.plus (o := .tup (cutV xs lo hi)) hq
        exact h3 _ _ _ (l13.trans le) R' (.tup (st_of upd_same) ((cutR as).up le))
  · have e1 : dSl d1 lo hi S3 = match rdL S3 d1 with
      | some ds => .ok (.lst (cutD ds lo hi)) S3
      | none => .no := by
      cases d1 <;> first | rfl | exact absurd ⟨_, rfl⟩ ht
    rw [e1] at h3
    cases z : rdL S3 d1 with
    | none =>
      rw [z] at h3
      exact h3.elim
    | some ds =>
      rw [z] at h3
      exact .inr (lists ds z h3)
theorem ce_sl {lo hi : Option Expr} {tl th : TO} {ml mh : Env → M (Option Int)} {p2 : Pos} (ha : CE X C a ta ma) (hl : COp X C lo tl ml) (hh : COp X C hi th mh) :
    CE X C (.Subscript a (.Slice lo hi none p2) pos) (tSl (fun x l u H Q => rSlA C.K x l u H Q ∨ rSlL C.K x l u H Q) ta tl th) (eSl ma ml mh) := ⟨ha.hK, fun y => pe_slice (by rw [← ha.hK]; exact slOr sl_tupA sl_list) (ha.pe y) (hl.po y) (hh.po y), snd_sl ha.sn hl.sn hh.sn⟩
/-! ### attributes -/
/-- what is known of own classes' attributes: no class attribute of that name -/
def dFld (f : Str) (x : D) : M D := fun S => match x with
  | .obj _ fs => match fs.lookup f with
    | some d => .ok d S
    | none => .no
  | .ptr n => match S[n]? with
    | some (.obj _ fs) => match fs.lookup f with
      | some d => .ok d S
      | none => .no
    | _ => .no
  | _ => .no
/-- the classes whose instances have the attribute f -/
def FldOk (K : PySem.W.Frag) (f : Str) (cs : List Str) : Prop := ∀ c ∈ cs, Cls K (He.ga K c) ∧ NoAttr K (He.ga K c) f
def dFldC (cs : List Str) (f : Str) (x : D) : M D := fun S => match x with
  | .obj c fs => if cs.contains c then match fs.lookup f with
    | some d => .ok d S
    | none => .no else .no
  | .ptr n => match S[n]? with
    | some (.obj c fs) => if cs.contains c then match fs.lookup f with
      | some d => .ok d S
      | none => .no else .no
    | _ => .no
  | _ => .no
theorem ce_fld {f : Str} (cs : List Str) (ok : FldOk C.K f cs) (ha : CE X C a ta ma) (hb : attributeBase a f X.env (eval a X.env) = eval a X.env := by rfl) : CE X C (.Attribute a f pos) (tFld C.K ta f) (e1 (dFldC cs f) ma) := ⟨ha.hK, fun y => by rw [← ha.hK]; exact pe_fld (ha.pe y) hb, fun e σ w S H Q E R h => by
  have h := sat_then.mp h
  refine ha.sn e σ w S H _ E R (h.imp (fun d1 S1 h1 w1 H1 v1 l1 R1 r1 => ?_) (fun x s hx => hx))
  cases r1 with
  | @obj p dx c fvs fs s as =>
    simp only [dFldC] at h1
    by_cases hc : cs.contains c = true
    · rw [if_pos hc] at h1
      obtain ⟨o1, o2⟩ := ok c (List.contains_iff_mem.mp hc)
      cases z : fs.lookup f with
      | none =>
        rw [z] at h1
        exact h1.elim
      | some d =>
        rw [z] at h1
        obtain ⟨v, v1, v2⟩ := as.look z
        exact ⟨p, _, dx, fvs, v, rfl, R1.ex _ _ s, o1, o2, v1, h1 w1 H1 v l1 R1 v2⟩
    · rw [if_neg hc] at h1
      exact h1.elim
  | @ptr p n hb =>
    simp only [dFldC] at h1
    cases q : S1[n]? with
    | none =>
      rw [q] at h1
      exact h1.elim
    | some cc =>
      rw [q] at h1
      cases cc with
      | obj c fs =>
        simp only at h1
        by_cases hc : cs.contains c = true
        · rw [if_pos hc] at h1
          obtain ⟨o1, o2⟩ := ok c (List.contains_iff_mem.mp hc)
          cases z : fs.lookup f with
          | none =>
            rw [z] at h1
            exact h1.elim
          | some d =>
            rw [z] at h1
            obtain ⟨_, dx, fvs, hx, as⟩ := R1.cell _ _ _ hb q rfl
            obtain ⟨v, v1, v2⟩ := as.look z
            exact ⟨p, _, dx, fvs, v, rfl, hx, o1, o2, v1, h1 w1 H1 v l1 R1 v2⟩
        · rw [if_neg hc] at h1
          exact h1.elim
      | _ => exact h1.elim
  | _ => exact h1.elim⟩
/-! ### calls of defs of the text -/
/-- the promise of a def that does what f says -/
def spM (K : PySem.W.Frag) (f : List D → M D) : Sp := fun vs H Q E => ∃ (w : Wd) (ds : List D) (S : Sto), Rel K w S H ∧ VRs K w vs ds ∧
  (f ds S).sat (PV K w Q) (fun x S' => ∀ (w' : Wd) (H' : Hp) (c : Value) (dd : Option Addr), w.le w' → Rel K w' S' H' → ErR K w' x c dd → E c dd H')
theorem ce_call {e : Expr} {es : List Expr} {tr : TA} {mr : Env → M (List D)} {x : Str} {p : Pos} {k : Nat} {f : Addr} {ps : List Str} {g : List D → M D} (F : WD.FnG X.prog X.w X.K X.mg X.base k f ps (spM X.K g)) (hr : Room k X.A) (hg : Gl X x) (hm : X.mg x = some (.ref f)) (ha : CA X C (e :: es) tr mr)
    (hdb : (x == ("__debug__" : Str)) = false := by decide) (hst : starEach (e :: es) X.env = (false, eval e X.env) :: starEach es X.env := by rfl) (hpl : (backTo pos (starEach es X.env)).any (·.1) = false := by rfl) (hK : X.K = C.K := by rfl) :
    CE X C (.Call (.Name x p) (e :: es) [] pos) (tCallS (spM C.K g) (WE C.W) tr) (eA g mr) := ⟨hK, fun y => by rw [← hK]; exact WD.pe_callSG F hr hg hm y.tk (ha.pa y) hdb hst hpl, fun e σ w S H Q E R h => by
  have h := sat_then.mp h
  refine ha.sn e σ w S H _ E R (h.imp (fun ds S1 h1 w1 H1 vs l1 R1 rs => ?_) (fun x s hx => hx))
  exact ⟨w1, ds, S1, R1, rs, Out.sat.imp (show (g ds S1).sat _ _ from h1) (fun d s z => z.up l1) fun x s z => z.up l1⟩⟩
end
end PM
end
section
set_option Elab.async false
set_option linter.all false
set_option maxRecDepth 100000
set_option maxHeartbeats 4000000
/-! enumerate(t) of a tuple -/
namespace EnT
open PySem PySem.Spec PyProof.Rows L2
/-- what enumerate makes of anything that can be begun -/
theorem new_enum {v : Value} {o : Obj} {B : Heap → Prop} (b : Begins v o B) : Meets (Builtin.«enumerate.__new__» ⟨[.type "enumerate", v], []⟩) (fun _ R s => B s.heap ∧
    R (.ok (.ret (.ref (s.heap.push o).objs.size))) { s with heap := (s.heap.push o).push { cls := .type "enumerate", data := .fields #[.none, .bool false, .ref s.heap.objs.size, rawInt 0, .none, .none] } }) := by
  refine .of_wp fun prog w A R s h => ?_
  rcases s with ⟨hp, g, d, tk, os⟩
  obtain ⟨hb, hr⟩ := h
  have isub := sub_enumerate
  have it : ∀ {A' : Around} {E : Value → Shared → Prop} {Q : Value → Shared → Prop}, Q (.ref hp.objs.size) ⟨hp.push o, g, d, tk, os⟩ → wpAny (model prog w) A' (pyIter v) Q E ⟨hp, g, d, tk, os⟩ := fun q => b.iter prog w _ _ ⟨hp, g, d, tk, os⟩ _ hb q
  wp_walk using it
  refine wpAny_stack_any fun st => wpAny_pure ?_
  split
  · rename_i c _ _ _ _ _
    cases (c == Value.type "enumerate") <;> (wp_walk using it; exact ⟨_, rfl, hr⟩)
  · wp_walk using it
    exact ⟨_, rfl, hr⟩
section
variable {prog : Program} {w : World} {A : Around} {E : Value → Shared → Prop} {s : Shared}
/-- enumerate(t) called: two new objects -/
theorem call_enum {l : Addr} {us : Array Value} {Q : Value → Shared → Prop} (hl : s.heap.IsTuple l us)
    (h : ∀ h', IsEnum h' (s.heap.objs.size + 1) s.heap.objs.size 0 .none → h'.IsTupleIter s.heap.objs.size l 0 → (∀ b o, s.heap.get? b = some o → h'.get? b = some o) → Q (.ref (s.heap.objs.size + 1)) { s with heap := h' }) :
    wpAny (model prog w) A (call (.type "enumerate") [.ref l]) Q E s := by
  have b := begins_tuple l us
  refine callType_new F.called_enumerate (by decide) (F.typeCall_enumerate_1 _) (F.newCall_enumerate_1 _) (fun obj => F.args_object_init_2 obj _) F.entry_enumerate_new (new_enum b) ⟨hl, ?_⟩
  generalize ho : ({ cls := .type "tuple_iterator", data := .fields #[.ref l, .int 0 0] } : Obj) = io
  have fr : io.isFreed = false := by rw [← ho]; rfl
  have z1 : (s.heap.push io).objs.size = s.heap.objs.size + 1 := Heap.size_push ..
  generalize hen : ({ cls := .type "enumerate", data := .fields #[.none, .bool false, .ref s.heap.objs.size, rawInt 0, .none, .none] } : Obj) = eo
  have fe : eo.isFreed = false := by rw [← hen]; rfl
  have ge : ((s.heap.push io).push eo).get? (s.heap.objs.size + 1) = some eo := by rw [← z1]; exact Heap.get?_push_size _ fe
  have gi : ((s.heap.push io).push eo).get? s.heap.objs.size = some io := Heap.get?_push_of_some _ (Heap.get?_push_size _ fr)
  show _ ∧ _
  rw [z1]
  refine ⟨⟨_, ge, by rw [← hen]⟩, h _ (by rw [← hen] at ge ⊢; exact ge) ⟨io, gi, by rw [← ho], by rw [← ho]; rfl⟩ fun b o e => Heap.get?_push_of_some _ (Heap.get?_push_of_some _ e)⟩
end
/-- the tuple at a, its items with their places in new pairs -/
def IteT (K : PySem.W.Frag) (a : Addr) : It :=
  ⟨fun i H => ∃ (xs : List V) (x : V), SqT K H a xs ∧ xs[i]? = some x, fun i H v H' => ∃ p x, v = .ref p ∧ H p = none ∧ H' = upd H p (.tup [.int (i : Nat), x]) ∧ ∀ xs, SqT K H a xs → xs[i]? = some x, fun i H => ∃ xs : List V, SqT K H a xs ∧ xs.length ≤ i⟩
/-- behind the last item nothing comes -/
theorem over {prog : Program} {w : World} {A : Around} {it a : Addr} {us : Array Value} {n : Nat} (hh : A.handled = none) (hn : us[n]? = none) :
    Draws prog w A it [it, a] n (fun _ _ => False) (fun i h => i = n ∧ h.IsTupleIter it a n ∧ h.IsTuple a us) where
  live := fun i h st => by
    obtain ⟨_, ⟨o, ho, _⟩, _⟩ := st
    exact ⟨o, ho⟩
  frame := fun i h h' st k => ⟨st.1, st.2.1.at fun o e => k it (by simp) o e, st.2.2.at fun o e => k a (by simp) o e⟩
  item := fun i s Q E hi st _ => by
    have := st.1
    omega
  done := fun s Q E st hE => wpAny_nextOf_tuple_end hh st.2.1 st.2.2 hn hE
theorem turn_enumT {P : Program} {w : World} {K : PySem.W.Frag} {elts : List Expr} {kk : Nat} {tpos : Pos} {a e it : Addr} (hae : a ≠ e) (hai : a ≠ it) (hne : e ≠ it) :
    Turn P w K (.Tuple elts kk tpos) (IteT K a) [e, it] e (fun i h => (∃ old, IsEnum h e it ((i : Nat) : Int) old) ∧ h.IsTupleIter it a i) where
  mem := List.mem_cons_self
  obj := by
    rintro i h ⟨⟨old, he⟩, ⟨o, ho, hc, hd⟩⟩ b hb
    rcases List.mem_cons.mp hb with rfl | hb
    · exact ⟨_, he, fun v q => nomatch q⟩
    · exact ⟨o, by rw [List.mem_singleton.mp hb]; exact ho, fun v q => by rw [hd] at q; cases q⟩
  keep := by
    rintro i h h' ⟨⟨old, he⟩, hi⟩ k
    exact ⟨⟨old, k e (by simp) _ he⟩, hi.at fun o q => k it (by simp) o q⟩
  item := by
    rintro X rfl rfl rfl hc i pins s σ H E I hf ⟨⟨old, he⟩, hit⟩ ⟨xs, x, hq, hx⟩
    obtain ⟨its, rv, p, hz⟩ := I.tuple hq
    obtain ⟨u, hu, ru⟩ := rv.get hx
    have le : e < s.heap.objs.size := Heap.lt_size he
    have li : it < s.heap.objs.size := by obtain ⟨_, q, _⟩ := hit; exact Heap.lt_size q
    have hh : X.A.in1.handled = none := by simp [I.ok.hd hc]
    have il : i < its.toArray.size := by
      have := (List.getElem?_eq_some_iff.mp hu).1
      simpa using this
    refine wpAny_pyNext_enum_itemD (Draws.tuple hh it a hai its.toArray) he ⟨hit, p⟩ il hne (fun z => by
      rcases List.mem_cons.mp z with z | z
      · exact hne z
      · exact hae (List.mem_singleton.mp z).symm) fun x' h' tk hx' ho st' hT hsz hk => ?_
    have ex : x' = u := by
      have hx2 : its.toArray[i]? = some x' := hx'
      rw [List.getElem?_toArray, hu] at hx2
      exact (Option.some.inj hx2).symm
    subst ex
    refine ⟨_, rfl, wpAny_letOwnedTupleGo_enum (s := { s with heap := h', toks := tk + 1 }) ho fun h2 he2 sb => ?_⟩
    have nT : s.heap.objs.size ≠ e := Nat.ne_of_gt le
    have nI : s.heap.objs.size ≠ it := Nat.ne_of_gt li
    have hT2 : h2.get? s.heap.objs.size = some { cls := .type "tuple", data := .seq #[.int i tk, x'] } := (sb.2 _ nT).trans hT
    have new : ObjOk X.prog X.w (upd H s.heap.objs.size (.tup [.int (i : Nat), x])) h2 s.heap.objs.size (.tup [.int (i : Nat), x]) := ⟨by show 2 ≤ sizeLine; rw [sizeLine_eq]; decide, [.int i tk, x'], .cons ⟨_, rfl⟩ (.cons ru .nil), ⟨_, hT2, rfl, _, rfl⟩⟩
    have J : Inv X pins σ (upd H s.heap.objs.size (.tup [.int (i : Nat), x])) { s with heap := h2, toks := tk + 1 } :=
      I.turnedNew (ch := [e, it]) (fun b ob hb q => (sb.2 b (fun z => hb (by simp [z]))).trans (hk b ob (fun z => hb (by simp [z])) (fun z => hb (by simp [z])) q)) hf (Nat.le_refl _) new
    refine ⟨.ref s.heap.objs.size, _, J, rfl, ⟨_, x, rfl, I.hok.fresh (Nat.le_refl _), rfl, fun ys hy => by rw [I.tuple_inj hy hq]; exact hx⟩, ⟨⟨x', by rw [show ((i + 1 : Nat) : Int) = (i : Int) + 1 by omega]; exact he2⟩, st'.1.at fun o q => (sb.2 it hne.symm).trans q⟩, fun b hb => ?_⟩
    have lb : b < s.heap.objs.size := by
      rcases List.mem_cons.mp hb with z | z
      · rw [z]; exact le
      · rw [List.mem_singleton.mp z]; exact li
    rw [upd_ne (Nat.ne_of_lt lb)]
    exact (hf b hb).1
  done := by
    rintro X rfl rfl rfl hc i pins s σ H E I hf ⟨⟨old, he⟩, hit⟩ ⟨xs, hq, hx⟩
    obtain ⟨its, rv, p, hz⟩ := I.tuple hq
    have hh : X.A.in1.handled = none := by simp [I.ok.hd hc]
    have il : its.toArray[i]? = none := by
      have y := rv.length
      rw [Array.getElem?_eq_none]
      simpa using (show its.length ≤ i by omega)
    obtain ⟨f0, f1, f2, f3, f4, f5⟩ := hf it (by simp)
    exact wpAny_pyNext_enum_endD (over hh il) he ⟨rfl, hit, p⟩ fun h' eb => ⟨rfl, I.turned (t' := s.toks) (fun b o hb q => eb b o hb q) f0 f1 f3 f4 f5⟩
  self := fun A i s Q E st h => by
    obtain ⟨⟨_, he⟩, _⟩ := st
    exact wpAny_pyIter_enum he h
def iEnumT (K : PySem.W.Frag) (ta : TA) : TI := fun σ H R => ta σ H fun vs H1 => ∃ a xs, vs = [.ref a] ∧ SqT K H1 a xs ∧ R (IteT K a) H1
theorem pi_enumT {X : Cx} {e : Expr} {ta : TA} {p pos tpos : Pos} {elts : List Expr} {kk : Nat} (hg : Gl X "enumerate") (hm : X.mg "enumerate" = none) (ha : PA X [e] ta) (hst : starEach [e] X.env = [(false, eval e X.env)] := by rfl) :
    PI X (.Tuple elts kk tpos) (.Call (.Name "enumerate" p) [e] [] pos) (iEnumT X.K ta) := by
  refine ⟨fun pins s σ H R I h => Call_ (ld_blt I hg hm boot_enumerate (PyProof.Rows.callWith_type1 (thn (ha.run pos pins s σ H _ I h) fun us s1 ⟨vs, H1, I1, r1, q1⟩ => ?_) hst rfl))⟩
  obtain ⟨a, xs, rfl, hq, q⟩ := q1
  obtain ⟨u, rfl, ru⟩ := r1.one
  obtain rfl : u = Value.ref a := ru
  obtain ⟨its, rv, pt, hz⟩ := I1.tuple hq
  have la : a < s1.heap.objs.size := by
    obtain ⟨o, ho, _⟩ := id pt
    exact Heap.lt_size ho
  refine call_enum pt fun h' he hit hk => wpAny_pyIter_enum he ?_
  have I2 : Inv X pins σ H1 { s1 with heap := h' } := I1.kept (t' := s1.toks) hk
  refine ⟨s1.heap.objs.size + 1, [s1.heap.objs.size + 1, s1.heap.objs.size], _, _, H1, rfl, I2, turn_enumT (a := a) (Nat.ne_of_lt (Nat.lt_succ_of_lt la)) (Nat.ne_of_lt la) (Nat.succ_ne_self _), ⟨⟨.none, he⟩, hit⟩, fun b hb => ?_, q⟩
  have lb : s1.heap.objs.size ≤ b := by
    rcases List.mem_cons.mp hb with z | z
    · rw [z]; exact Nat.le_succ _
    · rw [List.mem_singleton.mp z]; exact Nat.le_refl _
  exact I1.fpOk lb (I1.hok.fresh lb)
end EnT
namespace WD
open PySem PySem.Spec PyProof.Rows L2 Evl
section
variable {K : PySem.W.Frag} {σ : L2.St} {H : Hp} {ta : TE} {ds : List D}
theorem ei_enumT {L : List Addr} (h : EvD K ta σ H (.tup ds)) (hf : D.lfs ds = true) : EvI K (EnT.iEnumT K (tCons ta tNil)) σ L H ds.length (fun i => .tup [.int (i : Int), ds.getD i .non]) := fun R r =>
  h H (Ex.refl H) _ fun v H2 e2 i2 => by
    obtain ⟨p, xs, rfl, hp, a⟩ := Is.tup_inv i2
    refine ⟨p, xs, rfl, hp, r (EnT.IteT K p) H2 (fun H4 => SqT K H4 p xs ∧ All K H4 xs ds) e2 ⟨⟨hp, a⟩, fun L' _ H4 H5 q m => tup_gt q.1 q.2 m.2 hf, fun H4 q i hi => ?_, fun H4 q => ⟨xs, q.1, by rw [q.2.len]; exact Nat.le_refl _⟩⟩⟩
    obtain ⟨d, hd⟩ : ∃ d, ds[i]? = some d := ⟨_, List.getElem?_eq_getElem hi⟩
    obtain ⟨v, hv, b⟩ := q.2.get hd
    refine ⟨⟨xs, v, q.1, hv⟩, fun x H5 hy => ?_⟩
    obtain ⟨T, x1, rfl, nT, rfl, f1⟩ := hy
    have g1 := f1 xs q.1
    rw [hv] at g1
    cases g1
    rw [getD_some hd]
    exact ⟨Ex.new nT, .tup (st_of upd_same) (.cons (.int _) (.cons (b.ex (Ex.new nT)) .nil))⟩
end
end WD
end
section
set_option Elab.async false
set_option linter.all false
set_option maxRecDepth 100000
namespace PM
open PySem L2 Evl
section
variable {X : Cx} {C : Ct} {ta tb tc te : TE} {a b c : Expr} {ma mb mc : Env → M D} {pos : Pos}
/-! ### instances -/
/-- an instance of the class c without a field m -/
def insOf (S : Sto) (c m : Str) : D → Bool
  | .obj c' fs => decide (c' = c) && (fs.lookup m).isNone
  | .ptr n => match S[n]? with
    | some (.obj c' fs) => decide (c' = c) && (fs.lookup m).isNone
    | _ => false
  | _ => false
theorem insOf_ok {K : PySem.W.Frag} {w : Wd} {S : Sto} {H : Hp} {v : V} {d : D} {c m : Str} (R : Rel K w S H) (r : VR K w v d) (h : insOf S c m d = true) : ∃ p dx fvs, v = .ref p ∧ H p = some (.ins (He.ga K c) dx fvs) ∧ fvs.lookup m = none := by
  cases r with
  | @obj p dx c' fvs fs s as =>
    obtain ⟨h1, h2⟩ := Bool.and_eq_true_iff.mp h
    obtain rfl := of_decide_eq_true h1
    exact ⟨p, dx, fvs, rfl, R.ex _ _ s, as.none (Option.isNone_iff_eq_none.mp h2)⟩
  | @ptr p n hb =>
    cases q : S[n]? with
    | none =>
      simp [insOf, q] at h
    | some cc =>
      cases cc with
      | obj c' fs =>
        simp only [insOf, q] at h
        obtain ⟨h1, h2⟩ := Bool.and_eq_true_iff.mp h
        obtain rfl := of_decide_eq_true h1
        obtain ⟨_, dx, fvs, hx, as⟩ := R.cell _ _ _ hb q rfl
        exact ⟨p, dx, fvs, rfl, hx, as.none (Option.isNone_iff_eq_none.mp h2)⟩
      | _ => simp [insOf, q] at h
  | _ => cases h
theorem sp_of {K : PySem.W.Frag} {w : Wd} {S : Sto} {H : Hp} {vs : List V} {ds : List D} {g : List D → M D} {Q : VK} {E : XK} (R : Rel K w S H) (rs : VRs K w vs ds) {P : D → Sto → Prop} {F : Er → Sto → Prop} (h : (g ds S).sat P F) (hp : ∀ d s, P d s → PV K w Q d s)
    (he : ∀ x s, F x s → ∀ (w' : Wd) (H' : Hp) (c : Value) (dd : Option Addr), w.le w' → Rel K w' s H' → ErR K w' x c dd → E c dd H') : spM K g vs H Q E := ⟨w, ds, S, R, rs, h.imp hp he⟩
def eMeth (c m : Str) (g : List D → M D) (o : Env → M D) (r : Env → M (List D)) (e : Env) : M D := bind (o e) fun d => fun S => if insOf S c m d then (bind (r e) fun ds => g (d :: ds)) S else .no
theorem ce_meth {o e : Expr} {es : List Expr} {m c : Str} {apos : Pos} {tr : TA} {mr : Env → M (List D)} {pl : Sem Bool} {k : Nat} {f : Addr} {ps : List Str} {g : List D → M D} (ho : CE X C o ta ma) (cl : Cls X.K (He.ga X.K c)) (hm : Meth X.K (He.ga X.K c) m f) (F : WD.FnG X.prog X.w X.K X.mg X.base k f ps (spM X.K g)) (hr : Room k X.A) (ha : CA X C (e :: es) tr mr)
    (hst : starEach (e :: es) X.env = (false, eval e X.env) :: starEach es X.env := by rfl) (hpl : (backTo pos (starEach es X.env)).any (·.1) = false := by rfl)
    (ht : eval (.Call (.Attribute o m apos) (e :: es) [] pos) X.env = (do
      let ov ← eval o X.env
      standAt apos.atName
      let (f, first) ← holding [ov] (getMethod ov m pl)
      callWith pos f first (backTo pos (starEach (e :: es) X.env)) (backToKw pos (keywordEach [] X.env))) := by rfl) :
    CE X C (.Call (.Attribute o m apos) (e :: es) [] pos) (tMethX (He.ga C.K c) m (spM C.K g) (WE C.W) ta tr) (eMeth c m g ma mr) := ⟨ho.hK, fun y => by rw [← ho.hK]; exact pe_methSG (ho.pe y) cl hm F hr y.tk (ha.pa y) hst hpl ht, fun e σ w S H Q E R h => by
  have h := sat_then.mp h
  refine ho.sn e σ w S H _ E R (h.imp (fun d S1 h1 w1 H1 v l1 R1 r1 => ?_) (fun x s hx => hx))
  by_cases z : insOf S1 c m d = true
  · rw [if_pos z] at h1
    obtain ⟨p, dx, fvs, rfl, hp, hl⟩ := insOf_ok R1 r1 z
    refine ⟨p, dx, fvs, rfl, hp, hl, ?_⟩
    have h1 := sat_then.mp (show ((mr e S1).then _).sat _ _ from h1)
    refine ha.sn e σ w1 S1 H1 _ (E.up l1) R1 (h1.imp (fun ds S2 h2 w2 H2 vs l2 R2 rs => ?_) (fun x s hx => hx.up l1))
    exact sp_of R2 (.cons (r1.up l2) rs) h2 (fun d s q => q.up (l1.trans l2)) (fun x s q => q.up (l1.trans l2))
  · rw [if_neg z] at h1
    exact h1.elim⟩
def noE {α : Type} (o : Out α) : Out α := match o with
  | .er _ _ => .no
  | o => o
theorem noE_sat {α : Type} {o : Out α} {P : α → Sto → Prop} {E E' : Er → Sto → Prop} (h : (noE o).sat P E) : o.sat P E' := by
  cases o with
  | ok d s => exact h
  | er x s => exact h.elim
  | no => exact h
@[simp] theorem noE_ok {α : Type} (d : α) (s : Sto) : noE (Out.ok d s) = .ok d s := rfl
def eMeth0 (c m : Str) (g : List D → M D) (o : Env → M D) (e : Env) : M D := bind (o e) fun d => fun S => if insOf S c m d then noE (g [d] S) else .no
theorem ce_meth0 {o : Expr} {m c : Str} {apos : Pos} {pl : Sem Bool} {k : Nat} {f : Addr} {ps : List Str} {g : List D → M D} (ho : CE X C o ta ma) (cl : Cls X.K (He.ga X.K c)) (hm : Meth X.K (He.ga X.K c) m f) (F : WD.FnG X.prog X.w X.K X.mg X.base k f ps (spM X.K g)) (hr : Room k X.A)
    (ht : eval (.Call (.Attribute o m apos) [] [] pos) X.env = (do
      let ov ← eval o X.env
      standAt apos.atName
      let (f, first) ← holding [ov] (getMethod ov m pl)
      callWith pos f first (backTo pos (starEach [] X.env)) (backToKw pos (keywordEach [] X.env))) := by rfl) :
    CE X C (.Call (.Attribute o m apos) [] [] pos) (tMeth (He.ga C.K c) m (spM C.K g) [] E0 ta tNil) (eMeth0 c m g ma) := ⟨ho.hK, fun y => by rw [← ho.hK]; exact WD.pe_methG0 (ho.pe y) cl hm F hr ht, fun e σ w S H Q E R h => by
  have h := sat_then.mp h
  refine ho.sn e σ w S H _ E R (h.imp (fun d S1 h1 w1 H1 v l1 R1 r1 => ?_) (fun x s hx => hx))
  by_cases z : insOf S1 c m d = true
  · rw [if_pos z] at h1
    obtain ⟨p, dx, fvs, rfl, hp, hl⟩ := insOf_ok R1 r1 z
    exact ⟨p, dx, fvs, rfl, hp, hl, sp_of R1 (.cons r1 .nil) (noE_sat (E' := fun _ _ => False) h1) (fun d s q => q.up l1) (fun x s q => q.elim)⟩
  · rw [if_neg z] at h1
    exact h1.elim⟩
/-- a method with defaults, whose data are es -/
def eMethH (c m : Str) (g : List D → M D) (dd : List D) (o : Env → M D) (r : Env → M (List D)) (e : Env) : M D := bind (o e) fun d => fun S => if insOf S c m d then (bind (r e) fun ds => fun S2 => noE (g (d :: (ds ++ dd)) S2)) S else .no
theorem ce_methH {o e : Expr} {es : List Expr} {m c : Str} {apos : Pos} {tr : TA} {mr : Env → M (List D)} {pl : Sem Bool} {k : Nat} {f : Addr} {ps : List Str} {g : List D → M D} {dvs : List V} (dd : List D) (hd : ∀ w, VRs C.K w dvs dd) (ho : CE X C o ta ma) (cl : Cls X.K (He.ga X.K c)) (hm : Meth X.K (He.ga X.K c) m f) (F : WD.FnH X.prog X.w X.K X.mg X.base k f ps (spM X.K g) dvs) (hr : Room k X.A) (ha : CA X C (e :: es) tr mr)
    (hst : starEach (e :: es) X.env = (false, eval e X.env) :: starEach es X.env := by rfl) (hpl : (backTo pos (starEach es X.env)).any (·.1) = false := by rfl)
    (ht : eval (.Call (.Attribute o m apos) (e :: es) [] pos) X.env = (do
      let ov ← eval o X.env
      standAt apos.atName
      let (f, first) ← holding [ov] (getMethod ov m pl)
      callWith pos f first (backTo pos (starEach (e :: es) X.env)) (backToKw pos (keywordEach [] X.env))) := by rfl) :
    CE X C (.Call (.Attribute o m apos) (e :: es) [] pos) (tMeth (He.ga C.K c) m (spM C.K g) dvs E0 ta tr) (eMethH c m g dd ma mr) := ⟨ho.hK, fun y => by rw [← ho.hK]; exact WD.pe_methH (ho.pe y) cl hm F hr (ha.pa y) hst hpl ht, fun e σ w S H Q E R h => by
  have h := sat_then.mp h
  refine ho.sn e σ w S H _ E R (h.imp (fun d S1 h1 w1 H1 v l1 R1 r1 => ?_) (fun x s hx => hx))
  by_cases z : insOf S1 c m d = true
  · rw [if_pos z] at h1
    obtain ⟨p, dx, fvs, rfl, hp, hl⟩ := insOf_ok R1 r1 z
    refine ⟨p, dx, fvs, rfl, hp, hl, ?_⟩
    have h1 := sat_then.mp (show ((mr e S1).then _).sat _ _ from h1)
    refine ha.sn e σ w1 S1 H1 _ (E.up l1) R1 (h1.imp (fun ds S2 h2 w2 H2 vs l2 R2 rs => ?_) (fun x s hx => hx.up l1))
    exact sp_of R2 (.cons (r1.up l2) (rs.app (hd w2))) (noE_sat (E' := fun _ _ => False) h2) (fun d s q => q.up (l1.trans l2)) (fun x s q => q.elim)
  · rw [if_neg z] at h1
    exact h1.elim⟩
/-- an instance made: it stays (keep: it may change) -/
def mkObj (keep : Bool) (c : Str) (g : List D → M D) (ds : List D) : M D := fun S => match g (.ptr S.length :: ds) (S ++ [.obj c []]) with
  | .ok .non S' => match S'[S.length]? with
    | some (.obj c' fs) => if keep then .ok (.ptr S.length) S' else .ok (.obj c' fs) (S'.set S.length .dead)
    | _ => .no
  | .er x S' => .er x S'
  | _ => .no
theorem make_ok {K : PySem.W.Frag} {keep : Bool} {c : Str} {g : List D → M D} {ds : List D} {w0 w : Wd} {S : Sto} {H : Hp} {vs : List V} {Q : VK} {E : XK} {F : Er → Sto → Prop} {x dx : Addr} (l0 : w0.le w) (R : Rel K w S H) (rs : VRs K w vs ds) (h : (mkObj keep c g ds S).sat (PV K w0 Q) F) (h1 : H x = none) (h2 : H dx = none) (ne : dx ≠ x)
    (he : ∀ e s, F e s → ∀ (w' : Wd) (H' : Hp) (c : Value) (dd : Option Addr), w.le w' → Rel K w' s H' → ErR K w' e c dd → E c dd H') : spM K g (.ref x :: vs) (upd (upd H dx (.own x)) x (.ins (He.ga K c) dx [])) (fun v H2 => v = .non ∧ Q (.ref x) H2) E := by
  have Ra := R.grow (Ex.new (o := .own x) h2)
  have hx : upd H dx (.own x) x = none := by
    rw [upd_ne (Ne.symm ne)]
    exact h1
  have Rb := Ra.newcell (o := .ins (He.ga K c) dx []) (c := .obj c []) hx ⟨dx, [], upd_same, .nil⟩
  refine ⟨w.cell x, .ptr S.length :: ds, S ++ [.obj c []], Rb, .cons (.ptr (cell_at x R)) (rs.up Wd.le_cell), ?_⟩
  unfold mkObj at h
  cases q : g (.ptr S.length :: ds) (S ++ [.obj c []]) with
  | no =>
    rw [q] at h
    exact h.elim
  | er e s =>
    rw [q] at h
    exact fun w' H' c dd l r er => he e s h w' H' c dd (Wd.le_cell.trans l) r er
  | ok d s =>
    rw [q] at h
    intro w' H' v l r a
    cases a with
    | non =>
      refine ⟨rfl, ?_⟩
      simp only at h
      have hb : w'.B[S.length]? = some x := pre_get l.b (cell_at x R)
      cases z : s[S.length]? with
      | none =>
        rw [z] at h
        exact h.elim
      | some cc =>
        rw [z] at h
        cases cc with
        | obj c' fs =>
          simp only at h
          have l2 := l0.trans (Wd.le_cell.trans l)
          cases keep with
          | true => exact h w' H' _ l2 r (.ptr hb)
          | false =>
            obtain ⟨_, dy, fvs, hy, as⟩ := r.cell _ _ _ hb z rfl
            obtain ⟨l3, r3⟩ := r.freeze hb z rfl hy
            exact h _ H' _ (l2.trans l3) r3 (.obj upd_same (as.up l3))
        | _ => exact h.elim
    | _ => exact h.elim
theorem ce_make (keep : Bool) {e : Expr} {es : List Expr} {x c : Str} {p : Pos} {tr : TA} {mr : Env → M (List D)} {k : Nat} {f : Addr} {ps : List Str} {g : List D → M D} (Mk_ : Mk X.K (He.ga X.K c) f) (F : WD.FnG X.prog X.w X.K X.mg X.base k f ps (spM X.K g)) (hr : Room (k + 1) X.A) (hg : Gl X x) (hm : X.mg x = some (.ref (He.ga X.K c))) (ha : CA X C (e :: es) tr mr)
    (hdb : (x == ("__debug__" : Str)) = false := by decide) (he : starEach (e :: es) X.env = (false, eval e X.env) :: starEach es X.env := by rfl) (hpl : (backTo pos (starEach es X.env)).any (·.1) = false := by rfl) (hK : X.K = C.K := by rfl) :
    CE X C (.Call (.Name x p) (e :: es) [] pos) (tMakeX (He.ga C.K c) (spM C.K g) (WE C.W) tr) (eA (mkObj keep c g) mr) := ⟨hK, fun y => by rw [← hK]; exact pe_makeSG Mk_ F hr hg hm y.tk (ha.pa y) hdb he hpl, fun e σ w S H Q E R h => by
  have h := sat_then.mp h
  refine ha.sn e σ w S H _ E R (h.imp (fun ds S1 h1 w1 H1 vs l1 R1 rs => ?_) (fun x s hx => hx))
  exact fun x dx n1 n2 ne => make_ok l1 R1 rs h1 n1 n2 ne fun e s q => q.up l1⟩
def eMakeH (keep : Bool) (c : Str) (g : List D → M D) (dd : List D) (ds : List D) : M D := fun S => noE (mkObj keep c g (ds ++ dd) S)
theorem ce_makeH (keep : Bool) {e : Expr} {es : List Expr} {x c : Str} {p : Pos} {tr : TA} {mr : Env → M (List D)} {k : Nat} {f : Addr} {ps : List Str} {g : List D → M D} {dvs : List V} (dd : List D) (hd : ∀ w, VRs C.K w dvs dd) (Mk_ : Mk X.K (He.ga X.K c) f) (F : WD.FnH X.prog X.w X.K X.mg X.base k f ps (spM X.K g) dvs) (hr : Room (k + 1) X.A) (hg : Gl X x) (hm : X.mg x = some (.ref (He.ga X.K c))) (ha : CA X C (e :: es) tr mr)
    (hdb : (x == ("__debug__" : Str)) = false := by decide) (he : starEach (e :: es) X.env = (false, eval e X.env) :: starEach es X.env := by rfl) (hpl : (backTo pos (starEach es X.env)).any (·.1) = false := by rfl) (hK : X.K = C.K := by rfl) :
    CE X C (.Call (.Name x p) (e :: es) [] pos) (tMake (He.ga C.K c) (spM C.K g) dvs E0 tr) (eA (eMakeH keep c g dd) mr) := ⟨hK, fun y => by rw [← hK]; exact WD.pe_makeH Mk_ F hr hg hm (ha.pa y) hdb he hpl, fun e σ w S H Q E R h => by
  have h := sat_then.mp h
  refine ha.sn e σ w S H _ E R (h.imp (fun ds S1 h1 w1 H1 vs l1 R1 rs => ?_) (fun x s hx => hx))
  exact fun x dx n1 n2 ne => make_ok l1 R1 (rs.app (hd w1)) (noE_sat (E' := fun _ _ => False) h1) n1 n2 ne fun e s q => q.elim⟩
/-! ### own special methods -/
def dLenO (c : Str) (g : List D → M D) (ds : List D) : M D := fun S => match ds with
  | [d] => if insOf S c "" d then (noE (g [d] S)).then fun r => match r with
    | .int i => gd (0 ≤ i ∧ i < 2 ^ 63) (ret (.int i))
    | _ => stuck else .no
  | _ => .no
theorem calls_lenO {K : PySem.W.Frag} {c : Str} {g : List D → M D} : CallS K (rLenO (He.ga K c) (spM K g) E0) (dLenO c g) := fun w S H xs ds Q E R rs h => by
  cases rs with
  | nil => exact h.elim
  | cons r1 rr =>
    cases rr with
    | cons _ _ => exact h.elim
    | nil =>
      rename_i v d
      have h : (if insOf S c "" d then (noE (g [d] S)).then _ else Out.no).sat _ _ := h
      by_cases z : insOf S c "" d = true
      · rw [if_pos z] at h
        obtain ⟨p, dx, fvs, rfl, hp, _⟩ := insOf_ok R r1 z
        have h := sat_then.mp h
        refine ⟨p, dx, fvs, rfl, hp, sp_of R (.cons r1 .nil) (noE_sat (E' := fun _ _ => False) h) (fun d s q w' H' v l r a => ?_) fun _ _ q => q.elim⟩
        cases a with
        | int i =>
          obtain ⟨c1, q⟩ := gd_sat q
          exact ⟨i, rfl, c1, q w' H' _ l r (.int _)⟩
        | _ => exact q.elim
      · rw [if_neg z] at h
        exact h.elim
def dInO (neg : Bool) (c : Str) (g : List D → M D) (x y : D) : M D := fun S => if insOf S c "" y then (noE (g [y, x] S)).then fun r => match r with
    | .bl b => ret (.bl (neg != b))
    | _ => stuck else .no
theorem ops_inO {K : PySem.W.Frag} {c : Str} {g : List D → M D} (neg : Bool) : OpS K (rInO (He.ga K c) (spM K g) E0 neg) (dInO neg c g) := fun w S H x y d1 d2 Q E R a b h => by
  unfold dInO at h
  by_cases z : insOf S c "" d2 = true
  · rw [if_pos z] at h
    obtain ⟨p, dx, fvs, rfl, hp, _⟩ := insOf_ok R b z
    have h := sat_then.mp h
    refine ⟨p, dx, fvs, rfl, hp, sp_of R (.cons b (.cons a .nil)) (noE_sat (E' := fun _ _ => False) h) (fun d s q w' H' v l r a => ?_) fun _ _ q => q.elim⟩
    cases a with
    | bl k =>
      have := q w' H' _ l r (.bl _)
      refine ⟨k, rfl, ?_⟩
      cases neg with
      | true => rwa [Bool.true_bne] at this
      | false => rwa [Bool.false_bne] at this
    | _ => exact q.elim
  · rw [if_neg z] at h
    exact h.elim
def dEqO (neg : Bool) (c : Str) (g : List D → M D) (x y : D) : M D := fun S => if insOf S c "" x && insOf S c "" y then (noE (g [x, y] S)).then fun r => match r with
    | .bl b => ret (.bl (neg != b))
    | _ => stuck else .no
theorem ops_eqO {K : PySem.W.Frag} {c : Str} {g : List D → M D} : OpS K (rEqO K (He.ga K c) (spM K g) E0) (dEqO false c g) := fun w S H x y d1 d2 Q E R a b h => by
  unfold dEqO at h
  by_cases z : (insOf S c "" d1 && insOf S c "" d2) = true
  · rw [if_pos z] at h
    obtain ⟨z1, z2⟩ := Bool.and_eq_true_iff.mp z
    obtain ⟨p, dx, fvs, rfl, hp, _⟩ := insOf_ok R a z1
    obtain ⟨p', dx', fvs', rfl, hp', _⟩ := insOf_ok R b z2
    have h := sat_then.mp h
    refine ⟨p, p', dx, dx', fvs, fvs', rfl, rfl, hp, hp', sp_of R (.cons a (.cons b .nil)) (noE_sat (E' := fun _ _ => False) h) (fun d s q w' H' v l r a => ?_) fun _ _ q => q.elim⟩
    cases a with
    | bl k =>
      have := q w' H' _ l r (.bl _)
      rw [Bool.false_bne] at this
      exact ⟨k, rfl, this⟩
    | _ => exact q.elim
  · rw [if_neg z] at h
    exact h.elim
theorem ops_neO {K : PySem.W.Frag} {c : Str} {g : List D → M D} : OpS K (rNeO K (He.ga K c) (spM K g) E0) (dEqO true c g) := fun w S H x y d1 d2 Q E R a b h => by
  unfold dEqO at h
  by_cases z : (insOf S c "" d1 && insOf S c "" d2) = true
  · rw [if_pos z] at h
    obtain ⟨z1, z2⟩ := Bool.and_eq_true_iff.mp z
    obtain ⟨p, dx, fvs, rfl, hp, _⟩ := insOf_ok R a z1
    obtain ⟨p', dx', fvs', rfl, hp', _⟩ := insOf_ok R b z2
    have h := sat_then.mp h
    refine ⟨p, p', dx, dx', fvs, fvs', rfl, rfl, hp, hp', sp_of R (.cons a (.cons b .nil)) (noE_sat (E' := fun _ _ => False) h) (fun d s q w' H' v l r a => ?_) fun _ _ q => q.elim⟩
    cases a with
    | bl k =>
      have := q w' H' _ l r (.bl _)
      rw [Bool.true_bne] at this
      exact ⟨k, rfl, this⟩
    | _ => exact q.elim
  · rw [if_neg z] at h
    exact h.elim
/-- the truth of an instance -/
def tTru (c : Str) (g : List D → M D) (a : Env → M D) (e : Env) : M Bool := bind (a e) fun d => fun S => if insOf S c "" d then (noE (g [d] S)).then dBool else .no
theorem ct_truO {e : Expr} {c : Str} {g : List D → M D} {k : Nat} {f : Addr} {ps : List Str} (F : WD.FnG X.prog X.w X.K X.mg X.base k f ps (spM X.K g)) (hm : Meth X.K (He.ga X.K c) "__bool__" f) (hr : Room k X.A) (ha : CE X C e ta ma)
    (he : ∀ whole, isTrue e X.env whole = (do let v ← whole; standAt e.pos; holding [v] (truthy v)) := by intro _; rfl) : CT X C e (tTruO (He.ga C.K c) (spM C.K g) E0 ta) (tTru c g ma) := ⟨ha.hK, fun y => by rw [← ha.hK]; exact WD.truO_of F hm hr (ha.pe y) he, fun e σ w S H Q E R h => by
  have h := sat_then.mp h
  refine ha.sn e σ w S H _ E R (h.imp (fun d S1 h1 w1 H1 v l1 R1 r1 => ?_) (fun x s hx => hx))
  by_cases z : insOf S1 c "" d = true
  · rw [if_pos z] at h1
    obtain ⟨p, dx, fvs, rfl, hp, _⟩ := insOf_ok R1 r1 z
    have h1 := sat_then.mp h1
    refine ⟨p, dx, fvs, rfl, hp, sp_of R1 (.cons r1 .nil) (noE_sat (E' := fun _ _ => False) h1) (fun d s q w' H' v l r a => ?_) fun _ _ q => q.elim⟩
    obtain ⟨kk, rfl, rfl, q⟩ := bool_sat a q
    exact ⟨kk, rfl, q w' H' (l1.trans l) r⟩
  · rw [if_neg z] at h1
    exact h1.elim⟩
/-! ### built-ins -/
theorem ce_callB {e : Expr} {es : List Expr} {tr : TA} {mr : Env → M (List D)} {x : Str} {p : Pos} {id : String} {r : List V → Hp → VK → Prop} {g : List D → M D} (hc : CallR X (.builtin id) r) (hs : CallS C.K r g) (hg : Gl X x) (hm : X.mg x = none) (hv : bootBuiltins x = some (.builtin id)) (ha : CA X C (e :: es) tr mr) (hn : x ≠ "__name__" := by decide) (hdb : (x == ("__debug__" : Str)) = false := by decide)
    (he : starEach (e :: es) X.env = (false, eval e X.env) :: starEach es X.env := by rfl) (hpl : (backTo pos (starEach es X.env)).any (·.1) = false := by rfl) (hK : X.K = C.K := by rfl) : CE X C (.Call (.Name x p) (e :: es) [] pos) (tCB r tr) (eA g mr) := ⟨hK, fun y => pe_callB hc hg hm hv (ha.pa y) hn hdb he hpl, fun e σ w S H Q E R h => by
  have h := sat_then.mp h
  refine ha.sn e σ w S H _ E R (h.imp (fun ds S1 h1 w1 H1 vs l1 R1 rs => ?_) (fun x s hx => hx))
  exact hs w1 S1 H1 vs ds Q _ R1 rs (h1.imp (fun d s q => q.up l1) fun _ _ z => z)⟩
theorem ce_callTy {e : Expr} {es : List Expr} {tr : TA} {mr : Env → M (List D)} {x : Str} {p : Pos} {T : String} {r : List V → Hp → VK → Prop} {g : List D → M D} (hc : CallR X (.type T) r) (hs : CallS C.K r g) (hg : Gl X x) (hm : X.mg x = none) (hv : bootBuiltins x = some (.type T)) (ha : CA X C (e :: es) tr mr) (hn : x ≠ "__name__" := by decide) (hdb : (x == ("__debug__" : Str)) = false := by decide)
    (he : starEach (e :: es) X.env = (false, eval e X.env) :: starEach es X.env := by rfl) (hpl : (backTo pos (starEach es X.env)).any (·.1) = false := by rfl) (hK : X.K = C.K := by rfl) : CE X C (.Call (.Name x p) (e :: es) [] pos) (tCB r tr) (eA g mr) := ⟨hK, fun y => pe_callTy hc hg hm hv (ha.pa y) hn hdb he hpl, fun e σ w S H Q E R h => by
  have h := sat_then.mp h
  refine ha.sn e σ w S H _ E R (h.imp (fun ds S1 h1 w1 H1 vs l1 R1 rs => ?_) (fun x s hx => hx))
  exact hs w1 S1 H1 vs ds Q _ R1 rs (h1.imp (fun d s q => q.up l1) fun _ _ z => z)⟩
theorem ce_callBf {e : Expr} {es : List Expr} {tr : TA} {mr : Env → M (List D)} {x : Str} {p : Pos} {id : String} {r : List V → Hp → VK → Prop} {g : List D → M D} (hc : CallR X (.builtin id) r) (hs : CallS C.K r g) (hg : Gl X x) (hm : X.mg x = some (.builtin id)) (ha : CA X C (e :: es) tr mr) (hdb : (x == ("__debug__" : Str)) = false := by decide)
    (he : starEach (e :: es) X.env = (false, eval e X.env) :: starEach es X.env := by rfl) (hpl : (backTo pos (starEach es X.env)).any (·.1) = false := by rfl) (hK : X.K = C.K := by rfl) : CE X C (.Call (.Name x p) (e :: es) [] pos) (tCB r tr) (eA g mr) := ⟨hK, fun y => pe_callBfun hc hg hm (ha.pa y) hdb he hpl, fun e σ w S H Q E R h => by
  have h := sat_then.mp h
  refine ha.sn e σ w S H _ E R (h.imp (fun ds S1 h1 w1 H1 vs l1 R1 rs => ?_) (fun x s hx => hx))
  exact hs w1 S1 H1 vs ds Q _ R1 rs (h1.imp (fun d s q => q.up l1) fun _ _ z => z)⟩
def d1 (g : D → M D) (ds : List D) : M D := match ds with
  | [d] => g d
  | _ => stuck
def d2 (g : D → D → M D) (ds : List D) : M D := match ds with
  | [d, e] => g d e
  | _ => stuck
theorem calls1 {K : PySem.W.Frag} {r : List V → Hp → VK → Prop} {g : D → M D} (h : ∀ (w : Wd) (S : Sto) (H : Hp) (x : V) (d : D) (Q : VK) (E : Er → Sto → Prop), Rel K w S H → VR K w x d → (g d S).sat (PV K w Q) E → r [x] H Q) : CallS K r (d1 g) := fun w S H xs ds Q E R rs q => by
  cases rs with
  | nil => exact q.elim
  | cons r1 rr =>
    cases rr with
    | cons _ _ => exact q.elim
    | nil => exact h w S H _ _ Q E R r1 q
theorem calls2 {K : PySem.W.Frag} {r : List V → Hp → VK → Prop} {g : D → D → M D} (h : ∀ (w : Wd) (S : Sto) (H : Hp) (x y : V) (d e : D) (Q : VK) (E : Er → Sto → Prop), Rel K w S H → VR K w x d → VR K w y e → (g d e S).sat (PV K w Q) E → r [x, y] H Q) : CallS K r (d2 g) := fun w S H xs ds Q E R rs q => by
  cases rs with
  | nil => exact q.elim
  | cons r1 rr =>
    cases rr with
    | nil => exact q.elim
    | cons r2 rr =>
      cases rr with
      | cons _ _ => exact q.elim
      | nil => exact h w S H _ _ _ _ Q E R r1 r2 q
/-- with what is read as a list or a tuple -/
def wQ {α : Type} (x : D) (g : List D → M α) : M α := fun S => match rdQ S x with
  | some ds => g ds S
  | none => .no
def wL {α : Type} (x : D) (g : List D → M α) : M α := fun S => match rdL S x with
  | some ds => g ds S
  | none => .no
theorem wQ_sat {α : Type} {x : D} {g : List D → M α} {S : Sto} {P : α → Sto → Prop} {E : Er → Sto → Prop} (h : (wQ x g S).sat P E) : ∃ ds, rdQ S x = some ds ∧ (g ds S).sat P E := by
  unfold wQ at h
  cases z : rdQ S x with
  | none =>
    rw [z] at h
    exact h.elim
  | some ds =>
    rw [z] at h
    exact ⟨ds, rfl, h⟩
theorem wL_sat {α : Type} {x : D} {g : List D → M α} {S : Sto} {P : α → Sto → Prop} {E : Er → Sto → Prop} (h : (wL x g S).sat P E) : ∃ ds, rdL S x = some ds ∧ (g ds S).sat P E := by
  unfold wL at h
  cases z : rdL S x with
  | none =>
    rw [z] at h
    exact h.elim
  | some ds =>
    rw [z] at h
    exact ⟨ds, rfl, h⟩
def dLen (x : D) : M D := wQ x fun ds => ret (.int ds.length)
theorem calls_len {K : PySem.W.Frag} : CallS K (rLenS K) (d1 dLen) := calls1 fun w S H x d Q E R a h => by
  obtain ⟨ds, z, h⟩ := wQ_sat h
  obtain ⟨p, xs, rfl, e2, e3⟩ := rdQ_ok R a z
  refine ⟨p, xs, rfl, e2, ?_⟩
  rw [e3.len]
  exact h w H _ (Wd.le.refl w) R (.int _)
def dTuple (x : D) : M D := fun S => match x with
  | .tup ds => .ok (.tup ds) S
  | _ => wL x (fun ds => ret (.tup ds)) S
theorem calls_tuple {K : PySem.W.Frag} : CallS K (WD.rTupS K) (d1 dTuple) := calls1 fun w S H x d Q E R a h => by
  by_cases ht : ∃ ds, d = .tup ds
  · obtain ⟨ds, rfl⟩ := ht
    cases a with
    | @tup p xs _ s as => exact ⟨p, xs, rfl, .inr ⟨ex_t R.ex s, h w H _ (Wd.le.refl w) R (.tup s as)⟩⟩
  · have e1 : dTuple d S = wL d (fun ds => ret (.tup ds)) S := by
      cases d <;> first | rfl | exact absurd ⟨_, rfl⟩ ht
    rw [e1] at h
    obtain ⟨ds, z, h⟩ := wL_sat h
    obtain ⟨p, xs, rfl, e2, e3, _⟩ := rdL_ok R a z
    refine ⟨p, xs, rfl, .inl ⟨e2, fun l hl => ?_⟩⟩
    obtain ⟨le, R'⟩ := R.plus (o := .tup xs) hl
    exact h _ _ _ le R' (.tup (st_of upd_same) (e3.up le))
def dList (x : D) : M D := wQ x fun ds => ret (.lst ds)
theorem calls_list {K : PySem.W.Frag} : CallS K (rListS K) (d1 dList) := calls1 fun w S H x d Q E R a h => by
  obtain ⟨ds, z, h⟩ := wQ_sat h
  obtain ⟨p, xs, rfl, e2, e3⟩ := rdQ_ok R a z
  refine ⟨p, xs, rfl, e2, fun l hl => ?_⟩
  obtain ⟨le, R'⟩ := R.plus (o := .lst xs) hl
  exact h _ _ _ le R' (.lst upd_same (e3.up le))
/-- list(x), a list that will change -/
def dListC (x : D) : M D := wQ x dNew
theorem calls_listC {K : PySem.W.Frag} : CallS K (rListS K) (d1 dListC) := calls1 fun w S H x d Q E R a h => by
  obtain ⟨ds, z, h⟩ := wQ_sat h
  obtain ⟨p, xs, rfl, e2, e3⟩ := rdQ_ok R a z
  unfold dNew at h
  by_cases c : ds.length ≤ lim
  · rw [if_pos c] at h
    refine ⟨p, xs, rfl, e2, fun l hl => ?_⟩
    exact h _ _ _ Wd.le_cell (R.newcell (o := .lst xs) (c := .lst ds) hl ⟨xs, upd_same, e3⟩) (.ptr (cell_at l R))
  · rw [if_neg c] at h
    exact h.elim
def dInt : D → M D
  | .int i => ret (.int i)
  | .bl b => ret (.int (if b then 1 else 0))
  | _ => stuck
theorem calls_int {K : PySem.W.Frag} : CallS K WD.rInt1 (d1 dInt) := calls1 fun w S H x d Q E R a h => by
  cases a with
  | int i => exact .inl ⟨i, rfl, h w H _ (Wd.le.refl w) R (.int _)⟩
  | bl b => exact .inr ⟨b, rfl, h w H _ (Wd.le.refl w) R (.int _)⟩
  | _ => exact h.elim
def dAbs : D → M D
  | .int i => ret (.int (if i < 0 then -i else i))
  | _ => stuck
theorem calls_abs {K : PySem.W.Frag} : CallS K WD.rAbs (d1 dAbs) := calls1 fun w S H x d Q E R a h => by
  cases a with
  | int i => exact ⟨i, rfl, h w H _ (Wd.le.refl w) R (.int _)⟩
  | _ => exact h.elim
def dMin2 : D → D → M D
  | .int i, .int j => ret (.int (if j < i then j else i))
  | _, _ => stuck
def dMax2 : D → D → M D
  | .int i, .int j => ret (.int (if j > i then j else i))
  | _, _ => stuck
def dGcd : D → D → M D
  | .int i, .int j => ret (.int ((Nat.gcd i.natAbs j.natAbs : Nat) : Int))
  | _, _ => stuck
def dLcm : D → D → M D
  | .int i, .int j => gd (0 ≤ i ∧ 0 ≤ j ∧ i.toNat.log2 < 5999 ∧ j.toNat.log2 < 5999) (ret (.int ((Nat.lcm i.toNat j.toNat : Nat) : Int)))
  | _, _ => stuck
theorem calls_min2 {K : PySem.W.Frag} : CallS K WD.rMin2 (d2 dMin2) := calls2 fun w S H x y d e Q E R a b h => by
  cases a with
  | int i =>
    cases b with
    | int j => exact ⟨i, j, rfl, h w H _ (Wd.le.refl w) R (.int _)⟩
    | _ => exact h.elim
  | _ => exact h.elim
theorem calls_max2 {K : PySem.W.Frag} : CallS K rMax2 (d2 dMax2) := calls2 fun w S H x y d e Q E R a b h => by
  cases a with
  | int i =>
    cases b with
    | int j => exact ⟨i, j, rfl, h w H _ (Wd.le.refl w) R (.int _)⟩
    | _ => exact h.elim
  | _ => exact h.elim
theorem calls_gcd {K : PySem.W.Frag} : CallS K rGcd (d2 dGcd) := calls2 fun w S H x y d e Q E R a b h => by
  cases a with
  | int i =>
    cases b with
    | int j => exact ⟨i, j, rfl, h w H _ (Wd.le.refl w) R (.int _)⟩
    | _ => exact h.elim
  | _ => exact h.elim
theorem lt_pow_of_log2 {n k : Nat} (h : n.log2 < k) : n < 2 ^ (k + 1) := by
  by_cases z : n = 0
  · subst z
    exact Nat.two_pow_pos _
  · exact Nat.lt_of_lt_of_le ((Nat.log2_lt z).mp h) (Nat.pow_le_pow_right (by decide) (by omega))
theorem calls_lcm {K : PySem.W.Frag} : CallS K WD.rLcm (d2 dLcm) := calls2 fun w S H x y d e Q E R a b h => by
  cases a with
  | int i =>
    cases b with
    | int j =>
      obtain ⟨⟨c1, c2, c3, c4⟩, h⟩ := gd_sat h
      exact ⟨i.toNat, j.toNat, by rw [Int.toNat_of_nonneg c1, Int.toNat_of_nonneg c2], lt_pow_of_log2 c3, lt_pow_of_log2 c4, h w H _ (Wd.le.refl w) R (.int _)⟩
    | _ => exact h.elim
  | _ => exact h.elim
def asInts : List D → Option (List Int)
  | [] => some []
  | .int i :: ds => (asInts ds).map (i :: ·)
  | _ => none
def asBools : List D → Option (List Bool)
  | [] => some []
  | .bl i :: ds => (asBools ds).map (i :: ·)
  | _ => none
theorem asInts_ok {K : PySem.W.Frag} {w : Wd} : ∀ {vs : List V} {ds : List D} {ns : List Int}, VRs K w vs ds → asInts ds = some ns → vs = ns.map V.int
  | _, _, _, .nil, h => by
    cases h
    rfl
  | _, _, ns, .cons (ds := ds) (.int i) as, h => by
    cases q : asInts ds with
    | none => simp [asInts, q] at h
    | some ms =>
      simp [asInts, q] at h
      subst h
      rw [asInts_ok as q]
      rfl
  | _, _, _, .cons .non _, h => by cases h
  | _, _, _, .cons (.bl _) _, h => by cases h
  | _, _, _, .cons (.str _) _, h => by cases h
  | _, _, _, .cons (.tup _ _) _, h => by cases h
  | _, _, _, .cons (.lst _ _) _, h => by cases h
  | _, _, _, .cons (.obj _ _) _, h => by cases h
  | _, _, _, .cons (.ptr _) _, h => by cases h
  | _, _, _, .cons (.scr _) _, h => by cases h
theorem bools_ok {K : PySem.W.Frag} {w : Wd} : ∀ {vs : List V} {ds : List D} {ns : List Bool}, VRs K w vs ds → asBools ds = some ns → vs = ns.map V.bl
  | _, _, _, .nil, h => by
    cases h
    rfl
  | _, _, ns, .cons (ds := ds) (.bl i) as, h => by
    cases q : asBools ds with
    | none => simp [asBools, q] at h
    | some ms =>
      simp [asBools, q] at h
      subst h
      rw [bools_ok as q]
      rfl
  | _, _, _, .cons .non _, h => by cases h
  | _, _, _, .cons (.int _) _, h => by cases h
  | _, _, _, .cons (.str _) _, h => by cases h
  | _, _, _, .cons (.tup _ _) _, h => by cases h
  | _, _, _, .cons (.lst _ _) _, h => by cases h
  | _, _, _, .cons (.obj _ _) _, h => by cases h
  | _, _, _, .cons (.ptr _) _, h => by cases h
  | _, _, _, .cons (.scr _) _, h => by cases h
@[simp] theorem asInts_map (ns : List Int) : asInts (ns.map D.int) = some ns := by
  induction ns with
  | nil => rfl
  | cons n ns ih => simp [asInts, ih]
@[simp] theorem bools_map (ns : List Bool) : asBools (ns.map D.bl) = some ns := by
  induction ns with
  | nil => rfl
  | cons n ns ih => simp [asBools, ih]
def oM {α β : Type} (o : Option α) (g : α → M β) : M β := match o with
  | some a => g a
  | none => stuck
@[simp] theorem oM_some {α β : Type} (a : α) (g : α → M β) : oM (some a) g = g a := rfl
theorem oM_sat {α β : Type} {o : Option α} {g : α → M β} {S : Sto} {P : β → Sto → Prop} {E : Er → Sto → Prop} (h : (oM o g S).sat P E) : ∃ a, o = some a ∧ (g a S).sat P E := by
  cases o with
  | none => exact h.elim
  | some a => exact ⟨a, rfl, h⟩
def dSum (x : D) : M D := wL x fun ds => oM (asInts ds) fun ns => ret (.int ns.sum)
def dAll (x : D) : M D := wL x fun ds => oM (asBools ds) fun bs => ret (.bl (bs.all id))
def dAny (x : D) : M D := wL x fun ds => oM (asBools ds) fun bs => ret (.bl (bs.any id))
def minI : Int → List Int → Int
  | m, [] => m
  | m, n :: ns => minI (if n < m then n else m) ns
def maxI : Int → List Int → Int
  | m, [] => m
  | m, n :: ns => maxI (if n > m then n else m) ns
theorem minI_le : ∀ (ns : List Int) (m : Int), minI m ns ≤ m ∧ (∀ n ∈ ns, minI m ns ≤ n) ∧ (minI m ns = m ∨ minI m ns ∈ ns)
  | [], m => ⟨Int.le_refl _, by simp, .inl rfl⟩
  | n :: ns, m => by
    obtain ⟨h1, h2, h3⟩ := minI_le ns (if n < m then n else m)
    refine ⟨?_, fun k hk => ?_, ?_⟩
    · show minI (if n < m then n else m) ns ≤ m
      split at h1 <;> rename_i c <;> simp only [c, if_true, if_false] <;> omega
    · show minI (if n < m then n else m) ns ≤ k
      rcases List.mem_cons.mp hk with rfl | hk
      · split at h1 <;> rename_i c <;> simp only [c, if_true, if_false] <;> omega
      · exact h2 k hk
    · show minI (if n < m then n else m) ns = m ∨ minI (if n < m then n else m) ns ∈ n :: ns
      rcases h3 with h3 | h3
      · rw [h3]
        split
        · exact .inr (by simp)
        · exact .inl rfl
      · exact .inr (List.mem_cons_of_mem _ h3)
theorem maxI_ge : ∀ (ns : List Int) (m : Int), m ≤ maxI m ns ∧ (∀ n ∈ ns, n ≤ maxI m ns) ∧ (maxI m ns = m ∨ maxI m ns ∈ ns)
  | [], m => ⟨Int.le_refl _, by simp, .inl rfl⟩
  | n :: ns, m => by
    obtain ⟨h1, h2, h3⟩ := maxI_ge ns (if n > m then n else m)
    refine ⟨?_, fun k hk => ?_, ?_⟩
    · show m ≤ maxI (if n > m then n else m) ns
      split at h1 <;> rename_i c <;> simp only [c, if_true, if_false] <;> omega
    · show k ≤ maxI (if n > m then n else m) ns
      rcases List.mem_cons.mp hk with rfl | hk
      · split at h1 <;> rename_i c <;> simp only [c, if_true, if_false] <;> omega
      · exact h2 k hk
    · show maxI (if n > m then n else m) ns = m ∨ maxI (if n > m then n else m) ns ∈ n :: ns
      rcases h3 with h3 | h3
      · rw [h3]
        split
        · exact .inr (by simp)
        · exact .inl rfl
      · exact .inr (List.mem_cons_of_mem _ h3)
def dMinL (x : D) : M D := wL x fun ds => oM (asInts ds) fun ns => match ns with
  | [] => stuck
  | n :: ns => ret (.int (minI n ns))
def dMaxL (x : D) : M D := wL x fun ds => oM (asInts ds) fun ns => match ns with
  | [] => stuck
  | n :: ns => ret (.int (maxI n ns))
theorem calls_sum {K : PySem.W.Frag} : CallS K (rSum K) (d1 dSum) := calls1 fun w S H x d Q E R a h => by
  obtain ⟨ds, z, h⟩ := wL_sat h
  obtain ⟨ns, z2, h⟩ := oM_sat h
  obtain ⟨p, xs, rfl, e2, e3, _⟩ := rdL_ok R a z
  obtain rfl := asInts_ok e3 z2
  exact ⟨p, ns, rfl, e2, h w H _ (Wd.le.refl w) R (.int _)⟩
theorem calls_all {K : PySem.W.Frag} : CallS K (rAll K) (d1 dAll) := calls1 fun w S H x d Q E R a h => by
  obtain ⟨ds, z, h⟩ := wL_sat h
  obtain ⟨ns, z2, h⟩ := oM_sat h
  obtain ⟨p, xs, rfl, e2, e3, _⟩ := rdL_ok R a z
  obtain rfl := bools_ok e3 z2
  exact ⟨p, ns, rfl, e2, h w H _ (Wd.le.refl w) R (.bl _)⟩
theorem calls_any {K : PySem.W.Frag} : CallS K (rAny K) (d1 dAny) := calls1 fun w S H x d Q E R a h => by
  obtain ⟨ds, z, h⟩ := wL_sat h
  obtain ⟨ns, z2, h⟩ := oM_sat h
  obtain ⟨p, xs, rfl, e2, e3, _⟩ := rdL_ok R a z
  obtain rfl := bools_ok e3 z2
  exact ⟨p, ns, rfl, e2, h w H _ (Wd.le.refl w) R (.bl _)⟩
theorem calls_minL {K : PySem.W.Frag} : CallS K (rMin K) (d1 dMinL) := calls1 fun w S H x d Q E R a h => by
  obtain ⟨ds, z, h⟩ := wL_sat h
  obtain ⟨ns, z2, h⟩ := oM_sat h
  obtain ⟨p, xs, rfl, e2, e3, _⟩ := rdL_ok R a z
  obtain rfl := asInts_ok e3 z2
  cases ns with
  | nil => exact h.elim
  | cons n ns =>
    refine ⟨p, n :: ns, rfl, e2, by simp, fun m hm hl => ?_⟩
    obtain ⟨k1, k2, k3⟩ := minI_le ns n
    have e : minI n ns = m := by
      refine Int.le_antisymm ?_ ?_
      · rcases List.mem_cons.mp hm with rfl | hm
        · exact k1
        · exact k2 m hm
      · rcases k3 with k3 | k3
        · rw [k3]
          exact hl n (by simp)
        · exact hl _ (List.mem_cons_of_mem _ k3)
    rw [← e]
    exact h w H _ (Wd.le.refl w) R (.int _)
theorem calls_maxL {K : PySem.W.Frag} : CallS K (rMax K) (d1 dMaxL) := calls1 fun w S H x d Q E R a h => by
  obtain ⟨ds, z, h⟩ := wL_sat h
  obtain ⟨ns, z2, h⟩ := oM_sat h
  obtain ⟨p, xs, rfl, e2, e3, _⟩ := rdL_ok R a z
  obtain rfl := asInts_ok e3 z2
  cases ns with
  | nil => exact h.elim
  | cons n ns =>
    refine ⟨p, n :: ns, rfl, e2, by simp, fun m hm hl => ?_⟩
    obtain ⟨k1, k2, k3⟩ := maxI_ge ns n
    have e : maxI n ns = m := by
      refine Int.le_antisymm ?_ ?_
      · rcases k3 with k3 | k3
        · rw [k3]
          exact hl n (by simp)
        · exact hl _ (List.mem_cons_of_mem _ k3)
      · rcases List.mem_cons.mp hm with rfl | hm
        · exact k1
        · exact k2 m hm
    rw [← e]
    exact h w H _ (Wd.le.refl w) R (.int _)
end
end PM
end
section
set_option Elab.async false
set_option linter.all false
set_option maxRecDepth 100000
namespace PM
open PySem L2 Evl
/-- things new since H0 become known -/
theorem Rel.learn {K : PySem.W.Frag} {w : Wd} {S : Sto} {H0 H : Hp} (r0 : Rel K w S H0) (e : Ex H0 H) (A : List Addr) (hA : ∀ a ∈ A, H0 a = none) : ∃ w' : Wd, w.le w' ∧ Rel K w' S H ∧ (∀ a ∈ A, w'.F a = H a) := by
  have r := r0.grow e
  have nF : ∀ a ∈ A, w.F a = none := fun a h => r0.fresh (hA a h)
  have nA : ∀ a o, H0 a = some o → a ∉ A := fun a o h z => by
    rw [hA a z] at h
    cases h
  have le : w.le ⟨fun a => if a ∈ A then H a else w.F a, w.B, w.U⟩ := ⟨fun a o h => by
    show (if a ∈ A then H a else w.F a) = some o
    rw [if_neg (fun z => by
      rw [nF a z] at h
      cases h)]
    exact h, List.prefix_rfl, rfl⟩
  refine ⟨_, le, ⟨fun a o h => ?_, r.len, r.nd, r.used, fun n a c h1 h2 h3 => ?_, fun a o h => ?_⟩, fun a h => if_pos h⟩
  · have h : (if a ∈ A then H a else w.F a) = some o := h
    by_cases z : a ∈ A
    · rw [if_pos z] at h
      exact h
    · rw [if_neg z] at h
      exact r.ex a o h
  · obtain ⟨g1, g2⟩ := r.cell n a c h1 h2 h3
    obtain ⟨u, hu⟩ := r0.used a (List.mem_of_getElem? h1)
    refine ⟨?_, g2.up le rfl⟩
    show (if a ∈ A then H a else w.F a) = none
    rw [if_neg (nA a u hu)]
    exact g1
  · obtain ⟨k1, k2, k3⟩ := r.hid a o h
    refine ⟨k1, ?_, k3⟩
    show (if a ∈ A then H a else w.F a) = none
    rw [if_neg (nA a o (r0.hid a o h).1)]
    exact k2
section
variable {X : Cx} {C : Ct} {ta tb tc te : TE} {a b c : Expr} {ma mb mc : Env → M D} {pos : Pos}
/-! ### isinstance -/
abbrev Ty := String ⊕ Str
def bks : List String := ["NoneType", "bool", "int", "str", "tuple", "list"]
def bts : List String := ["bool", "int", "str", "tuple", "list", "dict"]
def kitP (s n : String) : Bool := s == n || (s == "bool" && n == "int")
theorem kitAll : (bks.all fun s => bts.all fun n => decide (kitB s n = some (kitP s n))) = true := by decide +kernel
structure KT (K : PySem.W.Frag) (own : List Str) (sub : Str → Str → Bool) : Prop where
  ty : ∀ c ∈ own, WD.OwnTy K c
  ob : ∀ c ∈ own, ∀ n ∈ bts, PySem.W.kitOne K (.ref (He.ga K c)) (.type n) = some false
  bo : ∀ c ∈ own, ∀ s ∈ bks, PySem.W.kitOne K (.type s) (.ref (He.ga K c)) = some false
  oo : ∀ c ∈ own, ∀ c' ∈ own, PySem.W.kitOne K (.ref (He.ga K c)) (.ref (He.ga K c')) = some (sub c c')
def tyv (K : PySem.W.Frag) : Ty → Value
  | .inl n => .type n
  | .inr c => .ref (He.ga K c)
def tV (K : PySem.W.Frag) : Ty → V
  | .inl n => .ty n
  | .inr c => .ref (He.ga K c)
theorem clsV {K : PySem.W.Frag} : ∀ t : Ty, ClsV (tV K t) (tyv K t)
  | .inl n => .ty n
  | .inr c => .own _
def okT (own : List Str) : Ty → Bool
  | .inl n => bts.contains n
  | .inr c => own.contains c
def okK (own : List Str) : Ty → Bool
  | .inl n => bks.contains n
  | .inr c => own.contains c
def isK (sub : Str → Str → Bool) : Ty → Ty → Bool
  | .inl s, .inl n => kitP s n
  | .inr c, .inr c' => sub c c'
  | _, _ => false
theorem kit_is {K : PySem.W.Frag} {own : List Str} {sub : Str → Str → Bool} (T : KT K own sub) {k t : Ty} (hk : okK own k = true) (ht : okT own t = true) : PySem.W.kitOne K (tyv K k) (tyv K t) = some (isK sub k t) := by
  cases k with
  | inl s =>
    cases t with
    | inl n => exact kit_ty (of_decide_eq_true (List.all_eq_true.mp (List.all_eq_true.mp kitAll s (List.contains_iff_mem.mp hk)) n (List.contains_iff_mem.mp ht)))
    | inr c => exact T.bo c (List.contains_iff_mem.mp ht) s (List.contains_iff_mem.mp hk)
  | inr c =>
    cases t with
    | inl n => exact T.ob c (List.contains_iff_mem.mp hk) n (List.contains_iff_mem.mp ht)
    | inr c' => exact T.oo c (List.contains_iff_mem.mp hk) c' (List.contains_iff_mem.mp ht)
def kindOf (S : Sto) : D → Option Ty
  | .non => some (.inl "NoneType")
  | .bl _ => some (.inl "bool")
  | .int _ => some (.inl "int")
  | .str _ => some (.inl "str")
  | .tup _ => some (.inl "tuple")
  | .lst _ => some (.inl "list")
  | .scr _ => some (.inl "list")
  | .obj c _ => some (.inr c)
  | .ptr n => match S[n]? with
    | some (.lst _) => some (.inl "list")
    | some (.obj c _) => some (.inr c)
    | _ => none
theorem ins_ty {K : PySem.W.Frag} {own : List Str} {sub : Str → Str → Bool} (T : KT K own sub) {H : Hp} {p dx : Addr} {c : Str} {fs : List (Str × V)} (h : H p = some (.ins (He.ga K c) dx fs)) (hc : own.contains c = true) : TyX K H (.ref p) (.ref (He.ga K c)) := by
  have o := T.ty c (List.contains_iff_mem.mp hc)
  exact .base (.ins h o.cl o.ha o.hn o.ht o.hm)
theorem ty_of {K : PySem.W.Frag} {own : List Str} {sub : Str → Str → Bool} (T : KT K own sub) {w : Wd} {S : Sto} {H : Hp} {v : V} {d : D} {k : Ty} (R : Rel K w S H) (a : VR K w v d) (h : kindOf S d = some k) (hk : okK own k = true) : TyX K H v (tyv K k) := by
  cases a with
  | non => cases h; exact .base .non
  | bl b => cases h; exact .base (.bl b)
  | int b => cases h; exact .base (.int b)
  | str b => cases h; exact .base (.str b)
  | tup s as => cases h; exact WD.sqT_ty (ex_t R.ex s)
  | lst s as => cases h; exact WD.rdL_ty (.inl (R.ex _ _ s))
  | scr s => cases h; exact WD.rdL_ty (ex_rd R.ex s)
  | obj s as => cases h; exact ins_ty T (R.ex _ _ s) hk
  | @ptr p n hb =>
    cases q : S[n]? with
    | none => simp [kindOf, q] at h
    | some cc =>
      cases cc with
      | lst ds =>
        simp [kindOf, q] at h
        subst h
        obtain ⟨_, xs, hx, _⟩ := R.cell _ _ _ hb q rfl
        exact WD.rdL_ty (.inl hx)
      | obj c fs =>
        simp [kindOf, q] at h
        subst h
        obtain ⟨_, dx, fvs, hx, _⟩ := R.cell _ _ _ hb q rfl
        exact ins_ty T hx hk
      | dead => simp [kindOf, q] at h
def dIs (own : List Str) (sub : Str → Str → Bool) (ts : List Ty) (x : D) : M D := fun S => oM (kindOf S x) (fun k => gd (okK own k = true) (ret (.bl (ts.any (isK sub k))))) S
theorem ce_is {e2 : Expr} {p : Pos} {own : List Str} {sub : Str → Str → Bool} (T : KT C.K own sub) (t : Ty) (ht : okT own t = true) (h2 : PE X e2 (tC (tV C.K t))) (hg : Gl X "isinstance") (hm : X.mg "isinstance" = none) (ha : CE X C a ta ma)
    (hv : bootBuiltins "isinstance" = some (.builtin "isinstance") := by decide +kernel) (hs : starEach [a, e2] X.env = (false, eval a X.env) :: starEach [e2] X.env := by rfl) (hs2 : starEach [e2] X.env = (false, eval e2 X.env) :: starEach [] X.env := by rfl) (hpl : (backTo pos (starEach [e2] X.env)).any (·.1) = false := by rfl) :
    CE X C (.Call (.Name "isinstance" p) [a, e2] [] pos) (tCB (rIsi C.K) (tCons ta (tCons (tC (tV C.K t)) tNil))) (e1 (dIs own sub [t]) ma) := ⟨ha.hK, fun y => pe_callB (by rw [← ha.hK]; exact call_isi) hg hm hv (pa_cons (ha.pe y) (pa_cons h2 pa_nil hs2) hs) (by decide) (by decide) hs hpl, fun e σ w S H Q E R h => by
  have h := sat_then.mp h
  refine ha.sn e σ w S H _ E R (h.imp (fun d S1 h1 w1 H1 v l1 R1 r1 => ?_) (fun x s hx => hx))
  obtain ⟨k, z, h1⟩ := oM_sat h1
  obtain ⟨ok, h1⟩ := gd_sat h1
  refine ⟨v, _, _, _, isK sub k t, rfl, clsV t, ty_of T R1 r1 z ok, kit_is T ok ht, ?_⟩
  have := h1 w1 H1 _ l1 R1 (.bl _)
  simp only [List.any_cons, List.any_nil, Bool.or_false] at this
  exact this⟩
theorem ce_isT {e2 e3 : Expr} {p pt : Pos} {kk : Nat} {own : List Str} {sub : Str → Str → Bool} (T : KT C.K own sub) (t u : Ty) (ht : okT own t = true) (hu : okT own u = true) (h2 : PE X e2 (tC (tV C.K t))) (h3 : PE X e3 (tC (tV C.K u))) (hg : Gl X "isinstance") (hm : X.mg "isinstance" = none) (ha : CE X C a ta ma)
    (hv : bootBuiltins "isinstance" = some (.builtin "isinstance") := by decide +kernel) (hs2 : starEach [e2, e3] X.env = (false, eval e2 X.env) :: starEach [e3] X.env := by rfl) (hs3 : starEach [e3] X.env = (false, eval e3 X.env) :: starEach [] X.env := by rfl)
    (hs : starEach [a, .Tuple [e2, e3] kk pt] X.env = (false, eval a X.env) :: starEach [.Tuple [e2, e3] kk pt] X.env := by rfl) (hs4 : starEach [.Tuple [e2, e3] kk pt] X.env = (false, eval (.Tuple [e2, e3] kk pt) X.env) :: starEach [] X.env := by rfl) (hpl : (backTo pos (starEach [.Tuple [e2, e3] kk pt] X.env)).any (·.1) = false := by rfl) :
    CE X C (.Call (.Name "isinstance" p) [a, .Tuple [e2, e3] kk pt] [] pos) (tCB (rIsiT C.K) (tCons ta (tCons (tTup (tCons (tC (tV C.K t)) (tCons (tC (tV C.K u)) tNil))) tNil))) (e1 (dIs own sub [t, u]) ma) := ⟨ha.hK, fun y => pe_callB (by rw [← ha.hK]; exact call_isiT) hg hm hv (pa_cons (ha.pe y) (pa_cons (pe_tup (pa_cons h2 (pa_cons h3 pa_nil hs3) hs2)) pa_nil hs4) hs) (by decide) (by decide) hs hpl, fun e σ w S H Q E R h => by
  have h := sat_then.mp h
  refine ha.sn e σ w S H _ E R (h.imp (fun d S1 h1 w1 H1 v l1 R1 r1 => ?_) (fun x s hx => hx))
  obtain ⟨k, z, h1⟩ := oM_sat h1
  obtain ⟨ok, h1⟩ := gd_sat h1
  refine ⟨by show 2 ≤ sizeLine; decide, fun q hq => ?_⟩
  obtain ⟨le, R2⟩ := R1.plus (o := .tup [tV C.K t, tV C.K u]) hq
  refine ⟨v, q, _, _, _, (isK sub k t || isK sub k u), rfl, upd_same, .cons (clsV t) (.cons (clsV u) .nil), ty_of T R2 (r1.up le) z ok, ?_, ?_⟩
  · refine kitAny_cons (b := isK sub k t) (kit_is T ok ht) (fun z => ?_) (fun z => by rw [z]; rfl)
    rw [z, Bool.false_or]
    exact kitAny_cons (b := isK sub k u) (kit_is T ok hu) (fun z => by rw [z]; exact kitAny_nil) (fun z => z)
  · have := h1 _ _ _ (l1.trans le) R2 (.bl _)
    simp only [List.any_cons, List.any_nil, Bool.or_false] at this
    exact this⟩
/-! ### lists of some making -/
theorem ce_listRev {p p2 pos2 : Pos} (hc : X.calm = true) (hg : Gl X "list") (hm : X.mg "list" = none) (hg2 : Gl X "reversed") (hm2 : X.mg "reversed" = none) (ha : CE X C a ta ma)
    (hs : starEach [a] X.env = (false, eval a X.env) :: starEach [] X.env := by rfl)
    (hs2 : starEach [.Call (.Name "reversed" p2) [a] [] pos2] X.env = (false, eval (.Call (.Name "reversed" p2) [a] [] pos2) X.env) :: starEach [] X.env := by rfl) :
    CE X C (.Call (.Name "list" p) [.Call (.Name "reversed" p2) [a] [] pos2] [] pos) (tListRev C.K ta) (e1 (fun d => wL d fun ds => ret (.lst ds.reverse)) ma) := ⟨ha.hK, fun y => by rw [← ha.hK]; exact pe_listRev hc hg hm hg2 hm2 (ha.pe y) hs hs2, fun e σ w S H Q E R h => by
  have h := sat_then.mp h
  refine ha.sn e σ w S H _ E R (h.imp (fun d S1 h1 w1 H1 v l1 R1 r1 => ?_) (fun x s hx => hx))
  obtain ⟨ds, z, h1⟩ := wL_sat h1
  obtain ⟨p, xs, rfl, e2, e3, _⟩ := rdL_ok R1 r1 z
  refine ⟨p, xs, rfl, e2, fun q hq => ?_⟩
  obtain ⟨le, R2⟩ := R1.plus (o := .lst xs.reverse) hq
  exact h1 _ _ _ (l1.trans le) R2 (.lst upd_same (e3.rev.up le))⟩
def rangeD (i j : Int) : List D := (List.range (j - i).toNat).map fun (k : Nat) => D.int (i + k)
def dRange : D → D → M D
  | .int i, .int j => gd (-1000000 ≤ i ∧ i ≤ 1000000 ∧ -1000000 ≤ j ∧ j ≤ 1000000) (ret (.lst (rangeD i j)))
  | _, _ => stuck
theorem VRs.map {K : PySem.W.Frag} {w : Wd} {α : Type} {f : α → V} {g : α → D} (h : ∀ a, VR K w (f a) (g a)) : ∀ xs : List α, VRs K w (xs.map f) (xs.map g)
  | [] => .nil
  | x :: xs => .cons (h x) (VRs.map h xs)
theorem ce_listRg {p p2 pos2 : Pos} (hc : X.calm = true) (hg : Gl X "list") (hm : X.mg "list" = none) (hg2 : Gl X "range") (hm2 : X.mg "range" = none) (ha : CE X C a ta ma) (hb : CE X C b tb mb)
    (na : starEach [a, b] X.env = (false, eval a X.env) :: starEach [b] X.env := by rfl) (nb : starEach [b] X.env = (false, eval b X.env) :: starEach [] X.env := by rfl) (hp : (backTo pos2 (starEach [b] X.env)).any (·.1) = false := by rfl)
    (nn : starEach [.Call (.Name "range" p2) [a, b] [] pos2] X.env = (false, eval (.Call (.Name "range" p2) [a, b] [] pos2) X.env) :: starEach [] X.env := by rfl) :
    CE X C (.Call (.Name "list" p) [.Call (.Name "range" p2) [a, b] [] pos2] [] pos) (tLstRg (tRg2 ta tb)) (e2 dRange ma mb) := ⟨ha.hK, fun y => pe_listRg hc hg hm (prg_2 hg2 hm2 (ha.pe y) (hb.pe y) na nb hp) nn, fun e σ w S H Q E R h => by
  have h := sat_then.mp h
  refine ha.sn e σ w S H _ E R (h.imp (fun d1 S1 h1 w1 H1 v1 l1 R1 r1 => ?_) (fun x s hx => hx))
  have h1 := sat_then.mp h1
  refine hb.sn e σ w1 S1 H1 _ (E.up l1) R1 (h1.imp (fun d2 S2 h2 w2 H2 v2 l2 R2 r2 => ?_) (fun x s hx => hx.up l1))
  have r1 := r1.up l2
  cases r1 with
  | int i =>
    cases r2 with
    | int j =>
      obtain ⟨cc, h2⟩ := gd_sat h2
      refine ⟨i, j, rfl, rfl, ⟨by omega, by omega, by omega, by omega, by omega⟩, fun q hq => ?_⟩
      obtain ⟨le, R'⟩ := R2.plus (o := .lst (rgV i j)) hq
      exact h2 _ _ _ ((l1.trans l2).trans le) R' (.lst upd_same (VRs.map (fun k => .int _) _))
    | _ => exact h2.elim
  | _ =>
    cases r2 <;> exact h2.elim⟩
/-- range(a, b, -1) -/
def dRangeB : List D → M D
  | [.int i, .int j, .int c] => gd (c = -1 ∧ -400000 ≤ i ∧ i ≤ 400000 ∧ -400000 ≤ j ∧ j ≤ i) (ret (.lst ((List.range (i - j).toNat).map fun (k : Nat) => D.int (i + k * -1))))
  | _ => stuck
theorem ce_listRg3 {p p2 pos2 : Pos} {tr : TA} {mr : Env → M (List D)} (hc : X.calm = true) (hg : Gl X "list") (hm : X.mg "list" = none) (hg2 : Gl X "range") (hm2 : X.mg "range" = none) (ha : CA X C [a, b, c] tr mr)
    (hs : starEach [a, b, c] X.env = (false, eval a X.env) :: starEach [b, c] X.env := by rfl) (hpl : (backTo pos2 (starEach [b, c] X.env)).any (·.1) = false := by rfl)
    (hs2 : starEach [.Call (.Name "range" p2) [a, b, c] [] pos2] X.env = (false, eval (.Call (.Name "range" p2) [a, b, c] [] pos2) X.env) :: starEach [] X.env := by rfl) (hK : X.K = C.K := by rfl) :
    CE X C (.Call (.Name "list" p) [.Call (.Name "range" p2) [a, b, c] [] pos2] [] pos) (tListRg3 tr) (eA dRangeB mr) := ⟨hK, fun y => pe_listRg3 hc hg hm hg2 hm2 (ha.pa y) hs hpl hs2, fun e σ w S H Q E R h => by
  have h := sat_then.mp h
  refine ha.sn e σ w S H _ E R (h.imp (fun ds S1 h1 w1 H1 vs l1 R1 rs => ?_) (fun x s hx => hx))
  unfold dRangeB at h1
  split at h1
  · obtain ⟨cc, h2⟩ := gd_sat h1
    obtain ⟨ce, c1, c2, c3, c4⟩ := cc
    subst ce
    rename_i i j
    cases rs with
    | cons a1 rs =>
      cases rs with
      | cons a2 rs =>
        cases rs with
        | cons a3 rs =>
          cases rs
          cases a1
          cases a2
          cases a3
          refine ⟨i, j, -1, (i - j).toNat, rfl, RgC.neg (by omega) (by omega) (by omega) (by omega), by omega, fun q hq => ?_⟩
          obtain ⟨le, R'⟩ := R1.plus (o := .lst ((List.range (i - j).toNat).map fun k => V.int (i + (k : Nat) * -1))) hq
          exact h2 _ _ _ (l1.trans le) R' (.lst upd_same (VRs.map (fun k => .int _) _))
  · exact h1.elim⟩
/-- list(zip(a, b)) of lists as long as one another -/
def zipD (xs ys : List D) : List D := (xs.zip ys).map fun p => D.tup [p.1, p.2]
def dZipL : List D → M D
  | [x, y] => wL x fun xs => wL y fun ys => gd (xs.length = ys.length) (ret (.lst (zipD xs ys)))
  | _ => stuck
theorem zip_vrs {K : PySem.W.Frag} {w : Wd} : ∀ {ts : List Addr} {xs ys : List V} {ds es : List D}, VRs K w xs ds → VRs K w ys es → ts.length = xs.length → xs.length = ys.length →
    (∀ (j : Nat) (t : Addr) (x y : V), ts[j]? = some t → xs[j]? = some x → ys[j]? = some y → SqT K w.F t [x, y]) → VRs K w (ts.map V.ref) (zipD ds es)
  | [], _, _, _, _, .nil, .nil, _, _, _ => .nil
  | t :: ts, _, _, _, _, .cons a as, .cons b bs, h1, h2, h => .cons (.tup (h 0 t _ _ rfl rfl rfl) (.cons a (.cons b .nil))) (zip_vrs as bs (by simpa using h1) (by simpa using h2) fun j t x y e1 e2 e3 => h (j + 1) t x y (by simpa using e1) (by simpa using e2) (by simpa using e3))
  | [], _, _, _, _, .cons _ _, _, h1, _, _ => by simp at h1
  | _ :: _, _, _, _, _, .nil, _, h1, _, _ => by simp at h1
  | _, _, _, _, _, .nil, .cons _ _, _, h2, _ => by simp at h2
  | _, _, _, _, _, .cons _ _, .nil, _, h2, _ => by simp at h2
theorem ce_listZip {p p2 pos2 : Pos} {tr : TA} {mr : Env → M (List D)} (hc : X.calm = true) (ha : CA X C [a, b] tr mr) (hg : Gl X "list") (hm : X.mg "list" = none) (hgz : Gl X "zip") (hmz : X.mg "zip" = none)
    (hs : starEach [.Call (.Name "zip" p2) [a, b] [] pos2] X.env = (false, eval (.Call (.Name "zip" p2) [a, b] [] pos2) X.env) :: starEach [] X.env := by rfl)
    (hs2 : starEach [a, b] X.env = (false, eval a X.env) :: starEach [b] X.env := by rfl) (hpl : (backTo pos2 (starEach [b] X.env)).any (·.1) = false := by rfl) (hK : X.K = C.K := by rfl) :
    CE X C (.Call (.Name "list" p) [.Call (.Name "zip" p2) [a, b] [] pos2] [] pos) (ZL.tListZip C.K tr) (eA dZipL mr) := ⟨hK, fun y => by rw [← hK]; exact ZL.pe_listZip hc (ha.pa y) hg hm hgz hmz hs hs2 hpl, fun e σ w S H Q E R h => by
  have h := sat_then.mp h
  refine ha.sn e σ w S H _ E R (h.imp (fun ds S1 h1 w1 H1 vs l1 R1 rs => ?_) (fun x s hx => hx))
  unfold dZipL at h1
  split at h1
  · obtain ⟨xs, z1, h1⟩ := wL_sat h1
    obtain ⟨ys, z2, h1⟩ := wL_sat h1
    obtain ⟨hl, h1⟩ := gd_sat h1
    cases rs with
    | cons a1 rs =>
      cases rs with
      | cons a2 rs =>
        cases rs
        obtain ⟨p, vs1, rfl, e2, e3, _⟩ := rdL_ok R1 a1 z1
        obtain ⟨q, vs2, rfl, f2, f3, _⟩ := rdL_ok R1 a2 z2
        refine ⟨p, q, vs1, vs2, rfl, e2, f2, by rw [e3.len, f3.len, hl], fun H' r ts ex hr hts hn hp hlen htup => ?_⟩
        obtain ⟨w', l', R', kn⟩ := R1.learn ex (r :: ts) fun a ha => by
          rcases List.mem_cons.mp ha with rfl | ha
          · exact hr
          · exact hts a ha
        refine h1 w' H' _ (l1.trans l') R' (.lst ((kn r (by simp)).trans hp) (zip_vrs (e3.up l') (f3.up l') hlen (by rw [e3.len, f3.len, hl]) fun j t x y g1 g2 g3 => st_of ((kn t (List.mem_cons_of_mem _ (List.mem_of_getElem? g1))).trans (htup j t x y g1 g2 g3))))
  · exact h1.elim⟩
end
end PM
end
section
set_option Elab.async false
set_option linter.all false
set_option maxRecDepth 100000
namespace PM
open PySem L2 Evl
/-! ### worlds, whatever is hidden -/
structure Wd.le0 (w w' : Wd) : Prop where
  f : Ex w.F w'.F
  b : w.B <+: w'.B
theorem Wd.le.z {w w' : Wd} (h : w.le w') : w.le0 w' := ⟨h.f, h.b⟩
theorem Wd.le0.trans {a b c : Wd} (h : a.le0 b) (g : b.le0 c) : a.le0 c := ⟨h.f.trans g.f, h.b.trans g.b⟩
theorem Wd.le0.hide {w w' : Wd} {p : Addr} {o : HO} (h : w.le0 w') : w.le0 (w'.hide p o) := ⟨h.f, h.b⟩
section
variable {K : PySem.W.Frag} {w w' : Wd} {S : Sto} {H H' : Hp}
theorem VR.up0 (e : w.le0 w') {v : V} {d : D} (h : VR K w v d) : VR K w' v d := VR.via (w := ⟨w'.F, w'.B, w.U⟩) (w' := w') ⟨rfl, rfl⟩ (h.up (w' := ⟨w'.F, w'.B, w.U⟩) ⟨e.f, e.b, rfl⟩)
theorem VRs.up0 (e : w.le0 w') {v : List V} {d : List D} (h : VRs K w v d) : VRs K w' v d := VRs.via (w := ⟨w'.F, w'.B, w.U⟩) (w' := w') ⟨rfl, rfl⟩ (h.up (w' := ⟨w'.F, w'.B, w.U⟩) ⟨e.f, e.b, rfl⟩)
theorem ErR.up0 {x : Er} {c : Value} {dd : Option Addr} (e : w.le0 w') (h : ErR K w x c dd) : ErR K w' x c dd := by
  refine ⟨h.1, ?_⟩
  have h2 := h.2
  cases q : x.arg with
  | none => trivial
  | some p =>
    rw [q] at h2
    obtain ⟨a, v, h3, h4, h5⟩ := h2
    exact ⟨a, v, h3, e.f _ _ h4, h5.up0 e⟩
theorem EnvR.up0 {C : Ct} {σ : L2.St} {e : Env} (l : w.le0 w') (h : EnvR C w σ e) : EnvR C w' σ e := ⟨h.len, fun i d q => by
  obtain ⟨v, h1, h2⟩ := h.sl i d q
  exact ⟨v, h1, h2.up0 l⟩, fun i x q => ⟨(h.ex i x q).1, (h.ex i x q).2.up0 l⟩⟩
/-- what was hidden becomes known -/
theorem Rel.known {p : Addr} {o : HO} (r : Rel K (w.hide p o) S H) (hu : w.U p = none) : w.le (w.plus p o) ∧ Rel K (w.plus p o) S H := by
  obtain ⟨k1, k2, k3⟩ := r.hid p o upd_same
  have le : w.le (w.plus p o) := Wd.le_plus k2
  have r2 := r.unhide (fun a u h z => by
    rw [z, hu] at h
    cases h)
  refine ⟨le, fun a u e => ?_, r.len, r.nd, r.used, fun n a c h1 h2 h3 => ?_, fun a u h => ?_⟩
  · have e : upd w.F p o a = some u := e
    by_cases q : a = p
    · subst q
      rw [upd_same] at e
      cases e
      exact k1
    · rw [upd_ne q] at e
      exact r2.ex a u e
  · obtain ⟨g1, g2⟩ := r2.cell n a c h1 h2 h3
    have ne : a ≠ p := fun z => k3 (z ▸ List.mem_of_getElem? h1)
    exact ⟨show upd w.F p o a = none by rw [upd_ne ne]; exact g1, g2.up le rfl⟩
  · obtain ⟨m1, m2, m3⟩ := r2.hid a u h
    have ne : a ≠ p := fun z => by
      have h' : w.U a = some u := h
      rw [z, hu] at h'
      cases h'
    exact ⟨m1, show upd w.F p o a = none by rw [upd_ne ne]; exact m2, m3⟩
/-- .. becomes a cell -/
theorem Rel.celled {p : Addr} {o : HO} {c : Cell} (r : Rel K (w.hide p o) S H) (hu : w.U p = none) (hc : CellOk K w H p c) : Rel K (w.cell p) (S ++ [c]) H := by
  obtain ⟨k1, k2, k3⟩ := r.hid p o upd_same
  have r2 := r.unhide (fun a u h z => by
    rw [z, hu] at h
    cases h)
  refine ⟨r2.ex, by simp [Wd.cell, r2.len], ?_, fun a ha => ?_, fun n a c' h1 h2 h3 => ?_, fun a u h => ?_⟩
  · exact List.nodup_append.mpr ⟨r2.nd, by simp, fun a ha b hb => by
      rw [List.mem_singleton.mp hb]
      exact fun z => k3 (z ▸ ha)⟩
  · rcases List.mem_append.mp ha with ha | ha
    · exact r2.used a ha
    · rw [List.mem_singleton.mp ha]
      exact ⟨o, k1⟩
  · have h1' : (w.B ++ [p])[n]? = some a := h1
    by_cases hn : n < w.B.length
    · rw [List.getElem?_append_left hn] at h1'
      rw [List.getElem?_append_left (by rw [← r2.len]; exact hn)] at h2
      obtain ⟨g1, g2⟩ := r2.cell n a c' h1' h2 h3
      exact ⟨g1, g2.up Wd.le_cell rfl⟩
    · have e : n = w.B.length := by
        have := (List.getElem?_eq_some_iff.mp h1').1
        simp at this
        omega
      subst e
      rw [List.getElem?_append_right (Nat.le_refl _), Nat.sub_self] at h1'
      rw [List.getElem?_append_right (by rw [r2.len]; exact Nat.le_refl _), r2.len, Nat.sub_self] at h2
      cases h1'
      cases h2
      exact ⟨k2, hc.up Wd.le_cell rfl⟩
  · obtain ⟨m1, m2, m3⟩ := r2.hid a u h
    refine ⟨m1, m2, fun z => ?_⟩
    rcases List.mem_append.mp (show a ∈ w.B ++ [p] from z) with z | z
    · exact m3 z
    · rw [List.mem_singleton.mp z] at h
      have h : w.U p = some u := h
      rw [hu] at h
      cases h
end
/-! ### the same data -/
mutual
def D.same : D → D → Bool
  | .non, .non => true
  | .bl a, .bl b => a == b
  | .int a, .int b => decide (a = b)
  | .str a, .str b => decide (a = b)
  | .tup a, .tup b => D.sames a b
  | .lst a, .lst b => D.sames a b
  | .obj c a, .obj c' b => decide (c = c') && D.samef a b
  | .ptr a, .ptr b => decide (a = b)
  | .scr a, .scr b => decide (a = b)
  | _, _ => false
def D.sames : List D → List D → Bool
  | [], [] => true
  | a :: as, b :: bs => D.same a b && D.sames as bs
  | _, _ => false
def D.samef : List (Str × D) → List (Str × D) → Bool
  | [], [] => true
  | (n, a) :: as, (m, b) :: bs => decide (n = m) && (D.same a b && D.samef as bs)
  | _, _ => false
end
mutual
theorem same_eq : ∀ {a b : D}, D.same a b = true → a = b
  | .non, b, h => by cases b <;> first | rfl | cases h
  | .bl a, b, h => by
    cases b with
    | bl b =>
      have h : (a == b) = true := h
      rw [eq_of_beq h]
    | _ => cases h
  | .int a, b, h => by
    cases b with
    | int b => rw [show a = b from of_decide_eq_true h]
    | _ => cases h
  | .str a, b, h => by
    cases b with
    | str b => rw [show a = b from of_decide_eq_true h]
    | _ => cases h
  | .tup a, b, h => by
    cases b with
    | tup b => rw [sames_eq (a := a) (b := b) h]
    | _ => cases h
  | .lst a, b, h => by
    cases b with
    | lst b => rw [sames_eq (a := a) (b := b) h]
    | _ => cases h
  | .obj c a, b, h => by
    cases b with
    | obj c' b =>
      obtain ⟨h1, h2⟩ := Bool.and_eq_true_iff.mp (show (decide (c = c') && D.samef a b) = true from h)
      rw [of_decide_eq_true h1, samef_eq (a := a) (b := b) h2]
    | _ => cases h
  | .ptr a, b, h => by
    cases b with
    | ptr b => rw [show a = b from of_decide_eq_true h]
    | _ => cases h
  | .scr a, b, h => by
    cases b with
    | scr b => rw [show a = b from of_decide_eq_true h]
    | _ => cases h
theorem sames_eq : ∀ {a b : List D}, D.sames a b = true → a = b
  | [], b, h => by cases b <;> first | rfl | cases h
  | x :: xs, b, h => by
    cases b with
    | nil => cases h
    | cons y ys =>
      obtain ⟨h1, h2⟩ := Bool.and_eq_true_iff.mp (show (D.same x y && D.sames xs ys) = true from h)
      rw [same_eq (a := x) (b := y) h1, sames_eq (a := xs) (b := ys) h2]
theorem samef_eq : ∀ {a b : List (Str × D)}, D.samef a b = true → a = b
  | [], b, h => by cases b <;> first | rfl | cases h
  | (n, x) :: xs, b, h => by
    cases b with
    | nil => cases h
    | cons y ys =>
      obtain ⟨m, y⟩ := y
      obtain ⟨h1, h2⟩ := Bool.and_eq_true_iff.mp (show (decide (n = m) && (D.same x y && D.samef xs ys)) = true from h)
      obtain ⟨h2, h3⟩ := Bool.and_eq_true_iff.mp h2
      rw [of_decide_eq_true h1, same_eq (a := x) (b := y) h2, samef_eq (a := xs) (b := ys) h3]
end
mutual
theorem same_refl : ∀ a : D, D.same a a = true
  | .non => rfl
  | .bl a => by
    show (a == a) = true
    simp
  | .int a => decide_eq_true rfl
  | .str a => decide_eq_true rfl
  | .tup a => sames_refl a
  | .lst a => sames_refl a
  | .obj c a => by
    show (decide (c = c) && D.samef a a) = true
    rw [decide_eq_true rfl, samef_refl a]
    rfl
  | .ptr a => decide_eq_true rfl
  | .scr a => decide_eq_true rfl
theorem sames_refl : ∀ a : List D, D.sames a a = true
  | [] => rfl
  | x :: xs => by
    show (D.same x x && D.sames xs xs) = true
    rw [same_refl x, sames_refl xs]
    rfl
theorem samef_refl : ∀ a : List (Str × D), D.samef a a = true
  | [] => rfl
  | (n, x) :: xs => by
    show (decide (n = n) && (D.same x x && D.samef xs xs)) = true
    rw [decide_eq_true rfl, same_refl x, samef_refl xs]
    rfl
end
/-! ### what is walked: the items, and the changing lists that they stand in (which must not change meanwhile) -/
structure Itm where
  ds : List D
  src : List (Nat × List D)
def okSrc (src : List (Nat × List D)) (S : Sto) : Bool := src.all fun p => match S[p.1]? with
  | some (.lst xs) => D.sames xs p.2
  | _ => false
@[simp] theorem okSrc_nil (S : Sto) : okSrc [] S = true := rfl
def rdS (S : Sto) : D → Option Itm
  | .lst ds => some ⟨ds, []⟩
  | .scr ns => some ⟨ns.map .int, []⟩
  | .ptr n => match S[n]? with
    | some (.lst ds) => some ⟨ds, [(n, ds)]⟩
    | _ => none
  | _ => none
def LR (K : PySem.W.Frag) (w : Wd) (a : Addr) (it : Itm) : Prop := ∀ (w' : Wd) (S : Sto) (H : Hp), w.le0 w' → Rel K w' S H → okSrc it.src S = true → ∃ xs, Rd H a (.lst xs) ∧ VRs K w' xs it.ds
def LT (K : PySem.W.Frag) (w : Wd) (a : Addr) (ds : List D) : Prop := ∀ (w' : Wd) (S : Sto) (H : Hp), w.le0 w' → Rel K w' S H → ∃ xs, SqT K H a xs ∧ VRs K w' xs ds
theorem lr_of {K : PySem.W.Frag} {w : Wd} {S : Sto} {H : Hp} {v : V} {d : D} {it : Itm} (R : Rel K w S H) (a : VR K w v d) (h : rdS S d = some it) : ∃ p, v = .ref p ∧ LR K w p it ∧ okSrc it.src S = true := by
  cases a with
  | lst s as =>
    cases h
    exact ⟨_, rfl, fun w' S' H' l R' _ => ⟨_, .inl (R'.ex _ _ (l.f _ _ s)), as.up0 l⟩, rfl⟩
  | scr s =>
    cases h
    exact ⟨_, rfl, fun w' S' H' l R' _ => ⟨_, ex_rd R'.ex (ex_rd l.f s), VRs.ints _⟩, rfl⟩
  | @ptr p n hb =>
    cases q : S[n]? with
    | none => simp [rdS, q] at h
    | some cc =>
      cases cc with
      | lst ds =>
        simp [rdS, q] at h
        subst h
        refine ⟨_, rfl, fun w' S' H' l R' ok => ?_, ?_⟩
        · have ok : (match S'[n]? with
            | some (.lst xs) => D.sames xs ds
            | _ => false) = true := by
            have := List.all_eq_true.mp ok (n, ds) (by simp)
            exact this
          cases z : S'[n]? with
          | none =>
            rw [z] at ok
            cases ok
          | some c2 =>
            rw [z] at ok
            cases c2 with
            | lst es =>
              obtain rfl := sames_eq ok
              obtain ⟨_, xs, hx, ax⟩ := R'.cell _ _ _ (pre_get l.b hb) z rfl
              exact ⟨xs, .inl hx, ax⟩
            | _ => cases ok
        · show ([(n, ds)] : List (Nat × List D)).all _ = true
          simp [q, sames_refl]
      | _ => simp [rdS, q] at h
  | _ => cases h
structure WalksR (K : PySem.W.Frag) (J : It) (w : Wd) (it : Itm) : Prop where
  go : ∀ (w' : Wd) (S : Sto) (H : Hp), w.le0 w' → Rel K w' S H → okSrc it.src S = true → ∀ (i : Nat) (d : D), it.ds[i]? = some d → J.go i H ∧ ∀ (x : V) (H' : Hp), J.yld i H x H' → ∃ w2 : Wd, w'.le w2 ∧ Rel K w2 S H' ∧ VR K w2 x d
  stop : ∀ (w' : Wd) (S : Sto) (H : Hp), w.le0 w' → Rel K w' S H → okSrc it.src S = true → J.stop it.ds.length H
def SndI (C : Ct) (wi : TI) (m : Env → M Itm) : Prop := ∀ (e : Env) (σ : L2.St) (w : Wd) (S : Sto) (H : Hp) (R : It → Hp → Prop), EnvR C w σ e → Rel C.K w S H →
  (m e S).sat (fun it S' => ∀ (w' : Wd) (H' : Hp) (J : It), w.le w' → Rel C.K w' S' H' → WalksR C.K J w' it → R J H') (PX C w σ) → wi σ H R
structure CI (X : Cx) (C : Ct) (tg iter : Expr) (wi : TI) (m : Env → M Itm) : Prop where
  hK : X.K = C.K
  pi : Hyp X C → PI X tg iter wi
  sn : SndI C wi m
section
variable {X : Cx} {C : Ct} {ta tb tc te : TE} {a b c tg : Expr} {ma mb mc : Env → M D} {pos : Pos}
theorem piOr {iter : Expr} {w1 w2 : TI} (h1 : PI X tg iter w1) (h2 : PI X tg iter w2) : PI X tg iter (fun σ H R => w1 σ H R ∨ w2 σ H R) := ⟨fun pins s σ H R I h => by
  rcases h with h | h
  · exact h1.run pins s σ H R I h
  · exact h2.run pins s σ H R I h⟩
theorem walks_list {K : PySem.W.Frag} {w : Wd} {p : Addr} {it : Itm} (h : LR K w p it) : WalksR K (Itl K p) w it := ⟨fun w' S H l R ok i d hd => by
  obtain ⟨xs, hx, ax⟩ := h w' S H l R ok
  obtain ⟨v, v1, v2⟩ := ax.get hd
  refine ⟨⟨xs, v, .inl hx, v1⟩, fun x H' hy => ?_⟩
  obtain ⟨rfl, h2⟩ := (show H' = H ∧ ∀ xs, SqL K H p xs → xs[i]? = some x from hy)
  have h3 := h2 xs (.inl hx)
  rw [v1] at h3
  cases h3
  exact ⟨w', Wd.le.refl _, R, v2⟩, fun w' S H l R ok => by
  obtain ⟨xs, hx, ax⟩ := h w' S H l R ok
  exact ⟨xs, .inl hx, by rw [ax.len]; exact Nat.le_refl _⟩⟩
theorem walks_tup {K : PySem.W.Frag} {w : Wd} {p : Addr} {ds : List D} (h : LT K w p ds) : WalksR K (Itt K p) w ⟨ds, []⟩ := ⟨fun w' S H l R ok i d hd => by
  obtain ⟨xs, hx, ax⟩ := h w' S H l R
  obtain ⟨v, v1, v2⟩ := ax.get hd
  refine ⟨⟨xs, v, hx, v1⟩, fun x H' hy => ?_⟩
  obtain ⟨rfl, h2⟩ := (show H' = H ∧ ∀ xs, SqT K H p xs → xs[i]? = some x from hy)
  have h3 := h2 xs hx
  rw [v1] at h3
  cases h3
  exact ⟨w', Wd.le.refl _, R, v2⟩, fun w' S H l R ok => by
  obtain ⟨xs, hx, ax⟩ := h w' S H l R
  exact ⟨xs, hx, by rw [ax.len]; exact Nat.le_refl _⟩⟩
theorem lt_of {K : PySem.W.Frag} {w : Wd} {v : V} {ds : List D} (a : VR K w v (.tup ds)) : ∃ p, v = .ref p ∧ LT K w p ds := by
  cases a with
  | tup s as => exact ⟨_, rfl, fun w' S' H' l R' => ⟨_, ex_t R'.ex (ex_t l.f s), as.up0 l⟩⟩
def itmOf (S : Sto) (d : D) : Option Itm := match d with
  | .tup ds => some ⟨ds, []⟩
  | d => rdS S d
theorem itmOf_list {d : D} {S : Sto} (h : ¬ ∃ ds, d = .tup ds) : itmOf S d = rdS S d := by
  cases d <;> first | rfl | exact absurd ⟨_, rfl⟩ h
def iSeq (a : Env → M D) (e : Env) : M Itm := bind (a e) fun d => fun S => oM (itmOf S d) ret S
theorem ci_seq (ha : CE X C a ta ma) : CI X C tg a (fun σ H R => iList C.K ta σ H R ∨ iTup C.K ta σ H R) (iSeq ma) := ⟨ha.hK, fun y => by rw [← ha.hK]; exact piOr (pi_list (ha.pe y)) (pi_tup (ha.pe y)), fun e σ w S H R E Rl h => by
  cases q : ma e S with
  | no =>
    simp only [iSeq, bind_ap, q] at h
    exact h.elim
  | er x s =>
    simp only [iSeq, bind_ap, q] at h
    refine .inl (ha.sn e σ w S H _ E Rl ?_)
    rw [q]
    exact h
  | ok d S1 =>
    simp only [iSeq, bind_ap, q, then_ok] at h
    by_cases ht : ∃ ds, d = .tup ds
    · obtain ⟨ds, rfl⟩ := ht
      refine .inr (ha.sn e σ w S H _ E Rl ?_)
      rw [q]
      intro w1 H1 v l1 R1 r1
      obtain ⟨p, rfl, hl⟩ := lt_of r1
      obtain ⟨xs, hx, _⟩ := hl w1 S1 H1 ⟨Ex.refl _, List.prefix_rfl⟩ R1
      exact ⟨p, rfl, ⟨xs, hx⟩, h w1 H1 _ l1 R1 (walks_tup hl)⟩
    · rw [itmOf_list ht] at h
      obtain ⟨it, z, h⟩ := oM_sat h
      refine .inl (ha.sn e σ w S H _ E Rl ?_)
      rw [q]
      intro w1 H1 v l1 R1 r1
      obtain ⟨p, rfl, hl, ok⟩ := lr_of R1 r1 z
      obtain ⟨xs, hx, _⟩ := hl w1 S1 H1 ⟨Ex.refl _, List.prefix_rfl⟩ R1 ok
      exact ⟨p, rfl, ⟨xs, .inl hx⟩, h w1 H1 _ l1 R1 (walks_list hl)⟩⟩
/-! enumerate, zip, range -/
def numD (ds : List D) : List D := (List.range ds.length).map fun i => D.tup [.int (i : Nat), ds.getD i .non]
theorem numD_get {ds : List D} {i : Nat} {x : D} (h : (numD ds)[i]? = some x) : ∃ d, ds[i]? = some d ∧ x = .tup [.int (i : Nat), d] := by
  unfold numD at h
  rw [List.getElem?_map] at h
  have hi : i < ds.length := by
    cases q : (List.range ds.length)[i]? with
    | none =>
      rw [q] at h
      cases h
    | some j =>
      have := (List.getElem?_eq_some_iff.mp q).1
      rwa [List.length_range] at this
  rw [List.getElem?_range hi] at h
  refine ⟨ds[i], List.getElem?_eq_getElem hi, ?_⟩
  have h : some (D.tup [.int (i : Nat), ds.getD i .non]) = some x := h
  cases h
  rw [List.getD_eq_getElem?_getD, List.getElem?_eq_getElem hi]
  rfl
theorem numD_len (ds : List D) : (numD ds).length = ds.length := by simp [numD]
def iNum (a : Env → M D) (e : Env) : M Itm := bind (iSeq a e) fun it => ret ⟨numD it.ds, it.src⟩
theorem walks_enum {K : PySem.W.Frag} {w : Wd} {p : Addr} {it : Itm} (h : LR K w p it) : WalksR K (Ite K p) w ⟨numD it.ds, it.src⟩ := ⟨fun w' S H l R ok i d hd => by
  obtain ⟨d, hd2, rfl⟩ := numD_get hd
  obtain ⟨xs, hx, ax⟩ := h w' S H l R ok
  obtain ⟨v, v1, v2⟩ := ax.get hd2
  refine ⟨⟨xs, v, .inl hx, v1⟩, fun x H' hy => ?_⟩
  obtain ⟨T, x1, rfl, nT, rfl, f1⟩ := hy
  have g1 := f1 xs (.inl hx)
  rw [v1] at g1
  cases g1
  obtain ⟨le, R2⟩ := R.plus (o := .tup [.int (i : Nat), v]) nT
  exact ⟨_, le, R2, .tup (st_of upd_same) (.cons (.int _) (.cons (v2.up le) .nil))⟩, fun w' S H l R ok => by
  obtain ⟨xs, hx, ax⟩ := h w' S H l R ok
  exact ⟨xs, .inl hx, by rw [ax.len, numD_len]; exact Nat.le_refl _⟩⟩
theorem walks_enumT {K : PySem.W.Frag} {w : Wd} {p : Addr} {ds : List D} (h : LT K w p ds) : WalksR K (EnT.IteT K p) w ⟨numD ds, []⟩ := ⟨fun w' S H l R ok i d hd => by
  obtain ⟨d, hd2, rfl⟩ := numD_get hd
  obtain ⟨xs, hx, ax⟩ := h w' S H l R
  obtain ⟨v, v1, v2⟩ := ax.get hd2
  refine ⟨⟨xs, v, hx, v1⟩, fun x H' hy => ?_⟩
  obtain ⟨T, x1, rfl, nT, rfl, f1⟩ := hy
  have g1 := f1 xs hx
  rw [v1] at g1
  cases g1
  obtain ⟨le, R2⟩ := R.plus (o := .tup [.int (i : Nat), v]) nT
  exact ⟨_, le, R2, .tup (st_of upd_same) (.cons (.int _) (.cons (v2.up le) .nil))⟩, fun w' S H l R ok => by
  obtain ⟨xs, hx, ax⟩ := h w' S H l R
  exact ⟨xs, hx, by rw [ax.len, numD_len]; exact Nat.le_refl _⟩⟩
theorem ci_num {elts : List Expr} {kk : Nat} {p tpos : Pos} (hg : Gl X "enumerate") (hm : X.mg "enumerate" = none) (ha : CE X C a ta ma) (hs : starEach [a] X.env = [(false, eval a X.env)] := by rfl) :
    CI X C (.Tuple elts kk tpos) (.Call (.Name "enumerate" p) [a] [] pos) (fun σ H R => iEnum C.K (tCons ta tNil) σ H R ∨ EnT.iEnumT C.K (tCons ta tNil) σ H R) (iNum ma) := ⟨ha.hK, fun y => by rw [← ha.hK]; exact piOr (pi_enum hg hm (pa_cons (ha.pe y) pa_nil hs) hs) (EnT.pi_enumT hg hm (pa_cons (ha.pe y) pa_nil hs) hs), fun e σ w S H R E Rl h => by
  cases q : ma e S with
  | no =>
    simp only [iNum, iSeq, bind_ap, q] at h
    exact h.elim
  | er x s =>
    simp only [iNum, iSeq, bind_ap, q] at h
    refine .inl (ha.sn e σ w S H _ E Rl ?_)
    rw [q]
    exact h
  | ok d S1 =>
    simp only [iNum, iSeq, bind_ap, q, then_ok] at h
    by_cases ht : ∃ ds, d = .tup ds
    · obtain ⟨ds, rfl⟩ := ht
      refine .inr (ha.sn e σ w S H _ E Rl ?_)
      rw [q]
      intro w1 H1 v l1 R1 r1
      obtain ⟨p, rfl, hl⟩ := lt_of r1
      obtain ⟨xs, hx, _⟩ := hl w1 S1 H1 ⟨Ex.refl _, List.prefix_rfl⟩ R1
      exact ⟨p, xs, rfl, hx, h w1 H1 _ l1 R1 (walks_enumT hl)⟩
    · rw [itmOf_list ht] at h
      obtain ⟨it, z, h⟩ := oM_sat (sat_then.mp h)
      refine .inl (ha.sn e σ w S H _ E Rl ?_)
      rw [q]
      intro w1 H1 v l1 R1 r1
      obtain ⟨p, rfl, hl, ok⟩ := lr_of R1 r1 z
      obtain ⟨xs, hx, _⟩ := hl w1 S1 H1 ⟨Ex.refl _, List.prefix_rfl⟩ R1 ok
      exact ⟨p, xs, rfl, .inl hx, h w1 H1 _ l1 R1 (walks_enum hl)⟩⟩
theorem zipD_get {xs ys : List D} {i : Nat} {x : D} (h : (zipD xs ys)[i]? = some x) : ∃ d e, xs[i]? = some d ∧ ys[i]? = some e ∧ x = .tup [d, e] := by
  unfold zipD at h
  rw [List.getElem?_map] at h
  cases q : (xs.zip ys)[i]? with
  | none =>
    rw [q] at h
    cases h
  | some p =>
    rw [q] at h
    cases h
    obtain ⟨h1, h2⟩ := List.getElem?_zip_eq_some.mp q
    exact ⟨_, _, h1, h2, rfl⟩
def iZip2 (a : Env → M (List D)) (e : Env) : M Itm := bind (a e) fun ds => match ds with
  | [.tup xs, .tup ys] => ret ⟨zipD xs ys, []⟩
  | [x, y] => fun S => oM (rdS S x) (fun i => oM (rdS S y) (fun j => ret ⟨zipD i.ds j.ds, i.src ++ j.src⟩)) S
  | _ => stuck
theorem okSrc_app {a b : List (Nat × List D)} {S : Sto} : okSrc (a ++ b) S = true ↔ okSrc a S = true ∧ okSrc b S = true := by
  unfold okSrc
  rw [List.all_append, Bool.and_eq_true]
theorem walks_zip {K : PySem.W.Frag} {w : Wd} {p q : Addr} {it jt : Itm} (h : LR K w p it) (h' : LR K w q jt) : WalksR K (Itz K p q) w ⟨zipD it.ds jt.ds, it.src ++ jt.src⟩ := ⟨fun w' S H l R ok i d hd => by
  obtain ⟨d1, d2, g1, g2, rfl⟩ := zipD_get hd
  obtain ⟨o1, o2⟩ := okSrc_app.mp ok
  obtain ⟨xs, hx, ax⟩ := h w' S H l R o1
  obtain ⟨ys, hy, ay⟩ := h' w' S H l R o2
  obtain ⟨v, v1, v2⟩ := ax.get g1
  obtain ⟨u, u1, u2⟩ := ay.get g2
  refine ⟨⟨xs, ys, v, u, .inl hx, .inl hy, v1, u1⟩, fun x H' hy' => ?_⟩
  obtain ⟨T, x1, x2, rfl, nT, rfl, f1, f2⟩ := hy'
  have k1 := f1 xs (.inl hx)
  have k2 := f2 ys (.inl hy)
  rw [v1] at k1
  rw [u1] at k2
  cases k1
  cases k2
  obtain ⟨le, R2⟩ := R.plus (o := .tup [v, u]) nT
  exact ⟨_, le, R2, .tup (st_of upd_same) (.cons (v2.up le) (.cons (u2.up le) .nil))⟩, fun w' S H l R ok => by
  obtain ⟨o1, o2⟩ := okSrc_app.mp ok
  obtain ⟨xs, hx, ax⟩ := h w' S H l R o1
  obtain ⟨ys, hy, ay⟩ := h' w' S H l R o2
  refine ⟨xs, ys, .inl hx, .inl hy, ?_⟩
  rw [ax.len, ay.len]
  simp only [zipD, List.length_map, List.length_zip]
  omega⟩
theorem walks_zipT {K : PySem.W.Frag} {w : Wd} {p q : Addr} {ds es : List D} (h : LT K w p ds) (h' : LT K w q es) : WalksR K (RZ.ItzT K p q) w ⟨zipD ds es, []⟩ := ⟨fun w' S H l R ok i d hd => by
  obtain ⟨d1, d2, g1, g2, rfl⟩ := zipD_get hd
  obtain ⟨xs, hx, ax⟩ := h w' S H l R
  obtain ⟨ys, hy, ay⟩ := h' w' S H l R
  obtain ⟨v, v1, v2⟩ := ax.get g1
  obtain ⟨u, u1, u2⟩ := ay.get g2
  refine ⟨⟨xs, ys, v, u, hx, hy, v1, u1⟩, fun x H' hy' => ?_⟩
  obtain ⟨T, x1, x2, rfl, nT, rfl, f1, f2⟩ := hy'
  have k1 := f1 xs hx
  have k2 := f2 ys hy
  rw [v1] at k1
  rw [u1] at k2
  cases k1
  cases k2
  obtain ⟨le, R2⟩ := R.plus (o := .tup [v, u]) nT
  exact ⟨_, le, R2, .tup (st_of upd_same) (.cons (v2.up le) (.cons (u2.up le) .nil))⟩, fun w' S H l R ok => by
  obtain ⟨xs, hx, ax⟩ := h w' S H l R
  obtain ⟨ys, hy, ay⟩ := h' w' S H l R
  refine ⟨xs, ys, hx, hy, ?_⟩
  rw [ax.len, ay.len]
  simp only [zipD, List.length_map, List.length_zip]
  omega⟩
theorem ci_zip {elts : List Expr} {kk : Nat} {p tpos : Pos} {tr : TA} {mr : Env → M (List D)} (hg : Gl X "zip") (hm : X.mg "zip" = none) (ha : CA X C [a, b] tr mr)
    (hs : starEach [a, b] X.env = (false, eval a X.env) :: starEach [b] X.env := by rfl) (hpl : (backTo pos (starEach [b] X.env)).any (·.1) = false := by rfl) (hK : X.K = C.K := by rfl) :
    CI X C (.Tuple elts kk tpos) (.Call (.Name "zip" p) [a, b] [] pos) (RZ.iZipA C.K tr) (iZip2 mr) := ⟨hK, fun y => by rw [← hK]; exact RZ.pi_zipA hg hm (ha.pa y) hs hpl, fun e σ w S H R E Rl h => by
  have h := sat_then.mp h
  refine ha.sn e σ w S H _ E Rl (h.imp (fun ds S1 h1 w1 H1 vs l1 R1 rs => ?_) (fun x s hx => hx))
  split at h1
  · cases rs with
    | cons a1 rs =>
      cases rs with
      | cons a2 rs =>
        cases rs
        obtain ⟨p, rfl, hl⟩ := lt_of a1
        obtain ⟨q, rfl, hl'⟩ := lt_of a2
        obtain ⟨xs, hx, _⟩ := hl w1 S1 H1 ⟨Ex.refl _, List.prefix_rfl⟩ R1
        obtain ⟨ys, hy, _⟩ := hl' w1 S1 H1 ⟨Ex.refl _, List.prefix_rfl⟩ R1
        exact ⟨p, q, xs, ys, rfl, .inr ⟨hx, hy, h1 w1 H1 _ l1 R1 (walks_zipT hl hl')⟩⟩
  · obtain ⟨it, z1, h1⟩ := oM_sat h1
    obtain ⟨jt, z2, h1⟩ := oM_sat h1
    cases rs with
    | cons a1 rs =>
      cases rs with
      | cons a2 rs =>
        cases rs
        obtain ⟨p, rfl, hl, ok⟩ := lr_of R1 a1 z1
        obtain ⟨q, rfl, hl', ok'⟩ := lr_of R1 a2 z2
        obtain ⟨xs, hx, _⟩ := hl w1 S1 H1 ⟨Ex.refl _, List.prefix_rfl⟩ R1 ok
        obtain ⟨ys, hy, _⟩ := hl' w1 S1 H1 ⟨Ex.refl _, List.prefix_rfl⟩ R1 ok'
        exact ⟨p, q, xs, ys, rfl, .inl ⟨.inl hx, .inl hy, h1 w1 H1 _ l1 R1 (walks_zip hl hl')⟩⟩
  · exact h1.elim⟩
def iR1 (a : Env → M (List D)) (e : Env) : M Itm := bind (a e) fun ds => match ds with
  | [.int j] => gd (-1000000 ≤ j ∧ j ≤ 1000000) (ret ⟨rangeD 0 j, []⟩)
  | _ => stuck
def iR2 (a : Env → M (List D)) (e : Env) : M Itm := bind (a e) fun ds => match ds with
  | [.int i, .int j] => gd (-1000000 ≤ i ∧ i ≤ 1000000 ∧ -1000000 ≤ j ∧ j ≤ 1000000) (ret ⟨rangeD i j, []⟩)
  | _ => stuck
theorem walks_range {K : PySem.W.Frag} {w : Wd} {i j : Int} : WalksR K (Itr i (j - i).toNat) w ⟨rangeD i j, []⟩ := ⟨fun w' S H l R ok k d hd => by
  have hd : (rangeD i j)[k]? = some d := hd
  unfold rangeD at hd
  rw [List.getElem?_map] at hd
  cases q : (List.range (j - i).toNat)[k]? with
  | none =>
    rw [q] at hd
    cases hd
  | some m =>
    rw [q] at hd
    have hk := (List.getElem?_eq_some_iff.mp q).1
    rw [List.length_range] at hk
    rw [List.getElem?_range hk] at q
    cases q
    cases hd
    refine ⟨hk, fun x H' hy => ?_⟩
    obtain ⟨rfl, rfl⟩ := (show H' = H ∧ x = .int (i + k) from hy)
    exact ⟨w', Wd.le.refl _, R, .int _⟩, fun w' S H l R ok => by
  show (j - i).toNat ≤ (rangeD i j).length
  simp [rangeD]⟩
theorem ci_range1 {p : Pos} {tr : TA} {mr : Env → M (List D)} (hg : Gl X "range") (hm : X.mg "range" = none) (ha : CA X C [a] tr mr) (hs : starEach [a] X.env = [(false, eval a X.env)] := by rfl) (hK : X.K = C.K := by rfl) : CI X C tg (.Call (.Name "range" p) [a] [] pos) (iRng1 tr) (iR1 mr) := ⟨hK, fun y => pi_range1 hg hm (ha.pa y) hs, fun e σ w S H R E Rl h => by
  have h := sat_then.mp h
  refine ha.sn e σ w S H _ E Rl (h.imp (fun ds S1 h1 w1 H1 vs l1 R1 rs => ?_) (fun x s hx => hx))
  split at h1
  · obtain ⟨cc, h1⟩ := gd_sat h1
    cases rs with
    | cons a1 rs =>
      cases rs
      cases a1
      rename_i j _
      have := walks_range (K := C.K) (w := w1) (i := 0) (j := j)
      rw [Int.sub_zero] at this
      exact ⟨j, rfl, by omega, by omega, h1 w1 H1 _ l1 R1 this⟩
  · exact h1.elim⟩
theorem ci_range2 {p : Pos} {tr : TA} {mr : Env → M (List D)} (hg : Gl X "range") (hm : X.mg "range" = none) (ha : CA X C [a, b] tr mr) (hs : starEach [a, b] X.env = [(false, eval a X.env), (false, eval b X.env)] := by rfl) (hs2 : starEach [b] X.env = [(false, eval b X.env)] := by rfl) (hK : X.K = C.K := by rfl) : CI X C tg (.Call (.Name "range" p) [a, b] [] pos) (iRng2 tr) (iR2 mr) := ⟨hK, fun y => pi_range2 hg hm (ha.pa y) hs hs2, fun e σ w S H R E Rl h => by
  have h := sat_then.mp h
  refine ha.sn e σ w S H _ E Rl (h.imp (fun ds S1 h1 w1 H1 vs l1 R1 rs => ?_) (fun x s hx => hx))
  split at h1
  · obtain ⟨cc, h1⟩ := gd_sat h1
    cases rs with
    | cons a1 rs =>
      cases rs with
      | cons a2 rs =>
        cases rs
        cases a1
        cases a2
        rename_i i j _
        exact ⟨i, j, rfl, ⟨by omega, by omega, by omega, by omega⟩, h1 w1 H1 _ l1 R1 walks_range⟩
  · exact h1.elim⟩
end
end PM
end
section
set_option Elab.async false
set_option linter.all false
set_option maxRecDepth 100000
namespace PM
open PySem L2 Evl
/-! ### targets -/
def setE (i : Nat) (d : D) (e : Env) : Env := ⟨e.sl.set i (some d), match e.ex with
  | some (j, x) => if j = i then none else some (j, x)
  | none => none⟩
theorem EnvR.set {C : Ct} {w : Wd} {σ : L2.St} {e : Env} {v : V} {d : D} (E : EnvR C w σ e) (i : Nat) (a : VR C.K w v d) : EnvR C w (σ.set i (some v)) (setE i d e) := by
  refine ⟨by simp [setE, E.len], fun j d' h => ?_, fun j x h => ?_⟩
  · have h : (e.sl.set i (some d))[j]? = some (some d') := h
    by_cases q : i = j
    · subst q
      have hl : i < e.sl.length := by
        have := (List.getElem?_eq_some_iff.mp h).1
        simpa using this
      rw [List.getElem?_set_self hl] at h
      cases h
      exact ⟨v, by rw [List.getElem?_set_self (by rw [E.len]; exact hl)], a⟩
    · rw [List.getElem?_set_ne q] at h
      obtain ⟨u, h1, h2⟩ := E.sl j d' h
      exact ⟨u, by rw [List.getElem?_set_ne q]; exact h1, h2⟩
  · cases q : e.ex with
    | none =>
      simp [setE, q] at h
    | some p =>
      obtain ⟨k, y⟩ := p
      simp only [setE, q] at h
      by_cases z : k = i
      · rw [if_pos z] at h
        cases h
      · rw [if_neg z] at h
        cases h
        obtain ⟨h1, h2⟩ := E.ex _ _ q
        exact ⟨by rw [List.getElem?_set_ne (fun c => z c.symm)]; exact h1, h2⟩
def SndG (C : Ct) (g : TG) (f : D → Env → Option Env) : Prop := ∀ (e : Env) (σ : L2.St) (w : Wd) (S : Sto) (H : Hp) (v : V) (d : D) (e' : Env) (Q : L2.St → Hp → Prop), EnvR C w σ e → Rel C.K w S H → VR C.K w v d → f d e = some e' → (∀ σ', EnvR C w σ' e' → Q σ' H) → g v σ H Q
def SndGs (C : Ct) (g : TGs) (f : List D → Env → Option Env) : Prop := ∀ (e : Env) (σ : L2.St) (w : Wd) (S : Sto) (H : Hp) (v : List V) (d : List D) (e' : Env) (Q : L2.St → Hp → Prop), EnvR C w σ e → Rel C.K w S H → VRs C.K w v d → f d e = some e' → (∀ σ', EnvR C w σ' e' → Q σ' H) → g v σ H Q
/-- only the slots vs are set -/
def KeepG (g : TG) (vs : List Nat) : Prop := ∀ (v : V) (σ : L2.St) (H : Hp) (Q : L2.St → Hp → Prop), g v σ H Q → g v σ H fun σ2 H2 => wipe σ2 vs = wipe σ vs ∧ Q σ2 H2
def KeepGs (g : TGs) (vs : List Nat) : Prop := ∀ (v : List V) (σ : L2.St) (H : Hp) (Q : L2.St → Hp → Prop), g v σ H Q → g v σ H fun σ2 H2 => wipe σ2 vs = wipe σ vs ∧ Q σ2 H2
structure CG (X : Cx) (C : Ct) (tg : Expr) (g : TG) (f : D → Env → Option Env) : Prop where
  hK : X.K = C.K
  pg : Hyp X C → PG X tg g
  sn : SndG C g f
structure CGs (X : Cx) (C : Ct) (tg : List Expr) (g : TGs) (f : List D → Env → Option Env) : Prop where
  pg : Hyp X C → PGs X tg g
  sn : SndGs C g f
theorem wipe_get (σ : L2.St) : ∀ (vs : List Nat) (i : Nat), (wipe σ vs)[i]? = if i ∈ vs ∧ i < σ.length then some none else σ[i]?
  | [], i => by simp [wipe]
  | v :: vs, i => by
    have hl : (wipe σ vs).length = σ.length := by
      clear wipe_get
      induction vs with
      | nil => rfl
      | cons u us ih => simp [wipe, ih]
    show ((wipe σ vs).set v none)[i]? = _
    by_cases q : v = i
    · subst q
      by_cases h : v < σ.length
      · rw [List.getElem?_set_self (by rw [hl]; exact h), if_pos ⟨by simp, h⟩]
      · rw [if_neg (fun z => h z.2), List.getElem?_eq_none (by simp [hl]; omega), List.getElem?_eq_none (by omega)]
    · rw [List.getElem?_set_ne q, wipe_get σ vs i]
      by_cases h : i ∈ vs ∧ i < σ.length
      · rw [if_pos h, if_pos ⟨List.mem_cons_of_mem _ h.1, h.2⟩]
      · rw [if_neg h, if_neg (fun z => h ⟨(List.mem_cons.mp z.1).resolve_left (fun c => q c.symm), z.2⟩)]
theorem wipe_len (σ : L2.St) (vs : List Nat) : (wipe σ vs).length = σ.length := by
  induction vs with
  | nil => rfl
  | cons u us ih => simp [wipe, ih]
theorem wipe_set {σ : L2.St} {vs : List Nat} {i : Nat} {o : Option V} (h : i ∈ vs) : wipe (σ.set i o) vs = wipe σ vs := by
  refine List.ext_getElem? fun j => ?_
  rw [wipe_get, wipe_get, List.length_set]
  by_cases q : j ∈ vs ∧ j < σ.length
  · rw [if_pos q, if_pos q]
  · rw [if_neg q, if_neg q]
    by_cases z : i = j
    · subst z
      rw [List.getElem?_eq_none (by simp; exact Nat.le_of_not_lt fun c => q ⟨h, c⟩), List.getElem?_eq_none (Nat.le_of_not_lt fun c => q ⟨h, c⟩)]
    · rw [List.getElem?_set_ne z]
theorem wipe_idem (σ : L2.St) (vs : List Nat) : wipe (wipe σ vs) vs = wipe σ vs := by
  refine List.ext_getElem? fun j => ?_
  rw [wipe_get, wipe_len, wipe_get]
  by_cases q : j ∈ vs ∧ j < σ.length
  · rw [if_pos q, if_pos q]
  · rw [if_neg q, if_neg q]
def wipeD : List (Option D) → List Nat → List (Option D)
  | l, [] => l
  | l, v :: vs => (wipeD l vs).set v none
def wipeE (e : Env) (vs : List Nat) : Env := ⟨wipeD e.sl vs, none⟩
theorem wipeD_get (l : List (Option D)) : ∀ (vs : List Nat) (i : Nat), (wipeD l vs)[i]? = if i ∈ vs ∧ i < l.length then some none else l[i]?
  | [], i => by simp [wipeD]
  | v :: vs, i => by
    have hl : (wipeD l vs).length = l.length := by
      clear wipeD_get
      induction vs with
      | nil => rfl
      | cons u us ih => simp [wipeD, ih]
    show ((wipeD l vs).set v none)[i]? = _
    by_cases q : v = i
    · subst q
      by_cases h : v < l.length
      · rw [List.getElem?_set_self (by rw [hl]; exact h), if_pos ⟨by simp, h⟩]
      · rw [if_neg (fun z => h z.2), List.getElem?_eq_none (by simp [hl]; omega), List.getElem?_eq_none (by omega)]
    · rw [List.getElem?_set_ne q, wipeD_get l vs i]
      by_cases h : i ∈ vs ∧ i < l.length
      · rw [if_pos h, if_pos ⟨List.mem_cons_of_mem _ h.1, h.2⟩]
      · rw [if_neg h, if_neg (fun z => h ⟨(List.mem_cons.mp z.1).resolve_left (fun c => q c.symm), z.2⟩)]
theorem wipeD_len (l : List (Option D)) (vs : List Nat) : (wipeD l vs).length = l.length := by
  induction vs with
  | nil => rfl
  | cons u us ih => simp [wipeD, ih]
theorem EnvR.wipe {C : Ct} {w : Wd} {σ : L2.St} {e : Env} (E : EnvR C w σ e) (vs : List Nat) : EnvR C w (L2.wipe σ vs) (wipeE e vs) := by
  refine ⟨by rw [wipe_len]; show σ.length = (wipeD e.sl vs).length; rw [wipeD_len]; exact E.len, fun i d h => ?_, fun i x h => by cases h⟩
  have h : (wipeD e.sl vs)[i]? = some (some d) := h
  rw [wipeD_get] at h
  by_cases q : i ∈ vs ∧ i < e.sl.length
  · rw [if_pos q] at h
    cases h
  · rw [if_neg q] at h
    obtain ⟨v, h1, h2⟩ := E.sl i d h
    exact ⟨v, by rw [wipe_get, if_neg (by rw [E.len]; exact q)]; exact h1, h2⟩
section
variable {X : Cx} {C : Ct} {ta tb tc te : TE} {a b c tg : Expr} {ma mb mc : Env → M D} {pos : Pos}
def gN (i : Nat) (d : D) (e : Env) : Option Env := some (setE i d e)
theorem snd_gname (i : Nat) : SndG C (gName i) (gN i) := fun e σ w S H v d e' Q E R a h k => by
  cases h
  exact k _ (E.set i a)
theorem cg_name {i : Nat} {x : Str} (hN : X.N.Nodup) (hi : X.N[i]? = some x) (hx : Loc X.env.scope x) (hf : X.fn x = true ∨ X.env.scope.names.lookup x = some .local := by first | exact .inl rfl | exact .inr rfl | assumption) (hK : X.K = C.K := by rfl) : CG X C (.Name x pos) (gName i) (gN i) :=
  ⟨hK, fun y => pg_name hN hi hx hf, snd_gname i⟩
theorem keep_gname {i : Nat} {vs : List Nat} (h : i ∈ vs) : KeepG (gName i) vs := fun v σ H Q q => ⟨wipe_set h, q⟩
def gN0 (ds : List D) (e : Env) : Option Env := match ds with
  | [] => some e
  | _ => none
def gC (f : D → Env → Option Env) (g : List D → Env → Option Env) (ds : List D) (e : Env) : Option Env := match ds with
  | d :: ds => (f d e).bind (g ds)
  | _ => none
def gT (n : Nat) (g : List D → Env → Option Env) (d : D) (e : Env) : Option Env := match d with
  | .tup ds => if ds.length = n then g ds e else none
  | _ => none
theorem cgs_nil : CGs X C [] gNil gN0 := ⟨fun y => pgs_nil, fun e σ w S H v d e' Q E R a h k => by
  cases a with
  | nil =>
    cases h
    exact ⟨rfl, k σ E⟩
  | cons _ _ => cases h⟩
theorem cgs_cons {e : Expr} {es : List Expr} {t : TG} {u : TGs} {f : D → Env → Option Env} {g : List D → Env → Option Env} (h1 : CG X C e t f) (h2 : CGs X C es u g) (hs : (assignEach (e :: es) X.env).map (·.2) = assign e X.env :: (assignEach es X.env).map (·.2) := by rfl) : CGs X C (e :: es) (gCons t u) (gC f g) := ⟨fun y => pgs_cons (h1.pg y) (h2.pg y) hs, fun e σ w S H v d e' Q E R a h k => by
  cases a with
  | nil => cases h
  | @cons v vs d ds a as =>
    cases q : f d e with
    | none =>
      simp [gC, q] at h
    | some e1 =>
      simp only [gC, q, Option.bind_some] at h
      exact ⟨v, vs, rfl, h1.sn e σ w S H v d e1 _ E R a q fun σ' E' => h2.sn e1 σ' w S H vs ds e' Q E' R as h k⟩⟩
theorem keepgs_nil {vs : List Nat} : KeepGs gNil vs := fun v σ H Q q => ⟨q.1, rfl, q.2⟩
/-- targets ask no more of more -/
def MonoG (t : TG) : Prop := ∀ (v : V) (σ : L2.St) (H : Hp) (Q Q' : L2.St → Hp → Prop), (∀ σ2 H2, Q σ2 H2 → Q' σ2 H2) → t v σ H Q → t v σ H Q'
theorem mono_gname {i : Nat} : MonoG (gName i) := fun v σ H Q Q' m q => m _ _ q
theorem keepgs_cons {vs : List Nat} {t : TG} {u : TGs} (h1 : KeepG t vs) (h2 : KeepGs u vs) (m : MonoG t) : KeepGs (gCons t u) vs := fun v σ H Q q => by
  obtain ⟨x, r, e, q⟩ := q
  refine ⟨x, r, e, m _ _ _ _ _ (fun σ2 H2 z => ?_) (h1 _ _ _ _ q)⟩
  have hu := z.2
  have := h2 _ _ _ _ hu
  rw [z.1] at this
  exact this
theorem keep_gtup {K : PySem.W.Frag} {vs : List Nat} {n : Nat} {u : TGs} (h : KeepGs u vs) : KeepG (gTup K n u) vs := fun v σ H Q q => by
  obtain ⟨a, xs, h1, h2, h3, q⟩ := q
  exact ⟨a, xs, h1, h2, h3, h _ _ _ _ q⟩
theorem cg_tup {es : List Expr} {k : Nat} {t : TGs} {n : Nat} {f : List D → Env → Option Env} (hc : X.calm = true) (h : CGs X C es t f) (hn : (assignEach es X.env).length = n := by rfl) (hst : (assignEach es X.env).findIdx? (·.1) = none := by rfl) (hK : X.K = C.K := by rfl) : CG X C (.Tuple es k pos) (gTup C.K n t) (gT n f) :=
  ⟨hK, fun y => by rw [← hK]; exact pg_tup hc (h.pg y) hn hst, fun e σ w S H v d e' Q E R a q kk => by
    cases a with
    | @tup p xs ds s as =>
      by_cases z : ds.length = n
      · have q : (if ds.length = n then f ds e else none) = some e' := q
        rw [if_pos z] at q
        exact ⟨p, xs, rfl, ex_t R.ex s, by rw [as.len]; exact z, h.sn e σ w S H xs ds e' Q E R as q kk⟩
      · have q : (if ds.length = n then f ds e else none) = some e' := q
        rw [if_neg z] at q
        cases q
    | _ => cases q⟩
end
end PM
end
section
set_option Elab.async false
set_option linter.all false
set_option maxRecDepth 100000
namespace PM
open PySem L2 Evl
/-! ### comprehensions -/
def chk {α : Type} (src : List (Nat × List D)) (m : M α) : M α := fun S => if okSrc src S then m S else .no
theorem chk_sat {α : Type} {src : List (Nat × List D)} {m : M α} {S : Sto} {P : α → Sto → Prop} {E : Er → Sto → Prop} (h : (chk src m S).sat P E) : okSrc src S = true ∧ (m S).sat P E := by
  unfold chk at h
  by_cases q : okSrc src S = true
  · rw [if_pos q] at h
    exact ⟨q, h⟩
  · rw [if_neg q] at h
    exact h.elim
@[simp] theorem chk_nil {α : Type} (m : M α) : chk [] m = m := rfl
def lcGo (src : List (Nat × List D)) (tg : D → Env → Option Env) (t : Env → M Bool) (m : Env → M D) (e0 : Env) : List D → M (List D)
  | [] => chk src (ret [])
  | d :: ds => chk src (oM (tg d e0) fun e1 => bind (t e1) fun b => if b then bind (m e1) fun y => bind (lcGo src tg t m e0 ds) fun ys => ret (y :: ys) else lcGo src tg t m e0 ds)
def fLst (ds : List D) : M D := ret (.lst ds)
def fCell (ds : List D) : M D := fun S => .ok (.ptr S.length) (S ++ [.lst ds])
def noEM {α : Type} (m : M α) : M α := fun S => noE (m S)
def eLc (keep : Bool) (it : Env → M Itm) (vs : List Nat) (tg : D → Env → Option Env) (t : Env → M Bool) (m : Env → M D) (e : Env) : M D :=
  bind (it e) fun I => gd (I.ds.length ≤ lim) (bind (noEM (lcGo I.src tg t m (wipeE e vs) I.ds)) (if keep then fCell else fLst))
def tYesP (_ : Env) : M Bool := ret true
def C0 (C : Ct) : Ct := ⟨C.K, fun _ _ _ _ => False, C.sx⟩
theorem EnvR.c0 {C : Ct} {w : Wd} {σ : L2.St} {e : Env} (E : EnvR C w σ e) : EnvR (C0 C) w σ e := ⟨E.len, E.sl, E.ex⟩
theorem px0 {C : Ct} {w : Wd} {σ : L2.St} {x : Er} {S : Sto} (h : False) : PX (C0 C) w σ x S := h.elim
theorem Wd.unhide_eq {w5 w2 : Wd} {p : Addr} {o : HO} (h : w5.U = upd w2.U p o) : w5 = (⟨w5.F, w5.B, w2.U⟩ : Wd).hide p o := by
  cases w5
  cases h
  rfl
section
variable {X : Cx} {C : Ct} {ta tb tc te : TE} {a b c tg : Expr} {ma mb mc : Env → M D} {pos : Pos}
theorem snd_yes : SndT C tYes tYesP := fun e σ w S H Q E R h => h w H (Wd.le.refl w) R
theorem snd_lc (keep : Bool) {wi : TI} {it : Env → M Itm} {g : TG} {f : D → Env → Option Env} {vs : List Nat} {tt : TT} {t : Env → M Bool} {m : Env → M D} (hI : SndI C wi it) (hg : SndG (C0 C) g f) (hk : KeepG g vs) (ht : SndT (C0 C) tt t) (he : SndE (C0 C) te m) : SndE C (tLc wi g tt te vs) (eLc keep it vs f t m) := fun e σ w S H Q E R h => by
  have h := sat_then.mp h
  refine hI e σ w S H _ E R (h.imp (fun I S1 h1 w1 H1 J l1 R1 wk => ?_) (fun x s hx => hx))
  obtain ⟨hlen, h1⟩ := gd_sat h1
  intro Dl hD
  have h2 := noE_sat (E' := fun _ _ => False) (sat_then.mp h1)
  have hU : w1.U Dl = none := by
    cases q : w1.U Dl with
    | none => rfl
    | some o =>
      have := (R1.hid Dl o q).1
      rw [hD] at this
      cases this
  have E1 : EnvR (C0 C) w1 (L2.wipe σ vs) (wipeE e vs) := ((E.up l1).wipe vs).c0
  refine ⟨fun i n H' => n = I.ds.length - i ∧ i ≤ I.ds.length ∧ ∃ (w2 : Wd) (S2 : Sto) (acc : List V) (ads : List D), w1.le w2 ∧ Rel C.K (w2.hide Dl (.lst acc)) S2 H' ∧ VRs C.K w2 acc ads ∧ acc.length ≤ i ∧
    (lcGo I.src f t m (wipeE e vs) (I.ds.drop i) S2).sat (fun ys S3 => ((if keep then fCell else fLst) (ads ++ ys) S3).sat (PV C.K w Q) (PX C w σ)) (fun _ _ => False), ⟨I.ds.length, by simp, Nat.zero_le _, w1, S1, [], [], Wd.le.refl _, R1.hide hD, .nil, Nat.le_refl _, h2⟩, ?_⟩
  rintro i n H2 ⟨rfl, hi, w2, S2, acc, ads, l2, R2, aa, hacc, hgo⟩
  have hU2 : w2.U Dl = none := by rw [l2.u]; exact hU
  by_cases hlt : i < I.ds.length
  · rw [List.drop_eq_getElem_cons hlt] at hgo
    obtain ⟨ok, hgo⟩ := chk_sat hgo
    obtain ⟨e1, q1, hgo⟩ := oM_sat hgo
    obtain ⟨g1, g2⟩ := wk.go (w2.hide Dl (.lst acc)) S2 H2 l2.z.hide R2 ok i _ (List.getElem?_eq_getElem hlt)
    refine .inr ⟨g1, fun H3 => ∃ (w3 : Wd) (S3 : Sto) (acc' : List V) (ads' : List D), w1.le w3 ∧ Rel C.K (w3.hide Dl (.lst acc')) S3 H3 ∧ VRs C.K w3 acc' ads' ∧ acc'.length ≤ i + 1 ∧
      (lcGo I.src f t m (wipeE e vs) (I.ds.drop (i + 1)) S3).sat (fun ys S4 => ((if keep then fCell else fLst) (ads' ++ ys) S4).sat (PV C.K w Q) (PX C w σ)) (fun _ _ => False), fun H3 q => ⟨I.ds.length - (i + 1), by omega, rfl, by omega, q⟩, fun x H3 hy => ?_⟩
    obtain ⟨w3, l3, R3, a3⟩ := g2 x H3 hy
    have hgo := sat_then.mp hgo
    have z := hk x (L2.wipe σ vs) H3 (fun σ2 H4 => tt σ2 H4 fun b H5 => if b = true then te σ2 H5 fun y H6 => ∃ acc, H6 Dl = some (.lst acc) ∧ acc.length < sizeLine ∧ (∃ (w3 : Wd) (S3 : Sto) (acc' : List V) (ads' : List D), w1.le w3 ∧ Rel C.K (w3.hide Dl (.lst acc')) S3 (upd H6 Dl (.lst (acc ++ [y]))) ∧ VRs C.K w3 acc' ads' ∧ acc'.length ≤ i + 1 ∧
      (lcGo I.src f t m (wipeE e vs) (I.ds.drop (i + 1)) S3).sat (fun ys S4 => ((if keep then fCell else fLst) (ads' ++ ys) S4).sat (PV C.K w Q) (PX C w σ)) (fun _ _ => False)) else (∃ (w3 : Wd) (S3 : Sto) (acc' : List V) (ads' : List D), w1.le w3 ∧ Rel C.K (w3.hide Dl (.lst acc')) S3 H5 ∧ VRs C.K w3 acc' ads' ∧ acc'.length ≤ i + 1 ∧
      (lcGo I.src f t m (wipeE e vs) (I.ds.drop (i + 1)) S3).sat (fun ys S4 => ((if keep then fCell else fLst) (ads' ++ ys) S4).sat (PV C.K w Q) (PX C w σ)) (fun _ _ => False)))
      (hg _ (L2.wipe σ vs) w3 S2 H3 x _ e1 _ (E1.up0 (l2.z.hide.trans l3.z)) R3 a3 q1 fun σ2 E2 => ?_)
    · rw [wipe_idem] at z
      exact z
    · refine ht e1 σ2 w3 S2 H3 _ E2 R3 (hgo.imp (fun k S4 h4 w4 H4 l4 R4 => ?_) fun _ _ z => z.elim)
      have l34 : (w2.hide Dl (.lst acc)).le w4 := l3.trans l4
      cases k with
      | false =>
        have e4 := Wd.unhide_eq (w5 := w4) (w2 := w2) l34.u
        rw [e4] at R4
        exact ⟨⟨w4.F, w4.B, w2.U⟩, S4, acc, ads, l2.trans ⟨l34.f, l34.b, rfl⟩, R4, VRs.up (w := w2) (w' := ⟨w4.F, w4.B, w2.U⟩) ⟨l34.f, l34.b, rfl⟩ aa, by omega, h4⟩
      | true =>
        have h4 := sat_then.mp (show ((m e1 S4).then _).sat _ _ from h4)
        refine he e1 σ2 w4 S4 H4 _ (E2.up l4) R4 (h4.imp (fun y S5 h5 w5 H5 v l5 R5 r5 => ?_) fun _ _ z => z.elim)
        have l35 : (w2.hide Dl (.lst acc)).le w5 := l34.trans l5
        have e5 := Wd.unhide_eq (w5 := w5) (w2 := w2) l35.u
        have k5 := (R5.hid Dl (.lst acc) (by rw [l35.u]; exact upd_same)).1
        rw [e5] at R5
        have l6 : w2.le ⟨w5.F, w5.B, w2.U⟩ := ⟨l35.f, l35.b, rfl⟩
        have hl : acc.length < sizeLine := Nat.lt_of_le_of_lt hacc (Nat.lt_of_lt_of_le hlt (Nat.le_trans hlen (by decide)))
        refine ⟨acc, k5, hl, ⟨w5.F, w5.B, w2.U⟩, S5, acc ++ [v], ads ++ [y], l2.trans l6, R5.rehide, (aa.up l6).app (.one (VR.via (w := w5) (w' := ⟨w5.F, w5.B, w2.U⟩) ⟨rfl, rfl⟩ r5)), by simp; omega, ?_⟩
        refine (sat_then.mp (show ((lcGo I.src f t m (wipeE e vs) (I.ds.drop (i + 1)) S5).then _).sat _ _ from h5)).imp (fun ys S6 h6 => ?_) fun _ _ z => z
        rw [List.append_assoc]
        exact h6
  · have ei : i = I.ds.length := by omega
    subst ei
    rw [List.drop_length] at hgo
    obtain ⟨ok, hgo⟩ := chk_sat hgo
    have hgo : ((if keep then fCell else fLst) (ads ++ []) S2).sat (PV C.K w Q) (PX C w σ) := hgo
    rw [List.append_nil] at hgo
    refine .inl ⟨wk.stop (w2.hide Dl (.lst acc)) S2 H2 l2.z.hide R2 ok, ?_⟩
    cases keep with
    | false =>
      obtain ⟨le, R3⟩ := R2.known hU2
      exact hgo _ H2 _ ((l1.trans l2).trans le) R3 (.lst upd_same (aa.up le))
    | true =>
      have R3 := R2.celled (c := .lst ads) hU2 ⟨acc, (R2.hid Dl _ upd_same).1, aa⟩
      exact hgo _ H2 _ ((l1.trans l2).trans Wd.le_cell) R3 (.ptr (cell_at Dl (R2.unhide (fun a u h z => by
        rw [z, hU2] at h
        cases h))))
theorem hyp0 {s : Shared} {H : Hp} {scope : Scope} {fp : List Addr} {env : PySem.Env} : Hyp (X.blk s H scope env fp) (C0 C) := ⟨takes0, PassesOwn.never⟩
structure CTs (X : Cx) (C : Ct) (es : List Expr) (tt : TT) (m : Env → M Bool) : Prop where
  pt : Hyp X C → PTs X es tt
  sn : SndT C tt m
theorem cts_nil : CTs X C [] tYes tYesP := ⟨fun y => pts_nil, snd_yes⟩
theorem cts_one {t : TT} {m : Env → M Bool} (h : CT X C a t m) : CTs X C [a] t m := ⟨fun y => pts_one (h.pt y), h.sn⟩
theorem ce_lc (keep : Bool) {elt iter : Expr} {ifs : List Expr} {scope : Scope} {own : List (Str × Nat)} {wi : TI} {it : Env → M Itm} {g : TG} {f : D → Env → Option Env} {tt : TT} {t : Env → M Bool} {m : Env → M D} (hc : X.calm = true) (hN : X.N.Nodup) (hi : CI X C tg iter wi it) (ok : BlkOk X.N X.env.scope scope own)
    (hg : ∀ (s : Shared) (H : Hp) (Z : Addr) (cl : List (Str × Addr)) (fp : List Addr), CG (X.blk s H scope (compEnvC scope cl Z X.env) fp) (C0 C) tg g f) (hk : KeepG g (own.map (·.2))) (ht : ∀ (s : Shared) (H : Hp) (Z : Addr) (cl : List (Str × Addr)) (fp : List Addr), CTs (X.blk s H scope (compEnvC scope cl Z X.env) fp) (C0 C) ifs tt t)
    (he : ∀ (s : Shared) (H : Hp) (Z : Addr) (cl : List (Str × Addr)) (fp : List Addr), CE (X.blk s H scope (compEnvC scope cl Z X.env) fp) (C0 C) elt te m) (hs : ∀ x, foldedSetIterable iter X.env x = pure x := by intro _; rfl) :
    CE X C (.ListComp elt [⟨tg, iter, ifs, 0⟩] scope pos) (tLc wi g tt te (own.map (·.2))) (eLc keep it (own.map (·.2)) f t m) :=
  ⟨hi.hK, fun y => pe_lc hc hN (hi.pi y) ok (fun s H Z cl fp => (hg s H Z cl fp).pg hyp0) (fun s H Z cl fp => (ht s H Z cl fp).pt hyp0) (fun s H Z cl fp => (he s H Z cl fp).pe hyp0) hs, snd_lc keep hi.sn (hg X.s_0 X.H_0 0 [] []).sn hk (ht X.s_0 X.H_0 0 [] []).sn (he X.s_0 X.H_0 0 [] []).sn⟩
/-! ### statements -/
def PN (C : Ct) (w : Wd) (Q : L2.St → Hp → Prop) (e : Env) (S : Sto) : Prop := ∀ (w' : Wd) (H' : Hp) (σ' : L2.St), w.le w' → Rel C.K w' S H' → EnvR C w' σ' e → Q σ' H'
def PXS (C : Ct) (w : Wd) (x : Er) (e : Env) (S : Sto) : Prop := ∀ (w' : Wd) (H' : Hp) (σ' : L2.St) (c : Value) (dd : Option Addr), w.le w' → Rel C.K w' S H' → EnvR C w' σ' e → ErR C.K w' x c dd → C.W c dd σ' H'
theorem PN.up {w w' : Wd} {Q : L2.St → Hp → Prop} {e : Env} {S : Sto} (l : w.le w') (h : PN C w Q e S) : PN C w' Q e S := fun w2 H σ l2 r e => h w2 H σ (l.trans l2) r e
theorem PXS.up {w w' : Wd} {x : Er} {e : Env} {S : Sto} (l : w.le w') (h : PXS C w x e S) : PXS C w' x e S := fun w2 H σ c d l2 r e => h w2 H σ c d (l.trans l2) r e
def SndS (C : Ct) (ts : TS) (m : Stm) : Prop := ∀ (En : Ends) (e : Env) (σ : L2.St) (w : Wd) (S : Sto) (H : Hp), EnvR C w σ e → Rel C.K w S H → (m e S).sat (PN C w En.nx) (PV C.K w En.rt) (PN C w En.bk) (PN C w En.ct) (PXS C w) → ts En σ H
structure CS (X : Cx) (C : Ct) (st : Stmt) (ts : TS) (m : Stm) : Prop where
  ps : Hyp X C → PS X st ts
  sn : SndS C ts m
structure CSs (X : Cx) (C : Ct) (st : List Stmt) (ts : TS) (m : Stm) : Prop where
  ps : Hyp X C → PSs X st ts
  sn : SndS C ts m
/-- an expression within a statement -/
def sE {α : Type} (m : Env → M α) (k : α → Stm) : Stm := fun e S => match m e S with
  | .ok a S' => k a e S'
  | .er x S' => .er x e S'
  | .no => .no
theorem sE_sat {α : Type} {m : Env → M α} {k : α → Stm} {e : Env} {S : Sto} {N : Env → Sto → Prop} {R : D → Sto → Prop} {B Ct : Env → Sto → Prop} {E : Er → Env → Sto → Prop} (h : (sE m k e S).sat N R B Ct E) : (m e S).sat (fun a S' => (k a e S').sat N R B Ct E) (fun x S' => E x e S') := by
  unfold sE at h
  cases q : m e S with
  | ok a s =>
    rw [q] at h
    exact h
  | er x s =>
    rw [q] at h
    exact h
  | no =>
    rw [q] at h
    exact h
theorem pxs_px {w : Wd} {σ : L2.St} {e : Env} {x : Er} {S : Sto} (E : EnvR C w σ e) (h : PXS C w x e S) : PX C w σ x S := fun w' H' c dd l r er => h w' H' σ c dd l r (E.up l) er
def sNext : Stm := fun e S => .nx e S
def sSeq (a b : Stm) : Stm := fun e S => match a e S with
  | .nx e' S' => b e' S'
  | o => o
theorem snd_seq {t u : TS} {a b : Stm} (h : SndS C t a) (g : SndS C u b) : SndS C (tSeq t u) (sSeq a b) := fun En e σ w S H E R q => by
  refine h { En with nx := u En } e σ w S H E R ?_
  unfold sSeq at q
  cases z : a e S with
  | nx e' S' =>
    rw [z] at q
    exact fun w' H' σ' l r E' => g En e' σ' w' S' H' E' r (SO.sat.imp q (fun _ _ z => z.up l) (fun _ _ z => z.up l) (fun _ _ z => z.up l) (fun _ _ z => z.up l) (fun _ _ _ z => z.up l))
  | rt d S' =>
    rw [z] at q
    exact q
  | bk e' S' =>
    rw [z] at q
    exact q
  | ct e' S' =>
    rw [z] at q
    exact q
  | er x e' S' =>
    rw [z] at q
    exact q
  | no =>
    rw [z] at q
    exact q
theorem css_nil : CSs X C [] tNext sNext := ⟨fun y => pss_nil, fun En e σ w S H E R q => q w H σ (Wd.le.refl w) R E⟩
theorem css_cons {st : Stmt} {rest : List Stmt} {t u : TS} {x y : Stm} (h : CS X C st t x) (g : CSs X C rest u y) : CSs X C (st :: rest) (tSeq t u) (sSeq x y) := ⟨fun y => pss_cons (h.ps y) (g.ps y), snd_seq h.sn g.sn⟩
theorem css_one {st : Stmt} {t : TS} {x : Stm} (h : CS X C st t x) : CSs X C [st] t x := ⟨fun y => pss_one (h.ps y), h.sn⟩
theorem cs_pass : CS X C (.Pass pos) tNext sNext := ⟨fun y => ps_pass, fun En e σ w S H E R q => q w H σ (Wd.le.refl w) R E⟩
def sBk : Stm := fun e S => .bk e S
def sCt : Stm := fun e S => .ct e S
theorem cs_break : CS X C (.Break pos) tBreak sBk := ⟨fun y => ps_break, fun En e σ w S H E R q => q w H σ (Wd.le.refl w) R E⟩
theorem cs_continue : CS X C (.Continue pos) tCont sCt := ⟨fun y => ps_continue, fun En e σ w S H E R q => q w H σ (Wd.le.refl w) R E⟩
def sDrop (m : Env → M D) : Stm := sE m fun _ e S => .nx e S
theorem cs_expr (ha : CE X C a ta ma) (hs : swapsWith a none pos.line X.env = pure false := by rfl) : CS X C (.Expr a pos) (tDrop ta) (sDrop ma) := ⟨fun y => ps_expr (ha.pe y) hs, fun En e σ w S H E R q => ha.sn e σ w S H _ E R ((sE_sat q).imp (fun d S1 h1 w1 H1 v l1 R1 r1 => h1 w1 H1 σ l1 R1 (E.up l1)) fun x s z => pxs_px E z)⟩
def sRet (m : Env → M D) : Stm := sE m fun d _ S => .rt d S
theorem cs_ret (ha : CE X C a ta ma) : CS X C (.Return (some a) pos) (tRet ta) (sRet ma) := ⟨fun y => ps_ret (ha.pe y), fun En e σ w S H E R q => ha.sn e σ w S H _ E R ((sE_sat q).imp (fun d S1 h1 w1 H1 v l1 R1 r1 => h1 w1 H1 v l1 R1 r1) fun x s z => pxs_px E z)⟩
def sRetN : Stm := fun _ S => .rt .non S
theorem cs_retN : CS X C (.Return none pos) tRetN sRetN := ⟨fun y => ps_retN, fun En e σ w S H E R q => q w H _ (Wd.le.refl w) R .non⟩
def sIf (t : Env → M Bool) (a b : Stm) : Stm := sE t fun k => if k then a else b
theorem cs_if {c : Expr} {p q : List Stmt} {tc : TT} {t : Env → M Bool} {u v : TS} {x y : Stm} (hc : CT X C c tc t) (hp : CSs X C p u x) (hq : CSs X C q v y) : CS X C (.If c p q pos) (tIfS tc u v) (sIf t x y) := ⟨fun y => ps_if (hc.pt y) (hp.ps y) (hq.ps y), fun En e σ w S H E R q => hc.sn e σ w S H _ E R ((sE_sat q).imp (fun k S1 h1 w1 H1 l1 R1 => by
  cases k with
  | true => exact hp.sn En e σ w1 S1 H1 (E.up l1) R1 (SO.sat.imp (show (x e S1).sat _ _ _ _ _ from h1) (fun _ _ z => z.up l1) (fun _ _ z => z.up l1) (fun _ _ z => z.up l1) (fun _ _ z => z.up l1) (fun _ _ _ z => z.up l1))
  | false => exact hq.sn En e σ w1 S1 H1 (E.up l1) R1 (SO.sat.imp (show (y e S1).sat _ _ _ _ _ from h1) (fun _ _ z => z.up l1) (fun _ _ z => z.up l1) (fun _ _ z => z.up l1) (fun _ _ z => z.up l1) (fun _ _ _ z => z.up l1))) fun x s z => pxs_px E z)⟩
def sAsg (m : Env → M D) (f : D → Env → Option Env) : Stm := sE m fun d e S => match f d e with
  | some e' => .nx e' S
  | none => .no
theorem snd_asg {g : TG} {f : D → Env → Option Env} (ha : SndE C ta ma) (hg : SndG C g f) : SndS C (tAsg ta g) (sAsg ma f) := fun En e σ w S H E R q => ha e σ w S H _ E R ((sE_sat q).imp (fun d S1 h1 w1 H1 v l1 R1 r1 => by
  cases z : f d e with
  | none =>
    rw [z] at h1
    exact h1.elim
  | some e' =>
    rw [z] at h1
    exact hg e σ w1 S1 H1 v d e' _ (E.up l1) R1 r1 z fun σ' E' => h1 w1 H1 σ' l1 R1 E') fun x s z => pxs_px E z)
theorem cs_asg {g : TG} {f : D → Env → Option Env} (ha : CE X C a ta ma) (hg : CG X C tg g f) (hs : swapsWithSole [tg] a pos.line X.env = pure false := by rfl) (hw : swappedStores [tg] a X.env = pure none := by rfl) (h1 : (assignEach [tg] X.env).map (·.2) = [assign tg X.env] := by rfl) : CS X C (.Assign [tg] a pos) (tAsg ta g) (sAsg ma f) := ⟨fun y => ps_asg (ha.pe y) (hg.pg y) hs hw h1, snd_asg ha.sn hg.sn⟩
def sPar (i j : Nat) (m : Env → M (List D)) : Stm := sE m fun ds e S => match ds with
  | [x, y] => .nx (setE j y (setE i x e)) S
  | _ => .no
theorem cs_par {i j : Nat} {x y : Str} {ta : TA} {m : Env → M (List D)} {px py pt : Pos} {kt k2 pt2} (hc : X.calm = true) (hN : X.N.Nodup) (hi : X.N[i]? = some x) (hj : X.N[j]? = some y) (hij : i ≠ j) (hx : X.env.scope.names.lookup x = some .local) (hy : X.env.scope.names.lookup y = some .local) (ha : CA X C [a, b] ta m)
    (hw : swappedStores [.Tuple [.Name x px, .Name y py] kt pt] (.Tuple [a, b] k2 pt2) X.env = pure (some [x, y]))
    (hs : swapsWithSole [.Tuple [.Name x px, .Name y py] kt pt] (.Tuple [a, b] k2 pt2) pos.line X.env = pure false := by rfl) : CS X C (.Assign [.Tuple [.Name x px, .Name y py] kt pt] (.Tuple [a, b] k2 pt2) pos) (tPar i j ta) (sPar i j m) := ⟨fun y => ps_par hc hN hi hj hij hx hy (ha.pa y) hw hs, fun En e σ w S H E R q => ha.sn e σ w S H _ E R ((sE_sat q).imp (fun ds S1 h1 w1 H1 vs l1 R1 rs => by
  cases rs with
  | nil => exact h1.elim
  | cons a1 rs =>
    cases rs with
    | nil => exact h1.elim
    | cons a2 rs =>
      cases rs with
      | cons _ _ => exact h1.elim
      | nil => exact ⟨_, _, rfl, h1 w1 H1 _ l1 R1 (((E.up l1).set i a1).set j a2)⟩) fun x s z => pxs_px E z)⟩
end
end PM
end
section
set_option Elab.async false
set_option linter.all false
set_option maxRecDepth 100000
namespace PM
open PySem L2 Evl
section
variable {X : Cx} {C : Ct} {ta tb tc te : TE} {a b c tg : Expr} {ma mb mc : Env → M D} {pos : Pos}
/-! ### lists that change -/
/-- d is a cell of a list: its number, its items -/
def cellL {α : Type} (d : D) (k : Nat → List D → M α) : M α := fun S => match d with
  | .ptr n => match S[n]? with
    | some (.lst ds) => k n ds S
    | _ => .no
  | _ => .no
theorem cellL_sat {α : Type} {d : D} {k : Nat → List D → M α} {S : Sto} {P : α → Sto → Prop} {E : Er → Sto → Prop} (h : (cellL d k S).sat P E) : ∃ n ds, d = .ptr n ∧ S[n]? = some (.lst ds) ∧ (k n ds S).sat P E := by
  cases d with
  | ptr n =>
    simp only [cellL] at h
    cases q : S[n]? with
    | none =>
      rw [q] at h
      exact h.elim
    | some cc =>
      rw [q] at h
      cases cc with
      | lst ds => exact ⟨n, ds, rfl, q, h⟩
      | _ => exact h.elim
  | _ => exact h.elim
def putL (n : Nat) (ds : List D) : M D := fun S => .ok .non (S.set n (.lst ds))
def dAppend (x : D) (as : List D) : M D := match as with
  | [y] => cellL x fun n ds => gd (ds.length < lim) (putL n (ds ++ [y]))
  | _ => stuck
/-- a list that is no script -/
def rdP (S : Sto) : D → Option (List D)
  | .lst ds => some ds
  | .ptr n => match S[n]? with
    | some (.lst ds) => some ds
    | _ => none
  | _ => none
theorem rdP_ok {K : PySem.W.Frag} {w : Wd} {S : Sto} {H : Hp} {v : V} {d : D} {ds : List D} (R : Rel K w S H) (a : VR K w v d) (h : rdP S d = some ds) : ∃ p xs, v = .ref p ∧ H p = some (.lst xs) ∧ VRs K w xs ds := by
  cases a with
  | lst s as =>
    cases h
    exact ⟨_, _, rfl, R.ex _ _ s, as⟩
  | @ptr p n hb =>
    cases q : S[n]? with
    | none => simp [rdP, q] at h
    | some cc =>
      cases cc with
      | lst es =>
        simp [rdP, q] at h
        subst h
        obtain ⟨_, xs, hx, ax⟩ := R.cell _ _ _ hb q rfl
        exact ⟨_, _, rfl, hx, ax⟩
      | _ => simp [rdP, q] at h
  | _ => cases h
def dExtend (x : D) (as : List D) : M D := match as with
  | [y] => fun S => oM (rdP S y) (fun zs => cellL x fun n ds => gd (ds.length + zs.length ≤ lim) (putL n (ds ++ zs))) S
  | _ => stuck
def eBM (g : D → List D → M D) (o : Env → M D) (r : Env → M (List D)) (e : Env) : M D := bind (o e) fun x => cellL x fun _ _ => bind (r e) fun as => g x as
theorem tyV_cell {K : PySem.W.Frag} {w : Wd} {S : Sto} {H : Hp} {v : V} {n : Nat} {ds : List D} (R : Rel K w S H) (r : VR K w v (.ptr n)) (q : S[n]? = some (.lst ds)) : ∃ p xs, v = .ref p ∧ w.B[n]? = some p ∧ H p = some (.lst xs) ∧ VRs K w xs ds ∧ tyV K "list" v H := by
  cases r with
  | ptr hb =>
    obtain ⟨_, xs, hx, as⟩ := R.cell _ _ _ hb q rfl
    exact ⟨_, xs, rfl, hb, hx, as, .inl ⟨rfl, xs, .inl (.inl hx)⟩⟩
theorem snd_bm {r : V → List V → Hp → VK → Prop} {g : D → List D → M D} {to : TE} {mo : Env → M D} {tr : TA} {mr : Env → M (List D)} (ho : SndE C to mo) (ha : SndA C tr mr)
    (hs : ∀ (w : Wd) (S : Sto) (H : Hp) (x : V) (d : D) (vs : List V) (ds : List D) (Q : VK) (E : Er → Sto → Prop), Rel C.K w S H → VR C.K w x d → VRs C.K w vs ds → (g d ds S).sat (PV C.K w Q) E → r x vs H Q) : SndE C (tBM C.K "list" r to tr) (eBM g mo mr) := fun e σ w S H Q E R h => by
  have h := sat_then.mp h
  refine ho e σ w S H _ E R (h.imp (fun d S1 h1 w1 H1 v l1 R1 r1 => ?_) (fun x s hx => hx))
  obtain ⟨n, ds, rfl, q, h1⟩ := cellL_sat h1
  obtain ⟨p, xs, rfl, hb, hx, as, ty⟩ := tyV_cell R1 r1 q
  refine ⟨ty, ?_⟩
  have h1 := sat_then.mp (show ((mr e S1).then _).sat _ _ from h1)
  refine ha e σ w1 S1 H1 _ (E.up l1) R1 (h1.imp (fun es S2 h2 w2 H2 us l2 R2 rs => ?_) (fun x s hx => hx.up l1))
  exact hs w2 S2 H2 _ _ us es Q _ R2 (r1.up l2) rs (h2.imp (fun d s z => z.up (l1.trans l2)) fun _ _ z => z)
theorem ce_append {o e : Expr} {mo : Env → M D} {to : TE} {es : List Expr} {tr : TA} {mr : Env → M (List D)} {apos : Pos} (ho : CE X C o to mo) (ha : CA X C (e :: es) tr mr)
    (hbase : attributeBase o "append" X.env (eval o X.env) = eval o X.env := by rfl)
    (hfew : ((backTo pos (starEach (e :: es) X.env)).all (fun x => !x.1) && (backToKw pos (keywordEach [] X.env)).all (fun x => x.1.isSome)
      && decide ((e :: es).length + ([] : List Keyword).length + (if ([] : List Keyword).isEmpty then 0 else 1) < 30)) = true := by rfl)
    (hline : (apos.endLine == pos.line) = true := by rfl) (hs : starEach (e :: es) X.env = (false, eval e X.env) :: starEach es X.env := by rfl) (hplain : (backTo pos (starEach es X.env)).any (·.1) = false := by rfl) :
    CE X C (.Call (.Attribute o "append" apos) (e :: es) [] pos) (tBM C.K "list" rAppend to tr) (eBM dAppend mo mr) := ⟨ho.hK, fun y => by rw [← ho.hK]; exact pe_bm PySem.F.plainAttrs_list PySem.F.slot_list_append PySem.F.type_list_append mt_append (ho.pe y) (ha.pa y) hbase hfew hline hs hplain, snd_bm ho.sn ha.sn fun w S H x d vs ds Q E R r rs h => by
  cases rs with
  | nil => exact h.elim
  | cons a1 rs =>
    cases rs with
    | cons _ _ => exact h.elim
    | nil =>
      obtain ⟨n, es, rfl, q, h⟩ := cellL_sat h
      obtain ⟨hl, h⟩ := gd_sat h
      obtain ⟨p, xs, rfl, hb, hx, as, ty⟩ := tyV_cell R r q
      refine ⟨p, xs, _, rfl, rfl, hx, Nat.lt_of_lt_of_le (by rw [as.len]; exact hl) (by decide), ?_⟩
      exact h w _ _ (Wd.le.refl w) (R.put hb q rfl ⟨_, upd_same, as.app (.one a1)⟩) .non⟩
theorem ce_extend {o e : Expr} {mo : Env → M D} {to : TE} {es : List Expr} {tr : TA} {mr : Env → M (List D)} {apos : Pos} (ho : CE X C o to mo) (ha : CA X C (e :: es) tr mr)
    (hbase : attributeBase o "extend" X.env (eval o X.env) = eval o X.env := by rfl)
    (hfew : ((backTo pos (starEach (e :: es) X.env)).all (fun x => !x.1) && (backToKw pos (keywordEach [] X.env)).all (fun x => x.1.isSome)
      && decide ((e :: es).length + ([] : List Keyword).length + (if ([] : List Keyword).isEmpty then 0 else 1) < 30)) = true := by rfl)
    (hline : (apos.endLine == pos.line) = true := by rfl) (hs : starEach (e :: es) X.env = (false, eval e X.env) :: starEach es X.env := by rfl) (hplain : (backTo pos (starEach es X.env)).any (·.1) = false := by rfl) :
    CE X C (.Call (.Attribute o "extend" apos) (e :: es) [] pos) (tBM C.K "list" rExtend to tr) (eBM dExtend mo mr) := ⟨ho.hK, fun y => by rw [← ho.hK]; exact pe_bm PySem.F.plainAttrs_list PySem.F.slot_list_extend PySem.F.type_list_extend mt_extend (ho.pe y) (ha.pa y) hbase hfew hline hs hplain, snd_bm ho.sn ha.sn fun w S H x d vs ds Q E R r rs h => by
  cases rs with
  | nil => exact h.elim
  | cons a1 rs =>
    cases rs with
    | cons _ _ => exact h.elim
    | nil =>
      obtain ⟨zs, z, h⟩ := oM_sat h
      obtain ⟨n, es, rfl, q, h⟩ := cellL_sat h
      obtain ⟨hl, h⟩ := gd_sat h
      obtain ⟨p, xs, rfl, hb, hx, as, ty⟩ := tyV_cell R r q
      obtain ⟨p2, ys, rfl, e2, e3⟩ := rdP_ok R a1 z
      exact ⟨p, p2, xs, ys, rfl, rfl, hx, e2, sz_lim (by rw [as.len, e3.len]; exact hl), h w _ _ (Wd.le.refl w) (R.put hb q rfl ⟨_, upd_same, as.app e3⟩) .non⟩⟩
/-- o[i] = v -/
def dSet (o i v : D) : M D := match i with
  | .int k => cellL o fun n ds => oM (ixN ds.length k) fun j => putL n (ds.set j v)
  | _ => stuck
theorem sets_ok {K : PySem.W.Frag} {w : Wd} {S : Sto} {H : Hp} {o i v : V} {d1 d2 d3 : D} {Q : Hp → Prop} {P : D → Sto → Prop} {E : Er → Sto → Prop} (R : Rel K w S H) (r1 : VR K w o d1) (r2 : VR K w i d2) (r3 : VR K w v d3) (h : (dSet d1 d2 d3 S).sat P E) (hp : ∀ d S', P d S' → ∀ (w' : Wd) (H' : Hp), w.le w' → Rel K w' S' H' → Q H') : rSetL o i v H Q := by
  cases r2 with
  | int k =>
    obtain ⟨n, ds, rfl, q, h⟩ := cellL_sat h
    obtain ⟨j, z, h⟩ := oM_sat h
    obtain ⟨p, xs, rfl, hb, hx, as, ty⟩ := tyV_cell R r1 q
    exact ⟨p, xs, k, j, rfl, rfl, hx, by rw [as.len]; exact z, hp _ _ h w _ (Wd.le.refl w) (R.put hb q rfl ⟨_, upd_same, as.set r3 j⟩)⟩
  | _ => exact h.elim
def sSet (m mo mi : Env → M D) : Stm := sE m fun d => sE mo fun o => sE mi fun i => sE (fun _ => dSet o i d) fun _ e S => .nx e S
theorem snd_set {to ti : TE} {mo mi : Env → M D} (ha : SndE C ta ma) (ho : SndE C to mo) (hi : SndE C ti mi) : SndS C (tAsg ta (gSub to ti rSetL)) (sSet ma mo mi) := fun En e σ w S H E R q => ha e σ w S H _ E R ((sE_sat q).imp (fun d S1 h1 w1 H1 v l1 R1 r1 => by
  refine ho e σ w1 S1 H1 _ (E.up l1) R1 ((sE_sat h1).imp (fun o S2 h2 w2 H2 ov l2 R2 r2 => ?_) fun x s z => pxs_px (E.up l1) (z.up l1))
  refine hi e σ w2 S2 H2 _ (E.up (l1.trans l2)) R2 ((sE_sat h2).imp (fun i S3 h3 w3 H3 iv l3 R3 r3 => ?_) fun x s z => pxs_px (E.up (l1.trans l2)) (z.up (l1.trans l2)))
  have l13 := (l1.trans l2).trans l3
  exact sets_ok R3 (r2.up l3) r3 (r1.up (l2.trans l3)) (sE_sat h3) fun _ S4 h4 w4 H4 l4 R4 => h4 w4 H4 σ (l13.trans l4) R4 (E.up (l13.trans l4))) fun x s z => pxs_px E z)
theorem cs_set {o i : Expr} {to ti : TE} {mo mi : Env → M D} {sp : Pos} (ha : CE X C a ta ma) (ho : CE X C o to mo) (hi : CE X C i ti mi) (hs : swapsWithSole [.Subscript o i sp] a pos.line X.env = pure false := by rfl) (hw : swappedStores [.Subscript o i sp] a X.env = pure none := by rfl) (h1 : (assignEach [.Subscript o i sp] X.env).map (·.2) = [assign (.Subscript o i sp) X.env] := by rfl)
    (hg : Hyp X C → PG X (.Subscript o i sp) (gSub to ti rSetL)) : CS X C (.Assign [.Subscript o i sp] a pos) (tAsg ta (gSub to ti rSetL)) (sSet ma mo mi) := ⟨fun y => ps_asg (ha.pe y) (hg y) hs hw h1, snd_set ha.sn ho.sn hi.sn⟩
/-- o[i] = p[j] = v -/
def sSet2 (m mo mi mp mj : Env → M D) : Stm := sE m fun d => sE mo fun o => sE mi fun i => sE (fun _ => dSet o i d) fun _ => sE mp fun p => sE mj fun j => sE (fun _ => dSet p j d) fun _ e S => .nx e S
theorem cs_set2 {o i p j : Expr} {to ti tp tj : TE} {mo mi mp mj : Env → M D} {sp sq : Pos} (ha : CE X C a ta ma) (ho : CE X C o to mo) (hi : CE X C i ti mi) (hp : CE X C p tp mp) (hj : CE X C j tj mj) (h1 : Hyp X C → PG X (.Subscript o i sp) (gSub to ti rSetL)) (h2 : Hyp X C → PG X (.Subscript p j sq) (gSub tp tj rSetL))
    (he : (assignEach [.Subscript o i sp, .Subscript p j sq] X.env).map (·.2) = [assign (.Subscript o i sp) X.env, assign (.Subscript p j sq) X.env] := by rfl) (hw : swappedStores [.Subscript o i sp, .Subscript p j sq] a X.env = pure none := by rfl) :
    CS X C (.Assign [.Subscript o i sp, .Subscript p j sq] a pos) (tAsg2 ta (gSub to ti rSetL) (gSub tp tj rSetL)) (sSet2 ma mo mi mp mj) := ⟨fun y => ps_asg2 (ha.pe y) (h1 y) (h2 y) he hw, fun En e σ w S H E R q => ha.sn e σ w S H _ E R ((sE_sat q).imp (fun d S1 h1 w1 H1 v l1 R1 r1 => by
  refine ho.sn e σ w1 S1 H1 _ (E.up l1) R1 ((sE_sat h1).imp (fun o S2 h2 w2 H2 ov l2 R2 r2 => ?_) fun x s z => pxs_px (E.up l1) (z.up l1))
  refine hi.sn e σ w2 S2 H2 _ (E.up (l1.trans l2)) R2 ((sE_sat h2).imp (fun i S3 h3 w3 H3 iv l3 R3 r3 => ?_) fun x s z => pxs_px (E.up (l1.trans l2)) (z.up (l1.trans l2)))
  have l13 := (l1.trans l2).trans l3
  refine sets_ok R3 (r2.up l3) r3 (r1.up (l2.trans l3)) (sE_sat h3) fun _ S4 h4 w4 H4 l4 R4 => ?_
  have l14 := l13.trans l4
  refine hp.sn e σ w4 S4 H4 _ (E.up l14) R4 ((sE_sat h4).imp (fun o S5 h5 w5 H5 ov l5 R5 r5 => ?_) fun x s z => pxs_px (E.up l14) (z.up l14))
  have l15 := l14.trans l5
  refine hj.sn e σ w5 S5 H5 _ (E.up l15) R5 ((sE_sat h5).imp (fun i S6 h6 w6 H6 iv l6 R6 r6 => ?_) fun x s z => pxs_px (E.up l15) (z.up l15))
  have l16 := l15.trans l6
  exact sets_ok R6 (r5.up l6) r6 (r1.up ((((l2.trans l3).trans l4).trans l5).trans l6)) (sE_sat h6) fun _ S7 h7 w7 H7 l7 R7 => h7 w7 H7 σ (l16.trans l7) R7 (E.up (l16.trans l7))) fun x s z => pxs_px E z)⟩
/-- o[i] += e, ints -/
def dInt1 (d : D) : M Int := match d with
  | .int i => ret i
  | _ => stuck
def dIxC (o i : D) : M Int := bind (dInt1 i) fun k => cellL o fun _ ds => oM (atI ds k) dInt1
def sAugS (mo mi m : Env → M D) : Stm := sE mo fun o => sE mi fun i => sE (fun _ => dIxC o i) fun x => sE (fun e => bind (m e) dInt1) fun y => sE (fun _ => dSet o i (.int (x + y))) fun _ e S => .nx e S
theorem int1_sat {K : PySem.W.Frag} {w : Wd} {v : V} {d : D} {S : Sto} {P : Int → Sto → Prop} {E : Er → Sto → Prop} (r : VR K w v d) (h : (dInt1 d S).sat P E) : ∃ i, d = .int i ∧ v = .int i ∧ P i S := by
  cases r with
  | int i => exact ⟨i, rfl, rfl, h⟩
  | _ => exact h.elim
theorem cs_augS {o i : Expr} {to ti : TE} {mo mi : Env → M D} {tpos : Pos} (ho : CE X C o to mo) (hi : CE X C i ti mi) (ha : CE X C a ta ma)
    (hn : ∀ ov iv new, augStore i ov iv new = (do holding [new, ov, iv] (setItem ov iv new); release [new, ov, iv] []; pure .next) := by intros; rfl) : CS X C (.AugAssign (.Subscript o i tpos) .Add a pos) (tAugS to ti ta (rIxL C.K) (ipI fun i j => i + j) rSetL) (sAugS mo mi ma) := ⟨fun y => ps_augS (ho.pe y) (hi.pe y) (by rw [← ho.hK]; exact get_list) (ha.pe y) ip_add set_list hn, fun En e σ w S H E R q => ho.sn e σ w S H _ E R ((sE_sat q).imp (fun o S1 h1 w1 H1 ov l1 R1 r1 => by
  refine hi.sn e σ w1 S1 H1 _ (E.up l1) R1 ((sE_sat h1).imp (fun i S2 h2 w2 H2 iv l2 R2 r2 => ?_) fun x s z => pxs_px (E.up l1) (z.up l1))
  have l12 := l1.trans l2
  have h3 := sat_then.mp (sE_sat h2)
  obtain ⟨k, rfl, rfl, h3⟩ := int1_sat r2 h3
  obtain ⟨n, ds, rfl, q, h3⟩ := cellL_sat h3
  obtain ⟨d, z, h3⟩ := oM_sat h3
  obtain ⟨p, xs, rfl, hb, hx, as, ty⟩ := tyV_cell R2 (r1.up l2) q
  obtain ⟨j, j1, j2⟩ := atI_of as.len z
  obtain ⟨v, v1, v2⟩ := as.get j1
  refine ⟨p, xs, k, v, rfl, rfl, .inl (.inl hx), j2 v v1, ?_⟩
  obtain ⟨n1, rfl, rfl, h4⟩ := int1_sat v2 h3
  refine ha.sn e σ w2 S2 H2 _ (E.up l12) R2 ((sat_then.mp (sE_sat h4)).imp (fun y S4 h5 w4 H4 yv l4 R4 r4 => ?_) fun x s z => pxs_px (E.up l12) (z.up l12))
  have l14 := l12.trans l4
  obtain ⟨n2, rfl, rfl, h6⟩ := int1_sat r4 h5
  exact ⟨n1, n2, rfl, rfl, sets_ok R4 (r1.up (l2.trans l4)) (.int k) (.int _) (sE_sat h6) fun _ S5 h7 w5 H5 l5 R5 => h7 w5 H5 σ (l14.trans l5) R5 (E.up (l14.trans l5))⟩) fun x s z => pxs_px E z)⟩
/-- x += e, ints -/
def sAug (i : Nat) (m : Env → M D) : Stm := sE (fun e => bind (eVar i e) dInt1) fun x => sE (fun e => bind (m e) dInt1) fun y e S => .nx (setE i (.int (x + y)) e) S
theorem cs_aug {i : Nat} {x : Str} {pos' : Pos} (hN : X.N.Nodup) (hi : X.N[i]? = some x) (hx : Loc X.env.scope x) (ha : CE X C a ta ma) (hf : X.fn x = true ∨ X.env.scope.names.lookup x = some .local := by first | exact .inl rfl | exact .inr rfl | assumption) :
    CS X C (.AugAssign (.Name x pos') .Add a pos) (tAug i ta (ipI fun i j => i + j)) (sAug i ma) := ⟨fun y => ps_aug hN hi hx (ha.pe y) ip_add hf, fun En e σ w S H E R q => by
  have q := sat_then.mp (sE_sat q)
  unfold eVar at q
  cases z : e.sl[i]? with
  | none =>
    rw [z] at q
    exact q.elim
  | some o =>
    cases o with
    | none =>
      rw [z] at q
      exact q.elim
    | some d =>
      rw [z] at q
      obtain ⟨v, h1, h2⟩ := E.sl i d z
      obtain ⟨n1, rfl, rfl, q⟩ := int1_sat h2 q
      refine ⟨.int n1, h1, ha.sn e σ w S H _ E R ((sat_then.mp (sE_sat q)).imp (fun y S1 h5 w1 H1 yv l1 R1 r1 => ?_) fun x s z => pxs_px E z)⟩
      obtain ⟨n2, rfl, rfl, h6⟩ := int1_sat r1 h5
      exact ⟨n1, n2, rfl, rfl, h6 w1 H1 _ l1 R1 ((E.up l1).set i (.int _))⟩⟩
/-- o.f = v, o an instance that changes -/
def dPut (cs : List Str) (f : Str) (o v : D) : M D := fun S => match o with
  | .ptr n => match S[n]? with
    | some (.obj c fs) => gd (cs.contains c = true ∧ fs.length < 1000) (fun S => .ok .non (S.set n (.obj c (putD f v fs)))) S
    | _ => .no
  | _ => .no
def sFldP (cs : List Str) (f : Str) (m mo : Env → M D) : Stm := sE m fun d => sE mo fun o => sE (fun _ => dPut cs f o d) fun _ e S => .nx e S
theorem cs_fld {o v : Expr} {to tv : TE} {mo mv : Env → M D} {f : Str} {pos' : Pos} (cs : List Str) (ok : FldOk C.K f cs) (ho : CE X C o to mo) (hv : CE X C v tv mv) (hs : swapsWith v (some (.Attribute o f pos')) pos.line X.env = pure false := by rfl) : CS X C (.Assign [.Attribute o f pos'] v pos) (sFld C.K to tv f) (sFldP cs f mv mo) := ⟨fun y => by rw [← ho.hK]; exact ps_fld (ho.pe y) (hv.pe y) hs, fun En e σ w S H E R q => hv.sn e σ w S H _ E R ((sE_sat q).imp (fun d S1 h1 w1 H1 v l1 R1 r1 => by
  refine ho.sn e σ w1 S1 H1 _ (E.up l1) R1 ((sE_sat h1).imp (fun o S2 h2 w2 H2 ov l2 R2 r2 => ?_) fun x s z => pxs_px (E.up l1) (z.up l1))
  have l12 := l1.trans l2
  have h3 := sE_sat h2
  cases r2 with
  | @ptr p n hb =>
    simp only [dPut] at h3
    cases z : S2[n]? with
    | none =>
      rw [z] at h3
      exact h3.elim
    | some cc =>
      rw [z] at h3
      cases cc with
      | obj c fs =>
        obtain ⟨⟨c1, c2⟩, h3⟩ := gd_sat h3
        obtain ⟨o1, o2⟩ := ok c (List.contains_iff_mem.mp c1)
        obtain ⟨_, dx, fvs, hx, as⟩ := R2.cell _ _ _ hb z rfl
        refine ⟨p, _, dx, fvs, rfl, hx, o1, o2, by rw [as.len]; exact c2, ?_⟩
        exact h3 w2 _ σ l12 (R2.put hb z rfl ⟨dx, _, upd_same, as.put (r1.up l2)⟩) (E.up l12)
      | _ => exact h3.elim
  | _ => exact h3.elim) fun x s z => pxs_px E z)⟩
/-! ### from now on known -/
def setS (i : Nat) (d : D) (e : Env) : Env := ⟨e.sl.set i (some d), e.ex⟩
def sFrz (i : Nat) : Stm := fun e S => match e.sl[i]? with
  | some (some (.ptr n)) => match S[n]? with
    | some (.lst ds) => .nx (setS i (.lst ds) e) (S.set n .dead)
    | some (.obj c fs) => .nx (setS i (.obj c fs) e) (S.set n .dead)
    | _ => .no
  | _ => .no
theorem EnvR.frz {w : Wd} {σ : L2.St} {e : Env} {i : Nat} {d : D} {v : V} (E : EnvR C w σ e) (h : σ[i]? = some (some v)) (a : VR C.K w v d) : EnvR C w σ (setS i d e) := ⟨by simp [setS, E.len], fun j d' h' => by
  have h' : (e.sl.set i (some d))[j]? = some (some d') := h'
  by_cases q : i = j
  · subst q
    rw [List.getElem?_set_self (by
      have := (List.getElem?_eq_some_iff.mp h').1
      simpa using this)] at h'
    cases h'
    exact ⟨v, h, a⟩
  · rw [List.getElem?_set_ne q] at h'
    exact E.sl j d' h', E.ex⟩
theorem snd_frz {ts : TS} {m : Stm} (i : Nat) (h : SndS C ts m) : SndS C ts (sSeq (sFrz i) m) := fun En e σ w S H E R q => by
  unfold sSeq sFrz at q
  cases z : e.sl[i]? with
  | none =>
    rw [z] at q
    exact q.elim
  | some o =>
    rw [z] at q
    cases o with
    | none => exact q.elim
    | some d =>
      cases d with
      | ptr n =>
        obtain ⟨v, h1, h2⟩ := E.sl i _ z
        cases h2 with
        | @ptr p _ hb =>
          simp only at q
          cases y : S[n]? with
          | none =>
            rw [y] at q
            exact q.elim
          | some cc =>
            rw [y] at q
            cases cc with
            | lst ds =>
              obtain ⟨_, xs, hx, as⟩ := R.cell _ _ _ hb y rfl
              obtain ⟨le, R2⟩ := R.freeze hb y rfl hx
              exact h En _ σ _ _ H ((E.up le).frz h1 (.lst upd_same (as.up le))) R2 (SO.sat.imp (show (m _ _).sat _ _ _ _ _ from q) (fun _ _ z => z.up le) (fun _ _ z => z.up le) (fun _ _ z => z.up le) (fun _ _ z => z.up le) (fun _ _ _ z => z.up le))
            | obj c fs =>
              obtain ⟨_, dx, fvs, hx, as⟩ := R.cell _ _ _ hb y rfl
              obtain ⟨le, R2⟩ := R.freeze hb y rfl hx
              exact h En _ σ _ _ H ((E.up le).frz h1 (.obj upd_same (as.up le))) R2 (SO.sat.imp (show (m _ _).sat _ _ _ _ _ from q) (fun _ _ z => z.up le) (fun _ _ z => z.up le) (fun _ _ z => z.up le) (fun _ _ z => z.up le) (fun _ _ _ z => z.up le))
            | dead => exact q.elim
      | _ => exact q.elim
theorem cs_frz {st : Stmt} {ts : TS} {m : Stm} (i : Nat) (h : CS X C st ts m) : CS X C st ts (sSeq (sFrz i) m) := ⟨fun y => (h.ps y), snd_frz i h.sn⟩
/-! ### loops -/
def forGo (src : List (Nat × List D)) (tg : D → Env → Option Env) (body : Stm) : List D → Stm
  | [], e, S => if okSrc src S then .nx e S else .no
  | d :: ds, e, S => if okSrc src S then match tg d e with
    | some e1 => match body e1 S with
      | .nx e2 S2 => forGo src tg body ds e2 S2
      | .ct e2 S2 => forGo src tg body ds e2 S2
      | .bk e2 S2 => .nx e2 S2
      | o => o
    | none => .no else .no
def sFor (it : Env → M Itm) (tg : D → Env → Option Env) (body : Stm) : Stm := sE it fun I => forGo I.src tg body I.ds
theorem snd_for {wi : TI} {it : Env → M Itm} {g : TG} {f : D → Env → Option Env} {tw : TS} {body : Stm} (hI : SndI C wi it) (hg : SndG C g f) (hb : SndS C tw body) : SndS C (tFor wi g tw) (sFor it f body) := fun En e σ w S H E R q => hI e σ w S H _ E R ((sE_sat q).imp (fun I S1 h1 w1 H1 J l1 R1 wk => by
  refine ⟨fun i n σ' H' => n = I.ds.length - i ∧ i ≤ I.ds.length ∧ ∃ (w2 : Wd) (e2 : Env) (S2 : Sto), w1.le w2 ∧ EnvR C w2 σ' e2 ∧ Rel C.K w2 S2 H' ∧ (forGo I.src f body (I.ds.drop i) e2 S2).sat (PN C w En.nx) (PV C.K w En.rt) (PN C w En.bk) (PN C w En.ct) (PXS C w),
    ⟨I.ds.length, by simp, Nat.zero_le _, w1, e, S1, Wd.le.refl _, E.up l1, R1, h1⟩, ?_⟩
  rintro i n σ2 H2 ⟨rfl, hi, w2, e2, S2, l2, E2, R2, hgo⟩
  have l12 := l1.trans l2
  by_cases hlt : i < I.ds.length
  · rw [List.drop_eq_getElem_cons hlt] at hgo
    unfold forGo at hgo
    by_cases ok : okSrc I.src S2 = true
    · rw [if_pos ok] at hgo
      cases z : f I.ds[i] e2 with
      | none =>
        rw [z] at hgo
        exact hgo.elim
      | some e3 =>
        rw [z] at hgo
        obtain ⟨g1, g2⟩ := wk.go w2 S2 H2 l2.z R2 ok i _ (List.getElem?_eq_getElem hlt)
        refine .inr ⟨g1, fun σ' H' => ∃ (w2 : Wd) (e2 : Env) (S2 : Sto), w1.le w2 ∧ EnvR C w2 σ' e2 ∧ Rel C.K w2 S2 H' ∧ (forGo I.src f body (I.ds.drop (i + 1)) e2 S2).sat (PN C w En.nx) (PV C.K w En.rt) (PN C w En.bk) (PN C w En.ct) (PXS C w),
          fun σ' H' q => ⟨I.ds.length - (i + 1), by omega, rfl, by omega, q⟩, fun x H3 hy => ?_⟩
        obtain ⟨w3, l3, R3, a3⟩ := g2 x H3 hy
        refine hg e2 σ2 w3 S2 H3 x _ e3 _ (E2.up l3) R3 a3 z fun σ3 E3 => ?_
        have l13 := l12.trans l3
        refine hb _ e3 σ3 w3 S2 H3 E3 R3 ?_
        simp only at hgo
        cases y : body e3 S2 with
        | nx e4 S4 =>
          rw [y] at hgo
          exact fun w4 H4 σ4 l4 R4 E4 => ⟨w4, e4, S4, (l2.trans l3).trans l4, E4, R4, hgo⟩
        | ct e4 S4 =>
          rw [y] at hgo
          exact fun w4 H4 σ4 l4 R4 E4 => ⟨w4, e4, S4, (l2.trans l3).trans l4, E4, R4, hgo⟩
        | bk e4 S4 =>
          rw [y] at hgo
          exact PN.up l13 hgo
        | rt d S4 =>
          rw [y] at hgo
          exact PV.up l13 hgo
        | er x e4 S4 =>
          rw [y] at hgo
          exact PXS.up l13 hgo
        | no =>
          rw [y] at hgo
          exact hgo
    · rw [if_neg ok] at hgo
      exact hgo.elim
  · have ei : i = I.ds.length := by omega
    subst ei
    rw [List.drop_length] at hgo
    unfold forGo at hgo
    by_cases ok : okSrc I.src S2 = true
    · rw [if_pos ok] at hgo
      exact .inl ⟨wk.stop w2 S2 H2 l2.z R2 ok, hgo w2 H2 σ2 l12 R2 E2⟩
    · rw [if_neg ok] at hgo
      exact hgo.elim) fun x s z => pxs_px E z)
theorem cs_for {iter : Expr} {body : List Stmt} {wi : TI} {it : Env → M Itm} {g : TG} {f : D → Env → Option Env} {tw : TS} {m : Stm} (hc : X.calm = true) (hi : CI X C tg iter wi it) (hg : CG X C tg g f) (hb : CSs X C body tw m) (hs : ∀ x, foldedSetIterable iter X.env x = pure x := by intro _; rfl) : CS X C (.For tg iter body [] pos) (tFor wi g tw) (sFor it f m) :=
  ⟨fun y => ps_for y.ps hc (hi.pi y) (hg.pg y) (hb.ps y) hs, snd_for hi.sn hg.sn hb.sn⟩
def whGo (t : Env → M Bool) (body : Stm) : Nat → Stm
  | 0 => fun _ _ => .no
  | n + 1 => sE t fun k => if k then (fun e S => match body e S with
    | .nx e2 S2 => whGo t body n e2 S2
    | .ct e2 S2 => whGo t body n e2 S2
    | .bk e2 S2 => .nx e2 S2
    | o => o) else fun e S => .nx e S
/-- a while; fuel: how many turns at most, told by what stands ahead -/
def sWhile (fuel : Env → Sto → Nat) (t : Env → M Bool) (body : Stm) : Stm := fun e S => whGo t body (fuel e S) e S
theorem cs_while {c : Expr} {body : List Stmt} {tc : TT} {t : Env → M Bool} {tw : TS} {m : Stm} (fuel : Env → Sto → Nat) (hc : CT X C c tc t) (hb : CSs X C body tw m) : CS X C (.While c body [] pos) (tWhile tc tw) (sWhile fuel t m) := ⟨fun y => ps_while y.ps (hc.pt y) (hb.ps y), fun En e σ w S H E R q => by
  refine ⟨fun n σ' H' => ∃ (w2 : Wd) (e2 : Env) (S2 : Sto), w.le w2 ∧ EnvR C w2 σ' e2 ∧ Rel C.K w2 S2 H' ∧ (whGo t m n e2 S2).sat (PN C w En.nx) (PV C.K w En.rt) (PN C w En.bk) (PN C w En.ct) (PXS C w), ⟨fuel e S, w, e, S, Wd.le.refl _, E, R, q⟩, ?_⟩
  rintro n σ2 H2 ⟨w2, e2, S2, l2, E2, R2, hgo⟩
  cases n with
  | zero => exact hgo.elim
  | succ n =>
    refine hc.sn e2 σ2 w2 S2 H2 _ E2 R2 ((sE_sat hgo).imp (fun k S3 h3 w3 H3 l3 R3 => ?_) fun x s z => pxs_px E2 (z.up l2))
    have l23 := l2.trans l3
    cases k with
    | false => exact h3 w3 H3 σ2 l23 R3 (E2.up l3)
    | true =>
      refine ⟨fun σ' H' => ∃ (w2 : Wd) (e2 : Env) (S2 : Sto), w.le w2 ∧ EnvR C w2 σ' e2 ∧ Rel C.K w2 S2 H' ∧ (whGo t m n e2 S2).sat (PN C w En.nx) (PV C.K w En.rt) (PN C w En.bk) (PN C w En.ct) (PXS C w), fun σ' H' q => ⟨n, Nat.lt_succ_self n, q⟩, ?_⟩
      refine hb.sn _ e2 σ2 w3 S3 H3 (E2.up l3) R3 ?_
      simp only [if_true] at h3
      cases y : m e2 S3 with
      | nx e4 S4 =>
        rw [y] at h3
        exact fun w4 H4 σ4 l4 R4 E4 => ⟨w4, e4, S4, l23.trans l4, E4, R4, h3⟩
      | ct e4 S4 =>
        rw [y] at h3
        exact fun w4 H4 σ4 l4 R4 E4 => ⟨w4, e4, S4, l23.trans l4, E4, R4, h3⟩
      | bk e4 S4 =>
        rw [y] at h3
        exact PN.up l23 h3
      | rt d S4 =>
        rw [y] at h3
        exact PV.up l23 h3
      | er x e4 S4 =>
        rw [y] at h3
        exact PXS.up l23 h3
      | no =>
        rw [y] at h3
        exact h3⟩
end
end PM
end
section
set_option Elab.async false
set_option linter.all false
set_option maxRecDepth 100000
namespace PM
open PySem L2 Evl
section
variable {X : Cx} {C : Ct} {ta tb tc te : TE} {a b c tg : Expr} {ma mb mc : Env → M D} {pos : Pos}
/-! ### raising -/
def sRaise0 (cls : Str) : Stm := fun e S => .er ⟨cls, none⟩ e S
def sRaise1 (cls f : Str) (m : Env → M D) : Stm := sE m fun d e S => .er ⟨cls, some (f, d)⟩ e S
theorem cs_raise0 {e : Expr} {cls : Str} (hc : X.calm = true) (hm : PMk X e (fun _ H Q => Q (.ref (He.ga C.K cls)) none H)) : CS X C (.Raise (some e) none pos) (fun _ σ H => C.W (.ref (He.ga C.K cls)) none σ H) (sRaise0 cls) :=
  ⟨fun y => ps_raise hc y.tk hm, fun En e σ w S H E R q => q w H σ _ none (Wd.le.refl w) R E ⟨rfl, trivial⟩⟩
theorem cs_raise1 {p pos2 : Pos} {k : Nat} {fI : Addr} {x cls f txt : Str} (hc : X.calm = true) (T : SupX.Sup X.prog X.K X.mg (He.ga X.K cls) fI x f txt) (hr : Room k X.A) (ha : CE X C a ta ma) (hg : Gl X x) (hd : (x == ("__debug__" : Str)) = false := by decide)
    (hst : starEach (a :: []) X.env = (false, eval a X.env) :: starEach [] X.env := by rfl) (hpl : (backTo pos (starEach [] X.env)).any (·.1) = false := by rfl) :
    CS X C (.Raise (some (.Call (.Name x p) [a] [] pos)) none pos2) (tRaiseSup (He.ga C.K cls) f C.W (tCons ta tNil)) (sRaise1 cls f ma) := ⟨fun y => by rw [← ha.hK]; exact ps_raiseSup hc T hr y.tk (pa_cons (ha.pe y) pa_nil hst) hg hd hst hpl, fun En e σ w S H E R q => ha.sn e σ w S H _ E R ((sE_sat q).imp (fun d S1 h1 w1 H1 v l1 R1 r1 => by
  refine ⟨v, rfl, fun dd hdd => ?_⟩
  obtain ⟨le, R2⟩ := R1.plus (o := .xd [(f, v)]) hdd
  exact h1 _ _ σ _ (some dd) (l1.trans le) R2 (E.up (l1.trans le)) ⟨rfl, dd, v, rfl, upd_same, r1.up le⟩) fun x s z => pxs_px E z)⟩
/-! ### try -/
/-- which class is below which -/
structure XT (K : PySem.W.Frag) (excs : List Str) (below : Str → Str → Bool) : Prop where
  m : ∀ c ∈ excs, ∀ c' ∈ excs, PySem.W.exmOne K (.ref (He.ga K c)) (.ref (He.ga K c')) = some (below c c')
def clrS (i : Nat) (e : Env) : Env := ⟨e.sl.set i none, none⟩
theorem EnvR.clr {w : Wd} {σ : L2.St} {e : Env} {C' : Ct} {i : Nat} {o : Option V} (E : EnvR C' w σ e) (hk : C'.K = C.K) : EnvR C w (σ.set i o) (clrS i e) := ⟨by simp [clrS, E.len], fun j d h => by
  have h : (e.sl.set i none)[j]? = some (some d) := h
  by_cases q : i = j
  · subst q
    rw [List.getElem?_set_self (by
      have := (List.getElem?_eq_some_iff.mp h).1
      simpa using this)] at h
    cases h
  · rw [List.getElem?_set_ne q] at h
    obtain ⟨v, h1, h2⟩ := E.sl j d h
    exact ⟨v, by rw [List.getElem?_set_ne q]; exact h1, hk ▸ h2⟩, fun j x h => by cases h⟩
def dropX (e : Env) : Env := ⟨e.sl, none⟩
theorem EnvR.dropX {w : Wd} {σ : L2.St} {e : Env} {C' : Ct} (E : EnvR C' w σ e) (hk : C'.K = C.K) : EnvR C w σ (dropX e) := ⟨E.len, fun j d h => by
  obtain ⟨v, h1, h2⟩ := E.sl j d h
  exact ⟨v, h1, hk ▸ h2⟩, fun j x h => by cases h⟩
def grabX (i : Nat) (x : Er) (e : Env) : Env := ⟨e.sl.set i none, some (i, x)⟩
/-- one clause: its class, the name's slot, its suite -/
structure Hd where
  cls : Str
  slot : Option Nat
  suite : Stm
def runHd (h : Hd) (x : Er) (e : Env) (S : Sto) : SO := match h.slot with
  | none => match h.suite (dropX e) S with
    | .nx e' S' => .nx (dropX e') S'
    | .bk e' S' => .bk (dropX e') S'
    | .ct e' S' => .ct (dropX e') S'
    | .er _ _ _ => .no
    | o => o
  | some i => if i < e.sl.length then match h.suite (grabX i x e) S with
    | .nx e' S' => .nx (clrS i e') S'
    | .bk e' S' => .bk (clrS i e') S'
    | .ct e' S' => .ct (clrS i e') S'
    | .er _ _ _ => .no
    | o => o else .no
def runHds (excs : List Str) (below : Str → Str → Bool) (x : Er) (e : Env) (S : Sto) : List Hd → SO
  | [] => .er x e S
  | h :: hs => if excs.contains x.cls && excs.contains h.cls then (if below x.cls h.cls then runHd h x e S else runHds excs below x e S hs) else .no
def sTry (excs : List Str) (below : Str → Str → Bool) (body : Stm) (hs : List Hd) : Stm := fun e S => match body e S with
  | .er x e' S' => runHds excs below x e' S' hs
  | o => o
/-- the promise of a suite, for the exception that it holds -/
def SuiteS (C : Ct) (ts : Addr → Value → Option Addr → TS) (m : Stm) : Prop := ∀ (a : Addr) (cls : Value) (d : Option Addr), SndS ⟨C.K, fun _ _ _ _ => False, (a, cls, d)⟩ (ts a cls d) m
theorem handle_only {excs : List Str} {below : Str → Str → Bool} (T : XT C.K excs below) {h : Hd} {ts : Addr → Value → Option Addr → TS} (hn : h.slot = none) (hs : SuiteS C ts h.suite) {Wout : WX} {En : Ends} {x : Er} {e : Env} {S : Sto} {w0 w : Wd} {H : Hp} {σ : L2.St} {cc : Value} {dd : Option Addr} (l0 : w0.le w) (E : EnvR C w σ e) (R : Rel C.K w S H) (xr : ErR C.K w x cc dd) {rest : SO}
    (q : (if excs.contains x.cls && excs.contains h.cls then (if below x.cls h.cls then runHd h x e S else rest) else .no).sat (PN C w0 En.nx) (PV C.K w0 En.rt) (PN C w0 En.bk) (PN C w0 En.ct) (PXS C w0)) (hr : rest.sat (PN C w0 En.nx) (PV C.K w0 En.rt) (PN C w0 En.bk) (PN C w0 En.ct) (PXS C w0) → Wout cc dd σ H) :
    wOnly C.K (.ref (He.ga C.K h.cls)) ts Wout En cc dd σ H := by
  by_cases z : (excs.contains x.cls && excs.contains h.cls) = true
  · rw [if_pos z] at q
    obtain ⟨z1, z2⟩ := Bool.and_eq_true_iff.mp z
    refine ⟨below x.cls h.cls, ?_, fun y a ha => ?_, fun y => ?_⟩
    · rw [xr.1]
      exact T.m _ (List.contains_iff_mem.mp z1) _ (List.contains_iff_mem.mp z2)
    · rw [if_pos y] at q
      unfold runHd at q
      rw [hn] at q
      refine hs a cc dd En _ σ w S H (E.dropX rfl) R ?_
      simp only at q
      cases u : h.suite (dropX e) S with
      | nx e2 S2 =>
        rw [u] at q
        exact fun w' H' σ' l r E' => q w' H' σ' (l0.trans l) r (E'.dropX rfl)
      | bk e2 S2 =>
        rw [u] at q
        exact fun w' H' σ' l r E' => q w' H' σ' (l0.trans l) r (E'.dropX rfl)
      | ct e2 S2 =>
        rw [u] at q
        exact fun w' H' σ' l r E' => q w' H' σ' (l0.trans l) r (E'.dropX rfl)
      | rt d S2 =>
        rw [u] at q
        exact PV.up l0 q
      | er x2 e2 S2 =>
        rw [u] at q
        exact q.elim
      | no =>
        rw [u] at q
        exact q
    · rw [if_neg (by rw [y]; decide)] at q
      exact hr q
  · rw [if_neg z] at q
    exact q.elim
theorem handle_as {excs : List Str} {below : Str → Str → Bool} (T : XT C.K excs below) {h : Hd} {ts : Addr → Value → Option Addr → TS} {i : Nat} (hn : h.slot = some i) (hs : SuiteS C ts h.suite) {Wout : WX} {En : Ends} {x : Er} {e : Env} {S : Sto} {w0 w : Wd} {H : Hp} {σ : L2.St} {cc : Value} {dd : Option Addr} (l0 : w0.le w) (E : EnvR C w σ e) (R : Rel C.K w S H) (xr : ErR C.K w x cc dd) {rest : SO}
    (q : (if excs.contains x.cls && excs.contains h.cls then (if below x.cls h.cls then runHd h x e S else rest) else .no).sat (PN C w0 En.nx) (PV C.K w0 En.rt) (PN C w0 En.bk) (PN C w0 En.ct) (PXS C w0)) (hr : rest.sat (PN C w0 En.nx) (PV C.K w0 En.rt) (PN C w0 En.bk) (PN C w0 En.ct) (PXS C w0) → Wout cc dd σ H) :
    wAs C.K (.ref (He.ga C.K h.cls)) i ts Wout En cc dd σ H := by
  by_cases z : (excs.contains x.cls && excs.contains h.cls) = true
  · rw [if_pos z] at q
    obtain ⟨z1, z2⟩ := Bool.and_eq_true_iff.mp z
    refine ⟨below x.cls h.cls, ?_, fun y a ha => ?_, fun y => ?_⟩
    · rw [xr.1]
      exact T.m _ (List.contains_iff_mem.mp z1) _ (List.contains_iff_mem.mp z2)
    · rw [if_pos y] at q
      unfold runHd at q
      rw [hn] at q
      simp only at q
      by_cases hi : i < e.sl.length
      · rw [if_pos hi] at q
        have Eg : EnvR ⟨C.K, fun _ _ _ _ => False, (a, cc, dd)⟩ w (σ.set i (some (.ref a))) (grabX i x e) := ⟨by simp [grabX, E.len], fun j d h => by
          have h : (e.sl.set i none)[j]? = some (some d) := h
          by_cases q : i = j
          · subst q
            rw [List.getElem?_set_self hi] at h
            cases h
          · rw [List.getElem?_set_ne q] at h
            obtain ⟨v, h1, h2⟩ := E.sl j d h
            exact ⟨v, by rw [List.getElem?_set_ne q]; exact h1, h2⟩, fun j y h => by
          cases h
          exact ⟨List.getElem?_set_self (by rw [E.len]; exact hi), xr⟩⟩
        refine hs a cc dd _ _ _ w S H Eg R ?_
        cases u : h.suite (grabX i x e) S with
        | nx e2 S2 =>
          rw [u] at q
          exact fun w' H' σ' l r E' => q w' H' _ (l0.trans l) r (E'.clr rfl)
        | bk e2 S2 =>
          rw [u] at q
          exact fun w' H' σ' l r E' => q w' H' _ (l0.trans l) r (E'.clr rfl)
        | ct e2 S2 =>
          rw [u] at q
          exact fun w' H' σ' l r E' => q w' H' _ (l0.trans l) r (E'.clr rfl)
        | rt d S2 =>
          rw [u] at q
          exact PV.up l0 q
        | er x2 e2 S2 =>
          rw [u] at q
          exact q.elim
        | no =>
          rw [u] at q
          exact q
      · rw [if_neg hi] at q
        exact q.elim
    · rw [if_neg (by rw [y]; decide)] at q
      exact hr q
  · rw [if_neg z] at q
    exact q.elim
/-- the outcome, but for exceptions -/
def noX (e : Env) (S : Sto) (o : SO) : SO := match o with
  | .er _ _ _ => SO.nx e S
  | o => o
def Ct.wish (C : Ct) (W : WX) : Ct := ⟨C.K, W, C.sx⟩
theorem SndS.body {C : Ct} {W : WX} {ts : TS} {m : Stm} (h : SndS (C.wish W) ts m) {En : Ends} {e : Env} {σ : L2.St} {w : Wd} {S : Sto} {H : Hp} (E : EnvR C w σ e) (R : Rel C.K w S H) {o : SO} (eo : m e S = o) (hx : ∀ x e' S', o = .er x e' S' → ∀ (w' : Wd) (H' : Hp) (σ' : L2.St) (c : Value) (dd : Option Addr), w.le w' → Rel C.K w' S' H' → EnvR C w' σ' e' → ErR C.K w' x c dd → W c dd σ' H')
    (hn : (noX e S o).sat (fun e2 S2 => (∃ x e' S', o = .er x e' S') ∨ PN C w En.nx e2 S2) (PV C.K w En.rt) (PN C w En.bk) (PN C w En.ct) (PXS C w)) : ts En σ H := by
  refine h En e σ w S H ⟨E.len, E.sl, E.ex⟩ R ?_
  rw [eo]
  cases o with
  | nx e2 S2 =>
    rcases hn with ⟨x, e', S', hh⟩ | hn
    · cases hh
    · exact fun w' H' σ' l r E' => hn w' H' σ' l r ⟨E'.len, E'.sl, E'.ex⟩
  | rt d S2 => exact hn
  | bk e2 S2 => exact fun w' H' σ' l r E' => hn w' H' σ' l r ⟨E'.len, E'.sl, E'.ex⟩
  | ct e2 S2 => exact fun w' H' σ' l r E' => hn w' H' σ' l r ⟨E'.len, E'.sl, E'.ex⟩
  | er x e2 S2 => exact fun w' H' σ' c dd l r E' xr => hx x e2 S2 rfl w' H' σ' c dd l r ⟨E'.len, E'.sl, E'.ex⟩ xr
  | no => exact hn
theorem try_split {excs : List Str} {below : Str → Str → Bool} {body : Stm} {hs : List Hd} {e : Env} {S : Sto} {w : Wd} {En : Ends} (q : (sTry excs below body hs e S).sat (PN C w En.nx) (PV C.K w En.rt) (PN C w En.bk) (PN C w En.ct) (PXS C w)) : (noX e S (body e S)).sat (fun e2 S2 => (∃ x e' S', body e S = .er x e' S') ∨ PN C w En.nx e2 S2) (PV C.K w En.rt) (PN C w En.bk) (PN C w En.ct) (PXS C w) ∧ ∀ x e' S', body e S = .er x e' S' → (runHds excs below x e' S' hs).sat (PN C w En.nx) (PV C.K w En.rt) (PN C w En.bk) (PN C w En.ct) (PXS C w) := by
  unfold sTry at q
  cases z : body e S with
  | er x e' S' =>
    rw [z] at q
    exact ⟨.inl ⟨x, e', S', rfl⟩, fun x2 e2 S2 h => by
      cases h
      exact q⟩
  | nx e2 S2 =>
    rw [z] at q
    exact ⟨.inr q, fun x2 e2 S2 h => by cases h⟩
  | rt d S2 =>
    rw [z] at q
    exact ⟨q, fun x2 e2 S2 h => by cases h⟩
  | bk e2 S2 =>
    rw [z] at q
    exact ⟨q, fun x2 e2 S2 h => by cases h⟩
  | ct e2 S2 =>
    rw [z] at q
    exact ⟨q, fun x2 e2 S2 h => by cases h⟩
  | no =>
    rw [z] at q
    exact ⟨q, fun x2 e2 S2 h => by cases h⟩
theorem cs_try_only {excs : List Str} {below : Str → Str → Bool} (T : XT C.K excs below) {x cls : Str} {body suite : List Stmt} {b₀ : Stmt} {np pos' : Pos} {tb : WX → TS} {ts : Addr → Value → Option Addr → TS} {mb ms : Stm} (hs : X.stack = X.env :: X.outer) (hf : X.env.frame = some X.env.locals) (hc : Names X x (.ref (He.ga C.K cls)))
    (hb : ∀ (W : WX) (pn : List (Addr × Obj)) (xe : Value → Shared → Prop), CSs (X.tr pn xe) (C.wish W) body (tb W) mb)
    (hsu : ∀ (a : Addr) (oe : Obj) (cls : Value) (d : Option Addr) (pn : List (Addr × Obj)), Zc cls d oe → (∃ vs, oe.data = .fields vs) → CSs (X.suite a ((a, oe) :: pn)) ⟨C.K, fun _ _ _ _ => False, (a, cls, d)⟩ (b₀ :: suite) (ts a cls d) ms) (hm : SuiteS C ts ms) (hK : X.K = C.K := by rfl) :
    CS X C (.Try body [.ExceptHandler (some (.Name x np)) none (b₀ :: suite) pos'] [] [] pos) (fun D σ H => tb (wOnly C.K (.ref (He.ga C.K cls)) ts C.W D) D σ H) (sTry excs below mb [⟨cls, none, ms⟩]) :=
  ⟨fun y => by
    rw [← hK] at hc ⊢
    exact ps_try_only hs hf hc y.tk (fun W pn xe t p => (hb W pn xe).ps ⟨t, p⟩) (fun a oe cls d pn hz hd => (hsu a oe cls d pn hz hd).ps ⟨takes0, PassesOwn.never⟩), fun En e σ w S H E R q => by
    obtain ⟨q1, q2⟩ := try_split q
    refine SndS.body ((hb _ [] (fun _ _ => True)).sn) E R rfl (fun x2 e' S' h w' H' σ' c dd l r E' xr => ?_) q1
    exact handle_only T rfl hm l E' r xr (q2 x2 e' S' h) fun z => z w' H' σ' c dd l r E' xr⟩
theorem cs_try_as {excs : List Str} {below : Str → Str → Bool} (T : XT C.K excs below) {i : Nat} {x n cls : Str} {body suite : List Stmt} {b₀ : Stmt} {np pos' : Pos} {tb : WX → TS} {ts : Addr → Value → Option Addr → TS} {mb ms : Stm} (hs : X.stack = X.env :: X.outer) (hf : X.env.frame = some X.env.locals) (hN : X.N.Nodup) (hi : X.N[i]? = some n) (hln : X.env.kindOf n = some .local) (hc : Names X x (.ref (He.ga C.K cls)))
    (hb : ∀ (W : WX) (pn : List (Addr × Obj)) (xe : Value → Shared → Prop), CSs (X.tr pn xe) (C.wish W) body (tb W) mb)
    (hsu : ∀ (a : Addr) (oe : Obj) (cls : Value) (d : Option Addr) (pn : List (Addr × Obj)), Zc cls d oe → (∃ vs, oe.data = .fields vs) → CSs (X.suite a ((a, oe) :: pn)) ⟨C.K, fun _ _ _ _ => False, (a, cls, d)⟩ (b₀ :: suite) (ts a cls d) ms) (hm : SuiteS C ts ms) (hK : X.K = C.K := by rfl) :
    CS X C (.Try body [.ExceptHandler (some (.Name x np)) (some n) (b₀ :: suite) pos'] [] [] pos) (fun D σ H => tb (wAs C.K (.ref (He.ga C.K cls)) i ts C.W D) D σ H) (sTry excs below mb [⟨cls, some i, ms⟩]) :=
  ⟨fun y => by
    rw [← hK] at hc ⊢
    exact ps_try_as hs hf hN hi hln hc y.tk (fun W pn xe t p => (hb W pn xe).ps ⟨t, p⟩) (fun a oe cls d pn hz hd => (hsu a oe cls d pn hz hd).ps ⟨takes0, PassesOwn.never⟩), fun En e σ w S H E R q => by
    obtain ⟨q1, q2⟩ := try_split q
    refine SndS.body ((hb _ [] (fun _ _ => True)).sn) E R rfl (fun x2 e' S' h w' H' σ' c dd l r E' xr => ?_) q1
    exact handle_as T rfl hm l E' r xr (q2 x2 e' S' h) fun z => z w' H' σ' c dd l r E' xr⟩
/-- the suite's promise, off the suite as it is read for some exception -/
theorem suiteS {ts : Addr → Value → Option Addr → TS} {m : Stm} {sts : List Stmt} (h : ∀ (a : Addr) (oe : Obj) (cls : Value) (d : Option Addr) (pn : List (Addr × Obj)), Zc cls d oe → (∃ vs, oe.data = .fields vs) → CSs (X.suite a ((a, oe) :: pn)) ⟨C.K, fun _ _ _ _ => False, (a, cls, d)⟩ sts (ts a cls d) m) : SuiteS C ts m := fun a cls d => (h a { cls := cls, dict := d, data := .fields #[] } cls d [] ⟨rfl, rfl⟩ ⟨_, rfl⟩).sn
/-- the field of the exception that is held -/
def eErr (i : Nat) (cls f : Str) (e : Env) : M D := match e.ex with
  | some (j, x) => match x.arg with
    | some (g, d) => gd (j = i ∧ x.cls = cls ∧ g = f) (ret d)
    | none => stuck
  | none => stuck
theorem ce_err {a : Addr} {oe : Obj} {cl : Value} {d : Option Addr} {pn : List (Addr × Obj)} {W : WX} {i : Nat} {x y f txt cls : Str} {p : Pos} {fI : Addr} (T : SupX.Sup X.prog X.K X.mg (He.ga X.K cls) fI y f txt) (hz : Zc cl d oe) (hf : ∃ vs, oe.data = .fields vs) (hi : PE (X.suite a ((a, oe) :: pn)) (.Name x p) (tVar i))
    (hb : attributeBase (.Name x p) f X.env (eval (.Name x p) X.env) = eval (.Name x p) X.env := by rfl) (hn : PySem.W.copiedNames.contains f = false := by decide) (hK : X.K = C.K := by rfl) :
    CE (X.suite a ((a, oe) :: pn)) ⟨C.K, W, (a, cl, d)⟩ (.Attribute (.Name x p) f pos) (tBySup (He.ga C.K cls) f a cl d (tVar i)) (eErr i cls f) := ⟨hK, fun _ => by rw [← hK]; exact pe_bySup T hz hf hi hb hn, fun e σ w S H Q E R h => by
  unfold eErr at h
  cases q : e.ex with
  | none =>
    rw [q] at h
    exact h.elim
  | some p =>
    obtain ⟨j, x⟩ := p
    rw [q] at h
    simp only at h
    cases z : x.arg with
    | none =>
      rw [z] at h
      exact h.elim
    | some gd' =>
      obtain ⟨g, dd⟩ := gd'
      rw [z] at h
      obtain ⟨cc, h2⟩ := gd_sat h
      obtain ⟨rfl, c2, rfl⟩ := cc
      obtain ⟨e1, e2, e3⟩ := E.ex _ _ q
      rw [z] at e3
      obtain ⟨ad, v, k1, k2, k3⟩ := e3
      refine ⟨_, e1, rfl, ?_, ad, v, k1, R.ex _ _ k2, h2 w H v (Wd.le.refl w) R k3⟩
      rw [← c2]
      exact e2⟩
end
/-! ### defs -/
def toOut (o : SO) : Out D := match o with
  | .nx _ S => .ok .non S
  | .rt d S => .ok d S
  | .er x _ S => .er x S
  | _ => .no
def startE (n m : Nat) (ds : List D) : Env := ⟨ds.map some ++ List.replicate (m - n) none, none⟩
/-- a def of n parameters and m names -/
def runFn (n m : Nat) (body : Stm) (ds : List D) : M D := fun S => if ds.length = n then toOut (body (startE n m ds) S) else .no
section
open PySem.Spec PyProof.Rows
variable {P : Program} {w : World} {K : PySem.W.Frag} {mg : Str → Option Value} {base : Heap}
theorem fn_env {C : Ct} {w : Wd} {vs : List V} {ds : List D} {N : List Str} {n : Nat} (h : VRs C.K w vs ds) (hn : ds.length = n) (hl : n ≤ N.length) : EnvR C w (L2.start N vs) (startE n N.length ds) := ⟨by simp [L2.start, startE, h.len, hn], fun i d q => by
  have q : (ds.map some ++ List.replicate (N.length - n) none)[i]? = some (some d) := q
  by_cases z : i < ds.length
  · rw [List.getElem?_append_left (by simpa using z), List.getElem?_map] at q
    cases y : ds[i]? with
    | none =>
      rw [y] at q
      cases q
    | some d' =>
      rw [y] at q
      cases q
      obtain ⟨v, v1, v2⟩ := h.get y
      refine ⟨v, ?_, v2⟩
      show (vs.map some ++ List.replicate (N.length - vs.length) none)[i]? = some (some v)
      rw [List.getElem?_append_left (by simpa [h.len] using z), List.getElem?_map, v1]
      rfl
  · rw [List.getElem?_append_right (by simpa using z)] at q
    have := List.getElem?_eq_some_iff.mp q
    simp at this, fun i x q => by cases q⟩
theorem fn_run {CX : CXT} {N : List Str} {qual : Str} {scope : Scope} {f : Addr} {cd : Value} {A : Around} {outer : List PySem.Env} {s : Shared} {H : Hp} {E : XK} {st : List Stmt} {n : Nat} {m : Stm} {ts : TS} {sx : Addr × Value × Option Addr} {vs : List V} {Q : VK} (hl : n ≤ N.length)
    (hb : CSs (cxOf CX P w K mg base N qual scope f cd A outer s H E) ⟨K, fun c d _ H => E c d H, sx⟩ st ts m) (hy : Hyp (cxOf CX P w K mg base N qual scope f cd A outer s H E) ⟨K, fun c d _ H => E c d H, sx⟩) (h : spM K (runFn n N.length m) vs H Q E) :
    ∃ t, PSs (cxOf CX P w K mg base N qual scope f cd A outer s H E) st t ∧ t { nx := fun _ H' => Q .non H', rt := Q } (L2.start N vs) H := by
  obtain ⟨w0, ds, S, R, rs, h⟩ := h
  unfold runFn at h
  by_cases hn : ds.length = n
  · rw [if_pos hn] at h
    refine ⟨ts, hb.ps hy, hb.sn _ _ (L2.start N vs) w0 S H (fn_env (C := ⟨K, _, sx⟩) rs hn hl) R ?_⟩
    unfold toOut at h
    cases q : m (startE n N.length ds) S with
    | nx e' S' =>
      rw [q] at h
      exact fun w' H' σ' l r E' => h w' H' .non l r .non
    | rt d S' =>
      rw [q] at h
      exact h
    | er x e' S' =>
      rw [q] at h
      exact fun w' H' σ' c dd l r E' xr => h w' H' c dd l r xr
    | bk e' S' =>
      rw [q] at h
      exact h.elim
    | ct e' S' =>
      rw [q] at h
      exact h.elim
    | no =>
      rw [q] at h
      exact h.elim
  · rw [if_neg hn] at h
    exact h.elim
theorem sp_len {n m : Nat} {b : Stm} {vs : List V} {H : Hp} {Q : VK} {E : XK} (h : spM K (runFn n m b) vs H Q E) : vs.length = n := by
  obtain ⟨w0, ds, S, R, rs, h⟩ := h
  unfold runFn at h
  by_cases hn : ds.length = n
  · rw [rs.len, hn]
  · rw [if_neg hn] at h
    exact h.elim
/-- a def of no defaults -/
theorem fn_pm {x qual : Str} {st : Stmt} {f : Addr} {N ps : List Str} {k : Nat} {m : Stm} (F : ∃ fd, FunD K x qual (defArgs st) (defBody st) (defScope st) [] [] f fd) (S : FnScope N ps (defScope st)) (hl : ps.length ≤ N.length)
    (hb : ∀ (kV doc pm : Value) (an : Option Addr) (cdv ct : Value) (us : List Value), us.length = ps.length → bindArgs (PySem.W.fnOf x qual (defArgs st) (defBody st) (defScope st) .none kV doc pm an cdv ct) ⟨us, []⟩ = pure (ps.zip us))
    (body : ∀ (cdv : Value) (A : Around) (outer : List PySem.Env) (s : Shared) (H : Hp) (E : XK), Room k (A.deeper (envOfC qual (defScope st) s.heap.objs.size f cdv)) → ∃ ts, CSs (cxOf (L2.CX P w) P w K mg base N qual (defScope st) f cdv A outer s H E) ⟨K, fun c d _ H => E c d H, (0, .none, none)⟩ (defBody st) ts m) :
    WD.FnG P w K mg base (k + 1) f ps (spM K (runFn ps.length N.length m)) := by
  refine WD.fnX F S (fun vs H Q E h => sp_len h) hb fun cdv A outer s H vs Q E hr h => ?_
  obtain ⟨ts, hc⟩ := body cdv A outer s H E hr
  exact fn_run hl hc ⟨takes_of rfl rfl rfl rfl, passes_of rfl⟩ h
end
end PM
end
section
set_option Elab.async false
set_option linter.all false
set_option maxRecDepth 100000
namespace PM
open PySem L2 Evl
section
variable {X : Cx} {C : Ct} {ta tb tc te t1 t2 : TE} {a b c tg : Expr} {ma mb mc x y : Env → M D} {pos : Pos}
/-! ### y = [..] -/
theorem cs_setLc (keep : Bool) {i : Nat} {y : Str} {py spos : Pos} {elt iter : Expr} {ifs : List Expr} {scope : Scope} {own : List (Str × Nat)} {wi : TI} {it : Env → M Itm} {g : TG} {f : D → Env → Option Env} {tt : TT} {t : Env → M Bool} {m : Env → M D} (hc : X.calm = true) (hN : X.N.Nodup) (hy : X.N[i]? = some y) (hyl : X.env.scope.names.lookup y = some .local)
    (hsw : swapsWith (.ListComp elt [⟨tg, iter, ifs, 0⟩] scope pos) (some (.Name y py)) spos.line X.env = pure true) (hi : CI X C tg iter wi it) (ok : BlkOk X.N X.env.scope scope own)
    (hg : ∀ (s : Shared) (H : Hp) (Z : Addr) (cl : List (Str × Addr)) (fp : List Addr), CG (X.blk s H scope (compEnvC scope cl Z X.env) fp) (C0 C) tg g f) (hk : KeepG g (own.map (·.2))) (ht : ∀ (s : Shared) (H : Hp) (Z : Addr) (cl : List (Str × Addr)) (fp : List Addr), CTs (X.blk s H scope (compEnvC scope cl Z X.env) fp) (C0 C) ifs tt t)
    (he : ∀ (s : Shared) (H : Hp) (Z : Addr) (cl : List (Str × Addr)) (fp : List Addr), CE (X.blk s H scope (compEnvC scope cl Z X.env) fp) (C0 C) elt te m) (hs : ∀ x, foldedSetIterable iter X.env x = pure x := by intro _; rfl) :
    CS X C (.Assign [.Name y py] (.ListComp elt [⟨tg, iter, ifs, 0⟩] scope pos) spos) (tAsg (tLc wi g tt te (own.map (·.2))) (gName i)) (sAsg (eLc keep it (own.map (·.2)) f t m) (gN i)) :=
  ⟨fun y => ps_setLc hc hN hy hyl hsw (hi.pi y) ok (fun s H Z cl fp => (hg s H Z cl fp).pg hyp0) (fun s H Z cl fp => (ht s H Z cl fp).pt hyp0) (fun s H Z cl fp => (he s H Z cl fp).pe hyp0) hs, snd_asg (snd_lc keep hi.sn (hg X.s_0 X.H_0 0 [] []).sn hk (ht X.s_0 X.H_0 0 [] []).sn (he X.s_0 X.H_0 0 [] []).sn) (snd_gname i)⟩
/-! ### one way or the other -/
def orM {α : Type} (x y : Env → M α) (e : Env) : M α := fun S => match x e S with
  | .no => y e S
  | o => o
theorem peOr {e : Expr} (h1 : PE X e t1) (h2 : PE X e t2) : PE X e (fun σ H Q => t1 σ H Q ∨ t2 σ H Q) := ⟨fun pins s σ H Q I h => by
  rcases h with h | h
  · exact h1.run pins s σ H Q I h
  · exact h2.run pins s σ H Q I h⟩
theorem ptOr {e : Expr} {t1 t2 : TT} (h1 : PT X e t1) (h2 : PT X e t2) : PT X e (fun σ H Q => t1 σ H Q ∨ t2 σ H Q) := ⟨fun pins s σ H Q I h => by
  rcases h with h | h
  · exact h1.run pins s σ H Q I h
  · exact h2.run pins s σ H Q I h⟩
theorem ce_or2 {e : Expr} (h1 : CE X C e t1 x) (h2 : CE X C e t2 y) : CE X C e (fun σ H Q => t1 σ H Q ∨ t2 σ H Q) (orM x y) := ⟨h1.hK, fun z => peOr (h1.pe z) (h2.pe z), fun e σ w S H Q E R h => by
  unfold orM at h
  cases q : x e S with
  | no =>
    rw [q] at h
    exact .inr (h2.sn e σ w S H Q E R h)
  | ok d s =>
    rw [q] at h
    refine .inl (h1.sn e σ w S H Q E R ?_)
    rw [q]
    exact h
  | er u s =>
    rw [q] at h
    refine .inl (h1.sn e σ w S H Q E R ?_)
    rw [q]
    exact h⟩
theorem ct_or2 {e : Expr} {t1 t2 : TT} {x y : Env → M Bool} (h1 : CT X C e t1 x) (h2 : CT X C e t2 y) : CT X C e (fun σ H Q => t1 σ H Q ∨ t2 σ H Q) (orM x y) := ⟨h1.hK, fun z => ptOr (h1.pt z) (h2.pt z), fun e σ w S H Q E R h => by
  unfold orM at h
  cases q : x e S with
  | no =>
    rw [q] at h
    exact .inr (h2.sn e σ w S H Q E R h)
  | ok d s =>
    rw [q] at h
    refine .inl (h1.sn e σ w S H Q E R ?_)
    rw [q]
    exact h
  | er u s =>
    rw [q] at h
    refine .inl (h1.sn e σ w S H Q E R ?_)
    rw [q]
    exact h⟩
@[simp] theorem orM_no {α : Type} {x y : Env → M α} {e : Env} {S : Sto} (h : x e S = .no) : orM x y e S = y e S := by
  unfold orM
  rw [h]
theorem orM_ok {α : Type} {x y : Env → M α} {e : Env} {S S' : Sto} {d : α} (h : x e S = .ok d S') : orM x y e S = .ok d S' := by
  unfold orM
  rw [h]
/-! ### targets within targets -/
theorem monogs_nil : ∀ (v : List V) (σ : L2.St) (H : Hp) (Q Q' : L2.St → Hp → Prop), (∀ σ2 H2, Q σ2 H2 → Q' σ2 H2) → gNil v σ H Q → gNil v σ H Q' := fun v σ H Q Q' m q => ⟨q.1, m _ _ q.2⟩
def MonoGs (t : TGs) : Prop := ∀ (v : List V) (σ : L2.St) (H : Hp) (Q Q' : L2.St → Hp → Prop), (∀ σ2 H2, Q σ2 H2 → Q' σ2 H2) → t v σ H Q → t v σ H Q'
theorem mono_gnil : MonoGs gNil := monogs_nil
theorem mono_gcons {t : TG} {u : TGs} (h1 : MonoG t) (h2 : MonoGs u) : MonoGs (gCons t u) := fun v σ H Q Q' m q => by
  obtain ⟨x, r, e, q⟩ := q
  exact ⟨x, r, e, h1 _ _ _ _ _ (fun σ2 H2 z => h2 _ _ _ _ _ m z) q⟩
theorem mono_gtup {K : PySem.W.Frag} {n : Nat} {u : TGs} (h : MonoGs u) : MonoG (gTup K n u) := fun v σ H Q Q' m q => by
  obtain ⟨a, xs, h1, h2, h3, q⟩ := q
  exact ⟨a, xs, h1, h2, h3, h _ _ _ _ _ m q⟩
end
/-! ### while: so many turns as it takes -/
theorem whGo_more {t : Env → M Bool} {body : Stm} : ∀ (n k : Nat) (e : Env) (S : Sto), whGo t body n e S ≠ .no → whGo t body (n + k) e S = whGo t body n e S
  | 0, _, _, _, h => absurd rfl h
  | n + 1, k, e, S, h => by
    have e1 : n + 1 + k = (n + k) + 1 := by omega
    rw [e1]
    unfold whGo sE at h ⊢
    cases q : t e S with
    | no => rfl
    | er x s => rfl
    | ok b s =>
      rw [q] at h
      simp only at h ⊢
      cases b with
      | false => rfl
      | true =>
        simp only [if_true] at h ⊢
        cases z : body e s with
        | nx e2 S2 =>
          rw [z] at h
          exact whGo_more n k e2 S2 h
        | ct e2 S2 =>
          rw [z] at h
          exact whGo_more n k e2 S2 h
        | _ => rfl
open Classical in
noncomputable def whF (t : Env → M Bool) (body : Stm) (e : Env) (S : Sto) : Nat := if h : ∃ n, whGo t body n e S ≠ .no then h.choose else 0
noncomputable def sWhl (t : Env → M Bool) (body : Stm) : Stm := sWhile (whF t body) t body
theorem whl_eq {t : Env → M Bool} {body : Stm} {e : Env} {S : Sto} {o : SO} (n : Nat) (h : whGo t body n e S = o) (ho : o ≠ .no) : sWhl t body e S = o := by
  have hx : ∃ n, whGo t body n e S ≠ .no := ⟨n, by rw [h]; exact ho⟩
  show whGo t body (whF t body e S) e S = o
  unfold whF
  rw [dif_pos hx]
  have h1 := hx.choose_spec
  have h2 := whGo_more hx.choose n e S h1
  have h3 := whGo_more n hx.choose e S (by rw [h]; exact ho)
  rw [← h2, Nat.add_comm, h3, h]
/-- a turn more -/
theorem whl_turn {t : Env → M Bool} {body : Stm} {e e2 : Env} {S S1 S2 : Sto} (h : t e S = .ok true S1) (hb : body e S1 = .nx e2 S2) : sWhl t body e S = sWhl t body e2 S2 := by
  by_cases q : ∃ n, whGo t body n e2 S2 ≠ .no
  · obtain ⟨n, hn⟩ := q
    rw [whl_eq n rfl hn, whl_eq (n + 1) _ hn]
    show sE t _ e S = _
    unfold sE
    rw [h]
    simp only [if_true]
    rw [hb]
  · have e1 : sWhl t body e2 S2 = .no := by
      refine Classical.byContradiction fun z => q ⟨whF t body e2 S2, z⟩
    rw [e1]
    refine Classical.byContradiction fun z => ?_
    have z : whGo t body (whF t body e S) e S ≠ .no := z
    cases k : whF t body e S with
    | zero =>
      rw [k] at z
      exact z rfl
    | succ n =>
      rw [k] at z
      refine q ⟨n, fun c => z ?_⟩
      show sE t _ e S = _
      unfold sE
      rw [h]
      simp only [if_true]
      rw [hb]
      exact c
theorem whl_end {t : Env → M Bool} {body : Stm} {e : Env} {S S1 : Sto} (h : t e S = .ok false S1) : sWhl t body e S = .nx e S1 := by
  refine whl_eq 1 ?_ (by intro z; cases z)
  show sE t _ e S = _
  unfold sE
  rw [h]
  rfl
/-! ### defs with defaults -/
section
open PySem.Spec PyProof.Rows
variable {P : Program} {w : World} {K : PySem.W.Frag} {mg : Str → Option Value} {base : Heap}
/-- a def called with its defaults; it may not raise -/
theorem fn_pmH {x qual : Str} {st : Stmt} {f : Addr} {N ps : List Str} {k : Nat} {m : Stm} {dvs : List V} (n j : Nat) (F : ∃ fd, FunD K x qual (defArgs st) (defBody st) (defScope st) dvs [] f fd) (S : FnScope N ps (defScope st)) (hl : ps.length ≤ N.length)
    (hd : dvs ≠ []) (hn : n + (dvs.length - j) = ps.length)
    (hb : ∀ (T : Addr) (kV doc pm : Value) (an : Option Addr) (cdv ct : Value) (us its : List Value), us.length = n → its.length = dvs.length →
      ∃ k, bindArgs (PySem.W.fnOf x qual (defArgs st) (defBody st) (defScope st) (.ref T) kV doc pm an cdv ct) ⟨us, []⟩ = seqItems? (.ref T) >>= k ∧ k (some its.toArray) = pure (ps.zip (us ++ its.drop j)))
    (body : ∀ (cdv : Value) (A : Around) (outer : List PySem.Env) (s : Shared) (H : Hp) (E : XK), Room k (A.deeper (envOfC qual (defScope st) s.heap.objs.size f cdv)) → ∃ ts, CSs (cxOf (L2.CX P w) P w K mg base N qual (defScope st) f cdv A outer s H E) ⟨K, fun c d _ H => E c d H, (0, .none, none)⟩ (defBody st) ts m) :
    WD.FnH P w K mg base (k + 1) f ps (spM K (runFn ps.length N.length m)) (dvs.drop j) := by
  obtain ⟨fd, F⟩ := F
  obtain ⟨ds, v, B⟩ := F.binds1 n j hd hn hb
  exact ⟨⟨fd, ds, F.ok S (fun vs H Q E h => sp_len h) (fun cdv A outer s H vs Q E hr h => by
    obtain ⟨ts, hc⟩ := body cdv A outer s H E hr
    exact fn_run hl hc ⟨takes_of rfl rfl rfl rfl, passes_of rfl⟩ h), v, B⟩, F.kp⟩
end
end PM
end
section
set_option Elab.async false
set_option linter.all false
set_option maxRecDepth 100000
set_option maxHeartbeats 2000000
namespace PM
open PySem PySem.Spec PyProof.Rows L2 Evl
section
variable {X : Cx} {C : Ct} {ta tb tc te t1 t2 : TE} {a b c tg : Expr} {ma mb mc x y : Env → M D} {pos : Pos}
/-! ### rules that speak of the module's facts, where these are the same -/
theorem ce_cmpK {op : CmpOp} {g : D → D → M D} (rK : PySem.W.Frag → R2) (ho : OpR X (compareOp op) (rK X.K)) (hs : OpS C.K (rK C.K) g) (ha : CE X C a ta ma) (hb : CE X C b tb mb) (hm : behindInMarks op b = false) : CE X C (.Compare a [op] [b] pos) (tOp (rK C.K) ta tb) (e2 g ma mb) := ce_cmp (by rw [← ha.hK]; exact ho) hs ha hb hm
theorem ct_cmpK {op : CmpOp} {g : D → D → M D} (rK : PySem.W.Frag → R2) (ho : OpR X (compareOp op) (rK X.K)) (hs : OpS C.K (rK C.K) g) (ha : CE X C a ta ma) (hb : CE X C b tb mb) (hm : behindInMarks op b = false) : CT X C (.Compare a [op] [b] pos) (tTest (tOp (rK C.K) ta tb)) (tOf (e2 g ma mb)) := ct_cmp (by rw [← ha.hK]; exact ho) hs ha hb hm
theorem ce_opK {op : Operator} {g : D → D → M D} (rK : PySem.W.Frag → R2) (ho : OpR X (binaryOp op) (rK X.K)) (hs : OpS C.K (rK C.K) g) (ha : CE X C a ta ma) (hb : CE X C b tb mb) : CE X C (.BinOp a op b pos) (tOp (rK C.K) ta tb) (e2 g ma mb) := ce_op (by rw [← ha.hK]; exact ho) hs ha hb
abbrev rInK (K : PySem.W.Frag) : R2 := fun x y H Q => rInD K x y H Q ∨ rInDT K x y H Q
abbrev rNiK (K : PySem.W.Frag) : R2 := fun x y H Q => rIn K true x y H Q ∨ rNotInD K x y H Q
theorem ct_eq (hu : X.A.units + 64 < cLine) (ha : CE X C a ta ma) (hb : CE X C b tb mb) : CT X C (.Compare a [.Eq] [b] pos) (tTest (tOp (rEqD C.K) ta tb)) (tOf (e2 (dEq false) ma mb)) := ct_cmpK rEqD (op_eqD hu) (ops_eq _) ha hb (nobehind _ (by decide) (by decide))
theorem ct_ne (hu : X.A.units + 64 < cLine) (ha : CE X C a ta ma) (hb : CE X C b tb mb) : CT X C (.Compare a [.NotEq] [b] pos) (tTest (tOp (rNeD C.K) ta tb)) (tOf (e2 (dEq true) ma mb)) := ct_cmpK rNeD (op_neD hu) (ops_ne _) ha hb (nobehind _ (by decide) (by decide))
theorem ct_in (hu : X.A.units + 65 < cLine) (ha : CE X C a ta ma) (hb : CE X C b tb mb) (hm : behindInMarks .In b = false) : CT X C (.Compare a [.In] [b] pos) (tTest (tOp (rInK C.K) ta tb)) (tOf (e2 (dIn false) ma mb)) := ct_cmpK rInK (opOr (op_inD hu) (op_inDT (by omega))) (ops_in _) ha hb hm
theorem ct_notIn (hu : X.A.units + 65 < cLine) (ha : CE X C a ta ma) (hb : CE X C b tb mb) (hm : behindInMarks .NotIn b = false) : CT X C (.Compare a [.NotIn] [b] pos) (tTest (tOp (rNiK C.K) ta tb)) (tOf (e2 dNotInF ma mb)) := ct_cmpK rNiK (opOr op_notIn_seq (op_notInD hu)) (ops_notInF _) ha hb hm
theorem ct_lt (ha : CE X C a ta ma) (hb : CE X C b tb mb) : CT X C (.Compare a [.Lt] [b] pos) (tTest (tOp (rI0 fun i j => .bl (decide (i < j))) ta tb)) (tOf (e2 dLt ma mb)) := ct_cmp op_lt (ops_lt _) ha hb (nobehind _ (by decide) (by decide))
theorem ct_le (ha : CE X C a ta ma) (hb : CE X C b tb mb) : CT X C (.Compare a [.LtE] [b] pos) (tTest (tOp (rI0 fun i j => .bl (decide (i ≤ j))) ta tb)) (tOf (e2 dLe ma mb)) := ct_cmp op_le (ops_le _) ha hb (nobehind _ (by decide) (by decide))
theorem ct_gt (ha : CE X C a ta ma) (hb : CE X C b tb mb) : CT X C (.Compare a [.Gt] [b] pos) (tTest (tOp (rI0 fun i j => .bl (decide (j < i))) ta tb)) (tOf (e2 dGt ma mb)) := ct_cmp op_gt (ops_gt _) ha hb (nobehind _ (by decide) (by decide))
theorem ct_ge (ha : CE X C a ta ma) (hb : CE X C b tb mb) : CT X C (.Compare a [.GtE] [b] pos) (tTest (tOp (rI0 fun i j => .bl (decide (j ≤ i))) ta tb)) (tOf (e2 dGe ma mb)) := ct_cmp op_ge (ops_ge _) ha hb (nobehind _ (by decide) (by decide))
theorem ct_isN (ha : CE X C a ta ma) (hb : CE X C b tb mb) : CT X C (.Compare a [.Is] [b] pos) (tTest (tOp (fun x y H Q => y = .non ∧ Q (.bl (decide (x = .non))) H) ta tb)) (tOf (e2 (dIsN false) ma mb)) := ct_cmp op_isN (ops_isN _) ha hb (nobehind _ (by decide) (by decide))
theorem ct_notN (ha : CE X C a ta ma) (hb : CE X C b tb mb) : CT X C (.Compare a [.IsNot] [b] pos) (tTest (tOp (fun x y H Q => y = .non ∧ Q (.bl (!decide (x = .non))) H) ta tb)) (tOf (e2 (dIsN true) ma mb)) := ct_cmp op_notN (ops_notN _) ha hb (nobehind _ (by decide) (by decide))
section
variable {k : Nat} {f : Addr} {ps : List Str} {cc : Str} {g : List D → M D}
theorem ce_eqO (F : WD.FnG X.prog X.w X.K X.mg X.base k f ps (spM X.K g)) (hm : Meth X.K (He.ga X.K cc) "__eq__" f) (hr : Room k X.A) (ha : CE X C a ta ma) (hb : CE X C b tb mb) : CE X C (.Compare a [.Eq] [b] pos) (tOp (rEqO C.K (He.ga C.K cc) (spM C.K g) E0) ta tb) (e2 (dEqO false cc g) ma mb) := ce_cmpK (fun K => rEqO K (He.ga K cc) (spM K g) E0) (WD.eqO_of F hm hr) ops_eqO ha hb (nobehind _ (by decide) (by decide))
theorem ct_eqO (F : WD.FnG X.prog X.w X.K X.mg X.base k f ps (spM X.K g)) (hm : Meth X.K (He.ga X.K cc) "__eq__" f) (hr : Room k X.A) (ha : CE X C a ta ma) (hb : CE X C b tb mb) : CT X C (.Compare a [.Eq] [b] pos) (tTest (tOp (rEqO C.K (He.ga C.K cc) (spM C.K g) E0) ta tb)) (tOf (e2 (dEqO false cc g) ma mb)) := ct_cmpK (fun K => rEqO K (He.ga K cc) (spM K g) E0) (WD.eqO_of F hm hr) ops_eqO ha hb (nobehind _ (by decide) (by decide))
theorem ce_neO (F : WD.FnG X.prog X.w X.K X.mg X.base k f ps (spM X.K g)) (hm : Meth X.K (He.ga X.K cc) "__eq__" f) (hn : PySem.W.findIn X.K (.ref (He.ga X.K cc)) "__ne__" = some (some (.builtin "object.__ne__"))) (ho : PySem.W.mroIn X.K (He.ga X.K cc) (.type "object") = some true) (hr : Room (k + 1) X.A) (ha : CE X C a ta ma) (hb : CE X C b tb mb) : CE X C (.Compare a [.NotEq] [b] pos) (tOp (rNeO C.K (He.ga C.K cc) (spM C.K g) E0) ta tb) (e2 (dEqO true cc g) ma mb) := ce_cmpK (fun K => rNeO K (He.ga K cc) (spM K g) E0) (WD.neO_of F hm hn ho hr) ops_neO ha hb (nobehind _ (by decide) (by decide))
theorem ct_neO (F : WD.FnG X.prog X.w X.K X.mg X.base k f ps (spM X.K g)) (hm : Meth X.K (He.ga X.K cc) "__eq__" f) (hn : PySem.W.findIn X.K (.ref (He.ga X.K cc)) "__ne__" = some (some (.builtin "object.__ne__"))) (ho : PySem.W.mroIn X.K (He.ga X.K cc) (.type "object") = some true) (hr : Room (k + 1) X.A) (ha : CE X C a ta ma) (hb : CE X C b tb mb) : CT X C (.Compare a [.NotEq] [b] pos) (tTest (tOp (rNeO C.K (He.ga C.K cc) (spM C.K g) E0) ta tb)) (tOf (e2 (dEqO true cc g) ma mb)) := ct_cmpK (fun K => rNeO K (He.ga K cc) (spM K g) E0) (WD.neO_of F hm hn ho hr) ops_neO ha hb (nobehind _ (by decide) (by decide))
theorem ce_inO (F : WD.FnG X.prog X.w X.K X.mg X.base k f ps (spM X.K g)) (hm : Meth X.K (He.ga X.K cc) "__contains__" f) (hr : Room k X.A) (ha : CE X C a ta ma) (hb : CE X C b tb mb) (hx : behindInMarks .In b = false) : CE X C (.Compare a [.In] [b] pos) (tOp (rInO (He.ga C.K cc) (spM C.K g) E0 false) ta tb) (e2 (dInO false cc g) ma mb) := ce_cmpK (fun K => rInO (He.ga K cc) (spM K g) E0 false) (WD.inO_of F hm hr) (ops_inO false) ha hb hx
theorem ct_inO (F : WD.FnG X.prog X.w X.K X.mg X.base k f ps (spM X.K g)) (hm : Meth X.K (He.ga X.K cc) "__contains__" f) (hr : Room k X.A) (ha : CE X C a ta ma) (hb : CE X C b tb mb) (hx : behindInMarks .In b = false) : CT X C (.Compare a [.In] [b] pos) (tTest (tOp (rInO (He.ga C.K cc) (spM C.K g) E0 false) ta tb)) (tOf (e2 (dInO false cc g) ma mb)) := ct_cmpK (fun K => rInO (He.ga K cc) (spM K g) E0 false) (WD.inO_of F hm hr) (ops_inO false) ha hb hx
theorem ce_notInO (F : WD.FnG X.prog X.w X.K X.mg X.base k f ps (spM X.K g)) (hm : Meth X.K (He.ga X.K cc) "__contains__" f) (hr : Room k X.A) (ha : CE X C a ta ma) (hb : CE X C b tb mb) (hx : behindInMarks .NotIn b = false) : CE X C (.Compare a [.NotIn] [b] pos) (tOp (rInO (He.ga C.K cc) (spM C.K g) E0 true) ta tb) (e2 (dInO true cc g) ma mb) := ce_cmpK (fun K => rInO (He.ga K cc) (spM K g) E0 true) (WD.notInO_of F hm hr) (ops_inO true) ha hb hx
theorem ct_notInO (F : WD.FnG X.prog X.w X.K X.mg X.base k f ps (spM X.K g)) (hm : Meth X.K (He.ga X.K cc) "__contains__" f) (hr : Room k X.A) (ha : CE X C a ta ma) (hb : CE X C b tb mb) (hx : behindInMarks .NotIn b = false) : CT X C (.Compare a [.NotIn] [b] pos) (tTest (tOp (rInO (He.ga C.K cc) (spM C.K g) E0 true) ta tb)) (tOf (e2 (dInO true cc g) ma mb)) := ct_cmpK (fun K => rInO (He.ga K cc) (spM K g) E0 true) (WD.notInO_of F hm hr) (ops_inO true) ha hb hx
end
theorem ce_callBK {e : Expr} {es : List Expr} {tr : TA} {mr : Env → M (List D)} {x : Str} {p : Pos} {id : String} {g : List D → M D} (rK : PySem.W.Frag → List V → Hp → VK → Prop) (hc : CallR X (.builtin id) (rK X.K)) (hs : CallS C.K (rK C.K) g) (hg : Gl X x) (hm : X.mg x = none) (hv : bootBuiltins x = some (.builtin id)) (ha : CA X C (e :: es) tr mr) (hn : x ≠ "__name__" := by decide) (hdb : (x == ("__debug__" : Str)) = false := by decide)
    (he : starEach (e :: es) X.env = (false, eval e X.env) :: starEach es X.env := by rfl) (hpl : (backTo pos (starEach es X.env)).any (·.1) = false := by rfl) (hK : X.K = C.K := by rfl) : CE X C (.Call (.Name x p) (e :: es) [] pos) (tCB (rK C.K) tr) (eA g mr) := ce_callB (by rw [← hK]; exact hc) hs hg hm hv ha hn hdb he hpl hK
theorem ce_callTyK {e : Expr} {es : List Expr} {tr : TA} {mr : Env → M (List D)} {x : Str} {p : Pos} {T : String} {g : List D → M D} (rK : PySem.W.Frag → List V → Hp → VK → Prop) (hc : CallR X (.type T) (rK X.K)) (hs : CallS C.K (rK C.K) g) (hg : Gl X x) (hm : X.mg x = none) (hv : bootBuiltins x = some (.type T)) (ha : CA X C (e :: es) tr mr) (hn : x ≠ "__name__" := by decide) (hdb : (x == ("__debug__" : Str)) = false := by decide)
    (he : starEach (e :: es) X.env = (false, eval e X.env) :: starEach es X.env := by rfl) (hpl : (backTo pos (starEach es X.env)).any (·.1) = false := by rfl) (hK : X.K = C.K := by rfl) : CE X C (.Call (.Name x p) (e :: es) [] pos) (tCB (rK C.K) tr) (eA g mr) := ce_callTy (by rw [← hK]; exact hc) hs hg hm hv ha hn hdb he hpl hK
/-! ### calls without arguments -/
def eA0 (g : List D → M D) (_ : Env) : M D := fun S => noE (g [] S)
theorem ce_call0 {x : Str} {p : Pos} {k : Nat} {f : Addr} {ps : List Str} {g : List D → M D} (F : WD.FnG X.prog X.w X.K X.mg X.base k f ps (spM X.K g)) (hr : Room k X.A) (hg : Gl X x) (hm : X.mg x = some (.ref f)) (hdb : (x == ("__debug__" : Str)) = false := by decide) (hK : X.K = C.K := by rfl) :
    CE X C (.Call (.Name x p) [] [] pos) (tCall (spM C.K g) [] E0 tNil) (eA0 g) := ⟨hK, fun y => by rw [← hK]; exact WD.pe_callG0 F hr hg hm hdb, fun e σ w S H Q E R h => sp_of R .nil (noE_sat (E' := fun _ _ => False) h) (fun d s q => q) (fun x s q => q.elim)⟩
/-! ### what is never reached -/
def sNo : Stm := fun _ _ => .no
theorem cs_no {st : Stmt} : CS X C st tNever sNo := ⟨fun y => ps_never, fun En e σ w S H E R q => q.elim⟩
/-! ### fields -/
theorem fo_nil {K : PySem.W.Frag} {f : Str} : FldOk K f [] := fun c hc => by cases hc
theorem fo_cons {K : PySem.W.Frag} {f c : Str} {cs : List Str} (h1 : Cls K (He.ga K c)) (h2 : NoAttr K (He.ga K c) f) (h : FldOk K f cs) : FldOk K f (c :: cs) := fun d hd => by
  rcases List.mem_cons.mp hd with rfl | hd
  · exact ⟨h1, h2⟩
  · exact h d hd
/-! ### x[::-1] of a list -/
def dRev (x : D) : M D := wL x fun ds => ret (.lst ds.reverse)
theorem ce_rev {k : Nat} {p1 p2 p3 : Pos} (ha : CE X C a ta ma) : CE X C (.Subscript a (.Slice none none (some (.UnaryOp .USub (.Constant (.int 1) k p1) p2)) p3) pos) (tRevL C.K ta) (e1 dRev ma) := ⟨ha.hK, fun y => by rw [← ha.hK]; exact pe_revL (ha.pe y), fun e σ w S H Q E R h => by
  have h := sat_then.mp h
  refine ha.sn e σ w S H _ E R (h.imp (fun d S1 h1 w1 H1 v l1 R1 r1 => ?_) (fun x s hx => hx))
  obtain ⟨ds, z, h1⟩ := wL_sat h1
  obtain ⟨p, xs, rfl, e2, e3, _⟩ := rdL_ok R1 r1 z
  refine ⟨p, xs, rfl, e2, fun q hq => ?_⟩
  obtain ⟨le, R2⟩ := R1.plus (o := .lst xs.reverse) hq
  exact h1 _ _ _ (l1.trans le) R2 (.lst upd_same (e3.rev.up le))⟩
def dLRev (x : D) : M D := wL x fun ds => ret (.lst ds.reverse)
/-! ### bits -/
def dBand : D → D → M D
  | .int i, .int j => ret (.int (Builtin.bitAnd i j))
  | _, _ => stuck
theorem ops_band (K : PySem.W.Frag) : OpS K (rI0 fun i j => .int (Builtin.bitAnd i j)) dBand := fun w S H x y d1 d2 Q E R a b h => by
  cases a with
  | int i =>
    cases b with
    | int j => exact ⟨i, j, rfl, rfl, h w H _ (Wd.le.refl w) R (.int _)⟩
    | _ => exact h.elim
  | _ => exact h.elim
theorem ce_and2 (ha : CE X C a ta ma) (hb : CE X C b tb mb) : CE X C (.BinOp a .BitAnd b pos) (tOp (rI0 fun i j => .int (Builtin.bitAnd i j)) ta tb) (e2 dBand ma mb) := ce_op op_and (ops_band _) ha hb
/-! ### own + -/
def dAddO (c : Str) (g : List D → M D) (x y : D) : M D := fun S => if insOf S c "" x && insOf S c "" y then (noE (g [x, y] S)).then fun r S' => match r with
    | .obj c' fs => .ok (.obj c' fs) S'
    | .ptr n => .ok (.ptr n) S'
    | _ => .no else .no
theorem ops_addO {K : PySem.W.Frag} {c : Str} {g : List D → M D} : OpS K (rAddO (He.ga K c) (spM K g) E0) (dAddO c g) := fun w S H x y d1 d2 Q E R a b h => by
  unfold dAddO at h
  by_cases z : (insOf S c "" d1 && insOf S c "" d2) = true
  · rw [if_pos z] at h
    obtain ⟨z1, z2⟩ := Bool.and_eq_true_iff.mp z
    obtain ⟨p, dx, fvs, rfl, hp, _⟩ := insOf_ok R a z1
    obtain ⟨p', dx', fvs', rfl, hp', _⟩ := insOf_ok R b z2
    have h := sat_then.mp h
    refine ⟨p, p', dx, dx', fvs, fvs', rfl, rfl, hp, hp', sp_of R (.cons a (.cons b .nil)) (noE_sat (E' := fun _ _ => False) h) (fun d s q w' H' v l r a => ?_) fun _ _ q => q.elim⟩
    cases a with
    | obj s as => exact ⟨_, rfl, q w' H' _ l r (.obj s as)⟩
    | ptr s => exact ⟨_, rfl, q w' H' _ l r (.ptr s)⟩
    | _ => exact q.elim
  · rw [if_neg z] at h
    exact h.elim
theorem ce_addO {k : Nat} {f : Addr} {ps : List Str} {cc : Str} {g : List D → M D} (F : WD.FnG X.prog X.w X.K X.mg X.base k f ps (spM X.K g)) (hm : Meth X.K (He.ga X.K cc) "__add__" f) (hsf : PySem.W.selfFirst X.K (He.ga X.K cc) = true) (hr : Room k X.A) (ha : CE X C a ta ma) (hb : CE X C b tb mb) : CE X C (.BinOp a .Add b pos) (tOp (rAddO (He.ga C.K cc) (spM C.K g) E0) ta tb) (e2 (dAddO cc g) ma mb) := ce_opK (fun K => rAddO (He.ga K cc) (spM K g) E0) (addO_of F hm hsf hr) ops_addO ha hb
/-! ### == of two classes -/
def rEqM (C C' : Addr) (sp : Sp) (E : XK) : R2 := fun x y H Q => ∃ a b dx dy fs gs, x = .ref a ∧ y = .ref b ∧ H a = some (.ins C dx fs) ∧ H b = some (.ins C' dy gs) ∧ sp [.ref a, .ref b] H (fun v H' => ∃ k : Bool, v = .bl k ∧ Q (.bl k) H') E
theorem eqM_of {C C' f : Addr} {ps : List Str} {sp : Sp} {n : Nat} (F : WD.FnG X.prog X.w X.K X.mg X.base n f ps sp) (hm : Meth X.K C "__eq__" f) (hi : PySem.W.subIn X.K (.ref C') (.ref C) = some false) (hr : Room n X.A) : OpR X (compareOp .Eq) (rEqM C C' sp E0) := by
  obtain ⟨⟨fd, F, B⟩, kp⟩ := F
  intro pins s σ H x y v u Q I rx ry h
  obtain ⟨a, b, dx, dy, fs, gs, rfl, rfl, ha, hb', hsp⟩ := h
  cases rx
  cases ry
  obtain ⟨mA, J, _⟩ := ins_get I.hok ha
  obtain ⟨mB, J', _⟩ := ins_get I.hok hb'
  obtain ⟨od, J, _⟩ := J.look
  obtain ⟨od', J', _⟩ := J'.look
  obtain ⟨m, hF⟩ := I.fr
  show wpAny (model X.prog X.w) X.A (richCompare .Eq _ _) (EP X pins σ Q) X.xe s
  refine PySem.W.cmp_K (op := .Eq) (tb := .ref C') hr.units0 hF I.ok.mod.kin J J'.type (by simp [PySem.W.notFirst, hi]) hm.at_ hm.fn ?_
  refine wpAny_mono (own_call (A := X.A) ⟨hr, rfl⟩ F B passL I (.cons (show RelV (.ref a) (.ref a) from rfl) (.cons (show RelV (.ref b) (.ref b) from rfl) .nil)) hsp) (fun v s' z => ?_) fun _ _ x => x
  obtain ⟨w, H', I', rw', b, rfl, q⟩ := z
  cases rw'
  exact ⟨.bl b, H', I', rfl, q⟩
def dEqM (c c' : Str) (g : List D → M D) (x y : D) : M D := fun S => if insOf S c "" x && insOf S c' "" y then (noE (g [x, y] S)).then fun r => match r with
    | .bl b => ret (.bl b)
    | _ => stuck else .no
theorem ops_eqM {K : PySem.W.Frag} {c c' : Str} {g : List D → M D} : OpS K (rEqM (He.ga K c) (He.ga K c') (spM K g) E0) (dEqM c c' g) := fun w S H x y d1 d2 Q E R a b h => by
  unfold dEqM at h
  by_cases z : (insOf S c "" d1 && insOf S c' "" d2) = true
  · rw [if_pos z] at h
    obtain ⟨z1, z2⟩ := Bool.and_eq_true_iff.mp z
    obtain ⟨p, dx, fvs, rfl, hp, _⟩ := insOf_ok R a z1
    obtain ⟨p', dx', fvs', rfl, hp', _⟩ := insOf_ok R b z2
    have h := sat_then.mp h
    refine ⟨p, p', dx, dx', fvs, fvs', rfl, rfl, hp, hp', sp_of R (.cons a (.cons b .nil)) (noE_sat (E' := fun _ _ => False) h) (fun d s q w' H' v l r a => ?_) fun _ _ q => q.elim⟩
    cases a with
    | bl k => exact ⟨k, rfl, q w' H' _ l r (.bl _)⟩
    | _ => exact q.elim
  · rw [if_neg z] at h
    exact h.elim
section
variable {k : Nat} {f : Addr} {ps : List Str} {cc cd : Str} {g : List D → M D}
theorem ce_eqM (F : WD.FnG X.prog X.w X.K X.mg X.base k f ps (spM X.K g)) (hm : Meth X.K (He.ga X.K cc) "__eq__" f) (hi : PySem.W.subIn X.K (.ref (He.ga X.K cd)) (.ref (He.ga X.K cc)) = some false) (hr : Room k X.A) (ha : CE X C a ta ma) (hb : CE X C b tb mb) : CE X C (.Compare a [.Eq] [b] pos) (tOp (rEqM (He.ga C.K cc) (He.ga C.K cd) (spM C.K g) E0) ta tb) (e2 (dEqM cc cd g) ma mb) := ce_cmpK (fun K => rEqM (He.ga K cc) (He.ga K cd) (spM K g) E0) (eqM_of F hm hi hr) ops_eqM ha hb (nobehind _ (by decide) (by decide))
theorem ct_eqM (F : WD.FnG X.prog X.w X.K X.mg X.base k f ps (spM X.K g)) (hm : Meth X.K (He.ga X.K cc) "__eq__" f) (hi : PySem.W.subIn X.K (.ref (He.ga X.K cd)) (.ref (He.ga X.K cc)) = some false) (hr : Room k X.A) (ha : CE X C a ta ma) (hb : CE X C b tb mb) : CT X C (.Compare a [.Eq] [b] pos) (tTest (tOp (rEqM (He.ga C.K cc) (He.ga C.K cd) (spM C.K g) E0) ta tb)) (tOf (e2 (dEqM cc cd g) ma mb)) := ct_cmpK (fun K => rEqM (He.ga K cc) (He.ga K cd) (spM K g) E0) (eqM_of F hm hi hr) ops_eqM ha hb (nobehind _ (by decide) (by decide))
end
/-! ### bool(x) by an own __bool__ -/
def rBoolO (C : Addr) (sp : Sp) (E : XK) : List V → Hp → VK → Prop := fun xs H Q => ∃ a dx fs, xs = [.ref a] ∧ H a = some (.ins C dx fs) ∧ sp [.ref a] H (fun v H' => ∃ b : Bool, v = .bl b ∧ Q (.bl b) H') E
theorem boolO_of {C0' f : Addr} {ps : List Str} {sp : Sp} {n : Nat} (Fg : WD.FnG X.prog X.w X.K X.mg X.base n f ps sp) (hm : Meth X.K C0' "__bool__" f) (hr : Room (n + 2) X.A) : CallR X (.type "bool") (rBoolO C0' sp E0) := by
  obtain ⟨⟨fd, Fo, B⟩, kp⟩ := Fg
  intro pins s σ H xs us Q I r h
  obtain ⟨a, dx, fs, rfl, ha, hsp⟩ := h
  obtain rfl := Vals.ref1 r
  obtain ⟨mA, J, _⟩ := ins_get I.hok ha
  obtain ⟨od, J, _⟩ := J.look
  obtain ⟨m, hF⟩ := I.fr
  have truth : wpAny (model X.prog X.w) X.A.in1.in1 (truthy (.ref a)) (fun b s' => EP X pins σ Q (.bool b) s') X.xe s := by
    refine PySem.W.truthy_K hF I.ok.mod.kin J hm.at_ hm.fn ?_
    refine wpAny_mono (own_call (A := X.A.in1.in1) (Sub.in1 (Sub.in1 ⟨hr, rfl⟩)) Fo B passL I (.cons (show RelV (.ref a) (.ref a) from rfl) .nil) hsp) (fun v s' z => ?_) fun _ _ x => x
    obtain ⟨w, H', I', rw', b, rfl, q⟩ := z
    cases rw'
    exact ⟨.bl b, H', I', rfl, q⟩
  refine callType_newIn F.called_bool F.newNe_bool (F.typeCall_bool_1 _) (F.newCall_bool_1 _) (fun obj => F.args_object_init_2 obj _) F.entry_bool_new (S := fun A R s1 => A = X.A.in1 ∧ s1 = s ∧ R = wants (fun obj s₁ => s₁.TypeIs obj "bool" ∧ EP X pins σ Q obj s₁) X.xe) ?_ ⟨rfl, rfl, rfl⟩
  intro A R s1 hA
  obtain ⟨rfl, rfl, rfl⟩ := hA
  have f1 := F.conv_sub_bool
  repeat (any_goals (first | assumption | (with_reducible refine wpAny_mono truth ?_ fun _ _ x => x) | wp_step))
  intro b s' hq
  exact wpAny_pure ⟨rfl, hq⟩
/-- bool(x), x an instance -/
def dBoolO (c : Str) (g : List D → M D) (ds : List D) : M D := fun S => match ds with
  | [d] => if insOf S c "" d then (noE (g [d] S)).then fun r => match r with
    | .bl b => ret (.bl b)
    | _ => stuck else .no
  | _ => .no
theorem calls_boolO {K : PySem.W.Frag} {c : Str} {g : List D → M D} : CallS K (rBoolO (He.ga K c) (spM K g) E0) (dBoolO c g) := fun w S H xs ds Q E R rs h => by
  cases rs with
  | nil => exact h.elim
  | cons r1 rr =>
    cases rr with
    | cons _ _ => exact h.elim
    | nil =>
      rename_i v d
      have h : (if insOf S c "" d then (noE (g [d] S)).then _ else Out.no).sat _ _ := h
      by_cases z : insOf S c "" d = true
      · rw [if_pos z] at h
        obtain ⟨p, dx, fvs, rfl, hp, _⟩ := insOf_ok R r1 z
        have h := sat_then.mp h
        refine ⟨p, dx, fvs, rfl, hp, sp_of R (.cons r1 .nil) (noE_sat (E' := fun _ _ => False) h) (fun d s q w' H' v l r a => ?_) fun _ _ q => q.elim⟩
        cases a with
        | bl i => exact ⟨i, rfl, q w' H' _ l r (.bl _)⟩
        | _ => exact q.elim
      · rw [if_neg z] at h
        exact h.elim
theorem ce_boolO {k : Nat} {f : Addr} {ps : List Str} {cc : Str} {g : List D → M D} {e : Expr} {es : List Expr} {tr : TA} {mr : Env → M (List D)} {p : Pos} (F : WD.FnG X.prog X.w X.K X.mg X.base k f ps (spM X.K g)) (hm : Meth X.K (He.ga X.K cc) "__bool__" f) (hr : Room (k + 2) X.A) (hg : Gl X "bool") (hz : X.mg "bool" = none) (ha : CA X C (e :: es) tr mr)
    (he : starEach (e :: es) X.env = (false, eval e X.env) :: starEach es X.env := by rfl) (hpl : (backTo pos (starEach es X.env)).any (·.1) = false := by rfl) (hK : X.K = C.K := by rfl) : CE X C (.Call (.Name "bool" p) (e :: es) [] pos) (tCB (rBoolO (He.ga C.K cc) (spM C.K g) E0) tr) (eA (dBoolO cc g) mr) := ce_callTyK (fun K => rBoolO (He.ga K cc) (spM K g) E0) (boolO_of F hm hr) calls_boolO hg hz (by decide +kernel) ha (by decide) (by decide) he hpl hK
theorem ce_lenO {k : Nat} {f : Addr} {ps : List Str} {cc : Str} {g : List D → M D} {e : Expr} {es : List Expr} {tr : TA} {mr : Env → M (List D)} {p : Pos} (F : WD.FnG X.prog X.w X.K X.mg X.base k f ps (spM X.K g)) (hm : Meth X.K (He.ga X.K cc) "__len__" f) (hr : Room (k + 1) X.A) (hg : Gl X "len") (hz : X.mg "len" = none) (ha : CA X C (e :: es) tr mr)
    (he : starEach (e :: es) X.env = (false, eval e X.env) :: starEach es X.env := by rfl) (hpl : (backTo pos (starEach es X.env)).any (·.1) = false := by rfl) (hK : X.K = C.K := by rfl) : CE X C (.Call (.Name "len" p) (e :: es) [] pos) (tCB (rLenO (He.ga C.K cc) (spM C.K g) E0) tr) (eA (dLenO cc g) mr) := ce_callBK (fun K => rLenO (He.ga K cc) (spM K g) E0) (WD.lenO_of F hm hr) calls_lenO hg hz PySem.boot_len ha (by decide) (by decide) he hpl hK
/-! ### sorted(set(xs)), sorted(xs) -/
def insU (x : Int) : List Int → List Int
  | [] => [x]
  | y :: ys => if x < y then x :: y :: ys else if x = y then y :: ys else y :: insU x ys
def sortU (xs : List Int) : List Int := xs.foldr insU []
def insO (x : Int) : List Int → List Int
  | [] => [x]
  | y :: ys => if x ≤ y then x :: y :: ys else y :: insO x ys
def sortO (xs : List Int) : List Int := xs.foldr insO []
theorem insU_mem (x k : Int) : ∀ ys : List Int, k ∈ insU x ys ↔ k = x ∨ k ∈ ys
  | [] => by simp [insU]
  | y :: ys => by
    unfold insU
    split
    · simp
    · split
      · rename_i e
        subst e
        simp
      · simp [insU_mem x k ys]
        constructor
        · rintro (h | h | h) <;> simp [h]
        · rintro (h | h | h) <;> simp [h]
theorem insU_lt (x : Int) : ∀ ys : List Int, ys.Pairwise (· < ·) → (insU x ys).Pairwise (· < ·)
  | [], _ => by simp [insU]
  | y :: ys, h => by
    obtain ⟨h1, h2⟩ := List.pairwise_cons.mp h
    unfold insU
    split
    · rename_i c
      refine List.pairwise_cons.mpr ⟨fun k hk => ?_, h⟩
      rcases List.mem_cons.mp hk with rfl | hk
      · exact c
      · exact Int.lt_trans c (h1 k hk)
    · split
      · exact h
      · refine List.pairwise_cons.mpr ⟨fun k hk => ?_, insU_lt x ys h2⟩
        rcases (insU_mem x k ys).mp hk with rfl | hk
        · omega
        · exact h1 k hk
theorem sortU_mem (k : Int) : ∀ xs : List Int, k ∈ sortU xs ↔ k ∈ xs
  | [] => by simp [sortU]
  | x :: xs => by
    show k ∈ insU x (sortU xs) ↔ _
    rw [insU_mem, sortU_mem k xs]
    simp
theorem sortU_lt : ∀ xs : List Int, (sortU xs).Pairwise (· < ·)
  | [] => List.Pairwise.nil
  | x :: xs => insU_lt x _ (sortU_lt xs)
theorem insO_mem (x k : Int) : ∀ ys : List Int, k ∈ insO x ys ↔ k = x ∨ k ∈ ys
  | [] => by simp [insO]
  | y :: ys => by
    unfold insO
    split
    · simp
    · simp [insO_mem x k ys]
      constructor
      · rintro (h | h | h) <;> simp [h]
      · rintro (h | h | h) <;> simp [h]
theorem insO_le (x : Int) : ∀ ys : List Int, ys.Pairwise (· ≤ ·) → (insO x ys).Pairwise (· ≤ ·)
  | [], _ => by simp [insO]
  | y :: ys, h => by
    obtain ⟨h1, h2⟩ := List.pairwise_cons.mp h
    unfold insO
    split
    · rename_i c
      refine List.pairwise_cons.mpr ⟨fun k hk => ?_, h⟩
      rcases List.mem_cons.mp hk with rfl | hk
      · exact c
      · exact Int.le_trans c (h1 k hk)
    · refine List.pairwise_cons.mpr ⟨fun k hk => ?_, insO_le x ys h2⟩
      rcases (insO_mem x k ys).mp hk with rfl | hk
      · omega
      · exact h1 k hk
theorem insO_perm (x : Int) : ∀ ys : List Int, (insO x ys).Perm (x :: ys)
  | [] => by simp [insO]
  | y :: ys => by
    unfold insO
    split
    · exact List.Perm.refl _
    · exact ((insO_perm x ys).cons y).trans (List.Perm.swap x y ys)
theorem sortO_perm : ∀ xs : List Int, (sortO xs).Perm xs
  | [] => List.Perm.refl _
  | x :: xs => (insO_perm x _).trans ((sortO_perm xs).cons x)
theorem sortO_le : ∀ xs : List Int, (sortO xs).Pairwise (· ≤ ·)
  | [] => List.Pairwise.nil
  | x :: xs => insO_le x _ (sortO_le xs)
theorem lt_uniq : ∀ xs ys : List Int, xs.Pairwise (· < ·) → ys.Pairwise (· < ·) → (∀ k, k ∈ xs ↔ k ∈ ys) → xs = ys
  | [], [], _, _, _ => rfl
  | [], y :: ys, _, _, h => by simpa using h y
  | x :: xs, [], _, _, h => by simpa using h x
  | x :: xs, y :: ys, h1, h2, h => by
    obtain ⟨a1, a2⟩ := List.pairwise_cons.mp h1
    obtain ⟨b1, b2⟩ := List.pairwise_cons.mp h2
    have e : x = y := by
      have hx := (h x).mp (by simp)
      have hy := (h y).mpr (by simp)
      rcases List.mem_cons.mp hx with e | hx
      · exact e
      · rcases List.mem_cons.mp hy with e | hy
        · exact e.symm
        · have := b1 x hx
          have := a1 y hy
          omega
    subst e
    refine congrArg (x :: ·) (lt_uniq xs ys a2 b2 fun k => ?_)
    constructor
    · intro hk
      rcases List.mem_cons.mp ((h k).mp (List.mem_cons_of_mem _ hk)) with rfl | z
      · have := a1 _ hk
        omega
      · exact z
    · intro hk
      rcases List.mem_cons.mp ((h k).mpr (List.mem_cons_of_mem _ hk)) with rfl | z
      · have := b1 _ hk
        omega
      · exact z
theorem le_uniq : ∀ xs ys : List Int, xs.Pairwise (· ≤ ·) → ys.Pairwise (· ≤ ·) → xs.Perm ys → xs = ys
  | [], [], _, _, _ => rfl
  | [], y :: ys, _, _, h => by simpa using h.length_eq
  | x :: xs, [], _, _, h => by simpa using h.length_eq
  | x :: xs, y :: ys, h1, h2, h => by
    obtain ⟨a1, a2⟩ := List.pairwise_cons.mp h1
    obtain ⟨b1, b2⟩ := List.pairwise_cons.mp h2
    have e : x = y := by
      have hx := h.mem_iff.mp (show x ∈ x :: xs by simp)
      have hy := h.mem_iff.mpr (show y ∈ y :: ys by simp)
      rcases List.mem_cons.mp hx with e | hx
      · exact e
      · rcases List.mem_cons.mp hy with e | hy
        · exact e.symm
        · have := b1 x hx
          have := a1 y hy
          omega
    subst e
    exact congrArg (x :: ·) (le_uniq xs ys a2 b2 h.cons_inv)
def dSortSet (x : D) : M D := wQ x fun ds => oM (asInts ds) fun ns => gd (ns.length < 64) (ret (.lst ((sortU ns).map .int)))
theorem ce_sortSet {p p2 q : Pos} (hg : Gl X "sorted") (hm : X.mg "sorted" = none) (hg2 : Gl X "set") (hm2 : X.mg "set" = none) (ha : CE X C a ta ma) (hc : X.calm = true := by rfl)
    (na : starEach [a] X.env = (false, eval a X.env) :: starEach [] X.env := by rfl) : CE X C (.Call (.Name "sorted" p) [.Call (.Name "set" p2) [a] [] q] [] pos) (tSortSet C.K ta) (e1 dSortSet ma) := ⟨ha.hK, fun y => by rw [← ha.hK]; exact pe_sortSet hg hm hg2 hm2 (ha.pe y) hc (by decide +kernel) na, fun e σ w S H Q E R h => by
  have h := sat_then.mp h
  refine ha.sn e σ w S H _ E R (h.imp (fun d S1 h1 w1 H1 v l1 R1 r1 => ?_) (fun x s hx => hx))
  obtain ⟨ds, z, h1⟩ := wQ_sat h1
  obtain ⟨ns, z2, h1⟩ := oM_sat h1
  obtain ⟨hl, h1⟩ := gd_sat h1
  obtain ⟨p, xs, rfl, e2, e3⟩ := rdQ_ok R1 r1 z
  obtain rfl := asInts_ok e3 z2
  refine ⟨p, ns, rfl, e2, hl, fun ms q hs hm hq => ?_⟩
  obtain rfl := lt_uniq ms (sortU ns) hs (sortU_lt ns) fun k => (hm k).trans (sortU_mem k ns).symm
  obtain ⟨le, R2⟩ := R1.plus (o := .lst ((sortU ns).map V.int)) hq
  exact h1 _ _ _ (l1.trans le) R2 (.lst upd_same (VRs.ints _))⟩
def dSortI (x : D) : M D := wL x fun ds => oM (asInts ds) fun ns => ret (.lst ((sortO ns).map .int))
theorem calls_sortI {K : PySem.W.Frag} : CallS K (rSortedI K) (d1 dSortI) := calls1 fun w S H x d Q E R a h => by
  obtain ⟨ds, z, h⟩ := wL_sat h
  obtain ⟨ns, z2, h⟩ := oM_sat h
  obtain ⟨p, xs, rfl, e2, e3, _⟩ := rdL_ok R a z
  obtain rfl := asInts_ok e3 z2
  refine ⟨p, ns, rfl, e2, fun ms q hp hs hq => ?_⟩
  obtain rfl := le_uniq ms (sortO ns) hs (sortO_le ns) (hp.trans (sortO_perm ns).symm)
  obtain ⟨le, R2⟩ := R.plus (o := .lst ((sortO ns).map V.int)) hq
  exact h _ _ _ le R2 (.lst upd_same (VRs.ints _))
/-! ### truth of lists and numbers -/
def dTruth (x : D) : M Bool := fun S => match x with
  | .non => .ok false S
  | .int i => .ok (i != 0) S
  | .bl b => .ok b S
  | _ => wQ x (fun ds => ret (!ds.isEmpty)) S
def tTruth (a : Env → M D) (e : Env) : M Bool := bind (a e) dTruth
theorem ct_truth (ha : CE X C a ta ma) (he : ∀ whole, isTrue a X.env whole = (do let v ← whole; standAt a.pos; holding [v] (truthy v)) := by intro _; rfl) : CT X C a (fun σ H Q => ta σ H fun x H' => ∃ k, TruV C.K x H' k ∧ Q k H') (tTruth ma) := ⟨ha.hK, fun y => by rw [← ha.hK]; exact pt_truth (ha.pe y) he, fun e σ w S H Q E R h => by
  have h := sat_then.mp h
  refine ha.sn e σ w S H _ E R (h.imp (fun d S1 h1 w1 H1 v l1 R1 r1 => ?_) (fun x s hx => hx))
  have seq : ∀ v, VR C.K w1 v d → (wQ d (fun ds => ret (!ds.isEmpty)) S1).sat (PB C.K w Q) (PX C w σ) → (∃ p, v = V.ref p) → ∃ k, TruV C.K v H1 k ∧ Q k H1 := fun v r1 h1 hr => by
    obtain ⟨ds, z, h1⟩ := wQ_sat h1
    obtain ⟨p, xs, rfl, e2, e3⟩ := rdQ_ok R1 r1 z
    have hl : xs.isEmpty = ds.isEmpty := by
      cases e3 <;> rfl
    rcases e2 with e2 | e2
    · exact ⟨_, .inl ⟨xs, e2, rfl⟩, by rw [hl]; exact h1 w1 H1 l1 R1⟩
    · exact ⟨_, .inr (.inl ⟨xs, e2, rfl⟩), by rw [hl]; exact h1 w1 H1 l1 R1⟩
  cases r1 with
  | non => exact ⟨false, rfl, h1 w1 H1 l1 R1⟩
  | int i => exact ⟨i != 0, rfl, h1 w1 H1 l1 R1⟩
  | bl b => exact ⟨b, rfl, h1 w1 H1 l1 R1⟩
  | str b => exact h1.elim
  | obj s as => exact h1.elim
  | tup s as => exact seq _ (.tup s as) h1 ⟨_, rfl⟩
  | lst s as => exact seq _ (.lst s as) h1 ⟨_, rfl⟩
  | scr s => exact seq _ (.scr s) h1 ⟨_, rfl⟩
  | ptr s => exact seq _ (.ptr s) h1 ⟨_, rfl⟩⟩
end
end PM
end
section
set_option Elab.async false
set_option linter.all false
set_option maxRecDepth 100000
namespace PM
open PySem L2 Evl
theorem u65 {k : Nat} {A : Around} (r : Room k A) : A.units + 65 < cLine := by
  have := r.un
  omega
def sameC (c c' : Str) : Bool := decide (c = c')
section
variable {P : Program} {w : World} {K : PySem.W.Frag} {mg : Str → Option Value} {base : Heap}
theorem toG {k : Nat} {f : Addr} {ps : List Str} {sp : Sp} (h : WD.FnH P w K mg base k f ps sp []) : WD.FnG P w K mg base k f ps sp := by
  obtain ⟨⟨fd, ds, F, v, B⟩, kp⟩ := h
  cases v
  exact ⟨⟨fd, F, B⟩, kp⟩
end
/-- facts about own classes, from tests -/
theorem kt_by {K : PySem.W.Frag} {own : List Str} (h1 : ∀ c ∈ own, WD.OwnTy K c) (h2 : ∀ c ∈ own, ∀ n ∈ bts, PySem.W.kitOne K (.ref (He.ga K c)) (.type n) = some false) (h3 : ∀ c ∈ own, ∀ s ∈ bks, PySem.W.kitOne K (.type s) (.ref (He.ga K c)) = some false)
    (h4 : ∀ c ∈ own, ∀ c' ∈ own, PySem.W.kitOne K (.ref (He.ga K c)) (.ref (He.ga K c')) = some (sameC c c')) : KT K own sameC := ⟨h1, h2, h3, h4⟩
def ktB (K : PySem.W.Frag) (own : List Str) : Bool := own.all fun c => (bts.all fun n => decide (PySem.W.kitOne K (.ref (He.ga K c)) (.type n) = some false)) && (bks.all fun s => decide (PySem.W.kitOne K (.type s) (.ref (He.ga K c)) = some false)) && own.all fun c' => decide (PySem.W.kitOne K (.ref (He.ga K c)) (.ref (He.ga K c')) = some (sameC c c'))
theorem kt_ofB {K : PySem.W.Frag} {own : List Str} (h1 : ∀ c ∈ own, WD.OwnTy K c) (h : ktB K own = true) : KT K own sameC := by
  have h := List.all_eq_true.mp h
  refine kt_by h1 (fun c hc n hn => ?_) (fun c hc s hs => ?_) fun c hc c' hc' => ?_
  · have := (Bool.and_eq_true_iff.mp (Bool.and_eq_true_iff.mp (h c hc)).1).1
    exact of_decide_eq_true (List.all_eq_true.mp this n hn)
  · have := (Bool.and_eq_true_iff.mp (Bool.and_eq_true_iff.mp (h c hc)).1).2
    exact of_decide_eq_true (List.all_eq_true.mp this s hs)
  · exact of_decide_eq_true (List.all_eq_true.mp (Bool.and_eq_true_iff.mp (h c hc)).2 c' hc')
def xtB (K : PySem.W.Frag) (excs : List Str) (below : Str → Str → Bool) : Bool := excs.all fun c => excs.all fun c' => decide (PySem.W.exmOne K (.ref (He.ga K c)) (.ref (He.ga K c')) = some (below c c'))
theorem xt_ofB {K : PySem.W.Frag} {excs : List Str} {below : Str → Str → Bool} (h : xtB K excs below = true) : XT K excs below := ⟨fun c hc c' hc' => of_decide_eq_true (List.all_eq_true.mp (List.all_eq_true.mp h c hc) c' hc')⟩
/-! ### the law -/
def lawSp (K : PySem.W.Frag) : Sp := fun vs H Q _ => ∃ (a : Addr) (ns : List Int), vs = [.ref a] ∧ ns.length ≤ 63 ∧ Rd H a (.lst (ns.map V.int)) ∧ ∀ H', Q (.bl true) H'
section
open PySem.Spec PyProof.Rows
variable {P : Program} {w : World} {K : PySem.W.Frag} {mg : Str → Option Value} {base : Heap}
theorem law_fn {x qual : Str} {st : Stmt} {f : Addr} {N ps : List Str} {k : Nat} {m : Stm} {fd : FuncData} (F : FunD K x qual (defArgs st) (defBody st) (defScope st) [] [] f fd) (S : FnScope N ps (defScope st)) (hl : ps.length ≤ N.length) (h1 : ps.length = 1)
    (body : ∀ (cdv : Value) (A : Around) (outer : List PySem.Env) (s : Shared) (H : Hp) (E : XK), Room k (A.deeper (envOfC qual (defScope st) s.heap.objs.size f cdv)) → ∃ ts, CSs (cxOf (L2.CX P w) P w K mg base N qual (defScope st) f cdv A outer s H E) ⟨K, fun c d _ H => E c d H, (0, .none, none)⟩ (defBody st) ts m)
    (law : ∀ ns : List Int, ns.length ≤ 63 → ∃ S', runFn ps.length N.length m [.scr ns] [] = .ok (.bl true) S') : FnOk P w K mg base (L2.CX P w) (k + 1) f fd ps (lawSp K) :=
  F.ok S (fun vs H Q E h => by
    obtain ⟨a, ns, rfl, _⟩ := h
    exact h1.symm) fun cdv A outer s H vs Q E hr h => by
    obtain ⟨ts, hc⟩ := body cdv A outer s H E hr
    obtain ⟨a, ns, rfl, nl, hs, q⟩ := h
    obtain ⟨S', e⟩ := law ns nl
    refine fn_run hl hc ⟨takes_of rfl rfl rfl rfl, passes_of rfl⟩ ⟨⟨H, [], fun _ => none⟩, [.scr ns], [], ⟨Ex.refl _, rfl, List.nodup_nil, fun a ha => (List.not_mem_nil ha).elim, fun n a c h1 _ _ => (by simp at h1), fun a o h => by cases h⟩, .one (.scr hs), ?_⟩
    rw [e]
    intro w' H' v _ _ r
    cases r
    exact q H'
end
end PM
end
section
set_option Elab.async false
set_option linter.all false
set_option maxRecDepth 100000
set_option maxHeartbeats 4000000
/-! sorted(set(xs)) of long lists with few unlike items -/
namespace PM
open PySem PySem.Spec PyProof.Rows L2 Evl
theorem nodup_le {α : Type} [DecidableEq α] : ∀ (l m : List α), l.Nodup → (∀ k ∈ l, k ∈ m) → l.length ≤ m.length
  | [], m, _, _ => Nat.zero_le _
  | a :: l, m, h, hs => by
    obtain ⟨h1, h2⟩ := List.nodup_cons.mp h
    have ha : a ∈ m := hs a (by simp)
    have := nodup_le l (m.erase a) h2 fun k hk => (List.mem_erase_of_ne (fun e => h1 (by rw [← e]; exact hk))).mpr (hs k (List.mem_cons_of_mem _ hk))
    rw [List.length_erase_of_mem ha] at this
    have hp := List.length_pos_of_mem ha
    simp only [List.length_cons]
    omega
def tSortSetW (K : PySem.W.Frag) (ta : TE) : TE := fun σ H Q => ta σ H fun x H1 => ∃ (l : Addr) (ns : List Int), x = .ref l ∧ (SqL K H1 l (ns.map V.int) ∨ SqT K H1 l (ns.map V.int)) ∧ ns.length ≤ 4000 ∧ (sortU ns).length < 64 ∧
  ∀ (ms : List Int) (p : Addr), ms.Pairwise (· < ·) → (∀ k : Int, k ∈ ms ↔ k ∈ ns) → H1 p = none → Q (.ref p) (upd H1 p (.lst (ms.map V.int)))
section
variable {X : Cx}
theorem pe_sortSetW {a : Expr} {ta : TE} {p p2 q pos : Pos} (hg : Gl X "sorted") (hm : X.mg "sorted" = none) (hg2 : Gl X "set") (hm2 : X.mg "set" = none) (ha : PE X a ta) (hc : X.calm = true := by rfl)
    (hv : bootBuiltins "sorted" = some (.builtin "sorted") := by decide +kernel) (na : starEach [a] X.env = (false, eval a X.env) :: starEach [] X.env := by rfl) : PE X (.Call (.Name "sorted" p) [.Call (.Name "set" p2) [a] [] q] [] pos) (tSortSetW X.K ta) := by
  refine ⟨fun pins s σ H Q I h => ?_⟩
  refine Call_ (ld_blt I hg hm hv ?_)
  refine PyProof.Rows.callWith_builtin1 (PyProof.Rows.args_cons ?_ rfl) rfl rfl
  refine Call_ (ld_blt I hg2 hm2 boot_set (PyProof.Rows.callWith_type1 (PyProof.Rows.args_cons (thn (ha.run pins s σ H _ I h) fun v s1 ⟨x, H1, I1, r1, q1⟩ => PyProof.Rows.args_nil ?_) na) na rfl))
  obtain ⟨l, ns, rfl, hq, hz0, hl, q1⟩ := q1
  cases r1
  have fin : ∀ (s2 : Shared) (b : Addr) (c : Nat), Inv X pins σ H1 s2 → SetR X.w s2.heap b (fun j => decide (j ∈ ns)) c → c ≤ ns.length →
      wpAny (model X.prog X.w) X.A (call (.builtin "sorted") [.ref b]) (EP X pins σ Q) X.xe s2 := by
    intro s2 b c J R hcn
    have hc64 : c < 64 := by
      obtain ⟨o, es, ep, t, ho, hex, hd, g, nd, hm, hb, hf, hn, hr, hl'⟩ := R
      have := nodup_le _ (sortU ns) nd fun k hk => (sortU_mem k ns).mpr (of_decide_eq_true ((hm k).mpr hk))
      rw [List.length_map, Array.length_toList, hn] at this
      omega
    refine sorted_set R (J.ok.hd hc) hc64 fun s' u out c2 ms k g o hp hgt hi hsm hmem hlen => ?_
    have z : (ms.map V.int).length ≤ sizeLine := by
      rw [List.length_map, hlen, sizeLine_eq]
      omega
    have free : H1 u = none := J.hok.fresh hp
    have J2 : Inv X pins σ (upd H1 u (.lst (ms.map V.int))) { s2 with heap := s'.heap, gens := s'.gens, drawn := s'.drawn, toks := s'.toks } :=
      J.call (ch := []) (Un.laid k hp free) (J.hok.laid k hp ⟨z, out.toList, c2, vals_of_ints hi, hgt⟩) (by rw [g]; exact J.bare) (fun _ z => nomatch z)
    have e : s' = { s2 with heap := s'.heap, gens := s'.gens, drawn := s'.drawn, toks := s'.toks } := by
      cases s'
      cases s2
      cases o
      rfl
    rw [e]
    refine ⟨.ref u, _, J2, rfl, q1 ms u hsm (fun k => ?_) free⟩
    rw [hmem k]
    exact decide_eq_true_iff
  have hns : ns.length + 1 < scanBound := by
    unfold scanBound
    omega
  rcases hq with hq | hq
  · obtain ⟨its, r, pl, hz⟩ := I1.list hq
    exact call_set_listR ns (I1.ok.hd hc) pl.isList (by simpa using RZ.intsAre_vals r) hns fun h' tk c R hcn keep => PyProof.Rows.args_nil (fin _ _ c (I1.kept keep) R hcn)
  · obtain ⟨its, r, pl, hz⟩ := I1.tuple hq
    exact call_set_tupI ns (I1.ok.hd hc) pl (by simpa using RZ.intsAre_vals r) hns fun h' tk c R hcn keep => PyProof.Rows.args_nil (fin _ _ c (I1.kept keep) R hcn)
end
section
variable {X : Cx} {C : Ct} {ta : TE} {a : Expr} {ma : Env → M D} {pos : Pos}
def dSortSetW (x : D) : M D := wQ x fun ds => oM (asInts ds) fun ns => gd (ns.length ≤ 4000 ∧ (sortU ns).length < 64) (ret (.lst ((sortU ns).map .int)))
theorem ce_sortSetW {p p2 q : Pos} (hg : Gl X "sorted") (hm : X.mg "sorted" = none) (hg2 : Gl X "set") (hm2 : X.mg "set" = none) (ha : CE X C a ta ma) (hc : X.calm = true := by rfl)
    (na : starEach [a] X.env = (false, eval a X.env) :: starEach [] X.env := by rfl) : CE X C (.Call (.Name "sorted" p) [.Call (.Name "set" p2) [a] [] q] [] pos) (tSortSetW C.K ta) (e1 dSortSetW ma) := ⟨ha.hK, fun y => by rw [← ha.hK]; exact pe_sortSetW hg hm hg2 hm2 (ha.pe y) hc (by decide +kernel) na, fun e σ w S H Q E R h => by
  have h := sat_then.mp h
  refine ha.sn e σ w S H _ E R (h.imp (fun d S1 h1 w1 H1 v l1 R1 r1 => ?_) (fun x s hx => hx))
  obtain ⟨ds, z, h1⟩ := wQ_sat h1
  obtain ⟨ns, z2, h1⟩ := oM_sat h1
  obtain ⟨hl, h1⟩ := gd_sat h1
  obtain ⟨p, xs, rfl, e2, e3⟩ := rdQ_ok R1 r1 z
  obtain rfl := asInts_ok e3 z2
  refine ⟨p, ns, rfl, e2, hl.1, hl.2, fun ms q hs hm hq => ?_⟩
  obtain rfl := lt_uniq ms (sortU ns) hs (sortU_lt ns) fun k => (hm k).trans (sortU_mem k ns).symm
  obtain ⟨le, R2⟩ := R1.plus (o := .lst ((sortU ns).map V.int)) hq
  exact h1 _ _ _ (l1.trans le) R2 (.lst upd_same (VRs.ints _))⟩
end
end PM
end
section
set_option Elab.async false
set_option linter.all false
set_option maxRecDepth 100000
namespace Lk11
open PySem PySem.Spec PyProof.Rows L2 Evl
def topS (i : Nat) : Stmt := PySem.Challenge.pw_weirlines_k11_whole_always_even.main.body.getD i (.Pass ⟨0, 0, 0, 0⟩)
abbrev c_WeirError : Stmt := topS 3
abbrev c_BadProgram : Stmt := topS 5
abbrev s_BadProgram___init__ : Stmt := inClass c_BadProgram 0
abbrev c_BadStart : Stmt := topS 6
abbrev s_is_integer : Stmt := topS 8
abbrev s_is_fraction : Stmt := topS 9
abbrev s_reduced : Stmt := topS 10
abbrev s_exact : Stmt := topS 11
abbrev s_common_bottom : Stmt := topS 12
abbrev c_Program : Stmt := topS 16
abbrev s_Program___init__ : Stmt := inClass c_Program 0
abbrev s_Program___len__ : Stmt := inClass c_Program 1
abbrev s_Program___eq__ : Stmt := inClass c_Program 2
abbrev s_Program___add__ : Stmt := inClass c_Program 3
abbrev s_Program_order : Stmt := inClass c_Program 4
abbrev s_Program_done : Stmt := inClass c_Program 5
abbrev s_is_round : Stmt := topS 17
abbrev s_check_rounds : Stmt := topS 18
abbrev s_check_program : Stmt := topS 19
abbrev s_check_many : Stmt := topS 20
abbrev s_check_told : Stmt := topS 21
abbrev s_openings : Stmt := topS 22
abbrev s_halvings : Stmt := topS 23
abbrev s_evened : Stmt := topS 24
abbrev s_common_step : Stmt := topS 26
abbrev c_EvenAlways : Stmt := topS 28
abbrev s_EvenAlways___init__ : Stmt := inClass c_EvenAlways 0
abbrev s_EvenAlways___eq__ : Stmt := inClass c_EvenAlways 1
abbrev s_EvenAlways___bool__ : Stmt := inClass c_EvenAlways 2
abbrev s_EvenAlways_shows : Stmt := inClass c_EvenAlways 3
abbrev c_Parted : Stmt := topS 29
abbrev s_Parted___init__ : Stmt := inClass c_Parted 0
abbrev s_Parted___eq__ : Stmt := inClass c_Parted 1
abbrev s_Parted___bool__ : Stmt := inClass c_Parted 2
abbrev s_Parted_shows : Stmt := inClass c_Parted 3
abbrev s_stretches : Stmt := topS 30
abbrev s_rounds_for : Stmt := topS 31
abbrev s_judge_even : Stmt := topS 32
abbrev s__law_draw : Stmt := topS 34
abbrev s__law_rounds : Stmt := topS 35
abbrev s__law_weirs : Stmt := topS 36
abbrev s__law_order : Stmt := topS 37
abbrev s_law : Stmt := topS 38
def d_is_integer : He.DefD := ⟨("is_integer", none), "is_integer", "is_integer", defArgs s_is_integer, defBody s_is_integer, defScope s_is_integer, [], []⟩
def d_is_fraction : He.DefD := ⟨("is_fraction", none), "is_fraction", "is_fraction", defArgs s_is_fraction, defBody s_is_fraction, defScope s_is_fraction, [], []⟩
def d_reduced : He.DefD := ⟨("reduced", none), "reduced", "reduced", defArgs s_reduced, defBody s_reduced, defScope s_reduced, [], []⟩
def d_exact : He.DefD := ⟨("exact", none), "exact", "exact", defArgs s_exact, defBody s_exact, defScope s_exact, [], []⟩
def d_common_bottom : He.DefD := ⟨("common_bottom", none), "common_bottom", "common_bottom", defArgs s_common_bottom, defBody s_common_bottom, defScope s_common_bottom, [], []⟩
def d_Program___init__ : He.DefD := ⟨("Program", some "__init__"), "__init__", "Program.__init__", defArgs s_Program___init__, defBody s_Program___init__, defScope s_Program___init__, [], []⟩
def d_Program___len__ : He.DefD := ⟨("Program", some "__len__"), "__len__", "Program.__len__", defArgs s_Program___len__, defBody s_Program___len__, defScope s_Program___len__, [], []⟩
def d_Program___eq__ : He.DefD := ⟨("Program", some "__eq__"), "__eq__", "Program.__eq__", defArgs s_Program___eq__, defBody s_Program___eq__, defScope s_Program___eq__, [], []⟩
def d_Program___add__ : He.DefD := ⟨("Program", some "__add__"), "__add__", "Program.__add__", defArgs s_Program___add__, defBody s_Program___add__, defScope s_Program___add__, [], []⟩
def d_Program_done : He.DefD := ⟨("Program", some "done"), "done", "Program.done", defArgs s_Program_done, defBody s_Program_done, defScope s_Program_done, [], []⟩
def d_is_round : He.DefD := ⟨("is_round", none), "is_round", "is_round", defArgs s_is_round, defBody s_is_round, defScope s_is_round, [], []⟩
def d_check_rounds : He.DefD := ⟨("check_rounds", none), "check_rounds", "check_rounds", defArgs s_check_rounds, defBody s_check_rounds, defScope s_check_rounds, [], []⟩
def d_check_program : He.DefD := ⟨("check_program", none), "check_program", "check_program", defArgs s_check_program, defBody s_check_program, defScope s_check_program, [], []⟩
def d_check_many : He.DefD := ⟨("check_many", none), "check_many", "check_many", defArgs s_check_many, defBody s_check_many, defScope s_check_many, [], []⟩
def d_check_told : He.DefD := ⟨("check_told", none), "check_told", "check_told", defArgs s_check_told, defBody s_check_told, defScope s_check_told, [], []⟩
def d_openings : He.DefD := ⟨("openings", none), "openings", "openings", defArgs s_openings, defBody s_openings, defScope s_openings, [], []⟩
def d_halvings : He.DefD := ⟨("halvings", none), "halvings", "halvings", defArgs s_halvings, defBody s_halvings, defScope s_halvings, [], []⟩
def d_evened : He.DefD := ⟨("evened", none), "evened", "evened", defArgs s_evened, defBody s_evened, defScope s_evened, [], []⟩
def d_common_step : He.DefD := ⟨("common_step", none), "common_step", "common_step", defArgs s_common_step, defBody s_common_step, defScope s_common_step, [], []⟩
def d_EvenAlways___init__ : He.DefD := ⟨("EvenAlways", some "__init__"), "__init__", "EvenAlways.__init__", defArgs s_EvenAlways___init__, defBody s_EvenAlways___init__, defScope s_EvenAlways___init__, [], []⟩
def d_EvenAlways___eq__ : He.DefD := ⟨("EvenAlways", some "__eq__"), "__eq__", "EvenAlways.__eq__", defArgs s_EvenAlways___eq__, defBody s_EvenAlways___eq__, defScope s_EvenAlways___eq__, [], []⟩
def d_EvenAlways___bool__ : He.DefD := ⟨("EvenAlways", some "__bool__"), "__bool__", "EvenAlways.__bool__", defArgs s_EvenAlways___bool__, defBody s_EvenAlways___bool__, defScope s_EvenAlways___bool__, [], []⟩
def d_EvenAlways_shows : He.DefD := ⟨("EvenAlways", some "shows"), "shows", "EvenAlways.shows", defArgs s_EvenAlways_shows, defBody s_EvenAlways_shows, defScope s_EvenAlways_shows, [], []⟩
def d_Parted___init__ : He.DefD := ⟨("Parted", some "__init__"), "__init__", "Parted.__init__", defArgs s_Parted___init__, defBody s_Parted___init__, defScope s_Parted___init__, [], []⟩
def d_Parted___eq__ : He.DefD := ⟨("Parted", some "__eq__"), "__eq__", "Parted.__eq__", defArgs s_Parted___eq__, defBody s_Parted___eq__, defScope s_Parted___eq__, [], []⟩
def d_Parted___bool__ : He.DefD := ⟨("Parted", some "__bool__"), "__bool__", "Parted.__bool__", defArgs s_Parted___bool__, defBody s_Parted___bool__, defScope s_Parted___bool__, [], []⟩
def d_Parted_shows : He.DefD := ⟨("Parted", some "shows"), "shows", "Parted.shows", defArgs s_Parted_shows, defBody s_Parted_shows, defScope s_Parted_shows, [], []⟩
def d_stretches : He.DefD := ⟨("stretches", none), "stretches", "stretches", defArgs s_stretches, defBody s_stretches, defScope s_stretches, [], []⟩
def d_rounds_for : He.DefD := ⟨("rounds_for", none), "rounds_for", "rounds_for", defArgs s_rounds_for, defBody s_rounds_for, defScope s_rounds_for, [], []⟩
def d_judge_even : He.DefD := ⟨("judge_even", none), "judge_even", "judge_even", defArgs s_judge_even, defBody s_judge_even, defScope s_judge_even, [], []⟩
def d__law_draw : He.DefD := ⟨("_law_draw", none), "_law_draw", "_law_draw", defArgs s__law_draw, defBody s__law_draw, defScope s__law_draw, [], []⟩
def d__law_rounds : He.DefD := ⟨("_law_rounds", none), "_law_rounds", "_law_rounds", defArgs s__law_rounds, defBody s__law_rounds, defScope s__law_rounds, [], []⟩
def d__law_weirs : He.DefD := ⟨("_law_weirs", none), "_law_weirs", "_law_weirs", defArgs s__law_weirs, defBody s__law_weirs, defScope s__law_weirs, [], []⟩
def d__law_order : He.DefD := ⟨("_law_order", none), "_law_order", "_law_order", defArgs s__law_order, defBody s__law_order, defScope s__law_order, [], []⟩
def d_law : He.DefD := ⟨("law", none), "law", "law", defArgs s_law, defBody s_law, defScope s_law, [], []⟩
def fn0 : List He.DefD := [d_is_integer, d_is_fraction, d_reduced, d_exact, d_common_bottom, d_Program___init__, d_Program___len__, d_Program___eq__, d_Program___add__, d_Program_done, d_is_round, d_check_rounds, d_check_program, d_check_many, d_check_told, d_openings, d_halvings, d_evened, d_common_step, d_EvenAlways___init__]
def fn1 : List He.DefD := [d_EvenAlways___eq__, d_EvenAlways___bool__, d_EvenAlways_shows, d_Parted___init__, d_Parted___eq__, d_Parted___bool__, d_Parted_shows, d_stretches, d_rounds_for, d_judge_even, d__law_draw, d__law_rounds, d__law_weirs, d__law_order, d_law]
def fn : List He.DefD := fn0 ++ fn1
def fa0 : List He.Fa := [.glo "WeirError", .glo "BadProgram", .glo "BadStart", .glo "is_integer", .glo "is_fraction", .glo "reduced", .glo "exact", .glo "common_bottom", .int "MOST_ROUNDS" 12, .int "MOST_MANY" 400, .glo "Program", .cls "Program", .mkr "Program", .meth "Program" "__len__", .meth "Program" "__eq__", .meth "Program" "__add__", .meth "Program" "done", .noat "Program" "rounds", .glo "is_round", .glo "check_rounds"]
def fa1 : List He.Fa := [.glo "check_program", .glo "check_many", .glo "check_told", .glo "openings", .glo "halvings", .glo "evened", .glo "common_step", .glo "EvenAlways", .cls "EvenAlways", .mkr "EvenAlways", .meth "EvenAlways" "__eq__", .meth "EvenAlways" "__bool__", .meth "EvenAlways" "shows", .noat "EvenAlways" "rounds", .glo "Parted", .cls "Parted", .mkr "Parted", .meth "Parted" "__eq__", .meth "Parted" "__bool__", .meth "Parted" "shows"]
def fa2 : List He.Fa := [.noat "Parted" "weir", .glo "stretches", .glo "rounds_for", .glo "judge_even", .glo "_law_draw", .glo "_law_rounds", .glo "_law_weirs", .glo "_law_order", .glo "law", .free "ValueError", .free "all", .free "any", .free "bool", .free "enumerate", .free "int", .free "isinstance", .free "len", .free "list", .free "range", .free "reversed"]
def fa3 : List He.Fa := [.free "set", .free "sorted", .free "sum", .free "super", .free "tuple", .free "zip"]
def fa : List He.Fa := fa0 ++ fa1 ++ fa2 ++ fa3
def loose0 : List PySem.Str := ["_wall", "WeirError", "BadProgram", "BadStart", "is_integer", "is_fraction", "reduced", "exact", "common_bottom", "MOST_ROUNDS", "MOST_MANY", "Program", "is_round", "check_rounds", "check_program", "check_many", "check_told", "openings", "halvings", "evened"]
def loose1 : List PySem.Str := ["common_step", "EvenAlways", "Parted", "stretches", "rounds_for", "judge_even", "_law_draw", "_law_rounds", "_law_weirs", "_law_order"]
def loose : List PySem.Str := loose0 ++ loose1
def x_BadProgram : SupX.XcD := ⟨"BadProgram", "place", "no program of rounds", "BadProgram.__init__", s_BadProgram___init__⟩
def xs : List SupX.XcD := [x_BadProgram]
def fileS : Str := PySem.Challenge.pw_weirlines_k11_whole_always_even.main.file
open He in
def exL0 (K : PySem.W.Frag) : List Bool := [eqO (PySem.W.nsIn K mainGlobals "gcd") (some (some (.builtin "math.gcd"))),
  eqO (PySem.W.nsIn K mainGlobals "lcm") (some (some (.builtin "math.lcm"))),
  eqO (PySem.W.findIn K (.ref (He.ga K "Program")) "__ne__") (some (some (.builtin "object.__ne__"))),
  eqO (PySem.W.findIn K (.ref (He.ga K "Program")) "__class__") (some (some (.builtin "object.__class__"))),
  decide (PySem.W.mroIn K (He.ga K "Program") (.type "object") = some true),
  eqO (PySem.W.findIn K (.ref (He.ga K "EvenAlways")) "__ne__") (some (some (.builtin "object.__ne__"))),
  eqO (PySem.W.findIn K (.ref (He.ga K "EvenAlways")) "__class__") (some (some (.builtin "object.__class__"))),
  decide (PySem.W.mroIn K (He.ga K "EvenAlways") (.type "object") = some true),
  eqO (PySem.W.findIn K (.ref (He.ga K "Parted")) "__ne__") (some (some (.builtin "object.__ne__"))),
  eqO (PySem.W.findIn K (.ref (He.ga K "Parted")) "__class__") (some (some (.builtin "object.__class__"))),
  decide (PySem.W.mroIn K (He.ga K "Parted") (.type "object") = some true),
  eqO (PySem.W.specialIn K (.builtin "object.__class__") "__get__") (some (some (.builtin "getset_descriptor.__get__")))]
open He in
def exL1 (K : PySem.W.Frag) : List Bool := [decide (PySem.W.takesIn K (.builtin "object.__class__") = some true),
  PySem.W.excIn K (He.ga K "BadStart") [.type "ValueError", .type "Exception", .type "BaseException", .type "object"] "ValueError.__new__",
  PySem.W.keepIn K (.ref (He.ga K "BadStart")),
  decide (PySem.W.subIn K (.ref (He.ga K "BadStart")) (.type "BaseException") = some true),
  decide (PySem.W.typeIn K (.ref (He.ga K "BadStart")) = some (.type "type")),
  PySem.W.selfFirst K (He.ga K "Program"),
  PM.ktB K [],
  PM.ktB K ["EvenAlways", "Parted"],
  PM.ktB K ["Program"],
  decide (PySem.W.subIn K (.ref (He.ga K "Parted")) (.ref (He.ga K "EvenAlways")) = some false),
  WD.noLst K]
def exL (K : PySem.W.Frag) : List Bool := exL0 K ++ exL1 K
def exB (K : PySem.W.Frag) : Bool := (exL K).all id
structure Txt (K : PySem.W.Frag) (mg : Str → Option Value) : Prop where
  h : ∃ hp : Heap, K.In hp ∧ hp.Ns mainGlobals mg
  s : SupX.SaysS fa fn xs fileS exB K
theorem Txt.c {K : PySem.W.Frag} {mg : Str → Option Value} (T : Txt K mg) : He.SaysD fa fn K := T.s.d
theorem Txt.e {K : PySem.W.Frag} {mg : Str → Option Value} (T : Txt K mg) : exB K = true := T.s.exq
section
variable {K : PySem.W.Frag} {mg : Str → Option Value}
theorem Txt.ex (T : Txt K mg) (i : Nat) {b : Bool} (h : (exL K)[i]? = some b := by rfl) : b = true := List.all_eq_true.mp T.e b (List.mem_of_getElem? h)
theorem Txt.glo (T : Txt K mg) {x : Str} (c : (He.Fa.glo x).ok K = true) : mg x = some (.ref (He.ga K x)) := by
  obtain ⟨hp, kx, gx⟩ := T.h
  exact He.glo_ok kx gx c
theorem Txt.free (T : Txt K mg) {x : Str} (c : (He.Fa.free x).ok K = true) : mg x = none := by
  obtain ⟨hp, kx, gx⟩ := T.h
  exact He.free_ok kx gx c
theorem Txt.int (T : Txt K mg) {x : Str} {i : Int} (c : (He.Fa.int x i).ok K = true) : ∃ t, mg x = some (.int i t) := by
  obtain ⟨hp, kx, gx⟩ := T.h
  exact He.int_ok kx gx c
theorem Txt.blt (T : Txt K mg) {x : Str} {v : Value} (c : He.eqO (PySem.W.nsIn K mainGlobals x) (some (some v)) = true) : mg x = some v := by
  obtain ⟨hp, kx, gx⟩ := T.h
  exact PySem.W.mg_of kx gx (He.eqO_ok c)
theorem Txt.m_WeirError (T : Txt K mg) : mg "WeirError" = some (.ref (He.ga K "WeirError")) := T.glo (T.c.fact 0 (f := .glo "WeirError"))
theorem Txt.m_BadProgram (T : Txt K mg) : mg "BadProgram" = some (.ref (He.ga K "BadProgram")) := T.glo (T.c.fact 1 (f := .glo "BadProgram"))
theorem Txt.m_BadStart (T : Txt K mg) : mg "BadStart" = some (.ref (He.ga K "BadStart")) := T.glo (T.c.fact 2 (f := .glo "BadStart"))
theorem Txt.m_is_integer (T : Txt K mg) : mg "is_integer" = some (.ref (He.ga K "is_integer")) := T.glo (T.c.fact 3 (f := .glo "is_integer"))
theorem Txt.m_is_fraction (T : Txt K mg) : mg "is_fraction" = some (.ref (He.ga K "is_fraction")) := T.glo (T.c.fact 4 (f := .glo "is_fraction"))
theorem Txt.m_reduced (T : Txt K mg) : mg "reduced" = some (.ref (He.ga K "reduced")) := T.glo (T.c.fact 5 (f := .glo "reduced"))
theorem Txt.m_exact (T : Txt K mg) : mg "exact" = some (.ref (He.ga K "exact")) := T.glo (T.c.fact 6 (f := .glo "exact"))
theorem Txt.m_common_bottom (T : Txt K mg) : mg "common_bottom" = some (.ref (He.ga K "common_bottom")) := T.glo (T.c.fact 7 (f := .glo "common_bottom"))
theorem Txt.i_MOST_ROUNDS (T : Txt K mg) : ∃ t, mg "MOST_ROUNDS" = some (.int 12 t) := T.int (T.c.fact 8 (f := .int "MOST_ROUNDS" 12))
theorem Txt.i_MOST_MANY (T : Txt K mg) : ∃ t, mg "MOST_MANY" = some (.int 400 t) := T.int (T.c.fact 9 (f := .int "MOST_MANY" 400))
theorem Txt.m_Program (T : Txt K mg) : mg "Program" = some (.ref (He.ga K "Program")) := T.glo (T.c.fact 10 (f := .glo "Program"))
theorem Txt.c_Program (T : Txt K mg) : Cls K (He.ga K "Program") := He.cls_ok (T.c.fact 11 (f := .cls "Program"))
theorem Txt.k_Program (T : Txt K mg) : Mk K (He.ga K "Program") (He.ma K (He.ga K "Program") "__init__") := He.mkr_ok (T.c.fact 12 (f := .mkr "Program"))
theorem Txt.x_Program___len__ (T : Txt K mg) : Meth K (He.ga K "Program") "__len__" (He.ma K (He.ga K "Program") "__len__") := He.meth_ok (T.c.fact 13 (f := .meth "Program" "__len__"))
theorem Txt.x_Program___eq__ (T : Txt K mg) : Meth K (He.ga K "Program") "__eq__" (He.ma K (He.ga K "Program") "__eq__") := He.meth_ok (T.c.fact 14 (f := .meth "Program" "__eq__"))
theorem Txt.x_Program___add__ (T : Txt K mg) : Meth K (He.ga K "Program") "__add__" (He.ma K (He.ga K "Program") "__add__") := He.meth_ok (T.c.fact 15 (f := .meth "Program" "__add__"))
theorem Txt.x_Program_done (T : Txt K mg) : Meth K (He.ga K "Program") "done" (He.ma K (He.ga K "Program") "done") := He.meth_ok (T.c.fact 16 (f := .meth "Program" "done"))
theorem Txt.n_Program_rounds (T : Txt K mg) : NoAttr K (He.ga K "Program") "rounds" := He.noat_ok (T.c.fact 17 (f := .noat "Program" "rounds"))
theorem Txt.m_is_round (T : Txt K mg) : mg "is_round" = some (.ref (He.ga K "is_round")) := T.glo (T.c.fact 18 (f := .glo "is_round"))
theorem Txt.m_check_rounds (T : Txt K mg) : mg "check_rounds" = some (.ref (He.ga K "check_rounds")) := T.glo (T.c.fact 19 (f := .glo "check_rounds"))
theorem Txt.m_check_program (T : Txt K mg) : mg "check_program" = some (.ref (He.ga K "check_program")) := T.glo (T.c.fact 20 (f := .glo "check_program"))
theorem Txt.m_check_many (T : Txt K mg) : mg "check_many" = some (.ref (He.ga K "check_many")) := T.glo (T.c.fact 21 (f := .glo "check_many"))
theorem Txt.m_check_told (T : Txt K mg) : mg "check_told" = some (.ref (He.ga K "check_told")) := T.glo (T.c.fact 22 (f := .glo "check_told"))
theorem Txt.m_openings (T : Txt K mg) : mg "openings" = some (.ref (He.ga K "openings")) := T.glo (T.c.fact 23 (f := .glo "openings"))
theorem Txt.m_halvings (T : Txt K mg) : mg "halvings" = some (.ref (He.ga K "halvings")) := T.glo (T.c.fact 24 (f := .glo "halvings"))
theorem Txt.m_evened (T : Txt K mg) : mg "evened" = some (.ref (He.ga K "evened")) := T.glo (T.c.fact 25 (f := .glo "evened"))
theorem Txt.m_common_step (T : Txt K mg) : mg "common_step" = some (.ref (He.ga K "common_step")) := T.glo (T.c.fact 26 (f := .glo "common_step"))
theorem Txt.m_EvenAlways (T : Txt K mg) : mg "EvenAlways" = some (.ref (He.ga K "EvenAlways")) := T.glo (T.c.fact 27 (f := .glo "EvenAlways"))
theorem Txt.c_EvenAlways (T : Txt K mg) : Cls K (He.ga K "EvenAlways") := He.cls_ok (T.c.fact 28 (f := .cls "EvenAlways"))
theorem Txt.k_EvenAlways (T : Txt K mg) : Mk K (He.ga K "EvenAlways") (He.ma K (He.ga K "EvenAlways") "__init__") := He.mkr_ok (T.c.fact 29 (f := .mkr "EvenAlways"))
theorem Txt.x_EvenAlways___eq__ (T : Txt K mg) : Meth K (He.ga K "EvenAlways") "__eq__" (He.ma K (He.ga K "EvenAlways") "__eq__") := He.meth_ok (T.c.fact 30 (f := .meth "EvenAlways" "__eq__"))
theorem Txt.x_EvenAlways___bool__ (T : Txt K mg) : Meth K (He.ga K "EvenAlways") "__bool__" (He.ma K (He.ga K "EvenAlways") "__bool__") := He.meth_ok (T.c.fact 31 (f := .meth "EvenAlways" "__bool__"))
theorem Txt.x_EvenAlways_shows (T : Txt K mg) : Meth K (He.ga K "EvenAlways") "shows" (He.ma K (He.ga K "EvenAlways") "shows") := He.meth_ok (T.c.fact 32 (f := .meth "EvenAlways" "shows"))
theorem Txt.n_EvenAlways_rounds (T : Txt K mg) : NoAttr K (He.ga K "EvenAlways") "rounds" := He.noat_ok (T.c.fact 33 (f := .noat "EvenAlways" "rounds"))
theorem Txt.m_Parted (T : Txt K mg) : mg "Parted" = some (.ref (He.ga K "Parted")) := T.glo (T.c.fact 34 (f := .glo "Parted"))
theorem Txt.c_Parted (T : Txt K mg) : Cls K (He.ga K "Parted") := He.cls_ok (T.c.fact 35 (f := .cls "Parted"))
theorem Txt.k_Parted (T : Txt K mg) : Mk K (He.ga K "Parted") (He.ma K (He.ga K "Parted") "__init__") := He.mkr_ok (T.c.fact 36 (f := .mkr "Parted"))
theorem Txt.x_Parted___eq__ (T : Txt K mg) : Meth K (He.ga K "Parted") "__eq__" (He.ma K (He.ga K "Parted") "__eq__") := He.meth_ok (T.c.fact 37 (f := .meth "Parted" "__eq__"))
theorem Txt.x_Parted___bool__ (T : Txt K mg) : Meth K (He.ga K "Parted") "__bool__" (He.ma K (He.ga K "Parted") "__bool__") := He.meth_ok (T.c.fact 38 (f := .meth "Parted" "__bool__"))
theorem Txt.x_Parted_shows (T : Txt K mg) : Meth K (He.ga K "Parted") "shows" (He.ma K (He.ga K "Parted") "shows") := He.meth_ok (T.c.fact 39 (f := .meth "Parted" "shows"))
theorem Txt.n_Parted_weir (T : Txt K mg) : NoAttr K (He.ga K "Parted") "weir" := He.noat_ok (T.c.fact 40 (f := .noat "Parted" "weir"))
theorem Txt.m_stretches (T : Txt K mg) : mg "stretches" = some (.ref (He.ga K "stretches")) := T.glo (T.c.fact 41 (f := .glo "stretches"))
theorem Txt.m_rounds_for (T : Txt K mg) : mg "rounds_for" = some (.ref (He.ga K "rounds_for")) := T.glo (T.c.fact 42 (f := .glo "rounds_for"))
theorem Txt.m_judge_even (T : Txt K mg) : mg "judge_even" = some (.ref (He.ga K "judge_even")) := T.glo (T.c.fact 43 (f := .glo "judge_even"))
theorem Txt.m__law_draw (T : Txt K mg) : mg "_law_draw" = some (.ref (He.ga K "_law_draw")) := T.glo (T.c.fact 44 (f := .glo "_law_draw"))
theorem Txt.m__law_rounds (T : Txt K mg) : mg "_law_rounds" = some (.ref (He.ga K "_law_rounds")) := T.glo (T.c.fact 45 (f := .glo "_law_rounds"))
theorem Txt.m__law_weirs (T : Txt K mg) : mg "_law_weirs" = some (.ref (He.ga K "_law_weirs")) := T.glo (T.c.fact 46 (f := .glo "_law_weirs"))
theorem Txt.m__law_order (T : Txt K mg) : mg "_law_order" = some (.ref (He.ga K "_law_order")) := T.glo (T.c.fact 47 (f := .glo "_law_order"))
theorem Txt.m_law (T : Txt K mg) : mg "law" = some (.ref (He.ga K "law")) := T.glo (T.c.fact 48 (f := .glo "law"))
theorem Txt.z_ValueError (T : Txt K mg) : mg "ValueError" = none := T.free (T.c.fact 49 (f := .free "ValueError"))
theorem Txt.z_all (T : Txt K mg) : mg "all" = none := T.free (T.c.fact 50 (f := .free "all"))
theorem Txt.z_any (T : Txt K mg) : mg "any" = none := T.free (T.c.fact 51 (f := .free "any"))
theorem Txt.z_bool (T : Txt K mg) : mg "bool" = none := T.free (T.c.fact 52 (f := .free "bool"))
theorem Txt.z_enumerate (T : Txt K mg) : mg "enumerate" = none := T.free (T.c.fact 53 (f := .free "enumerate"))
theorem Txt.z_int (T : Txt K mg) : mg "int" = none := T.free (T.c.fact 54 (f := .free "int"))
theorem Txt.z_isinstance (T : Txt K mg) : mg "isinstance" = none := T.free (T.c.fact 55 (f := .free "isinstance"))
theorem Txt.z_len (T : Txt K mg) : mg "len" = none := T.free (T.c.fact 56 (f := .free "len"))
theorem Txt.z_list (T : Txt K mg) : mg "list" = none := T.free (T.c.fact 57 (f := .free "list"))
theorem Txt.z_range (T : Txt K mg) : mg "range" = none := T.free (T.c.fact 58 (f := .free "range"))
theorem Txt.z_reversed (T : Txt K mg) : mg "reversed" = none := T.free (T.c.fact 59 (f := .free "reversed"))
theorem Txt.z_set (T : Txt K mg) : mg "set" = none := T.free (T.c.fact 60 (f := .free "set"))
theorem Txt.z_sorted (T : Txt K mg) : mg "sorted" = none := T.free (T.c.fact 61 (f := .free "sorted"))
theorem Txt.z_sum (T : Txt K mg) : mg "sum" = none := T.free (T.c.fact 62 (f := .free "sum"))
theorem Txt.z_super (T : Txt K mg) : mg "super" = none := T.free (T.c.fact 63 (f := .free "super"))
theorem Txt.z_tuple (T : Txt K mg) : mg "tuple" = none := T.free (T.c.fact 64 (f := .free "tuple"))
theorem Txt.z_zip (T : Txt K mg) : mg "zip" = none := T.free (T.c.fact 65 (f := .free "zip"))
theorem Txt.b_gcd (T : Txt K mg) : mg "gcd" = some (.builtin "math.gcd") := T.blt (T.ex 0)
theorem Txt.b_lcm (T : Txt K mg) : mg "lcm" = some (.builtin "math.lcm") := T.blt (T.ex 1)
theorem Txt.ne_Program (T : Txt K mg) : PySem.W.findIn K (.ref (He.ga K "Program")) "__ne__" = some (some (.builtin "object.__ne__")) := He.eqO_ok (T.ex 2)
theorem Txt.cl_Program (T : Txt K mg) : PySem.W.findIn K (.ref (He.ga K "Program")) "__class__" = some (some (.builtin "object.__class__")) := He.eqO_ok (T.ex 3)
theorem Txt.ob_Program (T : Txt K mg) : PySem.W.mroIn K (He.ga K "Program") (.type "object") = some true := of_decide_eq_true (T.ex 4)
theorem Txt.ne_EvenAlways (T : Txt K mg) : PySem.W.findIn K (.ref (He.ga K "EvenAlways")) "__ne__" = some (some (.builtin "object.__ne__")) := He.eqO_ok (T.ex 5)
theorem Txt.cl_EvenAlways (T : Txt K mg) : PySem.W.findIn K (.ref (He.ga K "EvenAlways")) "__class__" = some (some (.builtin "object.__class__")) := He.eqO_ok (T.ex 6)
theorem Txt.ob_EvenAlways (T : Txt K mg) : PySem.W.mroIn K (He.ga K "EvenAlways") (.type "object") = some true := of_decide_eq_true (T.ex 7)
theorem Txt.ne_Parted (T : Txt K mg) : PySem.W.findIn K (.ref (He.ga K "Parted")) "__ne__" = some (some (.builtin "object.__ne__")) := He.eqO_ok (T.ex 8)
theorem Txt.cl_Parted (T : Txt K mg) : PySem.W.findIn K (.ref (He.ga K "Parted")) "__class__" = some (some (.builtin "object.__class__")) := He.eqO_ok (T.ex 9)
theorem Txt.ob_Parted (T : Txt K mg) : PySem.W.mroIn K (He.ga K "Parted") (.type "object") = some true := of_decide_eq_true (T.ex 10)
theorem Txt.sp (T : Txt K mg) : PySem.W.specialIn K (.builtin "object.__class__") "__get__" = some (some (.builtin "getset_descriptor.__get__")) := He.eqO_ok (T.ex 11)
theorem Txt.tk (T : Txt K mg) : PySem.W.takesIn K (.builtin "object.__class__") = some true := of_decide_eq_true (T.ex 12)
theorem Txt.q_BadStart (T : Txt K mg) : PySem.W.excIn K (He.ga K "BadStart") [.type "ValueError", .type "Exception", .type "BaseException", .type "object"] "ValueError.__new__" = true := T.ex 13
theorem Txt.p_BadStart (T : Txt K mg) : PySem.W.keepIn K (.ref (He.ga K "BadStart")) = true := T.ex 14
theorem Txt.u_BadStart (T : Txt K mg) : PySem.W.subIn K (.ref (He.ga K "BadStart")) (.type "BaseException") = some true := of_decide_eq_true (T.ex 15)
theorem Txt.v_BadStart (T : Txt K mg) : PySem.W.typeIn K (.ref (He.ga K "BadStart")) = some (.type "type") := of_decide_eq_true (T.ex 16)
theorem Txt.sf_Program (T : Txt K mg) : PySem.W.selfFirst K (He.ga K "Program") = true := T.ex 17
theorem Txt.kt_none (T : Txt K mg) : PM.KT K [] PM.sameC := PM.kt_ofB (fun c hc => (List.not_mem_nil hc).elim) (T.ex 18)
theorem Txt.kt_EvenAlways_Parted (T : Txt K mg) : PM.KT K ["EvenAlways", "Parted"] PM.sameC := PM.kt_ofB (fun c hc => (List.mem_cons.mp hc).elim (fun e => e ▸ ⟨T.c_EvenAlways, T.cl_EvenAlways, T.sp, T.tk, T.ob_EvenAlways⟩) (fun hc => (List.mem_cons.mp hc).elim (fun e => e ▸ ⟨T.c_Parted, T.cl_Parted, T.sp, T.tk, T.ob_Parted⟩) (fun hc => (List.not_mem_nil hc).elim))) (T.ex 19)
theorem Txt.kt_Program (T : Txt K mg) : PM.KT K ["Program"] PM.sameC := PM.kt_ofB (fun c hc => (List.mem_cons.mp hc).elim (fun e => e ▸ ⟨T.c_Program, T.cl_Program, T.sp, T.tk, T.ob_Program⟩) (fun hc => (List.not_mem_nil hc).elim)) (T.ex 20)
theorem Txt.sub_Parted_EvenAlways (T : Txt K mg) : PySem.W.subIn K (.ref (He.ga K "Parted")) (.ref (He.ga K "EvenAlways")) = some false := of_decide_eq_true (T.ex 21)
theorem Txt.noL (T : Txt K mg) : WD.noLst K = true := T.ex 22
theorem Txt.f_is_integer (T : Txt K mg) : ∃ fd, FunD K "is_integer" "is_integer" (defArgs s_is_integer) (defBody s_is_integer) (defScope s_is_integer) [] [] (He.fAd K (("is_integer", none))) fd := T.c.def_ 0 (d := d_is_integer)
theorem Txt.f_is_fraction (T : Txt K mg) : ∃ fd, FunD K "is_fraction" "is_fraction" (defArgs s_is_fraction) (defBody s_is_fraction) (defScope s_is_fraction) [] [] (He.fAd K (("is_fraction", none))) fd := T.c.def_ 1 (d := d_is_fraction)
theorem Txt.f_reduced (T : Txt K mg) : ∃ fd, FunD K "reduced" "reduced" (defArgs s_reduced) (defBody s_reduced) (defScope s_reduced) [] [] (He.fAd K (("reduced", none))) fd := T.c.def_ 2 (d := d_reduced)
theorem Txt.f_exact (T : Txt K mg) : ∃ fd, FunD K "exact" "exact" (defArgs s_exact) (defBody s_exact) (defScope s_exact) [] [] (He.fAd K (("exact", none))) fd := T.c.def_ 3 (d := d_exact)
theorem Txt.f_common_bottom (T : Txt K mg) : ∃ fd, FunD K "common_bottom" "common_bottom" (defArgs s_common_bottom) (defBody s_common_bottom) (defScope s_common_bottom) [] [] (He.fAd K (("common_bottom", none))) fd := T.c.def_ 4 (d := d_common_bottom)
theorem Txt.f_Program___init__ (T : Txt K mg) : ∃ fd, FunD K "__init__" "Program.__init__" (defArgs s_Program___init__) (defBody s_Program___init__) (defScope s_Program___init__) [] [] (He.fAd K (("Program", some "__init__"))) fd := T.c.def_ 5 (d := d_Program___init__)
theorem Txt.f_Program___len__ (T : Txt K mg) : ∃ fd, FunD K "__len__" "Program.__len__" (defArgs s_Program___len__) (defBody s_Program___len__) (defScope s_Program___len__) [] [] (He.fAd K (("Program", some "__len__"))) fd := T.c.def_ 6 (d := d_Program___len__)
theorem Txt.f_Program___eq__ (T : Txt K mg) : ∃ fd, FunD K "__eq__" "Program.__eq__" (defArgs s_Program___eq__) (defBody s_Program___eq__) (defScope s_Program___eq__) [] [] (He.fAd K (("Program", some "__eq__"))) fd := T.c.def_ 7 (d := d_Program___eq__)
theorem Txt.f_Program___add__ (T : Txt K mg) : ∃ fd, FunD K "__add__" "Program.__add__" (defArgs s_Program___add__) (defBody s_Program___add__) (defScope s_Program___add__) [] [] (He.fAd K (("Program", some "__add__"))) fd := T.c.def_ 8 (d := d_Program___add__)
theorem Txt.f_Program_done (T : Txt K mg) : ∃ fd, FunD K "done" "Program.done" (defArgs s_Program_done) (defBody s_Program_done) (defScope s_Program_done) [] [] (He.fAd K (("Program", some "done"))) fd := T.c.def_ 9 (d := d_Program_done)
theorem Txt.f_is_round (T : Txt K mg) : ∃ fd, FunD K "is_round" "is_round" (defArgs s_is_round) (defBody s_is_round) (defScope s_is_round) [] [] (He.fAd K (("is_round", none))) fd := T.c.def_ 10 (d := d_is_round)
theorem Txt.f_check_rounds (T : Txt K mg) : ∃ fd, FunD K "check_rounds" "check_rounds" (defArgs s_check_rounds) (defBody s_check_rounds) (defScope s_check_rounds) [] [] (He.fAd K (("check_rounds", none))) fd := T.c.def_ 11 (d := d_check_rounds)
theorem Txt.f_check_program (T : Txt K mg) : ∃ fd, FunD K "check_program" "check_program" (defArgs s_check_program) (defBody s_check_program) (defScope s_check_program) [] [] (He.fAd K (("check_program", none))) fd := T.c.def_ 12 (d := d_check_program)
theorem Txt.f_check_many (T : Txt K mg) : ∃ fd, FunD K "check_many" "check_many" (defArgs s_check_many) (defBody s_check_many) (defScope s_check_many) [] [] (He.fAd K (("check_many", none))) fd := T.c.def_ 13 (d := d_check_many)
theorem Txt.f_check_told (T : Txt K mg) : ∃ fd, FunD K "check_told" "check_told" (defArgs s_check_told) (defBody s_check_told) (defScope s_check_told) [] [] (He.fAd K (("check_told", none))) fd := T.c.def_ 14 (d := d_check_told)
theorem Txt.f_openings (T : Txt K mg) : ∃ fd, FunD K "openings" "openings" (defArgs s_openings) (defBody s_openings) (defScope s_openings) [] [] (He.fAd K (("openings", none))) fd := T.c.def_ 15 (d := d_openings)
theorem Txt.f_halvings (T : Txt K mg) : ∃ fd, FunD K "halvings" "halvings" (defArgs s_halvings) (defBody s_halvings) (defScope s_halvings) [] [] (He.fAd K (("halvings", none))) fd := T.c.def_ 16 (d := d_halvings)
theorem Txt.f_evened (T : Txt K mg) : ∃ fd, FunD K "evened" "evened" (defArgs s_evened) (defBody s_evened) (defScope s_evened) [] [] (He.fAd K (("evened", none))) fd := T.c.def_ 17 (d := d_evened)
theorem Txt.f_common_step (T : Txt K mg) : ∃ fd, FunD K "common_step" "common_step" (defArgs s_common_step) (defBody s_common_step) (defScope s_common_step) [] [] (He.fAd K (("common_step", none))) fd := T.c.def_ 18 (d := d_common_step)
theorem Txt.f_EvenAlways___init__ (T : Txt K mg) : ∃ fd, FunD K "__init__" "EvenAlways.__init__" (defArgs s_EvenAlways___init__) (defBody s_EvenAlways___init__) (defScope s_EvenAlways___init__) [] [] (He.fAd K (("EvenAlways", some "__init__"))) fd := T.c.def_ 19 (d := d_EvenAlways___init__)
theorem Txt.f_EvenAlways___eq__ (T : Txt K mg) : ∃ fd, FunD K "__eq__" "EvenAlways.__eq__" (defArgs s_EvenAlways___eq__) (defBody s_EvenAlways___eq__) (defScope s_EvenAlways___eq__) [] [] (He.fAd K (("EvenAlways", some "__eq__"))) fd := T.c.def_ 20 (d := d_EvenAlways___eq__)
theorem Txt.f_EvenAlways___bool__ (T : Txt K mg) : ∃ fd, FunD K "__bool__" "EvenAlways.__bool__" (defArgs s_EvenAlways___bool__) (defBody s_EvenAlways___bool__) (defScope s_EvenAlways___bool__) [] [] (He.fAd K (("EvenAlways", some "__bool__"))) fd := T.c.def_ 21 (d := d_EvenAlways___bool__)
theorem Txt.f_EvenAlways_shows (T : Txt K mg) : ∃ fd, FunD K "shows" "EvenAlways.shows" (defArgs s_EvenAlways_shows) (defBody s_EvenAlways_shows) (defScope s_EvenAlways_shows) [] [] (He.fAd K (("EvenAlways", some "shows"))) fd := T.c.def_ 22 (d := d_EvenAlways_shows)
theorem Txt.f_Parted___init__ (T : Txt K mg) : ∃ fd, FunD K "__init__" "Parted.__init__" (defArgs s_Parted___init__) (defBody s_Parted___init__) (defScope s_Parted___init__) [] [] (He.fAd K (("Parted", some "__init__"))) fd := T.c.def_ 23 (d := d_Parted___init__)
theorem Txt.f_Parted___eq__ (T : Txt K mg) : ∃ fd, FunD K "__eq__" "Parted.__eq__" (defArgs s_Parted___eq__) (defBody s_Parted___eq__) (defScope s_Parted___eq__) [] [] (He.fAd K (("Parted", some "__eq__"))) fd := T.c.def_ 24 (d := d_Parted___eq__)
theorem Txt.f_Parted___bool__ (T : Txt K mg) : ∃ fd, FunD K "__bool__" "Parted.__bool__" (defArgs s_Parted___bool__) (defBody s_Parted___bool__) (defScope s_Parted___bool__) [] [] (He.fAd K (("Parted", some "__bool__"))) fd := T.c.def_ 25 (d := d_Parted___bool__)
theorem Txt.f_Parted_shows (T : Txt K mg) : ∃ fd, FunD K "shows" "Parted.shows" (defArgs s_Parted_shows) (defBody s_Parted_shows) (defScope s_Parted_shows) [] [] (He.fAd K (("Parted", some "shows"))) fd := T.c.def_ 26 (d := d_Parted_shows)
theorem Txt.f_stretches (T : Txt K mg) : ∃ fd, FunD K "stretches" "stretches" (defArgs s_stretches) (defBody s_stretches) (defScope s_stretches) [] [] (He.fAd K (("stretches", none))) fd := T.c.def_ 27 (d := d_stretches)
theorem Txt.f_rounds_for (T : Txt K mg) : ∃ fd, FunD K "rounds_for" "rounds_for" (defArgs s_rounds_for) (defBody s_rounds_for) (defScope s_rounds_for) [] [] (He.fAd K (("rounds_for", none))) fd := T.c.def_ 28 (d := d_rounds_for)
theorem Txt.f_judge_even (T : Txt K mg) : ∃ fd, FunD K "judge_even" "judge_even" (defArgs s_judge_even) (defBody s_judge_even) (defScope s_judge_even) [] [] (He.fAd K (("judge_even", none))) fd := T.c.def_ 29 (d := d_judge_even)
theorem Txt.f__law_draw (T : Txt K mg) : ∃ fd, FunD K "_law_draw" "_law_draw" (defArgs s__law_draw) (defBody s__law_draw) (defScope s__law_draw) [] [] (He.fAd K (("_law_draw", none))) fd := T.c.def_ 30 (d := d__law_draw)
theorem Txt.f__law_rounds (T : Txt K mg) : ∃ fd, FunD K "_law_rounds" "_law_rounds" (defArgs s__law_rounds) (defBody s__law_rounds) (defScope s__law_rounds) [] [] (He.fAd K (("_law_rounds", none))) fd := T.c.def_ 31 (d := d__law_rounds)
theorem Txt.f__law_weirs (T : Txt K mg) : ∃ fd, FunD K "_law_weirs" "_law_weirs" (defArgs s__law_weirs) (defBody s__law_weirs) (defScope s__law_weirs) [] [] (He.fAd K (("_law_weirs", none))) fd := T.c.def_ 32 (d := d__law_weirs)
theorem Txt.f__law_order (T : Txt K mg) : ∃ fd, FunD K "_law_order" "_law_order" (defArgs s__law_order) (defBody s__law_order) (defScope s__law_order) [] [] (He.fAd K (("_law_order", none))) fd := T.c.def_ 33 (d := d__law_order)
theorem Txt.f_law (T : Txt K mg) : ∃ fd, FunD K "law" "law" (defArgs s_law) (defBody s_law) (defScope s_law) [] [] (He.fAd K (("law", none))) fd := T.c.def_ 34 (d := d_law)
theorem to_BadProgram : SupX.TextOk x_BadProgram := ⟨"place", "self", _, _, _, _, _, _, _, _, _, _, _, _, rfl, fun _ _ _ _ _ _ _ _ _ => rfl, rfl, rfl, by decide, by decide, by decide, by decide +kernel, rfl, rfl, rfl, rfl, rfl, rfl, rfl, fun _ _ _ _ => ⟨⟨_, rfl⟩, rfl, rfl, rfl, rfl, rfl⟩⟩
theorem Txt.s_BadProgram {P : Program} (T : Txt K mg) (hp : P.main.file = fileS) (ht : (P.main.scope.names.lookup ("super" : Str)).isSome = false) : SupX.Sup P K mg (He.ga K "BadProgram") (He.ma K (He.ga K "BadProgram") "__init__") "BadProgram" "place" "no program of rounds" := by
  obtain ⟨h, X, G⟩ := T.h
  exact SupX.sup_of X G to_BadProgram (T.s.xfn 0) (T.s.xok 0) hp ht
end
theorem sc_is_integer : FnScope ["thing"] ["thing"] (defScope s_is_integer) := ⟨rfl, rfl, rfl, by decide +kernel, rfl, by decide +kernel, by decide +kernel⟩
theorem sc_is_fraction : FnScope ["thing"] ["thing"] (defScope s_is_fraction) := ⟨rfl, rfl, rfl, by decide +kernel, rfl, by decide +kernel, by decide +kernel⟩
theorem sc_reduced : FnScope ["top", "bottom", "shared"] ["top", "bottom"] (defScope s_reduced) := ⟨rfl, rfl, rfl, by decide +kernel, rfl, by decide +kernel, by decide +kernel⟩
theorem sc_exact : FnScope ["told"] ["told"] (defScope s_exact) := ⟨rfl, rfl, rfl, by decide +kernel, rfl, by decide +kernel, by decide +kernel⟩
theorem sc_common_bottom : FnScope ["fractions", "bottom", "_", "below"] ["fractions"] (defScope s_common_bottom) := ⟨rfl, rfl, rfl, by decide +kernel, rfl, by decide +kernel, by decide +kernel⟩
theorem sc_Program___init__ : FnScope ["self", "rounds"] ["self", "rounds"] (defScope s_Program___init__) := ⟨rfl, rfl, rfl, by decide +kernel, rfl, by decide +kernel, by decide +kernel⟩
theorem sc_Program___len__ : FnScope ["self"] ["self"] (defScope s_Program___len__) := ⟨rfl, rfl, rfl, by decide +kernel, rfl, by decide +kernel, by decide +kernel⟩
theorem sc_Program___eq__ : FnScope ["self", "other"] ["self", "other"] (defScope s_Program___eq__) := ⟨rfl, rfl, rfl, by decide +kernel, rfl, by decide +kernel, by decide +kernel⟩
theorem sc_Program___add__ : FnScope ["self", "other"] ["self", "other"] (defScope s_Program___add__) := ⟨rfl, rfl, rfl, by decide +kernel, rfl, by decide +kernel, by decide +kernel⟩
theorem sc_Program_done : FnScope ["self", "volumes", "told", "bottom", "often", "tops", "volume", "top", "under"] ["self", "volumes"] (defScope s_Program_done) := ⟨rfl, rfl, rfl, by decide +kernel, rfl, by decide +kernel, by decide +kernel⟩
theorem sc_is_round : FnScope ["thing", "step", "rest"] ["thing"] (defScope s_is_round) := ⟨rfl, rfl, rfl, by decide +kernel, rfl, by decide +kernel, by decide +kernel⟩
theorem sc_check_rounds : FnScope ["rounds", "place", "told"] ["rounds"] (defScope s_check_rounds) := ⟨rfl, rfl, rfl, by decide +kernel, rfl, by decide +kernel, by decide +kernel⟩
theorem sc_check_program : FnScope ["program"] ["program"] (defScope s_check_program) := ⟨rfl, rfl, rfl, by decide +kernel, rfl, by decide +kernel, by decide +kernel⟩
theorem sc_check_many : FnScope ["many"] ["many"] (defScope s_check_many) := ⟨rfl, rfl, rfl, by decide +kernel, rfl, by decide +kernel, by decide +kernel⟩
theorem sc_check_told : FnScope ["volumes", "volume"] ["volumes"] (defScope s_check_told) := ⟨rfl, rfl, rfl, by decide +kernel, rfl, by decide +kernel, by decide +kernel⟩
theorem sc_openings : FnScope ["rounds", "many", "found", "told", "weir"] ["rounds", "many"] (defScope s_openings) := ⟨rfl, rfl, rfl, by decide +kernel, rfl, by decide +kernel, by decide +kernel⟩
theorem sc_halvings : FnScope ["rounds", "many", "told"] ["rounds", "many"] (defScope s_halvings) := ⟨rfl, rfl, rfl, by decide +kernel, rfl, by decide +kernel, by decide +kernel⟩
theorem sc_evened : FnScope ["rounds", "tops", "late", "weir"] ["rounds", "tops"] (defScope s_evened) := ⟨rfl, rfl, rfl, by decide +kernel, rfl, by decide +kernel, by decide +kernel⟩
theorem sc_common_step : FnScope ["one", "other", "step", "told"] ["one", "other"] (defScope s_common_step) := ⟨rfl, rfl, rfl, by decide +kernel, rfl, by decide +kernel, by decide +kernel⟩
theorem sc_EvenAlways___init__ : FnScope ["self", "rounds"] ["self", "rounds"] (defScope s_EvenAlways___init__) := ⟨rfl, rfl, rfl, by decide +kernel, rfl, by decide +kernel, by decide +kernel⟩
theorem sc_EvenAlways___eq__ : FnScope ["self", "other"] ["self", "other"] (defScope s_EvenAlways___eq__) := ⟨rfl, rfl, rfl, by decide +kernel, rfl, by decide +kernel, by decide +kernel⟩
theorem sc_EvenAlways___bool__ : FnScope ["self"] ["self"] (defScope s_EvenAlways___bool__) := ⟨rfl, rfl, rfl, by decide +kernel, rfl, by decide +kernel, by decide +kernel⟩
theorem sc_EvenAlways_shows : FnScope ["self", "program", "rest", "place"] ["self", "program"] (defScope s_EvenAlways_shows) := ⟨rfl, rfl, rfl, by decide +kernel, rfl, by decide +kernel, by decide +kernel⟩
theorem sc_Parted___init__ : FnScope ["self", "weir"] ["self", "weir"] (defScope s_Parted___init__) := ⟨rfl, rfl, rfl, by decide +kernel, rfl, by decide +kernel, by decide +kernel⟩
theorem sc_Parted___eq__ : FnScope ["self", "other"] ["self", "other"] (defScope s_Parted___eq__) := ⟨rfl, rfl, rfl, by decide +kernel, rfl, by decide +kernel, by decide +kernel⟩
theorem sc_Parted___bool__ : FnScope ["self"] ["self"] (defScope s_Parted___bool__) := ⟨rfl, rfl, rfl, by decide +kernel, rfl, by decide +kernel, by decide +kernel⟩
theorem sc_Parted_shows : FnScope ["self", "program"] ["self", "program"] (defScope s_Parted_shows) := ⟨rfl, rfl, rfl, by decide +kernel, rfl, by decide +kernel, by decide +kernel⟩
theorem sc_stretches : FnScope ["program", "many", "opened", "ends", "weir"] ["program", "many"] (defScope s_stretches) := ⟨rfl, rfl, rfl, by decide +kernel, rfl, by decide +kernel, by decide +kernel⟩
theorem sc_rounds_for : FnScope ["program", "rest", "place", "told"] ["program", "rest"] (defScope s_rounds_for) := ⟨rfl, rfl, rfl, by decide +kernel, rfl, by decide +kernel, by decide +kernel⟩
theorem sc_judge_even : FnScope ["program", "step", "weir", "rest"] ["program"] (defScope s_judge_even) := ⟨rfl, rfl, rfl, by decide +kernel, rfl, by decide +kernel, by decide +kernel⟩
theorem sc__law_draw : FnScope ["script", "at", "many", "row", "cell", "turn", "step", "mixed"] ["script", "at", "many"] (defScope s__law_draw) := ⟨rfl, rfl, rfl, by decide +kernel, rfl, by decide +kernel, by decide +kernel⟩
theorem sc__law_rounds : FnScope ["script", "at", "most", "way", "rows", "every", "turn"] ["script", "at", "most", "way"] (defScope s__law_rounds) := ⟨rfl, rfl, rfl, by decide +kernel, rfl, by decide +kernel, by decide +kernel⟩
theorem sc__law_weirs : FnScope ["told", "many", "weir"] ["told", "many"] (defScope s__law_weirs) := ⟨rfl, rfl, rfl, by decide +kernel, rfl, by decide +kernel, by decide +kernel⟩
theorem sc__law_order : FnScope ["rounds", "many", "found", "told"] ["rounds", "many"] (defScope s__law_order) := ⟨rfl, rfl, rfl, by decide +kernel, rfl, by decide +kernel, by decide +kernel⟩
theorem sc_law : FnScope ["script", "rounds", "program", "step", "opened", "shut", "found", "many", "rest", "weir", "number", "told", "rows"] ["script"] (defScope s_law) := ⟨rfl, rfl, rfl, by decide +kernel, rfl, by decide +kernel, by decide +kernel⟩
end Lk11
end
section
set_option Elab.async false
set_option linter.all false
set_option maxRecDepth 100000
set_option maxHeartbeats 0
namespace Lk11
open PySem PySem.Spec PyProof.Rows L2
abbrev R : PySem.W.OpenRow := PySem.W.OpenLaw.row PySem.Challenge.rw_weirlines_k11_whole_always_even
abbrev hk : PySem.W.Hook := SupX.hookS 5 fa fn xs fileS exB
def ob (s : PySem.W.SharedT) : SupX.AlS := SupX.obsSG 5 fa fn xs fileS exB (HandSHeadRun.getT s)
theorem ob_eq (s : PySem.W.SharedT) : ob s = hk.obs s.abs := SupX.obsSG_eq (HandSHeadRun.getT_eq s)
theorem run (w : World) : HandSHeadRun.RunEqI R (PySem.W.view R.prog [0, 38]) hk ob 6000 loose w := by
  unfold HandSHeadRun.RunEqI
  kernel_rfl
end Lk11
end
section
set_option Elab.async false
set_option linter.all false
set_option maxRecDepth 100000
set_option maxHeartbeats 2000000
/-! plain functions, run: what each part gives, loops by what stays -/
namespace PM
open PySem L2
/-! ### texts -/
theorem str_inj (a b : String) : (Str.ofString a = Str.ofString b) = (a = b) := by
  refine propext ⟨fun h => ?_, fun h => by rw [h]⟩
  rw [Str.ofString_eq_toList, Str.ofString_eq_toList] at h
  injection h with h
  have h := congrArg Array.toList h
  simp only [] at h
  have inj : ∀ l m : List Char, l.map Char.toNat = m.map Char.toNat → l = m := by
    intro l
    induction l with
    | nil => intro m h; cases m <;> simp_all
    | cons c l ih =>
      intro m h
      cases m with
      | nil => simp at h
      | cons d m =>
        simp only [List.map_cons, List.cons.injEq] at h
        rw [ih m h.2]
        have : c = d := Char.ext (UInt32.toNat_inj.mp h.1)
        rw [this]
  exact String.toList_inj.mp (inj _ _ h)
@[simp] theorem str_inj' (a b : String) : (Str.ofString a = Str.ofString b) ↔ (a = b) := by rw [str_inj]
@[simp] theorem str_ok (a : String) : PyData.strOk (Str.ofString a) = true := by
  unfold PyData.strOk
  rw [Str.ofString_eq_toList]
  simp only [Array.all_eq_true_iff_forall_mem, decide_eq_true_eq]
  intro n hn
  simp only [List.mem_toArray, List.mem_map] at hn
  obtain ⟨c, _, rfl⟩ := hn
  have := c.valid
  have h2 : c.toNat < 0x110000 := by
    rcases this with h | h
    · have : c.val.toNat < 0xd800 := h
      show c.val.toNat < _
      omega
    · exact h.2
  exact h2
/-! ### statements -/
def SO.andThen (o : SO) (k : Stm) : SO := match o with
  | .nx e S => k e S
  | o => o
@[simp] theorem andThen_nx (e : Env) (S : Sto) (k : Stm) : (SO.nx e S).andThen k = k e S := rfl
@[simp] theorem andThen_rt (d : D) (S : Sto) (k : Stm) : (SO.rt d S).andThen k = .rt d S := rfl
@[simp] theorem andThen_er (x : Er) (e : Env) (S : Sto) (k : Stm) : (SO.er x e S).andThen k = .er x e S := rfl
@[simp] theorem andThen_bk (e : Env) (S : Sto) (k : Stm) : (SO.bk e S).andThen k = .bk e S := rfl
@[simp] theorem andThen_ct (e : Env) (S : Sto) (k : Stm) : (SO.ct e S).andThen k = .ct e S := rfl
def Out.stm {α : Type} (o : Out α) (e : Env) (k : α → Stm) : SO := match o with
  | .ok a S' => k a e S'
  | .er x S' => .er x e S'
  | .no => .no
@[simp] theorem stm_ok {α : Type} (a : α) (S : Sto) (e : Env) (k : α → Stm) : (Out.ok a S).stm e k = k a e S := rfl
@[simp] theorem stm_er {α : Type} (x : Er) (S : Sto) (e : Env) (k : α → Stm) : (Out.er x S : Out α).stm e k = .er x e S := rfl
@[simp] theorem startE_ap (n m : Nat) (ds : List D) : startE n m ds = ⟨ds.map some ++ List.replicate (m - n) none, none⟩ := rfl
@[simp] theorem runFn_ap (n m : Nat) (b : Stm) (ds : List D) (S : Sto) : runFn n m b ds S = if ds.length = n then toOut (b (startE n m ds) S) else .no := rfl
@[simp] theorem toOut_nx (e : Env) (S : Sto) : toOut (.nx e S) = .ok .non S := rfl
@[simp] theorem toOut_rt (d : D) (S : Sto) : toOut (.rt d S) = .ok d S := rfl
@[simp] theorem toOut_er (x : Er) (e : Env) (S : Sto) : toOut (.er x e S) = .er x S := rfl
@[simp] theorem sSeq_ap (a b : Stm) (e : Env) (S : Sto) : sSeq a b e S = (a e S).andThen b := rfl
@[simp] theorem sE_ap {α : Type} (m : Env → M α) (k : α → Stm) (e : Env) (S : Sto) : sE m k e S = (m e S).stm e k := rfl
@[simp] theorem sNext_ap (e : Env) (S : Sto) : sNext e S = .nx e S := rfl
@[simp] theorem sBk_ap (e : Env) (S : Sto) : sBk e S = .bk e S := rfl
@[simp] theorem sCt_ap (e : Env) (S : Sto) : sCt e S = .ct e S := rfl
@[simp] theorem sRetN_ap (e : Env) (S : Sto) : sRetN e S = .rt .non S := rfl
@[simp] theorem sDrop_ap (m : Env → M D) (e : Env) (S : Sto) : sDrop m e S = (m e S).stm e fun _ e S => .nx e S := rfl
@[simp] theorem sRet_ap (m : Env → M D) (e : Env) (S : Sto) : sRet m e S = (m e S).stm e fun d _ S => .rt d S := rfl
@[simp] theorem sIf_ap (t : Env → M Bool) (a b : Stm) (e : Env) (S : Sto) : sIf t a b e S = (t e S).stm e fun k => if k then a else b := rfl
def oNx (o : Option Env) (S : Sto) : SO := match o with
  | some e' => .nx e' S
  | none => .no
@[simp] theorem oNx_some (e : Env) (S : Sto) : oNx (some e) S = .nx e S := rfl
@[simp] theorem sAsg_ap (m : Env → M D) (f : D → Env → Option Env) (e : Env) (S : Sto) : sAsg m f e S = (m e S).stm e fun d e S => oNx (f d e) S := rfl
@[simp] theorem sPar_ap (i j : Nat) (m : Env → M (List D)) (e : Env) (S : Sto) : sPar i j m e S = (m e S).stm e fun ds e S => match ds with
  | [x, y] => .nx (setE j y (setE i x e)) S
  | _ => .no := rfl
@[simp] theorem sRaise0_ap (c : Str) (e : Env) (S : Sto) : sRaise0 c e S = .er ⟨c, none⟩ e S := rfl
@[simp] theorem sRaise1_ap (c f : Str) (m : Env → M D) (e : Env) (S : Sto) : sRaise1 c f m e S = (m e S).stm e fun d e S => .er ⟨c, some (f, d)⟩ e S := rfl
@[simp] theorem sAug_ap (i : Nat) (m : Env → M D) (e : Env) (S : Sto) : sAug i m e S = ((eVar i e S).then fun d => dInt1 d).stm e fun x => sE (fun e => bind (m e) dInt1) fun y e S => .nx (setE i (.int (x + y)) e) S := rfl
@[simp] theorem dInt1_int (i : Int) : dInt1 (.int i) = ret i := rfl
@[simp] theorem sSet_ap (m mo mi : Env → M D) (e : Env) (S : Sto) : sSet m mo mi e S = (m e S).stm e fun d => sE mo fun o => sE mi fun i => sE (fun _ => dSet o i d) fun _ e S => .nx e S := rfl
@[simp] theorem sSet2_ap (m mo mi mp mj : Env → M D) (e : Env) (S : Sto) : sSet2 m mo mi mp mj e S = (m e S).stm e fun d => sE mo fun o => sE mi fun i => sE (fun _ => dSet o i d) fun _ => sE mp fun p => sE mj fun j => sE (fun _ => dSet p j d) fun _ e S => .nx e S := rfl
@[simp] theorem sAugS_ap (mo mi m : Env → M D) (e : Env) (S : Sto) : sAugS mo mi m e S = (mo e S).stm e fun o => sE mi fun i => sE (fun _ => dIxC o i) fun x => sE (fun e => bind (m e) dInt1) fun y => sE (fun _ => dSet o i (.int (x + y))) fun _ e S => .nx e S := rfl
@[simp] theorem sFldP_ap (cs : List Str) (f : Str) (m mo : Env → M D) (e : Env) (S : Sto) : sFldP cs f m mo e S = (m e S).stm e fun d => sE mo fun o => sE (fun _ => dPut cs f o d) fun _ e S => .nx e S := rfl
/-! ### targets -/
@[simp] theorem gN_ap (i : Nat) (d : D) (e : Env) : gN i d e = some (setE i d e) := rfl
@[simp] theorem setE_ap (i : Nat) (d : D) (l : List (Option D)) : setE i d ⟨l, none⟩ = ⟨l.set i (some d), none⟩ := rfl
@[simp] theorem gT_ap (n : Nat) (g : List D → Env → Option Env) (ds : List D) (e : Env) : gT n g (.tup ds) e = if ds.length = n then g ds e else none := rfl
@[simp] theorem gC_ap (f : D → Env → Option Env) (g : List D → Env → Option Env) (d : D) (ds : List D) (e : Env) : gC f g (d :: ds) e = (f d e).bind (g ds) := rfl
@[simp] theorem gN0_ap (e : Env) : gN0 [] e = some e := rfl
/-! ### expressions -/
@[simp] theorem eVar_ap (i : Nat) (l : List (Option D)) (x : Option (Nat × Er)) : eVar i ⟨l, x⟩ = match l[i]? with
  | some (some d) => ret d
  | _ => stuck := rfl
@[simp] theorem eC_ap (d : D) (e : Env) : eC d e = ret d := rfl
@[simp] theorem e2_ap (g : D → D → M D) (a b : Env → M D) (e : Env) : e2 g a b e = bind (a e) fun x => bind (b e) fun y => g x y := rfl
@[simp] theorem e1_ap (g : D → M D) (a : Env → M D) (e : Env) : e1 g a e = bind (a e) g := rfl
@[simp] theorem aNil_ap (e : Env) : aNil e = ret [] := rfl
@[simp] theorem aCons_ap (a : Env → M D) (r : Env → M (List D)) (e : Env) : aCons a r e = bind (a e) fun d => bind (r e) fun ds => ret (d :: ds) := rfl
@[simp] theorem aStar_ap (a : Env → M D) (r : Env → M (List D)) (e : Env) : aStar a r e = bind (a e) fun d => fun S => match rdQ S d with
  | some xs => (bind (r e) fun ds => ret (xs ++ ds)) S
  | none => .no := rfl
@[simp] theorem eA_ap (g : List D → M D) (a : Env → M (List D)) (e : Env) : eA g a e = bind (a e) g := rfl
@[simp] theorem eA0_ap (g : List D → M D) (e : Env) (S : Sto) : eA0 g e S = noE (g [] S) := rfl
@[simp] theorem tOf_ap (a : Env → M D) (e : Env) : tOf a e = bind (a e) dBool := rfl
@[simp] theorem tTruth_ap (a : Env → M D) (e : Env) : tTruth a e = bind (a e) dTruth := rfl
@[simp] theorem dTruth_lst (ds : List D) (S : Sto) : dTruth (.lst ds) S = .ok (!ds.isEmpty) S := rfl
@[simp] theorem dTruth_tup (ds : List D) (S : Sto) : dTruth (.tup ds) S = .ok (!ds.isEmpty) S := rfl
@[simp] theorem dTruth_int (i : Int) (S : Sto) : dTruth (.int i) S = .ok (i != 0) S := rfl
@[simp] theorem dTruth_bl (i : Bool) (S : Sto) : dTruth (.bl i) S = .ok i S := rfl
@[simp] theorem dTruth_non (S : Sto) : dTruth .non S = .ok false S := rfl
@[simp] theorem dBool_bl (b : Bool) : dBool (.bl b) = ret b := rfl
@[simp] theorem tNotP_ap (a : Env → M Bool) (e : Env) : tNotP a e = bind (a e) fun b => ret (!b) := rfl
@[simp] theorem tAndP_ap (a b : Env → M Bool) (e : Env) : tAndP a b e = bind (a e) fun x => if x then b e else ret false := rfl
@[simp] theorem tOrP_ap (a b : Env → M Bool) (e : Env) : tOrP a b e = bind (a e) fun x => if x then ret true else b e := rfl
@[simp] theorem eIf_ap (t : Env → M Bool) (a b : Env → M D) (e : Env) : eIf t a b e = bind (t e) fun x => if x then a e else b e := rfl
@[simp] theorem eAnd_ap (a b : Env → M D) (e : Env) : eAnd a b e = bind (a e) fun x => bind (dBool x) fun c => if c then b e else ret (.bl false) := rfl
@[simp] theorem eOr_ap (a b : Env → M D) (e : Env) : eOr a b e = bind (a e) fun x => bind (dBool x) fun c => if c then ret (.bl true) else b e := rfl
@[simp] theorem eNot_ap (a : Env → M D) (e : Env) : eNot a e = bind (a e) fun x => bind (dBool x) fun c => ret (.bl (!c)) := rfl
@[simp] theorem eChain_ap (g g' : D → D → M D) (a b c : Env → M D) (e : Env) : eChain g g' a b c e = bind (a e) fun x => bind (b e) fun y => bind (g x y) fun z => bind (dBool z) fun k => if k then bind (c e) fun u => g' y u else ret (.bl false) := rfl
@[simp] theorem oNone_ap (e : Env) : oNone e = ret none := rfl
@[simp] theorem oSome_ap (a : Env → M D) (e : Env) : oSome a e = bind (a e) fun d => match d with
  | .int i => ret (some i)
  | _ => stuck := rfl
@[simp] theorem eSl_ap (a : Env → M D) (lo hi : Env → M (Option Int)) (e : Env) : eSl a lo hi e = bind (a e) fun x => bind (lo e) fun l => bind (hi e) fun h => dSl x l h := rfl
@[simp] theorem if_ap {α : Type} (c : Prop) [Decidable c] (m n : M α) (S : Sto) : (if c then m else n) S = if c then m S else n S := by split <;> rfl
@[simp] theorem ifS_ap (c : Prop) [Decidable c] (m n : Stm) (e : Env) (S : Sto) : (if c then m else n) e S = if c then m e S else n e S := by split <;> rfl
@[simp] theorem gd_ap {α : Type} (c : Prop) [Decidable c] (m : M α) (S : Sto) : gd c m S = if c then m S else .no := by unfold gd; split <;> rfl
theorem orM_def {α : Type} (x y : Env → M α) (e : Env) (S : Sto) : orM x y e S = match x e S with
  | .no => y e S
  | o => o := rfl
@[simp] theorem orM_ap {α : Type} (x y : Env → M α) (e : Env) (S : Sto) : orM x y e S = match x e S with
  | .no => y e S
  | o => o := rfl
/-! ### operators -/
@[simp] theorem dAdd_ii (i j : Int) : dAdd (.int i) (.int j) = ret (.int (i + j)) := rfl
@[simp] theorem dAdd_tt (a b : List D) : dAdd (.tup a) (.tup b) = gd (a.length + b.length ≤ lim) (ret (.tup (a ++ b))) := rfl
@[simp] theorem dAdd_ll (a b : List D) : dAdd (.lst a) (.lst b) = gd (a.length + b.length ≤ lim) (ret (.lst (a ++ b))) := rfl
@[simp] theorem dSub_ii (i j : Int) : dSub (.int i) (.int j) = ret (.int (i - j)) := rfl
@[simp] theorem dMul_ii (i j : Int) : dMul (.int i) (.int j) = gd (i.natAbs.log2 + j.natAbs.log2 < 1000000) (ret (.int (i * j))) := rfl
@[simp] theorem dMul_li (a : List D) (k : Int) : dMul (.lst a) (.int k) = gd (-1000 ≤ k ∧ k ≤ 1000 ∧ a.length * k.toNat ≤ lim) (ret (.lst (List.replicate k.toNat a).flatten)) := rfl
@[simp] theorem dMul_ti (a : List D) (k : Int) : dMul (.tup a) (.int k) = gd (a.length ≠ 0 ∧ 1 ≤ k ∧ k ≤ 1000 ∧ a.length ≤ 1000) (ret (.tup (List.replicate k.toNat a).flatten)) := rfl
@[simp] theorem dDiv_ii (i j : Int) : dDiv (.int i) (.int j) = gd (0 < j ∧ j.natAbs.log2 < 9000) (ret (.int (i / j))) := rfl
@[simp] theorem dMod_ii (i j : Int) : dMod (.int i) (.int j) = gd (0 < j) (ret (.int (i % j))) := rfl
@[simp] theorem dPow_ii (i j : Int) : dPow (.int i) (.int j) = gd (0 ≤ j ∧ j ≤ 1000000 ∧ i.natAbs < 2 ^ 64) (ret (.int (i ^ j.toNat))) := rfl
@[simp] theorem dShl_ii (i j : Int) : dShl (.int i) (.int j) = gd (0 ≤ j ∧ (Builtin.Int.intBits i : Int) + j ≤ 2 ^ 27) (ret (.int (i * 2 ^ j.toNat))) := rfl
@[simp] theorem dShr_ii (i j : Int) : dShr (.int i) (.int j) = gd (0 ≤ j) (ret (.int (i / 2 ^ j.toNat))) := rfl
@[simp] theorem dNeg_i (i : Int) : dNeg (.int i) = ret (.int (-i)) := rfl
@[simp] theorem dLt_ii (i j : Int) : dLt (.int i) (.int j) = ret (.bl (decide (i < j))) := rfl
@[simp] theorem dLe_ii (i j : Int) : dLe (.int i) (.int j) = ret (.bl (decide (i ≤ j))) := rfl
@[simp] theorem dGt_ii (i j : Int) : dGt (.int i) (.int j) = ret (.bl (decide (j < i))) := rfl
@[simp] theorem dGe_ii (i j : Int) : dGe (.int i) (.int j) = ret (.bl (decide (j ≤ i))) := rfl
@[simp] theorem dIsN_ap (neg : Bool) (d : D) : dIsN neg d .non = ret (.bl (neg != d.isNon)) := by cases d <;> rfl
@[simp] theorem isNon_non : D.isNon .non = true := rfl
@[simp] theorem isNon_int (i : Int) : D.isNon (.int i) = false := rfl
@[simp] theorem isNon_tup (i : List D) : D.isNon (.tup i) = false := rfl
@[simp] theorem isNon_lst (i : List D) : D.isNon (.lst i) = false := rfl
@[simp] theorem isNon_obj (c : Str) (i : List (Str × D)) : D.isNon (.obj c i) = false := rfl
@[simp] theorem dTup_ap (ds : List D) : dTup ds = gd (ds.length ≤ lim) (ret (.tup ds)) := rfl
@[simp] theorem dLst_ap (ds : List D) : dLst ds = gd (ds.length ≤ lim) (ret (.lst ds)) := rfl
@[simp] theorem dNew_ap (ds : List D) (S : Sto) : dNew ds S = if ds.length ≤ lim then .ok (.ptr S.length) (S ++ [.lst ds]) else .no := rfl
@[simp] theorem rdQ_tup (S : Sto) (ds : List D) : rdQ S (.tup ds) = some ds := rfl
@[simp] theorem rdQ_lst (S : Sto) (ds : List D) : rdQ S (.lst ds) = some ds := rfl
@[simp] theorem rdQ_scr (S : Sto) (ns : List Int) : rdQ S (.scr ns) = some (ns.map .int) := rfl
@[simp] theorem rdQ_ptr (S : Sto) (n : Nat) : rdQ S (.ptr n) = match S[n]? with
  | some (.lst ds) => some ds
  | _ => none := rfl
@[simp] theorem rdL_lst (S : Sto) (ds : List D) : rdL S (.lst ds) = some ds := rfl
@[simp] theorem rdL_scr (S : Sto) (ns : List Int) : rdL S (.scr ns) = some (ns.map .int) := rfl
@[simp] theorem rdL_ptr (S : Sto) (n : Nat) : rdL S (.ptr n) = match S[n]? with
  | some (.lst ds) => some ds
  | _ => none := rfl
@[simp] theorem wQ_ap {α : Type} (x : D) (g : List D → M α) (S : Sto) : wQ x g S = match rdQ S x with
  | some ds => g ds S
  | none => .no := rfl
@[simp] theorem wL_ap {α : Type} (x : D) (g : List D → M α) (S : Sto) : wL x g S = match rdL S x with
  | some ds => g ds S
  | none => .no := rfl
@[simp] theorem dIx_ap (x : D) (i : Int) (S : Sto) : dIx x (.int i) S = match rdQ S x with
    | some ds => match atI ds i with
      | some d => .ok d S
      | none => .no
    | none => .no := rfl
theorem atI_get {α : Type} {xs : List α} {i : Nat} {a : α} (h : xs[i]? = some a) : atI xs (i : Int) = some a := by
  have hl := (List.getElem?_eq_some_iff.mp h).1
  unfold atI ixN
  rw [if_pos (by omega), if_pos (by omega)]
  simpa using h
theorem atI_pos {α : Type} {xs : List α} {i : Int} {a : α} (h0 : 0 ≤ i) (h : xs[i.toNat]? = some a) : atI xs i = some a := by
  have := atI_get h
  rwa [Int.toNat_of_nonneg h0] at this
theorem atI_last {α : Type} {xs : List α} {a : α} : atI (xs ++ [a]) (-1) = some a := by
  unfold atI ixN
  rw [if_neg (by decide), if_pos (by simp; omega)]
  have : (-1 + ((xs ++ [a]).length : Int)).toNat = xs.length := by
    simp only [List.length_append, List.length_cons, List.length_nil]
    omega
  show (xs ++ [a])[(-1 + ((xs ++ [a]).length : Int)).toNat]? = _
  rw [this]
  simp
@[simp] theorem atI_zero {α : Type} (x : α) (xs : List α) : atI (x :: xs) 0 = some x := by
  have := atI_get (xs := x :: xs) (i := 0) (a := x) rfl
  simpa using this
@[simp] theorem atI_one {α : Type} (x y : α) (xs : List α) : atI (x :: y :: xs) 1 = some y := by
  have := atI_get (xs := x :: y :: xs) (i := 1) (a := y) rfl
  simpa using this
@[simp] theorem atI_two {α : Type} (x y z : α) (xs : List α) : atI (x :: y :: z :: xs) 2 = some z := by
  have := atI_get (xs := x :: y :: z :: xs) (i := 2) (a := z) rfl
  simpa using this
@[simp] theorem atI_three {α : Type} (x y z u : α) (xs : List α) : atI (x :: y :: z :: u :: xs) 3 = some u := by
  have := atI_get (xs := x :: y :: z :: u :: xs) (i := 3) (a := u) rfl
  simpa using this
theorem log2_lt64 {n : Nat} (h : n < 18446744073709551616) : n.log2 < 64 := by
  by_cases z : n = 0
  · subst z
    decide
  · exact (Nat.log2_lt z).mpr h
@[simp] theorem log2_9000 {n : Nat} (h : n < 18446744073709551616) : (n.log2 < 9000) = True := eq_true (Nat.lt_trans (log2_lt64 h) (by decide))
@[simp] theorem log2_5999 {n : Nat} (h : n < 18446744073709551616) : (n.log2 < 5999) = True := eq_true (Nat.lt_trans (log2_lt64 h) (by decide))
@[simp] theorem log2_sum {a b : Nat} (ha : a < 18446744073709551616) (hb : b < 18446744073709551616) : (a.log2 + b.log2 < 1000000) = True := eq_true (by
  have h1 := log2_lt64 ha
  have h2 := log2_lt64 hb
  omega)
/-! ### calls -/
@[simp] theorem d1_ap (g : D → M D) (d : D) : d1 g [d] = g d := rfl
@[simp] theorem d2_ap (g : D → D → M D) (d e : D) : d2 g [d, e] = g d e := rfl
@[simp] theorem dLen_ap (x : D) : dLen x = wQ x fun ds => ret (.int ds.length) := rfl
@[simp] theorem dInt_int (i : Int) : dInt (.int i) = ret (.int i) := rfl
@[simp] theorem dInt_bl (b : Bool) : dInt (.bl b) = ret (.int (if b then 1 else 0)) := rfl
@[simp] theorem dAbs_int (i : Int) : dAbs (.int i) = ret (.int (if i < 0 then -i else i)) := rfl
@[simp] theorem dMin2_int (i j : Int) : dMin2 (.int i) (.int j) = ret (.int (if j < i then j else i)) := rfl
@[simp] theorem dMax2_int (i j : Int) : dMax2 (.int i) (.int j) = ret (.int (if j > i then j else i)) := rfl
@[simp] theorem dGcd_int (i j : Int) : dGcd (.int i) (.int j) = ret (.int ((Nat.gcd i.natAbs j.natAbs : Nat) : Int)) := rfl
@[simp] theorem dLcm_int (i j : Int) : dLcm (.int i) (.int j) = gd (0 ≤ i ∧ 0 ≤ j ∧ i.toNat.log2 < 5999 ∧ j.toNat.log2 < 5999) (ret (.int ((Nat.lcm i.toNat j.toNat : Nat) : Int))) := rfl
@[simp] theorem dTuple_tup (ds : List D) (S : Sto) : dTuple (.tup ds) S = .ok (.tup ds) S := rfl
@[simp] theorem dTuple_lst (ds : List D) (S : Sto) : dTuple (.lst ds) S = .ok (.tup ds) S := rfl
@[simp] theorem dTuple_ptr (n : Nat) (S : Sto) : dTuple (.ptr n) S = wL (.ptr n) (fun ds => ret (.tup ds)) S := rfl
@[simp] theorem dList_ap (x : D) : dList x = wQ x fun ds => ret (.lst ds) := rfl
@[simp] theorem dListC_ap (x : D) : dListC x = wQ x dNew := rfl
@[simp] theorem dRange_ap (i j : Int) : dRange (.int i) (.int j) = gd (-1000000 ≤ i ∧ i ≤ 1000000 ∧ -1000000 ≤ j ∧ j ≤ 1000000) (ret (.lst (rangeD i j))) := rfl
@[simp] theorem dLRev_ap (x : D) : dLRev x = wL x fun ds => ret (.lst ds.reverse) := rfl
@[simp] theorem dRev_ap (x : D) : dRev x = wL x fun ds => ret (.lst ds.reverse) := rfl
@[simp] theorem eMeth_ap (c m : Str) (g : List D → M D) (o : Env → M D) (r : Env → M (List D)) (e : Env) : eMeth c m g o r e = bind (o e) fun d => fun S => if insOf S c m d then (bind (r e) fun ds => g (d :: ds)) S else .no := rfl
@[simp] theorem eMeth0_ap (c m : Str) (g : List D → M D) (o : Env → M D) (e : Env) : eMeth0 c m g o e = bind (o e) fun d => fun S => if insOf S c m d then noE (g [d] S) else .no := rfl
@[simp] theorem eMethH_ap (c m : Str) (g : List D → M D) (dd : List D) (o : Env → M D) (r : Env → M (List D)) (e : Env) : eMethH c m g dd o r e = bind (o e) fun d => fun S => if insOf S c m d then (bind (r e) fun ds => fun S2 => noE (g (d :: (ds ++ dd)) S2)) S else .no := rfl
@[simp] theorem insOf_obj (S : Sto) (c m c' : Str) (fs : List (Str × D)) : insOf S c m (.obj c' fs) = (decide (c' = c) && (fs.lookup m).isNone) := rfl
@[simp] theorem insOf_ptr (S : Sto) (c m : Str) (n : Nat) : insOf S c m (.ptr n) = match S[n]? with
    | some (.obj c' fs) => decide (c' = c) && (fs.lookup m).isNone
    | _ => false := rfl
@[simp] theorem look_cons {f g : String} {d : D} {r : List (Str × D)} : (((Str.ofString g, d) :: r : List (Str × D)).lookup (Str.ofString f)) = if f = g then some d else r.lookup (Str.ofString f) := by
  rw [List.lookup_cons]
  by_cases h : f = g
  · subst h
    simp
  · rw [if_neg h]
    have : (Str.ofString f == Str.ofString g) = false := by
      simp [h]
    rw [this]
@[simp] theorem look_nil {f : Str} : (([] : List (Str × D)).lookup f) = none := rfl
@[simp] theorem dFldC_obj (cs : List Str) (f c : Str) (fs : List (Str × D)) (S : Sto) : dFldC cs f (.obj c fs) S = if cs.contains c then match fs.lookup f with
    | some d => .ok d S
    | none => .no else .no := rfl
@[simp] theorem dFldC_ptr (cs : List Str) (f : Str) (n : Nat) (S : Sto) : dFldC cs f (.ptr n) S = match S[n]? with
    | some (.obj c fs) => if cs.contains c then match fs.lookup f with
      | some d => .ok d S
      | none => .no else .no
    | _ => .no := rfl
@[simp] theorem dPut_ap (cs : List Str) (f : Str) (n : Nat) (v : D) (S : Sto) : dPut cs f (.ptr n) v S = match S[n]? with
    | some (.obj c fs) => gd (cs.contains c = true ∧ fs.length < 1000) (fun S => .ok .non (S.set n (.obj c (putD f v fs)))) S
    | _ => .no := rfl
@[simp] theorem putD_cons {f g : String} {v x : D} {r : List (Str × D)} : putD (Str.ofString f) v ((Str.ofString g, x) :: r) = if g = f then (Str.ofString g, v) :: r else (Str.ofString g, x) :: putD (Str.ofString f) v r := by
  show (if Str.ofString g = Str.ofString f then _ else _) = _
  simp only [str_inj]
@[simp] theorem putD_nil {f : Str} {v : D} : putD f v [] = [(f, v)] := rfl
theorem mkObj_ap (keep : Bool) (c : Str) (g : List D → M D) (ds : List D) (S : Sto) : mkObj keep c g ds S = match g (.ptr S.length :: ds) (S ++ [.obj c []]) with
  | .ok .non S' => match S'[S.length]? with
    | some (.obj c' fs) => if keep then .ok (.ptr S.length) S' else .ok (.obj c' fs) (S'.set S.length .dead)
    | _ => .no
  | .er x S' => .er x S'
  | _ => .no := rfl
@[simp] theorem asBools_comp {α : Type} (f : α → Bool) (xs : List α) : asBools (xs.map (D.bl ∘ f)) = some (xs.map f) := by
  rw [← List.map_map]
  exact bools_map _
@[simp] theorem asBools_fun {α : Type} (f : α → Bool) (xs : List α) : asBools (xs.map fun a => D.bl (f a)) = some (xs.map f) := asBools_comp f xs
@[simp] theorem asInts_comp {α : Type} (f : α → Int) (xs : List α) : asInts (xs.map (D.int ∘ f)) = some (xs.map f) := by
  rw [← List.map_map]
  exact asInts_map _
@[simp] theorem asInts_fun {α : Type} (f : α → Int) (xs : List α) : asInts (xs.map fun a => D.int (f a)) = some (xs.map f) := asInts_comp f xs
@[simp] theorem asBools_rep (n : Nat) (b : Bool) : asBools (List.replicate n (D.bl b)) = some (List.replicate n b) := by
  rw [← List.map_replicate, bools_map]
@[simp] theorem asInts_rep (n : Nat) (b : Int) : asInts (List.replicate n (D.int b)) = some (List.replicate n b) := by
  rw [← List.map_replicate, asInts_map]
/-! ### isinstance -/
theorem dIs_ap (own : List Str) (ts : List Ty) (x : D) (S : Sto) {k : Ty} (h : kindOf S x = some k) (hk : okK own k = true) : dIs own sameC ts x S = .ok (.bl (ts.any (isK sameC k))) S := by
  unfold dIs
  rw [h]
  simp [hk]
/-! ### == of plain things -/
@[simp] theorem dEq_ii (neg : Bool) (i j : Int) (S : Sto) : dEq neg (.int i) (.int j) S = .ok (.bl (neg != decide (i = j))) S := by
  unfold dEq
  simp [rdD, D.okD, D.py, PyData.eqv]
  by_cases h : i = j <;> simp [h]
@[simp] theorem dEq_ss (neg : Bool) (a b : String) (S : Sto) : dEq neg (.str a) (.str b) S = .ok (.bl (neg != decide (a = b))) S := by
  unfold dEq
  simp [rdD, D.okD, D.py, PyData.eqv]
  by_cases h : a = b <;> simp [h]
@[simp] theorem dEq_bb (neg : Bool) (i j : Bool) (S : Sto) : dEq neg (.bl i) (.bl j) S = .ok (.bl (neg != decide (i = j))) S := by
  unfold dEq
  simp [rdD, D.okD, D.py, PyData.eqv]
  cases i <;> cases j <;> rfl
instance : DecidableEq D := fun a b => if h : D.same a b = true then .isTrue (same_eq h) else .isFalse fun e => h (e ▸ same_refl a)
mutual
/-- numbers, texts, None, and groups of these -/
def D.pl : D → Bool
  | .non => true
  | .int _ => true
  | .str _ => true
  | .tup ds => D.pls ds
  | .lst ds => D.pls ds
  | _ => false
def D.pls : List D → Bool
  | [] => true
  | d :: ds => D.pl d && D.pls ds
end
theorem pls_all : ∀ ds : List D, D.pls ds = ds.all D.pl
  | [] => rfl
  | d :: ds => by
    show (D.pl d && D.pls ds) = _
    rw [pls_all ds]
    rfl
mutual
theorem eqv_pl : ∀ a b : D, a.pl = true → b.pl = true → PyData.eqv a.py b.py = decide (a = b)
  | .non, b, _, h => by cases b <;> simp_all [D.pl, D.py, PyData.eqv]
  | .int i, b, _, h => by
    cases b with
    | int j =>
      simp only [D.py, PyData.eqv, D.int.injEq]
      by_cases e : i = j <;> simp [e]
    | _ => simp_all [D.pl, D.py, PyData.eqv]
  | .str i, b, _, h => by
    cases b with
    | str j =>
      simp only [D.py, PyData.eqv, D.str.injEq]
      by_cases e : i = j <;> simp [e]
    | _ => simp_all [D.pl, D.py, PyData.eqv]
  | .tup xs, b, h1, h => by
    cases b with
    | tup ys =>
      simp only [D.py, PyData.eqv, D.tup.injEq]
      exact eqvs_pl xs ys h1 h
    | _ => simp_all [D.pl, D.py, PyData.eqv]
  | .lst xs, b, h1, h => by
    cases b with
    | lst ys =>
      simp only [D.py, PyData.eqv, D.lst.injEq]
      exact eqvs_pl xs ys h1 h
    | _ => simp_all [D.pl, D.py, PyData.eqv]
  | .bl _, _, h, _ => by cases h
  | .obj _ _, _, h, _ => by cases h
  | .ptr _, _, h, _ => by cases h
  | .scr _, _, h, _ => by cases h
theorem eqvs_pl : ∀ xs ys : List D, D.pls xs = true → D.pls ys = true → PyData.eqvAll (D.pys xs) (D.pys ys) = decide (xs = ys)
  | [], [], _, _ => rfl
  | [], y :: ys, _, _ => rfl
  | x :: xs, [], _, _ => rfl
  | x :: xs, y :: ys, h1, h2 => by
    obtain ⟨a1, a2⟩ := Bool.and_eq_true_iff.mp h1
    obtain ⟨b1, b2⟩ := Bool.and_eq_true_iff.mp h2
    show (PyData.eqv x.py y.py && PyData.eqvAll (D.pys xs) (D.pys ys)) = _
    rw [eqv_pl x y a1 b1, eqvs_pl xs ys a2 b2]
    simp [Bool.decide_and]
end
/-- plain and not deep -/
def D.fit (n : Nat) (d : D) : Bool := d.pl && d.okD n
theorem okD_up : ∀ (n : Nat) (d : D), d.okD n = true → d.okD (n + 1) = true
  | 0, d, h => by cases d <;> first | exact h | rfl | cases h
  | n + 1, .tup ds, h => List.all_eq_true.mpr fun d hd => okD_up n d (List.all_eq_true.mp (show ds.all (D.okD n) = true from h) d hd)
  | n + 1, .lst ds, h => List.all_eq_true.mpr fun d hd => okD_up n d (List.all_eq_true.mp (show ds.all (D.okD n) = true from h) d hd)
  | _ + 1, .non, h => rfl
  | _ + 1, .bl _, h => rfl
  | _ + 1, .int _, h => rfl
  | _ + 1, .str x, h => h
  | _ + 1, .scr _, h => rfl
  | _ + 1, .obj _ _, h => by cases h
  | _ + 1, .ptr _, h => by cases h
theorem okD_le {n m : Nat} (h : n ≤ m) {d : D} (k : d.okD n = true) : d.okD m = true := by
  induction h with
  | refl => exact k
  | step _ ih => exact okD_up _ _ ih
theorem fit_up {n m : Nat} (h : n ≤ m) {d : D} (k : d.fit n = true) : d.fit m = true := by
  obtain ⟨a, b⟩ := Bool.and_eq_true_iff.mp k
  exact Bool.and_eq_true_iff.mpr ⟨a, okD_le h b⟩
@[simp] theorem fit_int (n : Nat) (i : Int) : D.fit n (.int i) = true := by cases n <;> rfl
@[simp] theorem fit_non (n : Nat) : D.fit n .non = true := by cases n <;> rfl
@[simp] theorem fit_str (n : Nat) (a : String) : D.fit n (.str a) = true := by
  unfold D.fit
  cases n <;> simp [D.pl, D.okD]
@[simp] theorem fit_tup (n : Nat) (ds : List D) : D.fit (n + 1) (.tup ds) = ds.all (D.fit n) := by
  unfold D.fit
  show (D.pls ds && ds.all (D.okD n)) = _
  rw [pls_all]
  induction ds with
  | nil => rfl
  | cons d ds ih =>
    simp only [List.all_cons]
    rw [← ih]
    cases d.pl <;> cases d.okD n <;> simp
@[simp] theorem fit_lst (n : Nat) (ds : List D) : D.fit (n + 1) (.lst ds) = ds.all (D.fit n) := by
  rw [← fit_tup]
  rfl
theorem fit_ok {d : D} (h : d.fit 12 = true) : d.pl = true ∧ d.okD 12 = true := Bool.and_eq_true_iff.mp h
theorem rdD_pl {d : D} (h : d.pl = true) (S : Sto) : rdD S d = d := by cases d <;> first | rfl | cases h
theorem dEq_fit (neg : Bool) {a b : D} (S : Sto) (ha : a.fit 12 = true) (hb : b.fit 12 = true) : dEq neg a b S = .ok (.bl (neg != decide (a = b))) S := by
  obtain ⟨a1, a2⟩ := fit_ok ha
  obtain ⟨b1, b2⟩ := fit_ok hb
  unfold dEq
  rw [rdD_pl a1, rdD_pl b1, eqv_pl _ _ a1 b1]
  simp [a2, b2]
theorem dIn_tup (neg : Bool) {a : D} {ds : List D} (S : Sto) (hn : neg = false) (ha : a.fit 12 = true) (hb : (D.tup ds).fit 12 = true) : dIn neg a (.tup ds) S = .ok (.bl (decide (a ∈ ds))) S := by
  obtain ⟨a1, a2⟩ := fit_ok ha
  obtain ⟨b1, b2⟩ := fit_ok hb
  unfold dIn
  show gd _ _ S = _
  rw [rdD_pl a1]
  simp only [gd_ap]
  rw [if_pos ⟨hn, a2, b2⟩]
  show Out.ok _ S = _
  congr 2
  have b1 : D.pls ds = true := b1
  rw [pls_all] at b1
  rw [pys_map, List.any_map]
  rw [Bool.eq_iff_iff, decide_eq_true_iff, List.any_eq_true]
  constructor
  · rintro ⟨z, hz, h⟩
    have h : PyData.eqv z.py a.py = true := h
    rw [eqv_pl z a (List.all_eq_true.mp b1 z hz) a1] at h
    rw [← of_decide_eq_true h]
    exact hz
  · intro h
    refine ⟨a, h, ?_⟩
    show PyData.eqv a.py a.py = true
    rw [eqv_pl a a a1 a1]
    exact decide_eq_true rfl
theorem dIn_lst (neg : Bool) {a : D} {ds : List D} (S : Sto) (ha : a.fit 12 = true) (hb : (D.lst ds).fit 12 = true) : dIn neg a (.lst ds) S = .ok (.bl (neg != decide (a ∈ ds))) S := by
  obtain ⟨a1, a2⟩ := fit_ok ha
  obtain ⟨b1, b2⟩ := fit_ok hb
  unfold dIn
  show gd _ _ S = _
  rw [rdD_pl a1]
  simp only [gd_ap]
  rw [if_pos ⟨a2, b2⟩]
  show Out.ok _ S = _
  congr 3
  have b1 : D.pls ds = true := b1
  rw [pls_all] at b1
  rw [pys_map, List.any_map]
  rw [Bool.eq_iff_iff, decide_eq_true_iff, List.any_eq_true]
  constructor
  · rintro ⟨z, hz, h⟩
    have h : PyData.eqv z.py a.py = true := h
    rw [eqv_pl z a (List.all_eq_true.mp b1 z hz) a1] at h
    rw [← of_decide_eq_true h]
    exact hz
  · intro h
    refine ⟨a, h, ?_⟩
    show PyData.eqv a.py a.py = true
    rw [eqv_pl a a a1 a1]
    exact decide_eq_true rfl
theorem dNotInF_lst {a : D} {ds : List D} (S : Sto) (ha : a.fit 12 = true) (hb : (D.lst ds).fit 12 = true) : dNotInF a (.lst ds) S = .ok (.bl (!decide (a ∈ ds))) S := by
  show dIn true a (.lst ds) S = _
  rw [dIn_lst true S ha hb]
  cases decide (a ∈ ds) <;> rfl
theorem dNotInF_tup {a : D} {ds : List D} (S : Sto) (ha : a.fit 0 = true) (hb : ds.all (D.fit 0) = true) : dNotInF a (.tup ds) S = .ok (.bl (!decide (a ∈ ds))) S := by
  obtain ⟨a1, a2⟩ := Bool.and_eq_true_iff.mp ha
  unfold dNotInF
  simp only [gd_ap]
  have hb2 : ds.all (D.okD 0) = true := List.all_eq_true.mpr fun d hd => (Bool.and_eq_true_iff.mp (List.all_eq_true.mp hb d hd)).2
  rw [if_pos ⟨a2, hb2⟩]
  show Out.ok _ S = _
  congr 3
  rw [pys_map, List.any_map]
  rw [Bool.eq_iff_iff, decide_eq_true_iff, List.any_eq_true]
  constructor
  · rintro ⟨z, hz, h⟩
    have h : PyData.eqv z.py a.py = true := h
    rw [eqv_pl z a (Bool.and_eq_true_iff.mp (List.all_eq_true.mp hb z hz)).1 a1] at h
    rw [← of_decide_eq_true h]
    exact hz
  · intro h
    refine ⟨a, h, ?_⟩
    show PyData.eqv a.py a.py = true
    rw [eqv_pl a a a1 a1]
    exact decide_eq_true rfl
/-! ### what is walked -/
@[simp] theorem iSeq_ap (a : Env → M D) (e : Env) : iSeq a e = bind (a e) fun d => fun S => oM (itmOf S d) ret S := rfl
@[simp] theorem itmOf_tup (S : Sto) (ds : List D) : itmOf S (.tup ds) = some ⟨ds, []⟩ := rfl
@[simp] theorem itmOf_lst (S : Sto) (ds : List D) : itmOf S (.lst ds) = some ⟨ds, []⟩ := rfl
@[simp] theorem itmOf_scr (S : Sto) (ds : List Int) : itmOf S (.scr ds) = some ⟨ds.map .int, []⟩ := rfl
@[simp] theorem iNum_ap (a : Env → M D) (e : Env) : iNum a e = bind (iSeq a e) fun it => ret ⟨numD it.ds, it.src⟩ := rfl
@[simp] theorem iZip2_ap (a : Env → M (List D)) (e : Env) : iZip2 a e = bind (a e) fun ds => match ds with
  | [.tup xs, .tup ys] => ret ⟨zipD xs ys, []⟩
  | [x, y] => fun S => oM (rdS S x) (fun i => oM (rdS S y) (fun j => ret ⟨zipD i.ds j.ds, i.src ++ j.src⟩)) S
  | _ => stuck := rfl
@[simp] theorem iR1_ap (a : Env → M (List D)) (e : Env) : iR1 a e = bind (a e) fun ds => match ds with
  | [.int j] => gd (-1000000 ≤ j ∧ j ≤ 1000000) (ret ⟨rangeD 0 j, []⟩)
  | _ => stuck := rfl
@[simp] theorem iR2_ap (a : Env → M (List D)) (e : Env) : iR2 a e = bind (a e) fun ds => match ds with
  | [.int i, .int j] => gd (-1000000 ≤ i ∧ i ≤ 1000000 ∧ -1000000 ≤ j ∧ j ≤ 1000000) (ret ⟨rangeD i j, []⟩)
  | _ => stuck := rfl
/-- what a turn leaves: the invariant, or what is wished behind the loop -/
def Turn (I : Env → Sto → Prop) (G : SO → Prop) (o : SO) : Prop := match o with
  | .nx e2 S2 => I e2 S2
  | .ct e2 S2 => I e2 S2
  | .bk e2 S2 => G (.nx e2 S2)
  | .rt r S2 => G (.rt r S2)
  | .er x e2 S2 => G (.er x e2 S2)
  | .no => False
@[simp] theorem turn_nx (I : Env → Sto → Prop) (G : SO → Prop) (e : Env) (S : Sto) : Turn I G (.nx e S) = I e S := rfl
@[simp] theorem turn_ct (I : Env → Sto → Prop) (G : SO → Prop) (e : Env) (S : Sto) : Turn I G (.ct e S) = I e S := rfl
@[simp] theorem turn_bk (I : Env → Sto → Prop) (G : SO → Prop) (e : Env) (S : Sto) : Turn I G (.bk e S) = G (.nx e S) := rfl
@[simp] theorem turn_rt (I : Env → Sto → Prop) (G : SO → Prop) (d : D) (S : Sto) : Turn I G (.rt d S) = G (.rt d S) := rfl
@[simp] theorem turn_er (I : Env → Sto → Prop) (G : SO → Prop) (x : Er) (e : Env) (S : Sto) : Turn I G (.er x e S) = G (.er x e S) := rfl
@[simp] theorem turn_no (I : Env → Sto → Prop) (G : SO → Prop) : Turn I G .no = False := rfl
/-- a loop: what stays true, what is wished behind it -/
theorem forGo_rule {src : List (Nat × List D)} {tg : D → Env → Option Env} {body : Stm} {ds : List D} {G : SO → Prop} {e : Env} {S : Sto} (I : Nat → Env → Sto → Prop) (h0 : I 0 e S)
    (hs : ∀ (i : Nat) (d : D) (e : Env) (S : Sto), ds[i]? = some d → I i e S → okSrc src S = true ∧ ∃ e1, tg d e = some e1 ∧ Turn (I (i + 1)) G (body e1 S))
    (hd : ∀ (e : Env) (S : Sto), I ds.length e S → okSrc src S = true ∧ G (.nx e S)) : G (forGo src tg body ds e S) := by
  induction ds generalizing e S I with
  | nil =>
    obtain ⟨a, b⟩ := hd e S h0
    unfold forGo
    rw [if_pos a]
    exact b
  | cons d ds ih =>
    obtain ⟨ok, e1, h1, h2⟩ := hs 0 d e S rfl h0
    unfold forGo
    rw [if_pos ok, h1]
    simp only
    cases q : body e1 S with
    | nx e2 S2 =>
      rw [q] at h2
      exact ih (I := fun i => I (i + 1)) h2 (fun i d e S hi hI => hs (i + 1) d e S (by simpa using hi) hI) fun e S h => hd e S (by simpa using h)
    | ct e2 S2 =>
      rw [q] at h2
      exact ih (I := fun i => I (i + 1)) h2 (fun i d e S hi hI => hs (i + 1) d e S (by simpa using hi) hI) fun e S h => hd e S (by simpa using h)
    | bk e2 S2 =>
      rw [q] at h2
      exact h2
    | rt r S2 =>
      rw [q] at h2
      exact h2
    | er x e2 S2 =>
      rw [q] at h2
      exact h2
    | no =>
      rw [q] at h2
      exact h2.elim
@[simp] theorem sFor_ap (it : Env → M Itm) (tg : D → Env → Option Env) (body : Stm) (e : Env) (S : Sto) : sFor it tg body e S = (it e S).stm e fun I => forGo I.src tg body I.ds := rfl
/-- a while: what stays true, and what falls -/
theorem whl_rule {t : Env → M Bool} {body : Stm} {G : SO → Prop} {e : Env} {S : Sto} (I : Nat → Env → Sto → Prop) (n : Nat) (h0 : I n e S)
    (hs : ∀ (n : Nat) (e : Env) (S : Sto), I n e S → ∃ (b : Bool) (S1 : Sto), t e S = .ok b S1 ∧ if b then ∃ e2 S2, body e S1 = .nx e2 S2 ∧ ∃ m, m < n ∧ I m e2 S2 else G (.nx e S1)) : G (sWhl t body e S) := by
  induction n using Nat.strongRecOn generalizing e S with
  | _ n ih =>
    obtain ⟨b, S1, h1, h2⟩ := hs n e S h0
    cases b with
    | false =>
      rw [whl_end h1]
      simpa using h2
    | true =>
      simp only [if_true] at h2
      obtain ⟨e2, S2, hb, m, hm, hI⟩ := h2
      rw [whl_turn h1 hb]
      exact ih m hm hI
/-! ### comprehensions -/
@[simp] theorem eLc_ap (keep : Bool) (it : Env → M Itm) (vs : List Nat) (tg : D → Env → Option Env) (t : Env → M Bool) (m : Env → M D) (e : Env) (S : Sto) : eLc keep it vs tg t m e S = ((it e S).then fun I => gd (I.ds.length ≤ lim) (bind (noEM (lcGo I.src tg t m (wipeE e vs) I.ds)) (if keep then fCell else fLst))) := rfl
@[simp] theorem fLst_ap (ds : List D) (S : Sto) : fLst ds S = .ok (.lst ds) S := rfl
@[simp] theorem fCell_ap (ds : List D) (S : Sto) : fCell ds S = .ok (.ptr S.length) (S ++ [.lst ds]) := rfl
@[simp] theorem noEM_ap {α : Type} (m : M α) (S : Sto) : noEM m S = noE (m S) := rfl
@[simp] theorem tYes_ap (e : Env) : tYesP e = ret true := rfl
/-- a comprehension that only looks -/
theorem lcGo_map {α : Type} {tg : D → Env → Option Env} {t : Env → M Bool} {m : Env → M D} {e0 : Env} {S : Sto} (enc : α → D) (b : α → Bool) (f : α → D) : ∀ (xs : List α), (∀ x ∈ xs, ∃ e1, tg (enc x) e0 = some e1 ∧ t e1 S = .ok (b x) S ∧ (b x = true → m e1 S = .ok (f x) S)) → lcGo [] tg t m e0 (xs.map enc) S = .ok ((xs.filter b).map f) S
  | [], _ => rfl
  | x :: xs, h => by
    obtain ⟨e1, h1, h2, h3⟩ := h x (by simp)
    have ih := lcGo_map enc b f xs fun y hy => h y (List.mem_cons_of_mem _ hy)
    rw [List.map_cons]
    show (oM (tg (enc x) e0) _ : M _) S = _
    rw [h1]
    show ((t e1 S).then _) = _
    rw [h2]
    show (if b x = true then _ else _ : M _) S = _
    cases hb : b x with
    | true =>
      simp only [if_true]
      show ((m e1 S).then _) = _
      rw [h3 hb]
      show ((lcGo [] tg t m e0 (xs.map enc) S).then _) = _
      rw [ih, List.filter_cons_of_pos hb]
      rfl
    | false =>
      rw [List.filter_cons_of_neg (by rw [hb]; decide)]
      simpa using ih
theorem lcGo_all {α : Type} {tg : D → Env → Option Env} {m : Env → M D} {e0 : Env} {S : Sto} (enc : α → D) (f : α → D) (xs : List α) (h : ∀ x ∈ xs, ∃ e1, tg (enc x) e0 = some e1 ∧ m e1 S = .ok (f x) S) : lcGo [] tg tYesP m e0 (xs.map enc) S = .ok (xs.map f) S := by
  have := lcGo_map (t := tYesP) enc (fun _ => true) f xs fun x hx => by
    obtain ⟨e1, h1, h2⟩ := h x hx
    exact ⟨e1, h1, rfl, fun _ => h2⟩
  rw [this, List.filter_eq_self.mpr (fun _ _ => rfl)]
/-- .. that changes what stands there -/
theorem lcGo_run {tg : D → Env → Option Env} {t : Env → M Bool} {m : Env → M D} {e0 : Env} {src : List (Nat × List D)} (P : Nat → List D → Sto → Prop) : ∀ (ds : List D) (k : Nat) (acc : List D) (S : Sto), P k acc S →
    (∀ (i : Nat) (d : D) (acc : List D) (S : Sto), ds[i]? = some d → P (k + i) acc S → okSrc src S = true ∧ ∃ e1 b S1, tg d e0 = some e1 ∧ t e1 S = .ok b S1 ∧ if b then ∃ y S2, m e1 S1 = .ok y S2 ∧ P (k + i + 1) (acc ++ [y]) S2 else P (k + i + 1) acc S1) →
    (∀ acc S, P (k + ds.length) acc S → okSrc src S = true) → ∃ ys S', lcGo src tg t m e0 ds S = .ok ys S' ∧ P (k + ds.length) (acc ++ ys) S'
  | [], k, acc, S, h, _, he => ⟨[], S, by
    show (if okSrc src S then _ else _) = _
    rw [if_pos (he acc S h)]
    rfl, by simpa using h⟩
  | d :: ds, k, acc, S, h, hs, he => by
    obtain ⟨ok, e1, b, S1, h1, h2, h3⟩ := hs 0 d acc S rfl h
    have e0' : lcGo src tg t m e0 (d :: ds) S = (t e1 S).then fun b => if b then bind (m e1) fun y => bind (lcGo src tg t m e0 ds) fun ys => ret (y :: ys) else lcGo src tg t m e0 ds := by
      show (if okSrc src S then (oM (tg d e0) _ : M _) S else _) = _
      rw [if_pos ok, h1]
      rfl
    rw [e0', h2]
    have step : ∀ (i : Nat) (d' : D) (acc : List D) (S : Sto), ds[i]? = some d' → P (k + 1 + i) acc S → okSrc src S = true ∧ ∃ e1 b S1, tg d' e0 = some e1 ∧ t e1 S = .ok b S1 ∧ if b then ∃ y S2, m e1 S1 = .ok y S2 ∧ P (k + 1 + i + 1) (acc ++ [y]) S2 else P (k + 1 + i + 1) acc S1 := fun i d' acc S hi hp => by
      have := hs (i + 1) d' acc S (by simpa using hi) (by rw [← Nat.add_assoc, Nat.add_right_comm]; exact hp)
      rwa [show k + (i + 1) + 1 = k + 1 + i + 1 by omega] at this
    have fin : ∀ acc S, P (k + 1 + ds.length) acc S → okSrc src S = true := fun acc S hp => he acc S (by rw [List.length_cons, ← Nat.add_assoc, Nat.add_right_comm]; exact hp)
    cases b with
    | true =>
      simp only [if_true] at h3
      obtain ⟨y, S2, h4, h5⟩ := h3
      obtain ⟨ys, S', q1, q2⟩ := lcGo_run P ds (k + 1) (acc ++ [y]) S2 h5 step fin
      refine ⟨y :: ys, S', ?_, ?_⟩
      · show ((m e1 S1).then _) = _
        rw [h4]
        show ((lcGo src tg t m e0 ds S2).then _) = _
        rw [q1]
        rfl
      · rw [List.length_cons, show k + (ds.length + 1) = k + 1 + ds.length by omega]
        rw [List.append_assoc] at q2
        exact q2
    | false =>
      have h3 : P (k + 0 + 1) acc S1 := by simpa using h3
      obtain ⟨ys, S', q1, q2⟩ := lcGo_run P ds (k + 1) acc S1 h3 step fin
      refine ⟨ys, S', ?_, ?_⟩
      · simpa using q1
      · rw [List.length_cons, show k + (ds.length + 1) = k + 1 + ds.length by omega]
        exact q2
theorem rangeD_map (i j : Int) : rangeD i j = ((List.range (j - i).toNat).map fun (k : Nat) => (i + k : Int)).map D.int := by
  unfold rangeD
  rw [List.map_map]
  rfl
/-- the whole numbers from i to below j -/
def rng (i j : Int) : List Int := (List.range (j - i).toNat).map fun (k : Nat) => (i + k : Int)
theorem rangeD_rng (i j : Int) : rangeD i j = (rng i j).map D.int := rangeD_map i j
@[simp] theorem rng_length (i j : Int) : (rng i j).length = (j - i).toNat := by simp [rng]
theorem mem_rng {i j k : Int} : k ∈ rng i j ↔ i ≤ k ∧ k < j := by
  unfold rng
  simp only [List.mem_map, List.mem_range]
  constructor
  · rintro ⟨a, h, rfl⟩
    omega
  · intro h
    exact ⟨(k - i).toNat, by omega, by omega⟩
end PM
end
section
set_option Elab.async false
set_option linter.all false
set_option maxRecDepth 100000
namespace PM
open PySem L2
noncomputable def b_common_bottom : Stm := (sSeq (sAsg (eC (.int 1)) (gN 1)) (sSeq (sFor (iSeq (eVar 0)) (gT 2 (gC (gN 2) (gC (gN 3) gN0))) (sAsg (eA (d2 dLcm) (aCons (eVar 1) (aCons (eVar 3) aNil))) (gN 1))) (sRet (eVar 1))))
noncomputable def m_common_bottom : List D → M D := runFn 1 4 b_common_bottom
noncomputable def b_Line___init__ : Stm := (sSeq (sAsg (eA m_common_bottom (aCons (eA dLst (aStar (eVar 2) (aStar (eVar 3) aNil))) aNil)) (gN 4)) (sSeq (sFldP ["Line"] "areas" (eVar 1) (eVar 0)) (sSeq (sFldP ["Line"] "bottom" (eVar 4) (eVar 0)) (sSeq (sFldP ["Line"] "tops" (eLc false (iSeq (eVar 2)) [5, 6] (gT 2 (gC (gN 5) (gC (gN 6) gN0))) tYesP (e2 dMul (eVar 5) (e2 dDiv (eVar 4) (eVar 6)))) (eVar 0)) (sFldP ["Line"] "bottoms" (eLc false (iSeq (eVar 2)) [7] (gN 7) tYesP (eVar 4)) (eVar 0))))))
noncomputable def m_Line___init__ : List D → M D := runFn 4 8 b_Line___init__
noncomputable def b_Line_top : Stm := (sSeq (sIf (tOf (e2 (dEq true) (e2 dIx (e1 (dFldC ["Line"] "bottoms") (eVar 0)) (eVar 1)) (e1 (dFldC ["Line"] "bottom") (eVar 0)))) (sSeq (sSet (e2 dMul (e2 dIx (e1 (dFldC ["Line"] "tops") (eVar 0)) (eVar 1)) (e2 dDiv (e1 (dFldC ["Line"] "bottom") (eVar 0)) (e2 dIx (e1 (dFldC ["Line"] "bottoms") (eVar 0)) (eVar 1)))) (e1 (dFldC ["Line"] "tops") (eVar 0)) (eVar 1)) (sSet (e1 (dFldC ["Line"] "bottom") (eVar 0)) (e1 (dFldC ["Line"] "bottoms") (eVar 0)) (eVar 1))) sNext) (sRet (e2 dIx (e1 (dFldC ["Line"] "tops") (eVar 0)) (eVar 1))))
noncomputable def m_Line_top : List D → M D := runFn 2 2 b_Line_top
noncomputable def b_Line_even : Stm := (sSeq (sPar 2 3 (aCons (e2 dIx (e1 (dFldC ["Line"] "areas") (eVar 0)) (e2 dSub (eVar 1) (eC (.int 1)))) (aCons (e2 dIx (e1 (dFldC ["Line"] "areas") (eVar 0)) (eVar 1)) aNil))) (sSeq (sAsg (e2 dAdd (e2 dMul (eVar 3) (eMeth "Line" "top" m_Line_top (eVar 0) (aCons (e2 dSub (eVar 1) (eC (.int 1))) aNil))) (e2 dMul (eVar 2) (eMeth "Line" "top" m_Line_top (eVar 0) (aCons (e2 dAdd (eVar 1) (eC (.int 1))) aNil)))) (gN 4)) (sSeq (sAsg (eA (d2 dGcd) (aCons (eVar 4) (aCons (e2 dAdd (eVar 2) (eVar 3)) aNil))) (gN 5)) (sSeq (sFldP ["Line"] "bottom" (e2 dMul (e1 (dFldC ["Line"] "bottom") (eVar 0)) (e2 dDiv (e2 dAdd (eVar 2) (eVar 3)) (eVar 5))) (eVar 0)) (sSeq (sSet (e2 dDiv (eVar 4) (eVar 5)) (e1 (dFldC ["Line"] "tops") (eVar 0)) (eVar 1)) (sSet (e1 (dFldC ["Line"] "bottom") (eVar 0)) (e1 (dFldC ["Line"] "bottoms") (eVar 0)) (eVar 1)))))))
noncomputable def m_Line_even : List D → M D := runFn 2 6 b_Line_even
noncomputable def b_Line_inside : Stm := (sRet (e2 dSub (eMeth "Line" "top" m_Line_top (eVar 0) (aCons (e2 dAdd (eVar 1) (eC (.int 1))) aNil)) (eMeth "Line" "top" m_Line_top (eVar 0) (aCons (eVar 1) aNil))))
noncomputable def m_Line_inside : List D → M D := runFn 2 2 b_Line_inside
noncomputable def b_reduced : Stm := (sSeq (sAsg (eA (d2 dGcd) (aCons (eVar 0) (aCons (eVar 1) aNil))) (gN 2)) (sRet (eA dTup (aCons (e2 dDiv (eVar 0) (eVar 2)) (aCons (e2 dDiv (eVar 1) (eVar 2)) aNil)))))
noncomputable def m_reduced : List D → M D := runFn 2 3 b_reduced
noncomputable def b_Line_water : Stm := (sRet (eLc false (iR1 (aCons (eA (d1 dLen) (aCons (e1 (dFldC ["Line"] "areas") (eVar 0)) aNil)) aNil)) [1] (gN 1) tYesP (eA m_reduced (aCons (eMeth "Line" "inside" m_Line_inside (eVar 0) (aCons (eVar 1) aNil)) (aCons (e1 (dFldC ["Line"] "bottom") (eVar 0)) aNil)))))
noncomputable def m_Line_water : List D → M D := runFn 1 2 b_Line_water
noncomputable def b_is_integer : Stm := (sRet (eAnd (e1 (dIs [] sameC [(.inl "int")]) (eVar 0)) (eNot (e1 (dIs [] sameC [(.inl "bool")]) (eVar 0)))))
noncomputable def m_is_integer : List D → M D := runFn 1 1 b_is_integer
noncomputable def b_is_fraction : Stm := (sSeq (sIf (tNotP (tOf (e1 (dIs [] sameC [(.inl "tuple")]) (eVar 0)))) (sRet (eA m_is_integer (aCons (eVar 0) aNil))) sNext) (sRet (eAnd (e2 (dEq false) (eA (d1 dLen) (aCons (eVar 0) aNil)) (eC (.int 2))) (eAnd (eA m_is_integer (aCons (e2 dIx (eVar 0) (eC (.int 0))) aNil)) (eAnd (eA m_is_integer (aCons (e2 dIx (eVar 0) (eC (.int 1))) aNil)) (e2 dGe (e2 dIx (eVar 0) (eC (.int 1))) (eC (.int 1))))))))
noncomputable def m_is_fraction : List D → M D := runFn 1 1 b_is_fraction
noncomputable def b_exact : Stm := (sSeq (sIf (tOf (e1 (dIs [] sameC [(.inl "tuple")]) (eVar 0))) (sRet (eA m_reduced (aCons (e2 dIx (eVar 0) (eC (.int 0))) (aCons (e2 dIx (eVar 0) (eC (.int 1))) aNil)))) sNext) (sRet (eA dTup (aCons (eVar 0) (aCons (eC (.int 1)) aNil)))))
noncomputable def m_exact : List D → M D := runFn 1 1 b_exact
noncomputable def b_is_amount : Stm := (sRet (eAnd (eA m_is_fraction (aCons (eVar 0) aNil)) (e2 dGe (eIf (tOf (e1 (dIs [] sameC [(.inl "tuple")]) (eVar 0))) (e2 dIx (eVar 0) (eC (.int 0))) (eVar 0)) (eC (.int 0)))))
noncomputable def m_is_amount : List D → M D := runFn 1 1 b_is_amount
noncomputable def b_times : Stm := (sSeq (sAsg (eA (d2 dGcd) (aCons (e2 dIx (eVar 0) (eC (.int 0))) (aCons (e2 dIx (eVar 1) (eC (.int 1))) aNil))) (gN 2)) (sSeq (sAsg (eA (d2 dGcd) (aCons (e2 dIx (eVar 1) (eC (.int 0))) (aCons (e2 dIx (eVar 0) (eC (.int 1))) aNil))) (gN 3)) (sRet (eA dTup (aCons (e2 dMul (e2 dDiv (e2 dIx (eVar 0) (eC (.int 0))) (eVar 2)) (e2 dDiv (e2 dIx (eVar 1) (eC (.int 0))) (eVar 3))) (aCons (e2 dMul (e2 dDiv (e2 dIx (eVar 0) (eC (.int 1))) (eVar 3)) (e2 dDiv (e2 dIx (eVar 1) (eC (.int 1))) (eVar 2))) aNil))))))
noncomputable def m_times : List D → M D := runFn 2 4 b_times
noncomputable def b_plus : Stm := (sSeq (sAsg (eA (d2 dGcd) (aCons (e2 dIx (eVar 0) (eC (.int 1))) (aCons (e2 dIx (eVar 1) (eC (.int 1))) aNil))) (gN 2)) (sSeq (sAsg (e2 dAdd (e2 dMul (e2 dIx (eVar 0) (eC (.int 0))) (e2 dDiv (e2 dIx (eVar 1) (eC (.int 1))) (eVar 2))) (e2 dMul (e2 dIx (eVar 1) (eC (.int 0))) (e2 dDiv (e2 dIx (eVar 0) (eC (.int 1))) (eVar 2)))) (gN 3)) (sSeq (sAsg (eA (d2 dGcd) (aCons (eVar 3) (aCons (eVar 2) aNil))) (gN 4)) (sRet (eA dTup (aCons (e2 dDiv (eVar 3) (eVar 4)) (aCons (e2 dMul (e2 dDiv (e2 dIx (eVar 0) (eC (.int 1))) (eVar 2)) (e2 dDiv (e2 dIx (eVar 1) (eC (.int 1))) (eVar 4))) aNil)))))))
noncomputable def m_plus : List D → M D := runFn 2 5 b_plus
noncomputable def b_minus : Stm := (sRet (eA m_plus (aCons (eVar 0) (aCons (eA dTup (aCons (e1 dNeg (e2 dIx (eVar 1) (eC (.int 0)))) (aCons (e2 dIx (eVar 1) (eC (.int 1))) aNil))) aNil))))
noncomputable def m_minus : List D → M D := runFn 2 2 b_minus
noncomputable def b_is_exact : Stm := (sRet (eAnd (e1 (dIs [] sameC [(.inl "tuple")]) (eVar 0)) (eAnd (eA m_is_fraction (aCons (eVar 0) aNil)) (e2 (dEq false) (eA m_exact (aCons (eVar 0) aNil)) (eVar 0)))))
noncomputable def m_is_exact : List D → M D := runFn 1 1 b_is_exact
noncomputable def b_is_less : Stm := (sRet (e2 dLt (e2 dMul (e2 dIx (eVar 0) (eC (.int 0))) (e2 dIx (eVar 1) (eC (.int 1)))) (e2 dMul (e2 dIx (eVar 1) (eC (.int 0))) (e2 dIx (eVar 0) (eC (.int 1))))))
noncomputable def m_is_less : List D → M D := runFn 2 2 b_is_less
noncomputable def b_total_of : Stm := (sSeq (sAsg (eA dTup (aCons (eC (.int 0)) (aCons (eC (.int 1)) aNil))) (gN 1)) (sSeq (sFor (iSeq (eVar 0)) (gN 2) (sAsg (eA m_plus (aCons (eVar 1) (aCons (eVar 2) aNil))) (gN 1))) (sRet (eVar 1))))
noncomputable def m_total_of : List D → M D := runFn 1 3 b_total_of
noncomputable def b_largest : Stm := (sSeq (sAsg (e2 dIx (eVar 0) (eC (.int 0))) (gN 1)) (sSeq (sFor (iSeq (eVar 0)) (gN 2) (sIf (tOf (eA m_is_less (aCons (eVar 1) (aCons (eVar 2) aNil)))) (sAsg (eVar 2) (gN 1)) sNext)) (sRet (eVar 1))))
noncomputable def m_largest : List D → M D := runFn 1 3 b_largest
end PM
end
section
set_option Elab.async false
set_option linter.all false
set_option maxRecDepth 100000
namespace PM
open PySem L2
noncomputable def b_is_round : Stm := (sSeq (sIf (tOf (e2 (dIn false) (eVar 0) (eA dTup (aCons (eA dTup (aCons (eC (.str "right")) aNil)) (aCons (eA dTup (aCons (eC (.str "left")) aNil)) aNil))))) (sRet (eC (.bl true))) sNext) (sSeq (sIf (tOrP (tNotP (tOf (e1 (dIs [] sameC [(.inl "tuple")]) (eVar 0)))) (tOrP (tOf (e2 (dEq true) (eA (d1 dLen) (aCons (eVar 0) aNil)) (eC (.int 3)))) (tOf (e2 (dEq true) (e2 dIx (eVar 0) (eC (.int 0))) (eC (.str "every")))))) (sRet (eC (.bl false))) sNext) (sSeq (sAsg (eSl (eVar 0) (oSome (eC (.int 1))) oNone) (gT 2 (gC (gN 1) (gC (gN 2) gN0)))) (sRet (eAnd (eA m_is_integer (aCons (eVar 1) aNil)) (eAnd (eA m_is_integer (aCons (eVar 2) aNil)) (eAnd (eChain dLe dLe (eC (.int 2)) (eVar 1) (eC (.int 4))) (eChain dLe dLt (eC (.int 0)) (eVar 2) (eVar 1)))))))))
noncomputable def m_is_round : List D → M D := runFn 1 3 b_is_round
noncomputable def b_check_rounds : Stm := (sSeq (sIf (tOrP (tNotP (tOf (e1 (dIs [] sameC [(.inl "list"), (.inl "tuple")]) (eVar 0)))) (tOf (e2 dGt (eA (d1 dLen) (aCons (eVar 0) aNil)) (eC (.int 12))))) (sRaise1 "BadProgram" "place" (eC .non)) sNext) (sFor (iNum (eVar 0)) (gT 2 (gC (gN 1) (gC (gN 2) gN0))) (sIf (tNotP (tOf (eA m_is_round (aCons (eVar 2) aNil)))) (sRaise1 "BadProgram" "place" (eVar 1)) sNext)))
noncomputable def m_check_rounds : List D → M D := runFn 1 3 b_check_rounds
noncomputable def b_Program___init__ : Stm := (sSeq (sDrop (eA m_check_rounds (aCons (eVar 1) aNil))) (sFldP ["Program"] "rounds" (eA (d1 dTuple) (aCons (eVar 1) aNil)) (eVar 0)))
noncomputable def m_Program___init__ : List D → M D := runFn 2 2 b_Program___init__
noncomputable def b_Program___len__ : Stm := (sRet (eA (d1 dLen) (aCons (e1 (dFldC ["Program"] "rounds") (eVar 0)) aNil)))
noncomputable def m_Program___len__ : List D → M D := runFn 1 1 b_Program___len__
noncomputable def b_Program___eq__ : Stm := (sRet (eAnd (e1 (dIs ["Program"] sameC [(.inr "Program")]) (eVar 1)) (e2 (dEq false) (e1 (dFldC ["Program"] "rounds") (eVar 0)) (e1 (dFldC ["Program"] "rounds") (eVar 1)))))
noncomputable def m_Program___eq__ : List D → M D := runFn 2 2 b_Program___eq__
noncomputable def b_Program___add__ : Stm := (sSeq (sIf (tNotP (tOf (e1 (dIs ["Program"] sameC [(.inr "Program")]) (eVar 1)))) sNo sNext) (sRet (eA (mkObj false "Program" m_Program___init__) (aCons (e2 dAdd (e1 (dFldC ["Program"] "rounds") (eVar 0)) (e1 (dFldC ["Program"] "rounds") (eVar 1))) aNil))))
noncomputable def m_Program___add__ : List D → M D := runFn 2 2 b_Program___add__
noncomputable def b_check_many : Stm := (sIf (tOrP (tNotP (tOf (eA m_is_integer (aCons (eVar 0) aNil)))) (tNotP (tOf (eChain dLe dLe (eC (.int 1)) (eVar 0) (eC (.int 400)))))) (sRaise0 "BadStart") sNext)
noncomputable def m_check_many : List D → M D := runFn 1 1 b_check_many
noncomputable def b_openings : Stm := (sSeq (sAsg (eA dNew aNil) (gN 2)) (sSeq (sFor (iSeq (eVar 0)) (gN 3) (sIf (tOf (e2 (dEq false) (e2 dIx (eVar 3) (eC (.int 0))) (eC (.str "right")))) (sDrop (eBM dExtend (eVar 2) (aCons (e2 dRange (eC (.int 1)) (eVar 1)) aNil))) (sIf (tOf (e2 (dEq false) (e2 dIx (eVar 3) (eC (.int 0))) (eC (.str "left")))) (sDrop (eBM dExtend (eVar 2) (aCons (eA dRangeB (aCons (e2 dSub (eVar 1) (eC (.int 1))) (aCons (eC (.int 0)) (aCons (e1 dNeg (eC (.int 1))) aNil)))) aNil))) (sDrop (eBM dExtend (eVar 2) (aCons (eLc false (iR2 (aCons (eC (.int 1)) (aCons (eVar 1) aNil))) [4] (gN 4) (tOf (e2 (dEq false) (e2 dMod (eVar 4) (e2 dIx (eVar 3) (eC (.int 1)))) (e2 dIx (eVar 3) (eC (.int 2))))) (eVar 4)) aNil)))))) (sSeq (sFrz 2) (sRet (eVar 2)))))
noncomputable def m_openings : List D → M D := runFn 2 5 b_openings
noncomputable def b_Program_order : Stm := (sSeq (sDrop (eA m_check_many (aCons (eVar 1) aNil))) (sRet (eA m_openings (aCons (e1 (dFldC ["Program"] "rounds") (eVar 0)) (aCons (eVar 1) aNil)))))
noncomputable def m_Program_order : List D → M D := runFn 2 2 b_Program_order
noncomputable def b_check_told : Stm := (sSeq (sIf (tOrP (tNotP (tOf (e1 (dIs [] sameC [(.inl "list"), (.inl "tuple")]) (eVar 0)))) (tNotP (tOf (eChain dLe dLe (eC (.int 1)) (eA (d1 dLen) (aCons (eVar 0) aNil)) (eC (.int 400)))))) (sRaise0 "BadStart") sNext) (sFor (iSeq (eVar 0)) (gN 1) (sIf (tNotP (tOf (eA m_is_fraction (aCons (eVar 1) aNil)))) (sRaise0 "BadStart") sNext)))
noncomputable def m_check_told : List D → M D := runFn 1 2 b_check_told
noncomputable def b_evened : Stm := (sSeq (sAsg (eA (d1 dListC) (aCons (eVar 1) aNil)) (gN 2)) (sSeq (sFor (iSeq (eA m_openings (aCons (eVar 0) (aCons (eA (d1 dLen) (aCons (eVar 2) aNil)) aNil)))) (gN 3) (sSet2 (e2 dShr (e2 dAdd (e2 dIx (eVar 2) (e2 dSub (eVar 3) (eC (.int 1)))) (e2 dIx (eVar 2) (eVar 3))) (eC (.int 1))) (eVar 2) (e2 dSub (eVar 3) (eC (.int 1))) (eVar 2) (eVar 3))) (sSeq (sFrz 2) (sRet (eVar 2)))))
noncomputable def m_evened : List D → M D := runFn 2 4 b_evened
noncomputable def b_halvings : Stm := (sRet (eA (d1 dSum) (aCons (eLc false (iSeq (eVar 0)) [2] (gN 2) tYesP (eIf (tOf (e2 (dIn false) (e2 dIx (eVar 2) (eC (.int 0))) (eA dTup (aCons (eC (.str "right")) (aCons (eC (.str "left")) aNil))))) (e2 dSub (eVar 1) (eC (.int 1))) (eC (.int 1)))) aNil)))
noncomputable def m_halvings : List D → M D := runFn 2 3 b_halvings
noncomputable def b_Program_done : Stm := (sSeq (sDrop (eA m_check_told (aCons (eVar 1) aNil))) (sSeq (sAsg (eLc false (iSeq (eVar 1)) [6] (gN 6) tYesP (eA m_exact (aCons (eVar 6) aNil))) (gN 2)) (sSeq (sAsg (eA m_common_bottom (aCons (eVar 2) aNil)) (gN 3)) (sSeq (sAsg (eA m_halvings (aCons (e1 (dFldC ["Program"] "rounds") (eVar 0)) (aCons (eA (d1 dLen) (aCons (eVar 2) aNil)) aNil))) (gN 4)) (sSeq (sAsg (eLc false (iSeq (eVar 2)) [7, 8] (gT 2 (gC (gN 7) (gC (gN 8) gN0))) tYesP (e2 dShl (e2 dMul (eVar 7) (e2 dDiv (eVar 3) (eVar 8))) (eVar 4))) (gN 5)) (sRet (eA (d1 dTuple) (aCons (eLc false (iSeq (eA m_evened (aCons (e1 (dFldC ["Program"] "rounds") (eVar 0)) (aCons (eVar 5) aNil)))) [7] (gN 7) tYesP (eA m_reduced (aCons (eVar 7) (aCons (e2 dShl (eVar 3) (eVar 4)) aNil)))) aNil))))))))
noncomputable def m_Program_done : List D → M D := runFn 2 9 b_Program_done
noncomputable def b_check_program : Stm := (sIf (tNotP (tOf (e1 (dIs ["Program"] sameC [(.inr "Program")]) (eVar 0)))) (sRaise1 "BadProgram" "place" (eC .non)) sNext)
noncomputable def m_check_program : List D → M D := runFn 1 1 b_check_program
noncomputable def b_figures : Stm := (sRet (e2 dBand (e2 dShr (eVar 0) (e2 dMul (eVar 1) (eVar 2))) (e2 dSub (e2 dShl (eC (.int 1)) (eVar 2)) (eC (.int 1)))))
noncomputable def m_figures : List D → M D := runFn 3 3 b_figures
noncomputable def b_first_apart : Stm := (sSeq (sFor (iR1 (aCons (eC (.int 16)) aNil)) (gN 4) (sFor (iR1 (aCons (eA (d1 dLen) (aCons (eVar 0) aNil)) aNil)) (gN 5) (sIf (tOf (e2 (dEq true) (eA m_figures (aCons (e2 dIx (eVar 0) (eVar 5)) (aCons (eVar 4) (aCons (eVar 3) aNil)))) (eA m_figures (aCons (e2 dIx (eVar 1) (eVar 5)) (aCons (eVar 4) (aCons (eVar 3) aNil)))))) (sRet (eA dTup (aCons (e2 dAdd (eVar 2) (eVar 4)) (aCons (eVar 5) aNil)))) sNext))) (sRet (eC .non)))
noncomputable def m_first_apart : List D → M D := runFn 4 6 b_first_apart
end PM
end
section
set_option Elab.async false
set_option linter.all false
set_option maxRecDepth 100000
namespace PM
open PySem L2
noncomputable def b_SameAlways___init__ : Stm := (sFldP ["SameAlways"] "most" (eVar 1) (eVar 0))
noncomputable def m_SameAlways___init__ : List D → M D := runFn 2 2 b_SameAlways___init__
noncomputable def b_SameAlways___eq__ : Stm := (sRet (eAnd (e1 (dIs ["SameAlways", "FirstUnlike"] sameC [(.inr "SameAlways")]) (eVar 1)) (e2 (dEq false) (e1 (dFldC ["SameAlways"] "most") (eVar 0)) (e1 (dFldC ["SameAlways"] "most") (eVar 1)))))
noncomputable def m_SameAlways___eq__ : List D → M D := runFn 2 2 b_SameAlways___eq__
noncomputable def b_SameAlways___bool__ : Stm := (sRet (eC (.bl true)))
noncomputable def m_SameAlways___bool__ : List D → M D := runFn 1 1 b_SameAlways___bool__
noncomputable def b_FirstUnlike___init__ : Stm := (sSeq (sFldP ["FirstUnlike"] "many" (eVar 1) (eVar 0)) (sSeq (sFldP ["FirstUnlike"] "basin" (eVar 2) (eVar 0)) (sFldP ["FirstUnlike"] "place" (eVar 3) (eVar 0))))
noncomputable def m_FirstUnlike___init__ : List D → M D := runFn 4 4 b_FirstUnlike___init__
noncomputable def b_are_mixed : Stm := (sRet (eAnd (e2 (dIn false) (eA dTup (aCons (eC (.str "right")) aNil)) (eVar 0)) (e2 (dIn false) (eA dTup (aCons (eC (.str "left")) aNil)) (eVar 0))))
noncomputable def m_are_mixed : List D → M D := runFn 1 1 b_are_mixed
noncomputable def b_check_unmixed : Stm := (sIf (tOf (eA m_are_mixed (aCons (eVar 0) aNil))) (sRaise0 "Mixed") sNext)
noncomputable def m_check_unmixed : List D → M D := runFn 1 1 b_check_unmixed
noncomputable def b_check_pair : Stm := (sSeq (sDrop (eA m_check_program (aCons (eVar 0) aNil))) (sSeq (sDrop (eA m_check_program (aCons (eVar 1) aNil))) (sDrop (eA m_check_unmixed (aCons (e2 dAdd (e1 (dFldC ["Program"] "rounds") (eVar 0)) (e1 (dFldC ["Program"] "rounds") (eVar 1))) aNil)))))
noncomputable def m_check_pair : List D → M D := runFn 2 2 b_check_pair
noncomputable def b_common_step : Stm := (sSeq (sAsg (eC (.int 1)) (gN 2)) (sSeq (sFor (iSeq (e2 dAdd (e1 (dFldC ["Program"] "rounds") (eVar 0)) (e1 (dFldC ["Program"] "rounds") (eVar 1)))) (gN 3) (sIf (tOf (e2 (dEq false) (e2 dIx (eVar 3) (eC (.int 0))) (eC (.str "every")))) (sAsg (eA (d2 dLcm) (aCons (eVar 2) (aCons (e2 dIx (eVar 3) (eC (.int 1))) aNil))) (gN 2)) sNext)) (sRet (eVar 2))))
noncomputable def m_common_step : List D → M D := runFn 2 4 b_common_step
noncomputable def b_enough : Stm := (sSeq (sAsg (eA (d2 dMax2) (aCons (eA (dLenO "Program" m_Program___len__) (aCons (eVar 0) aNil)) (aCons (eA (dLenO "Program" m_Program___len__) (aCons (eVar 1) aNil)) aNil))) (gN 2)) (sRet (e2 dAdd (e2 dAdd (e2 dMul (eA m_common_step (aCons (eVar 0) (aCons (eVar 1) aNil))) (e2 dAdd (e2 dAdd (e2 dAdd (eA (dLenO "Program" m_Program___len__) (aCons (eVar 0) aNil)) (eA (dLenO "Program" m_Program___len__) (aCons (eVar 1) aNil))) (eVar 2)) (eC (.int 1)))) (eVar 2)) (eC (.int 1)))))
noncomputable def m_enough : List D → M D := runFn 2 3 b_enough
noncomputable def b_FirstUnlike___eq__ : Stm := (sRet (eAnd (e1 (dIs ["SameAlways", "FirstUnlike"] sameC [(.inr "FirstUnlike")]) (eVar 1)) (eAnd (e2 (dEq false) (e1 (dFldC ["FirstUnlike"] "many") (eVar 0)) (e1 (dFldC ["FirstUnlike"] "many") (eVar 1))) (eAnd (e2 (dEq false) (e1 (dFldC ["FirstUnlike"] "basin") (eVar 0)) (e1 (dFldC ["FirstUnlike"] "basin") (eVar 1))) (e2 (dEq false) (e1 (dFldC ["FirstUnlike"] "place") (eVar 0)) (e1 (dFldC ["FirstUnlike"] "place") (eVar 1)))))))
noncomputable def m_FirstUnlike___eq__ : List D → M D := runFn 2 2 b_FirstUnlike___eq__
noncomputable def b_FirstUnlike___bool__ : Stm := (sRet (eC (.bl false)))
noncomputable def m_FirstUnlike___bool__ : List D → M D := runFn 1 1 b_FirstUnlike___bool__
noncomputable def b_Later___init__ : Stm := (sSeq (sFldP ["Later"] "step" (eVar 1) (eVar 0)) (sFldP ["Later"] "rests" (eA (d1 dList) (aCons (eVar 2) aNil)) (eVar 0)))
noncomputable def m_Later___init__ : List D → M D := runFn 3 3 b_Later___init__
noncomputable def b_Later___eq__ : Stm := (sRet (eAnd (e1 (dIs ["Later"] sameC [(.inr "Later")]) (eVar 1)) (eAnd (e2 (dEq false) (e1 (dFldC ["Later"] "step") (eVar 0)) (e1 (dFldC ["Later"] "step") (eVar 1))) (e2 (dEq false) (e1 (dFldC ["Later"] "rests") (eVar 0)) (e1 (dFldC ["Later"] "rests") (eVar 1))))))
noncomputable def m_Later___eq__ : List D → M D := runFn 2 2 b_Later___eq__
end PM
end
section
set_option Elab.async false
set_option linter.all false
set_option maxRecDepth 100000
namespace PM
open PySem L2
noncomputable def b_check_areas : Stm := (sSeq (sIf (tOrP (tNotP (tOf (e1 (dIs [] sameC [(.inl "tuple")]) (eVar 0)))) (tNotP (tOf (eChain dLe dLe (eC (.int 1)) (eA (d1 dLen) (aCons (eVar 0) aNil)) (eC (.int 24)))))) (sRaise0 "BadRow") sNext) (sFor (iSeq (eVar 0)) (gN 1) (sIf (tOrP (tNotP (tOf (eA m_is_integer (aCons (eVar 1) aNil)))) (tNotP (tOf (eChain dLe dLe (eC (.int 1)) (eVar 1) (eC (.int 1000)))))) (sRaise0 "BadRow") sNext)))
noncomputable def m_check_areas : List D → M D := runFn 1 2 b_check_areas
noncomputable def b_check_locks : Stm := (sSeq (sIf (tNotP (tOf (e1 (dIs [] sameC [(.inl "list"), (.inl "tuple")]) (eVar 0)))) (sRaise0 "BadRow") sNext) (sFor (iSeq (eVar 0)) (gN 2) (sSeq (sIf (tNotP (tOf (eA m_is_integer (aCons (eVar 2) aNil)))) (sRaise1 "BadWeir" "number" (eC .non)) sNext) (sIf (tNotP (tOf (eChain dLt dLt (eC (.int 0)) (eVar 2) (eVar 1)))) (sRaise1 "BadWeir" "number" (eVar 2)) sNext))))
noncomputable def m_check_locks : List D → M D := runFn 2 3 b_check_locks
noncomputable def b_check_volumes : Stm := (sSeq (sIf (tOrP (tNotP (tOf (e1 (dIs [] sameC [(.inl "tuple")]) (eVar 0)))) (tOf (e2 (dEq true) (eA (d1 dLen) (aCons (eVar 0) aNil)) (eVar 1)))) (sRaise0 "BadRow") sNext) (sFor (iSeq (eVar 0)) (gN 2) (sIf (tNotP (tOf (eA m_is_amount (aCons (eVar 2) aNil)))) (sRaise0 "BadRow") sNext)))
noncomputable def m_check_volumes : List D → M D := runFn 2 3 b_check_volumes
noncomputable def b_Row___init__ : Stm := (sSeq (sDrop (eA m_check_areas (aCons (eVar 1) aNil))) (sSeq (sDrop (eA m_check_volumes (aCons (eVar 2) (aCons (eA (d1 dLen) (aCons (eVar 1) aNil)) aNil)))) (sSeq (sDrop (eA m_check_locks (aCons (eVar 3) (aCons (eA (d1 dLen) (aCons (eVar 1) aNil)) aNil)))) (sSeq (sFldP ["Row"] "areas" (eA (d1 dTuple) (aCons (eVar 1) aNil)) (eVar 0)) (sSeq (sFldP ["Row"] "volumes" (eA (d1 dTuple) (aCons (eLc false (iSeq (eVar 2)) [4] (gN 4) tYesP (eA m_exact (aCons (eVar 4) aNil))) aNil)) (eVar 0)) (sFldP ["Row"] "locks" (eA (d1 dTuple) (aCons (e1 dSortSetW (eVar 3)) aNil)) (eVar 0)))))))
noncomputable def m_Row___init__ : List D → M D := runFn 4 5 b_Row___init__
noncomputable def b_Row___len__ : Stm := (sRet (eA (d1 dLen) (aCons (e1 (dFldC ["Row"] "areas") (eVar 0)) aNil)))
noncomputable def m_Row___len__ : List D → M D := runFn 1 1 b_Row___len__
noncomputable def b_Row___getitem__ : Stm := (sRet (e2 dIx (e1 (dFldC ["Row"] "volumes") (eVar 0)) (eVar 1)))
noncomputable def m_Row___getitem__ : List D → M D := runFn 2 2 b_Row___getitem__
noncomputable def b_Row___contains__ : Stm := (sRet (eAnd (eA m_is_integer (aCons (eVar 1) aNil)) (eAnd (eChain dLt dLt (eC (.int 0)) (eVar 1) (eA (d1 dLen) (aCons (e1 (dFldC ["Row"] "areas") (eVar 0)) aNil))) (e2 dNotInF (eVar 1) (e1 (dFldC ["Row"] "locks") (eVar 0))))))
noncomputable def m_Row___contains__ : List D → M D := runFn 2 2 b_Row___contains__
noncomputable def b_Row___eq__ : Stm := (sRet (eAnd (e1 (dIs ["Row"] sameC [(.inr "Row")]) (eVar 1)) (eAnd (e2 (dEq false) (e1 (dFldC ["Row"] "areas") (eVar 0)) (e1 (dFldC ["Row"] "areas") (eVar 1))) (eAnd (e2 (dEq false) (e1 (dFldC ["Row"] "volumes") (eVar 0)) (e1 (dFldC ["Row"] "volumes") (eVar 1))) (e2 (dEq false) (e1 (dFldC ["Row"] "locks") (eVar 0)) (e1 (dFldC ["Row"] "locks") (eVar 1)))))))
noncomputable def m_Row___eq__ : List D → M D := runFn 2 2 b_Row___eq__
noncomputable def b_Row_weirs : Stm := (sRet (eLc false (iR2 (aCons (eC (.int 1)) (aCons (eA (d1 dLen) (aCons (e1 (dFldC ["Row"] "areas") (eVar 0)) aNil)) aNil))) [1] (gN 1) (tOf (e2 dNotInF (eVar 1) (e1 (dFldC ["Row"] "locks") (eVar 0)))) (eVar 1)))
noncomputable def m_Row_weirs : List D → M D := runFn 1 2 b_Row_weirs
noncomputable def b_Row_heights : Stm := (sRet (eLc false (iZip2 (aCons (e1 (dFldC ["Row"] "volumes") (eVar 0)) (aCons (e1 (dFldC ["Row"] "areas") (eVar 0)) aNil))) [1, 2] (gT 2 (gC (gN 1) (gC (gN 2) gN0))) tYesP (eA m_times (aCons (eVar 1) (aCons (eA dTup (aCons (eC (.int 1)) (aCons (eVar 2) aNil))) aNil)))))
noncomputable def m_Row_heights : List D → M D := runFn 1 3 b_Row_heights
noncomputable def b_Row_sums : Stm := (sSeq (sAsg (eA dNew (aCons (eA dTup (aCons (eC (.int 0)) (aCons (eC (.int 1)) aNil))) aNil)) (gN 1)) (sSeq (sFor (iSeq (e1 (dFldC ["Row"] "volumes") (eVar 0))) (gN 2) (sDrop (eBM dAppend (eVar 1) (aCons (eA m_plus (aCons (e2 dIx (eVar 1) (e1 dNeg (eC (.int 1)))) (aCons (eVar 2) aNil))) aNil)))) (sSeq (sFrz 1) (sRet (eVar 1)))))
noncomputable def m_Row_sums : List D → M D := runFn 1 3 b_Row_sums
noncomputable def b_Row_reaches : Stm := (sSeq (sAsg (eA dNew (aCons (eC (.int 0)) aNil)) (gN 1)) (sSeq (sFor (iSeq (e1 (dFldC ["Row"] "areas") (eVar 0))) (gN 2) (sDrop (eBM dAppend (eVar 1) (aCons (e2 dAdd (e2 dIx (eVar 1) (e1 dNeg (eC (.int 1)))) (eVar 2)) aNil)))) (sSeq (sFrz 1) (sRet (eVar 1)))))
noncomputable def m_Row_reaches : List D → M D := runFn 1 3 b_Row_reaches
noncomputable def b_with_volumes : Stm := (sSeq (sAsg (eA (eMakeH true "Row" m_Row___init__ [.tup []]) (aCons (eA dTup (aCons (eC (.int 1)) aNil)) (aCons (eA dTup (aCons (eC (.int 0)) aNil)) aNil))) (gN 2)) (sSeq (sFldP ["Row"] "areas" (e1 (dFldC ["Row"] "areas") (eVar 0)) (eVar 2)) (sSeq (sFldP ["Row"] "volumes" (eA (d1 dTuple) (aCons (eVar 1) aNil)) (eVar 2)) (sSeq (sFldP ["Row"] "locks" (e1 (dFldC ["Row"] "locks") (eVar 0)) (eVar 2)) (sSeq (sFrz 2) (sRet (eVar 2)))))))
noncomputable def m_with_volumes : List D → M D := runFn 2 3 b_with_volumes
noncomputable def b_Row_opened : Stm := (sSeq (sIf (tOf (e2 (dInO true "Row" m_Row___contains__) (eVar 1) (eVar 0))) (sRaise1 "BadWeir" "number" (eIf (tOf (eA m_is_integer (aCons (eVar 1) aNil))) (eVar 1) (eC .non))) sNext) (sSeq (sPar 3 4 (aCons (e2 dIx (e1 (dFldC ["Row"] "areas") (eVar 0)) (e2 dSub (eVar 1) (eC (.int 1)))) (aCons (e2 dIx (e1 (dFldC ["Row"] "areas") (eVar 0)) (eVar 1)) aNil))) (sSeq (sPar 5 6 (aCons (e2 dIx (e1 (dFldC ["Row"] "volumes") (eVar 0)) (e2 dSub (eVar 1) (eC (.int 1)))) (aCons (e2 dIx (e1 (dFldC ["Row"] "volumes") (eVar 0)) (eVar 1)) aNil))) (sSeq (sAsg (eA m_times (aCons (eA m_plus (aCons (eVar 5) (aCons (eVar 6) aNil))) (aCons (eA dTup (aCons (eC (.int 1)) (aCons (e2 dAdd (eVar 3) (eVar 4)) aNil))) aNil))) (gN 7)) (sSeq (sAsg (eA dTup (aCons (eA m_times (aCons (eVar 7) (aCons (eA dTup (aCons (eVar 3) (aCons (eC (.int 1)) aNil))) aNil))) (aCons (eA m_times (aCons (eVar 7) (aCons (eA dTup (aCons (eVar 4) (aCons (eC (.int 1)) aNil))) aNil))) aNil))) (gN 8)) (sSeq (sAsg (eA m_exact (aCons (eVar 2) aNil)) (gN 9)) (sSeq (sIf (tOf (e2 (dEq true) (eVar 9) (eA dTup (aCons (eC (.int 1)) (aCons (eC (.int 1)) aNil))))) (sSeq (sAsg (eA m_times (aCons (eA m_minus (aCons (e2 dIx (eVar 8) (eC (.int 0))) (aCons (eVar 5) aNil))) (aCons (eVar 9) aNil))) (gN 10)) (sAsg (eA dTup (aCons (eA m_plus (aCons (eVar 5) (aCons (eVar 10) aNil))) (aCons (eA m_minus (aCons (eVar 6) (aCons (eVar 10) aNil))) aNil))) (gN 8))) sNext) (sRet (eA m_with_volumes (aCons (eVar 0) (aCons (e2 dAdd (e2 dAdd (eSl (e1 (dFldC ["Row"] "volumes") (eVar 0)) oNone (oSome (e2 dSub (eVar 1) (eC (.int 1))))) (eVar 8)) (eSl (e1 (dFldC ["Row"] "volumes") (eVar 0)) (oSome (e2 dAdd (eVar 1) (eC (.int 1)))) oNone)) aNil)))))))))))
noncomputable def m_Row_opened : List D → M D := runFn 3 11 b_Row_opened
noncomputable def b_check_row : Stm := (sIf (tNotP (tOf (e1 (dIs ["Row"] sameC [(.inr "Row")]) (eVar 0)))) (sRaise0 "BadRow") sNext)
noncomputable def m_check_row : List D → M D := runFn 1 1 b_check_row
noncomputable def b_line_of : Stm := (sRet (eA (eMakeH true "Line" m_Line___init__ [.tup []]) (aCons (e1 (dFldC ["Row"] "areas") (eVar 0)) (aCons (eMeth0 "Row" "sums" m_Row_sums (eVar 0)) aNil))))
noncomputable def m_line_of : List D → M D := runFn 1 1 b_line_of
noncomputable def b_check_place : Stm := (sIf (tOrP (tNotP (tOf (eA m_is_integer (aCons (eVar 1) aNil)))) (tNotP (tOf (eChain dLe dLe (eC (.int 0)) (eVar 1) (eA (dLenO "Row" m_Row___len__) (aCons (eVar 0) aNil)))))) (sRaise0 "BadNumber") sNext)
noncomputable def m_check_place : List D → M D := runFn 2 2 b_check_place
noncomputable def b_check_number : Stm := (sIf (tNotP (tOf (eA m_is_fraction (aCons (eVar 0) aNil)))) (sRaise0 "BadNumber") sNext)
noncomputable def m_check_number : List D → M D := runFn 1 1 b_check_number
noncomputable def b_check_order : Stm := (sSeq (sIf (tOrP (tNotP (tOf (e1 (dIs [] sameC [(.inl "list"), (.inl "tuple")]) (eVar 1)))) (tOf (e2 dGt (eA (d1 dLen) (aCons (eVar 1) aNil)) (eC (.int 20000))))) (sRaise1 "BadOrder" "place" (eC .non)) sNext) (sSeq (sFor (iNum (eVar 1)) (gT 2 (gC (gN 2) (gC (gN 3) gN0))) (sIf (tOf (e2 (dInO true "Row" m_Row___contains__) (eVar 3) (eVar 0))) (sRaise1 "BadOrder" "place" (eVar 2)) sNext)) (sRet (eA (d1 dList) (aCons (eVar 1) aNil)))))
noncomputable def m_check_order : List D → M D := runFn 2 4 b_check_order
noncomputable def b_behind : Stm := (sSeq (sDrop (eA m_check_row (aCons (eVar 0) aNil))) (sSeq (sAsg (eA m_check_order (aCons (eVar 0) (aCons (eVar 1) aNil))) (gN 2)) (sSeq (sAsg (eA m_line_of (aCons (eVar 0) aNil)) (gN 3)) (sSeq (sFor (iSeq (eVar 2)) (gN 4) (sDrop (eMeth "Line" "even" m_Line_even (eVar 3) (aCons (eVar 4) aNil)))) (sRet (eA m_with_volumes (aCons (eVar 0) (aCons (eMeth0 "Line" "water" m_Line_water (eVar 3)) aNil))))))))
noncomputable def m_behind : List D → M D := runFn 2 5 b_behind
noncomputable def b_check_width : Stm := (sIf (tOrP (tNotP (tOf (eA m_is_fraction (aCons (eVar 0) aNil)))) (tNotP (tOf (eA m_is_less (aCons (eA dTup (aCons (eC (.int 0)) (aCons (eC (.int 1)) aNil))) (aCons (eA m_exact (aCons (eVar 0) aNil)) aNil)))))) (sRaise0 "BadNumber") sNext)
noncomputable def m_check_width : List D → M D := runFn 1 1 b_check_width
end PM
end
section
set_option Elab.async false
set_option linter.all false
set_option maxRecDepth 100000
namespace PM
open PySem L2
noncomputable def b_off_at : Stm := (sSeq (sAsg (eA m_times (aCons (e2 dIx (eVar 1) (e2 dSub (eVar 2) (eC (.int 1)))) (aCons (eA dTup (aCons (eC (.int 1)) (aCons (e2 dIx (eVar 0) (e2 dSub (eVar 2) (eC (.int 1)))) aNil))) aNil))) (gN 3)) (sSeq (sAsg (eA m_minus (aCons (eA m_times (aCons (e2 dIx (eVar 1) (eVar 2)) (aCons (eA dTup (aCons (eC (.int 1)) (aCons (e2 dIx (eVar 0) (eVar 2)) aNil))) aNil))) (aCons (eVar 3) aNil))) (gT 2 (gC (gN 4) (gC (gN 5) gN0)))) (sRet (eA dTup (aCons (eA (d1 dAbs) (aCons (eVar 4) aNil)) (aCons (eVar 5) aNil))))))
noncomputable def m_off_at : List D → M D := runFn 3 6 b_off_at
noncomputable def b_openings_from : Stm := (sSeq (sAsg (eA m_with_volumes (aCons (eVar 0) (aCons (eVar 1) aNil))) (gN 3)) (sSeq (sAsg (eLc false (iSeq (eMeth0 "Row" "weirs" m_Row_weirs (eVar 0))) [5] (gN 5) (tNotP (tOf (eA m_is_less (aCons (eA m_off_at (aCons (e1 (dFldC ["Row"] "areas") (eVar 0)) (aCons (eVar 1) (aCons (eVar 5) aNil)))) (aCons (eVar 2) aNil))))) (eVar 5)) (gN 4)) (sRet (eLc false (iSeq (eVar 4)) [5] (gN 5) tYesP (eA dTup (aCons (eVar 5) (aCons (e1 (dFldC ["Row", "Cycle"] "volumes") (eMethH "Row" "opened" m_Row_opened [.tup [.int 1, .int 1]] (eVar 3) (aCons (eVar 5) aNil))) aNil)))))))
noncomputable def m_openings_from : List D → M D := runFn 3 6 b_openings_from
noncomputable def b_weight : Stm := (sSeq (sDrop (eA m_check_row (aCons (eVar 0) aNil))) (sSeq (sAsg (eA dTup (aCons (eC (.int 0)) (aCons (eC (.int 1)) aNil))) (gN 1)) (sSeq (sFor (iZip2 (aCons (e1 (dFldC ["Row"] "volumes") (eVar 0)) (aCons (e1 (dFldC ["Row"] "areas") (eVar 0)) aNil))) (gT 2 (gC (gN 2) (gC (gN 3) gN0))) (sAsg (eA m_plus (aCons (eVar 1) (aCons (eA m_times (aCons (eA m_times (aCons (eVar 2) (aCons (eVar 2) aNil))) (aCons (eA dTup (aCons (eC (.int 1)) (aCons (eVar 3) aNil))) aNil))) aNil))) (gN 1))) (sRet (eVar 1)))))
noncomputable def m_weight : List D → M D := runFn 1 4 b_weight
noncomputable def b_Longest___eq__ : Stm := (sRet (eAnd (e1 (dIs ["Longest"] sameC [(.inr "Longest")]) (eVar 1)) (eAnd (e2 (dEq false) (e1 (dFldC ["Longest"] "order") (eVar 0)) (e1 (dFldC ["Longest"] "order") (eVar 1))) (e2 (dEq false) (e1 (dFldC ["Longest"] "table") (eVar 0)) (e1 (dFldC ["Longest"] "table") (eVar 1))))))
noncomputable def m_Longest___eq__ : List D → M D := runFn 2 2 b_Longest___eq__
noncomputable def b_Longest___bool__ : Stm := (sRet (eC (.bl true)))
noncomputable def m_Longest___bool__ : List D → M D := runFn 1 1 b_Longest___bool__
noncomputable def b_are_volumes : Stm := (sSeq (sIf (tOf (e2 (dEq true) (eA (d1 dLen) (aCons (eVar 1) aNil)) (eA (dLenO "Row" m_Row___len__) (aCons (eVar 0) aNil)))) (sRet (eC (.bl false))) sNext) (sRet (eA (d1 dAll) (aCons (eLc false (iSeq (eVar 1)) [2] (gN 2) tYesP (eAnd (eA m_is_exact (aCons (eVar 2) aNil)) (e2 dGe (e2 dIx (eVar 2) (eC (.int 0))) (eC (.int 0))))) aNil))))
noncomputable def m_are_volumes : List D → M D := runFn 2 3 b_are_volumes
noncomputable def b_bars : Stm := (sSeq (sIf (tOrP (tOf (e2 dLt (e2 dIx (eVar 0) (eVar 2)) (eC (.int 0)))) (tNotP (tOf (eA m_are_volumes (aCons (eVar 1) (aCons (eVar 2) aNil)))))) (sRet (eC (.bl false))) sNext) (sRet (eA (d1 dAll) (aCons (eLc false (iSeq (eA m_openings_from (aCons (eVar 1) (aCons (eVar 2) (aCons (eVar 3) aNil))))) [4, 5] (gT 2 (gC (gN 4) (gC (gN 5) gN0))) tYesP (eAnd (e2 (dIn false) (eVar 5) (eVar 0)) (e2 dLt (e2 dIx (eVar 0) (eVar 5)) (e2 dIx (eVar 0) (eVar 2))))) aNil))))
noncomputable def m_bars : List D → M D := runFn 4 6 b_bars
noncomputable def b_falls : Stm := (sSeq (sDrop (eA m_check_row (aCons (eVar 0) aNil))) (sSeq (sAsg (eA m_check_order (aCons (eVar 0) (aCons (eVar 1) aNil))) (gN 2)) (sSeq (sAsg (eA m_line_of (aCons (eVar 0) aNil)) (gN 3)) (sSeq (sAsg (eA dNew aNil) (gN 4)) (sSeq (sFor (iSeq (eVar 2)) (gN 5) (sSeq (sPar 6 7 (aCons (e2 dIx (e1 (dFldC ["Row"] "areas") (eVar 0)) (e2 dSub (eVar 5) (eC (.int 1)))) (aCons (e2 dIx (e1 (dFldC ["Row"] "areas") (eVar 0)) (eVar 5)) aNil))) (sSeq (sAsg (eA m_reduced (aCons (e2 dSub (e2 dMul (eMeth "Line" "inside" m_Line_inside (eVar 3) (aCons (eVar 5) aNil)) (eVar 6)) (e2 dMul (eMeth "Line" "inside" m_Line_inside (eVar 3) (aCons (e2 dSub (eVar 5) (eC (.int 1))) aNil)) (eVar 7))) (aCons (e1 (dFldC ["Line"] "bottom") (eVar 3)) aNil))) (gN 8)) (sSeq (sDrop (eBM dAppend (eVar 4) (aCons (eA m_times (aCons (eA m_times (aCons (eVar 8) (aCons (eVar 8) aNil))) (aCons (eA dTup (aCons (eC (.int 1)) (aCons (e2 dMul (e2 dMul (eVar 6) (eVar 7)) (e2 dAdd (eVar 6) (eVar 7))) aNil))) aNil))) aNil))) (sDrop (eMeth "Line" "even" m_Line_even (eVar 3) (aCons (eVar 5) aNil))))))) (sSeq (sFrz 4) (sRet (eVar 4))))))))
noncomputable def m_falls : List D → M D := runFn 2 9 b_falls
noncomputable def b_even_weight : Stm := (sSeq (sDrop (eA m_check_row (aCons (eVar 0) aNil))) (sSeq (sPar 1 2 (aCons (eMeth0 "Row" "sums" m_Row_sums (eVar 0)) (aCons (eMeth0 "Row" "reaches" m_Row_reaches (eVar 0)) aNil))) (sSeq (sAsg (eA dLst (aCons (eC (.int 0)) (aStar (e1 (dFldC ["Row"] "locks") (eVar 0)) (aCons (eA (dLenO "Row" m_Row___len__) (aCons (eVar 0) aNil)) aNil)))) (gN 3)) (sSeq (sAsg (eA dTup (aCons (eC (.int 0)) (aCons (eC (.int 1)) aNil))) (gN 4)) (sSeq (sFor (iZip2 (aCons (eVar 3) (aCons (eSl (eVar 3) (oSome (eC (.int 1))) oNone) aNil))) (gT 2 (gC (gN 5) (gC (gN 6) gN0))) (sSeq (sAsg (eA m_minus (aCons (e2 dIx (eVar 1) (eVar 6)) (aCons (e2 dIx (eVar 1) (eVar 5)) aNil))) (gN 7)) (sAsg (eA m_plus (aCons (eVar 4) (aCons (eA m_times (aCons (eA m_times (aCons (eVar 7) (aCons (eVar 7) aNil))) (aCons (eA dTup (aCons (eC (.int 1)) (aCons (e2 dSub (e2 dIx (eVar 2) (eVar 6)) (e2 dIx (eVar 2) (eVar 5))) aNil))) aNil))) aNil))) (gN 4)))) (sRet (eVar 4)))))))
noncomputable def m_even_weight : List D → M D := runFn 1 8 b_even_weight
noncomputable def b_difference : Stm := (sSeq (sDrop (eA m_check_row (aCons (eVar 0) aNil))) (sSeq (sIf (tOf (e2 (dInO true "Row" m_Row___contains__) (eVar 1) (eVar 0))) (sRaise1 "BadWeir" "number" (eIf (tOf (eA m_is_integer (aCons (eVar 1) aNil))) (eVar 1) (eC .non))) sNext) (sRet (eA m_off_at (aCons (e1 (dFldC ["Row"] "areas") (eVar 0)) (aCons (e1 (dFldC ["Row"] "volumes") (eVar 0)) (aCons (eVar 1) aNil)))))))
noncomputable def m_difference : List D → M D := runFn 2 2 b_difference
noncomputable def b_least_product : Stm := (sSeq (sAsg (eC .non) (gN 1)) (sSeq (sFor (iSeq (eMeth0 "Row" "weirs" m_Row_weirs (eVar 0))) (gN 2) (sSeq (sPar 3 4 (aCons (e2 dIx (e1 (dFldC ["Row"] "areas") (eVar 0)) (e2 dSub (eVar 2) (eC (.int 1)))) (aCons (e2 dIx (e1 (dFldC ["Row"] "areas") (eVar 0)) (eVar 2)) aNil))) (sSeq (sAsg (eA m_reduced (aCons (e2 dMul (eVar 3) (eVar 4)) (aCons (e2 dAdd (eVar 3) (eVar 4)) aNil))) (gN 5)) (sIf (tOrP (tOf (e2 (dIsN false) (eVar 1) (eC .non))) (tOf (eA m_is_less (aCons (eVar 5) (aCons (eVar 1) aNil))))) (sAsg (eVar 5) (gN 1)) sNext)))) (sRet (eVar 1))))
noncomputable def m_least_product : List D → M D := runFn 1 6 b_least_product
noncomputable def b_bar : Stm := (sSeq (sDrop (eA m_check_row (aCons (eVar 0) aNil))) (sSeq (sDrop (eA m_check_width (aCons (eVar 1) aNil))) (sSeq (sAsg (eA m_least_product (aCons (eVar 0) aNil)) (gN 2)) (sSeq (sIf (tOf (e2 (dIsN false) (eVar 2) (eC .non))) (sRet (eC (.int 0))) sNext) (sSeq (sAsg (eA m_minus (aCons (eA m_weight (aCons (eVar 0) aNil)) (aCons (eA m_even_weight (aCons (eVar 0) aNil)) aNil))) (gN 3)) (sSeq (sAsg (eA m_times (aCons (eVar 2) (aCons (eA m_times (aCons (eA m_exact (aCons (eVar 1) aNil)) (aCons (eA m_exact (aCons (eVar 1) aNil)) aNil))) aNil))) (gN 4)) (sRet (e2 dDiv (e2 dMul (e2 dIx (eVar 3) (eC (.int 0))) (e2 dIx (eVar 4) (eC (.int 1)))) (e2 dMul (e2 dIx (eVar 3) (eC (.int 1))) (e2 dIx (eVar 4) (eC (.int 0))))))))))))
noncomputable def m_bar : List D → M D := runFn 2 5 b_bar
end PM
end
section
set_option Elab.async false
set_option linter.all false
set_option maxRecDepth 100000
namespace PM
open PySem L2
noncomputable def b_Recurrence___init__ : Stm := (sSeq (sFldP ["Recurrence"] "factors" (eA (d1 dList) (aCons (eVar 1) aNil)) (eVar 0)) (sFldP ["Recurrence"] "firsts" (eA (d1 dList) (aCons (eVar 2) aNil)) (eVar 0)))
noncomputable def m_Recurrence___init__ : List D → M D := runFn 3 3 b_Recurrence___init__
noncomputable def b_Recurrence___eq__ : Stm := (sRet (eAnd (e1 (dIs ["Recurrence"] sameC [(.inr "Recurrence")]) (eVar 1)) (eAnd (e2 (dEq false) (e1 (dFldC ["Recurrence"] "factors") (eVar 0)) (e1 (dFldC ["Recurrence"] "factors") (eVar 1))) (e2 (dEq false) (e1 (dFldC ["Recurrence"] "firsts") (eVar 0)) (e1 (dFldC ["Recurrence"] "firsts") (eVar 1))))))
noncomputable def m_Recurrence___eq__ : List D → M D := runFn 2 2 b_Recurrence___eq__
noncomputable def b_Recurrence___bool__ : Stm := (sRet (eC (.bl true)))
noncomputable def m_Recurrence___bool__ : List D → M D := runFn 1 1 b_Recurrence___bool__
noncomputable def b_Recurrence___len__ : Stm := (sRet (eA (d1 dLen) (aCons (e1 (dFldC ["Recurrence"] "factors") (eVar 0)) aNil)))
noncomputable def m_Recurrence___len__ : List D → M D := runFn 1 1 b_Recurrence___len__
noncomputable def b_started : Stm := (sSeq (sIf (tOf (e2 (dEq false) (eVar 0) (eC (.str "ones")))) (sRet (eLc false (iR1 (aCons (eVar 1) aNil)) [3] (gN 3) tYesP (eC (.int 1)))) sNext) (sSeq (sIf (tOf (e2 (dEq false) (eVar 0) (eC (.str "stairs")))) (sRet (e2 dRange (eC (.int 1)) (e2 dAdd (eVar 1) (eC (.int 1))))) sNext) (sSeq (sAsg (eIf (tOf (e2 (dEq false) (eVar 0) (eC (.str "first")))) (eC (.int 0)) (e2 dSub (eVar 1) (eC (.int 1)))) (gN 2)) (sRet (eLc false (iR1 (aCons (eVar 1) aNil)) [4] (gN 4) tYesP (eA (d1 dInt) (aCons (e2 (dEq false) (eVar 4) (eVar 2)) aNil)))))))
noncomputable def m_started : List D → M D := runFn 2 5 b_started
noncomputable def b_amount_at : Stm := (sSeq (sAsg (eA m_halvings (aCons (e1 (dFldC ["Program"] "rounds") (eVar 0)) (aCons (eVar 3) aNil))) (gN 4)) (sSeq (sAsg (eLc false (iSeq (eA m_started (aCons (eVar 1) (aCons (eVar 3) aNil)))) [6] (gN 6) tYesP (e2 dShl (eVar 6) (eVar 4))) (gN 5)) (sRet (eA m_reduced (aCons (e2 dIx (eA m_evened (aCons (e1 (dFldC ["Program"] "rounds") (eVar 0)) (aCons (eVar 5) aNil))) (e2 dSub (e2 dSub (eVar 3) (eC (.int 1))) (eVar 2))) (aCons (e2 dShl (eC (.int 1)) (eVar 4)) aNil))))))
noncomputable def m_amount_at : List D → M D := runFn 4 7 b_amount_at
noncomputable def b_first_amounts : Stm := (sRet (eLc false (iR1 (aCons (eVar 3) aNil)) [4] (gN 4) tYesP (eA m_amount_at (aCons (eVar 0) (aCons (eVar 1) (aCons (eVar 2) (aCons (e2 dAdd (e2 dAdd (eVar 2) (eC (.int 1))) (eVar 4)) aNil)))))))
noncomputable def m_first_amounts : List D → M D := runFn 4 5 b_first_amounts
noncomputable def b_dot : Stm := (sSeq (sAsg (eA dTup (aCons (eC (.int 0)) (aCons (eC (.int 1)) aNil))) (gN 2)) (sSeq (sFor (iZip2 (aCons (eVar 0) (aCons (eVar 1) aNil))) (gT 2 (gC (gN 3) (gC (gN 4) gN0))) (sAsg (eA m_plus (aCons (eVar 2) (aCons (eA m_times (aCons (eVar 3) (aCons (eVar 4) aNil))) aNil))) (gN 2))) (sRet (eVar 2))))
noncomputable def m_dot : List D → M D := runFn 2 5 b_dot
noncomputable def b_told_by : Stm := (sSeq (sAsg (eSl (eVar 1) oNone (oSome (eVar 2))) (gN 3)) (sSeq (sWhl (tOf (e2 dLt (eA (d1 dLen) (aCons (eVar 3) aNil)) (eVar 2))) (sDrop (eBM dAppend (eVar 3) (aCons (eA m_dot (aCons (eVar 0) (aCons (eSl (eVar 3) (oSome (e2 dSub (eA (d1 dLen) (aCons (eVar 3) aNil)) (eA (d1 dLen) (aCons (eVar 0) aNil)))) oNone) aNil))) aNil)))) (sSeq (sFrz 3) (sRet (eVar 3)))))
noncomputable def m_told_by : List D → M D := runFn 3 4 b_told_by
noncomputable def b_Recurrence_value : Stm := (sRet (e2 dIx (eA m_told_by (aCons (e1 (dFldC ["Recurrence"] "factors") (eVar 0)) (aCons (e1 (dFldC ["Recurrence"] "firsts") (eVar 0)) (aCons (e2 dAdd (eVar 1) (eC (.int 1))) aNil)))) (eVar 1)))
noncomputable def m_Recurrence_value : List D → M D := runFn 2 2 b_Recurrence_value
noncomputable def b_mend : Stm := (sSeq (sAsg (e2 dAdd (eVar 0) (e2 dMul (eA dLst (aCons (eA dTup (aCons (eC (.int 0)) (aCons (eC (.int 1)) aNil))) aNil)) (e2 dSub (e2 dAdd (eVar 2) (eA (d1 dLen) (aCons (eVar 1) aNil))) (eA (d1 dLen) (aCons (eVar 0) aNil))))) (gN 4)) (sSeq (sFor (iNum (eVar 1)) (gT 2 (gC (gN 5) (gC (gN 6) gN0))) (sSet (eA m_minus (aCons (e2 dIx (eVar 4) (e2 dAdd (eVar 2) (eVar 5))) (aCons (eA m_times (aCons (eVar 3) (aCons (eVar 6) aNil))) aNil))) (eVar 4) (e2 dAdd (eVar 2) (eVar 5)))) (sSeq (sFrz 4) (sRet (eVar 4)))))
noncomputable def m_mend : List D → M D := runFn 4 7 b_mend
noncomputable def b_reduced_inverse : Stm := (sSeq (sAsg (eVar 0) (gT 2 (gC (gN 1) (gC (gN 2) gN0)))) (sRet (eIf (tOf (e2 dGt (eVar 1) (eC (.int 0)))) (eA dTup (aCons (eVar 2) (aCons (eVar 1) aNil))) (eA dTup (aCons (e1 dNeg (eVar 2)) (aCons (e1 dNeg (eVar 1)) aNil))))))
noncomputable def m_reduced_inverse : List D → M D := runFn 1 3 b_reduced_inverse
end PM
end
section
set_option Elab.async false
set_option linter.all false
set_option maxRecDepth 100000
namespace PM
open PySem L2
noncomputable def b_behind_laps : Stm := (sSeq (sAsg (eA dNew (aCons (eVar 1) aNil)) (gN 3)) (sSeq (sFor (iR1 (aCons (eVar 2) aNil)) (gN 4) (sDrop (eBM dAppend (eVar 3) (aCons (eA m_evened (aCons (e1 (dFldC ["Program"] "rounds") (eVar 0)) (aCons (e2 dIx (eVar 3) (e1 dNeg (eC (.int 1)))) aNil))) aNil)))) (sSeq (sFrz 3) (sRet (eVar 3)))))
noncomputable def m_behind_laps : List D → M D := runFn 3 5 b_behind_laps
noncomputable def b_check_laps : Stm := (sIf (tOrP (tNotP (tOf (eA m_is_integer (aCons (eVar 0) aNil)))) (tNotP (tOf (eChain dLe dLe (eC (.int 0)) (eVar 0) (eC (.int 200)))))) (sRaise0 "BadStart") sNext)
noncomputable def m_check_laps : List D → M D := runFn 1 1 b_check_laps
noncomputable def b_check_volumes_for : Stm := (sSeq (sDrop (eA m_check_program (aCons (eVar 0) aNil))) (sDrop (eA m_check_told (aCons (eVar 1) aNil))))
noncomputable def m_check_volumes_for : List D → M D := runFn 2 2 b_check_volumes_for
noncomputable def b_prepared : Stm := (sSeq (sAsg (eLc false (iSeq (eVar 1)) [5] (gN 5) tYesP (eA m_exact (aCons (eVar 5) aNil))) (gN 3)) (sSeq (sAsg (e2 dShl (eA m_common_bottom (aCons (eVar 3) aNil)) (e2 dMul (eA m_halvings (aCons (e1 (dFldC ["Program"] "rounds") (eVar 0)) (aCons (eA (d1 dLen) (aCons (eVar 3) aNil)) aNil))) (eVar 2))) (gN 4)) (sRet (eA dTup (aCons (eLc false (iSeq (eVar 3)) [6, 7] (gT 2 (gC (gN 6) (gC (gN 7) gN0))) tYesP (e2 dMul (eVar 6) (e2 dDiv (eVar 4) (eVar 7)))) (aCons (eVar 4) aNil))))))
noncomputable def m_prepared : List D → M D := runFn 3 8 b_prepared
noncomputable def b_LapsDone___init__ : Stm := (sFldP ["LapsDone"] "laps" (eVar 1) (eVar 0))
noncomputable def m_LapsDone___init__ : List D → M D := runFn 2 2 b_LapsDone___init__
noncomputable def b_LapsDone___eq__ : Stm := (sRet (eAnd (e1 (dIs ["LapsDone", "LapsLeft"] sameC [(.inr "LapsDone")]) (eVar 1)) (e2 (dEq false) (e1 (dFldC ["LapsDone"] "laps") (eVar 0)) (e1 (dFldC ["LapsDone"] "laps") (eVar 1)))))
noncomputable def m_LapsDone___eq__ : List D → M D := runFn 2 2 b_LapsDone___eq__
noncomputable def b_LapsDone___bool__ : Stm := (sRet (eC (.bl true)))
noncomputable def m_LapsDone___bool__ : List D → M D := runFn 1 1 b_LapsDone___bool__
noncomputable def b_LapsLeft___init__ : Stm := (sSeq (sFldP ["LapsLeft"] "basin" (eVar 1) (eVar 0)) (sFldP ["LapsLeft"] "place" (eVar 2) (eVar 0)))
noncomputable def m_LapsLeft___init__ : List D → M D := runFn 3 3 b_LapsLeft___init__
noncomputable def b_lone_volumes : Stm := (sRet (eLc false (iR1 (aCons (eVar 0) aNil)) [2] (gN 2) tYesP (eA (d1 dInt) (aCons (e2 (dEq false) (eVar 2) (eVar 1)) aNil))))
noncomputable def m_lone_volumes : List D → M D := runFn 2 3 b_lone_volumes
noncomputable def b_stretches : Stm := (sSeq (sDrop (eA m_check_program (aCons (eVar 0) aNil))) (sSeq (sDrop (eA m_check_many (aCons (eVar 1) aNil))) (sSeq (sAsg (eA m_openings (aCons (e1 (dFldC ["Program"] "rounds") (eVar 0)) (aCons (eVar 1) aNil))) (gN 2)) (sSeq (sAsg (eLc false (iR2 (aCons (eC (.int 1)) (aCons (eVar 1) aNil))) [4] (gN 4) (tOf (e2 dNotInF (eVar 4) (eVar 2))) (eVar 4)) (gN 3)) (sRet (eA dZipL (aCons (eA dLst (aCons (eC (.int 0)) (aStar (eVar 3) aNil))) (aCons (eA dLst (aStar (eVar 3) (aCons (eVar 1) aNil))) aNil))))))))
noncomputable def m_stretches : List D → M D := runFn 2 5 b_stretches
noncomputable def b_stretch_of : Stm := (sRet (e2 dIx (eLc false (iSeq (eA m_stretches (aCons (eVar 0) (aCons (eVar 1) aNil)))) [3, 4] (gT 2 (gC (gN 3) (gC (gN 4) gN0))) (tOf (eChain dLe dLt (eVar 3) (eVar 2) (eVar 4))) (eA dTup (aCons (eVar 3) (aCons (eVar 4) aNil)))) (eC (.int 0))))
noncomputable def m_stretch_of : List D → M D := runFn 3 5 b_stretch_of
noncomputable def b_LapsLeft___eq__ : Stm := (sRet (eAnd (e1 (dIs ["LapsDone", "LapsLeft"] sameC [(.inr "LapsLeft")]) (eVar 1)) (eAnd (e2 (dEq false) (e1 (dFldC ["LapsLeft"] "basin") (eVar 0)) (e1 (dFldC ["LapsLeft"] "basin") (eVar 1))) (e2 (dEq false) (e1 (dFldC ["LapsLeft"] "place") (eVar 0)) (e1 (dFldC ["LapsLeft"] "place") (eVar 1))))))
noncomputable def m_LapsLeft___eq__ : List D → M D := runFn 2 2 b_LapsLeft___eq__
noncomputable def b_LapsLeft___bool__ : Stm := (sRet (eC (.bl false)))
noncomputable def m_LapsLeft___bool__ : List D → M D := runFn 1 1 b_LapsLeft___bool__
noncomputable def b_LapRecurrence___init__ : Stm := (sSeq (sFldP ["LapRecurrence"] "factors" (eA (d1 dList) (aCons (eVar 1) aNil)) (eVar 0)) (sFldP ["LapRecurrence"] "firsts" (eA (d1 dList) (aCons (eVar 2) aNil)) (eVar 0)))
noncomputable def m_LapRecurrence___init__ : List D → M D := runFn 3 3 b_LapRecurrence___init__
noncomputable def b_LapRecurrence___eq__ : Stm := (sRet (eAnd (e1 (dIs ["LapRecurrence"] sameC [(.inr "LapRecurrence")]) (eVar 1)) (eAnd (e2 (dEq false) (e1 (dFldC ["LapRecurrence"] "factors") (eVar 0)) (e1 (dFldC ["LapRecurrence"] "factors") (eVar 1))) (e2 (dEq false) (e1 (dFldC ["LapRecurrence"] "firsts") (eVar 0)) (e1 (dFldC ["LapRecurrence"] "firsts") (eVar 1))))))
noncomputable def m_LapRecurrence___eq__ : List D → M D := runFn 2 2 b_LapRecurrence___eq__
noncomputable def b_LapRecurrence___bool__ : Stm := (sRet (eC (.bl true)))
noncomputable def m_LapRecurrence___bool__ : List D → M D := runFn 1 1 b_LapRecurrence___bool__
noncomputable def b_LapRecurrence___len__ : Stm := (sRet (eA (d1 dLen) (aCons (e1 (dFldC ["LapRecurrence"] "factors") (eVar 0)) aNil)))
noncomputable def m_LapRecurrence___len__ : List D → M D := runFn 1 1 b_LapRecurrence___len__
noncomputable def b_check_basin_of : Stm := (sSeq (sDrop (eA m_check_volumes_for (aCons (eVar 0) (aCons (eVar 1) aNil)))) (sIf (tOrP (tNotP (tOf (eA m_is_integer (aCons (eVar 2) aNil)))) (tNotP (tOf (eChain dLe dLt (eC (.int 0)) (eVar 2) (eA (d1 dLen) (aCons (eVar 1) aNil)))))) (sRaise0 "BadStart") sNext))
noncomputable def m_check_basin_of : List D → M D := runFn 3 3 b_check_basin_of
noncomputable def b_volumes_by_laps : Stm := (sSeq (sAsg (eA m_prepared (aCons (eVar 0) (aCons (eVar 1) (aCons (e2 dSub (eVar 3) (eC (.int 1))) aNil)))) (gT 2 (gC (gN 4) (gC (gN 5) gN0)))) (sRet (eLc false (iSeq (eA m_behind_laps (aCons (eVar 0) (aCons (eVar 4) (aCons (e2 dSub (eVar 3) (eC (.int 1))) aNil))))) [6] (gN 6) tYesP (eA m_reduced (aCons (e2 dIx (eVar 6) (eVar 2)) (aCons (eVar 5) aNil))))))
noncomputable def m_volumes_by_laps : List D → M D := runFn 4 7 b_volumes_by_laps
noncomputable def b_LapRecurrence_shows : Stm := (sSeq (sDrop (eA m_check_basin_of (aCons (eVar 1) (aCons (eVar 2) (aCons (eVar 3) aNil))))) (sSeq (sIf (tOf (e2 (dEq true) (eA (d1 dLen) (aCons (e1 (dFldC ["LapRecurrence"] "factors") (eVar 0)) aNil)) (eA (d1 dLen) (aCons (e1 (dFldC ["LapRecurrence"] "firsts") (eVar 0)) aNil)))) (sRet (eC (.bl false))) sNext) (sSeq (sIf (tNotP (tOf (eA (d1 dAll) (aCons (eLc false (iSeq (e2 dAdd (e1 (dFldC ["LapRecurrence"] "factors") (eVar 0)) (e1 (dFldC ["LapRecurrence"] "firsts") (eVar 0)))) [5] (gN 5) tYesP (eA m_is_exact (aCons (eVar 5) aNil))) aNil)))) (sRet (eC (.bl false))) sNext) (sSeq (sAsg (e2 dAdd (eA (d1 dLen) (aCons (e1 (dFldC ["LapRecurrence"] "factors") (eVar 0)) aNil)) (eA (d1 dLen) (aCons (eVar 2) aNil))) (gN 4)) (sRet (e2 (dEq false) (eA m_told_by (aCons (e1 (dFldC ["LapRecurrence"] "factors") (eVar 0)) (aCons (e1 (dFldC ["LapRecurrence"] "firsts") (eVar 0)) (aCons (eVar 4) aNil)))) (eA m_volumes_by_laps (aCons (eVar 1) (aCons (eVar 2) (aCons (eVar 3) (aCons (eVar 4) aNil)))))))))))
noncomputable def m_LapRecurrence_shows : List D → M D := runFn 4 6 b_LapRecurrence_shows
noncomputable def b_EvenAlways___init__ : Stm := (sFldP ["EvenAlways"] "rounds" (eA (d1 dList) (aCons (eVar 1) aNil)) (eVar 0))
noncomputable def m_EvenAlways___init__ : List D → M D := runFn 2 2 b_EvenAlways___init__
noncomputable def b_EvenAlways___eq__ : Stm := (sRet (eAnd (e1 (dIs ["EvenAlways", "Parted"] sameC [(.inr "EvenAlways")]) (eVar 1)) (e2 (dEq false) (e1 (dFldC ["EvenAlways"] "rounds") (eVar 0)) (e1 (dFldC ["EvenAlways"] "rounds") (eVar 1)))))
noncomputable def m_EvenAlways___eq__ : List D → M D := runFn 2 2 b_EvenAlways___eq__
noncomputable def b_EvenAlways___bool__ : Stm := (sRet (eC (.bl true)))
noncomputable def m_EvenAlways___bool__ : List D → M D := runFn 1 1 b_EvenAlways___bool__
noncomputable def b_rounds_for : Stm := (sRet (eLc false (iNum (e1 (dFldC ["Program"] "rounds") (eVar 0))) [2, 3] (gT 2 (gC (gN 2) (gC (gN 3) gN0))) (tOrP (tOf (e2 (dEq true) (e2 dIx (eVar 3) (eC (.int 0))) (eC (.str "every")))) (tOf (e2 (dEq false) (e2 dMod (eVar 1) (e2 dIx (eVar 3) (eC (.int 1)))) (e2 dIx (eVar 3) (eC (.int 2)))))) (eVar 2)))
noncomputable def m_rounds_for : List D → M D := runFn 2 4 b_rounds_for
noncomputable def b_EvenAlways_shows : Stm := (sSeq (sDrop (eA m_check_program (aCons (eVar 1) aNil))) (sSeq (sIf (tOf (e2 (dEq true) (eA (d1 dLen) (aCons (e1 (dFldC ["EvenAlways"] "rounds") (eVar 0)) aNil)) (eA m_common_step (aCons (eVar 1) (aCons (eVar 1) aNil))))) (sRet (eC (.bl false))) sNext) (sRet (eA (d1 dAll) (aCons (eLc false (iNum (e1 (dFldC ["EvenAlways"] "rounds") (eVar 0))) [2, 3] (gT 2 (gC (gN 2) (gC (gN 3) gN0))) tYesP (e2 (dIn false) (eVar 3) (eA m_rounds_for (aCons (eVar 1) (aCons (eVar 2) aNil))))) aNil)))))
noncomputable def m_EvenAlways_shows : List D → M D := runFn 2 4 b_EvenAlways_shows
noncomputable def b_Parted___init__ : Stm := (sFldP ["Parted"] "weir" (eVar 1) (eVar 0))
noncomputable def m_Parted___init__ : List D → M D := runFn 2 2 b_Parted___init__
noncomputable def b_Parted___eq__ : Stm := (sRet (eAnd (e1 (dIs ["EvenAlways", "Parted"] sameC [(.inr "Parted")]) (eVar 1)) (e2 (dEq false) (e1 (dFldC ["Parted"] "weir") (eVar 0)) (e1 (dFldC ["Parted"] "weir") (eVar 1)))))
noncomputable def m_Parted___eq__ : List D → M D := runFn 2 2 b_Parted___eq__
noncomputable def b_Parted___bool__ : Stm := (sRet (eC (.bl false)))
noncomputable def m_Parted___bool__ : List D → M D := runFn 1 1 b_Parted___bool__
noncomputable def b_judge_even : Stm := (sSeq (sDrop (eA m_check_program (aCons (eVar 0) aNil))) (sSeq (sAsg (eA m_common_step (aCons (eVar 0) (aCons (eVar 0) aNil))) (gN 1)) (sSeq (sFor (iR2 (aCons (eC (.int 1)) (aCons (e2 dAdd (eVar 1) (eC (.int 1))) aNil))) (gN 2) (sIf (tNotP (tTruth (eA m_rounds_for (aCons (eVar 0) (aCons (e2 dMod (eVar 2) (eVar 1)) aNil))))) (sRet (eA (mkObj false "Parted" m_Parted___init__) (aCons (eVar 2) aNil))) sNext)) (sRet (eA (mkObj false "EvenAlways" m_EvenAlways___init__) (aCons (eLc false (iR1 (aCons (eVar 1) aNil)) [3] (gN 3) tYesP (e2 dIx (eA m_rounds_for (aCons (eVar 0) (aCons (eVar 3) aNil))) (eC (.int 0)))) aNil))))))
noncomputable def m_judge_even : List D → M D := runFn 1 4 b_judge_even
noncomputable def b_Parted_shows : Stm := (sRet (orM (e2 (dEqM "EvenAlways" "Parted" m_EvenAlways___eq__) (eA m_judge_even (aCons (eVar 1) aNil)) (eVar 0)) (e2 (dEqO false "Parted" m_Parted___eq__) (eA m_judge_even (aCons (eVar 1) aNil)) (eVar 0))))
noncomputable def m_Parted_shows : List D → M D := runFn 2 2 b_Parted_shows
noncomputable def b_lapped : Stm := (sSeq (sDrop (eA m_check_volumes_for (aCons (eVar 0) (aCons (eVar 1) aNil)))) (sSeq (sDrop (eA m_check_laps (aCons (eVar 2) aNil))) (sSeq (sAsg (eA m_prepared (aCons (eVar 0) (aCons (eVar 1) (aCons (eVar 2) aNil)))) (gT 2 (gC (gN 3) (gC (gN 4) gN0)))) (sRet (eA (d1 dTuple) (aCons (eLc false (iSeq (eA m_evened (aCons (e2 dMul (e1 (dFldC ["Program"] "rounds") (eVar 0)) (eVar 2)) (aCons (eVar 3) aNil)))) [5] (gN 5) tYesP (eA m_reduced (aCons (eVar 5) (aCons (eVar 4) aNil)))) aNil))))))
noncomputable def m_lapped : List D → M D := runFn 3 6 b_lapped
noncomputable def b_lap_limit : Stm := (sSeq (sDrop (eA m_check_volumes_for (aCons (eVar 0) (aCons (eVar 1) aNil)))) (sSeq (sAsg (eLc false (iSeq (eVar 1)) [7] (gN 7) tYesP (eA m_exact (aCons (eVar 7) aNil))) (gN 2)) (sSeq (sAsg (eA dNew aNil) (gN 3)) (sSeq (sFor (iSeq (eA m_stretches (aCons (eVar 0) (aCons (eA (d1 dLen) (aCons (eVar 2) aNil)) aNil)))) (gT 2 (gC (gN 4) (gC (gN 5) gN0))) (sSeq (sAsg (eA m_times (aCons (eA m_total_of (aCons (eSl (eVar 2) (oSome (eVar 4)) (oSome (eVar 5))) aNil)) (aCons (eA dTup (aCons (eC (.int 1)) (aCons (e2 dSub (eVar 5) (eVar 4)) aNil))) aNil))) (gN 6)) (sDrop (eBM dExtend (eVar 3) (aCons (eLc false (iR2 (aCons (eVar 4) (aCons (eVar 5) aNil))) [8] (gN 8) tYesP (eVar 6)) aNil))))) (sRet (eA (d1 dTuple) (aCons (eVar 3) aNil)))))))
noncomputable def m_lap_limit : List D → M D := runFn 2 9 b_lap_limit
noncomputable def b_left_behind : Stm := (sSeq (sDrop (eA m_check_program (aCons (eVar 0) aNil))) (sSeq (sDrop (eA m_check_many (aCons (eVar 1) aNil))) (sSeq (sDrop (eA m_check_laps (aCons (eVar 2) aNil))) (sSeq (sAsg (eA dNew aNil) (gN 3)) (sSeq (sFor (iR1 (aCons (eVar 1) aNil)) (gN 4) (sSeq (sAsg (eA m_stretch_of (aCons (eVar 0) (aCons (eVar 1) (aCons (eVar 4) aNil)))) (gT 2 (gC (gN 5) (gC (gN 6) gN0)))) (sSeq (sAsg (eA m_prepared (aCons (eVar 0) (aCons (eA m_lone_volumes (aCons (eVar 1) (aCons (eVar 4) aNil))) (aCons (eVar 2) aNil)))) (gT 2 (gC (gN 7) (gC (gN 8) gN0)))) (sSeq (sAsg (eA m_evened (aCons (e2 dMul (e1 (dFldC ["Program"] "rounds") (eVar 0)) (eVar 2)) (aCons (eVar 7) aNil))) (gN 9)) (sSeq (sAsg (eA (d1 dMaxL) (aCons (eLc false (iSeq (eSl (eVar 9) (oSome (eVar 5)) (oSome (eVar 6)))) [11] (gN 11) tYesP (eA (d1 dAbs) (aCons (e2 dSub (e2 dMul (eVar 11) (e2 dSub (eVar 6) (eVar 5))) (eVar 8)) aNil))) aNil)) (gN 10)) (sDrop (eBM dAppend (eVar 3) (aCons (eA m_reduced (aCons (eVar 10) (aCons (e2 dMul (eVar 8) (e2 dSub (eVar 6) (eVar 5))) aNil))) aNil)))))))) (sRet (eA m_largest (aCons (eVar 3) aNil))))))))
noncomputable def m_left_behind : List D → M D := runFn 3 12 b_left_behind
end PM
end
section
set_option Elab.async false
set_option linter.all false
set_option maxRecDepth 100000
namespace PM
open PySem L2
noncomputable def b__law_draw : Stm := (sSeq (sAsg (eIf (tOf (e2 (dEq true) (eVar 0) (eA dLst aNil))) (eSl (eVar 0) oNone (oSome (eC (.int 60)))) (eA dLst (aCons (eC (.int 7)) aNil))) (gN 3)) (sSeq (sPar 4 5 (aCons (e2 dIx (eVar 3) (e2 dMod (eVar 1) (eA (d1 dLen) (aCons (eVar 3) aNil)))) (aCons (e2 dDiv (eVar 1) (eA (d1 dLen) (aCons (eVar 3) aNil))) aNil))) (sSeq (sIf (tOf (e2 dGe (eVar 4) (e2 dPow (eC (.int 10)) (eC (.int 18))))) (sSeq (sAsg (e2 dMod (eA (d1 dInt) (aCons (eVar 4) aNil)) (e2 dPow (eC (.int 97)) (eC (.int 40)))) (gN 4)) (sSeq (sFor (iR1 (aCons (e2 dMod (eVar 5) (eC (.int 40))) aNil)) (gN 6) (sAsg (e2 dDiv (eVar 4) (eC (.int 97))) (gN 4))) (sRet (e2 dMod (e2 dMod (eA (d1 dInt) (aCons (eVar 4) aNil)) (eC (.int 97))) (eVar 2))))) sNext) (sSeq (sAsg (e2 dAdd (e2 dMul (e2 dAdd (e2 dAdd (e2 dMod (eA (d1 dInt) (aCons (e2 dAdd (eVar 4) (e2 dMul (eC (.int 31)) (eVar 5))) aNil)) (eC (.int 1000003))) (e2 dMul (eC (.int 977)) (eVar 1))) (eC (.int 13))) (eC (.int 48271))) (e2 dMod (eA (d1 dInt) (aCons (e2 dDiv (eVar 4) (eC (.int 1000003))) aNil)) (eC (.int 999983)))) (gN 7)) (sRet (e2 dMod (eA (d1 dInt) (aCons (e2 dMod (e2 dMul (e2 dMod (eVar 7) (eC (.int 2147483647))) (eC (.int 65537))) (eC (.int 4294967291))) aNil)) (eVar 2)))))))
noncomputable def m__law_draw : List D → M D := runFn 3 8 b__law_draw
noncomputable def b__law_rounds : Stm := (sSeq (sAsg (eA dNew (aCons (eA dTup (aCons (eVar 3) aNil)) (aCons (eA dTup (aCons (eC (.str "every")) (aCons (eC (.int 2)) (aCons (eC (.int 1)) aNil)))) (aCons (eA dTup (aCons (eC (.str "every")) (aCons (eC (.int 2)) (aCons (eC (.int 0)) aNil)))) (aCons (eA dTup (aCons (eC (.str "every")) (aCons (eC (.int 2)) (aCons (eC (.int 1)) aNil)))) (aCons (eA dTup (aCons (eC (.str "every")) (aCons (eC (.int 2)) (aCons (eC (.int 0)) aNil)))) aNil)))))) (gN 4)) (sSeq (sIf (tOf (e2 (dEq false) (eA m__law_draw (aCons (eVar 0) (aCons (eVar 1) (aCons (eC (.int 4)) aNil)))) (eC (.int 0)))) (sSeq (sAsg (e2 dAdd (eC (.int 3)) (eA m__law_draw (aCons (eVar 0) (aCons (e2 dAdd (eVar 1) (eC (.int 1))) (aCons (eC (.int 2)) aNil))))) (gN 5)) (sSeq (sSet (eA dTup (aCons (eC (.str "every")) (aCons (eVar 5) (aCons (eA m__law_draw (aCons (eVar 0) (aCons (e2 dAdd (eVar 1) (eC (.int 2))) (aCons (eVar 5) aNil)))) aNil)))) (eVar 4) (eC (.int 1))) (sSet (e2 dIx (eVar 4) (eC (.int 1))) (eVar 4) (eC (.int 3))))) sNext) (sRet (eLc false (iR1 (aCons (eA m__law_draw (aCons (eVar 0) (aCons (e2 dAdd (eVar 1) (eC (.int 3))) (aCons (e2 dAdd (eVar 2) (eC (.int 1))) aNil)))) aNil)) [6] (gN 6) tYesP (e2 dIx (eVar 4) (eA m__law_draw (aCons (eVar 0) (aCons (e2 dAdd (e2 dAdd (eVar 1) (eC (.int 4))) (eVar 6)) (aCons (eC (.int 5)) aNil)))))))))
noncomputable def m__law_rounds : List D → M D := runFn 4 7 b__law_rounds
noncomputable def b__law_weirs : Stm := (sSeq (sIf (tOf (e2 (dEq false) (e2 dIx (eVar 0) (eC (.int 0))) (eC (.str "right")))) (sRet (e2 dRange (eC (.int 1)) (eVar 1))) sNext) (sSeq (sIf (tOf (e2 (dEq false) (e2 dIx (eVar 0) (eC (.int 0))) (eC (.str "left")))) (sRet (e1 dLRev (e2 dRange (eC (.int 1)) (eVar 1)))) sNext) (sRet (eLc false (iR2 (aCons (eC (.int 1)) (aCons (eVar 1) aNil))) [2] (gN 2) (tOf (e2 (dEq false) (e2 dMod (eVar 2) (e2 dIx (eVar 0) (eC (.int 1)))) (e2 dIx (eVar 0) (eC (.int 2))))) (eVar 2)))))
noncomputable def m__law_weirs : List D → M D := runFn 2 3 b__law_weirs
noncomputable def b__law_order_p : Stm := (sSeq (sAsg (eA dLst aNil) (gN 2)) (sSeq (sFor (iSeq (eVar 0)) (gN 3) (sAsg (e2 dAdd (eVar 2) (eA m__law_weirs (aCons (eVar 3) (aCons (eVar 1) aNil)))) (gN 2))) (sRet (eVar 2))))
noncomputable def m__law_order_p : List D → M D := runFn 2 4 b__law_order_p
noncomputable def b__law_play : Stm := (sSeq (sAsg (eA (d1 dListC) (aCons (eVar 1) aNil)) (gN 2)) (sSeq (sFor (iSeq (eA m__law_order_p (aCons (eVar 0) (aCons (eA (d1 dLen) (aCons (eVar 2) aNil)) aNil)))) (gN 3) (sSeq (sAsg (e2 dDiv (e2 dAdd (e2 dIx (eVar 2) (e2 dSub (eVar 3) (eC (.int 1)))) (e2 dIx (eVar 2) (eVar 3))) (eC (.int 2))) (gN 4)) (sSeq (sSet (eVar 4) (eVar 2) (e2 dSub (eVar 3) (eC (.int 1)))) (sSet (eVar 4) (eVar 2) (eVar 3))))) (sSeq (sFrz 2) (sRet (eVar 2)))))
noncomputable def m__law_play : List D → M D := runFn 2 5 b__law_play
noncomputable def b__law_scale : Stm := (sRet (e2 dAdd (e2 dMul (eA (d1 dLen) (aCons (eVar 0) aNil)) (eVar 1)) (eC (.int 1))))
noncomputable def m__law_scale : List D → M D := runFn 2 2 b__law_scale
noncomputable def b__law_part_p : Stm := (sSeq (sPar 2 3 (aCons (eA (d1 dAbs) (aCons (eVar 0) aNil)) (aCons (eVar 1) aNil))) (sSeq (sWhl (tOf (e2 (dEq true) (eVar 3) (eC (.int 0)))) (sPar 2 3 (aCons (eVar 3) (aCons (e2 dMod (eA (d1 dInt) (aCons (eVar 2) aNil)) (eVar 3)) aNil)))) (sRet (eA dTup (aCons (e2 dDiv (eVar 0) (eVar 2)) (aCons (e2 dDiv (eVar 1) (eVar 2)) aNil))))))
noncomputable def m__law_part_p : List D → M D := runFn 2 4 b__law_part_p
noncomputable def b__law_done : Stm := (sSeq (sAsg (eA m__law_scale (aCons (eVar 0) (aCons (eA (d1 dLen) (aCons (eVar 1) aNil)) aNil))) (gN 2)) (sRet (eA (d1 dTuple) (aCons (eLc false (iSeq (eA m__law_play (aCons (eVar 0) (aCons (eLc false (iSeq (eVar 1)) [4] (gN 4) tYesP (e2 dShl (eVar 4) (eVar 2))) aNil)))) [3] (gN 3) tYesP (eA m__law_part_p (aCons (eVar 3) (aCons (e2 dShl (eC (.int 1)) (eVar 2)) aNil)))) aNil))))
noncomputable def m__law_done : List D → M D := runFn 2 5 b__law_done
noncomputable def b__law_unit_p : Stm := (sRet (eLc false (iR1 (aCons (eVar 0) aNil)) [2] (gN 2) tYesP (eIf (tOf (e2 (dEq false) (eVar 2) (eVar 1))) (eC (.int 1)) (eC (.int 0)))))
noncomputable def m__law_unit_p : List D → M D := runFn 2 3 b__law_unit_p
end PM
end
section
set_option Elab.async false
set_option linter.all false
set_option maxRecDepth 100000
set_option maxHeartbeats 4000000
namespace PM
open PySem L2
noncomputable def b_law_c0 : Stm := (sRet (eAnd (eNot (eMeth "EvenAlways" "shows" m_EvenAlways_shows (eA (mkObj false "EvenAlways" m_EvenAlways___init__) (aCons (e2 dMul (eA dLst (aCons (eC (.int 0)) aNil)) (eVar 3)) aNil)) (aCons (eVar 2) aNil))) (eOr (e2 dLe (eVar 7) (e1 (dFldC ["Parted"] "weir") (eVar 6))) (e2 dNotInF (eA dTup (aCons (eC (.int 0)) (aCons (eVar 7) aNil))) (eA m_stretches (aCons (eVar 2) (aCons (eVar 7) aNil)))))))
noncomputable def b_law_c1 : Stm := (sSeq (sIf (tOrP (tOf (e2 (dEq true) (e1 (dFldC ["Parted"] "weir") (eVar 6)) (e2 dIx (eVar 5) (eC (.int 0))))) (tOrP (tOf (eMeth "Parted" "shows" m_Parted_shows (eA (mkObj false "Parted" m_Parted___init__) (aCons (eC (.int 0)) aNil)) (aCons (eVar 2) aNil))) (tOf (eA (d1 dAny) (aCons (eLc false (iR2 (aCons (eC (.int 1)) (aCons (e2 dAdd (e2 dMul (eC (.int 3)) (eVar 3)) (eC (.int 2))) aNil))) [9] (gN 9) tYesP (e2 (dEq true) (eMeth "Parted" "shows" m_Parted_shows (eA (mkObj false "Parted" m_Parted___init__) (aCons (eVar 9) aNil)) (aCons (eVar 2) aNil)) (e2 (dEq false) (eVar 9) (e2 dIx (eVar 5) (eC (.int 0)))))) aNil))))) (sRet (eC (.bl false))) sNext) b_law_c0)
noncomputable def b_law_c2 : Stm := (sRet (eC (.bl true)))
noncomputable def b_law_c3 : Stm := (sIf (tOf (e2 (dEq true) (eMeth "EvenAlways" "shows" m_EvenAlways_shows (eA (mkObj false "EvenAlways" m_EvenAlways___init__) (aCons (eVar 12) aNil)) (aCons (eVar 2) aNil)) (e2 (dIn false) (eVar 9) (eA m__law_weirs (aCons (eVar 11) (aCons (e2 dAdd (eVar 9) (eC (.int 1))) aNil)))))) (sRet (eC (.bl false))) sNext)
noncomputable def b_law_c4 : Stm := (sSeq (sAsg (e2 dAdd (e2 dAdd (eSl (e1 (dFldC ["EvenAlways"] "rounds") (eVar 6)) oNone (oSome (eVar 8))) (eA dLst (aCons (eVar 10) aNil))) (eSl (e1 (dFldC ["EvenAlways"] "rounds") (eVar 6)) (oSome (e2 dAdd (eVar 8) (eC (.int 1)))) oNone)) (gN 12)) b_law_c3)
noncomputable def b_law_c5 : Stm := (sSeq (sFor (iR1 (aCons (eVar 3) aNil)) (gN 8) (sFor (iNum (eVar 1)) (gT 2 (gC (gN 10) (gC (gN 11) gN0))) (sSeq (sAsg (eIf (tOf (e2 dGt (eVar 8) (eC (.int 0)))) (eVar 8) (eVar 3)) (gN 9)) b_law_c4))) b_law_c2)
noncomputable def b_law_c6 : Stm := (sSeq (sIf (tOrP (tOf (eMeth "EvenAlways" "shows" m_EvenAlways_shows (eA (mkObj false "EvenAlways" m_EvenAlways___init__) (aCons (e2 dMul (eA dLst (aCons (eA (d1 dLen) (aCons (eVar 1) aNil)) aNil)) (eVar 3)) aNil)) (aCons (eVar 2) aNil))) (tOf (eMeth "Parted" "shows" m_Parted_shows (eA (mkObj false "Parted" m_Parted___init__) (aCons (eC (.int 1)) aNil)) (aCons (eVar 2) aNil)))) (sRet (eC (.bl false))) sNext) b_law_c5)
noncomputable def b_law_c7 : Stm := (sIf (tOf (e2 dNotInF (eVar 9) (eA m__law_weirs (aCons (e2 dIx (eVar 1) (e2 dIx (e1 (dFldC ["EvenAlways"] "rounds") (eVar 6)) (eVar 8))) (aCons (e2 dAdd (eVar 9) (eC (.int 1))) aNil))))) (sRet (eC (.bl false))) sNext)
noncomputable def b_law_c8 : Stm := (sSeq (sFor (iR1 (aCons (eVar 3) aNil)) (gN 8) (sSeq (sAsg (eIf (tOf (e2 dGt (eVar 8) (eC (.int 0)))) (eVar 8) (eVar 3)) (gN 9)) b_law_c7)) b_law_c6)
noncomputable def b_law_c9 : Stm := (sSeq (sIf (tOf (e1 (dIs ["EvenAlways", "Parted"] sameC [(.inr "EvenAlways")]) (eVar 6))) (sSeq (sIf (tOrP (tOf (e2 (dEq true) (eA (d1 dLen) (aCons (e1 (dFldC ["EvenAlways"] "rounds") (eVar 6)) aNil)) (eVar 3))) (tOf (e2 (dEq true) (eA m_stretches (aCons (eVar 2) (aCons (eVar 7) aNil))) (eA dLst (aCons (eA dTup (aCons (eC (.int 0)) (aCons (eVar 7) aNil))) aNil))))) (sRet (eC (.bl false))) sNext) b_law_c8) sNext) b_law_c1)
noncomputable def b_law_c10 : Stm := (sSeq (sAsg (e2 dAdd (eC (.int 1)) (eA m__law_draw (aCons (eVar 0) (aCons (eC (.int 4)) (aCons (eC (.int 24)) aNil))))) (gN 7)) b_law_c9)
noncomputable def b_law_c11 : Stm := (sSeq (sIf (tOrP (tOf (e2 (dEq true) (orM (eA (dBoolO "EvenAlways" m_EvenAlways___bool__) (aCons (eVar 6) aNil)) (eA (dBoolO "Parted" m_Parted___bool__) (aCons (eVar 6) aNil))) (e2 (dEq false) (eVar 5) (eA dLst aNil)))) (tNotP (tOf (orM (eMeth "EvenAlways" "shows" m_EvenAlways_shows (eVar 6) (aCons (eVar 2) aNil)) (eMeth "Parted" "shows" m_Parted_shows (eVar 6) (aCons (eVar 2) aNil)))))) (sRet (eC (.bl false))) sNext) b_law_c10)
noncomputable def b_law_c12 : Stm := (sSeq (sAsg (eA m_judge_even (aCons (eVar 2) aNil)) (gN 6)) b_law_c11)
noncomputable def b_law_c13 : Stm := (sSeq (sAsg (eLc false (iR2 (aCons (eC (.int 1)) (aCons (e2 dAdd (e2 dMul (eC (.int 3)) (eVar 3)) (eC (.int 2))) aNil))) [9] (gN 9) (tOf (e2 dNotInF (eVar 9) (eVar 4))) (eVar 9)) (gN 5)) b_law_c12)
noncomputable def b_law_c14 : Stm := (sSeq (sAsg (e1 dSortSetW (eA m__law_order_p (aCons (eVar 1) (aCons (e2 dAdd (e2 dMul (eC (.int 3)) (eVar 3)) (eC (.int 2))) aNil)))) (gN 4)) b_law_c13)
noncomputable def b_law_c15 : Stm := (sSeq (sWhl (tNotP (tOf (eA (d1 dAll) (aCons (eLc false (iSeq (eVar 1)) [11] (gN 11) tYesP (eOr (e2 (dEq true) (e2 dIx (eVar 11) (eC (.int 0))) (eC (.str "every"))) (e2 (dEq false) (e2 dMod (eVar 3) (e2 dIx (eVar 11) (eC (.int 1)))) (eC (.int 0))))) aNil)))) (sAsg (e2 dAdd (eVar 3) (eC (.int 1))) (gN 3))) b_law_c14)
noncomputable def b_law_c16 : Stm := (sSeq (sAsg (eA dTup (aCons (eA (mkObj false "Program" m_Program___init__) (aCons (eVar 1) aNil)) (aCons (eC (.int 1)) aNil))) (gT 2 (gC (gN 2) (gC (gN 3) gN0)))) b_law_c15)
noncomputable def b_law_c17 : Stm := (sSeq (sIf (tOf (e2 (dEq false) (eA m__law_draw (aCons (eVar 0) (aCons (eC (.int 1)) (aCons (eC (.int 2)) aNil)))) (eC (.int 0)))) (sAsg (e2 dAdd (eLc false (iSeq (eVar 1)) [11] (gN 11) (tOf (e2 (dEq false) (e2 dIx (eVar 11) (eC (.int 0))) (eC (.str "every")))) (eVar 11)) (eA dLst (aCons (eA dTup (aCons (eC (.str "every")) (aCons (eC (.int 2)) (aCons (eA m__law_draw (aCons (eVar 0) (aCons (eC (.int 2)) (aCons (eC (.int 2)) aNil)))) aNil)))) (aCons (eA dTup (aCons (eC (.str "every")) (aCons (eC (.int 4)) (aCons (eA m__law_draw (aCons (eVar 0) (aCons (eC (.int 3)) (aCons (eC (.int 4)) aNil)))) aNil)))) aNil)))) (gN 1)) sNext) b_law_c16)
noncomputable def b_law : Stm := (sSeq (sAsg (eA m__law_rounds (aCons (eVar 0) (aCons (eC (.int 10)) (aCons (eC (.int 4)) (aCons (e2 dIx (eA dTup (aCons (eC (.str "right")) (aCons (eC (.str "left")) aNil))) (eA m__law_draw (aCons (eVar 0) (aCons (eC (.int 0)) (aCons (eC (.int 2)) aNil))))) aNil))))) (gN 1)) b_law_c17)
noncomputable def m_law : List D → M D := runFn 1 13 b_law
end PM
end
section
set_option Elab.async false
set_option linter.all false
set_option maxRecDepth 100000
set_option maxHeartbeats 4000000
namespace Lk11
open PySem PySem.Spec PyProof.Rows L2 Evl PM
open WD (pe_tyN pe_clsN cr_lcm call_lenS call_listS call_tupS call_absS call_maxS call_minS call_intS)
structure Tx (P : Program) (K : PySem.W.Frag) (mg : Str → Option Value) : Prop extends Txt K mg where
  hp : P.main.file = fileS
  ht : (P.main.scope.names.lookup ("super" : Str)).isSome = false
section
variable {P : Program} {w : World} {K : PySem.W.Frag} {mg : Str → Option Value} {base : Heap}
theorem ok_is_integer (T : Tx P K mg) : WD.FnG P w K mg base 1 (He.ga K "is_integer") ["thing"] (spM K PM.m_is_integer) := by
  refine fn_pm (N := ["thing"]) (st := s_is_integer) (m := PM.b_is_integer) T.f_is_integer sc_is_integer (by decide) (fun _ _ _ _ _ _ us hl => match us, hl with | [_], _ => rfl) (fun cdv A outer s H E hr => ⟨_, by
  unfold PM.b_is_integer
  exact (css_one (cs_ret (ce_and (ce_is T.kt_none (.inl "int") (by decide) (pe_tyN (n := "int") (by rfl) T.z_int (by decide +kernel)) (by rfl) T.z_isinstance (ce_var 0 rfl (by first | exact Or.inl rfl | exact Or.inr (Or.inl rfl) | exact Or.inr (Or.inr rfl)))) (ce_one (ce_not (ce_is T.kt_none (.inl "bool") (by decide) (pe_tyN (n := "bool") (by rfl) T.z_bool (by decide +kernel)) (by rfl) T.z_isinstance (ce_var 0 rfl (by first | exact Or.inl rfl | exact Or.inr (Or.inl rfl) | exact Or.inr (Or.inr rfl)))))))))⟩)
theorem ok_is_fraction (T : Tx P K mg) : WD.FnG P w K mg base 2 (He.ga K "is_fraction") ["thing"] (spM K PM.m_is_fraction) := by
  refine fn_pm (N := ["thing"]) (st := s_is_fraction) (m := PM.b_is_fraction) T.f_is_fraction sc_is_fraction (by decide) (fun _ _ _ _ _ _ us hl => match us, hl with | [_], _ => rfl) (fun cdv A outer s H E hr => ⟨_, by
  unfold PM.b_is_fraction
  exact (css_cons (cs_if (ct_not (ct_val (ce_is T.kt_none (.inl "tuple") (by decide) (pe_tyN (n := "tuple") (by rfl) T.z_tuple (by decide +kernel)) (by rfl) T.z_isinstance (ce_var 0 rfl (by first | exact Or.inl rfl | exact Or.inr (Or.inl rfl) | exact Or.inr (Or.inr rfl)))))) (css_one (cs_ret (ce_call (ok_is_integer T) (hr.mono (by decide)) (by rfl) T.m_is_integer (ca_cons (ce_var 0 rfl (by first | exact Or.inl rfl | exact Or.inr (Or.inl rfl) | exact Or.inr (Or.inr rfl))) ca_nil)))) css_nil) (css_one (cs_ret (ce_and (ce_eq hr.units (ce_callBK rLenS call_lenS calls_len (by rfl) T.z_len PySem.boot_len (ca_cons (ce_var 0 rfl (by first | exact Or.inl rfl | exact Or.inr (Or.inl rfl) | exact Or.inr (Or.inr rfl))) ca_nil)) ce_int) (ce_and (ce_call (ok_is_integer T) (hr.mono (by decide)) (by rfl) T.m_is_integer (ca_cons (ce_ix (ce_var 0 rfl (by first | exact Or.inl rfl | exact Or.inr (Or.inl rfl) | exact Or.inr (Or.inr rfl))) ce_int (fun _ _ => rfl)) ca_nil)) (ce_and (ce_call (ok_is_integer T) (hr.mono (by decide)) (by rfl) T.m_is_integer (ca_cons (ce_ix (ce_var 0 rfl (by first | exact Or.inl rfl | exact Or.inr (Or.inl rfl) | exact Or.inr (Or.inr rfl))) ce_int (fun _ _ => rfl)) ca_nil)) (ce_one (ce_ge (ce_ix (ce_var 0 rfl (by first | exact Or.inl rfl | exact Or.inr (Or.inl rfl) | exact Or.inr (Or.inr rfl))) ce_int (fun _ _ => rfl)) ce_int))))))))⟩)
theorem ok_reduced (T : Tx P K mg) : WD.FnG P w K mg base 1 (He.ga K "reduced") ["top", "bottom"] (spM K PM.m_reduced) := by
  refine fn_pm (N := ["top", "bottom", "shared"]) (st := s_reduced) (m := PM.b_reduced) T.f_reduced sc_reduced (by decide) (fun _ _ _ _ _ _ us hl => match us, hl with | [_, _], _ => rfl) (fun cdv A outer s H E hr => ⟨_, by
  unfold PM.b_reduced
  exact (css_cons (cs_asg (ce_callBf cr_gcd calls_gcd (by rfl) T.b_gcd (ca_cons (ce_var 0 rfl (by first | exact Or.inl rfl | exact Or.inr (Or.inl rfl) | exact Or.inr (Or.inr rfl))) (ca_cons (ce_var 1 rfl (by first | exact Or.inl rfl | exact Or.inr (Or.inl rfl) | exact Or.inr (Or.inr rfl))) ca_nil))) (cg_name (i := 2) sc_reduced.nd rfl (.inl rfl))) (css_one (cs_ret (ce_tup (ca_cons (ce_div (ce_var 0 rfl (by first | exact Or.inl rfl | exact Or.inr (Or.inl rfl) | exact Or.inr (Or.inr rfl))) (ce_var 2 rfl (by first | exact Or.inl rfl | exact Or.inr (Or.inl rfl) | exact Or.inr (Or.inr rfl)))) (ca_cons (ce_div (ce_var 1 rfl (by first | exact Or.inl rfl | exact Or.inr (Or.inl rfl) | exact Or.inr (Or.inr rfl))) (ce_var 2 rfl (by first | exact Or.inl rfl | exact Or.inr (Or.inl rfl) | exact Or.inr (Or.inr rfl)))) ca_nil))))))⟩)
theorem ok_exact (T : Tx P K mg) : WD.FnG P w K mg base 2 (He.ga K "exact") ["told"] (spM K PM.m_exact) := by
  refine fn_pm (N := ["told"]) (st := s_exact) (m := PM.b_exact) T.f_exact sc_exact (by decide) (fun _ _ _ _ _ _ us hl => match us, hl with | [_], _ => rfl) (fun cdv A outer s H E hr => ⟨_, by
  unfold PM.b_exact
  exact (css_cons (cs_if (ct_val (ce_is T.kt_none (.inl "tuple") (by decide) (pe_tyN (n := "tuple") (by rfl) T.z_tuple (by decide +kernel)) (by rfl) T.z_isinstance (ce_var 0 rfl (by first | exact Or.inl rfl | exact Or.inr (Or.inl rfl) | exact Or.inr (Or.inr rfl))))) (css_one (cs_ret (ce_call (ok_reduced T) (hr.mono (by decide)) (by rfl) T.m_reduced (ca_cons (ce_ix (ce_var 0 rfl (by first | exact Or.inl rfl | exact Or.inr (Or.inl rfl) | exact Or.inr (Or.inr rfl))) ce_int (fun _ _ => rfl)) (ca_cons (ce_ix (ce_var 0 rfl (by first | exact Or.inl rfl | exact Or.inr (Or.inl rfl) | exact Or.inr (Or.inr rfl))) ce_int (fun _ _ => rfl)) ca_nil))))) css_nil) (css_one (cs_ret (ce_tup (ca_cons (ce_var 0 rfl (by first | exact Or.inl rfl | exact Or.inr (Or.inl rfl) | exact Or.inr (Or.inr rfl))) (ca_cons ce_int ca_nil))))))⟩)
theorem ok_common_bottom (T : Tx P K mg) : WD.FnG P w K mg base 1 (He.ga K "common_bottom") ["fractions"] (spM K PM.m_common_bottom) := by
  refine fn_pm (N := ["fractions", "bottom", "_", "below"]) (st := s_common_bottom) (m := PM.b_common_bottom) T.f_common_bottom sc_common_bottom (by decide) (fun _ _ _ _ _ _ us hl => match us, hl with | [_], _ => rfl) (fun cdv A outer s H E hr => ⟨_, by
  unfold PM.b_common_bottom
  exact (css_cons (cs_asg ce_int (cg_name (i := 1) sc_common_bottom.nd rfl (.inl rfl))) (css_cons (cs_for rfl (ci_seq (ce_var 0 rfl (by first | exact Or.inl rfl | exact Or.inr (Or.inl rfl) | exact Or.inr (Or.inr rfl)))) (cg_tup rfl (cgs_cons (cg_name (i := 2) sc_common_bottom.nd rfl (.inl rfl)) (cgs_cons (cg_name (i := 3) sc_common_bottom.nd rfl (.inl rfl)) cgs_nil))) (css_one (cs_asg (ce_callBf cr_lcm calls_lcm (by rfl) T.b_lcm (ca_cons (ce_var 1 rfl (by first | exact Or.inl rfl | exact Or.inr (Or.inl rfl) | exact Or.inr (Or.inr rfl))) (ca_cons (ce_var 3 rfl (by first | exact Or.inl rfl | exact Or.inr (Or.inl rfl) | exact Or.inr (Or.inr rfl))) ca_nil))) (cg_name (i := 1) sc_common_bottom.nd rfl (.inl rfl))))) (css_one (cs_ret (ce_var 1 rfl (by first | exact Or.inl rfl | exact Or.inr (Or.inl rfl) | exact Or.inr (Or.inr rfl)))))))⟩)
theorem ok_is_round (T : Tx P K mg) : WD.FnG P w K mg base 2 (He.ga K "is_round") ["thing"] (spM K PM.m_is_round) := by
  refine fn_pm (N := ["thing", "step", "rest"]) (st := s_is_round) (m := PM.b_is_round) T.f_is_round sc_is_round (by decide) (fun _ _ _ _ _ _ us hl => match us, hl with | [_], _ => rfl) (fun cdv A outer s H E hr => ⟨_, by
  unfold PM.b_is_round
  exact (css_cons (cs_if (ct_in (u65 hr) (ce_var 0 rfl (by first | exact Or.inl rfl | exact Or.inr (Or.inl rfl) | exact Or.inr (Or.inr rfl))) (ce_tup (ca_cons (ce_tup (ca_cons ce_str ca_nil)) (ca_cons (ce_tup (ca_cons ce_str ca_nil)) ca_nil))) (by rfl)) (css_one (cs_ret ce_bl)) css_nil) (css_cons (cs_if (cw_t (cw_or (ct_not (ct_val (ce_is T.kt_none (.inl "tuple") (by decide) (pe_tyN (n := "tuple") (by rfl) T.z_tuple (by decide +kernel)) (by rfl) T.z_isinstance (ce_var 0 rfl (by first | exact Or.inl rfl | exact Or.inr (Or.inl rfl) | exact Or.inr (Or.inr rfl)))))) (cw_or (ct_ne hr.units (ce_callBK rLenS call_lenS calls_len (by rfl) T.z_len PySem.boot_len (ca_cons (ce_var 0 rfl (by first | exact Or.inl rfl | exact Or.inr (Or.inl rfl) | exact Or.inr (Or.inr rfl))) ca_nil)) ce_int) (cw_or1 (ct_ne hr.units (ce_ix (ce_var 0 rfl (by first | exact Or.inl rfl | exact Or.inr (Or.inl rfl) | exact Or.inr (Or.inr rfl))) ce_int (fun _ _ => rfl)) ce_str))))) (css_one (cs_ret ce_bl)) css_nil) (css_cons (cs_asg (ce_sl (ce_var 0 rfl (by first | exact Or.inl rfl | exact Or.inr (Or.inl rfl) | exact Or.inr (Or.inr rfl))) (co_some ce_int) co_none) (cg_tup rfl (cgs_cons (cg_name (i := 1) sc_is_round.nd rfl (.inl rfl)) (cgs_cons (cg_name (i := 2) sc_is_round.nd rfl (.inl rfl)) cgs_nil)))) (css_one (cs_ret (ce_and (ce_call (ok_is_integer T) (hr.mono (by decide)) (by rfl) T.m_is_integer (ca_cons (ce_var 1 rfl (by first | exact Or.inl rfl | exact Or.inr (Or.inl rfl) | exact Or.inr (Or.inr rfl))) ca_nil)) (ce_and (ce_call (ok_is_integer T) (hr.mono (by decide)) (by rfl) T.m_is_integer (ca_cons (ce_var 2 rfl (by first | exact Or.inl rfl | exact Or.inr (Or.inl rfl) | exact Or.inr (Or.inr rfl))) ca_nil)) (ce_and (ce_chain op_le op_le (ops_le _) (ops_le _) ce_int (ce_var 1 rfl (by first | exact Or.inl rfl | exact Or.inr (Or.inl rfl) | exact Or.inr (Or.inr rfl))) ce_int) (ce_one (ce_chain op_le op_lt (ops_le _) (ops_lt _) ce_int (ce_var 2 rfl (by first | exact Or.inl rfl | exact Or.inr (Or.inl rfl) | exact Or.inr (Or.inr rfl))) (ce_var 1 rfl (by first | exact Or.inl rfl | exact Or.inr (Or.inl rfl) | exact Or.inr (Or.inr rfl)))))))))))))⟩)
theorem ok_check_rounds (T : Tx P K mg) : WD.FnG P w K mg base 3 (He.ga K "check_rounds") ["rounds"] (spM K PM.m_check_rounds) := by
  refine fn_pm (N := ["rounds", "place", "told"]) (st := s_check_rounds) (m := PM.b_check_rounds) T.f_check_rounds sc_check_rounds (by decide) (fun _ _ _ _ _ _ us hl => match us, hl with | [_], _ => rfl) (fun cdv A outer s H E hr => ⟨_, by
  unfold PM.b_check_rounds
  exact (css_cons (cs_if (cw_t (cw_or (ct_not (ct_val (ce_isT T.kt_none (.inl "list") (.inl "tuple") (by decide) (by decide) (pe_tyN (n := "list") (by rfl) T.z_list (by decide +kernel)) (pe_tyN (n := "tuple") (by rfl) T.z_tuple (by decide +kernel)) (by rfl) T.z_isinstance (ce_var 0 rfl (by first | exact Or.inl rfl | exact Or.inr (Or.inl rfl) | exact Or.inr (Or.inr rfl)))))) (cw_or1 (ct_gt (ce_callBK rLenS call_lenS calls_len (by rfl) T.z_len PySem.boot_len (ca_cons (ce_var 0 rfl (by first | exact Or.inl rfl | exact Or.inr (Or.inl rfl) | exact Or.inr (Or.inr rfl))) ca_nil)) (ce_globI (by rfl) T.i_MOST_ROUNDS))))) (css_one (cs_raise1 rfl (T.s_BadProgram T.hp T.ht) hr ce_non (by rfl))) css_nil) (css_one (cs_for rfl (ci_num (by rfl) T.z_enumerate (ce_var 0 rfl (by first | exact Or.inl rfl | exact Or.inr (Or.inl rfl) | exact Or.inr (Or.inr rfl)))) (cg_tup rfl (cgs_cons (cg_name (i := 1) sc_check_rounds.nd rfl (.inl rfl)) (cgs_cons (cg_name (i := 2) sc_check_rounds.nd rfl (.inl rfl)) cgs_nil))) (css_one (cs_if (ct_not (ct_val (ce_call (ok_is_round T) (hr.mono (by decide)) (by rfl) T.m_is_round (ca_cons (ce_var 2 rfl (by first | exact Or.inl rfl | exact Or.inr (Or.inl rfl) | exact Or.inr (Or.inr rfl))) ca_nil)))) (css_one (cs_raise1 rfl (T.s_BadProgram T.hp T.ht) hr (ce_var 1 rfl (by first | exact Or.inl rfl | exact Or.inr (Or.inl rfl) | exact Or.inr (Or.inr rfl))) (by rfl))) css_nil)))))⟩)
theorem ok_Program___init__ (T : Tx P K mg) : WD.FnG P w K mg base 4 (He.ma K (He.ga K "Program") "__init__") ["self", "rounds"] (spM K PM.m_Program___init__) := by
  refine fn_pm (N := ["self", "rounds"]) (st := s_Program___init__) (m := PM.b_Program___init__) T.f_Program___init__ sc_Program___init__ (by decide) (fun _ _ _ _ _ _ us hl => match us, hl with | [_, _], _ => rfl) (fun cdv A outer s H E hr => ⟨_, by
  unfold PM.b_Program___init__
  exact (css_cons (cs_expr (ce_call (ok_check_rounds T) (hr.mono (by decide)) (by rfl) T.m_check_rounds (ca_cons (ce_var 1 rfl (by first | exact Or.inl rfl | exact Or.inr (Or.inl rfl) | exact Or.inr (Or.inr rfl))) ca_nil))) (css_one (cs_fld ["Program"] (fo_cons T.c_Program T.n_Program_rounds fo_nil) (ce_var 0 rfl (by first | exact Or.inl rfl | exact Or.inr (Or.inl rfl) | exact Or.inr (Or.inr rfl))) (ce_callTyK WD.rTupS WD.call_tupS calls_tuple (by rfl) T.z_tuple (by decide +kernel) (ca_cons (ce_var 1 rfl (by first | exact Or.inl rfl | exact Or.inr (Or.inl rfl) | exact Or.inr (Or.inr rfl))) ca_nil)) rfl)))⟩)
theorem ok_Program___len__ (T : Tx P K mg) : WD.FnG P w K mg base 1 (He.ma K (He.ga K "Program") "__len__") ["self"] (spM K PM.m_Program___len__) := by
  refine fn_pm (N := ["self"]) (st := s_Program___len__) (m := PM.b_Program___len__) T.f_Program___len__ sc_Program___len__ (by decide) (fun _ _ _ _ _ _ us hl => match us, hl with | [_], _ => rfl) (fun cdv A outer s H E hr => ⟨_, by
  unfold PM.b_Program___len__
  exact (css_one (cs_ret (ce_callBK rLenS call_lenS calls_len (by rfl) T.z_len PySem.boot_len (ca_cons (ce_fld ["Program"] (fo_cons T.c_Program T.n_Program_rounds fo_nil) (ce_var 0 rfl (by first | exact Or.inl rfl | exact Or.inr (Or.inl rfl) | exact Or.inr (Or.inr rfl))) rfl) ca_nil))))⟩)
theorem ok_Program___eq__ (T : Tx P K mg) : WD.FnG P w K mg base 1 (He.ma K (He.ga K "Program") "__eq__") ["self", "other"] (spM K PM.m_Program___eq__) := by
  refine fn_pm (N := ["self", "other"]) (st := s_Program___eq__) (m := PM.b_Program___eq__) T.f_Program___eq__ sc_Program___eq__ (by decide) (fun _ _ _ _ _ _ us hl => match us, hl with | [_, _], _ => rfl) (fun cdv A outer s H E hr => ⟨_, by
  unfold PM.b_Program___eq__
  exact (css_one (cs_ret (ce_and (ce_is T.kt_Program (.inr "Program") (by decide) (pe_clsN (by rfl) T.m_Program) (by rfl) T.z_isinstance (ce_var 1 rfl (by first | exact Or.inl rfl | exact Or.inr (Or.inl rfl) | exact Or.inr (Or.inr rfl)))) (ce_one (ce_eq hr.units (ce_fld ["Program"] (fo_cons T.c_Program T.n_Program_rounds fo_nil) (ce_var 0 rfl (by first | exact Or.inl rfl | exact Or.inr (Or.inl rfl) | exact Or.inr (Or.inr rfl))) rfl) (ce_fld ["Program"] (fo_cons T.c_Program T.n_Program_rounds fo_nil) (ce_var 1 rfl (by first | exact Or.inl rfl | exact Or.inr (Or.inl rfl) | exact Or.inr (Or.inr rfl))) rfl))))))⟩)
theorem ok_Program___add__ (T : Tx P K mg) : WD.FnG P w K mg base 6 (He.ma K (He.ga K "Program") "__add__") ["self", "other"] (spM K PM.m_Program___add__) := by
  refine fn_pm (N := ["self", "other"]) (st := s_Program___add__) (m := PM.b_Program___add__) T.f_Program___add__ sc_Program___add__ (by decide) (fun _ _ _ _ _ _ us hl => match us, hl with | [_, _], _ => rfl) (fun cdv A outer s H E hr => ⟨_, by
  unfold PM.b_Program___add__
  exact (css_cons (cs_if (ct_not (ct_val (ce_is T.kt_Program (.inr "Program") (by decide) (pe_clsN (by rfl) T.m_Program) (by rfl) T.z_isinstance (ce_var 1 rfl (by first | exact Or.inl rfl | exact Or.inr (Or.inl rfl) | exact Or.inr (Or.inr rfl)))))) (css_one cs_no) css_nil) (css_one (cs_ret (ce_make false T.k_Program (ok_Program___init__ T) (hr.mono (by decide)) (by rfl) T.m_Program (ca_cons (ce_add (ce_fld ["Program"] (fo_cons T.c_Program T.n_Program_rounds fo_nil) (ce_var 0 rfl (by first | exact Or.inl rfl | exact Or.inr (Or.inl rfl) | exact Or.inr (Or.inr rfl))) rfl) (ce_fld ["Program"] (fo_cons T.c_Program T.n_Program_rounds fo_nil) (ce_var 1 rfl (by first | exact Or.inl rfl | exact Or.inr (Or.inl rfl) | exact Or.inr (Or.inr rfl))) rfl)) ca_nil)))))⟩)
theorem ok_check_told (T : Tx P K mg) : WD.FnG P w K mg base 3 (He.ga K "check_told") ["volumes"] (spM K PM.m_check_told) := by
  refine fn_pm (N := ["volumes", "volume"]) (st := s_check_told) (m := PM.b_check_told) T.f_check_told sc_check_told (by decide) (fun _ _ _ _ _ _ us hl => match us, hl with | [_], _ => rfl) (fun cdv A outer s H E hr => ⟨_, by
  unfold PM.b_check_told
  exact (css_cons (cs_if (cw_t (cw_or (ct_not (ct_val (ce_isT T.kt_none (.inl "list") (.inl "tuple") (by decide) (by decide) (pe_tyN (n := "list") (by rfl) T.z_list (by decide +kernel)) (pe_tyN (n := "tuple") (by rfl) T.z_tuple (by decide +kernel)) (by rfl) T.z_isinstance (ce_var 0 rfl (by first | exact Or.inl rfl | exact Or.inr (Or.inl rfl) | exact Or.inr (Or.inr rfl)))))) (cw_or1 (ct_not (ct_chain op_le op_le (ops_le _) (ops_le _) ce_int (ce_callBK rLenS call_lenS calls_len (by rfl) T.z_len PySem.boot_len (ca_cons (ce_var 0 rfl (by first | exact Or.inl rfl | exact Or.inr (Or.inl rfl) | exact Or.inr (Or.inr rfl))) ca_nil)) (ce_globI (by rfl) T.i_MOST_MANY)))))) (css_one (cs_raise0 rfl (pmk_own PySem.F.excBase_ValueError T.q_BadStart T.m_BadStart T.p_BadStart (raises_own T.u_BadStart T.v_BadStart) (by rfl)))) css_nil) (css_one (cs_for rfl (ci_seq (ce_var 0 rfl (by first | exact Or.inl rfl | exact Or.inr (Or.inl rfl) | exact Or.inr (Or.inr rfl)))) (cg_name (i := 1) sc_check_told.nd rfl (.inl rfl)) (css_one (cs_if (ct_not (ct_val (ce_call (ok_is_fraction T) (hr.mono (by decide)) (by rfl) T.m_is_fraction (ca_cons (ce_var 1 rfl (by first | exact Or.inl rfl | exact Or.inr (Or.inl rfl) | exact Or.inr (Or.inr rfl))) ca_nil)))) (css_one (cs_raise0 rfl (pmk_own PySem.F.excBase_ValueError T.q_BadStart T.m_BadStart T.p_BadStart (raises_own T.u_BadStart T.v_BadStart) (by rfl)))) css_nil)))))⟩)
theorem ok_openings (T : Tx P K mg) : WD.FnG P w K mg base 1 (He.ga K "openings") ["rounds", "many"] (spM K PM.m_openings) := by
  refine fn_pm (N := ["rounds", "many", "found", "told", "weir"]) (st := s_openings) (m := PM.b_openings) T.f_openings sc_openings (by decide) (fun _ _ _ _ _ _ us hl => match us, hl with | [_, _], _ => rfl) (fun cdv A outer s H E hr => ⟨_, by
  unfold PM.b_openings
  exact (css_cons (cs_asg (ce_lstC ca_nil) (cg_name (i := 2) sc_openings.nd rfl (.inl rfl))) (css_cons (cs_for rfl (ci_seq (ce_var 0 rfl (by first | exact Or.inl rfl | exact Or.inr (Or.inl rfl) | exact Or.inr (Or.inr rfl)))) (cg_name (i := 3) sc_openings.nd rfl (.inr rfl)) (css_one (cs_if (ct_eq hr.units (ce_ix (ce_var 3 rfl (by first | exact Or.inl rfl | exact Or.inr (Or.inl rfl) | exact Or.inr (Or.inr rfl))) ce_int (fun _ _ => rfl)) ce_str) (css_one (cs_expr (ce_extend (ce_var 2 rfl (by first | exact Or.inl rfl | exact Or.inr (Or.inl rfl) | exact Or.inr (Or.inr rfl))) (ca_cons (ce_listRg rfl (by rfl) T.z_list (by rfl) T.z_range ce_int (ce_var 1 rfl (by first | exact Or.inl rfl | exact Or.inr (Or.inl rfl) | exact Or.inr (Or.inr rfl)))) ca_nil)))) (css_one (cs_if (ct_eq hr.units (ce_ix (ce_var 3 rfl (by first | exact Or.inl rfl | exact Or.inr (Or.inl rfl) | exact Or.inr (Or.inr rfl))) ce_int (fun _ _ => rfl)) ce_str) (css_one (cs_expr (ce_extend (ce_var 2 rfl (by first | exact Or.inl rfl | exact Or.inr (Or.inl rfl) | exact Or.inr (Or.inr rfl))) (ca_cons (ce_listRg3 rfl (by rfl) T.z_list (by rfl) T.z_range (ca_cons (ce_sub (ce_var 1 rfl (by first | exact Or.inl rfl | exact Or.inr (Or.inl rfl) | exact Or.inr (Or.inr rfl))) ce_int) (ca_cons ce_int (ca_cons (ce_neg ce_int) ca_nil)))) ca_nil)))) (css_one (cs_expr (ce_extend (ce_var 2 rfl (by first | exact Or.inl rfl | exact Or.inr (Or.inl rfl) | exact Or.inr (Or.inr rfl))) (ca_cons (ce_lc false (own := [("weir", 4)]) rfl sc_openings.nd (ci_range2 (by rfl) T.z_range (ca_cons ce_int (ca_cons (ce_var 1 rfl (by first | exact Or.inl rfl | exact Or.inr (Or.inl rfl) | exact Or.inr (Or.inr rfl))) ca_nil))) (blkOk_by (own := [("weir", 4)]) (N := ["rounds", "many", "found", "told", "weir"]) (sc := defScope s_openings) (by decide +kernel)) (fun _ _ _ _ _ => (cg_name (i := 4) sc_openings.nd rfl (.inl rfl))) (keep_gname (by decide)) (fun _ _ _ _ _ => (cts_one (ct_eq hr.units (ce_mod (ce_var 4 rfl (by first | exact Or.inl rfl | exact Or.inr (Or.inl rfl) | exact Or.inr (Or.inr rfl))) (ce_ix (ce_var 3 rfl (by first | exact Or.inl rfl | exact Or.inr (Or.inl rfl) | exact Or.inr (Or.inr rfl))) ce_int (fun _ _ => rfl))) (ce_ix (ce_var 3 rfl (by first | exact Or.inl rfl | exact Or.inr (Or.inl rfl) | exact Or.inr (Or.inr rfl))) ce_int (fun _ _ => rfl))))) (fun _ _ _ _ _ => (ce_var 4 rfl (by first | exact Or.inl rfl | exact Or.inr (Or.inl rfl) | exact Or.inr (Or.inr rfl))))) ca_nil))))))))) (css_one (cs_frz 2 (cs_ret (ce_var 2 rfl (by first | exact Or.inl rfl | exact Or.inr (Or.inl rfl) | exact Or.inr (Or.inr rfl))))))))⟩)
theorem ok_evened (T : Tx P K mg) : WD.FnG P w K mg base 2 (He.ga K "evened") ["rounds", "tops"] (spM K PM.m_evened) := by
  refine fn_pm (N := ["rounds", "tops", "late", "weir"]) (st := s_evened) (m := PM.b_evened) T.f_evened sc_evened (by decide) (fun _ _ _ _ _ _ us hl => match us, hl with | [_, _], _ => rfl) (fun cdv A outer s H E hr => ⟨_, by
  unfold PM.b_evened
  exact (css_cons (cs_asg (ce_callTyK rListS call_listS calls_listC (by rfl) T.z_list (by decide +kernel) (ca_cons (ce_var 1 rfl (by first | exact Or.inl rfl | exact Or.inr (Or.inl rfl) | exact Or.inr (Or.inr rfl))) ca_nil)) (cg_name (i := 2) sc_evened.nd rfl (.inl rfl))) (css_cons (cs_for rfl (ci_seq (ce_call (ok_openings T) (hr.mono (by decide)) (by rfl) T.m_openings (ca_cons (ce_var 0 rfl (by first | exact Or.inl rfl | exact Or.inr (Or.inl rfl) | exact Or.inr (Or.inr rfl))) (ca_cons (ce_callBK rLenS call_lenS calls_len (by rfl) T.z_len PySem.boot_len (ca_cons (ce_var 2 rfl (by first | exact Or.inl rfl | exact Or.inr (Or.inl rfl) | exact Or.inr (Or.inr rfl))) ca_nil)) ca_nil)))) (cg_name (i := 3) sc_evened.nd rfl (.inl rfl)) (css_one (cs_set2 (ce_shr (ce_add (ce_ix (ce_var 2 rfl (by first | exact Or.inl rfl | exact Or.inr (Or.inl rfl) | exact Or.inr (Or.inr rfl))) (ce_sub (ce_var 3 rfl (by first | exact Or.inl rfl | exact Or.inr (Or.inl rfl) | exact Or.inr (Or.inr rfl))) ce_int) (fun _ _ => rfl)) (ce_ix (ce_var 2 rfl (by first | exact Or.inl rfl | exact Or.inr (Or.inl rfl) | exact Or.inr (Or.inr rfl))) (ce_var 3 rfl (by first | exact Or.inl rfl | exact Or.inr (Or.inl rfl) | exact Or.inr (Or.inr rfl))) (fun _ _ => rfl))) ce_int) (ce_var 2 rfl (by first | exact Or.inl rfl | exact Or.inr (Or.inl rfl) | exact Or.inr (Or.inr rfl))) (ce_sub (ce_var 3 rfl (by first | exact Or.inl rfl | exact Or.inr (Or.inl rfl) | exact Or.inr (Or.inr rfl))) ce_int) (ce_var 2 rfl (by first | exact Or.inl rfl | exact Or.inr (Or.inl rfl) | exact Or.inr (Or.inr rfl))) (ce_var 3 rfl (by first | exact Or.inl rfl | exact Or.inr (Or.inl rfl) | exact Or.inr (Or.inr rfl))) (fun y => pg_sub (((ce_var 2 rfl (by first | exact Or.inl rfl | exact Or.inr (Or.inl rfl) | exact Or.inr (Or.inr rfl)))).pe y) (((ce_sub (ce_var 3 rfl (by first | exact Or.inl rfl | exact Or.inr (Or.inl rfl) | exact Or.inr (Or.inr rfl))) ce_int)).pe y) set_list) (fun y => pg_sub (((ce_var 2 rfl (by first | exact Or.inl rfl | exact Or.inr (Or.inl rfl) | exact Or.inr (Or.inr rfl)))).pe y) (((ce_var 3 rfl (by first | exact Or.inl rfl | exact Or.inr (Or.inl rfl) | exact Or.inr (Or.inr rfl)))).pe y) set_list)))) (css_one (cs_frz 2 (cs_ret (ce_var 2 rfl (by first | exact Or.inl rfl | exact Or.inr (Or.inl rfl) | exact Or.inr (Or.inr rfl))))))))⟩)
end
end Lk11
end
section
set_option Elab.async false
set_option linter.all false
set_option maxRecDepth 100000
set_option maxHeartbeats 4000000
namespace Lk11
open PySem PySem.Spec PyProof.Rows L2 Evl PM
open WD (pe_tyN pe_clsN cr_lcm call_lenS call_listS call_tupS call_absS call_maxS call_minS call_intS)
section
variable {P : Program} {w : World} {K : PySem.W.Frag} {mg : Str → Option Value} {base : Heap}
theorem ok_halvings (T : Tx P K mg) : WD.FnG P w K mg base 1 (He.ga K "halvings") ["rounds", "many"] (spM K PM.m_halvings) := by
  refine fn_pm (N := ["rounds", "many", "told"]) (st := s_halvings) (m := PM.b_halvings) T.f_halvings sc_halvings (by decide) (fun _ _ _ _ _ _ us hl => match us, hl with | [_, _], _ => rfl) (fun cdv A outer s H E hr => ⟨_, by
  unfold PM.b_halvings
  exact (css_one (cs_ret (ce_callBK rSum (cr_sum rfl) calls_sum (by rfl) T.z_sum (by decide +kernel) (ca_cons (ce_lc false (own := [("told", 2)]) rfl sc_halvings.nd (ci_seq (ce_var 0 rfl (by first | exact Or.inl rfl | exact Or.inr (Or.inl rfl) | exact Or.inr (Or.inr rfl)))) (blkOk_by (own := [("told", 2)]) (N := ["rounds", "many", "told"]) (sc := defScope s_halvings) (by decide +kernel)) (fun _ _ _ _ _ => (cg_name (i := 2) sc_halvings.nd rfl (.inl rfl))) (keep_gname (by decide)) (fun _ _ _ _ _ => cts_nil) (fun _ _ _ _ _ => (ce_if (ct_in (u65 hr) (ce_ix (ce_var 2 rfl (by first | exact Or.inl rfl | exact Or.inr (Or.inl rfl) | exact Or.inr (Or.inr rfl))) ce_int (fun _ _ => rfl)) (ce_tup (ca_cons ce_str (ca_cons ce_str ca_nil))) (by rfl)) (ce_sub (ce_var 1 rfl (by first | exact Or.inl rfl | exact Or.inr (Or.inl rfl) | exact Or.inr (Or.inr rfl))) ce_int) ce_int))) ca_nil))))⟩)
theorem ok_Program_done (T : Tx P K mg) : WD.FnG P w K mg base 4 (He.ma K (He.ga K "Program") "done") ["self", "volumes"] (spM K PM.m_Program_done) := by
  refine fn_pm (N := ["self", "volumes", "told", "bottom", "often", "tops", "volume", "top", "under"]) (st := s_Program_done) (m := PM.b_Program_done) T.f_Program_done sc_Program_done (by decide) (fun _ _ _ _ _ _ us hl => match us, hl with | [_, _], _ => rfl) (fun cdv A outer s H E hr => ⟨_, by
  unfold PM.b_Program_done
  exact (css_cons (cs_expr (ce_call (ok_check_told T) (hr.mono (by decide)) (by rfl) T.m_check_told (ca_cons (ce_var 1 rfl (by first | exact Or.inl rfl | exact Or.inr (Or.inl rfl) | exact Or.inr (Or.inr rfl))) ca_nil))) (css_cons (cs_setLc false (i := 2) (own := [("volume", 6)]) rfl sc_Program_done.nd rfl rfl (sw_true rfl rfl rfl (by decide +kernel)) (ci_seq (ce_var 1 rfl (by first | exact Or.inl rfl | exact Or.inr (Or.inl rfl) | exact Or.inr (Or.inr rfl)))) (blkOk_by (own := [("volume", 6)]) (N := ["self", "volumes", "told", "bottom", "often", "tops", "volume", "top", "under"]) (sc := defScope s_Program_done) (by decide +kernel)) (fun _ _ _ _ _ => (cg_name (i := 6) sc_Program_done.nd rfl (.inl rfl))) (keep_gname (by decide)) (fun _ _ _ _ _ => cts_nil) (fun _ _ _ _ _ => (ce_call (ok_exact T) (hr.mono (by decide)) (by rfl) T.m_exact (ca_cons (ce_var 6 rfl (by first | exact Or.inl rfl | exact Or.inr (Or.inl rfl) | exact Or.inr (Or.inr rfl))) ca_nil)))) (css_cons (cs_asg (ce_call (ok_common_bottom T) (hr.mono (by decide)) (by rfl) T.m_common_bottom (ca_cons (ce_var 2 rfl (by first | exact Or.inl rfl | exact Or.inr (Or.inl rfl) | exact Or.inr (Or.inr rfl))) ca_nil)) (cg_name (i := 3) sc_Program_done.nd rfl (.inr rfl))) (css_cons (cs_asg (ce_call (ok_halvings T) (hr.mono (by decide)) (by rfl) T.m_halvings (ca_cons (ce_fld ["Program"] (fo_cons T.c_Program T.n_Program_rounds fo_nil) (ce_var 0 rfl (by first | exact Or.inl rfl | exact Or.inr (Or.inl rfl) | exact Or.inr (Or.inr rfl))) rfl) (ca_cons (ce_callBK rLenS call_lenS calls_len (by rfl) T.z_len PySem.boot_len (ca_cons (ce_var 2 rfl (by first | exact Or.inl rfl | exact Or.inr (Or.inl rfl) | exact Or.inr (Or.inr rfl))) ca_nil)) ca_nil))) (cg_name (i := 4) sc_Program_done.nd rfl (.inr rfl))) (css_cons (cs_setLc false (i := 5) (own := [("top", 7), ("under", 8)]) rfl sc_Program_done.nd rfl rfl (sw_true rfl rfl rfl (by decide +kernel)) (ci_seq (ce_var 2 rfl (by first | exact Or.inl rfl | exact Or.inr (Or.inl rfl) | exact Or.inr (Or.inr rfl)))) (blkOk_by (own := [("top", 7), ("under", 8)]) (N := ["self", "volumes", "told", "bottom", "often", "tops", "volume", "top", "under"]) (sc := defScope s_Program_done) (by decide +kernel)) (fun _ _ _ _ _ => (cg_tup rfl (cgs_cons (cg_name (i := 7) sc_Program_done.nd rfl (.inl rfl)) (cgs_cons (cg_name (i := 8) sc_Program_done.nd rfl (.inl rfl)) cgs_nil)))) (keep_gtup (keepgs_cons (keep_gname (by decide)) (keepgs_cons (keep_gname (by decide)) keepgs_nil mono_gname) mono_gname)) (fun _ _ _ _ _ => cts_nil) (fun _ _ _ _ _ => (ce_shl (ce_mul (ce_var 7 rfl (by first | exact Or.inl rfl | exact Or.inr (Or.inl rfl) | exact Or.inr (Or.inr rfl))) (ce_div (ce_var 3 rfl (by first | exact Or.inl rfl | exact Or.inr (Or.inl rfl) | exact Or.inr (Or.inr rfl))) (ce_var 8 rfl (by first | exact Or.inl rfl | exact Or.inr (Or.inl rfl) | exact Or.inr (Or.inr rfl))))) (ce_var 4 rfl (by first | exact Or.inl rfl | exact Or.inr (Or.inl rfl) | exact Or.inr (Or.inr rfl)))))) (css_one (cs_ret (ce_callTyK WD.rTupS WD.call_tupS calls_tuple (by rfl) T.z_tuple (by decide +kernel) (ca_cons (ce_lc false (own := [("top", 7)]) rfl sc_Program_done.nd (ci_seq (ce_call (ok_evened T) (hr.mono (by decide)) (by rfl) T.m_evened (ca_cons (ce_fld ["Program"] (fo_cons T.c_Program T.n_Program_rounds fo_nil) (ce_var 0 rfl (by first | exact Or.inl rfl | exact Or.inr (Or.inl rfl) | exact Or.inr (Or.inr rfl))) rfl) (ca_cons (ce_var 5 rfl (by first | exact Or.inl rfl | exact Or.inr (Or.inl rfl) | exact Or.inr (Or.inr rfl))) ca_nil)))) (blkOk_by (own := [("top", 7)]) (N := ["self", "volumes", "told", "bottom", "often", "tops", "volume", "top", "under"]) (sc := defScope s_Program_done) (by decide +kernel)) (fun _ _ _ _ _ => (cg_name (i := 7) sc_Program_done.nd rfl (.inl rfl))) (keep_gname (by decide)) (fun _ _ _ _ _ => cts_nil) (fun _ _ _ _ _ => (ce_call (ok_reduced T) (hr.mono (by decide)) (by rfl) T.m_reduced (ca_cons (ce_var 7 rfl (by first | exact Or.inl rfl | exact Or.inr (Or.inl rfl) | exact Or.inr (Or.inr rfl))) (ca_cons (ce_shl (ce_var 3 rfl (by first | exact Or.inl rfl | exact Or.inr (Or.inl rfl) | exact Or.inr (Or.inr rfl))) (ce_var 4 rfl (by first | exact Or.inl rfl | exact Or.inr (Or.inl rfl) | exact Or.inr (Or.inr rfl)))) ca_nil))))) ca_nil)))))))))⟩)
theorem ok_check_program (T : Tx P K mg) : WD.FnG P w K mg base 1 (He.ga K "check_program") ["program"] (spM K PM.m_check_program) := by
  refine fn_pm (N := ["program"]) (st := s_check_program) (m := PM.b_check_program) T.f_check_program sc_check_program (by decide) (fun _ _ _ _ _ _ us hl => match us, hl with | [_], _ => rfl) (fun cdv A outer s H E hr => ⟨_, by
  unfold PM.b_check_program
  exact (css_one (cs_if (ct_not (ct_val (ce_is T.kt_Program (.inr "Program") (by decide) (pe_clsN (by rfl) T.m_Program) (by rfl) T.z_isinstance (ce_var 0 rfl (by first | exact Or.inl rfl | exact Or.inr (Or.inl rfl) | exact Or.inr (Or.inr rfl)))))) (css_one (cs_raise1 rfl (T.s_BadProgram T.hp T.ht) hr ce_non (by rfl))) css_nil))⟩)
theorem ok_check_many (T : Tx P K mg) : WD.FnG P w K mg base 2 (He.ga K "check_many") ["many"] (spM K PM.m_check_many) := by
  refine fn_pm (N := ["many"]) (st := s_check_many) (m := PM.b_check_many) T.f_check_many sc_check_many (by decide) (fun _ _ _ _ _ _ us hl => match us, hl with | [_], _ => rfl) (fun cdv A outer s H E hr => ⟨_, by
  unfold PM.b_check_many
  exact (css_one (cs_if (cw_t (cw_or (ct_not (ct_val (ce_call (ok_is_integer T) (hr.mono (by decide)) (by rfl) T.m_is_integer (ca_cons (ce_var 0 rfl (by first | exact Or.inl rfl | exact Or.inr (Or.inl rfl) | exact Or.inr (Or.inr rfl))) ca_nil)))) (cw_or1 (ct_not (ct_chain op_le op_le (ops_le _) (ops_le _) ce_int (ce_var 0 rfl (by first | exact Or.inl rfl | exact Or.inr (Or.inl rfl) | exact Or.inr (Or.inr rfl))) (ce_globI (by rfl) T.i_MOST_MANY)))))) (css_one (cs_raise0 rfl (pmk_own PySem.F.excBase_ValueError T.q_BadStart T.m_BadStart T.p_BadStart (raises_own T.u_BadStart T.v_BadStart) (by rfl)))) css_nil))⟩)
theorem ok_common_step (T : Tx P K mg) : WD.FnG P w K mg base 1 (He.ga K "common_step") ["one", "other"] (spM K PM.m_common_step) := by
  refine fn_pm (N := ["one", "other", "step", "told"]) (st := s_common_step) (m := PM.b_common_step) T.f_common_step sc_common_step (by decide) (fun _ _ _ _ _ _ us hl => match us, hl with | [_, _], _ => rfl) (fun cdv A outer s H E hr => ⟨_, by
  unfold PM.b_common_step
  exact (css_cons (cs_asg ce_int (cg_name (i := 2) sc_common_step.nd rfl (.inl rfl))) (css_cons (cs_for rfl (ci_seq (ce_add (ce_fld ["Program"] (fo_cons T.c_Program T.n_Program_rounds fo_nil) (ce_var 0 rfl (by first | exact Or.inl rfl | exact Or.inr (Or.inl rfl) | exact Or.inr (Or.inr rfl))) rfl) (ce_fld ["Program"] (fo_cons T.c_Program T.n_Program_rounds fo_nil) (ce_var 1 rfl (by first | exact Or.inl rfl | exact Or.inr (Or.inl rfl) | exact Or.inr (Or.inr rfl))) rfl))) (cg_name (i := 3) sc_common_step.nd rfl (.inl rfl)) (css_one (cs_if (ct_eq hr.units (ce_ix (ce_var 3 rfl (by first | exact Or.inl rfl | exact Or.inr (Or.inl rfl) | exact Or.inr (Or.inr rfl))) ce_int (fun _ _ => rfl)) ce_str) (css_one (cs_asg (ce_callBf cr_lcm calls_lcm (by rfl) T.b_lcm (ca_cons (ce_var 2 rfl (by first | exact Or.inl rfl | exact Or.inr (Or.inl rfl) | exact Or.inr (Or.inr rfl))) (ca_cons (ce_ix (ce_var 3 rfl (by first | exact Or.inl rfl | exact Or.inr (Or.inl rfl) | exact Or.inr (Or.inr rfl))) ce_int (fun _ _ => rfl)) ca_nil))) (cg_name (i := 2) sc_common_step.nd rfl (.inl rfl)))) css_nil))) (css_one (cs_ret (ce_var 2 rfl (by first | exact Or.inl rfl | exact Or.inr (Or.inl rfl) | exact Or.inr (Or.inr rfl)))))))⟩)
theorem ok_EvenAlways___init__ (T : Tx P K mg) : WD.FnG P w K mg base 1 (He.ma K (He.ga K "EvenAlways") "__init__") ["self", "rounds"] (spM K PM.m_EvenAlways___init__) := by
  refine fn_pm (N := ["self", "rounds"]) (st := s_EvenAlways___init__) (m := PM.b_EvenAlways___init__) T.f_EvenAlways___init__ sc_EvenAlways___init__ (by decide) (fun _ _ _ _ _ _ us hl => match us, hl with | [_, _], _ => rfl) (fun cdv A outer s H E hr => ⟨_, by
  unfold PM.b_EvenAlways___init__
  exact (css_one (cs_fld ["EvenAlways"] (fo_cons T.c_EvenAlways T.n_EvenAlways_rounds fo_nil) (ce_var 0 rfl (by first | exact Or.inl rfl | exact Or.inr (Or.inl rfl) | exact Or.inr (Or.inr rfl))) (ce_callTyK rListS call_listS calls_list (by rfl) T.z_list (by decide +kernel) (ca_cons (ce_var 1 rfl (by first | exact Or.inl rfl | exact Or.inr (Or.inl rfl) | exact Or.inr (Or.inr rfl))) ca_nil)) rfl))⟩)
theorem ok_EvenAlways___eq__ (T : Tx P K mg) : WD.FnG P w K mg base 1 (He.ma K (He.ga K "EvenAlways") "__eq__") ["self", "other"] (spM K PM.m_EvenAlways___eq__) := by
  refine fn_pm (N := ["self", "other"]) (st := s_EvenAlways___eq__) (m := PM.b_EvenAlways___eq__) T.f_EvenAlways___eq__ sc_EvenAlways___eq__ (by decide) (fun _ _ _ _ _ _ us hl => match us, hl with | [_, _], _ => rfl) (fun cdv A outer s H E hr => ⟨_, by
  unfold PM.b_EvenAlways___eq__
  exact (css_one (cs_ret (ce_and (ce_is T.kt_EvenAlways_Parted (.inr "EvenAlways") (by decide) (pe_clsN (by rfl) T.m_EvenAlways) (by rfl) T.z_isinstance (ce_var 1 rfl (by first | exact Or.inl rfl | exact Or.inr (Or.inl rfl) | exact Or.inr (Or.inr rfl)))) (ce_one (ce_eq hr.units (ce_fld ["EvenAlways"] (fo_cons T.c_EvenAlways T.n_EvenAlways_rounds fo_nil) (ce_var 0 rfl (by first | exact Or.inl rfl | exact Or.inr (Or.inl rfl) | exact Or.inr (Or.inr rfl))) rfl) (ce_fld ["EvenAlways"] (fo_cons T.c_EvenAlways T.n_EvenAlways_rounds fo_nil) (ce_var 1 rfl (by first | exact Or.inl rfl | exact Or.inr (Or.inl rfl) | exact Or.inr (Or.inr rfl))) rfl))))))⟩)
theorem ok_EvenAlways___bool__ (T : Tx P K mg) : WD.FnG P w K mg base 1 (He.ma K (He.ga K "EvenAlways") "__bool__") ["self"] (spM K PM.m_EvenAlways___bool__) := by
  refine fn_pm (N := ["self"]) (st := s_EvenAlways___bool__) (m := PM.b_EvenAlways___bool__) T.f_EvenAlways___bool__ sc_EvenAlways___bool__ (by decide) (fun _ _ _ _ _ _ us hl => match us, hl with | [_], _ => rfl) (fun cdv A outer s H E hr => ⟨_, by
  unfold PM.b_EvenAlways___bool__
  exact (css_one (cs_ret ce_bl))⟩)
theorem ok_rounds_for (T : Tx P K mg) : WD.FnG P w K mg base 1 (He.ga K "rounds_for") ["program", "rest"] (spM K PM.m_rounds_for) := by
  refine fn_pm (N := ["program", "rest", "place", "told"]) (st := s_rounds_for) (m := PM.b_rounds_for) T.f_rounds_for sc_rounds_for (by decide) (fun _ _ _ _ _ _ us hl => match us, hl with | [_, _], _ => rfl) (fun cdv A outer s H E hr => ⟨_, by
  unfold PM.b_rounds_for
  exact (css_one (cs_ret (ce_lc false (own := [("place", 2), ("told", 3)]) rfl sc_rounds_for.nd (ci_num (by rfl) T.z_enumerate (ce_fld ["Program"] (fo_cons T.c_Program T.n_Program_rounds fo_nil) (ce_var 0 rfl (by first | exact Or.inl rfl | exact Or.inr (Or.inl rfl) | exact Or.inr (Or.inr rfl))) rfl)) (blkOk_by (own := [("place", 2), ("told", 3)]) (N := ["program", "rest", "place", "told"]) (sc := defScope s_rounds_for) (by decide +kernel)) (fun _ _ _ _ _ => (cg_tup rfl (cgs_cons (cg_name (i := 2) sc_rounds_for.nd rfl (.inl rfl)) (cgs_cons (cg_name (i := 3) sc_rounds_for.nd rfl (.inl rfl)) cgs_nil)))) (keep_gtup (keepgs_cons (keep_gname (by decide)) (keepgs_cons (keep_gname (by decide)) keepgs_nil mono_gname) mono_gname)) (fun _ _ _ _ _ => (cts_one (cw_t (cw_or (ct_ne hr.units (ce_ix (ce_var 3 rfl (by first | exact Or.inl rfl | exact Or.inr (Or.inl rfl) | exact Or.inr (Or.inr rfl))) ce_int (fun _ _ => rfl)) ce_str) (cw_or1 (ct_eq hr.units (ce_mod (ce_var 1 rfl (by first | exact Or.inl rfl | exact Or.inr (Or.inl rfl) | exact Or.inr (Or.inr rfl))) (ce_ix (ce_var 3 rfl (by first | exact Or.inl rfl | exact Or.inr (Or.inl rfl) | exact Or.inr (Or.inr rfl))) ce_int (fun _ _ => rfl))) (ce_ix (ce_var 3 rfl (by first | exact Or.inl rfl | exact Or.inr (Or.inl rfl) | exact Or.inr (Or.inr rfl))) ce_int (fun _ _ => rfl)))))))) (fun _ _ _ _ _ => (ce_var 2 rfl (by first | exact Or.inl rfl | exact Or.inr (Or.inl rfl) | exact Or.inr (Or.inr rfl)))))))⟩)
theorem ok_EvenAlways_shows (T : Tx P K mg) : WD.FnG P w K mg base 2 (He.ma K (He.ga K "EvenAlways") "shows") ["self", "program"] (spM K PM.m_EvenAlways_shows) := by
  refine fn_pm (N := ["self", "program", "rest", "place"]) (st := s_EvenAlways_shows) (m := PM.b_EvenAlways_shows) T.f_EvenAlways_shows sc_EvenAlways_shows (by decide) (fun _ _ _ _ _ _ us hl => match us, hl with | [_, _], _ => rfl) (fun cdv A outer s H E hr => ⟨_, by
  unfold PM.b_EvenAlways_shows
  exact (css_cons (cs_expr (ce_call (ok_check_program T) (hr.mono (by decide)) (by rfl) T.m_check_program (ca_cons (ce_var 1 rfl (by first | exact Or.inl rfl | exact Or.inr (Or.inl rfl) | exact Or.inr (Or.inr rfl))) ca_nil))) (css_cons (cs_if (ct_ne hr.units (ce_callBK rLenS call_lenS calls_len (by rfl) T.z_len PySem.boot_len (ca_cons (ce_fld ["EvenAlways"] (fo_cons T.c_EvenAlways T.n_EvenAlways_rounds fo_nil) (ce_var 0 rfl (by first | exact Or.inl rfl | exact Or.inr (Or.inl rfl) | exact Or.inr (Or.inr rfl))) rfl) ca_nil)) (ce_call (ok_common_step T) (hr.mono (by decide)) (by rfl) T.m_common_step (ca_cons (ce_var 1 rfl (by first | exact Or.inl rfl | exact Or.inr (Or.inl rfl) | exact Or.inr (Or.inr rfl))) (ca_cons (ce_var 1 rfl (by first | exact Or.inl rfl | exact Or.inr (Or.inl rfl) | exact Or.inr (Or.inr rfl))) ca_nil)))) (css_one (cs_ret ce_bl)) css_nil) (css_one (cs_ret (ce_callBK rAll (cr_all rfl) calls_all (by rfl) T.z_all (by decide +kernel) (ca_cons (ce_lc false (own := [("rest", 2), ("place", 3)]) rfl sc_EvenAlways_shows.nd (ci_num (by rfl) T.z_enumerate (ce_fld ["EvenAlways"] (fo_cons T.c_EvenAlways T.n_EvenAlways_rounds fo_nil) (ce_var 0 rfl (by first | exact Or.inl rfl | exact Or.inr (Or.inl rfl) | exact Or.inr (Or.inr rfl))) rfl)) (blkOk_by (own := [("rest", 2), ("place", 3)]) (N := ["self", "program", "rest", "place"]) (sc := defScope s_EvenAlways_shows) (by decide +kernel)) (fun _ _ _ _ _ => (cg_tup rfl (cgs_cons (cg_name (i := 2) sc_EvenAlways_shows.nd rfl (.inl rfl)) (cgs_cons (cg_name (i := 3) sc_EvenAlways_shows.nd rfl (.inl rfl)) cgs_nil)))) (keep_gtup (keepgs_cons (keep_gname (by decide)) (keepgs_cons (keep_gname (by decide)) keepgs_nil mono_gname) mono_gname)) (fun _ _ _ _ _ => cts_nil) (fun _ _ _ _ _ => (ce_in (u65 hr) (ce_var 3 rfl (by first | exact Or.inl rfl | exact Or.inr (Or.inl rfl) | exact Or.inr (Or.inr rfl))) (ce_call (ok_rounds_for T) (hr.mono (by decide)) (by rfl) T.m_rounds_for (ca_cons (ce_var 1 rfl (by first | exact Or.inl rfl | exact Or.inr (Or.inl rfl) | exact Or.inr (Or.inr rfl))) (ca_cons (ce_var 2 rfl (by first | exact Or.inl rfl | exact Or.inr (Or.inl rfl) | exact Or.inr (Or.inr rfl))) ca_nil))) (by rfl)))) ca_nil))))))⟩)
theorem ok_Parted___init__ (T : Tx P K mg) : WD.FnG P w K mg base 1 (He.ma K (He.ga K "Parted") "__init__") ["self", "weir"] (spM K PM.m_Parted___init__) := by
  refine fn_pm (N := ["self", "weir"]) (st := s_Parted___init__) (m := PM.b_Parted___init__) T.f_Parted___init__ sc_Parted___init__ (by decide) (fun _ _ _ _ _ _ us hl => match us, hl with | [_, _], _ => rfl) (fun cdv A outer s H E hr => ⟨_, by
  unfold PM.b_Parted___init__
  exact (css_one (cs_fld ["Parted"] (fo_cons T.c_Parted T.n_Parted_weir fo_nil) (ce_var 0 rfl (by first | exact Or.inl rfl | exact Or.inr (Or.inl rfl) | exact Or.inr (Or.inr rfl))) (ce_var 1 rfl (by first | exact Or.inl rfl | exact Or.inr (Or.inl rfl) | exact Or.inr (Or.inr rfl))) rfl))⟩)
theorem ok_Parted___eq__ (T : Tx P K mg) : WD.FnG P w K mg base 1 (He.ma K (He.ga K "Parted") "__eq__") ["self", "other"] (spM K PM.m_Parted___eq__) := by
  refine fn_pm (N := ["self", "other"]) (st := s_Parted___eq__) (m := PM.b_Parted___eq__) T.f_Parted___eq__ sc_Parted___eq__ (by decide) (fun _ _ _ _ _ _ us hl => match us, hl with | [_, _], _ => rfl) (fun cdv A outer s H E hr => ⟨_, by
  unfold PM.b_Parted___eq__
  exact (css_one (cs_ret (ce_and (ce_is T.kt_EvenAlways_Parted (.inr "Parted") (by decide) (pe_clsN (by rfl) T.m_Parted) (by rfl) T.z_isinstance (ce_var 1 rfl (by first | exact Or.inl rfl | exact Or.inr (Or.inl rfl) | exact Or.inr (Or.inr rfl)))) (ce_one (ce_eq hr.units (ce_fld ["Parted"] (fo_cons T.c_Parted T.n_Parted_weir fo_nil) (ce_var 0 rfl (by first | exact Or.inl rfl | exact Or.inr (Or.inl rfl) | exact Or.inr (Or.inr rfl))) rfl) (ce_fld ["Parted"] (fo_cons T.c_Parted T.n_Parted_weir fo_nil) (ce_var 1 rfl (by first | exact Or.inl rfl | exact Or.inr (Or.inl rfl) | exact Or.inr (Or.inr rfl))) rfl))))))⟩)
theorem ok_Parted___bool__ (T : Tx P K mg) : WD.FnG P w K mg base 1 (He.ma K (He.ga K "Parted") "__bool__") ["self"] (spM K PM.m_Parted___bool__) := by
  refine fn_pm (N := ["self"]) (st := s_Parted___bool__) (m := PM.b_Parted___bool__) T.f_Parted___bool__ sc_Parted___bool__ (by decide) (fun _ _ _ _ _ _ us hl => match us, hl with | [_], _ => rfl) (fun cdv A outer s H E hr => ⟨_, by
  unfold PM.b_Parted___bool__
  exact (css_one (cs_ret ce_bl))⟩)
theorem ok_judge_even (T : Tx P K mg) : WD.FnG P w K mg base 3 (He.ga K "judge_even") ["program"] (spM K PM.m_judge_even) := by
  refine fn_pm (N := ["program", "step", "weir", "rest"]) (st := s_judge_even) (m := PM.b_judge_even) T.f_judge_even sc_judge_even (by decide) (fun _ _ _ _ _ _ us hl => match us, hl with | [_], _ => rfl) (fun cdv A outer s H E hr => ⟨_, by
  unfold PM.b_judge_even
  exact (css_cons (cs_expr (ce_call (ok_check_program T) (hr.mono (by decide)) (by rfl) T.m_check_program (ca_cons (ce_var 0 rfl (by first | exact Or.inl rfl | exact Or.inr (Or.inl rfl) | exact Or.inr (Or.inr rfl))) ca_nil))) (css_cons (cs_asg (ce_call (ok_common_step T) (hr.mono (by decide)) (by rfl) T.m_common_step (ca_cons (ce_var 0 rfl (by first | exact Or.inl rfl | exact Or.inr (Or.inl rfl) | exact Or.inr (Or.inr rfl))) (ca_cons (ce_var 0 rfl (by first | exact Or.inl rfl | exact Or.inr (Or.inl rfl) | exact Or.inr (Or.inr rfl))) ca_nil))) (cg_name (i := 1) sc_judge_even.nd rfl (.inl rfl))) (css_cons (cs_for rfl (ci_range2 (by rfl) T.z_range (ca_cons ce_int (ca_cons (ce_add (ce_var 1 rfl (by first | exact Or.inl rfl | exact Or.inr (Or.inl rfl) | exact Or.inr (Or.inr rfl))) ce_int) ca_nil))) (cg_name (i := 2) sc_judge_even.nd rfl (.inl rfl)) (css_one (cs_if (ct_not (ct_truth (ce_call (ok_rounds_for T) (hr.mono (by decide)) (by rfl) T.m_rounds_for (ca_cons (ce_var 0 rfl (by first | exact Or.inl rfl | exact Or.inr (Or.inl rfl) | exact Or.inr (Or.inr rfl))) (ca_cons (ce_mod (ce_var 2 rfl (by first | exact Or.inl rfl | exact Or.inr (Or.inl rfl) | exact Or.inr (Or.inr rfl))) (ce_var 1 rfl (by first | exact Or.inl rfl | exact Or.inr (Or.inl rfl) | exact Or.inr (Or.inr rfl)))) ca_nil))))) (css_one (cs_ret (ce_make false T.k_Parted (ok_Parted___init__ T) (hr.mono (by decide)) (by rfl) T.m_Parted (ca_cons (ce_var 2 rfl (by first | exact Or.inl rfl | exact Or.inr (Or.inl rfl) | exact Or.inr (Or.inr rfl))) ca_nil)))) css_nil))) (css_one (cs_ret (ce_make false T.k_EvenAlways (ok_EvenAlways___init__ T) (hr.mono (by decide)) (by rfl) T.m_EvenAlways (ca_cons (ce_lc false (own := [("rest", 3)]) rfl sc_judge_even.nd (ci_range1 (by rfl) T.z_range (ca_cons (ce_var 1 rfl (by first | exact Or.inl rfl | exact Or.inr (Or.inl rfl) | exact Or.inr (Or.inr rfl))) ca_nil)) (blkOk_by (own := [("rest", 3)]) (N := ["program", "step", "weir", "rest"]) (sc := defScope s_judge_even) (by decide +kernel)) (fun _ _ _ _ _ => (cg_name (i := 3) sc_judge_even.nd rfl (.inl rfl))) (keep_gname (by decide)) (fun _ _ _ _ _ => cts_nil) (fun _ _ _ _ _ => (ce_ix (ce_call (ok_rounds_for T) (hr.mono (by decide)) (by rfl) T.m_rounds_for (ca_cons (ce_var 0 rfl (by first | exact Or.inl rfl | exact Or.inr (Or.inl rfl) | exact Or.inr (Or.inr rfl))) (ca_cons (ce_var 3 rfl (by first | exact Or.inl rfl | exact Or.inr (Or.inl rfl) | exact Or.inr (Or.inr rfl))) ca_nil))) ce_int (fun _ _ => rfl)))) ca_nil)))))))⟩)
end
end Lk11
end
section
set_option Elab.async false
set_option linter.all false
set_option maxRecDepth 100000
set_option maxHeartbeats 4000000
namespace Lk11
open PySem PySem.Spec PyProof.Rows L2 Evl PM
open WD (pe_tyN pe_clsN cr_lcm call_lenS call_listS call_tupS call_absS call_maxS call_minS call_intS)
section
variable {P : Program} {w : World} {K : PySem.W.Frag} {mg : Str → Option Value} {base : Heap}
theorem ok_Parted_shows (T : Tx P K mg) : WD.FnG P w K mg base 4 (He.ma K (He.ga K "Parted") "shows") ["self", "program"] (spM K PM.m_Parted_shows) := by
  refine fn_pm (N := ["self", "program"]) (st := s_Parted_shows) (m := PM.b_Parted_shows) T.f_Parted_shows sc_Parted_shows (by decide) (fun _ _ _ _ _ _ us hl => match us, hl with | [_, _], _ => rfl) (fun cdv A outer s H E hr => ⟨_, by
  unfold PM.b_Parted_shows
  exact (css_one (cs_ret (ce_or2 (ce_eqM (ok_EvenAlways___eq__ T) T.x_EvenAlways___eq__ T.sub_Parted_EvenAlways (hr.mono (by decide)) (ce_call (ok_judge_even T) (hr.mono (by decide)) (by rfl) T.m_judge_even (ca_cons (ce_var 1 rfl (by first | exact Or.inl rfl | exact Or.inr (Or.inl rfl) | exact Or.inr (Or.inr rfl))) ca_nil)) (ce_var 0 rfl (by first | exact Or.inl rfl | exact Or.inr (Or.inl rfl) | exact Or.inr (Or.inr rfl)))) (ce_eqO (ok_Parted___eq__ T) T.x_Parted___eq__ (hr.mono (by decide)) (ce_call (ok_judge_even T) (hr.mono (by decide)) (by rfl) T.m_judge_even (ca_cons (ce_var 1 rfl (by first | exact Or.inl rfl | exact Or.inr (Or.inl rfl) | exact Or.inr (Or.inr rfl))) ca_nil)) (ce_var 0 rfl (by first | exact Or.inl rfl | exact Or.inr (Or.inl rfl) | exact Or.inr (Or.inr rfl)))))))⟩)
theorem ok_stretches (T : Tx P K mg) : WD.FnG P w K mg base 3 (He.ga K "stretches") ["program", "many"] (spM K PM.m_stretches) := by
  refine fn_pm (N := ["program", "many", "opened", "ends", "weir"]) (st := s_stretches) (m := PM.b_stretches) T.f_stretches sc_stretches (by decide) (fun _ _ _ _ _ _ us hl => match us, hl with | [_, _], _ => rfl) (fun cdv A outer s H E hr => ⟨_, by
  unfold PM.b_stretches
  exact (css_cons (cs_expr (ce_call (ok_check_program T) (hr.mono (by decide)) (by rfl) T.m_check_program (ca_cons (ce_var 0 rfl (by first | exact Or.inl rfl | exact Or.inr (Or.inl rfl) | exact Or.inr (Or.inr rfl))) ca_nil))) (css_cons (cs_expr (ce_call (ok_check_many T) (hr.mono (by decide)) (by rfl) T.m_check_many (ca_cons (ce_var 1 rfl (by first | exact Or.inl rfl | exact Or.inr (Or.inl rfl) | exact Or.inr (Or.inr rfl))) ca_nil))) (css_cons (cs_asg (ce_call (ok_openings T) (hr.mono (by decide)) (by rfl) T.m_openings (ca_cons (ce_fld ["Program"] (fo_cons T.c_Program T.n_Program_rounds fo_nil) (ce_var 0 rfl (by first | exact Or.inl rfl | exact Or.inr (Or.inl rfl) | exact Or.inr (Or.inr rfl))) rfl) (ca_cons (ce_var 1 rfl (by first | exact Or.inl rfl | exact Or.inr (Or.inl rfl) | exact Or.inr (Or.inr rfl))) ca_nil))) (cg_name (i := 2) sc_stretches.nd rfl (.inr rfl))) (css_cons (cs_setLc false (i := 3) (own := [("weir", 4)]) rfl sc_stretches.nd rfl rfl (sw_true rfl rfl rfl (by decide +kernel)) (ci_range2 (by rfl) T.z_range (ca_cons ce_int (ca_cons (ce_var 1 rfl (by first | exact Or.inl rfl | exact Or.inr (Or.inl rfl) | exact Or.inr (Or.inr rfl))) ca_nil))) (blkOk_by (own := [("weir", 4)]) (N := ["program", "many", "opened", "ends", "weir"]) (sc := defScope s_stretches) (by decide +kernel)) (fun _ _ _ _ _ => (cg_name (i := 4) sc_stretches.nd rfl (.inl rfl))) (keep_gname (by decide)) (fun _ _ _ _ _ => (cts_one (ct_notIn (u65 hr) (ce_var 4 rfl (by first | exact Or.inl rfl | exact Or.inr (Or.inl rfl) | exact Or.inr (Or.inr rfl))) (ce_var 2 rfl (by first | exact Or.inl rfl | exact Or.inr (Or.inl rfl) | exact Or.inr (Or.inr rfl))) (by rfl)))) (fun _ _ _ _ _ => (ce_var 4 rfl (by first | exact Or.inl rfl | exact Or.inr (Or.inl rfl) | exact Or.inr (Or.inr rfl))))) (css_one (cs_ret (ce_listZip rfl (ca_cons (ce_lst (ca_cons ce_int (ca_star (ce_var 3 rfl (by first | exact Or.inl rfl | exact Or.inr (Or.inl rfl) | exact Or.inr (Or.inr rfl))) ca_nil))) (ca_cons (ce_lst (ca_star (ce_var 3 rfl (by first | exact Or.inl rfl | exact Or.inr (Or.inl rfl) | exact Or.inr (Or.inr rfl))) (ca_cons (ce_var 1 rfl (by first | exact Or.inl rfl | exact Or.inr (Or.inl rfl) | exact Or.inr (Or.inr rfl))) ca_nil))) ca_nil)) (by rfl) T.z_list (by rfl) T.z_zip)))))))⟩)
theorem ok__law_draw (T : Tx P K mg) : WD.FnG P w K mg base 1 (He.ga K "_law_draw") ["script", "at", "many"] (spM K PM.m__law_draw) := by
  refine fn_pm (N := ["script", "at", "many", "row", "cell", "turn", "step", "mixed"]) (st := s__law_draw) (m := PM.b__law_draw) T.f__law_draw sc__law_draw (by decide) (fun _ _ _ _ _ _ us hl => match us, hl with | [_, _, _], _ => rfl) (fun cdv A outer s H E hr => ⟨_, by
  unfold PM.b__law_draw
  exact (css_cons (cs_asg (ce_if (ct_ne hr.units (ce_var 0 rfl (by first | exact Or.inl rfl | exact Or.inr (Or.inl rfl) | exact Or.inr (Or.inr rfl))) (ce_lst ca_nil)) (ce_sl (ce_var 0 rfl (by first | exact Or.inl rfl | exact Or.inr (Or.inl rfl) | exact Or.inr (Or.inr rfl))) co_none (co_some ce_int)) (ce_lst (ca_cons ce_int ca_nil))) (cg_name (i := 3) sc__law_draw.nd rfl (.inl rfl))) (css_cons (cs_par (i := 4) (j := 5) (by rfl) sc__law_draw.nd rfl rfl (by decide) rfl rfl (ca_cons (ce_ix (ce_var 3 rfl (by first | exact Or.inl rfl | exact Or.inr (Or.inl rfl) | exact Or.inr (Or.inr rfl))) (ce_mod (ce_var 1 rfl (by first | exact Or.inl rfl | exact Or.inr (Or.inl rfl) | exact Or.inr (Or.inr rfl))) (ce_callBK rLenS call_lenS calls_len (by rfl) T.z_len PySem.boot_len (ca_cons (ce_var 3 rfl (by first | exact Or.inl rfl | exact Or.inr (Or.inl rfl) | exact Or.inr (Or.inr rfl))) ca_nil))) (fun _ _ => rfl)) (ca_cons (ce_div (ce_var 1 rfl (by first | exact Or.inl rfl | exact Or.inr (Or.inl rfl) | exact Or.inr (Or.inr rfl))) (ce_callBK rLenS call_lenS calls_len (by rfl) T.z_len PySem.boot_len (ca_cons (ce_var 3 rfl (by first | exact Or.inl rfl | exact Or.inr (Or.inl rfl) | exact Or.inr (Or.inr rfl))) ca_nil))) ca_nil)) (by rfl)) (css_cons (cs_if (ct_ge (ce_var 4 rfl (by first | exact Or.inl rfl | exact Or.inr (Or.inl rfl) | exact Or.inr (Or.inr rfl))) (ce_pow ce_int ce_int)) (css_cons (cs_asg (ce_mod (ce_callTyK (fun _ => WD.rInt1) WD.call_intS calls_int (by rfl) T.z_int (by decide +kernel) (ca_cons (ce_var 4 rfl (by first | exact Or.inl rfl | exact Or.inr (Or.inl rfl) | exact Or.inr (Or.inr rfl))) ca_nil)) (ce_pow ce_int ce_int)) (cg_name (i := 4) sc__law_draw.nd rfl (.inl rfl))) (css_cons (cs_for rfl (ci_range1 (by rfl) T.z_range (ca_cons (ce_mod (ce_var 5 rfl (by first | exact Or.inl rfl | exact Or.inr (Or.inl rfl) | exact Or.inr (Or.inr rfl))) ce_int) ca_nil)) (cg_name (i := 6) sc__law_draw.nd rfl (.inl rfl)) (css_one (cs_asg (ce_div (ce_var 4 rfl (by first | exact Or.inl rfl | exact Or.inr (Or.inl rfl) | exact Or.inr (Or.inr rfl))) ce_int) (cg_name (i := 4) sc__law_draw.nd rfl (.inl rfl))))) (css_one (cs_ret (ce_mod (ce_mod (ce_callTyK (fun _ => WD.rInt1) WD.call_intS calls_int (by rfl) T.z_int (by decide +kernel) (ca_cons (ce_var 4 rfl (by first | exact Or.inl rfl | exact Or.inr (Or.inl rfl) | exact Or.inr (Or.inr rfl))) ca_nil)) ce_int) (ce_var 2 rfl (by first | exact Or.inl rfl | exact Or.inr (Or.inl rfl) | exact Or.inr (Or.inr rfl)))))))) css_nil) (css_cons (cs_asg (ce_add (ce_mul (ce_add (ce_add (ce_mod (ce_callTyK (fun _ => WD.rInt1) WD.call_intS calls_int (by rfl) T.z_int (by decide +kernel) (ca_cons (ce_add (ce_var 4 rfl (by first | exact Or.inl rfl | exact Or.inr (Or.inl rfl) | exact Or.inr (Or.inr rfl))) (ce_mul ce_int (ce_var 5 rfl (by first | exact Or.inl rfl | exact Or.inr (Or.inl rfl) | exact Or.inr (Or.inr rfl))))) ca_nil)) ce_int) (ce_mul ce_int (ce_var 1 rfl (by first | exact Or.inl rfl | exact Or.inr (Or.inl rfl) | exact Or.inr (Or.inr rfl))))) ce_int) ce_int) (ce_mod (ce_callTyK (fun _ => WD.rInt1) WD.call_intS calls_int (by rfl) T.z_int (by decide +kernel) (ca_cons (ce_div (ce_var 4 rfl (by first | exact Or.inl rfl | exact Or.inr (Or.inl rfl) | exact Or.inr (Or.inr rfl))) ce_int) ca_nil)) ce_int)) (cg_name (i := 7) sc__law_draw.nd rfl (.inl rfl))) (css_one (cs_ret (ce_mod (ce_callTyK (fun _ => WD.rInt1) WD.call_intS calls_int (by rfl) T.z_int (by decide +kernel) (ca_cons (ce_mod (ce_mul (ce_mod (ce_var 7 rfl (by first | exact Or.inl rfl | exact Or.inr (Or.inl rfl) | exact Or.inr (Or.inr rfl))) ce_int) ce_int) ce_int) ca_nil)) (ce_var 2 rfl (by first | exact Or.inl rfl | exact Or.inr (Or.inl rfl) | exact Or.inr (Or.inr rfl))))))))))⟩)
theorem ok__law_rounds (T : Tx P K mg) : WD.FnG P w K mg base 2 (He.ga K "_law_rounds") ["script", "at", "most", "way"] (spM K PM.m__law_rounds) := by
  refine fn_pm (N := ["script", "at", "most", "way", "rows", "every", "turn"]) (st := s__law_rounds) (m := PM.b__law_rounds) T.f__law_rounds sc__law_rounds (by decide) (fun _ _ _ _ _ _ us hl => match us, hl with | [_, _, _, _], _ => rfl) (fun cdv A outer s H E hr => ⟨_, by
  unfold PM.b__law_rounds
  exact (css_cons (cs_asg (ce_lstC (ca_cons (ce_tup (ca_cons (ce_var 3 rfl (by first | exact Or.inl rfl | exact Or.inr (Or.inl rfl) | exact Or.inr (Or.inr rfl))) ca_nil)) (ca_cons (ce_tup (ca_cons ce_str (ca_cons ce_int (ca_cons ce_int ca_nil)))) (ca_cons (ce_tup (ca_cons ce_str (ca_cons ce_int (ca_cons ce_int ca_nil)))) (ca_cons (ce_tup (ca_cons ce_str (ca_cons ce_int (ca_cons ce_int ca_nil)))) (ca_cons (ce_tup (ca_cons ce_str (ca_cons ce_int (ca_cons ce_int ca_nil)))) ca_nil)))))) (cg_name (i := 4) sc__law_rounds.nd rfl (.inr rfl))) (css_cons (cs_if (ct_eq hr.units (ce_call (ok__law_draw T) (hr.mono (by decide)) (by rfl) T.m__law_draw (ca_cons (ce_var 0 rfl (by first | exact Or.inl rfl | exact Or.inr (Or.inl rfl) | exact Or.inr (Or.inr rfl))) (ca_cons (ce_var 1 rfl (by first | exact Or.inl rfl | exact Or.inr (Or.inl rfl) | exact Or.inr (Or.inr rfl))) (ca_cons ce_int ca_nil)))) ce_int) (css_cons (cs_asg (ce_add ce_int (ce_call (ok__law_draw T) (hr.mono (by decide)) (by rfl) T.m__law_draw (ca_cons (ce_var 0 rfl (by first | exact Or.inl rfl | exact Or.inr (Or.inl rfl) | exact Or.inr (Or.inr rfl))) (ca_cons (ce_add (ce_var 1 rfl (by first | exact Or.inl rfl | exact Or.inr (Or.inl rfl) | exact Or.inr (Or.inr rfl))) ce_int) (ca_cons ce_int ca_nil))))) (cg_name (i := 5) sc__law_rounds.nd rfl (.inl rfl))) (css_cons (cs_set (ce_tup (ca_cons ce_str (ca_cons (ce_var 5 rfl (by first | exact Or.inl rfl | exact Or.inr (Or.inl rfl) | exact Or.inr (Or.inr rfl))) (ca_cons (ce_call (ok__law_draw T) (hr.mono (by decide)) (by rfl) T.m__law_draw (ca_cons (ce_var 0 rfl (by first | exact Or.inl rfl | exact Or.inr (Or.inl rfl) | exact Or.inr (Or.inr rfl))) (ca_cons (ce_add (ce_var 1 rfl (by first | exact Or.inl rfl | exact Or.inr (Or.inl rfl) | exact Or.inr (Or.inr rfl))) ce_int) (ca_cons (ce_var 5 rfl (by first | exact Or.inl rfl | exact Or.inr (Or.inl rfl) | exact Or.inr (Or.inr rfl))) ca_nil)))) ca_nil)))) (ce_var 4 rfl (by first | exact Or.inl rfl | exact Or.inr (Or.inl rfl) | exact Or.inr (Or.inr rfl))) ce_int rfl rfl rfl (fun y => pg_sub (((ce_var 4 rfl (by first | exact Or.inl rfl | exact Or.inr (Or.inl rfl) | exact Or.inr (Or.inr rfl)))).pe y) ((ce_int).pe y) set_list)) (css_one (cs_set (ce_ix (ce_var 4 rfl (by first | exact Or.inl rfl | exact Or.inr (Or.inl rfl) | exact Or.inr (Or.inr rfl))) ce_int (fun _ _ => rfl)) (ce_var 4 rfl (by first | exact Or.inl rfl | exact Or.inr (Or.inl rfl) | exact Or.inr (Or.inr rfl))) ce_int rfl rfl rfl (fun y => pg_sub (((ce_var 4 rfl (by first | exact Or.inl rfl | exact Or.inr (Or.inl rfl) | exact Or.inr (Or.inr rfl)))).pe y) ((ce_int).pe y) set_list))))) css_nil) (css_one (cs_ret (ce_lc false (own := [("turn", 6)]) rfl sc__law_rounds.nd (ci_range1 (by rfl) T.z_range (ca_cons (ce_call (ok__law_draw T) (hr.mono (by decide)) (by rfl) T.m__law_draw (ca_cons (ce_var 0 rfl (by first | exact Or.inl rfl | exact Or.inr (Or.inl rfl) | exact Or.inr (Or.inr rfl))) (ca_cons (ce_add (ce_var 1 rfl (by first | exact Or.inl rfl | exact Or.inr (Or.inl rfl) | exact Or.inr (Or.inr rfl))) ce_int) (ca_cons (ce_add (ce_var 2 rfl (by first | exact Or.inl rfl | exact Or.inr (Or.inl rfl) | exact Or.inr (Or.inr rfl))) ce_int) ca_nil)))) ca_nil)) (blkOk_by (own := [("turn", 6)]) (N := ["script", "at", "most", "way", "rows", "every", "turn"]) (sc := defScope s__law_rounds) (by decide +kernel)) (fun _ _ _ _ _ => (cg_name (i := 6) sc__law_rounds.nd rfl (.inl rfl))) (keep_gname (by decide)) (fun _ _ _ _ _ => cts_nil) (fun _ _ _ _ _ => (ce_ix (ce_var 4 rfl (by first | exact Or.inl rfl | exact Or.inr (Or.inl rfl) | exact Or.inr (Or.inr rfl))) (ce_call (ok__law_draw T) (hr.mono (by decide)) (by rfl) T.m__law_draw (ca_cons (ce_var 0 rfl (by first | exact Or.inl rfl | exact Or.inr (Or.inl rfl) | exact Or.inr (Or.inr rfl))) (ca_cons (ce_add (ce_add (ce_var 1 rfl (by first | exact Or.inl rfl | exact Or.inr (Or.inl rfl) | exact Or.inr (Or.inr rfl))) ce_int) (ce_var 6 rfl (by first | exact Or.inl rfl | exact Or.inr (Or.inl rfl) | exact Or.inr (Or.inr rfl)))) (ca_cons ce_int ca_nil)))) (fun _ _ => rfl))))))))⟩)
theorem ok__law_weirs (T : Tx P K mg) : WD.FnG P w K mg base 1 (He.ga K "_law_weirs") ["told", "many"] (spM K PM.m__law_weirs) := by
  refine fn_pm (N := ["told", "many", "weir"]) (st := s__law_weirs) (m := PM.b__law_weirs) T.f__law_weirs sc__law_weirs (by decide) (fun _ _ _ _ _ _ us hl => match us, hl with | [_, _], _ => rfl) (fun cdv A outer s H E hr => ⟨_, by
  unfold PM.b__law_weirs
  exact (css_cons (cs_if (ct_eq hr.units (ce_ix (ce_var 0 rfl (by first | exact Or.inl rfl | exact Or.inr (Or.inl rfl) | exact Or.inr (Or.inr rfl))) ce_int (fun _ _ => rfl)) ce_str) (css_one (cs_ret (ce_listRg rfl (by rfl) T.z_list (by rfl) T.z_range ce_int (ce_var 1 rfl (by first | exact Or.inl rfl | exact Or.inr (Or.inl rfl) | exact Or.inr (Or.inr rfl)))))) css_nil) (css_cons (cs_if (ct_eq hr.units (ce_ix (ce_var 0 rfl (by first | exact Or.inl rfl | exact Or.inr (Or.inl rfl) | exact Or.inr (Or.inr rfl))) ce_int (fun _ _ => rfl)) ce_str) (css_one (cs_ret (ce_listRev rfl (by rfl) T.z_list (by rfl) T.z_reversed (ce_listRg rfl (by rfl) T.z_list (by rfl) T.z_range ce_int (ce_var 1 rfl (by first | exact Or.inl rfl | exact Or.inr (Or.inl rfl) | exact Or.inr (Or.inr rfl))))))) css_nil) (css_one (cs_ret (ce_lc false (own := [("weir", 2)]) rfl sc__law_weirs.nd (ci_range2 (by rfl) T.z_range (ca_cons ce_int (ca_cons (ce_var 1 rfl (by first | exact Or.inl rfl | exact Or.inr (Or.inl rfl) | exact Or.inr (Or.inr rfl))) ca_nil))) (blkOk_by (own := [("weir", 2)]) (N := ["told", "many", "weir"]) (sc := defScope s__law_weirs) (by decide +kernel)) (fun _ _ _ _ _ => (cg_name (i := 2) sc__law_weirs.nd rfl (.inl rfl))) (keep_gname (by decide)) (fun _ _ _ _ _ => (cts_one (ct_eq hr.units (ce_mod (ce_var 2 rfl (by first | exact Or.inl rfl | exact Or.inr (Or.inl rfl) | exact Or.inr (Or.inr rfl))) (ce_ix (ce_var 0 rfl (by first | exact Or.inl rfl | exact Or.inr (Or.inl rfl) | exact Or.inr (Or.inr rfl))) ce_int (fun _ _ => rfl))) (ce_ix (ce_var 0 rfl (by first | exact Or.inl rfl | exact Or.inr (Or.inl rfl) | exact Or.inr (Or.inr rfl))) ce_int (fun _ _ => rfl))))) (fun _ _ _ _ _ => (ce_var 2 rfl (by first | exact Or.inl rfl | exact Or.inr (Or.inl rfl) | exact Or.inr (Or.inr rfl)))))))))⟩)
theorem ok__law_order (T : Tx P K mg) : WD.FnG P w K mg base 2 (He.ga K "_law_order") ["rounds", "many"] (spM K PM.m__law_order_p) := by
  refine fn_pm (N := ["rounds", "many", "found", "told"]) (st := s__law_order) (m := PM.b__law_order_p) T.f__law_order sc__law_order (by decide) (fun _ _ _ _ _ _ us hl => match us, hl with | [_, _], _ => rfl) (fun cdv A outer s H E hr => ⟨_, by
  unfold PM.b__law_order_p
  exact (css_cons (cs_asg (ce_lst ca_nil) (cg_name (i := 2) sc__law_order.nd rfl (.inl rfl))) (css_cons (cs_for rfl (ci_seq (ce_var 0 rfl (by first | exact Or.inl rfl | exact Or.inr (Or.inl rfl) | exact Or.inr (Or.inr rfl)))) (cg_name (i := 3) sc__law_order.nd rfl (.inl rfl)) (css_one (cs_asg (ce_add (ce_var 2 rfl (by first | exact Or.inl rfl | exact Or.inr (Or.inl rfl) | exact Or.inr (Or.inr rfl))) (ce_call (ok__law_weirs T) (hr.mono (by decide)) (by rfl) T.m__law_weirs (ca_cons (ce_var 3 rfl (by first | exact Or.inl rfl | exact Or.inr (Or.inl rfl) | exact Or.inr (Or.inr rfl))) (ca_cons (ce_var 1 rfl (by first | exact Or.inl rfl | exact Or.inr (Or.inl rfl) | exact Or.inr (Or.inr rfl))) ca_nil)))) (cg_name (i := 2) sc__law_order.nd rfl (.inl rfl))))) (css_one (cs_ret (ce_var 2 rfl (by first | exact Or.inl rfl | exact Or.inr (Or.inl rfl) | exact Or.inr (Or.inr rfl)))))))⟩)
end
end Lk11
end
section
set_option Elab.async false
set_option linter.all false
set_option maxRecDepth 100000
set_option maxHeartbeats 2000000
/-! programs: rounds, openings -/
namespace PM
open PySem L2
/-- what it gives, whatever stands there -/
def Tot (m : List D → M D) (ds : List D) (d : D) : Prop := ∀ S, ∃ S', m ds S = .ok d S'
noncomputable def nx (m : List D → M D) (ds : List D) (S : Sto) : Sto := match m ds S with
  | .ok _ S' => S'
  | _ => S
theorem Tot.eq {m : List D → M D} {ds : List D} {d : D} (h : Tot m ds d) (S : Sto) : m ds S = .ok d (nx m ds S) := by
  obtain ⟨S', e⟩ := h S
  unfold nx
  rw [e]
@[simp] theorem lim_eq : lim = 100000 := Nat.le_antisymm (by unfold lim; decide) (by unfold lim; decide)
@[simp] theorem wipeD_nil (l : List (Option D)) : wipeD l [] = l := rfl
@[simp] theorem wipeD_cons (l : List (Option D)) (v : Nat) (vs : List Nat) : wipeD l (v :: vs) = (wipeD l vs).set v none := rfl
@[simp] theorem wipeE_ap (l : List (Option D)) (x : Option (Nat × Er)) (vs : List Nat) : wipeE ⟨l, x⟩ vs = ⟨wipeD l vs, none⟩ := rfl
/-! ### kinds -/
theorem m_is_integer_int (i : Int) (S : Sto) : m_is_integer [.int i] S = .ok (.bl true) S := by
  simp [m_is_integer, b_is_integer, dIs_ap _ _ (.int i) S (k := .inl "int") rfl rfl, isK, kitP]
theorem m_is_integer_tup (ds : List D) (S : Sto) : m_is_integer [.tup ds] S = .ok (.bl false) S := by
  simp [m_is_integer, b_is_integer, dIs_ap _ _ (.tup ds) S (k := .inl "tuple") rfl rfl, isK, kitP]
theorem m_is_integer_str (x : Str) (S : Sto) : m_is_integer [.str x] S = .ok (.bl false) S := by
  simp [m_is_integer, b_is_integer, dIs_ap _ _ (.str x) S (k := .inl "str") rfl rfl, isK, kitP]
inductive Rd where
  | right | left | ev (a b : Int)
deriving DecidableEq
def Rd.d : Rd → D
  | .right => .tup [.str "right"]
  | .left => .tup [.str "left"]
  | .ev a b => .tup [.str "every", .int a, .int b]
def Rd.ok : Rd → Prop
  | .ev a b => 2 ≤ a ∧ a ≤ 4 ∧ 0 ≤ b ∧ b < a
  | _ => True
theorem Rd.d_inj {x y : Rd} : x.d = y.d ↔ x = y := by
  cases x <;> cases y <;> simp [Rd.d]
theorem Rd.fit (x : Rd) (n : Nat) : x.d.fit (n + 1) = true := by cases x <;> simp [Rd.d]
theorem m_is_round_ok (r : Rd) (h : r.ok) (S : Sto) : m_is_round [r.d] S = .ok (.bl true) S := by
  have e : dIn false r.d (.tup [.tup [.str "right"], .tup [.str "left"]]) S = .ok (.bl (decide (r.d ∈ [D.tup [.str "right"], D.tup [.str "left"]]))) S := dIn_tup false S rfl (r.fit 11) (by simp)
  cases r with
  | right => simp [m_is_round, b_is_round, e]; simp [Rd.d]
  | left => simp [m_is_round, b_is_round, e]; simp [Rd.d]
  | ev a b =>
    obtain ⟨h1, h2, h3, h4⟩ := h
    simp only [Rd.d] at e ⊢
    simp [m_is_round, b_is_round, e, dIs_ap _ _ (.tup _) S (k := .inl "tuple") rfl rfl, isK, kitP]
    simp [dSl, cutD, HT.sIx, m_is_integer_int, h1, h2, h3, h4]

def prog (rs : List Rd) : D := .obj "Program" [("rounds", .tup (rs.map Rd.d))]
/-- a list or a tuple of rounds -/
inductive IsSeq (ds : List D) : D → Prop
  | lst : IsSeq ds (.lst ds)
  | tup : IsSeq ds (.tup ds)
theorem IsSeq.itm {ds : List D} {x : D} (h : IsSeq ds x) (S : Sto) : itmOf S x = some ⟨ds, []⟩ := by cases h <;> rfl
theorem IsSeq.rdQ {ds : List D} {x : D} (h : IsSeq ds x) (S : Sto) : rdQ S x = some ds := by cases h <;> rfl
theorem IsSeq.isLT {ds : List D} {x : D} (h : IsSeq ds x) (S : Sto) : dIs [] sameC [.inl "list", .inl "tuple"] x S = .ok (.bl true) S := by
  cases h
  · exact dIs_ap _ _ (.lst ds) S (k := .inl "list") rfl rfl
  · exact dIs_ap _ _ (.tup ds) S (k := .inl "tuple") rfl rfl
theorem IsSeq.tuple {ds : List D} {x : D} (h : IsSeq ds x) (S : Sto) : dTuple x S = .ok (.tup ds) S := by cases h <;> rfl
theorem m_check_rounds_ok {rs : List Rd} {x : D} (hx : IsSeq (rs.map Rd.d) x) (hl : rs.length ≤ 12) (hr : ∀ r ∈ rs, r.ok) (S : Sto) : m_check_rounds [x] S = .ok .non S := by
  have h12 : ¬ (12 : Int) < (rs.length : Int) := by omega
  simp [m_check_rounds, b_check_rounds, hx.isLT, hx.rdQ, hx.itm, h12, oM]
  refine forGo_rule (G := fun o => toOut o = .ok .non S) (fun i e S' => S' = S ∧ ∃ a b, e = ⟨[some x, a, b], none⟩) ⟨rfl, _, _, rfl⟩ ?_ ?_
  · rintro i d e S' hi ⟨rfl, a, b, rfl⟩
    obtain ⟨d', h1, rfl⟩ := numD_get hi
    rw [List.getElem?_map] at h1
    cases q : rs[i]? with
    | none => simp [q] at h1
    | some r =>
      simp [q] at h1
      subst h1
      have := hr r (List.mem_of_getElem? q)
      simp [m_is_round_ok r this]
  · rintro e S' ⟨rfl, a, b, rfl⟩
    simp
theorem mk_Program {rs : List Rd} {x : D} (hx : IsSeq (rs.map Rd.d) x) (hl : rs.length ≤ 12) (hr : ∀ r ∈ rs, r.ok) (S : Sto) : mkObj false "Program" m_Program___init__ [x] S = .ok (prog rs) (S ++ [.dead]) := by
  simp [mkObj_ap, m_Program___init__, b_Program___init__, m_check_rounds_ok hx hl hr, hx.tuple, prog]
theorem m_check_program_ok (rs : List Rd) (S : Sto) : m_check_program [prog rs] S = .ok .non S := by
  simp [m_check_program, b_check_program, dIs_ap ["Program"] _ (prog rs) S (k := .inr "Program") rfl rfl, isK, sameC]
theorem m_check_many_ok {n : Int} (h1 : 1 ≤ n) (h2 : n ≤ 400) (S : Sto) : m_check_many [.int n] S = .ok .non S := by
  simp [m_check_many, b_check_many, m_is_integer_int, h1, h2]
/-! ### openings -/
/-- the weirs that a round opens, in its order -/
def wrs (r : Rd) (n : Int) : List Int := match r with
  | .right => rng 1 n
  | .left => (rng 1 n).reverse
  | .ev a b => (rng 1 n).filter fun w => w % a = b
def Rd.opens (r : Rd) (w : Int) : Bool := match r with
  | .ev a b => w % a = b
  | _ => true
theorem mem_wrs {r : Rd} {n w : Int} : w ∈ wrs r n ↔ (1 ≤ w ∧ w < n) ∧ r.opens w = true := by
  cases r <;> simp [wrs, mem_rng, Rd.opens]
def opn (rs : List Rd) (n : Int) : List Int := rs.flatMap fun r => wrs r n
theorem mem_opn {rs : List Rd} {n w : Int} : w ∈ opn rs n ↔ (1 ≤ w ∧ w < n) ∧ rs.any (·.opens w) = true := by
  unfold opn
  simp only [List.mem_flatMap, mem_wrs, List.any_eq_true]
  constructor
  · rintro ⟨r, hr, h1, h2⟩
    exact ⟨h1, r, hr, h2⟩
  · rintro ⟨h1, r, hr, h2⟩
    exact ⟨r, hr, h1, h2⟩
theorem down_eq (n : Int) : ((List.range (n - 1 - 0).toNat).map fun (k : Nat) => D.int (n - 1 + k * -1)) = (rng 1 n).reverse.map D.int := by
  unfold rng
  refine List.ext_getElem? fun i => ?_
  rw [List.map_reverse, List.map_map, List.getElem?_map]
  by_cases hi : i < (n - 1).toNat
  · rw [List.getElem?_range (by omega), List.getElem?_reverse (by simpa using hi), List.getElem?_map, List.length_map, List.length_range, List.getElem?_range (by omega)]
    simp
    omega
  · rw [List.getElem?_eq_none (by simp; omega), List.getElem?_eq_none (by simp; omega)]
    rfl
theorem wrs_len (r : Rd) (n : Int) : (wrs r n).length ≤ (n - 1).toNat := by
  cases r with
  | right => simp [wrs]
  | left => simp [wrs]
  | ev a b => exact Nat.le_trans (List.length_filter_le _ _) (by simp)
theorem opn_len (rs : List Rd) (n : Int) : (opn rs n).length ≤ rs.length * (n - 1).toNat := by
  induction rs with
  | nil => simp [opn]
  | cons r rs ih =>
    have h := wrs_len r n
    have e : (opn (r :: rs) n).length = (wrs r n).length + (opn rs n).length := by simp [opn]
    rw [e, List.length_cons, Nat.succ_mul]
    omega
theorem rng_get {i j : Int} {k : Nat} {x : Int} (h : (rng i j)[k]? = some x) : x = i + k ∧ x < j := by
  unfold rng at h
  rw [List.getElem?_map] at h
  cases q : (List.range (j - i).toNat)[k]? with
  | none => simp [q] at h
  | some m =>
    simp [q] at h
    have hk := (List.getElem?_eq_some_iff.mp q).1
    rw [List.length_range] at hk
    rw [List.getElem?_range hk] at q
    cases q
    omega
/-- weirs of a round by its rest, as a comprehension gives them -/
theorem lc_rest {i j : Nat} {l : List (Option D)} {a b n : Int} (t : Env → M Bool) (S : Sto) (h0 : 0 < a) (hi : i < l.length)
    (ht : ∀ w : Int, t ⟨l.set i (some (.int w)), none⟩ S = .ok (decide (w % a = b)) S) : lcGo [] (gN i) t (eVar i) ⟨l, none⟩ (rangeD 1 n) S = .ok ((wrs (.ev a b) n).map .int) S := by
  rw [rangeD_rng]
  have := lcGo_map (tg := gN i) (t := t) (m := eVar i) (e0 := ⟨l, none⟩) (S := S) D.int (fun w => decide (w % a = b)) D.int (rng 1 n) fun w hw => ⟨_, rfl, ht w, fun _ => by simp [hi]⟩
  rw [this]
  rfl
theorem m_openings_ok {rs : List Rd} {x : D} (hx : IsSeq (rs.map Rd.d) x) (hl : rs.length ≤ 12) (hr : ∀ r ∈ rs, r.ok) {n : Int} (h1 : 1 ≤ n) (h2 : n ≤ 400) (S : Sto) : m_openings [x, .int n] S = .ok (.lst ((opn rs n).map .int)) (S ++ [.dead]) := by
  simp [m_openings, b_openings, hx.itm, oM]
  refine forGo_rule (G := fun o => toOut (o.andThen _) = .ok (.lst ((opn rs n).map .int)) (S ++ [.dead])) (fun i e S' => S' = S ++ [.lst ((opn (rs.take i) n).map .int)] ∧ ∃ a b, e = ⟨[some x, some (.int n), some (.ptr S.length), a, b], none⟩) ⟨rfl, _, _, rfl⟩ ?_ ?_
  · rintro i d e S' hi ⟨rfl, a, b, rfl⟩
    rw [List.getElem?_map] at hi
    cases q : rs[i]? with
    | none => simp [q] at hi
    | some r =>
      simp [q] at hi
      subst hi
      have ok := hr r (List.mem_of_getElem? q)
      have et : opn (rs.take (i + 1)) n = opn (rs.take i) n ++ wrs r n := by
        rw [List.take_add_one, q]
        simp [opn]
      have hlen : (opn (rs.take i) n).length + (wrs r n).length ≤ 100000 := by
        have a1 := opn_len (rs.take i) n
        have a2 := wrs_len r n
        have a3 : (rs.take i).length ≤ 12 := by
          rw [List.length_take]
          omega
        have := Nat.mul_le_mul a3 (Nat.le_refl (n - 1).toNat)
        omega
      rw [et]
      cases r with
      | right =>
        have c1 : -1000000 ≤ n ∧ n ≤ 1000000 := by omega
        simp only [wrs] at hlen ⊢
        simp [Rd.d, eBM, cellL, dExtend, rdP, putL, c1, rangeD_rng, oM] 
        have : (opn (rs.take i) n).length + (n.toNat - 1) ≤ 100000 := by
          simp at hlen
          omega
        simp [this]
      | left =>
        have c1 : -400000 ≤ n - 1 ∧ n - 1 ≤ 400000 ∧ 0 ≤ n - 1 := by omega
        simp only [wrs] at hlen ⊢
        simp [Rd.d, eBM, cellL, dExtend, rdP, putL, c1, dRangeB, oM, h1]
        have : (opn (rs.take i) n).length + (n.toNat - 1) ≤ 100000 := by
          simp at hlen
          omega
        have e := down_eq n
        simp at e
        simp [this, e]
      | ev a' b' =>
        obtain ⟨k1, k2, k3, k4⟩ := ok
        have c1 : -1000000 ≤ n ∧ n ≤ 1000000 := by omega
        have c2 : (rangeD 1 n).length ≤ 100000 := by
          rw [rangeD_rng]
          simp
          omega
        have c3 : 0 < a' := by omega
        have e := lc_rest (i := 4) (j := 4) (l := [some x, some (.int n), some (.ptr S.length), some (.tup [.str "every", .int a', .int b']), none]) (a := a') (b := b') (n := n)
          (tOf (e2 (dEq false) (e2 dMod (eVar 4) (e2 dIx (eVar 3) (eC (.int 1)))) (e2 dIx (eVar 3) (eC (.int 2))))) (S ++ [.lst ((opn (rs.take i) n).map .int)]) c3 (by simp) fun w => by
            simp [c3]
        simp [Rd.d, eBM, cellL, dExtend, rdP, putL, c1, oM, c2, e]
        have : (opn (rs.take i) n).length + (wrs (.ev a' b') n).length ≤ 100000 := hlen
        simp [this]
  · rintro e S' ⟨rfl, a, b, rfl⟩
    simp [sFrz, setS]
end PM
end
section
set_option Elab.async false
set_option linter.all false
set_option maxRecDepth 100000
set_option maxHeartbeats 2000000
/-! steps, rounds for a rest, always even -/
namespace PM
open PySem L2
/-- the least number that all a divide -/
def stpS (s : Nat) (r : Rd) : Nat := match r with
  | .ev a _ => Nat.lcm s a.toNat
  | _ => s
def stp (rs : List Rd) : Nat := rs.foldl stpS 1
def stpF (s : Nat) (rs : List Rd) : Nat := rs.foldl stpS s
theorem stpF_le : ∀ (rs : List Rd) (s : Nat), (∀ r ∈ rs, r.ok) → s ∣ 12 → stpF s rs ∣ 12
  | [], s, _, h => h
  | r :: rs, s, hr, h => by
    refine stpF_le rs _ (fun r h => hr r (List.mem_cons_of_mem _ h)) ?_
    cases r with
    | right => exact h
    | left => exact h
    | ev a b =>
      obtain ⟨h1, h2, _⟩ := hr (.ev a b) (by simp)
      refine Nat.lcm_dvd h ?_
      have : a.toNat = 2 ∨ a.toNat = 3 ∨ a.toNat = 4 := by omega
      rcases this with e | e | e <;> rw [e] <;> decide
theorem stpF_dvd : ∀ (rs : List Rd) (s : Nat), s ∣ stpF s rs ∧ ∀ a b, Rd.ev a b ∈ rs → a.toNat ∣ stpF s rs
  | [], s => ⟨Nat.dvd_refl _, by simp⟩
  | r :: rs, s => by
    obtain ⟨h1, h2⟩ := stpF_dvd rs (stpS s r)
    cases r with
    | right => exact ⟨h1, fun a b h => h2 a b (by simpa using h)⟩
    | left => exact ⟨h1, fun a b h => h2 a b (by simpa using h)⟩
    | ev a b =>
      refine ⟨Nat.dvd_trans (Nat.dvd_lcm_left s a.toNat) h1, fun a' b' h => ?_⟩
      rcases List.mem_cons.mp h with e | h
      · cases e
        exact Nat.dvd_trans (Nat.dvd_lcm_right s a.toNat) h1
      · exact h2 a' b' h
theorem stpF_least : ∀ (rs : List Rd) (s n : Nat), s ∣ n → (∀ a b, Rd.ev a b ∈ rs → a.toNat ∣ n) → stpF s rs ∣ n
  | [], s, n, h, _ => h
  | r :: rs, s, n, h, hr => by
    refine stpF_least rs _ n ?_ fun a b h => hr a b (List.mem_cons_of_mem _ h)
    cases r with
    | right => exact h
    | left => exact h
    | ev a b => exact Nat.lcm_dvd h (hr a b (by simp))
theorem stp_pos (rs : List Rd) (hr : ∀ r ∈ rs, r.ok) : 1 ≤ stp rs ∧ stp rs ≤ 12 := by
  have h := stpF_le rs 1 hr (by decide)
  exact ⟨Nat.pos_of_dvd_of_pos h (by decide), Nat.le_of_dvd (by decide) h⟩
theorem stp_app (rs ss : List Rd) : stpF (stp rs) ss = stp (rs ++ ss) := by
  unfold stp stpF
  rw [List.foldl_append]
theorem stp_dbl (rs : List Rd) : stp (rs ++ rs) = stp rs := by
  rw [← stp_app]
  have h := stpF_least rs (stp rs) (stp rs) (Nat.dvd_refl _) (stpF_dvd rs 1).2
  exact Nat.dvd_antisymm h (stpF_dvd rs (stp rs)).1
theorem m_common_step_ok {rs ss : List Rd} (hr : ∀ r ∈ rs, r.ok) (hs : ∀ r ∈ ss, r.ok) (hl : rs.length ≤ 12) (hm : ss.length ≤ 12) (S : Sto) : m_common_step [prog rs, prog ss] S = .ok (.int (stp (rs ++ ss))) S := by
  have c : rs.length + ss.length ≤ 100000 := by omega
  simp [m_common_step, b_common_step, prog, oM, c]
  rw [← List.map_append]
  have hrs : ∀ r ∈ rs ++ ss, r.ok := fun r h => (List.mem_append.mp h).elim (hr r) (hs r)
  generalize rs ++ ss = ts at *
  refine forGo_rule (G := fun o => toOut (o.andThen _) = .ok (.int (stp ts)) S) (fun i e S' => S' = S ∧ ∃ a, e = ⟨[some (prog rs), some (prog ss), some (.int (stp (ts.take i))), a], none⟩) ⟨rfl, _, rfl⟩ ?_ ?_
  · rintro i d e S' hi ⟨rfl, a, rfl⟩
    rw [List.getElem?_map] at hi
    cases q : ts[i]? with
    | none => simp [q] at hi
    | some r =>
      simp [q] at hi
      subst hi
      have ok := hrs r (List.mem_of_getElem? q)
      have e1 : stp (ts.take (i + 1)) = stpS (stp (ts.take i)) r := by
        rw [List.take_add_one, q]
        show stp (ts.take i ++ [r]) = _
        rw [← stp_app]
        rfl
      have hp := stp_pos (ts.take i) fun r h => hrs r (List.mem_of_mem_take h)
      cases r with
      | right =>
        simp [stpS] at e1
        simp [Rd.d, e1]
      | left =>
        simp [stpS] at e1
        simp [Rd.d, e1]
      | ev a' b' =>
        obtain ⟨k1, k2, _⟩ := ok
        simp [stpS] at e1
        have l1 : (stp (ts.take i)).log2 < 5999 := Nat.lt_of_le_of_lt (Nat.log2_le_self _) (by omega)
        have l2 : a'.toNat.log2 < 5999 := Nat.lt_of_le_of_lt (Nat.log2_le_self _) (by omega)
        have l3 : 0 ≤ a' := by omega
        simp [Rd.d, e1, l1, l2, l3]
  · rintro e S' ⟨rfl, a, rfl⟩
    simp
/-- the places of rounds that open the weirs with this rest -/
def rfr (rs : List Rd) (w : Int) : List Int := ((List.range rs.length).filter fun i => match rs[i]? with
  | some r => r.opens w
  | none => false).map fun (i : Nat) => (i : Int)
theorem mem_rfr {rs : List Rd} {w k : Int} : k ∈ rfr rs w ↔ ∃ (i : Nat) (r : Rd), k = i ∧ rs[i]? = some r ∧ r.opens w = true := by
  unfold rfr
  simp only [List.mem_map, List.mem_filter, List.mem_range]
  constructor
  · rintro ⟨i, ⟨h1, h2⟩, rfl⟩
    cases q : rs[i]? with
    | none => simp [q] at h2
    | some r => exact ⟨i, r, rfl, q, by simpa [q] using h2⟩
  · rintro ⟨i, r, rfl, h1, h2⟩
    refine ⟨i, ⟨(List.getElem?_eq_some_iff.mp h1).1, ?_⟩, rfl⟩
    rw [h1]
    exact h2
theorem numD_map {α : Type} (f : α → D) (xs : List α) : numD (xs.map f) = (List.range xs.length).map fun (i : Nat) => D.tup [.int i, (xs.map f).getD i .non] := by
  unfold numD
  rw [List.length_map]
theorem m_rounds_for_ok {rs : List Rd} (hr : ∀ r ∈ rs, r.ok) (hl : rs.length ≤ 12) (w : Int) (S : Sto) : m_rounds_for [prog rs, .int w] S = .ok (.lst ((rfr rs w).map .int)) S := by
  have c : rs.length ≤ 100000 := by omega
  simp [m_rounds_for, b_rounds_for, prog, oM, numD_len, c]
  have := lcGo_map (tg := gT 2 (gC (gN 2) (gC (gN 3) gN0))) (t := tOrP (tOf (e2 (dEq true) (e2 dIx (eVar 3) (eC (.int 0))) (eC (.str "every")))) (tOf (e2 (dEq false) (e2 dMod (eVar 1) (e2 dIx (eVar 3) (eC (.int 1)))) (e2 dIx (eVar 3) (eC (.int 2))))))
    (m := eVar 2) (e0 := ⟨[some (prog rs), some (.int w), none, none], none⟩) (S := S) (fun (i : Nat) => D.tup [.int i, (rs.map Rd.d).getD i .non]) (fun i => match rs[i]? with
      | some r => r.opens w
      | none => false) (fun i => D.int i) (List.range rs.length) fun i hi => by
    have hi := List.mem_range.mp hi
    have ok := hr rs[i] (List.getElem_mem hi)
    refine ⟨_, by simp; rfl, ?_, fun _ => by simp⟩
    have e : (rs.map Rd.d)[i]?.getD .non = rs[i].d := by
      rw [List.getElem?_map, List.getElem?_eq_getElem hi]
      rfl
    rw [List.getElem?_eq_getElem hi]
    simp only [List.getD_eq_getElem?_getD, e]
    cases q : rs[i] with
    | right => simp [Rd.d, Rd.opens]
    | left => simp [Rd.d, Rd.opens]
    | ev a b =>
      rw [q] at ok
      obtain ⟨k1, k2, _⟩ := ok
      have c3 : 0 < a := by omega
      simp [Rd.d, Rd.opens, c3]
  rw [← numD_map] at this
  simp only [prog] at this
  rw [this]
  simp [rfr]
end PM
end
section
set_option Elab.async false
set_option linter.all false
set_option maxRecDepth 100000
set_option maxHeartbeats 2000000
namespace PM
open PySem L2
def opA (rs : List Rd) (w : Int) : Bool := rs.any (·.opens w)
theorem rfr_nil {rs : List Rd} {w : Int} : rfr rs w = [] ↔ opA rs w = false := by
  constructor
  · intro h
    refine Bool.eq_false_iff.mpr fun hh => ?_
    obtain ⟨r, hr, h2⟩ := List.any_eq_true.mp hh
    obtain ⟨i, hi⟩ := List.mem_iff_getElem?.mp hr
    have : (i : Int) ∈ rfr rs w := mem_rfr.mpr ⟨i, r, rfl, hi, h2⟩
    rw [h] at this
    cases this
  · intro h
    cases q : rfr rs w with
    | nil => rfl
    | cons k ks =>
      obtain ⟨i, r, _, h1, h2⟩ := mem_rfr.mp (show k ∈ rfr rs w by rw [q]; simp)
      have : opA rs w = true := List.any_eq_true.mpr ⟨r, List.mem_of_getElem? h1, h2⟩
      rw [h] at this
      cases this
theorem rfr_some {rs : List Rd} {w : Int} (h : opA rs w = true) : ∃ k ks, rfr rs w = k :: ks := by
  cases q : rfr rs w with
  | nil =>
    rw [rfr_nil] at q
    rw [q] at h
    cases h
  | cons k ks => exact ⟨k, ks, rfl⟩
theorem opens_mod {rs : List Rd} {r : Rd} (h : r ∈ rs) (hr : ∀ r ∈ rs, r.ok) {w w' : Int} (e : ((stp rs : Nat) : Int) ∣ w - w') : r.opens w = r.opens w' := by
  cases r with
  | right => rfl
  | left => rfl
  | ev a b =>
    obtain ⟨k1, k2, k3, k4⟩ := hr _ h
    have d := (stpF_dvd rs 1).2 a b h
    have d2 : a ∣ ((stp rs : Nat) : Int) := by
      obtain ⟨c, hc⟩ := d
      refine ⟨c, ?_⟩
      have : ((stp rs : Nat) : Int) = ((a.toNat * c : Nat) : Int) := by
        rw [← hc]
        rfl
      rw [this]
      push_cast
      rw [Int.toNat_of_nonneg (by omega)]
    have d3 := Int.dvd_trans d2 e
    have : w % a = w' % a := Int.emod_eq_emod_iff_emod_sub_eq_zero.mpr (Int.emod_eq_zero_of_dvd d3)
    simp [Rd.opens, this]
theorem opA_mod {rs : List Rd} (hr : ∀ r ∈ rs, r.ok) {w w' : Int} (e : ((stp rs : Nat) : Int) ∣ w - w') : opA rs w = opA rs w' := by
  unfold opA
  rw [Bool.eq_iff_iff, List.any_eq_true, List.any_eq_true]
  constructor
  · rintro ⟨r, h1, h2⟩
    exact ⟨r, h1, by rw [← opens_mod h1 hr e]; exact h2⟩
  · rintro ⟨r, h1, h2⟩
    exact ⟨r, h1, by rw [opens_mod h1 hr e]; exact h2⟩
theorem opA_emod {rs : List Rd} (hr : ∀ r ∈ rs, r.ok) (w : Int) : opA rs (w % ((stp rs : Nat) : Int)) = opA rs w := opA_mod hr (by
  have := Int.mul_ediv_add_emod w ((stp rs : Nat) : Int)
  exact ⟨-(w / ((stp rs : Nat) : Int)), by rw [Int.mul_neg]; omega⟩)
def evenO (xs : List Int) : D := .obj "EvenAlways" [("rounds", .lst (xs.map .int))]
def partO (w : Int) : D := .obj "Parted" [("weir", .int w)]
theorem mk_Even (xs : List Int) (S : Sto) : mkObj false "EvenAlways" m_EvenAlways___init__ [.lst (xs.map .int)] S = .ok (evenO xs) (S ++ [.dead]) := by
  simp [mkObj_ap, m_EvenAlways___init__, b_EvenAlways___init__, evenO]
theorem mk_Parted (w : Int) (S : Sto) : mkObj false "Parted" m_Parted___init__ [.int w] S = .ok (partO w) (S ++ [.dead]) := by
  simp [mkObj_ap, m_Parted___init__, b_Parted___init__, partO]
/-- the first weir up to the step that is never opened -/
def shutW (rs : List Rd) : Option Int := (rng 1 (stp rs + 1)).find? fun w => !opA rs w
def jd (rs : List Rd) : D := match shutW rs with
  | some w => partO w
  | none => evenO ((rng 0 (stp rs)).map fun r => (rfr rs r).headD 0)
theorem find_take {α : Type} {p : α → Bool} {l : List α} {i : Nat} {a : α} (h : ∀ b ∈ l.take i, p b = false) (e : l[i]? = some a) (ha : p a = true) : l.find? p = some a := by
  have hi := (List.getElem?_eq_some_iff.mp e).1
  have : l = l.take i ++ a :: l.drop (i + 1) := by
    rw [← (List.getElem?_eq_some_iff.mp e).2, List.getElem_cons_drop_succ_eq_drop hi, List.take_append_drop]
  rw [this, List.find?_append, List.find?_eq_none.mpr (fun b hb => by simp [h b hb])]
  simp [ha]
theorem m_judge_even_ok {rs : List Rd} (hr : ∀ r ∈ rs, r.ok) (hl : rs.length ≤ 12) (S : Sto) : m_judge_even [prog rs] S = .ok (jd rs) (S ++ [.dead]) := by
  obtain ⟨p1, p2⟩ := stp_pos rs hr
  have p0 : 0 < stp rs := p1
  have e1 := stp_dbl rs
  have c1 : (stp rs : Int) + 1 ≤ 1000000 := by omega
  have c2 : (-1000000 : Int) ≤ (stp rs : Int) + 1 := by omega
  have c3 : (stp rs : Int) ≤ 1000000 := by omega
  have c4 : (-1000000 : Int) ≤ (stp rs : Int) := by omega
  have c5 : (0 : Int) < (stp rs : Int) := by omega
  simp -implicitDefEqProofs [m_judge_even, b_judge_even, m_check_program_ok, m_common_step_ok hr hr hl hl, e1, c1, c2, rangeD_rng]
  refine forGo_rule (G := fun o => toOut (o.andThen _) = .ok (jd rs) (S ++ [.dead])) (fun i e S' => S' = S ∧ (∀ b ∈ (rng 1 (stp rs + 1)).take i, (!opA rs b) = false) ∧ ∃ a, e = ⟨[some (prog rs), some (.int (stp rs)), a, none], none⟩) ⟨rfl, by simp, _, rfl⟩ ?_ ?_
  · rintro i d e S' hi ⟨rfl, hall, a, rfl⟩
    rw [List.getElem?_map] at hi
    cases q : (rng 1 (stp rs + 1))[i]? with
    | none => simp -implicitDefEqProofs [q] at hi
    | some w =>
      simp -implicitDefEqProofs [q] at hi
      subst hi
      have em := opA_emod hr w
      cases ho : opA rs w with
      | true =>
        rw [ho] at em
        obtain ⟨k, ks, hk⟩ := rfr_some em
        simp -implicitDefEqProofs [p0, m_rounds_for_ok hr hl, hk]
        intro b hb
        rw [List.take_add_one, q] at hb
        rcases List.mem_append.mp hb with hb | hb
        · have := hall b hb
          simpa using this
        · simp at hb
          rw [hb]
          exact ho
      | false =>
        rw [ho] at em
        have hk := rfr_nil.mpr em
        simp -implicitDefEqProofs [p0, m_rounds_for_ok hr hl, hk, mk_Parted]
        have := find_take (p := fun w => !opA rs w) hall q (by simp -implicitDefEqProofs [ho])
        simp -implicitDefEqProofs [jd, shutW, this]
  · rintro e S' ⟨rfl, hall, a, rfl⟩
    have hn : shutW rs = none := by
      unfold shutW
      refine List.find?_eq_none.mpr fun b hb => ?_
      have := hall b (by
        rw [List.take_of_length_le (by simp)]
        exact hb)
      simpa using this
    have hall2 : ∀ w : Int, opA rs w = true := fun w => by
      rw [← opA_emod hr]
      have h0 := Int.emod_nonneg w (show ((stp rs : Nat) : Int) ≠ 0 by omega)
      have h1 := Int.emod_lt_of_pos w c5
      by_cases z : w % ((stp rs : Nat) : Int) = 0
      · have := List.find?_eq_none.mp hn (stp rs) (mem_rng.mpr (by omega))
        rw [← opA_mod hr (w := (stp rs : Nat)) (w' := w % ((stp rs : Nat) : Int)) (by rw [z]; simp)]
        simpa using this
      · have := List.find?_eq_none.mp hn (w % ((stp rs : Nat) : Int)) (mem_rng.mpr (by omega))
        simpa using this
    have lc := lcGo_all (tg := gN 3) (m := e2 dIx (eA m_rounds_for (aCons (eVar 0) (aCons (eVar 3) aNil))) (eC (.int 0))) (e0 := ⟨[some (prog rs), some (.int (stp rs)), a, none], none⟩) (S := S') D.int (fun r => D.int ((rfr rs r).head?.getD 0)) (rng 0 (stp rs)) fun r _ => by
      obtain ⟨k, ks, hk⟩ := rfr_some (hall2 r)
      refine ⟨_, rfl, ?_⟩
      simp -implicitDefEqProofs [m_rounds_for_ok hr hl, hk]
    have mk := mk_Even ((rng 0 (stp rs)).map fun r => (rfr rs r).head?.getD 0) S'
    have ee : ((rng 0 (stp rs)).map fun r => (rfr rs r).head?.getD 0).map D.int = (rng 0 (stp rs)).map fun r => D.int ((rfr rs r).head?.getD 0) := by
      rw [List.map_map]
      rfl
    rw [ee] at mk
    have c6 : stp rs ≤ 100000 := by omega
    simp -implicitDefEqProofs [c3, c4, c6, rangeD_rng, lc, mk, jd, hn]
/-! ### what the evidence shows -/
theorem jd_cases {rs : List Rd} (hr : ∀ r ∈ rs, r.ok) : (∃ w, jd rs = partO w ∧ 1 ≤ w ∧ w ≤ stp rs ∧ opA rs w = false ∧ ∀ v, 1 ≤ v → v < w → opA rs v = true) ∨ (jd rs = evenO ((rng 0 (stp rs)).map fun r => (rfr rs r).head?.getD 0) ∧ ∀ w, opA rs w = true) := by
  cases hn : shutW rs with
  | some w =>
    refine .inl ⟨w, by simp [jd, hn], ?_⟩
    unfold shutW at hn
    have h1 := List.find?_some hn
    have h2 := mem_rng.mp (List.mem_of_find?_eq_some hn)
    refine ⟨h2.1, by omega, by simpa using h1, fun v v1 v2 => ?_⟩
    refine Classical.byContradiction fun hv => ?_
    have hv : opA rs v = false := by simpa using hv
    obtain ⟨as, bs, e, h3⟩ := (List.find?_eq_some_iff_append.mp hn).2
    have hm : v ∈ rng 1 ((stp rs : Nat) + 1) := mem_rng.mpr (by omega)
    rw [e] at hm
    rcases List.mem_append.mp hm with hm | hm
    · have := h3 v hm
      simp [hv] at this
    · have hp : (rng 1 ((stp rs : Nat) + 1)).Pairwise (· < ·) := by
        unfold rng
        rw [List.pairwise_map]
        exact List.pairwise_lt_range.imp fun h => by omega
      rw [e] at hp
      rcases List.mem_cons.mp hm with rfl | hm
      · omega
      · have := (List.pairwise_cons.mp (List.pairwise_append.mp hp).2.1).1 v hm
        omega
  | none =>
    refine .inr ⟨by simp [jd, hn], fun w => ?_⟩
    obtain ⟨p1, p2⟩ := stp_pos rs hr
    have c5 : (0 : Int) < (stp rs : Int) := by omega
    rw [← opA_emod hr]
    have h0 := Int.emod_nonneg w (show ((stp rs : Nat) : Int) ≠ 0 by omega)
    have h1 := Int.emod_lt_of_pos w c5
    by_cases z : w % ((stp rs : Nat) : Int) = 0
    · have := List.find?_eq_none.mp hn (stp rs) (mem_rng.mpr (by omega))
      rw [← opA_mod hr (w := (stp rs : Nat)) (w' := w % ((stp rs : Nat) : Int)) (by rw [z]; simp)]
      simpa using this
    · have := List.find?_eq_none.mp hn (w % ((stp rs : Nat) : Int)) (mem_rng.mpr (by omega))
      simpa using this
def evShows (rs : List Rd) (xs : List Int) : Bool := decide (xs.length = stp rs) && (List.range xs.length).all fun i => decide (xs.getD i 0 ∈ rfr rs i)
theorem m_EvenAlways_shows_ok {rs : List Rd} (hr : ∀ r ∈ rs, r.ok) (hl : rs.length ≤ 12) {xs : List Int} (hx : xs.length ≤ 1000) (S : Sto) : m_EvenAlways_shows [evenO xs, prog rs] S = .ok (.bl (evShows rs xs)) S := by
  have e1 := stp_dbl rs
  have c1 : xs.length ≤ 100000 := by omega
  by_cases h : xs.length = stp rs
  · have lc := lcGo_all (tg := gT 2 (gC (gN 2) (gC (gN 3) gN0))) (m := e2 (dIn false) (eVar 3) (eA m_rounds_for (aCons (eVar 1) (aCons (eVar 2) aNil)))) (e0 := ⟨[some (evenO xs), some (prog rs), none, none], none⟩) (S := S) (fun (i : Nat) => D.tup [.int i, (xs.map D.int).getD i .non]) (fun i => D.bl (decide (xs.getD i 0 ∈ rfr rs i))) (List.range xs.length) fun i hi => by
      have hi := List.mem_range.mp hi
      refine ⟨_, by simp [List.getElem?_eq_getElem hi]; rfl, ?_⟩
      have d := dIn_lst false (a := .int xs[i]) (ds := (rfr rs i).map D.int) S (by simp) (by simp)
      simp -implicitDefEqProofs [m_rounds_for_ok hr hl, d, List.getElem?_eq_getElem hi]
    rw [← numD_map] at lc
    simp only [evenO] at lc ⊢
    simp -implicitDefEqProofs [m_EvenAlways_shows, b_EvenAlways_shows, m_check_program_ok, m_common_step_ok hr hr hl hl, e1, h, numD_len, c1, oM] 
    rw [h] at c1
    simp -implicitDefEqProofs [c1, dAll, lc]
    simp [evShows, h, List.all_map, oM]
  · simp only [evenO]
    simp -implicitDefEqProofs [m_EvenAlways_shows, b_EvenAlways_shows, m_check_program_ok, m_common_step_ok hr hr hl hl, e1, h, evShows]
    have : ¬ ((xs.length : Int) = (stp rs : Int)) := by omega
    simp -implicitDefEqProofs [this]
end PM
end
section
set_option Elab.async false
set_option linter.all false
set_option maxRecDepth 100000
set_option maxHeartbeats 2000000
namespace PM
open PySem L2
theorem is_Even (xs : List Int) (S : Sto) : dIs ["EvenAlways", "Parted"] sameC [.inr "EvenAlways"] (evenO xs) S = .ok (.bl true) S := by
  simp [dIs_ap ["EvenAlways", "Parted"] _ (evenO xs) S (k := .inr "EvenAlways") rfl rfl, isK, sameC]
theorem is_Even_P (w : Int) (S : Sto) : dIs ["EvenAlways", "Parted"] sameC [.inr "EvenAlways"] (partO w) S = .ok (.bl false) S := by
  simp [dIs_ap ["EvenAlways", "Parted"] _ (partO w) S (k := .inr "Parted") rfl rfl, isK, sameC]
theorem is_Part (w : Int) (S : Sto) : dIs ["EvenAlways", "Parted"] sameC [.inr "Parted"] (partO w) S = .ok (.bl true) S := by
  simp [dIs_ap ["EvenAlways", "Parted"] _ (partO w) S (k := .inr "Parted") rfl rfl, isK, sameC]
def ptShows (rs : List Rd) (w : Int) : Bool := decide (jd rs = partO w)
theorem m_Parted_shows_ok {rs : List Rd} (hr : ∀ r ∈ rs, r.ok) (hl : rs.length ≤ 12) (w : Int) (S : Sto) : m_Parted_shows [partO w, prog rs] S = .ok (.bl (ptShows rs w)) (S ++ [.dead]) := by
  rcases jd_cases hr with ⟨v, e, _⟩ | ⟨e, _⟩
  · have i1 := is_Part w (S ++ [.dead])
    simp only [partO] at e i1 ⊢
    simp -implicitDefEqProofs [m_Parted_shows, b_Parted_shows, m_judge_even_ok hr hl, e, dEqM, dEqO, m_Parted___eq__, b_Parted___eq__, i1, ptShows, partO]
  · have i1 := is_Even_P w (S ++ [.dead])
    simp only [evenO, partO] at e i1 ⊢
    simp -implicitDefEqProofs [m_Parted_shows, b_Parted_shows, m_judge_even_ok hr hl, e, dEqM, dEqO, m_EvenAlways___eq__, b_EvenAlways___eq__, i1, ptShows, partO]
/-! ### stretches -/
def ends (rs : List Rd) (n : Int) : List Int := (rng 1 n).filter fun w => !opA rs w
theorem zipD_map (xs ys : List Int) : zipD (xs.map .int) (ys.map .int) = (xs.zip ys).map fun p => D.tup [.int p.1, .int p.2] := by
  unfold zipD
  rw [List.zip_map, List.map_map]
  rfl
theorem m_stretches_ok {rs : List Rd} (hr : ∀ r ∈ rs, r.ok) (hl : rs.length ≤ 12) {n : Int} (h1 : 1 ≤ n) (h2 : n ≤ 400) (S : Sto) : m_stretches [prog rs, .int n] S = .ok (.lst (((0 :: ends rs n).zip (ends rs n ++ [n])).map fun p => D.tup [.int p.1, .int p.2])) (S ++ [.dead]) := by
  have c1 : -1000000 ≤ n ∧ n ≤ 1000000 := by omega
  have c3 : (rangeD 1 n).length ≤ 100000 := by
    rw [rangeD_rng]
    simp
    omega
  have lc := lcGo_map (tg := gN 4) (t := tOf (e2 dNotInF (eVar 4) (eVar 2))) (m := eVar 4) (e0 := ⟨[some (prog rs), some (.int n), some (.lst ((opn rs n).map .int)), none, none], none⟩) (S := S ++ [.dead]) D.int (fun w => !opA rs w) D.int (rng 1 n) fun w hw => by
    refine ⟨_, rfl, ?_, fun _ => by simp⟩
    have d := dNotInF_lst (a := .int w) (ds := (opn rs n).map D.int) (S ++ [.dead]) (by simp) (by simp)
    have hm : (w ∈ opn rs n) = (opA rs w = true) := by
      rw [mem_opn]
      exact propext ⟨fun h => h.2, fun h => ⟨mem_rng.mp hw, h⟩⟩
    simp -implicitDefEqProofs [d, hm]
  rw [← rangeD_rng] at lc
  have o := m_openings_ok (IsSeq.tup (ds := rs.map Rd.d)) hl hr h1 h2 S
  have len : (ends rs n).length ≤ 400 := by
    refine Nat.le_trans (List.length_filter_le _ _) ?_
    simp
    omega
  have c4 : (ends rs n).length + 1 ≤ 100000 := by omega
  have z := zipD_map (0 :: ends rs n) (ends rs n ++ [n])
  simp at z
  have pr : m_check_program [.obj "Program" [("rounds", .tup (rs.map Rd.d))]] S = .ok .non S := m_check_program_ok rs S
  simp only [prog] at lc ⊢
  have e : List.filter (fun w => !opA rs w) (rng 1 n) = ends rs n := rfl
  rw [e] at lc
  simp -implicitDefEqProofs [m_stretches, b_stretches, pr, m_check_many_ok h1 h2, o, c1, c3, lc, c4, dZipL, z]
end PM
end
section
set_option Elab.async false
set_option linter.all false
set_option maxRecDepth 100000
set_option maxHeartbeats 2000000
/-! the helpers of laws of programs -/
namespace PM
open PySem L2
theorem dEq_scr (neg : Bool) (ns : List Int) (S : Sto) : dEq neg (.scr ns) (.lst []) S = .ok (.bl (neg != decide (ns = []))) S := by
  unfold dEq
  cases ns <;> simp [rdD, D.okD, D.py, D.pys, PyData.eqv, PyData.eqvAll]
def it97 : Nat → Int → Int
  | 0, c => c
  | n + 1, c => it97 n c / 97
theorem draw_ok (ns : List Int) (at_ many : Int) (h0 : 0 ≤ at_) (h1 : at_ ≤ 100000) (h2 : 0 < many) : ∃ v, 0 ≤ v ∧ v < many ∧ ∀ S, m__law_draw [.scr ns, .int at_, .int many] S = .ok (.int v) S := by
  -- the row
  obtain ⟨row, hrow, he, hl⟩ : ∃ row : List Int, row ≠ [] ∧ (∀ (l : List (Option D)) (S : Sto), eIf (tOf (e2 (dEq true) (eVar 0) (eA dLst aNil))) (eSl (eVar 0) oNone (oSome (eC (.int 60)))) (eA dLst (aCons (eC (.int 7)) aNil)) ⟨some (.scr ns) :: l, none⟩ S = .ok (.lst (row.map .int)) S) ∧ row.length ≤ 60 := by
    by_cases h : ns = []
    · refine ⟨[7], by simp, fun l S => ?_, by simp⟩
      simp [dEq_scr, h]
    · refine ⟨ns.take 60, by simpa using h, fun l S => ?_, by simp; omega⟩
      simp [dEq_scr, h, dSl, cutD, HT.sIx]
  have hp : 0 < row.length := List.length_pos_iff.mpr hrow
  obtain ⟨cell, hc⟩ : ∃ cell, row[(at_ % (row.length : Int)).toNat]? = some cell := by
    have a1 := Int.emod_nonneg at_ (show (row.length : Int) ≠ 0 by omega)
    have a2 := Int.emod_lt_of_pos at_ (show (0 : Int) < (row.length : Int) by omega)
    exact ⟨_, List.getElem?_eq_getElem (by omega)⟩
  have hat : atI (row.map D.int) (at_ % (row.length : Int)) = some (.int cell) := atI_pos (Int.emod_nonneg _ (by omega)) (by rw [List.getElem?_map, hc]; rfl)
  have lg : (row.length : Int).natAbs.log2 < 9000 := Nat.lt_of_le_of_lt (Nat.log2_le_self _) (by omega)
  have lg' : row.length.log2 < 9000 := lg
  have hp' : (0 : Int) < (row.length : Int) := by omega
  have p1 : (10 : Int) ^ (18 : Int).toNat = 1000000000000000000 := by decide
  have l97 : (97 : Int).natAbs.log2 < 9000 := by decide
  have lA : (1000003 : Int).natAbs.log2 < 9000 := by decide
  have t0 := Int.ediv_nonneg h0 (Int.le_of_lt hp')
  have t1 : at_ / (row.length : Int) ≤ at_ := Int.ediv_le_self _ h0
  by_cases big : (1000000000000000000 : Int) ≤ cell
  · -- a great cell
    refine ⟨it97 (at_ / (row.length : Int) % 40).toNat (cell % 97 ^ 40) % 97 % many, Int.emod_nonneg _ (by omega), Int.emod_lt_of_pos _ h2, fun S => ?_⟩
    have r0 := Int.emod_nonneg (at_ / (row.length : Int)) (show (40 : Int) ≠ 0 by decide)
    have r1 := Int.emod_lt_of_pos (at_ / (row.length : Int)) (show (0 : Int) < 40 by decide)
    have c1 : -1000000 ≤ at_ / (row.length : Int) % 40 ∧ at_ / (row.length : Int) % 40 ≤ 1000000 := by omega
    have p2 : (0 : Int) < 97 ^ (40 : Int).toNat := by decide
    simp -implicitDefEqProofs [m__law_draw, b__law_draw, he, hp', lg, lg', hat, big, p1, c1, rangeD_rng, hp]
    refine forGo_rule (G := fun o => toOut ((o.andThen _).andThen _) = .ok (.int (it97 (at_ / (row.length : Int) % 40).toNat (cell % 97 ^ 40) % 97 % many)) S) (fun i e S' => S' = S ∧ ∃ x, e = ⟨[some (.scr ns), some (.int at_), some (.int many), some (.lst (row.map .int)), some (.int (it97 i (cell % 97 ^ 40))), some (.int (at_ / (row.length : Int))), x, none], none⟩) ⟨rfl, _, rfl⟩ ?_ ?_
    · rintro i d e S' hi ⟨rfl, x, rfl⟩
      refine ⟨rfl, _, rfl, ?_⟩
      simp -implicitDefEqProofs [l97, it97]
    · rintro e S' ⟨rfl, x, rfl⟩
      refine ⟨rfl, ?_⟩
      simp -implicitDefEqProofs [h2]
  · refine ⟨(((cell + 31 * (at_ / (row.length : Int))) % 1000003 + 977 * at_ + 13) * 48271 + cell / 1000003 % 999983) % 2147483647 * 65537 % 4294967291 % many, Int.emod_nonneg _ (by omega), Int.emod_lt_of_pos _ h2, fun S => ?_⟩
    have tt : (at_ / (row.length : Int)).natAbs < 18446744073709551616 := by omega
    have ta : at_.natAbs < 18446744073709551616 := by omega
    have a0 := Int.emod_nonneg (cell + 31 * (at_ / (row.length : Int))) (show (1000003 : Int) ≠ 0 by decide)
    have a1 := Int.emod_lt_of_pos (cell + 31 * (at_ / (row.length : Int))) (show (0 : Int) < 1000003 by decide)
    have tb : ((cell + 31 * (at_ / (row.length : Int))) % 1000003 + 977 * at_ + 13).natAbs < 18446744073709551616 := by omega
    have tm : ∀ z : Int, (z % 2147483647).natAbs < 18446744073709551616 := fun z => by
      have b0 := Int.emod_nonneg z (show (2147483647 : Int) ≠ 0 by decide)
      have b1 := Int.emod_lt_of_pos z (show (0 : Int) < 2147483647 by decide)
      omega
    simp -implicitDefEqProofs [m__law_draw, b__law_draw, he, hp', lg, lg', hat, big, p1, hp, tt, ta, tb, tm, h2]

theorem of_all {α : Type} {enc : α → D} {p : α → Prop} : ∀ {ys : List D}, (∀ y ∈ ys, ∃ a, y = enc a ∧ p a) → ∃ xs : List α, ys = xs.map enc ∧ ∀ a ∈ xs, p a
  | [], _ => ⟨[], rfl, by simp⟩
  | y :: ys, h => by
    obtain ⟨a, e, pa⟩ := h y (by simp)
    obtain ⟨xs, e2, pxs⟩ := of_all fun z hz => h z (List.mem_cons_of_mem _ hz)
    exact ⟨a :: xs, by rw [e, e2]; rfl, fun b hb => by
      rcases List.mem_cons.mp hb with rfl | hb
      · exact pa
      · exact pxs b hb⟩
/-- the way of a word -/
def wayR (w : String) : Rd := if w = "left" then .left else .right
theorem rounds_ok (ns : List Int) (at_ most : Int) (way : String) (hw : way = "right" ∨ way = "left") (h0 : 0 ≤ at_) (h1 : at_ ≤ 1000) (m0 : 0 ≤ most) (m1 : most ≤ 20) (S : Sto) :
    ∃ (rs : List Rd) (S' : Sto), m__law_rounds [.scr ns, .int at_, .int most, .str way] S = .ok (.lst (rs.map Rd.d)) S' ∧ (rs.length : Int) ≤ most ∧ ∀ r ∈ rs, r.ok ∧ (r = wayR way ∨ ∃ a b, r = .ev a b) := by
  obtain ⟨v1, v1a, v1b, d1⟩ := draw_ok ns at_ 4 h0 (by omega) (by decide)
  obtain ⟨v2, v2a, v2b, d2⟩ := draw_ok ns (at_ + 1) 2 (by omega) (by omega) (by decide)
  obtain ⟨v3, v3a, v3b, d3⟩ := draw_ok ns (at_ + 2) (3 + v2) (by omega) (by omega) (by omega)
  obtain ⟨v4, v4a, v4b, d4⟩ := draw_ok ns (at_ + 3) (most + 1) (by omega) (by omega) (by omega)
  have c4 : -1000000 ≤ v4 ∧ v4 ≤ 1000000 := by omega
  have c5 : (rangeD 0 v4).length ≤ 100000 := by
    rw [rangeD_rng]
    simp
    omega
  have hway : D.tup [.str way] = (wayR way).d := by
    rcases hw with rfl | rfl <;> rfl
  -- what stands in rows
  have main : ∀ (x1 : Rd) (x5 : Option D), (x1.ok ∧ ∃ a b, x1 = .ev a b) → ∃ rs : List Rd, lcGo [] (gN 6) tYesP (e2 dIx (eVar 4) (eA m__law_draw (aCons (eVar 0) (aCons (e2 dAdd (e2 dAdd (eVar 1) (eC (.int 4))) (eVar 6)) (aCons (eC (.int 5)) aNil)))))
      ⟨[some (.scr ns), some (.int at_), some (.int most), some (.str way), some (.ptr S.length), x5, none], none⟩ (rangeD 0 v4) (S ++ [.lst [(wayR way).d, x1.d, (Rd.ev 2 0).d, x1.d, (Rd.ev 2 0).d]]) = .ok (rs.map Rd.d) (S ++ [.lst [(wayR way).d, x1.d, (Rd.ev 2 0).d, x1.d, (Rd.ev 2 0).d]]) ∧ (rs.length : Int) ≤ v4 ∧ ∀ r ∈ rs, r.ok ∧ (r = wayR way ∨ ∃ a b, r = .ev a b) := by
    intro x1 x5 hx
    obtain ⟨ys, S', q1, q2, q3, q4⟩ := lcGo_run (src := []) (tg := gN 6) (t := tYesP) (m := e2 dIx (eVar 4) (eA m__law_draw (aCons (eVar 0) (aCons (e2 dAdd (e2 dAdd (eVar 1) (eC (.int 4))) (eVar 6)) (aCons (eC (.int 5)) aNil)))))
      (e0 := ⟨[some (.scr ns), some (.int at_), some (.int most), some (.str way), some (.ptr S.length), x5, none], none⟩) (fun k acc S' => S' = S ++ [.lst [(wayR way).d, x1.d, (Rd.ev 2 0).d, x1.d, (Rd.ev 2 0).d]] ∧ acc.length = k ∧ ∀ y ∈ acc, ∃ r : Rd, y = r.d ∧ r.ok ∧ (r = wayR way ∨ ∃ a b, r = .ev a b)) (rangeD 0 v4) 0 [] _ ⟨rfl, rfl, by simp⟩ (by
        rintro i d acc S' hi ⟨rfl, hl, ha⟩
        rw [rangeD_rng, List.getElem?_map] at hi
        cases q : (rng 0 v4)[i]? with
        | none => simp [q] at hi
        | some w =>
          simp [q] at hi
          subst hi
          obtain ⟨w1, w2⟩ := rng_get q
          obtain ⟨u, u1, u2, du⟩ := draw_ok ns (at_ + 4 + w) 5 (by omega) (by omega) (by decide)
          have hu : u = 0 ∨ u = 1 ∨ u = 2 ∨ u = 3 ∨ u = 4 := by omega
          have fin : ∃ r : Rd, atI [(wayR way).d, x1.d, (Rd.ev 2 0).d, x1.d, (Rd.ev 2 0).d] u = some r.d ∧ r.ok ∧ (r = wayR way ∨ ∃ a b, r = .ev a b) := by
            have wok : (wayR way).ok := by rcases hw with rfl | rfl <;> trivial
            have eok : (Rd.ev 2 0).ok := by simp [Rd.ok]
            rcases hu with rfl | rfl | rfl | rfl | rfl
            · exact ⟨wayR way, by simp, wok, .inl rfl⟩
            · exact ⟨x1, by simp, hx.1, .inr hx.2⟩
            · exact ⟨.ev 2 0, by simp, eok, .inr ⟨_, _, rfl⟩⟩
            · exact ⟨x1, by simp, hx.1, .inr hx.2⟩
            · exact ⟨.ev 2 0, by simp [atI, ixN], eok, .inr ⟨_, _, rfl⟩⟩
          obtain ⟨r, hr, r2, r3⟩ := fin
          refine ⟨rfl, _, true, _, rfl, rfl, ?_⟩
          simp only [if_true]
          refine ⟨r.d, _, by simp -implicitDefEqProofs [du, hr], rfl, by simp [hl], fun y hy => ?_⟩
          rcases List.mem_append.mp hy with hy | hy
          · exact ha y hy
          · rw [List.mem_singleton.mp hy]
            exact ⟨r, rfl, r2, r3⟩) (fun _ _ _ => rfl)
    rw [List.nil_append] at q4 q3
    obtain ⟨rs, e, hrs⟩ := of_all q4
    refine ⟨rs, by rw [q1, q2, e], ?_, hrs⟩
    have : rs.length = (rangeD 0 v4).length := by
      rw [e, List.length_map] at q3
      omega
    rw [this, rangeD_rng]
    simp
    omega
  by_cases hv : v1 = 0
  · obtain ⟨rs, e, l, hrs⟩ := main (.ev (3 + v2) v3) (some (.int (3 + v2))) ⟨by simp [Rd.ok]; omega, _, _, rfl⟩
    refine ⟨rs, S ++ [.lst [(wayR way).d, (Rd.ev (3 + v2) v3).d, (Rd.ev 2 0).d, (Rd.ev (3 + v2) v3).d, (Rd.ev 2 0).d]], ?_, by omega, hrs⟩
    subst hv
    rw [← hway] at e ⊢
    simp only [Rd.d] at e ⊢
    simp -implicitDefEqProofs [m__law_rounds, b__law_rounds, d1, d2, d3, d4, c4, c5, dSet, cellL, ixN, putL, oM, e]
  · obtain ⟨rs, e, l, hrs⟩ := main (.ev 2 1) none ⟨by simp [Rd.ok], _, _, rfl⟩
    refine ⟨rs, S ++ [.lst [(wayR way).d, (Rd.ev 2 1).d, (Rd.ev 2 0).d, (Rd.ev 2 1).d, (Rd.ev 2 0).d]], ?_, by omega, hrs⟩
    rw [← hway] at e ⊢
    simp only [Rd.d] at e ⊢
    simp -implicitDefEqProofs [m__law_rounds, b__law_rounds, d1, d4, c4, c5, hv, e]

theorem law_weirs_ok {r : Rd} (hr : r.ok) {n : Int} (h1 : -1000 ≤ n) (h2 : n ≤ 1000) (S : Sto) : m__law_weirs [r.d, .int n] S = .ok (.lst ((wrs r n).map .int)) S := by
  have c1 : -1000000 ≤ n ∧ n ≤ 1000000 := by omega
  cases r with
  | right => simp -implicitDefEqProofs [m__law_weirs, b__law_weirs, Rd.d, c1, rangeD_rng, wrs]
  | left => simp -implicitDefEqProofs [m__law_weirs, b__law_weirs, Rd.d, c1, rangeD_rng, wrs]
  | ev a b =>
    obtain ⟨k1, k2, k3, k4⟩ := hr
    have c3 : 0 < a := by omega
    have c2 : (rangeD 1 n).length ≤ 100000 := by
      rw [rangeD_rng]
      simp
      omega
    have e := lc_rest (i := 2) (j := 2) (l := [some (.tup [.str "every", .int a, .int b]), some (.int n), none]) (a := a) (b := b) (n := n)
      (tOf (e2 (dEq false) (e2 dMod (eVar 2) (e2 dIx (eVar 0) (eC (.int 1)))) (e2 dIx (eVar 0) (eC (.int 2))))) S c3 (by simp) fun w => by simp [c3]
    simp -implicitDefEqProofs [m__law_weirs, b__law_weirs, Rd.d, c1, c2, e]
theorem law_order_ok {rs : List Rd} {x : D} (hx : IsSeq (rs.map Rd.d) x) (hl : rs.length ≤ 40) (hr : ∀ r ∈ rs, r.ok) {n : Int} (h1 : -1000 ≤ n) (h2 : n ≤ 1000) (S : Sto) : m__law_order_p [x, .int n] S = .ok (.lst ((opn rs n).map .int)) S := by
  simp -implicitDefEqProofs [m__law_order_p, b__law_order_p, hx.itm, oM]
  refine forGo_rule (G := fun o => toOut (o.andThen _) = .ok (.lst ((opn rs n).map .int)) S) (fun i e S' => S' = S ∧ ∃ a, e = ⟨[some x, some (.int n), some (.lst ((opn (rs.take i) n).map .int)), a], none⟩) ⟨rfl, _, rfl⟩ ?_ ?_
  · rintro i d e S' hi ⟨rfl, a, rfl⟩
    rw [List.getElem?_map] at hi
    cases q : rs[i]? with
    | none => simp [q] at hi
    | some r =>
      simp [q] at hi
      subst hi
      have ok := hr r (List.mem_of_getElem? q)
      have et : opn (rs.take (i + 1)) n = opn (rs.take i) n ++ wrs r n := by
        rw [List.take_add_one, q]
        simp [opn]
      have hlen : (opn (rs.take i) n).length + (wrs r n).length ≤ 100000 := by
        have a1 := opn_len (rs.take i) n
        have a2 := wrs_len r n
        have a3 : (rs.take i).length ≤ 40 := by
          rw [List.length_take]
          omega
        have := Nat.mul_le_mul a3 (Nat.le_refl (n - 1).toNat)
        omega
      rw [et]
      simp -implicitDefEqProofs [law_weirs_ok ok h1 h2, hlen]
  · rintro e S' ⟨rfl, a, rfl⟩
    simp
end PM
end
section
set_option Elab.async false
set_option linter.all false
set_option maxRecDepth 100000
namespace PM
open PySem L2
theorem cutD_hi (ds : List D) {k : Int} (h : 0 ≤ k) : cutD ds none (some k) = ds.take k.toNat := by
  unfold cutD HT.sIx
  simp only [List.drop_zero, Nat.sub_zero]
  rw [if_neg (by omega)]
  by_cases c : k.toNat ≤ ds.length
  · rw [Nat.min_eq_left c]
  · rw [Nat.min_eq_right (by omega), List.take_of_length_le (by omega), List.take_of_length_le (by omega)]
theorem cutD_lo (ds : List D) {k : Int} (h : 0 ≤ k) : cutD ds (some k) none = ds.drop k.toNat := by
  unfold cutD HT.sIx
  simp only
  rw [if_neg (by omega)]
  by_cases c : k.toNat ≤ ds.length
  · rw [Nat.min_eq_left c, List.take_of_length_le (by simp)]
  · rw [Nat.min_eq_right (by omega), List.drop_of_length_le (Nat.le_refl _), List.drop_of_length_le (by omega)]
    simp
theorem dSl_lst (ds : List D) (lo hi : Option Int) (S : Sto) : dSl (.lst ds) lo hi S = .ok (.lst (cutD ds lo hi)) S := rfl
theorem dSl_tup (ds : List D) (lo hi : Option Int) (S : Sto) : dSl (.tup ds) lo hi S = .ok (.tup (cutD ds lo hi)) S := rfl
theorem rep_int (n : Nat) (c : Int) : (List.replicate n [D.int c]).flatten = (List.replicate n c).map D.int := by
  induction n with
  | zero => rfl
  | succ n ih => rw [List.replicate_succ, List.flatten_cons, ih, List.replicate_succ]; rfl
end PM
end
section
set_option Elab.async false
set_option linter.all false
set_option maxRecDepth 100000
set_option maxHeartbeats 4000000
namespace Lk11
open PySem L2 PM
def divs (rs : List Rd) (s : Int) : Bool := rs.all fun r => match r with
  | .ev a _ => decide (s % a = 0)
  | _ => true
theorem divs_stp {rs : List Rd} (hr : ∀ r ∈ rs, r.ok) {s : Nat} : divs rs s = true ↔ stp rs ∣ s := by
  unfold divs
  rw [List.all_eq_true]
  constructor
  · intro h
    refine stpF_least rs 1 s (Nat.one_dvd s) fun a b hab => ?_
    obtain ⟨k1, _⟩ := hr _ hab
    have := h _ hab
    simp only [decide_eq_true_eq] at this
    have d := Int.dvd_of_emod_eq_zero this
    have e : a = ((a.toNat : Nat) : Int) := (Int.toNat_of_nonneg (by omega)).symm
    rw [e] at d
    exact Int.ofNat_dvd.mp d
  · intro h r hm
    cases r with
    | right => rfl
    | left => rfl
    | ev a b =>
      obtain ⟨k1, _⟩ := hr _ hm
      have d := Nat.dvd_trans ((stpF_dvd rs 1).2 a b hm) h
      have e : a = ((a.toNat : Nat) : Int) := (Int.toNat_of_nonneg (by omega)).symm
      have d2 : a ∣ (s : Int) := by
        rw [e]
        exact Int.ofNat_dvd.mpr d
      exact decide_eq_true (Int.emod_eq_zero_of_dvd d2)
def shutL (rs : List Rd) : List Int := (rng 1 (3 * stp rs + 2)).filter fun w => !opA rs w
def xs0 (rs : List Rd) : List Int := (rng 0 (stp rs)).map fun r => (rfr rs r).head?.getD 0
theorem xs0_len (rs : List Rd) : (xs0 rs).length = stp rs := by simp [xs0]
theorem xs0_get {rs : List Rd} {i : Nat} (h : i < stp rs) : (xs0 rs)[i]? = some ((rfr rs i).head?.getD 0) := by
  unfold xs0 rng
  rw [List.map_map, List.getElem?_map, List.getElem?_range (by omega)]
  simp
theorem head_mem {l : List Int} (h : l ≠ []) : l.head?.getD 0 ∈ l := by
  cases l with
  | nil => exact absurd rfl h
  | cons a l => simp
theorem ev_xs0 {rs : List Rd} (h : ∀ w, opA rs w = true) : evShows rs (xs0 rs) = true := by
  unfold evShows
  rw [xs0_len]
  simp only [decide_true, Bool.true_and, List.all_eq_true, List.mem_range, decide_eq_true_eq]
  intro i hi
  rw [List.getD_eq_getElem?_getD, xs0_get hi]
  refine head_mem fun z => ?_
  rw [rfr_nil] at z
  rw [h] at z
  cases z
theorem ev_rep {rs : List Rd} (c : Int) (hp : 1 ≤ stp rs) (h : ∃ w : Nat, w < stp rs ∧ c ∉ rfr rs w) : evShows rs (List.replicate (stp rs) c) = false := by
  obtain ⟨w, h1, h2⟩ := h
  refine Bool.eq_false_iff.mpr fun z => h2 ?_
  unfold evShows at z
  simp only [List.length_replicate, decide_true, Bool.true_and, List.all_eq_true, List.mem_range, decide_eq_true_eq] at z
  have := z w h1
  rw [List.getD_eq_getElem?_getD, List.getElem?_replicate_of_lt h1] at this
  exact this
theorem ev_rows {rs : List Rd} (h : ∀ w, opA rs w = true) {i : Nat} (hi : i < stp rs) {k : Nat} {r : Rd} (hk : rs[k]? = some r) : evShows rs ((xs0 rs).take i ++ [(k : Int)] ++ (xs0 rs).drop (i + 1)) = r.opens i := by
  have hl : ((xs0 rs).take i ++ [(k : Int)] ++ (xs0 rs).drop (i + 1)).length = stp rs := by
    simp [xs0_len]
    omega
  have get : ∀ j, j < stp rs → ((xs0 rs).take i ++ [(k : Int)] ++ (xs0 rs).drop (i + 1))[j]? = if j = i then some (k : Int) else (xs0 rs)[j]? := by
    intro j hj
    rw [List.append_assoc, List.getElem?_append]
    have l1 : ((xs0 rs).take i).length = i := by
      rw [List.length_take, xs0_len]
      omega
    rw [l1]
    by_cases c : j < i
    · rw [if_pos c, if_neg (by omega), List.getElem?_take_of_lt c]
    · rw [if_neg c]
      by_cases d : j = i
      · subst d
        simp
      · rw [if_neg d]
        have : j - i = (j - i - 1) + 1 := by omega
        rw [this, List.singleton_append, List.getElem?_cons_succ, List.getElem?_drop]
        congr 1
        omega
  have iff : (k : Int) ∈ rfr rs i ↔ r.opens i = true := by
    rw [mem_rfr]
    constructor
    · rintro ⟨k', r', e, h1, h2⟩
      have e : k' = k := by omega
      subst e
      rw [hk] at h1
      cases h1
      exact h2
    · intro h2
      exact ⟨k, r, rfl, hk, h2⟩
  rw [Bool.eq_iff_iff]
  unfold evShows
  rw [hl]
  simp only [decide_true, Bool.true_and, List.all_eq_true, List.mem_range, decide_eq_true_eq]
  constructor
  · intro z
    have := z i hi
    rw [List.getD_eq_getElem?_getD, get i hi, if_pos rfl] at this
    exact iff.mp this
  · intro z j hj
    rw [List.getD_eq_getElem?_getD, get j hj]
    by_cases d : j = i
    · subst d
      rw [if_pos rfl]
      exact iff.mpr z
    · rw [if_neg d, xs0_get hj]
      refine head_mem fun q => ?_
      rw [rfr_nil] at q
      rw [h] at q
      cases q
/-- the weir of a rest -/
def wOf (rs : List Rd) (i : Nat) : Int := if (i : Int) > 0 then i else stp rs
theorem wOf_open {rs : List Rd} (hr : ∀ r ∈ rs, r.ok) {r : Rd} (hm : r ∈ rs) (i : Nat) : r.opens (wOf rs i) = r.opens i := by
  unfold wOf
  split
  · rfl
  · rename_i c
    have : i = 0 := by omega
    subst this
    exact opens_mod hm hr (by simp)
theorem wOf_in {rs : List Rd} (hr : ∀ r ∈ rs, r.ok) {i : Nat} (hi : i < stp rs) {r : Rd} (hm : r ∈ rs) : wOf rs i ∈ wrs r (wOf rs i + 1) ↔ r.opens i = true := by
  rw [mem_wrs, wOf_open hr hm]
  constructor
  · exact fun h => h.2
  · intro h
    refine ⟨?_, h⟩
    unfold wOf
    split <;> omega
theorem shut_nil {rs : List Rd} (h : ∀ w, opA rs w = true) : shutL rs = [] := by
  unfold shutL
  rw [List.filter_eq_nil_iff]
  intro a _
  simp [h]
theorem shut_head {rs : List Rd} {w : Int} (h1 : 1 ≤ w) (h2 : w ≤ stp rs) (h3 : opA rs w = false) (h4 : ∀ v, 1 ≤ v → v < w → opA rs v = true) : ∃ t, shutL rs = w :: t := by
  have hp : (shutL rs).Pairwise (· < ·) := by
    unfold shutL rng
    refine List.Pairwise.filter _ ?_
    rw [List.pairwise_map]
    exact List.pairwise_lt_range.imp fun h => by omega
  have hm : w ∈ shutL rs := List.mem_filter.mpr ⟨mem_rng.mpr (by omega), by simp [h3]⟩
  cases q : shutL rs with
  | nil =>
    rw [q] at hm
    cases hm
  | cons a t =>
    refine ⟨t, ?_⟩
    rw [q] at hm hp
    rcases List.mem_cons.mp hm with rfl | hm
    · rfl
    · have ha : a ∈ shutL rs := by rw [q]; simp
      obtain ⟨ha, hb⟩ := List.mem_filter.mp ha
      have hlt := (List.pairwise_cons.mp hp).1 w hm
      have := h4 a (mem_rng.mp ha).1 hlt
      simp [this] at hb
theorem ends_even {rs : List Rd} (h : ∀ w, opA rs w = true) (n : Int) : ends rs n = [] := by
  unfold ends
  rw [List.filter_eq_nil_iff]
  intro a _
  simp [h]
theorem ends_some {rs : List Rd} {w n : Int} (h1 : 1 ≤ w) (h2 : w < n) (h3 : opA rs w = false) : ((0, n) : Int × Int) ∉ (0 :: ends rs n).zip (ends rs n ++ [n]) := by
  have hb : ∀ e ∈ ends rs n, 1 ≤ e ∧ e < n := fun e he => mem_rng.mp (List.mem_filter.mp he).1
  have hm : w ∈ ends rs n := List.mem_filter.mpr ⟨mem_rng.mpr ⟨h1, h2⟩, by simp [h3]⟩
  cases q : ends rs n with
  | nil =>
    rw [q] at hm
    cases hm
  | cons a t =>
    rw [q] at hb
    intro z
    rw [List.cons_append, List.zip_cons_cons] at z
    rcases List.mem_cons.mp z with z | z
    · have := (hb a (by simp)).2
      have e : n = a := congrArg Prod.snd z
      omega
    · have := (List.of_mem_zip z).1
      have := (hb 0 this).1
      omega

variable {ns : List Int} {rs : List Rd}
/-- behind found: the last answers, where the program parts -/
theorem part_parted (hr : ∀ r ∈ rs, r.ok) (hl : rs.length ≤ 6) {many w : Int} (m1 : 1 ≤ many) (m2 : many ≤ 24) (hj : jd rs = partO w) (w1 : 1 ≤ w) (w2 : w ≤ stp rs) (w3 : opA rs w = false) (w4 : ∀ v, 1 ≤ v → v < w → opA rs v = true) (op a8 a9 a10 a11 a12 : Option D) (S : Sto) :
    ∃ S', toOut (b_law_c9 ⟨[some (.scr ns), some (.lst (rs.map Rd.d)), some (prog rs), some (.int (stp rs)), op, some (.lst ((shutL rs).map .int)), some (partO w), some (.int many), a8, a9, a10, a11, a12], none⟩ S) = .ok (.bl true) S' := by
  obtain ⟨t, ht⟩ := shut_head w1 w2 w3 w4
  rw [ht]
  have hl12 : rs.length ≤ 12 := by omega
  obtain ⟨p1, p2⟩ := stp_pos rs hr
  have sh : ∀ v, ptShows rs v = decide (w = v) := fun v => by simp [ptShows, hj, partO]
  have w0 : w ≠ 0 := by omega
  have c1 : -1000000 ≤ 3 * (stp rs : Int) + 2 ∧ 3 * (stp rs : Int) + 2 ≤ 1000000 := by omega
  have c2 : (rangeD 1 (3 * (stp rs : Int) + 2)).length ≤ 100000 := by
    rw [rangeD_rng]
    simp
    omega
  have c3 : stp rs < 18446744073709551616 := by omega
  have ft : ∀ v : Int, ((w = v) != (v = w)) = false := fun v => by
    by_cases h : w = v
    · simp [h]
    · have : ¬ v = w := fun e => h e.symm
      simp [h, this]
  -- any([..])
  have any0 : ∀ S, ∃ n S', lcGo [] (gN 9) tYesP (e2 (dEq true) (eMeth "Parted" "shows" m_Parted_shows (eA (mkObj false "Parted" m_Parted___init__) (aCons (eVar 9) aNil)) (aCons (eVar 2) aNil)) (e2 (dEq false) (eVar 9) (e2 dIx (eVar 5) (eC (.int 0)))))
      ⟨[some (.scr ns), some (.lst (rs.map Rd.d)), some (prog rs), some (.int (stp rs)), op, some (.lst (.int w :: t.map .int)), some (partO w), some (.int many), a8, none, a10, a11, a12], none⟩ (rangeD 1 (3 * stp rs + 2)) S = .ok (List.replicate n (.bl false)) S' := by
    intro S
    obtain ⟨ys, S', q1, _, q2⟩ := lcGo_run (src := []) (tg := gN 9) (t := tYesP) (m := e2 (dEq true) (eMeth "Parted" "shows" m_Parted_shows (eA (mkObj false "Parted" m_Parted___init__) (aCons (eVar 9) aNil)) (aCons (eVar 2) aNil)) (e2 (dEq false) (eVar 9) (e2 dIx (eVar 5) (eC (.int 0)))))
      (e0 := ⟨[some (.scr ns), some (.lst (rs.map Rd.d)), some (prog rs), some (.int (stp rs)), op, some (.lst (.int w :: t.map .int)), some (partO w), some (.int many), a8, none, a10, a11, a12], none⟩) (fun k acc S' => acc.length = k ∧ ∀ y ∈ acc, y = D.bl false) (rangeD 1 (3 * stp rs + 2)) 0 [] S ⟨rfl, by simp⟩ (by
        rintro i d acc S' hi ⟨hl, ha⟩
        rw [rangeD_rng, List.getElem?_map] at hi
        cases q : (rng 1 (3 * (stp rs : Int) + 2))[i]? with
        | none => simp [q] at hi
        | some v =>
          simp [q] at hi
          subst hi
          refine ⟨rfl, _, true, _, rfl, rfl, ?_⟩
          simp only [if_true]
          have f := m_Parted_shows_ok hr hl12 v
          have pe : ∀ v S, insOf S "Parted" "shows" (partO v) = true := fun v S => by simp [partO]
          refine ⟨.bl false, _, by simp -implicitDefEqProofs [mk_Parted, f, pe, sh]; exact ⟨by by_cases h : w = v <;> simp [h, eq_comm], rfl⟩, by simp [hl], fun y hy => ?_⟩
          rcases List.mem_append.mp hy with hy | hy
          · exact ha y hy
          · exact List.mem_singleton.mp hy) (fun _ _ _ => rfl)
    rw [List.nil_append] at q2
    exact ⟨ys.length, S', by rw [q1]; congr 1; exact List.eq_replicate_iff.mpr ⟨rfl, q2⟩⟩
  obtain ⟨n, S1, hany⟩ := any0 (S ++ [.dead, .dead])
  have e0 : evShows rs (List.replicate (stp rs) 0) = false := ev_rep 0 p1 (by
    refine ⟨(w % (stp rs : Int)).toNat, ?_, ?_⟩
    · have := Int.emod_lt_of_pos w (show (0 : Int) < (stp rs : Int) by omega)
      have := Int.emod_nonneg w (show ((stp rs : Nat) : Int) ≠ 0 by omega)
      omega
    · have h0 := Int.emod_nonneg w (show ((stp rs : Nat) : Int) ≠ 0 by omega)
      rw [Int.toNat_of_nonneg h0, rfr_nil.mpr (by rw [opA_emod hr]; exact w3)]
      simp)
  have ev := m_EvenAlways_shows_ok hr hl12 (xs := List.replicate (stp rs) 0) (by simp; omega)
  have mk := mk_Even (List.replicate (stp rs) 0)
  rw [List.map_replicate] at mk
  have pv : ∀ v S, insOf S "EvenAlways" "shows" (evenO v) = true := fun v S => by simp [evenO]
  have c4 : (stp rs : Int) ≤ 1000 ∧ stp rs ≤ 100000 := by omega
  have c5 : (-1000 : Int) ≤ (stp rs : Int) := by omega
  have rf : (List.replicate (stp rs) [D.int 0]).flatten = List.replicate (stp rs) (D.int 0) := by simp
  have f := m_Parted_shows_ok hr hl12 0
  have i0 := is_Even_P w S
  have pe : ∀ v S, insOf S "Parted" "shows" (partO v) = true := fun v S => by simp [partO]
  have fw : ∀ S, dFldC ["Parted"] "weir" (partO w) S = .ok (.int w) S := fun S => by simp [partO]
  simp -implicitDefEqProofs [b_law_c9, i0, b_law_c1, fw, mk_Parted, pe, f, sh, w0, c1, c2, c3, hany, dAny, oM, b_law_c0, c4, c5, rf, mk, pv, ev, e0]
  by_cases hm : many ≤ w
  · simp [hm]
  · have st := m_stretches_ok hr hl12 m1 (show many ≤ 400 by omega) (S1 ++ [.dead])
    have hn := ends_some (n := many) w1 (by omega) w3
    have fit : D.fit 12 (.lst (((0 :: ends rs many).zip (ends rs many ++ [many])).map fun p => D.tup [.int p.1, .int p.2])) = true := by
      simp
    have d := dNotInF_lst (a := .tup [.int 0, .int many]) (ds := (((0 :: ends rs many).zip (ends rs many ++ [many])).map fun p => D.tup [.int p.1, .int p.2])) (S1 ++ [.dead] ++ [.dead]) (by simp) fit
    have nm : D.tup [.int 0, .int many] ∉ (((0 :: ends rs many).zip (ends rs many ++ [many])).map fun p => D.tup [.int p.1, .int p.2]) := by
      intro z
      obtain ⟨p, hp, e⟩ := List.mem_map.mp z
      simp at e
      have : p = (0, many) := Prod.ext e.1 e.2
      rw [this] at hp
      exact hn hp
    rw [decide_eq_false nm] at d
    simp only [if_neg hm, st, then_ok, d]
    exact ⟨_, rfl⟩
theorem part_even (hr : ∀ r ∈ rs, r.ok) (hl : rs.length ≤ 6) {many : Int} (m1 : 1 ≤ many) (m2 : many ≤ 24) (hj : jd rs = evenO (xs0 rs)) (ha : ∀ w, opA rs w = true) (op : Option D) (S : Sto) :
    ∃ S', toOut (b_law_c9 ⟨[some (.scr ns), some (.lst (rs.map Rd.d)), some (prog rs), some (.int (stp rs)), op, some (.lst []), some (evenO (xs0 rs)), some (.int many), none, none, none, none, none], none⟩ S) = .ok (.bl true) S' := by
  have hl12 : rs.length ≤ 12 := by omega
  obtain ⟨p1, p2⟩ := stp_pos rs hr
  have i0 := fun S => is_Even (xs0 rs) S
  have fr : ∀ S, dFldC ["EvenAlways"] "rounds" (evenO (xs0 rs)) S = .ok (.lst ((xs0 rs).map .int)) S := fun S => by simp [evenO]
  have st := fun S => m_stretches_ok hr hl12 m1 (show many ≤ 400 by omega) S
  simp only [ends_even ha, List.nil_append, List.zip_cons_cons, List.zip_nil_right, List.map_cons, List.map_nil] at st
  have ds : ∀ S, dEq true (.lst [.tup [.int 0, .int many]]) (.lst [.tup [.int 0, .int many]]) S = .ok (.bl false) S := fun S => by
    rw [dEq_fit true S (by simp) (by simp)]
    simp
  have c1 : (stp rs : Int) ≤ 1000000 := by omega
  have c2 : (-1000000 : Int) ≤ (stp rs : Int) := by omega
  have c6 : ∀ i : Nat, i < stp rs → 1 ≤ wOf rs i ∧ wOf rs i ≤ 12 := fun i hi => by
    unfold wOf
    split <;> omega
  simp -implicitDefEqProofs [b_law_c9, i0, fr, xs0_len, st, ds, b_law_c8, c1, c2, rangeD_rng]
  refine forGo_rule (G := fun o => ∃ S', toOut ((o.andThen _).andThen _) = .ok (.bl true) S') (fun i e S' => ∃ a b, e = ⟨[some (.scr ns), some (.lst (rs.map Rd.d)), some (prog rs), some (.int (stp rs)), op, some (.lst []), some (evenO (xs0 rs)), some (.int many), a, b, none, none, none], none⟩) ⟨_, _, rfl⟩ ?_ ?_
  · rintro i d e S' hi ⟨a, b, rfl⟩
    rw [List.getElem?_map] at hi
    cases q : (rng 0 (stp rs))[i]? with
    | none => simp [q] at hi
    | some v =>
      simp [q] at hi
      subst hi
      obtain ⟨e1, e2⟩ := rng_get q
      have e1 : v = (i : Int) := by omega
      subst e1
      have hi : i < stp rs := by omega
      refine ⟨rfl, _, rfl, ?_⟩
      obtain ⟨k, ks, hk⟩ := rfr_some (ha i)
      obtain ⟨j, r, h1, h2, h3⟩ := mem_rfr.mp (show k ∈ rfr rs i by rw [hk]; simp)
      have gx : atI ((xs0 rs).map D.int) (i : Int) = some (.int j) := atI_get (by
        rw [List.getElem?_map, xs0_get hi, hk, h1]
        rfl)
      have gr : atI (rs.map Rd.d) (j : Int) = some r.d := atI_get (by
        rw [List.getElem?_map, h2]
        rfl)
      have rm := List.mem_of_getElem? h2
      obtain ⟨w1, w2⟩ := c6 i hi
      have lw := fun S => law_weirs_ok (hr r rm) (n := wOf rs i + 1) (by omega) (by omega) S
      have dn := fun S => dNotInF_lst (a := .int (wOf rs i)) (ds := (wrs r (wOf rs i + 1)).map D.int) S (by simp) (by simp)
      have nm : D.int (wOf rs i) ∈ (wrs r (wOf rs i + 1)).map D.int := List.mem_map.mpr ⟨_, (wOf_in hr hi rm).mpr h3, rfl⟩
      simp only [nm, decide_true, Bool.not_true] at dn
      have ew : ∀ S, (if 0 < i then Out.ok (D.int (i : Int)) S else Out.ok (D.int (stp rs)) S) = Out.ok (D.int (wOf rs i)) S := fun S => by
        by_cases h : 0 < i <;> simp [wOf, h]
      simp -implicitDefEqProofs [ew, b_law_c7, fr, gx, gr, lw, dn]
  · rintro e S1 ⟨a, b, rfl⟩
    refine ⟨rfl, ?_⟩
    have f := m_Parted_shows_ok hr hl12 1
    have sh : ptShows rs 1 = false := by simp [ptShows, hj, evenO, partO]
    have pe : ∀ v S, insOf S "Parted" "shows" (partO v) = true := fun v S => by simp [partO]
    have pv : ∀ v S, insOf S "EvenAlways" "shows" (evenO v) = true := fun v S => by simp [evenO]
    have e0 : evShows rs (List.replicate (stp rs) (rs.length : Int)) = false := ev_rep _ p1 ⟨0, p1, fun z => by
      obtain ⟨i, r, e, h1, _⟩ := mem_rfr.mp z
      have := (List.getElem?_eq_some_iff.mp h1).1
      omega⟩
    have ev := m_EvenAlways_shows_ok hr hl12 (xs := List.replicate (stp rs) (rs.length : Int)) (by simp; omega)
    have mk := mk_Even (List.replicate (stp rs) (rs.length : Int))
    rw [List.map_replicate] at mk
    have c4 : (stp rs : Int) ≤ 1000 ∧ stp rs ≤ 100000 := by omega
    have c5 : (-1000 : Int) ≤ (stp rs : Int) := by omega
    have rf : (List.replicate (stp rs) [D.int (rs.length : Int)]).flatten = List.replicate (stp rs) (D.int (rs.length : Int)) := by simp
    simp -implicitDefEqProofs [b_law_c6, c4, c5, rf, mk, pv, ev, e0, mk_Parted, pe, f, sh, b_law_c5, c1, c2, rangeD_rng]
    refine forGo_rule (G := fun o => ∃ S', toOut ((o.andThen _).andThen _) = .ok (.bl true) S') (fun i e S' => ∃ a b c d f, e = ⟨[some (.scr ns), some (.lst (rs.map Rd.d)), some (prog rs), some (.int (stp rs)), op, some (.lst []), some (evenO (xs0 rs)), some (.int many), a, b, c, d, f], none⟩) ⟨_, _, _, _, _, rfl⟩ ?_ ?_
    · rintro i d e S' hi ⟨a, b, c, dd, ff, rfl⟩
      rw [List.getElem?_map] at hi
      cases q : (rng 0 (stp rs))[i]? with
      | none => simp [q] at hi
      | some v =>
        simp [q] at hi
        subst hi
        obtain ⟨e1, e2⟩ := rng_get q
        have e1 : v = (i : Int) := by omega
        subst e1
        have hi : i < stp rs := by omega
        refine ⟨rfl, _, rfl, ?_⟩
        simp -implicitDefEqProofs [oM]
        refine forGo_rule (fun j e S' => ∃ b c d f, e = ⟨[some (.scr ns), some (.lst (rs.map Rd.d)), some (prog rs), some (.int (stp rs)), op, some (.lst []), some (evenO (xs0 rs)), some (.int many), some (.int i), b, c, d, f], none⟩) ⟨_, _, _, _, rfl⟩ ?_ ?_
        · rintro j d e S2 hj ⟨b, c, dd, ff, rfl⟩
          obtain ⟨d', hd, rfl⟩ := numD_get hj
          rw [List.getElem?_map] at hd
          cases qr : rs[j]? with
          | none => simp [qr] at hd
          | some r =>
            simp [qr] at hd
            subst hd
            have rm := List.mem_of_getElem? qr
            refine ⟨rfl, _, by simp; rfl, ?_⟩
            obtain ⟨w1, w2⟩ := c6 i hi
            have lw := fun S => law_weirs_ok (hr r rm) (n := wOf rs i + 1) (by omega) (by omega) S
            have dn := fun S => dIn_lst false (a := .int (wOf rs i)) (ds := (wrs r (wOf rs i + 1)).map D.int) S (by simp) (by simp)
            have ew : ∀ S, (if 0 < i then Out.ok (D.int (i : Int)) S else Out.ok (D.int (stp rs)) S) = Out.ok (D.int (wOf rs i)) S := fun S => by
              by_cases h : 0 < i <;> simp [wOf, h]
            have er := ev_rows ha hi qr
            have l1 : ((xs0 rs).take i ++ [(j : Int)] ++ (xs0 rs).drop (i + 1)).length ≤ 1000 := by
              simp [xs0_len]
              omega
            have ev := m_EvenAlways_shows_ok hr hl12 l1
            have mk := mk_Even ((xs0 rs).take i ++ [(j : Int)] ++ (xs0 rs).drop (i + 1))
            rw [er] at ev
            have iff : decide (D.int (wOf rs i) ∈ (wrs r (wOf rs i + 1)).map D.int) = r.opens i := by
              rw [Bool.eq_iff_iff, decide_eq_true_iff, ← wOf_in hr hi rm, List.mem_map]
              exact ⟨fun ⟨x, h1, h2⟩ => by cases h2; exact h1, fun h => ⟨_, h, rfl⟩⟩
            rw [iff] at dn
            have cut1 : cutD ((xs0 rs).map D.int) none (some (i : Int)) = ((xs0 rs).take i).map D.int := by
              rw [cutD_hi _ (by omega)]
              simp
            have cut2 : cutD ((xs0 rs).map D.int) (some ((i : Int) + 1)) none = ((xs0 rs).drop (i + 1)).map D.int := by
              rw [cutD_lo _ (by omega)]
              have : ((i : Int) + 1).toNat = i + 1 := by omega
              rw [this]
              simp
            simp at mk ev cut1 cut2
            have l2 : min i (stp rs) + 1 ≤ 100000 ∧ min i (stp rs) + 1 + (stp rs - (i + 1)) ≤ 100000 := by omega
            simp -implicitDefEqProofs [ew, b_law_c4, b_law_c3, fr, dSl_lst, cut1, cut2, mk, pv, ev, lw, dn, l2, xs0_len]
        · rintro e S2 ⟨b, c, dd, ff, rfl⟩
          exact ⟨rfl, _, _, _, _, _, rfl⟩
    · rintro e S2 ⟨a, b, c, dd, ff, rfl⟩
      refine ⟨rfl, ?_⟩
      simp [b_law_c2]
/-- from the program on -/
theorem part_program (hr : ∀ r ∈ rs, r.ok) (hl : rs.length ≤ 6) (S : Sto) : ∃ S', toOut (b_law_c16 ⟨[some (.scr ns), some (.lst (rs.map Rd.d)), none, none, none, none, none, none, none, none, none, none, none], none⟩ S) = .ok (.bl true) S' := by
  have hl12 : rs.length ≤ 12 := by omega
  obtain ⟨p1, p2⟩ := stp_pos rs hr
  have mk := mk_Program (IsSeq.lst (ds := rs.map Rd.d)) hl12 hr
  simp -implicitDefEqProofs [b_law_c16, mk, b_law_c15]
  -- the step
  refine whl_rule (G := fun o => ∃ S', toOut (o.andThen _) = .ok (.bl true) S') (fun n e S' => ∃ s : Nat, n = stp rs - s ∧ 1 ≤ s ∧ s ≤ stp rs ∧ e = ⟨[some (.scr ns), some (.lst (rs.map Rd.d)), some (prog rs), some (.int s), none, none, none, none, none, none, none, none, none], none⟩) (stp rs - 1) ⟨1, rfl, Nat.le_refl _, p1, rfl⟩ ?_
  rintro n e S1 ⟨s, rfl, s1, s2, rfl⟩
  have lc := lcGo_all (tg := gN 11) (m := eOr (e2 (dEq true) (e2 dIx (eVar 11) (eC (.int 0))) (eC (.str "every"))) (e2 (dEq false) (e2 dMod (eVar 3) (e2 dIx (eVar 11) (eC (.int 1)))) (eC (.int 0))))
    (e0 := ⟨[some (.scr ns), some (.lst (rs.map Rd.d)), some (prog rs), some (.int s), none, none, none, none, none, none, none, none, none], none⟩) (S := S1) Rd.d (fun r => D.bl (match r with
      | .ev a _ => decide ((s : Int) % a = 0)
      | _ => true)) rs fun r hm => by
    refine ⟨_, rfl, ?_⟩
    cases r with
    | right => simp [Rd.d]
    | left => simp [Rd.d]
    | ev a b =>
      obtain ⟨k1, _⟩ := hr _ hm
      have : 0 < a := by omega
      simp [Rd.d, this]
  have c1 : rs.length ≤ 100000 := by omega
  refine ⟨!divs rs s, S1, ?_, ?_⟩
  · simp -implicitDefEqProofs [lc, c1, dAll, oM, divs, List.all_map]
  · cases hd : divs rs s with
    | false =>
      have hlt : s < stp rs := by
        refine Nat.lt_of_le_of_ne s2 fun e => ?_
        have := (divs_stp hr (s := s)).mpr (by rw [e]; exact Nat.dvd_refl _)
        rw [hd] at this
        cases this
      simp only [Bool.not_false, if_true]
      refine ⟨_, S1, by simp; rfl, stp rs - (s + 1), by omega, s + 1, rfl, by omega, by omega, by simp⟩
    | true =>
      have es : s = stp rs := Nat.le_antisymm s2 (Nat.le_of_dvd s1 ((divs_stp hr).mp hd))
      subst es
      simp only [Bool.not_true, Bool.false_eq_true, if_false, andThen_nx]
      -- all openings
      have n1 : (3 * (stp rs : Int) + 2) ≤ 1000 ∧ -1000 ≤ 3 * (stp rs : Int) + 2 := by omega
      have lo := fun S => law_order_ok (IsSeq.lst (ds := rs.map Rd.d)) (show rs.length ≤ 40 by omega) hr n1.2 n1.1 S
      have c3 : stp rs < 18446744073709551616 := by omega
      have c2 : (rangeD 1 (3 * (stp rs : Int) + 2)).length ≤ 100000 := by
        rw [rangeD_rng]
        simp
        omega
      have c4 : -1000000 ≤ 3 * (stp rs : Int) + 2 ∧ 3 * (stp rs : Int) + 2 ≤ 1000000 := by omega
      have su : (opn rs (3 * (stp rs : Int) + 2)).length ≤ 4000 ∧ (sortU (opn rs (3 * (stp rs : Int) + 2))).length < 64 := by
        constructor
        · refine Nat.le_trans (opn_len rs _) (Nat.le_trans (Nat.mul_le_mul hl (show (3 * (stp rs : Int) + 2 - 1).toNat ≤ 37 by omega)) (by decide))
        · have := nodup_le (sortU (opn rs (3 * (stp rs : Int) + 2))) (rng 1 (3 * (stp rs : Int) + 2)) ((sortU_lt _).imp fun h => by omega) fun k hk => mem_rng.mpr (mem_opn.mp ((sortU_mem k _).mp hk)).1
          simp at this
          omega
      have lc2 := fun S => lcGo_map (tg := gN 9) (t := tOf (e2 dNotInF (eVar 9) (eVar 4))) (m := eVar 9) (e0 := ⟨[some (.scr ns), some (.lst (rs.map Rd.d)), some (prog rs), some (.int (stp rs)), some (.lst ((sortU (opn rs (3 * (stp rs : Int) + 2))).map .int)), none, none, none, none, none, none, none, none], none⟩) (S := S) D.int (fun w => !opA rs w) D.int (rng 1 (3 * (stp rs : Int) + 2)) fun w hw => by
        refine ⟨_, rfl, ?_, fun _ => by simp⟩
        have d := dNotInF_lst (a := .int w) (ds := (sortU (opn rs (3 * (stp rs : Int) + 2))).map D.int) S (by simp) (by simp)
        have hm : (w ∈ sortU (opn rs (3 * (stp rs : Int) + 2))) = (opA rs w = true) := by
          rw [sortU_mem, mem_opn]
          exact propext ⟨fun h => h.2, fun h => ⟨mem_rng.mp hw, h⟩⟩
        simp -implicitDefEqProofs [d, hm]
      rw [← rangeD_rng] at lc2
      have je := fun S => m_judge_even_ok hr hl12 S
      obtain ⟨v4, v4a, v4b, d4⟩ := draw_ok ns 4 24 (by decide) (by decide) (by decide)
      have esl : List.filter (fun w => !opA rs w) (rng 1 (3 * (stp rs : Int) + 2)) = shutL rs := rfl
      simp -implicitDefEqProofs [b_law_c14, c3, lo, dSortSetW, oM, su, b_law_c13, c4, c2, lc2, b_law_c12, je, esl, b_law_c11, d4, b_law_c10]
      rcases jd_cases hr with ⟨w, hj, w1, w2, w3, w4⟩ | ⟨hj, ha⟩
      · obtain ⟨t, ht⟩ := shut_head w1 w2 w3 w4
        have sh := m_Parted_shows_ok hr hl12 w
        have ps : ptShows rs w = true := by simp [ptShows, hj]
        have pe : ∀ v S, insOf S "Parted" "shows" (partO v) = true := fun v S => by simp [partO]
        have pn : ∀ v S, insOf S "EvenAlways" "shows" (partO v) = false := fun v S => by simp [partO]
        have pe2 : ∀ v S, insOf S "Parted" "" (partO v) = true := fun v S => by simp [partO]
        have pn2 : ∀ v S, insOf S "EvenAlways" "" (partO v) = false := fun v S => by simp [partO]
        have dq := fun S => dEq_fit false (a := .lst ((shutL rs).map .int)) (b := .lst []) S (by simp) (by simp)
        have ne : ¬ (D.lst ((shutL rs).map .int) = D.lst []) := by simp [ht]
        simp only [decide_eq_false ne] at dq
        have fin := fun S => part_parted (ns := ns) hr hl (many := 1 + v4) (by omega) (by omega) hj w1 w2 w3 w4 (some (.lst ((sortU (opn rs (3 * (stp rs : Int) + 2))).map .int))) none none none none none S
        simp -implicitDefEqProofs [hj, pe, pn, pe2, pn2, dq, dBoolO, m_Parted___bool__, b_Parted___bool__, sh, ps, d4, b_law_c10]
        exact fin _
      · have hj : jd rs = evenO (xs0 rs) := hj
        have sh := m_EvenAlways_shows_ok hr hl12 (xs := xs0 rs) (by rw [xs0_len]; omega)
        have ps := ev_xs0 ha
        have pe : ∀ v S, insOf S "EvenAlways" "shows" (evenO v) = true := fun v S => by simp [evenO]
        have pe2 : ∀ v S, insOf S "EvenAlways" "" (evenO v) = true := fun v S => by simp [evenO]
        have dq := fun S => dEq_fit false (a := .lst []) (b := .lst []) S (by simp) (by simp)
        have fin := fun S => part_even (ns := ns) hr hl (many := 1 + v4) (by omega) (by omega) hj ha (some (.lst ((sortU (opn rs (3 * (stp rs : Int) + 2))).map .int))) S
        simp -implicitDefEqProofs [hj, shut_nil ha, pe, pe2, dq, dBoolO, m_EvenAlways___bool__, b_EvenAlways___bool__, sh, ps, d4, b_law_c10]
        exact fin _
theorem way_of {v : Int} (h0 : 0 ≤ v) (h1 : v < 2) : ∃ w, (w = "right" ∨ w = "left") ∧ atI [D.str "right", D.str "left"] v = some (.str w) := by
  have : v = 0 ∨ v = 1 := by omega
  rcases this with rfl | rfl
  · exact ⟨_, .inl rfl, by simp⟩
  · exact ⟨_, .inr rfl, by simp⟩
theorem law_true (ns : List Int) (h : ns.length ≤ 63) : ∃ S', m_law [.scr ns] [] = .ok (.bl true) S' := by
  obtain ⟨v0, a0, b0, d0⟩ := draw_ok ns 0 2 (by decide) (by decide) (by decide)
  obtain ⟨v1, a1, b1, d1⟩ := draw_ok ns 1 2 (by decide) (by decide) (by decide)
  obtain ⟨v2, a2, b2, d2⟩ := draw_ok ns 2 2 (by decide) (by decide) (by decide)
  obtain ⟨v3, a3, b3, d3⟩ := draw_ok ns 3 4 (by decide) (by decide) (by decide)
  obtain ⟨way, hw, hway⟩ := way_of a0 b0
  obtain ⟨rs, S1, e1, l1, ok1⟩ := rounds_ok ns 10 4 way hw (by decide) (by decide) (by decide) (by decide) []
  simp -implicitDefEqProofs [m_law, b_law, d0, hway, e1, b_law_c17, d1]
  by_cases hv : v1 = 0
  · -- those of kinds, and two more
    let isE : Rd → Bool := fun r => match r with
      | .ev _ _ => true
      | _ => false
    have lc := lcGo_map (tg := gN 11) (t := tOf (e2 (dEq false) (e2 dIx (eVar 11) (eC (.int 0))) (eC (.str "every")))) (m := eVar 11) (e0 := ⟨[some (.scr ns), some (.lst (rs.map Rd.d)), none, none, none, none, none, none, none, none, none, none, none], none⟩) (S := S1) Rd.d isE Rd.d rs fun r hm => by
      refine ⟨_, rfl, ?_, fun _ => by simp⟩
      cases r <;> simp [Rd.d, isE]
    have c1 : rs.length ≤ 100000 := by omega
    have fl : (rs.filter isE).length ≤ rs.length := List.length_filter_le _ _
    have c2 : (rs.filter isE).length + 2 ≤ 100000 := by omega
    have fin := part_program (ns := ns) (rs := rs.filter isE ++ [.ev 2 v2, .ev 4 v3]) (fun r hr => by
      rcases List.mem_append.mp hr with hr | hr
      · exact (ok1 r (List.mem_filter.mp hr).1).1
      · simp at hr
        rcases hr with rfl | rfl <;> simp [PM.Rd.ok] <;> omega) (by simp; omega) S1
    simp [PM.Rd.d] at fin
    simp -implicitDefEqProofs [hv, lc, c1, c2, d2, d3]
    exact fin
  · simp -implicitDefEqProofs [hv]
    exact part_program (fun r hr => (ok1 r hr).1) (by omega) S1
end Lk11
end
section
set_option Elab.async false
set_option linter.all false
set_option maxRecDepth 100000
set_option maxHeartbeats 4000000
namespace Lk11
open PySem PySem.Spec PyProof.Rows L2 Evl PM
open WD (pe_tyN pe_clsN cr_lcm call_lenS call_listS call_tupS call_absS call_maxS call_minS call_intS)
section
variable {P : Program} {w : World} {K : PySem.W.Frag} {mg : Str → Option Value} {base : Heap}
theorem ok_law (T : Tx P K mg) {fd : FuncData} (F : FunD K "law" "law" (defArgs s_law) (defBody s_law) (defScope s_law) [] [] (He.ga K "law") fd) : FnOk P w K mg base (L2.CX P w) 6 (He.ga K "law") fd ["script"] (lawSp K) := by
  refine law_fn (N := ["script", "rounds", "program", "step", "opened", "shut", "found", "many", "rest", "weir", "number", "told", "rows"]) (st := s_law) (m := PM.b_law) F sc_law (by decide) rfl (fun cdv A outer s H E hr => ⟨_, by
  unfold PM.b_law PM.b_law_c17 PM.b_law_c16 PM.b_law_c15 PM.b_law_c14 PM.b_law_c13 PM.b_law_c12 PM.b_law_c11 PM.b_law_c10 PM.b_law_c9 PM.b_law_c8 PM.b_law_c7 PM.b_law_c6 PM.b_law_c5 PM.b_law_c4 PM.b_law_c3 PM.b_law_c2 PM.b_law_c1 PM.b_law_c0
  exact (css_cons (cs_asg (ce_call (ok__law_rounds T) (hr.mono (by decide)) (by rfl) T.m__law_rounds (ca_cons (ce_var 0 rfl (by first | exact Or.inl rfl | exact Or.inr (Or.inl rfl) | exact Or.inr (Or.inr rfl))) (ca_cons ce_int (ca_cons ce_int (ca_cons (ce_ix (ce_tup (ca_cons ce_str (ca_cons ce_str ca_nil))) (ce_call (ok__law_draw T) (hr.mono (by decide)) (by rfl) T.m__law_draw (ca_cons (ce_var 0 rfl (by first | exact Or.inl rfl | exact Or.inr (Or.inl rfl) | exact Or.inr (Or.inr rfl))) (ca_cons ce_int (ca_cons ce_int ca_nil)))) (fun _ _ => rfl)) ca_nil))))) (cg_name (i := 1) sc_law.nd rfl (.inl rfl))) (css_cons (cs_if (ct_eq hr.units (ce_call (ok__law_draw T) (hr.mono (by decide)) (by rfl) T.m__law_draw (ca_cons (ce_var 0 rfl (by first | exact Or.inl rfl | exact Or.inr (Or.inl rfl) | exact Or.inr (Or.inr rfl))) (ca_cons ce_int (ca_cons ce_int ca_nil)))) ce_int) (css_one (cs_asg (ce_add (ce_lc false (own := [("told", 11)]) rfl sc_law.nd (ci_seq (ce_var 1 rfl (by first | exact Or.inl rfl | exact Or.inr (Or.inl rfl) | exact Or.inr (Or.inr rfl)))) (blkOk_by (own := [("told", 11)]) (N := ["script", "rounds", "program", "step", "opened", "shut", "found", "many", "rest", "weir", "number", "told", "rows"]) (sc := defScope s_law) (by decide +kernel)) (fun _ _ _ _ _ => (cg_name (i := 11) sc_law.nd rfl (.inl rfl))) (keep_gname (by decide)) (fun _ _ _ _ _ => (cts_one (ct_eq hr.units (ce_ix (ce_var 11 rfl (by first | exact Or.inl rfl | exact Or.inr (Or.inl rfl) | exact Or.inr (Or.inr rfl))) ce_int (fun _ _ => rfl)) ce_str))) (fun _ _ _ _ _ => (ce_var 11 rfl (by first | exact Or.inl rfl | exact Or.inr (Or.inl rfl) | exact Or.inr (Or.inr rfl))))) (ce_lst (ca_cons (ce_tup (ca_cons ce_str (ca_cons ce_int (ca_cons (ce_call (ok__law_draw T) (hr.mono (by decide)) (by rfl) T.m__law_draw (ca_cons (ce_var 0 rfl (by first | exact Or.inl rfl | exact Or.inr (Or.inl rfl) | exact Or.inr (Or.inr rfl))) (ca_cons ce_int (ca_cons ce_int ca_nil)))) ca_nil)))) (ca_cons (ce_tup (ca_cons ce_str (ca_cons ce_int (ca_cons (ce_call (ok__law_draw T) (hr.mono (by decide)) (by rfl) T.m__law_draw (ca_cons (ce_var 0 rfl (by first | exact Or.inl rfl | exact Or.inr (Or.inl rfl) | exact Or.inr (Or.inr rfl))) (ca_cons ce_int (ca_cons ce_int ca_nil)))) ca_nil)))) ca_nil)))) (cg_name (i := 1) sc_law.nd rfl (.inl rfl)))) css_nil) (css_cons (cs_asg (ce_tup (ca_cons (ce_make false T.k_Program (ok_Program___init__ T) (hr.mono (by decide)) (by rfl) T.m_Program (ca_cons (ce_var 1 rfl (by first | exact Or.inl rfl | exact Or.inr (Or.inl rfl) | exact Or.inr (Or.inr rfl))) ca_nil)) (ca_cons ce_int ca_nil))) (cg_tup rfl (cgs_cons (cg_name (i := 2) sc_law.nd rfl (.inr rfl)) (cgs_cons (cg_name (i := 3) sc_law.nd rfl (.inr rfl)) cgs_nil)))) (css_cons (cs_while _ (ct_not (ct_val (ce_callBK rAll (cr_all rfl) calls_all (by rfl) T.z_all (by decide +kernel) (ca_cons (ce_lc false (own := [("told", 11)]) rfl sc_law.nd (ci_seq (ce_var 1 rfl (by first | exact Or.inl rfl | exact Or.inr (Or.inl rfl) | exact Or.inr (Or.inr rfl)))) (blkOk_by (own := [("told", 11)]) (N := ["script", "rounds", "program", "step", "opened", "shut", "found", "many", "rest", "weir", "number", "told", "rows"]) (sc := defScope s_law) (by decide +kernel)) (fun _ _ _ _ _ => (cg_name (i := 11) sc_law.nd rfl (.inl rfl))) (keep_gname (by decide)) (fun _ _ _ _ _ => cts_nil) (fun _ _ _ _ _ => (ce_or (ce_ne hr.units (ce_ix (ce_var 11 rfl (by first | exact Or.inl rfl | exact Or.inr (Or.inl rfl) | exact Or.inr (Or.inr rfl))) ce_int (fun _ _ => rfl)) ce_str) (ce_one (ce_eq hr.units (ce_mod (ce_var 3 rfl (by first | exact Or.inl rfl | exact Or.inr (Or.inl rfl) | exact Or.inr (Or.inr rfl))) (ce_ix (ce_var 11 rfl (by first | exact Or.inl rfl | exact Or.inr (Or.inl rfl) | exact Or.inr (Or.inr rfl))) ce_int (fun _ _ => rfl))) ce_int))))) ca_nil)))) (css_one (cs_asg (ce_add (ce_var 3 rfl (by first | exact Or.inl rfl | exact Or.inr (Or.inl rfl) | exact Or.inr (Or.inr rfl))) ce_int) (cg_name (i := 3) sc_law.nd rfl (.inr rfl))))) (css_cons (cs_asg (ce_sortSetW (by rfl) T.z_sorted (by rfl) T.z_set (ce_call (ok__law_order T) (hr.mono (by decide)) (by rfl) T.m__law_order (ca_cons (ce_var 1 rfl (by first | exact Or.inl rfl | exact Or.inr (Or.inl rfl) | exact Or.inr (Or.inr rfl))) (ca_cons (ce_add (ce_mul ce_int (ce_var 3 rfl (by first | exact Or.inl rfl | exact Or.inr (Or.inl rfl) | exact Or.inr (Or.inr rfl)))) ce_int) ca_nil)))) (cg_name (i := 4) sc_law.nd rfl (.inr rfl))) (css_cons (cs_asg (ce_lc false (own := [("weir", 9)]) rfl sc_law.nd (ci_range2 (by rfl) T.z_range (ca_cons ce_int (ca_cons (ce_add (ce_mul ce_int (ce_var 3 rfl (by first | exact Or.inl rfl | exact Or.inr (Or.inl rfl) | exact Or.inr (Or.inr rfl)))) ce_int) ca_nil))) (blkOk_by (own := [("weir", 9)]) (N := ["script", "rounds", "program", "step", "opened", "shut", "found", "many", "rest", "weir", "number", "told", "rows"]) (sc := defScope s_law) (by decide +kernel)) (fun _ _ _ _ _ => (cg_name (i := 9) sc_law.nd rfl (.inl rfl))) (keep_gname (by decide)) (fun _ _ _ _ _ => (cts_one (ct_notIn (u65 hr) (ce_var 9 rfl (by first | exact Or.inl rfl | exact Or.inr (Or.inl rfl) | exact Or.inr (Or.inr rfl))) (ce_var 4 rfl (by first | exact Or.inl rfl | exact Or.inr (Or.inl rfl) | exact Or.inr (Or.inr rfl))) (by rfl)))) (fun _ _ _ _ _ => (ce_var 9 rfl (by first | exact Or.inl rfl | exact Or.inr (Or.inl rfl) | exact Or.inr (Or.inr rfl))))) (cg_name (i := 5) sc_law.nd rfl (.inr rfl))) (css_cons (cs_asg (ce_call (ok_judge_even T) (hr.mono (by decide)) (by rfl) T.m_judge_even (ca_cons (ce_var 2 rfl (by first | exact Or.inl rfl | exact Or.inr (Or.inl rfl) | exact Or.inr (Or.inr rfl))) ca_nil)) (cg_name (i := 6) sc_law.nd rfl (.inl rfl))) (css_cons (cs_if (cw_t (cw_or (ct_ne hr.units (ce_or2 (ce_boolO (ok_EvenAlways___bool__ T) T.x_EvenAlways___bool__ (hr.mono (by decide)) (by rfl) T.z_bool (ca_cons (ce_var 6 rfl (by first | exact Or.inl rfl | exact Or.inr (Or.inl rfl) | exact Or.inr (Or.inr rfl))) ca_nil)) (ce_boolO (ok_Parted___bool__ T) T.x_Parted___bool__ (hr.mono (by decide)) (by rfl) T.z_bool (ca_cons (ce_var 6 rfl (by first | exact Or.inl rfl | exact Or.inr (Or.inl rfl) | exact Or.inr (Or.inr rfl))) ca_nil))) (ce_eq hr.units (ce_var 5 rfl (by first | exact Or.inl rfl | exact Or.inr (Or.inl rfl) | exact Or.inr (Or.inr rfl))) (ce_lst ca_nil))) (cw_or1 (ct_not (ct_val (ce_or2 (ce_meth (ce_var 6 rfl (by first | exact Or.inl rfl | exact Or.inr (Or.inl rfl) | exact Or.inr (Or.inr rfl))) T.c_EvenAlways T.x_EvenAlways_shows (ok_EvenAlways_shows T) (hr.mono (by decide)) (ca_cons (ce_var 2 rfl (by first | exact Or.inl rfl | exact Or.inr (Or.inl rfl) | exact Or.inr (Or.inr rfl))) ca_nil)) (ce_meth (ce_var 6 rfl (by first | exact Or.inl rfl | exact Or.inr (Or.inl rfl) | exact Or.inr (Or.inr rfl))) T.c_Parted T.x_Parted_shows (ok_Parted_shows T) (hr.mono (by decide)) (ca_cons (ce_var 2 rfl (by first | exact Or.inl rfl | exact Or.inr (Or.inl rfl) | exact Or.inr (Or.inr rfl))) ca_nil)))))))) (css_one (cs_ret ce_bl)) css_nil) (css_cons (cs_asg (ce_add ce_int (ce_call (ok__law_draw T) (hr.mono (by decide)) (by rfl) T.m__law_draw (ca_cons (ce_var 0 rfl (by first | exact Or.inl rfl | exact Or.inr (Or.inl rfl) | exact Or.inr (Or.inr rfl))) (ca_cons ce_int (ca_cons ce_int ca_nil))))) (cg_name (i := 7) sc_law.nd rfl (.inl rfl))) (css_cons (cs_if (ct_val (ce_is T.kt_EvenAlways_Parted (.inr "EvenAlways") (by decide) (pe_clsN (by rfl) T.m_EvenAlways) (by rfl) T.z_isinstance (ce_var 6 rfl (by first | exact Or.inl rfl | exact Or.inr (Or.inl rfl) | exact Or.inr (Or.inr rfl))))) (css_cons (cs_if (cw_t (cw_or (ct_ne hr.units (ce_callBK rLenS call_lenS calls_len (by rfl) T.z_len PySem.boot_len (ca_cons (ce_fld ["EvenAlways"] (fo_cons T.c_EvenAlways T.n_EvenAlways_rounds fo_nil) (ce_var 6 rfl (by first | exact Or.inl rfl | exact Or.inr (Or.inl rfl) | exact Or.inr (Or.inr rfl))) rfl) ca_nil)) (ce_var 3 rfl (by first | exact Or.inl rfl | exact Or.inr (Or.inl rfl) | exact Or.inr (Or.inr rfl)))) (cw_or1 (ct_ne hr.units (ce_call (ok_stretches T) (hr.mono (by decide)) (by rfl) T.m_stretches (ca_cons (ce_var 2 rfl (by first | exact Or.inl rfl | exact Or.inr (Or.inl rfl) | exact Or.inr (Or.inr rfl))) (ca_cons (ce_var 7 rfl (by first | exact Or.inl rfl | exact Or.inr (Or.inl rfl) | exact Or.inr (Or.inr rfl))) ca_nil))) (ce_lst (ca_cons (ce_tup (ca_cons ce_int (ca_cons (ce_var 7 rfl (by first | exact Or.inl rfl | exact Or.inr (Or.inl rfl) | exact Or.inr (Or.inr rfl))) ca_nil))) ca_nil)))))) (css_one (cs_ret ce_bl)) css_nil) (css_cons (cs_for rfl (ci_range1 (by rfl) T.z_range (ca_cons (ce_var 3 rfl (by first | exact Or.inl rfl | exact Or.inr (Or.inl rfl) | exact Or.inr (Or.inr rfl))) ca_nil)) (cg_name (i := 8) sc_law.nd rfl (.inl rfl)) (css_cons (cs_asg (ce_if (ct_gt (ce_var 8 rfl (by first | exact Or.inl rfl | exact Or.inr (Or.inl rfl) | exact Or.inr (Or.inr rfl))) ce_int) (ce_var 8 rfl (by first | exact Or.inl rfl | exact Or.inr (Or.inl rfl) | exact Or.inr (Or.inr rfl))) (ce_var 3 rfl (by first | exact Or.inl rfl | exact Or.inr (Or.inl rfl) | exact Or.inr (Or.inr rfl)))) (cg_name (i := 9) sc_law.nd rfl (.inl rfl))) (css_one (cs_if (ct_notIn (u65 hr) (ce_var 9 rfl (by first | exact Or.inl rfl | exact Or.inr (Or.inl rfl) | exact Or.inr (Or.inr rfl))) (ce_call (ok__law_weirs T) (hr.mono (by decide)) (by rfl) T.m__law_weirs (ca_cons (ce_ix (ce_var 1 rfl (by first | exact Or.inl rfl | exact Or.inr (Or.inl rfl) | exact Or.inr (Or.inr rfl))) (ce_ix (ce_fld ["EvenAlways"] (fo_cons T.c_EvenAlways T.n_EvenAlways_rounds fo_nil) (ce_var 6 rfl (by first | exact Or.inl rfl | exact Or.inr (Or.inl rfl) | exact Or.inr (Or.inr rfl))) rfl) (ce_var 8 rfl (by first | exact Or.inl rfl | exact Or.inr (Or.inl rfl) | exact Or.inr (Or.inr rfl))) (fun _ _ => rfl)) (fun _ _ => rfl)) (ca_cons (ce_add (ce_var 9 rfl (by first | exact Or.inl rfl | exact Or.inr (Or.inl rfl) | exact Or.inr (Or.inr rfl))) ce_int) ca_nil))) (by rfl)) (css_one (cs_ret ce_bl)) css_nil)))) (css_cons (cs_if (cw_t (cw_or (ct_val (ce_meth (ce_make false T.k_EvenAlways (ok_EvenAlways___init__ T) (hr.mono (by decide)) (by rfl) T.m_EvenAlways (ca_cons (ce_mul (ce_lst (ca_cons (ce_callBK rLenS call_lenS calls_len (by rfl) T.z_len PySem.boot_len (ca_cons (ce_var 1 rfl (by first | exact Or.inl rfl | exact Or.inr (Or.inl rfl) | exact Or.inr (Or.inr rfl))) ca_nil)) ca_nil)) (ce_var 3 rfl (by first | exact Or.inl rfl | exact Or.inr (Or.inl rfl) | exact Or.inr (Or.inr rfl)))) ca_nil)) T.c_EvenAlways T.x_EvenAlways_shows (ok_EvenAlways_shows T) (hr.mono (by decide)) (ca_cons (ce_var 2 rfl (by first | exact Or.inl rfl | exact Or.inr (Or.inl rfl) | exact Or.inr (Or.inr rfl))) ca_nil))) (cw_or1 (ct_val (ce_meth (ce_make false T.k_Parted (ok_Parted___init__ T) (hr.mono (by decide)) (by rfl) T.m_Parted (ca_cons ce_int ca_nil)) T.c_Parted T.x_Parted_shows (ok_Parted_shows T) (hr.mono (by decide)) (ca_cons (ce_var 2 rfl (by first | exact Or.inl rfl | exact Or.inr (Or.inl rfl) | exact Or.inr (Or.inr rfl))) ca_nil)))))) (css_one (cs_ret ce_bl)) css_nil) (css_cons (cs_for rfl (ci_range1 (by rfl) T.z_range (ca_cons (ce_var 3 rfl (by first | exact Or.inl rfl | exact Or.inr (Or.inl rfl) | exact Or.inr (Or.inr rfl))) ca_nil)) (cg_name (i := 8) sc_law.nd rfl (.inl rfl)) (css_one (cs_for rfl (ci_num (by rfl) T.z_enumerate (ce_var 1 rfl (by first | exact Or.inl rfl | exact Or.inr (Or.inl rfl) | exact Or.inr (Or.inr rfl)))) (cg_tup rfl (cgs_cons (cg_name (i := 10) sc_law.nd rfl (.inl rfl)) (cgs_cons (cg_name (i := 11) sc_law.nd rfl (.inl rfl)) cgs_nil))) (css_cons (cs_asg (ce_if (ct_gt (ce_var 8 rfl (by first | exact Or.inl rfl | exact Or.inr (Or.inl rfl) | exact Or.inr (Or.inr rfl))) ce_int) (ce_var 8 rfl (by first | exact Or.inl rfl | exact Or.inr (Or.inl rfl) | exact Or.inr (Or.inr rfl))) (ce_var 3 rfl (by first | exact Or.inl rfl | exact Or.inr (Or.inl rfl) | exact Or.inr (Or.inr rfl)))) (cg_name (i := 9) sc_law.nd rfl (.inl rfl))) (css_cons (cs_asg (ce_add (ce_add (ce_sl (ce_fld ["EvenAlways"] (fo_cons T.c_EvenAlways T.n_EvenAlways_rounds fo_nil) (ce_var 6 rfl (by first | exact Or.inl rfl | exact Or.inr (Or.inl rfl) | exact Or.inr (Or.inr rfl))) rfl) co_none (co_some (ce_var 8 rfl (by first | exact Or.inl rfl | exact Or.inr (Or.inl rfl) | exact Or.inr (Or.inr rfl))))) (ce_lst (ca_cons (ce_var 10 rfl (by first | exact Or.inl rfl | exact Or.inr (Or.inl rfl) | exact Or.inr (Or.inr rfl))) ca_nil))) (ce_sl (ce_fld ["EvenAlways"] (fo_cons T.c_EvenAlways T.n_EvenAlways_rounds fo_nil) (ce_var 6 rfl (by first | exact Or.inl rfl | exact Or.inr (Or.inl rfl) | exact Or.inr (Or.inr rfl))) rfl) (co_some (ce_add (ce_var 8 rfl (by first | exact Or.inl rfl | exact Or.inr (Or.inl rfl) | exact Or.inr (Or.inr rfl))) ce_int)) co_none)) (cg_name (i := 12) sc_law.nd rfl (.inl rfl))) (css_one (cs_if (ct_ne hr.units (ce_meth (ce_make false T.k_EvenAlways (ok_EvenAlways___init__ T) (hr.mono (by decide)) (by rfl) T.m_EvenAlways (ca_cons (ce_var 12 rfl (by first | exact Or.inl rfl | exact Or.inr (Or.inl rfl) | exact Or.inr (Or.inr rfl))) ca_nil)) T.c_EvenAlways T.x_EvenAlways_shows (ok_EvenAlways_shows T) (hr.mono (by decide)) (ca_cons (ce_var 2 rfl (by first | exact Or.inl rfl | exact Or.inr (Or.inl rfl) | exact Or.inr (Or.inr rfl))) ca_nil)) (ce_in (u65 hr) (ce_var 9 rfl (by first | exact Or.inl rfl | exact Or.inr (Or.inl rfl) | exact Or.inr (Or.inr rfl))) (ce_call (ok__law_weirs T) (hr.mono (by decide)) (by rfl) T.m__law_weirs (ca_cons (ce_var 11 rfl (by first | exact Or.inl rfl | exact Or.inr (Or.inl rfl) | exact Or.inr (Or.inr rfl))) (ca_cons (ce_add (ce_var 9 rfl (by first | exact Or.inl rfl | exact Or.inr (Or.inl rfl) | exact Or.inr (Or.inr rfl))) ce_int) ca_nil))) (by rfl))) (css_one (cs_ret ce_bl)) css_nil))))))) (css_one (cs_ret ce_bl)))))) css_nil) (css_cons (cs_if (cw_t (cw_or (ct_ne hr.units (ce_fld ["Parted"] (fo_cons T.c_Parted T.n_Parted_weir fo_nil) (ce_var 6 rfl (by first | exact Or.inl rfl | exact Or.inr (Or.inl rfl) | exact Or.inr (Or.inr rfl))) rfl) (ce_ix (ce_var 5 rfl (by first | exact Or.inl rfl | exact Or.inr (Or.inl rfl) | exact Or.inr (Or.inr rfl))) ce_int (fun _ _ => rfl))) (cw_or (ct_val (ce_meth (ce_make false T.k_Parted (ok_Parted___init__ T) (hr.mono (by decide)) (by rfl) T.m_Parted (ca_cons ce_int ca_nil)) T.c_Parted T.x_Parted_shows (ok_Parted_shows T) (hr.mono (by decide)) (ca_cons (ce_var 2 rfl (by first | exact Or.inl rfl | exact Or.inr (Or.inl rfl) | exact Or.inr (Or.inr rfl))) ca_nil))) (cw_or1 (ct_val (ce_callBK rAny (cr_any rfl) calls_any (by rfl) T.z_any (by decide +kernel) (ca_cons (ce_lc false (own := [("weir", 9)]) rfl sc_law.nd (ci_range2 (by rfl) T.z_range (ca_cons ce_int (ca_cons (ce_add (ce_mul ce_int (ce_var 3 rfl (by first | exact Or.inl rfl | exact Or.inr (Or.inl rfl) | exact Or.inr (Or.inr rfl)))) ce_int) ca_nil))) (blkOk_by (own := [("weir", 9)]) (N := ["script", "rounds", "program", "step", "opened", "shut", "found", "many", "rest", "weir", "number", "told", "rows"]) (sc := defScope s_law) (by decide +kernel)) (fun _ _ _ _ _ => (cg_name (i := 9) sc_law.nd rfl (.inl rfl))) (keep_gname (by decide)) (fun _ _ _ _ _ => cts_nil) (fun _ _ _ _ _ => (ce_ne hr.units (ce_meth (ce_make false T.k_Parted (ok_Parted___init__ T) (hr.mono (by decide)) (by rfl) T.m_Parted (ca_cons (ce_var 9 rfl (by first | exact Or.inl rfl | exact Or.inr (Or.inl rfl) | exact Or.inr (Or.inr rfl))) ca_nil)) T.c_Parted T.x_Parted_shows (ok_Parted_shows T) (hr.mono (by decide)) (ca_cons (ce_var 2 rfl (by first | exact Or.inl rfl | exact Or.inr (Or.inl rfl) | exact Or.inr (Or.inr rfl))) ca_nil)) (ce_eq hr.units (ce_var 9 rfl (by first | exact Or.inl rfl | exact Or.inr (Or.inl rfl) | exact Or.inr (Or.inr rfl))) (ce_ix (ce_var 5 rfl (by first | exact Or.inl rfl | exact Or.inr (Or.inl rfl) | exact Or.inr (Or.inr rfl))) ce_int (fun _ _ => rfl)))))) ca_nil))))))) (css_one (cs_ret ce_bl)) css_nil) (css_one (cs_ret (ce_and (ce_not (ce_meth (ce_make false T.k_EvenAlways (ok_EvenAlways___init__ T) (hr.mono (by decide)) (by rfl) T.m_EvenAlways (ca_cons (ce_mul (ce_lst (ca_cons ce_int ca_nil)) (ce_var 3 rfl (by first | exact Or.inl rfl | exact Or.inr (Or.inl rfl) | exact Or.inr (Or.inr rfl)))) ca_nil)) T.c_EvenAlways T.x_EvenAlways_shows (ok_EvenAlways_shows T) (hr.mono (by decide)) (ca_cons (ce_var 2 rfl (by first | exact Or.inl rfl | exact Or.inr (Or.inl rfl) | exact Or.inr (Or.inr rfl))) ca_nil))) (ce_one (ce_or (ce_le (ce_var 7 rfl (by first | exact Or.inl rfl | exact Or.inr (Or.inl rfl) | exact Or.inr (Or.inr rfl))) (ce_fld ["Parted"] (fo_cons T.c_Parted T.n_Parted_weir fo_nil) (ce_var 6 rfl (by first | exact Or.inl rfl | exact Or.inr (Or.inl rfl) | exact Or.inr (Or.inr rfl))) rfl)) (ce_one (ce_notIn (u65 hr) (ce_tup (ca_cons ce_int (ca_cons (ce_var 7 rfl (by first | exact Or.inl rfl | exact Or.inr (Or.inl rfl) | exact Or.inr (Or.inr rfl))) ca_nil))) (ce_call (ok_stretches T) (hr.mono (by decide)) (by rfl) T.m_stretches (ca_cons (ce_var 2 rfl (by first | exact Or.inl rfl | exact Or.inr (Or.inl rfl) | exact Or.inr (Or.inr rfl))) (ca_cons (ce_var 7 rfl (by first | exact Or.inl rfl | exact Or.inr (Or.inl rfl) | exact Or.inr (Or.inr rfl))) ca_nil))) (by rfl)))))))))))))))))))⟩) law_true
end
end Lk11
end
section
set_option Elab.async false
set_option linter.all false
set_option maxRecDepth 100000
set_option maxHeartbeats 0
namespace Lk11
open PySem PySem.Spec PyProof.Rows L2
theorem facts {P : Program} {w : World} {K : PySem.W.Frag} {h : Heap} {mg : Str → Option Value} {f : Addr} (hp : P.main.file = fileS) (ht : (P.main.scope.names.lookup ("super" : Str)).isSome = false) (X : K.In h) (G : h.Ns mainGlobals mg) (hfa : mg ("law" : Str) = some (.ref f)) (c : SupX.SaysS fa fn xs fileS exB K) :
    ∃ fd : FuncData, (∀ (s : Shared) (v : Value), BindsTo s fd ⟨[v], []⟩ [("script", v)]) ∧ (∀ (H : Hp) (a : Addr) (ns : List Int), ns.length ≤ 63 → SqL K H a (ns.map V.int) → PM.lawSp K [.ref a] H (fun v _ => v = .bl true) fun _ _ _ => False) ∧ ∀ base : Heap, K.In base → base.Ns mainGlobals mg → FnOk P w K mg base (L2.CX P w) 6 f fd ["script"] (PM.lawSp K) := by
  have T : Tx P K mg := ⟨⟨⟨_, X, G⟩, c⟩, hp, ht⟩
  obtain ⟨fd, F⟩ := T.f_law
  have F' : FunD K "law" "law" (defArgs s_law) (defBody s_law) (defScope s_law) [] [] (He.ga K "law") fd := F
  have e := hfa.symm.trans T.m_law
  cases e
  have b := FunD.bindsA (ps := ["script"]) F' fun _ _ _ _ _ _ us hl => match us, hl with | [_], _ => rfl
  exact ⟨fd, fun s v => b s [v] rfl, fun H a ns hl hS => ⟨a, ns, rfl, hl, WD.rd_of T.noL hS, fun _ => rfl⟩, fun base _ _ => ok_law T F'⟩
end Lk11
open PySem PySem.W PySem.Calls PyProof.Rows
theorem PySem.Challenge.cw_weirlines_k11_whole_always_even_holds : PySem.Challenge.rw_weirlines_k11_whole_always_even.Holds := by
  w_on; o_law
  refine HandSHeadRun.head_imp (r := OpenLaw.row PySem.Challenge.rw_weirlines_k11_whole_always_even) (q := view (OpenLaw.row PySem.Challenge.rw_weirlines_k11_whole_always_even).prog [0, 38]) (H := Lk11.hk) (ob := Lk11.ob) (M := 6000) (loose := Lk11.loose) (d := HandSHeadRun.topDef (OpenLaw.row PySem.Challenge.rw_weirlines_k11_whole_always_even).prog 38) (kwd := []) Lk11.ob_eq
    Lk11.run (by kernel_rfl) (by kernel_rfl) (by kernel_rfl) (by rfl) (by first | assumption | decide +kernel) (by decide +kernel) ⟨rfl, rfl, rfl, rfl, rfl, by decide +kernel⟩ ?hw ?hc
  case hw => w_witness2
  case hc =>
    refine LamX.walk_ofTsE (l := PySem.Challenge.rw_weirlines_k11_whole_always_even) (n := 63) (k := 6) (x := "script") (CX := fun w => L2.CX PySem.Challenge.rw_weirlines_k11_whole_always_even.prog w) rfl (by decide) (by kernel_rfl) ⟨rfl, by decide, by decide⟩ ?F ?CX
    case CX =>
      intro w H s e s' z
      obtain ⟨_, _, _, _, _, _, _, _, _, _, _, _, z⟩ := z
      exact z
    case F =>
      intro w mg fa h Y G hmg0
      obtain ⟨K, KX, c⟩ := Y
      have hmg : mg ("law" : PySem.Str) = some (.ref fa) := by
        have e : (HandSHeadRun.topDef (OpenLaw.row PySem.Challenge.rw_weirlines_k11_whole_always_even).prog 38).name = ("law" : PySem.Str) := by kernel_rfl
        rw [← e]
        exact hmg0
      obtain ⟨fd, hb, hS, hF⟩ := Lk11.facts (P := PySem.Challenge.rw_weirlines_k11_whole_always_even.prog) (w := w) (by rfl) (by rfl) KX G hmg c
      exact ⟨K, KX, fd, [], PM.lawSp K, (fun p hp => nomatch hp), (fun p hp => nomatch hp), (fun p hp => nomatch hp), hb, fun H a ns hl _ _ hq => hS H a ns hl hq, fun base hK hN _ => hF base hK hN⟩
end
