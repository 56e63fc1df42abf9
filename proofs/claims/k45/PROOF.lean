import PyProof.Rows.All
import Wide.All
import OpenK.AllK
import Wide.FinOn
import HandS.Evl
import HandS.Words
import HandS.WordsExc
import HandS.Gcd
import HandS.Wide
import HandS.IsInst
import HandS.Defaults
import HandS.Zip
import HandS.HeadHook1
import HandS.HeadHook2
import HandS.OwnEq
import OpenK.KOps
import OpenK.KMeth
import KE.KMathGC
import PyProof.InstNe
import PyProof.FactsAll.tuple_iterator_1
import HandS.SetFor
import PyProof.ListNew
import HandS.TupAny
import KE.KMathG
import HandS.DictComp
import PyProof.ZipIter
import PyProof.CollectWalk
import KE.KItemsList
import HandS.Base
import HandS.Call
import HandS.List
import HandS.Iter
import HandS.ListItems
import HandS.Star
import KE.KExcSuper
import HandS.ExcOwn
import HandS.ExcInit
import KE.KStateDown
import HandS.Head3
import HandS.HeadEnd
import HandS.SortKw
import HandS.Conv
import HandS.Dict
import KE.GoesMore
import HandS.HeadWalk
import PySem.Challenge.RW_weirlines_k45_whole_turns
section
set_option Elab.async false
set_option linter.all false
set_option maxRecDepth 100000
namespace WD
open PySem L2 Evl

/-! ### plain data: what never changes -/
inductive D where
  | non | bl (b : Bool) | int (i : Int) | str (x : Str)
  | tup (ds : List D) | lst (ds : List D) | obj (c : Str) (fs : List (Str × D))

mutual
inductive Is (K : PySem.W.Frag) (H : Hp) : V → D → Prop
  | non : Is K H .non .non
  | bl (b : Bool) : Is K H (.bl b) (.bl b)
  | int (i : Int) : Is K H (.int i) (.int i)
  | str (x : Str) : Is K H (.str x) (.str x)
  | tup {a : Addr} {xs : List V} {ds : List D} : SqT K H a xs → All K H xs ds → Is K H (.ref a) (.tup ds)
  | lst {a : Addr} {xs : List V} {ds : List D} : Rd H a (.lst xs) → All K H xs ds → Is K H (.ref a) (.lst ds)
  | obj {a dx : Addr} {c : Str} {fvs : List (Str × V)} {fs : List (Str × D)} : H a = some (.ins (He.ga K c) dx fvs) → AllF K H fvs fs → Is K H (.ref a) (.obj c fs)
inductive All (K : PySem.W.Frag) (H : Hp) : List V → List D → Prop
  | nil : All K H [] []
  | cons {v : V} {vs : List V} {d : D} {ds : List D} : Is K H v d → All K H vs ds → All K H (v :: vs) (d :: ds)
inductive AllF (K : PySem.W.Frag) (H : Hp) : List (Str × V) → List (Str × D) → Prop
  | nil : AllF K H [] []
  | cons {n : Str} {v : V} {vs : List (Str × V)} {d : D} {ds : List (Str × D)} : Is K H v d → AllF K H vs ds → AllF K H ((n, v) :: vs) ((n, d) :: ds)
end

section
variable {K : PySem.W.Frag} {H H' : Hp}
mutual
theorem Is.ex (e : Ex H H') : ∀ {v : V} {d : D}, Is K H v d → Is K H' v d
  | _, _, .non => .non
  | _, _, .bl b => .bl b
  | _, _, .int i => .int i
  | _, _, .str x => .str x
  | _, _, .tup h a => .tup (ex_t e h) (All.ex e a)
  | _, _, .lst h a => .lst (ex_rd e h) (All.ex e a)
  | _, _, .obj h a => .obj (e _ _ h) (AllF.ex e a)
theorem All.ex (e : Ex H H') : ∀ {vs : List V} {ds : List D}, All K H vs ds → All K H' vs ds
  | _, _, .nil => .nil
  | _, _, .cons h a => .cons (Is.ex e h) (All.ex e a)
theorem AllF.ex (e : Ex H H') : ∀ {vs : List (Str × V)} {ds : List (Str × D)}, AllF K H vs ds → AllF K H' vs ds
  | _, _, .nil => .nil
  | _, _, .cons h a => .cons (Is.ex e h) (AllF.ex e a)
end
theorem All.len : ∀ {vs : List V} {ds : List D}, All K H vs ds → vs.length = ds.length
  | _, _, .nil => rfl
  | _, _, .cons _ a => congrArg Nat.succ (All.len a)
theorem All.get : ∀ {vs : List V} {ds : List D} {i : Nat} {d : D}, All K H vs ds → ds[i]? = some d → ∃ v, vs[i]? = some v ∧ Is K H v d
  | _, _, _, _, .nil, h => by simp at h
  | _, _, 0, _, .cons h _, e => by
    simp at e
    subst e
    exact ⟨_, rfl, h⟩
  | _, _, i + 1, _, .cons _ a, e => by
    obtain ⟨v, h1, h2⟩ := All.get (i := i) a (by simpa using e)
    exact ⟨v, by simpa using h1, h2⟩
theorem All.get' : ∀ {vs : List V} {ds : List D} {i : Nat} {v : V}, All K H vs ds → vs[i]? = some v → ∃ d, ds[i]? = some d ∧ Is K H v d
  | _, _, _, _, .nil, h => by simp at h
  | _, _, 0, _, .cons h _, e => by
    simp at e
    subst e
    exact ⟨_, rfl, h⟩
  | _, _, i + 1, _, .cons _ a, e => by
    obtain ⟨d, h1, h2⟩ := All.get' (i := i) a (by simpa using e)
    exact ⟨d, by simpa using h1, h2⟩
theorem All.app : ∀ {vs ws : List V} {ds es : List D}, All K H vs ds → All K H ws es → All K H (vs ++ ws) (ds ++ es)
  | _, _, _, _, .nil, b => b
  | _, _, _, _, .cons h a, b => .cons h (All.app a b)
theorem All.one {v : V} {d : D} (h : Is K H v d) : All K H [v] [d] := .cons h .nil
theorem All.drop : ∀ {vs : List V} {ds : List D} (n : Nat), All K H vs ds → All K H (vs.drop n) (ds.drop n)
  | _, _, 0, h => h
  | _, _, _ + 1, .nil => .nil
  | _, _, n + 1, .cons _ a => All.drop n a
theorem All.take : ∀ {vs : List V} {ds : List D} (n : Nat), All K H vs ds → All K H (vs.take n) (ds.take n)
  | _, _, 0, _ => .nil
  | _, _, _ + 1, .nil => .nil
  | _, _, n + 1, .cons h a => .cons h (All.take n a)
theorem All.set {v : V} {d : D} (h : Is K H v d) : ∀ {vs : List V} {ds : List D} (n : Nat), All K H vs ds → All K H (vs.set n v) (ds.set n d)
  | _, _, _, .nil => .nil
  | _, _, 0, .cons _ a => .cons h a
  | _, _, n + 1, .cons g a => .cons g (All.set h n a)
theorem AllF.look {f : Str} {d : D} : ∀ {vs : List (Str × V)} {ds : List (Str × D)}, AllF K H vs ds → ds.lookup f = some d → ∃ v, vs.lookup f = some v ∧ Is K H v d
  | _, _, .nil, h => by simp at h
  | _, _, .cons (n := n) h a, e => by
    rw [List.lookup_cons] at e ⊢
    cases q : (f == n) with
    | true =>
      rw [q] at e
      cases e
      exact ⟨_, rfl, h⟩
    | false =>
      rw [q] at e
      exact AllF.look a e

/-! ### data without lists and objects: kept by all that is done to lists -/
mutual
def D.lf : D → Bool
  | .lst _ => false
  | .obj _ _ => false
  | .tup ds => D.lfs ds
  | _ => true
def D.lfs : List D → Bool
  | [] => true
  | d :: ds => D.lf d && D.lfs ds
end
/-- tuples stay -/
def Gt (H H' : Hp) : Prop := ∀ a xs, Rd H a (.tup xs) → Rd H' a (.tup xs)
theorem Gt.refl (H : Hp) : Gt H H := fun _ _ h => h
theorem Gt.trans {H H1 H2 : Hp} (a : Gt H H1) (b : Gt H1 H2) : Gt H H2 := fun x y h => b x y (a x y h)
theorem Gt.of (e : Ex H H') : Gt H H' := fun _ _ h => ex_rd e h
theorem Gt.upd {p : Addr} {o : HO} {u : HO} (h : H p = some u) (hu : ∀ xs, u ≠ .tup xs) (hf : ∀ ob z, u ≠ .frz ob z) : Gt H (upd H p o) := fun a xs r => by
  rcases r with r | ⟨ob, r⟩
  · exact .inl (by
      rw [upd_ne (ne_of r h (fun z => hu xs z.symm))]
      exact r)
  · exact .inr ⟨ob, by
      rw [upd_ne (ne_of r h (fun z => hf ob _ z.symm))]
      exact r⟩
theorem Gt.lst {p : Addr} {o : HO} {xs : List V} (h : H p = some (.lst xs)) : Gt H (L2.upd H p o) := Gt.upd h (fun _ z => by cases z) (fun _ _ z => by cases z)
mutual
theorem Is.gt (e : Gt H H') : ∀ {v : V} {d : D}, Is K H v d → d.lf = true → Is K H' v d
  | _, _, .non, _ => .non
  | _, _, .bl b, _ => .bl b
  | _, _, .int i, _ => .int i
  | _, _, .str x, _ => .str x
  | _, _, .tup h a, q => .tup (h.imp (fun h => e _ _ h) id) (All.gt e a q)
  | _, _, .lst _ _, q => nomatch q
  | _, _, .obj _ _, q => nomatch q
theorem All.gt (e : Gt H H') : ∀ {vs : List V} {ds : List D}, All K H vs ds → D.lfs ds = true → All K H' vs ds
  | _, _, .nil, _ => .nil
  | _, _, .cons h a, q => .cons (Is.gt e h (Bool.and_eq_true_iff.mp q).1) (All.gt e a (Bool.and_eq_true_iff.mp q).2)
end
theorem lfs_map {α : Type} (f : α → D) (h : ∀ a, (f a).lf = true) : ∀ xs : List α, D.lfs (xs.map f) = true
  | [] => rfl
  | x :: xs => by
    show ((f x).lf && D.lfs (xs.map f)) = true
    rw [h x, lfs_map f h xs]
    rfl
theorem lfs_app : ∀ {ds es : List D}, D.lfs ds = true → D.lfs es = true → D.lfs (ds ++ es) = true
  | [], _, _, h => h
  | d :: ds, es, h, h2 => by
    obtain ⟨a, b⟩ := Bool.and_eq_true_iff.mp (show (d.lf && D.lfs ds) = true from h)
    show (d.lf && D.lfs (ds ++ es)) = true
    rw [a, lfs_app b h2]
    rfl
end
end WD
end
section
set_option Elab.async false
set_option linter.all false
set_option maxRecDepth 100000
namespace WD
open PySem L2 Evl
variable {K : PySem.W.Frag} {σ : L2.St} {H H' : Hp} {ta tb te tx : TE} {t u : TT} {d d1 d2 : D} {ds es : List D}

def EvD (K : PySem.W.Frag) (te : TE) (σ : L2.St) (H : Hp) (d : D) : Prop := ∀ H1, Ex H H1 → ∀ Q : VK, (∀ v H2, Ex H1 H2 → Is K H2 v d → Q v H2) → te σ H1 Q
def EvDA (K : PySem.W.Frag) (ta : TA) (σ : L2.St) (H : Hp) (ds : List D) : Prop := ∀ H1, Ex H H1 → ∀ Q : List V → Hp → Prop, (∀ vs H2, Ex H1 H2 → All K H2 vs ds → Q vs H2) → ta σ H1 Q
/-- a new list -/
def EvN (K : PySem.W.Frag) (te : TE) (σ : L2.St) (H : Hp) (ds : List D) : Prop := ∀ H1, Ex H H1 → ∀ Q : VK, (∀ p xs H2, H1 p = none → Ex H1 H2 → H2 p = some (.lst xs) → All K H2 xs ds → Q (.ref p) H2) → te σ H1 Q
theorem EvD.mono (e : Ex H H') (h : EvD K te σ H d) : EvD K te σ H' d := fun H1 a Q q => h H1 (e.trans a) Q q
theorem EvN.mono (e : Ex H H') (h : EvN K te σ H ds) : EvN K te σ H' ds := fun H1 a Q q => h H1 (e.trans a) Q q
theorem EvN.toD (h : EvN K te σ H ds) : EvD K te σ H (.lst ds) := fun H1 e Q q => h H1 e Q fun p xs H2 _ e2 h2 a => q _ H2 e2 (.lst (.inl h2) a)
theorem EvD.is {e : D} (h : EvD K te σ H d) (q : d = e) : EvD K te σ H e := q ▸ h
theorem EvN.is (h : EvN K te σ H ds) (q : ds = es) : EvN K te σ H es := q ▸ h
theorem ed_var {i : Nat} {v : V} (h : σ[i]? = some (some v)) (a : Is K H v d) : EvD K (tVar i) σ H d := fun H1 e Q q => ⟨v, h, q v H1 (Ex.refl H1) (a.ex e)⟩
theorem ed_int {i : Int} : EvD K (tC (.int i)) σ H (.int i) := fun H1 _ _ q => q _ H1 (Ex.refl H1) (.int i)
theorem ed_bl {b : Bool} : EvD K (tC (.bl b)) σ H (.bl b) := fun H1 _ _ q => q _ H1 (Ex.refl H1) (.bl b)
theorem ed_str {x : Str} : EvD K (tC (.str x)) σ H (.str x) := fun H1 _ _ q => q _ H1 (Ex.refl H1) (.str x)
theorem ed_non : EvD K (tC .non) σ H .non := fun H1 _ _ q => q _ H1 (Ex.refl H1) .non
theorem ed_of {v : V} (h : Ev te σ H v) (a : Is K H v d) : EvD K te σ H d := fun H1 e Q q => h H1 e Q fun H2 e2 => q v H2 e2 (a.ex (e.trans e2))
theorem ev_of {v : V} (hv : ∀ H' w, Is K H' w d → w = v) (h : EvD K te σ H d) : Ev te σ H v := fun H1 e Q q => h H1 e Q fun w H2 e2 a => by
  rw [hv H2 w a]
  exact q H2 e2
theorem ev_i {i : Int} (h : EvD K te σ H (.int i)) : Ev te σ H (.int i) := ev_of (fun _ _ a => by cases a; rfl) h
theorem ev_b {b : Bool} (h : EvD K te σ H (.bl b)) : Ev te σ H (.bl b) := ev_of (fun _ _ a => by cases a; rfl) h

/-! ### operators -/
def RD (K : PySem.W.Frag) (r : R2) (d1 d2 : D) (H : Hp) (d : D) : Prop := ∀ v1 v2 H1, Ex H H1 → Is K H1 v1 d1 → Is K H1 v2 d2 → ∀ Q : VK, (∀ v H2, Ex H1 H2 → Is K H2 v d → Q v H2) → r v1 v2 H1 Q
def RNw (K : PySem.W.Frag) (r : R2) (d1 d2 : D) (H : Hp) (ds : List D) : Prop := ∀ v1 v2 H1, Ex H H1 → Is K H1 v1 d1 → Is K H1 v2 d2 → ∀ Q : VK, (∀ p xs H2, H1 p = none → Ex H1 H2 → H2 p = some (.lst xs) → All K H2 xs ds → Q (.ref p) H2) → r v1 v2 H1 Q
theorem ed_op {r : R2} (ha : EvD K ta σ H d1) (hb : EvD K tb σ H d2) (hr : RD K r d1 d2 H d) : EvD K (tOp r ta tb) σ H d := fun H1 e Q q =>
  ha H1 e _ fun v1 H2 e2 a1 => hb H2 (e.trans e2) _ fun v2 H3 e3 a2 => hr v1 v2 H3 ((e.trans e2).trans e3) (a1.ex e3) a2 Q fun v H4 e4 a => q v H4 ((e2.trans e3).trans e4) a
theorem en_op {r : R2} (ha : EvD K ta σ H d1) (hb : EvD K tb σ H d2) (hr : RNw K r d1 d2 H ds) : EvN K (tOp r ta tb) σ H ds := fun H1 e Q q =>
  ha H1 e _ fun v1 H2 e2 a1 => hb H2 (e.trans e2) _ fun v2 H3 e3 a2 => hr v1 v2 H3 ((e.trans e2).trans e3) (a1.ex e3) a2 Q fun p xs H4 hp e4 h a => q p xs H4 (fresh_back (e2.trans e3) hp) ((e2.trans e3).trans e4) h a
theorem rd_I0 {g : Int → Int → Int} {i j : Int} : RD K (rI0 fun i j => .int (g i j)) (.int i) (.int j) H (.int (g i j)) := fun v1 v2 H1 _ a1 a2 Q q => by
  cases a1; cases a2
  exact ⟨i, j, rfl, rfl, q _ H1 (Ex.refl H1) (.int _)⟩
theorem rd_B0 {g : Int → Int → Bool} {i j : Int} : RD K (rI0 fun i j => .bl (g i j)) (.int i) (.int j) H (.bl (g i j)) := fun v1 v2 H1 _ a1 a2 Q q => by
  cases a1; cases a2
  exact ⟨i, j, rfl, rfl, q _ H1 (Ex.refl H1) (.bl _)⟩
theorem rd_I {C : Int → Int → Prop} {g : Int → Int → Int} {i j : Int} (hc : C i j) : RD K (rI C fun i j => .int (g i j)) (.int i) (.int j) H (.int (g i j)) := fun v1 v2 H1 _ a1 a2 Q q => by
  cases a1; cases a2
  exact ⟨i, j, rfl, rfl, hc, q _ H1 (Ex.refl H1) (.int _)⟩
theorem ed_add {i j : Int} (ha : EvD K ta σ H (.int i)) (hb : EvD K tb σ H (.int j)) : EvD K (tOp (rI0 fun i j => .int (i + j)) ta tb) σ H (.int (i + j)) := ed_op ha hb (rd_I0 (g := fun i j => i + j))
theorem ed_sub {i j : Int} (ha : EvD K ta σ H (.int i)) (hb : EvD K tb σ H (.int j)) : EvD K (tOp (rI0 fun i j => .int (i - j)) ta tb) σ H (.int (i - j)) := ed_op ha hb (rd_I0 (g := fun i j => i - j))
theorem ed_mulW {i j : Int} (ha : EvD K ta σ H (.int i)) (hb : EvD K tb σ H (.int j)) (hc : CMulW i j) : EvD K (tOp (rI CMulW fun i j => .int (i * j)) ta tb) σ H (.int (i * j)) := ed_op ha hb (rd_I (g := fun i j => i * j) hc)
theorem ed_mul {i j : Int} (ha : EvD K ta σ H (.int i)) (hb : EvD K tb σ H (.int j)) (hc : CMul i j) : EvD K (tOp (rI CMul fun i j => .int (i * j)) ta tb) σ H (.int (i * j)) := ed_op ha hb (rd_I (g := fun i j => i * j) hc)
theorem ed_divW {i j : Int} (ha : EvD K ta σ H (.int i)) (hb : EvD K tb σ H (.int j)) (hc : CDivW i j) : EvD K (tOp (rI CDivW fun i j => .int (i / j)) ta tb) σ H (.int (i / j)) := ed_op ha hb (rd_I (g := fun i j => i / j) hc)
theorem ed_mod {i j : Int} (ha : EvD K ta σ H (.int i)) (hb : EvD K tb σ H (.int j)) (hc : 0 < j) : EvD K (tOp (rI (fun _ j => 0 < j) fun i j => .int (i % j)) ta tb) σ H (.int (i % j)) := ed_op ha hb (rd_I (C := fun _ j => 0 < j) (g := fun i j => i % j) hc)
theorem ed_pow {i j : Int} (ha : EvD K ta σ H (.int i)) (hb : EvD K tb σ H (.int j)) (hc : CPow i j) : EvD K (tOp (rI CPow fun i j => .int (i ^ j.toNat)) ta tb) σ H (.int (i ^ j.toNat)) := ed_op ha hb (rd_I (g := fun i j => i ^ j.toNat) hc)
theorem ed_neg {i : Int} (ha : EvD K ta σ H (.int i)) : EvD K (tUn (rU fun i => .int (-i)) ta) σ H (.int (-i)) := fun H1 e Q q => ha H1 e _ fun v H2 e2 a => by
  cases a
  exact ⟨i, rfl, q _ H2 e2 (.int _)⟩
theorem ed_lt {i j : Int} (ha : EvD K ta σ H (.int i)) (hb : EvD K tb σ H (.int j)) : EvD K (tOp (rI0 fun i j => .bl (decide (i < j))) ta tb) σ H (.bl (decide (i < j))) := ed_op ha hb (rd_B0 (g := fun i j => decide (i < j)))
theorem ed_le {i j : Int} (ha : EvD K ta σ H (.int i)) (hb : EvD K tb σ H (.int j)) : EvD K (tOp (rI0 fun i j => .bl (decide (i ≤ j))) ta tb) σ H (.bl (decide (i ≤ j))) := ed_op ha hb (rd_B0 (g := fun i j => decide (i ≤ j)))
theorem ed_gt {i j : Int} (ha : EvD K ta σ H (.int i)) (hb : EvD K tb σ H (.int j)) : EvD K (tOp (rI0 fun i j => .bl (decide (j < i))) ta tb) σ H (.bl (decide (j < i))) := ed_op ha hb (rd_B0 (g := fun i j => decide (j < i)))
theorem ed_ge {i j : Int} (ha : EvD K ta σ H (.int i)) (hb : EvD K tb σ H (.int j)) : EvD K (tOp (rI0 fun i j => .bl (decide (j ≤ i))) ta tb) σ H (.bl (decide (j ≤ i))) := ed_op ha hb (rd_B0 (g := fun i j => decide (j ≤ i)))
theorem ed_eqI {i j : Int} (ha : EvD K ta σ H (.int i)) (hb : EvD K tb σ H (.int j)) : EvD K (tOp rEq ta tb) σ H (.bl (decide (i = j))) := ed_op ha hb fun v1 v2 H1 _ a1 a2 Q q => by
  cases a1; cases a2
  refine ⟨rfl, ?_⟩
  have e : decide (V.int i = V.int j) = decide (i = j) := decide_eq_decide.mpr ⟨fun h => by cases h; rfl, fun h => by rw [h]⟩
  rw [e]
  exact q _ H1 (Ex.refl H1) (.bl _)
theorem ed_neI {i j : Int} (ha : EvD K ta σ H (.int i)) (hb : EvD K tb σ H (.int j)) : EvD K (tOp rNe ta tb) σ H (.bl (!decide (i = j))) := ed_op ha hb fun v1 v2 H1 _ a1 a2 Q q => by
  cases a1; cases a2
  refine ⟨rfl, ?_⟩
  have e : decide (V.int i = V.int j) = decide (i = j) := decide_eq_decide.mpr ⟨fun h => by cases h; rfl, fun h => by rw [h]⟩
  rw [e]
  exact q _ H1 (Ex.refl H1) (.bl _)
/-! ### data as PyData, for == -/
mutual
def D.py : D → PyData
  | .non => .none
  | .bl b => .bool b
  | .int i => .int i
  | .str x => .str x
  | .tup ds => .tuple (D.pys ds)
  | .lst ds => .list (D.pys ds)
  | .obj _ _ => .none
def D.pys : List D → List PyData
  | [] => []
  | d :: ds => D.py d :: D.pys ds
end
mutual
/-- no object in it -/
def D.fl : D → Bool
  | .tup ds => D.fls ds
  | .lst ds => D.fls ds
  | .obj _ _ => false
  | _ => true
def D.fls : List D → Bool
  | [] => true
  | d :: ds => D.fl d && D.fls ds
end
mutual
theorem Is.dp : ∀ {v : V} {d : D}, Is K H v d → d.fl = true → Dp K H v d.py
  | _, _, .non, _ => .non
  | _, _, .bl b, _ => .bl b
  | _, _, .int i, _ => .int i
  | _, _, .str x, _ => .str x
  | _, _, .tup h a, q => .tup h (All.dp a q)
  | _, _, .lst h a, q => .lst (.inl h) (All.dp a q)
theorem All.dp : ∀ {vs : List V} {ds : List D}, All K H vs ds → D.fls ds = true → DpAll K H vs (D.pys ds)
  | _, _, .nil, _ => .nil
  | _, _, .cons h a, q => .cons (Is.dp h (Bool.and_eq_true_iff.mp q).1) (All.dp a (Bool.and_eq_true_iff.mp q).2)
end
structure Sh (d : D) : Prop where
  fl : d.fl = true
  sh : SeqAt.shaped d.py = true
theorem ed_eqD (ha : EvD K ta σ H d1) (hb : EvD K tb σ H d2) (s1 : Sh d1) (s2 : Sh d2) : EvD K (tOp (rEqD K) ta tb) σ H (.bl (PyData.eqv d1.py d2.py)) := ed_op ha hb fun v1 v2 H1 _ a1 a2 Q q =>
  ⟨_, _, a1.dp s1.fl, a2.dp s2.fl, s1.sh, s2.sh, q _ H1 (Ex.refl H1) (.bl _)⟩
theorem ed_neD (ha : EvD K ta σ H d1) (hb : EvD K tb σ H d2) (s1 : Sh d1) (s2 : Sh d2) : EvD K (tOp (rNeD K) ta tb) σ H (.bl (!PyData.eqv d1.py d2.py)) := ed_op ha hb fun v1 v2 H1 _ a1 a2 Q q =>
  ⟨_, _, a1.dp s1.fl, a2.dp s2.fl, s1.sh, s2.sh, q _ H1 (Ex.refl H1) (.bl _)⟩
/-! ### lists, tuples -/
theorem atI_len {α β : Type} {xs : List α} {ys : List β} {i : Int} (h : xs.length = ys.length) {d : β} (e : atI ys i = some d) : ∃ j : Nat, ys[j]? = some d ∧ ∀ v, xs[j]? = some v → atI xs i = some v := by
  unfold atI at e ⊢
  rw [h]
  cases q : ixN ys.length i with
  | none =>
    rw [q] at e
    cases e
  | some j =>
    rw [q] at e
    exact ⟨j, e, fun v hv => hv⟩
theorem ed_ixT {i : Int} (ha : EvD K ta σ H (.tup ds)) (hb : EvD K tb σ H (.int i)) (hi : atI ds i = some d) : EvD K (tOp (rIxT K) ta tb) σ H d := ed_op ha hb fun v1 v2 H1 _ a1 a2 Q q => by
  cases a1 with
  | tup h a =>
    cases a2
    obtain ⟨j, h1, h2⟩ := atI_len a.len hi
    obtain ⟨v, h3, h4⟩ := a.get h1
    exact ⟨_, _, i, v, rfl, rfl, h, h2 v h3, q v H1 (Ex.refl H1) h4⟩
theorem ed_ixL {i : Int} (ha : EvD K ta σ H (.lst ds)) (hb : EvD K tb σ H (.int i)) (hi : atI ds i = some d) : EvD K (tOp (rIxL K) ta tb) σ H d := ed_op ha hb fun v1 v2 H1 _ a1 a2 Q q => by
  cases a1 with
  | lst h a =>
    cases a2
    obtain ⟨j, h1, h2⟩ := atI_len a.len hi
    obtain ⟨v, h3, h4⟩ := a.get h1
    exact ⟨_, _, i, v, rfl, rfl, .inl h, h2 v h3, q v H1 (Ex.refl H1) h4⟩
theorem ea0 : EvDA K tNil σ H [] := fun H1 _ _ q => q [] H1 (Ex.refl H1) .nil
theorem ea1 {tr : TA} (h : EvD K te σ H d) (hr : EvDA K tr σ H ds) : EvDA K (tCons te tr) σ H (d :: ds) := fun H1 e _ q =>
  h H1 e _ fun v H2 e2 a => hr H2 (e.trans e2) _ fun vs H3 e3 b => q (v :: vs) H3 (e2.trans e3) (.cons (a.ex e3) b)
theorem ed_tup {ta : TA} (h : EvDA K ta σ H ds) (hl : ds.length ≤ 100000 := by decide) : EvD K (tTup ta) σ H (.tup ds) := fun H1 e _ q =>
  h H1 e _ fun vs H2 e2 a => ⟨sz_of (by rw [a.len]; exact hl), fun p hp => q _ _ (e2.trans (Ex.new hp)) (.tup (st_of upd_same) (a.ex (Ex.new hp)))⟩
theorem en_lst {ta : TA} (h : EvDA K ta σ H ds) (hl : ds.length ≤ 100000 := by decide) : EvN K (tLst ta) σ H ds := fun H1 e _ q =>
  h H1 e _ fun vs H2 e2 a => ⟨sz_of (by rw [a.len]; exact hl), fun p hp => q p vs _ (fresh_back e2 hp) (e2.trans (Ex.new hp)) upd_same (a.ex (Ex.new hp))⟩
theorem cutA {lo hi : Option Int} {xs : List V} (a : All K H xs ds) : All K H (cutV xs lo hi) ((ds.drop (HT.sIx ds.length 0 lo)).take (HT.sIx ds.length ds.length hi - HT.sIx ds.length 0 lo)) := by
  unfold cutV
  rw [a.len]
  exact (a.drop _).take _
def cutD (xs : List D) (lo hi : Option Int) : List D := (xs.drop (HT.sIx xs.length 0 lo)).take (HT.sIx xs.length xs.length hi - HT.sIx xs.length 0 lo)
theorem en_sl {tl th : TO} {lo hi : Option Int} (h : EvD K te σ H (.lst ds)) (h1 : EvO tl σ H lo) (h2 : EvO th σ H hi) : EvN K (tSl (rSlL K) te tl th) σ H (cutD ds lo hi) := fun H1 e _ q =>
  h H1 e _ fun v H2 e2 a => by
    cases a with
    | lst hs a =>
      exact h1 H2 (e.trans e2) _ fun H3 e3 => h2 H3 ((e.trans e2).trans e3) _ fun H4 e4 =>
        ⟨_, _, rfl, ex_l (e3.trans e4) (.inl hs), fun p hp => q p _ _ (fresh_back ((e2.trans e3).trans e4) hp) (((e2.trans e3).trans e4).trans (Ex.new hp)) upd_same (cutA (a.ex ((e3.trans e4).trans (Ex.new hp))))⟩
theorem eo_s {i : Int} (h : EvD K te σ H (.int i)) : EvO (tPart te) σ H (some i) := eo_some (ev_i h)
theorem ed_lenL (h : EvD K te σ H (.lst ds)) : EvD K (tCB (rLenS K) (tCons te tNil)) σ H (.int (ds.length : Int)) := fun H1 e Q q =>
  h H1 e _ fun v H2 e2 a => by
    cases a with
    | lst hs a => exact ⟨_, _, rfl, Or.inl (.inl hs), by rw [a.len]; exact q _ H2 e2 (.int _)⟩
theorem ed_lenT (h : EvD K te σ H (.tup ds)) : EvD K (tCB (rLenS K) (tCons te tNil)) σ H (.int (ds.length : Int)) := fun H1 e Q q =>
  h H1 e _ fun v H2 e2 a => by
    cases a with
    | tup hs a => exact ⟨_, _, rfl, Or.inr hs, by rw [a.len]; exact q _ H2 e2 (.int _)⟩
def rTupS (K : PySem.W.Frag) : List V → Hp → VK → Prop := fun xs H Q => ∃ p ys, xs = [.ref p] ∧ ((SqL K H p ys ∧ ∀ l, H l = none → Q (.ref l) (upd H l (.tup ys))) ∨ (SqT K H p ys ∧ Q (.ref p) H))
theorem ed_tuple (h : EvD K te σ H (.lst ds)) : EvD K (tCB (rTupS K) (tCons te tNil)) σ H (.tup ds) := fun H1 e Q q =>
  h H1 e _ fun v H2 e2 a => by
    cases a with
    | lst hs a => exact ⟨_, _, rfl, Or.inl ⟨.inl hs, fun l hl => q _ _ (e2.trans (Ex.new hl)) (.tup (st_of upd_same) (a.ex (Ex.new hl)))⟩⟩
theorem ed_tupleT (h : EvD K te σ H (.tup ds)) : EvD K (tCB (rTupS K) (tCons te tNil)) σ H (.tup ds) := fun H1 e Q q =>
  h H1 e _ fun v H2 e2 a => by
    cases a with
    | tup hs a => exact ⟨_, _, rfl, Or.inr ⟨hs, q _ _ e2 (.tup hs a)⟩⟩
theorem en_list (h : EvD K te σ H (.lst ds)) : EvN K (tCB (rListS K) (tCons te tNil)) σ H ds := fun H1 e Q q =>
  h H1 e _ fun v H2 e2 a => by
    cases a with
    | lst hs a => exact ⟨_, _, rfl, Or.inl (.inl hs), fun l hl => q l _ _ (fresh_back e2 hl) (e2.trans (Ex.new hl)) upd_same (a.ex (Ex.new hl))⟩
theorem en_listT (h : EvD K te σ H (.tup ds)) : EvN K (tCB (rListS K) (tCons te tNil)) σ H ds := fun H1 e Q q =>
  h H1 e _ fun v H2 e2 a => by
    cases a with
    | tup hs a => exact ⟨_, _, rfl, Or.inr hs, fun l hl => q l _ _ (fresh_back e2 hl) (e2.trans (Ex.new hl)) upd_same (a.ex (Ex.new hl))⟩
theorem rd_catT (h1 : ds ≠ []) (hl : ds.length + es.length ≤ 100000) : RD K (rCatT K) (.tup ds) (.tup es) H (.tup (ds ++ es)) := fun v1 v2 H1 _ a1 a2 Q q => by
  cases a1 with
  | tup s1 a1 =>
    cases a2 with
    | tup s2 a2 =>
      refine ⟨_, _, _, _, rfl, rfl, s1, s2, ?_, sz_of (by rw [a1.len, a2.len]; exact hl), ?_, ?_⟩
      · intro z
        subst z
        cases a1
        exact h1 rfl
      · intro z
        subst z
        cases a2
        rw [List.append_nil] at q
        exact q _ H1 (Ex.refl H1) (.tup s1 a1)
      · intro _ p hp
        exact q _ _ (Ex.new hp) (.tup (st_of upd_same) ((a1.ex (Ex.new hp)).app (a2.ex (Ex.new hp))))
theorem ed_catT (ha : EvD K ta σ H (.tup ds)) (hb : EvD K tb σ H (.tup es)) (h1 : ds ≠ []) (hl : ds.length + es.length ≤ 100000) : EvD K (tOp (rCatT K) ta tb) σ H (.tup (ds ++ es)) := ed_op ha hb (rd_catT h1 hl)
/-! ### tests -/
theorem et_t {b : Bool} (h : EvD K te σ H (.bl b)) : EvT (tTest te) σ H b := Evl.et_test (ev_b h)
theorem et_v {b : Bool} (h : EvD K te σ H (.bl b)) : EvT (tB te) σ H b := Evl.et_B (ev_b h)
theorem ed_if {b : Bool} (h : EvT t σ H b) (h1 : b = true → EvD K ta σ H d1) (h2 : b = false → EvD K tb σ H d2) : EvD K (tIf t ta tb) σ H (if b then d1 else d2) := fun H1 e Q q => h H1 e _ fun H2 e2 => by
  cases b with
  | true =>
    show ta σ H2 Q
    exact h1 rfl H2 (e.trans e2) Q fun v H3 e3 a => q v H3 (e2.trans e3) a
  | false =>
    show tb σ H2 Q
    exact h2 rfl H2 (e.trans e2) Q fun v H3 e3 a => q v H3 (e2.trans e3) a
theorem ed_andV {a b : Bool} (h1 : EvD K ta σ H (.bl a)) (h2 : a = true → EvD K tb σ H (.bl b)) : EvD K (tAndV ta tb) σ H (.bl (a && b)) := ed_of (Evl.ev_andV (ev_b h1) fun q => ev_b (h2 q)) (.bl _)
theorem ed_orV {a b : Bool} (h1 : EvD K ta σ H (.bl a)) (h2 : a = false → EvD K tb σ H (.bl b)) : EvD K (tOrV ta tb) σ H (.bl (a || b)) := ed_of (Evl.ev_orV (ev_b h1) fun q => ev_b (h2 q)) (.bl _)
theorem ed_notV {a : Bool} (h1 : EvD K ta σ H (.bl a)) : EvD K (tNotV ta) σ H (.bl (!a)) := ed_of (Evl.ev_notV (ev_b h1)) (.bl _)
def tChainR (r r' : R2) (ta tb tc : TE) : TE := tChain r r' ta tb tc
/-! ### built-ins of ints -/
def rAbs : List V → Hp → VK → Prop := fun xs H Q => ∃ i, xs = [.int i] ∧ Q (.int (if i < 0 then -i else i)) H
theorem ed_abs {i : Int} (h : EvD K te σ H (.int i)) : EvD K (tCB rAbs (tCons te tNil)) σ H (.int (if i < 0 then -i else i)) := fun H1 e Q q => h H1 e _ fun v H2 e2 a => by
  cases a
  exact ⟨i, rfl, q _ H2 e2 (.int _)⟩
def rInt1 : List V → Hp → VK → Prop := fun xs H Q => (∃ i, xs = [.int i] ∧ Q (.int i) H) ∨ ∃ k, xs = [.bl k] ∧ Q (.int (if k then 1 else 0)) H
theorem ed_intI {i : Int} (h : EvD K te σ H (.int i)) : EvD K (tCB rInt1 (tCons te tNil)) σ H (.int i) := fun H1 e Q q => h H1 e _ fun v H2 e2 a => by
  cases a
  exact .inl ⟨i, rfl, q _ H2 e2 (.int _)⟩
theorem ed_intB {b : Bool} (h : EvD K te σ H (.bl b)) : EvD K (tCB rInt1 (tCons te tNil)) σ H (.int (if b then 1 else 0)) := fun H1 e Q q => h H1 e _ fun v H2 e2 a => by
  cases a
  exact .inr ⟨b, rfl, q _ H2 e2 (.int _)⟩
def rMin2 : List V → Hp → VK → Prop := fun xs H Q => ∃ i j, xs = [.int i, .int j] ∧ Q (.int (if j < i then j else i)) H
theorem ed_max2 {i j : Int} (ha : EvD K ta σ H (.int i)) (hb : EvD K tb σ H (.int j)) : EvD K (tCB rMax2 (tCons ta (tCons tb tNil))) σ H (.int (if j > i then j else i)) := ed_of (Evl.ev_max2 (ev_i ha) (ev_i hb)) (.int _)
theorem ed_min2 {i j : Int} (ha : EvD K ta σ H (.int i)) (hb : EvD K tb σ H (.int j)) : EvD K (tCB rMin2 (tCons ta (tCons tb tNil))) σ H (.int (if j < i then j else i)) := fun H1 e Q q =>
  ha H1 e _ fun v H2 e2 a => hb H2 (e.trans e2) _ fun w H3 e3 b => by
    cases a; cases b
    exact ⟨i, j, rfl, q _ H3 (e2.trans e3) (.int _)⟩
theorem ed_gcd {i j : Int} (ha : EvD K ta σ H (.int i)) (hb : EvD K tb σ H (.int j)) : EvD K (tCB rGcd (tCons ta (tCons tb tNil))) σ H (.int ((Nat.gcd i.natAbs j.natAbs : Nat) : Int)) := fun H1 e Q q =>
  ha H1 e _ fun v H2 e2 a => hb H2 (e.trans e2) _ fun w H3 e3 b => by
    cases a; cases b
    exact ⟨i, j, rfl, q _ H3 (e2.trans e3) (.int _)⟩
/-! ### promises -/
def spD (K : PySem.W.Frag) (R : List D → D → Prop) : Sp := fun vs H Q _ => ∃ ds d, All K H vs ds ∧ R ds d ∧ ∀ v H', Ex H H' → Is K H' v d → Q v H'
def spN (K : PySem.W.Frag) (R : List D → List D → Prop) : Sp := fun vs H Q _ => ∃ ds es, All K H vs ds ∧ R ds es ∧ ∀ p xs H', H p = none → Ex H H' → H' p = some (.lst xs) → All K H' xs es → Q (.ref p) H'
theorem ed_call {R : List D → D → Prop} {E : XK} {ta : TA} (h : EvDA K ta σ H ds) (hR : R ds d) : EvD K (tCall (spD K R) [] E ta) σ H d := fun H1 e Q q =>
  h H1 e _ fun vs H2 e2 a => ⟨ds, d, by rw [List.append_nil]; exact a, hR, fun v H3 e3 b => q v H3 (e2.trans e3) b⟩
theorem en_call {R : List D → List D → Prop} {E : XK} {ta : TA} (h : EvDA K ta σ H ds) (hR : R ds es) : EvN K (tCall (spN K R) [] E ta) σ H es := fun H1 e Q q =>
  h H1 e _ fun vs H2 e2 a => ⟨ds, es, by rw [List.append_nil]; exact a, hR, fun p xs H3 hp e3 h3 b => q p xs H3 (fresh_back e2 hp) (e2.trans e3) h3 b⟩
theorem ed_fld {f c : Str} {fs : List (Str × D)} (h : EvD K te σ H (.obj c fs)) (hc : Cls K (He.ga K c)) (hn : NoAttr K (He.ga K c) f) (hl : fs.lookup f = some d) : EvD K (tFld K te f) σ H d := fun H1 e Q q =>
  h H1 e _ fun v H2 e2 a => by
    cases a with
    | obj ho af =>
      obtain ⟨w, h1, h2⟩ := af.look hl
      exact ⟨_, _, _, _, w, rfl, ho, hc, hn, h1, q w H2 e2 h2⟩
theorem AllF.none {f : Str} : ∀ {vs : List (Str × V)} {ds : List (Str × D)}, AllF K H vs ds → ds.lookup f = none → vs.lookup f = none
  | _, _, .nil, _ => rfl
  | _, _, .cons (n := n) h a, e => by
    rw [List.lookup_cons] at e ⊢
    cases q : (f == n) with
    | true =>
      rw [q] at e
      cases e
    | false =>
      rw [q] at e
      exact AllF.none a e
theorem ed_meth {R : List D → D → Prop} {E : XK} {m c : Str} {fs : List (Str × D)} {tr : TA} (h : EvD K te σ H (.obj c fs)) (hl : fs.lookup m = none) (hr : EvDA K tr σ H ds) (hR : R (.obj c fs :: ds) d) :
    EvD K (tMeth (He.ga K c) m (spD K R) [] E te tr) σ H d := fun H1 e Q q =>
  h H1 e _ fun v H2 e2 a => by
    cases a with
    | obj ho af =>
      refine ⟨_, _, _, rfl, ho, AllF.none af hl, hr H2 (e.trans e2) _ fun vs H3 e3 b => ⟨_, _, .cons (.obj (e3 _ _ ho) (af.ex e3)) (by rw [List.append_nil]; exact b), hR, fun v H4 e4 c => q v H4 ((e2.trans e3).trans e4) c⟩⟩
theorem en_meth {R : List D → List D → Prop} {E : XK} {m c : Str} {fs : List (Str × D)} {tr : TA} (h : EvD K te σ H (.obj c fs)) (hl : fs.lookup m = none) (hr : EvDA K tr σ H ds) (hR : R (.obj c fs :: ds) es) :
    EvN K (tMeth (He.ga K c) m (spN K R) [] E te tr) σ H es := fun H1 e Q q =>
  h H1 e _ fun v H2 e2 a => by
    cases a with
    | obj ho af =>
      refine ⟨_, _, _, rfl, ho, AllF.none af hl, hr H2 (e.trans e2) _ fun vs H3 e3 b => ⟨_, _, .cons (.obj (e3 _ _ ho) (af.ex e3)) (by rw [List.append_nil]; exact b), hR, fun p xs H4 hp e4 h4 c => q p xs H4 (fresh_back (e2.trans e3) hp) ((e2.trans e3).trans e4) h4 c⟩⟩
end WD
end
section
set_option Elab.async false
set_option linter.all false
set_option maxRecDepth 100000
namespace WD
open PySem L2 Evl
variable {K : PySem.W.Frag} {σ : L2.St} {H H' : Hp} {ta tb te tx : TE} {t u : TT} {d d1 d2 : D} {ds es : List D} {wi : TI} {g : TG}

/-! ### what changes: the lists at L alone -/
def Mu (L : List Addr) (H H' : Hp) : Prop := (∀ a o, a ∉ L → H a = some o → H' a = some o) ∧ Gt H H'
theorem Mu.refl (L : List Addr) (H : Hp) : Mu L H H := ⟨fun _ _ _ h => h, Gt.refl H⟩
theorem Mu.trans {L : List Addr} {H H1 H2 : Hp} (a : Mu L H H1) (b : Mu L H1 H2) : Mu L H H2 := ⟨fun x o n h => b.1 x o n (a.1 x o n h), a.2.trans b.2⟩
theorem Mu.ex {L : List Addr} (e : Ex H H') : Mu L H H' := ⟨fun a o _ h => e a o h, Gt.of e⟩
theorem Mu.upd {L : List Addr} {l : Addr} {xs : List V} {o : HO} (hl : l ∈ L) (h : H l = some (.lst xs)) : Mu L H (L2.upd H l o) := ⟨fun a u n r => by
  rw [upd_ne (fun z => n (by rw [z]; exact hl))]
  exact r, Gt.lst h⟩
theorem Mu.rd {L : List Addr} {a : Addr} {u : HO} (m : Mu L H H') (h : Rd H a u) (n : a ∉ L) : Rd H' a u := by
  rcases h with h | ⟨o, h⟩
  · exact .inl (m.1 a _ n h)
  · exact .inr ⟨o, m.1 a _ n h⟩
theorem Mu.of_ex {L : List Addr} {H0 : Hp} (e : Ex H0 H) (m : Mu L H H') (n : ∀ l ∈ L, H0 l = none) : Ex H0 H' := fun a o h => m.1 a o (fun z => by
  have := n a z
  rw [this] at h
  cases h) (e a o h)
theorem rd_some {a : Addr} {u : HO} (h : Rd H a u) : ∃ o, H a = some o := by
  rcases h with h | ⟨o, h⟩
  · exact ⟨_, h⟩
  · exact ⟨_, h⟩

/-! ### what is walked -/
structure Walks (K : PySem.W.Frag) (J : It) (H2 : Hp) (L : List Addr) (Ps : Hp → Prop) (n : Nat) (item : Nat → D) : Prop where
  here : Ps H2
  stays : ∀ L' : List Addr, (∀ l ∈ L', l ∈ L ∨ H2 l = none) → ∀ H3 H4, Ps H3 → Mu L' H3 H4 → Ps H4
  go : ∀ H3, Ps H3 → ∀ i, i < n → J.go i H3 ∧ ∀ x H4, J.yld i H3 x H4 → Ex H3 H4 ∧ Is K H4 x (item i)
  stop : ∀ H3, Ps H3 → J.stop n H3
def EvI (K : PySem.W.Frag) (wi : TI) (σ : L2.St) (L : List Addr) (H : Hp) (n : Nat) (item : Nat → D) : Prop := ∀ R : It → Hp → Prop, (∀ J H2 Ps, Ex H H2 → Walks K J H2 L Ps n item → R J H2) → wi σ H R
/-- a list that is read: it is none of those that change -/
def EvS (K : PySem.W.Frag) (te : TE) (σ : L2.St) (L : List Addr) (H : Hp) (ds : List D) : Prop := ∀ H1, Ex H H1 → ∀ Q : VK, (∀ p xs H2, Ex H1 H2 → Rd H2 p (.lst xs) → p ∉ L → All K H2 xs ds → Q (.ref p) H2) → te σ H1 Q
theorem es_d {H0 : Hp} {L : List Addr} (e : Ex H0 H) (hL : ∀ l ∈ L, H0 l = none) (h : EvD K te σ H (.lst ds)) (hv : ∀ H1, Ex H H1 → ∀ Q : VK, (∀ v H2, Ex H1 H2 → Is K H0 v (.lst ds) → Q v H2) → te σ H1 Q) : EvS K te σ L H ds := fun H1 e1 Q q =>
  hv H1 e1 Q fun v H2 e2 a => by
    cases a with
    | lst r a =>
      have e3 := (e.trans e1).trans e2
      obtain ⟨o, ho⟩ := rd_some r
      exact q _ _ H2 e2 (ex_rd e3 r) (fun z => by rw [hL _ z] at ho; cases ho) (a.ex e3)
/-- a name's list, as it stood at H0 -/
theorem es_var {H0 : Hp} {L : List Addr} {i : Nat} {v : V} (h : σ[i]? = some (some v)) (a : Is K H0 v (.lst ds)) (e : Ex H0 H) (hL : ∀ l ∈ L, H0 l = none) : EvS K (tVar i) σ L H ds := fun H1 e1 Q q => ⟨v, h, by
  cases a with
  | lst r a =>
    obtain ⟨o, ho⟩ := rd_some r
    exact q _ _ H1 (Ex.refl H1) (ex_rd (e.trans e1) r) (fun z => by rw [hL _ z] at ho; cases ho) (a.ex (e.trans e1))⟩
theorem es_new {L : List Addr} (h : EvN K te σ H ds) (hL : ∀ l ∈ L, ∃ o, H l = some o) : EvS K te σ L H ds := fun H1 e1 Q q => h H1 e1 Q fun p xs H2 hp e2 h2 a => q p xs H2 e2 (.inl h2) (fun z => by
  obtain ⟨o, ho⟩ := hL p z
  rw [e1 _ _ ho] at hp
  cases hp) a
theorem es_any (h : EvD K te σ H (.lst ds)) : EvS K te σ [] H ds := fun H1 e1 Q q => h H1 e1 Q fun v H2 e2 a => by
  cases a with
  | lst r a => exact q _ _ H2 e2 r (by simp) a
theorem getD_some {ds : List D} {i : Nat} {d : D} (h : ds[i]? = some d) : ds.getD i .non = d := by rw [List.getD_eq_getElem?_getD, h]; rfl
theorem rd_one {a : Addr} {xs ys : List V} (h : Rd H a (.lst xs)) (h2 : Rd H a (.lst ys)) : xs = ys := by
  rcases h with h | ⟨o, h⟩ <;> rcases h2 with h2 | ⟨o2, h2⟩ <;> rw [h] at h2 <;> cases h2 <;> rfl
theorem ei_list {L : List Addr} (h : EvS K te σ L H ds) (hf : D.lfs ds = true) : EvI K (iList K te) σ L H ds.length (fun i => ds.getD i .non) := fun R r =>
  h H (Ex.refl H) _ fun p xs H2 e2 hp hn a => ⟨p, rfl, ⟨xs, .inl hp⟩, r (Itl K p) H2 (fun H3 => Rd H3 p (.lst xs) ∧ All K H3 xs ds) e2 ⟨⟨hp, a⟩, fun L' hL' H3 H4 q m => ⟨m.rd q.1 (fun z => by
      rcases hL' p z with z | z
      · exact hn z
      · obtain ⟨o, ho⟩ := rd_some hp
        rw [z] at ho
        cases ho), q.2.gt m.2 hf⟩, fun H3 q i hi => by
      obtain ⟨d, hd⟩ : ∃ d, ds[i]? = some d := ⟨_, List.getElem?_eq_getElem hi⟩
      obtain ⟨v, hv, hi2⟩ := q.2.get hd
      refine ⟨⟨xs, v, .inl q.1, hv⟩, fun x H4 hy => ?_⟩
      obtain ⟨h1, h2⟩ := (show H4 = H3 ∧ ∀ xs, SqL K H3 p xs → xs[i]? = some x from hy)
      subst h1
      have h3 := h2 xs (.inl q.1)
      rw [hv] at h3
      cases h3
      rw [getD_some hd]
      exact ⟨Ex.refl _, hi2⟩, fun H3 q => ⟨xs, .inl q.1, by rw [q.2.len]; exact Nat.le_refl _⟩⟩⟩
theorem ei_tup {L : List Addr} (h : EvD K te σ H (.tup ds)) (hf : D.lfs ds = true) : EvI K (iTup K te) σ L H ds.length (fun i => ds.getD i .non) := fun R r =>
  h H (Ex.refl H) _ fun v H2 e2 a => by
    cases a with
    | @tup p xs _ hp a =>
      exact ⟨p, rfl, ⟨xs, hp⟩, r (Itt K p) H2 (fun H3 => SqT K H3 p xs ∧ All K H3 xs ds) e2 ⟨⟨hp, a⟩, fun L' hL' H3 H4 q m => ⟨q.1.imp (fun h => m.2 _ _ h) id, q.2.gt m.2 hf⟩, fun H3 q i hi => by
        obtain ⟨d, hd⟩ : ∃ d, ds[i]? = some d := ⟨_, List.getElem?_eq_getElem hi⟩
        obtain ⟨v, hv, hi2⟩ := q.2.get hd
        refine ⟨⟨xs, v, q.1, hv⟩, fun x H4 hy => ?_⟩
        obtain ⟨h1, h2⟩ := (show H4 = H3 ∧ ∀ xs, SqT K H3 p xs → xs[i]? = some x from hy)
        subst h1
        have h3 := h2 xs q.1
        rw [hv] at h3
        cases h3
        rw [getD_some hd]
        exact ⟨Ex.refl _, hi2⟩, fun H3 q => ⟨xs, q.1, by rw [q.2.len]; exact Nat.le_refl _⟩⟩⟩
theorem ei_r1 {L : List Addr} {ta : TA} {n : Int} (h : EvDA K ta σ H [.int n]) (hn : -100000 ≤ n ∧ n ≤ 100000) : EvI K (iRng1 ta) σ L H n.toNat (fun i => .int (i : Int)) := fun R r =>
  h H (Ex.refl H) _ fun vs H2 e2 a => by
    cases a with
    | cons a1 a2 =>
      cases a1
      cases a2
      exact ⟨n, rfl, by omega, by omega, r (Itr 0 n.toNat) H2 (fun _ => True) e2 ⟨trivial, fun _ _ _ _ _ _ => trivial, fun H3 _ i hi => ⟨hi, fun x H4 hy => by
        obtain ⟨h1, h2⟩ := (show H4 = H3 ∧ x = .int (0 + i) from hy)
        subst h1 h2
        rw [Int.zero_add]
        exact ⟨Ex.refl _, .int _⟩⟩, fun H3 _ => Nat.le_refl _⟩⟩
theorem ei_r2 {L : List Addr} {ta : TA} {lo n : Int} (h : EvDA K ta σ H [.int lo, .int n]) (hn : -100000 ≤ lo ∧ lo ≤ 100000 ∧ -100000 ≤ n ∧ n ≤ 100000) : EvI K (iRng2 ta) σ L H (n - lo).toNat (fun i => .int (lo + i)) := fun R r =>
  h H (Ex.refl H) _ fun vs H2 e2 a => by
    cases a with
    | cons a1 a2 =>
      cases a1
      cases a2 with
      | cons a2 a3 =>
        cases a2
        cases a3
        exact ⟨lo, n, rfl, ⟨by omega, by omega, by omega, by omega⟩, r (Itr lo (n - lo).toNat) H2 (fun _ => True) e2 ⟨trivial, fun _ _ _ _ _ _ => trivial, fun H3 _ i hi => ⟨hi, fun x H4 hy => by
          obtain ⟨h1, h2⟩ := (show H4 = H3 ∧ x = .int (lo + i) from hy)
          subst h1 h2
          exact ⟨Ex.refl _, .int _⟩⟩, fun H3 _ => Nat.le_refl _⟩⟩
theorem ei_zip {L : List Addr} {tb : TE} (h : EvS K ta σ L H ds) (h' : ∀ H1, Ex H H1 → EvS K tb σ L H1 es) (hl : es.length ≤ ds.length) (hf : D.lfs ds = true) (hf' : D.lfs es = true) :
    EvI K (iZip K (tCons ta (tCons tb tNil))) σ L H es.length (fun i => .tup [ds.getD i .non, es.getD i .non]) := fun R r =>
  h H (Ex.refl H) _ fun p xs H2 e2 hp hn a => h' H2 e2 H2 (Ex.refl H2) _ fun p' xs' H3 e3 hp' hn' a' => by
    have hp3 := ex_rd e3 hp
    refine ⟨p, p', xs, xs', rfl, .inl hp3, .inl hp', r (Itz K p p') H3 (fun H4 => (Rd H4 p (.lst xs) ∧ All K H4 xs ds) ∧ Rd H4 p' (.lst xs') ∧ All K H4 xs' es) (e2.trans e3) ⟨⟨⟨hp3, a.ex e3⟩, hp', a'⟩, fun L' hL' H4 H5 q m => ⟨⟨m.rd q.1.1 (fun z => ?_), q.1.2.gt m.2 hf⟩, m.rd q.2.1 (fun z => ?_), q.2.2.gt m.2 hf'⟩, fun H4 q i hi => ?_, fun H4 q => ⟨xs, xs', .inl q.1.1, .inl q.2.1, .inr (by rw [q.2.2.len]; exact Nat.le_refl _)⟩⟩⟩
    · rcases hL' p z with z | z
      · exact hn z
      · obtain ⟨o, ho⟩ := rd_some hp3
        rw [z] at ho
        cases ho
    · rcases hL' p' z with z | z
      · exact hn' z
      · obtain ⟨o, ho⟩ := rd_some hp'
        rw [z] at ho
        cases ho
    · obtain ⟨d, hd⟩ : ∃ d, ds[i]? = some d := ⟨_, List.getElem?_eq_getElem (Nat.lt_of_lt_of_le hi hl)⟩
      obtain ⟨d', hd'⟩ : ∃ d, es[i]? = some d := ⟨_, List.getElem?_eq_getElem hi⟩
      obtain ⟨v, hv, b⟩ := q.1.2.get hd
      obtain ⟨v', hv', b'⟩ := q.2.2.get hd'
      refine ⟨⟨xs, xs', v, v', .inl q.1.1, .inl q.2.1, hv, hv'⟩, fun x H5 hy => ?_⟩
      obtain ⟨T, x1, x2, rfl, nT, rfl, f1, f2⟩ := hy
      have g1 := f1 xs (.inl q.1.1)
      have g2 := f2 xs' (.inl q.2.1)
      rw [hv] at g1
      rw [hv'] at g2
      cases g1
      cases g2
      rw [getD_some hd, getD_some hd']
      exact ⟨Ex.new nT, .tup (st_of upd_same) (.cons (b.ex (Ex.new nT)) (.cons (b'.ex (Ex.new nT)) .nil))⟩
theorem ei_enum {L : List Addr} (h : EvS K ta σ L H ds) (hf : D.lfs ds = true) :
    EvI K (iEnum K (tCons ta tNil)) σ L H ds.length (fun i => .tup [.int (i : Int), ds.getD i .non]) := fun R r =>
  h H (Ex.refl H) _ fun p xs H2 e2 hp hn a => ⟨p, xs, rfl, .inl hp, r (Ite K p) H2 (fun H4 => Rd H4 p (.lst xs) ∧ All K H4 xs ds) e2 ⟨⟨hp, a⟩, fun L' hL' H4 H5 q m => ⟨m.rd q.1 (fun z => by
      rcases hL' p z with z | z
      · exact hn z
      · obtain ⟨o, ho⟩ := rd_some hp
        rw [z] at ho
        cases ho), q.2.gt m.2 hf⟩, fun H4 q i hi => by
      obtain ⟨d, hd⟩ : ∃ d, ds[i]? = some d := ⟨_, List.getElem?_eq_getElem hi⟩
      obtain ⟨v, hv, b⟩ := q.2.get hd
      refine ⟨⟨xs, v, .inl q.1, hv⟩, fun x H5 hy => ?_⟩
      obtain ⟨T, x1, rfl, nT, rfl, f1⟩ := hy
      have g1 := f1 xs (.inl q.1)
      rw [hv] at g1
      cases g1
      rw [getD_some hd]
      exact ⟨Ex.new nT, .tup (st_of upd_same) (.cons (.int _) (.cons (b.ex (Ex.new nT)) .nil))⟩, fun H4 q => ⟨xs, .inl q.1, by rw [q.2.len]; exact Nat.le_refl _⟩⟩⟩
/-! ### loops -/
theorem s_for {L : List Addr} {n : Nat} {item : Nat → D} {D : Ends} {tw : TS} (hI : EvI K wi σ L H n item) (Pv : Nat → L2.St → Hp → Prop) (h0 : ∀ H1, Ex H H1 → Pv 0 σ H1)
    (hs : ∀ i x σ' H' H'', i < n → Pv i σ' H' → Ex H' H'' → Is K H'' x (item i) → g x σ' H'' fun σ2 H2 => tw { D with nx := fun σ3 H3 => Pv (i + 1) σ3 H3 ∧ Mu L H' H3, ct := fun σ3 H3 => Pv (i + 1) σ3 H3 ∧ Mu L H' H3, bk := D.nx } σ2 H2)
    (hd : ∀ σ' H', Pv n σ' H' → D.nx σ' H') : tFor wi g tw D σ H := hI _ fun J H2 Ps e2 w => by
  refine ⟨fun i m σ' H' => m = n - i ∧ i ≤ n ∧ Pv i σ' H' ∧ Mu L H2 H', ⟨n, by simp, Nat.zero_le _, h0 H2 e2, Mu.refl L H2⟩, ?_⟩
  rintro i m σ' H' ⟨rfl, hi, p, mu⟩
  have ps : Ps H' := w.stays L (fun l h => .inl h) H2 H' w.here mu
  by_cases hlt : i < n
  · obtain ⟨g1, g2⟩ := w.go H' ps i hlt
    refine .inr ⟨g1, fun σ3 H3 => Pv (i + 1) σ3 H3 ∧ Mu L H' H3, fun σ3 H3 q => ⟨n - (i + 1), by omega, rfl, by omega, q.1, mu.trans q.2⟩, fun x H3 hy => ?_⟩
    obtain ⟨e3, a⟩ := g2 x H3 hy
    exact hs i x σ' H' H3 hlt p e3 a
  · have e : i = n := by omega
    subst e
    exact .inl ⟨w.stop H' ps, hd σ' H' p⟩
/-! ### targets -/
theorem g_name {j : Nat} {x : V} {Q : L2.St → Hp → Prop} (k : Q (σ.set j (some x)) H) : gName j x σ H Q := k
theorem g_two {x : V} {i j : Nat} {Q : L2.St → Hp → Prop} (a : Is K H x (.tup [d1, d2])) (k : ∀ v w, Is K H v d1 → Is K H w d2 → Q ((σ.set i (some v)).set j (some w)) H) : gTup K 2 (gCons (gName i) (gCons (gName j) gNil)) x σ H Q := by
  cases a with
  | tup h a =>
    cases a with
    | cons a1 a =>
      cases a with
      | cons a2 a =>
        cases a
        exact ⟨_, _, rfl, h, rfl, _, _, rfl, _, _, rfl, rfl, k _ _ a1 a2⟩
theorem g_three {x : V} {i j l : Nat} {d3 : D} {Q : L2.St → Hp → Prop} (a : Is K H x (.tup [d1, d2, d3])) (k : ∀ v w z, Is K H v d1 → Is K H w d2 → Is K H z d3 → Q (((σ.set i (some v)).set j (some w)).set l (some z)) H) : gTup K 3 (gCons (gName i) (gCons (gName j) (gCons (gName l) gNil))) x σ H Q := by
  cases a with
  | tup h a =>
    cases a with
    | cons a1 a =>
      cases a with
      | cons a2 a =>
        cases a with
        | cons a3 a =>
          cases a
          exact ⟨_, _, rfl, h, rfl, _, _, rfl, _, _, rfl, _, _, rfl, rfl, k _ _ _ a1 a2 a3⟩
/-! ### comprehensions -/
def gives (n : Nat) (f : Nat → Bool) (v : Nat → D) : List D := ((List.range n).filter f).map v
theorem gives_yes {n : Nat} {f : Nat → Bool} {v : Nat → D} (h : f n = true) : gives (n + 1) f v = gives n f v ++ [v n] := by
  unfold gives
  rw [List.range_succ, List.filter_append, List.map_append, List.filter_cons, if_pos h] <;> rfl
theorem gives_no {n : Nat} {f : Nat → Bool} {v : Nat → D} (h : f n = false) : gives (n + 1) f v = gives n f v := by
  unfold gives
  rw [List.range_succ, List.filter_append, List.map_append, List.filter_cons, if_neg (by rw [h]; decide)]
  show _ ++ [] = _
  rw [List.append_nil]
theorem gives_len (n : Nat) (f : Nat → Bool) (v : Nat → D) : (gives n f v).length ≤ n := by
  unfold gives
  rw [List.length_map]
  have h := List.length_filter_le f (List.range n)
  rw [List.length_range] at h
  exact h
theorem gives_lf {f : Nat → Bool} {v : Nat → D} : ∀ n, (∀ i, i < n → f i = true → (v i).lf = true) → D.lfs (gives n f v) = true
  | 0, _ => rfl
  | n + 1, h => by
    have ih := gives_lf n fun i hi => h i (Nat.lt_succ_of_lt hi)
    cases hf : f n with
    | true =>
      rw [gives_yes hf]
      refine lfs_app ih ?_
      show ((v n).lf && true) = true
      rw [h n (Nat.lt_succ_self n) hf]
      rfl
    | false =>
      rw [gives_no hf]
      exact ih
theorem en_lc {n : Nat} {item : Nat → D} {vs : List Nat} (f : Nat → Bool) (v : Nat → D) (hI : ∀ H1, Ex H H1 → EvI K wi σ [] H1 n item) (hn : n ≤ 50000) (hf : ∀ i, i < n → f i = true → (v i).lf = true)
    (hs : ∀ i x H1, i < n → Ex H H1 → Is K H1 x (item i) → ∀ Q : L2.St → Hp → Prop, (∀ σ2 H2, Ex H1 H2 → wipe σ2 vs = wipe σ vs → EvT t σ2 H2 (f i) → (f i = true → EvD K te σ2 H2 (v i)) → Q σ2 H2) → g x (wipe σ vs) H1 Q) :
    EvN K (tLc wi g t te vs) σ H (gives n f v) := fun H1 e1 Q q => hI H1 e1 _ fun J H2 Ps e2 w Dl hD => by
  refine ⟨fun i m H' => m = n - i ∧ i ≤ n ∧ Mu [Dl] (L2.upd H2 Dl (.lst [])) H' ∧ ∃ acc, H' Dl = some (.lst acc) ∧ All K H' acc (gives i f v), ⟨n, by simp, Nat.zero_le _, Mu.refl _ _, [], upd_same, .nil⟩, ?_⟩
  rintro i m H' ⟨rfl, hi, mu, acc, hacc, aa⟩
  have ps0 : Ps (L2.upd H2 Dl (.lst [])) := w.stays [] (by simp) H2 _ w.here (Mu.ex (Ex.new hD))
  have ps : Ps H' := w.stays [Dl] (fun l h => .inr (by rw [List.mem_singleton.mp h]; exact hD)) _ H' ps0 mu
  have ex2 : Ex H2 H' := Mu.of_ex (Ex.new hD) mu (fun l h => by
    rw [List.mem_singleton.mp h]
    exact hD)
  by_cases hlt : i < n
  · obtain ⟨g1, g2⟩ := w.go H' ps i hlt
    refine .inr ⟨g1, fun H3 => Mu [Dl] (L2.upd H2 Dl (.lst [])) H3 ∧ ∃ acc, H3 Dl = some (.lst acc) ∧ All K H3 acc (gives (i + 1) f v), fun H3 q => ⟨n - (i + 1), by omega, rfl, by omega, q.1, q.2⟩, fun x H3 hy => ?_⟩
    obtain ⟨e3, a⟩ := g2 x H3 hy
    refine hs i x H3 hlt ((e1.trans e2).trans (ex2.trans e3)) a _ fun σ2 H4 e4 hw ht he => ⟨hw, ht H4 (Ex.refl H4) _ fun H5 e5 => ?_⟩
    have lfa : D.lfs (gives i f v) = true := gives_lf i fun j hj => hf j (by omega)
    have e35 := (e3.trans e4).trans e5
    cases hb : f i with
    | true =>
      show te σ2 H5 _
      refine he hb H5 e5 _ fun y H6 e6 ay => ⟨acc, (e35.trans e6) _ _ hacc, sz_lt (by
        rw [aa.len]
        have := gives_len i f v
        omega), (mu.trans (Mu.ex (e35.trans e6))).trans (Mu.upd (List.mem_singleton.mpr rfl) ((e35.trans e6) _ _ hacc)), _, upd_same, ?_⟩
      rw [gives_yes hb]
      have gt : Gt H6 (L2.upd H6 Dl (.lst (acc ++ [y]))) := Gt.lst ((e35.trans e6) _ _ hacc)
      exact ((aa.ex (e35.trans e6)).gt gt lfa).app (All.one (ay.gt gt (hf i hlt hb)))
    | false =>
      show _ ∧ _
      refine ⟨mu.trans (Mu.ex e35), acc, e35 _ _ hacc, ?_⟩
      rw [gives_no hb]
      exact aa.ex e35
  · have e : i = n := by omega
    subst e
    exact .inl ⟨w.stop H' ps, q Dl acc H' (fresh_back e2 hD) (e2.trans ex2) hacc aa⟩
/-- one name as the target -/
theorem en_lc1 {n j : Nat} {item : Nat → D} {vs : List Nat} (f : Nat → Bool) (v : Nat → D) (hI : ∀ H1, Ex H H1 → EvI K wi σ [] H1 n item) (hn : n ≤ 50000) (hf : ∀ i, i < n → f i = true → (v i).lf = true) (hw : ∀ x, wipe ((wipe σ vs).set j (some x)) vs = wipe σ vs)
    (ht : ∀ i x H1, i < n → Ex H H1 → Is K H1 x (item i) → EvT t ((wipe σ vs).set j (some x)) H1 (f i)) (he : ∀ i x H1, i < n → Ex H H1 → Is K H1 x (item i) → f i = true → EvD K te ((wipe σ vs).set j (some x)) H1 (v i)) :
    EvN K (tLc wi (gName j) t te vs) σ H (gives n f v) := en_lc f v hI hn hf fun i x H1 hi e a Q q => q _ H1 (Ex.refl H1) (hw x) (ht i x H1 hi e a) (he i x H1 hi e a)
theorem en_lc2 {n i1 j : Nat} {c1 c2 : Nat → D} {vs : List Nat} (f : Nat → Bool) (v : Nat → D) (hI : ∀ H1, Ex H H1 → EvI K wi σ [] H1 n (fun i => .tup [c1 i, c2 i])) (hn : n ≤ 50000) (hf : ∀ i, i < n → f i = true → (v i).lf = true) (hw : ∀ x y, wipe (((wipe σ vs).set i1 (some x)).set j (some y)) vs = wipe σ vs)
    (ht : ∀ i x y H1, i < n → Ex H H1 → Is K H1 x (c1 i) → Is K H1 y (c2 i) → EvT t (((wipe σ vs).set i1 (some x)).set j (some y)) H1 (f i)) (he : ∀ i x y H1, i < n → Ex H H1 → Is K H1 x (c1 i) → Is K H1 y (c2 i) → f i = true → EvD K te (((wipe σ vs).set i1 (some x)).set j (some y)) H1 (v i)) :
    EvN K (tLc wi (gTup K 2 (gCons (gName i1) (gCons (gName j) gNil))) t te vs) σ H (gives n f v) := en_lc f v hI hn hf fun i x H1 hi e a Q q => g_two a fun y z a1 a2 => q _ H1 (Ex.refl H1) (hw y z) (ht i y z H1 hi e a1 a2) (he i y z H1 hi e a1 a2)
theorem gives_all (n : Nat) (v : Nat → D) : gives n (fun _ => true) v = (List.range n).map v := by
  unfold gives
  rw [List.filter_eq_self.mpr (by simp)]
theorem et_yes : EvT tYes σ H true := fun H1 _ _ q => q H1 (Ex.refl H1)
/-! ### statements -/
section
variable {D : Ends} {tu tz tw : TS}
theorem q_asgD {i : Nat} (h : EvD K te σ H d) (k : ∀ v H1, Ex H H1 → Is K H1 v d → tz D (σ.set i (some v)) H1) : tSeq (tAsg te (gName i)) tz D σ H := h H (Ex.refl H) _ k
theorem s_asgD {i : Nat} (h : EvD K te σ H d) (k : ∀ v H1, Ex H H1 → Is K H1 v d → D.nx (σ.set i (some v)) H1) : tAsg te (gName i) D σ H := h H (Ex.refl H) _ k
theorem q_asgN {i : Nat} (h : EvN K te σ H ds) (k : ∀ p xs H1, H p = none → Ex H H1 → H1 p = some (.lst xs) → All K H1 xs ds → tz D (σ.set i (some (.ref p))) H1) : tSeq (tAsg te (gName i)) tz D σ H := h H (Ex.refl H) _ k
theorem s_retD (h : EvD K te σ H d) (k : ∀ v H1, Ex H H1 → Is K H1 v d → D.rt v H1) : tRet te D σ H := h H (Ex.refl H) _ k
theorem s_retN (h : EvN K te σ H ds) (k : ∀ p xs H1, H p = none → Ex H H1 → H1 p = some (.lst xs) → All K H1 xs ds → D.rt (.ref p) H1) : tRet te D σ H := h H (Ex.refl H) _ k
theorem q_tupD {i j : Nat} (h : EvD K te σ H (.tup [d1, d2])) (k : ∀ v w H1, Ex H H1 → Is K H1 v d1 → Is K H1 w d2 → tz D ((σ.set i (some v)).set j (some w)) H1) : tSeq (tAsg te (gTup K 2 (gCons (gName i) (gCons (gName j) gNil)))) tz D σ H :=
  h H (Ex.refl H) _ fun v H1 e a => g_two a fun x y a1 a2 => k x y H1 e a1 a2
theorem q_tup3D {i j l : Nat} {d3 : WD.D} (h : EvD K te σ H (.tup [d1, d2, d3])) (k : ∀ v w z H1, Ex H H1 → Is K H1 v d1 → Is K H1 w d2 → Is K H1 z d3 → tz D (((σ.set i (some v)).set j (some w)).set l (some z)) H1) : tSeq (tAsg te (gTup K 3 (gCons (gName i) (gCons (gName j) (gCons (gName l) gNil))))) tz D σ H :=
  h H (Ex.refl H) _ fun v H1 e a => g_three a fun x y z a1 a2 a3 => k x y z H1 e a1 a2 a3
theorem q_parD {i j : Nat} (ha : EvD K ta σ H d1) (hb : EvD K tb σ H d2) (k : ∀ v w H1, Ex H H1 → Is K H1 v d1 → Is K H1 w d2 → tz D ((σ.set i (some v)).set j (some w)) H1) : tSeq (tPar i j (tCons ta (tCons tb tNil))) tz D σ H :=
  ha H (Ex.refl H) _ fun v H1 e a => hb H1 e _ fun w H2 e2 b => ⟨v, w, rfl, k v w H2 (e.trans e2) (a.ex e2) b⟩
theorem s_parD {i j : Nat} (ha : EvD K ta σ H d1) (hb : EvD K tb σ H d2) (k : ∀ v w H1, Ex H H1 → Is K H1 v d1 → Is K H1 w d2 → D.nx ((σ.set i (some v)).set j (some w)) H1) : tPar i j (tCons ta (tCons tb tNil)) D σ H :=
  ha H (Ex.refl H) _ fun v H1 e a => hb H1 e _ fun w H2 e2 b => ⟨v, w, rfl, k v w H2 (e.trans e2) (a.ex e2) b⟩
theorem q_appD {l : Addr} {xs : List V} (hl : H l = some (.lst xs)) (ha : Ev ta σ H (.ref l)) (h : EvD K te σ H d) (hz : xs.length < 100000) (k : ∀ v H1, Ex H H1 → Is K H1 v d → tz D σ (upd H1 l (.lst (xs ++ [v])))) :
    tSeq (tDrop (tBM K "list" rAppend ta (tCons te tNil))) tz D σ H := ha H (Ex.refl H) _ fun H1 e1 => ⟨Or.inl ⟨rfl, xs, sq_of (e1 l _ hl)⟩, h H1 e1 _ fun v H2 e2 a => ⟨l, xs, v, rfl, rfl, e2 l _ (e1 l _ hl), sz_lt hz, k v H2 (e1.trans e2) a⟩⟩
theorem s_appD {l : Addr} {xs : List V} (hl : H l = some (.lst xs)) (ha : Ev ta σ H (.ref l)) (h : EvD K te σ H d) (hz : xs.length < 100000) (k : ∀ v H1, Ex H H1 → Is K H1 v d → D.nx σ (upd H1 l (.lst (xs ++ [v])))) :
    tDrop (tBM K "list" rAppend ta (tCons te tNil)) D σ H := ha H (Ex.refl H) _ fun H1 e1 => ⟨Or.inl ⟨rfl, xs, sq_of (e1 l _ hl)⟩, h H1 e1 _ fun v H2 e2 a => ⟨l, xs, v, rfl, rfl, e2 l _ (e1 l _ hl), sz_lt hz, k v H2 (e1.trans e2) a⟩⟩
theorem s_setD {l : Addr} {xs : List V} {i : Int} {j : Nat} (hl : H l = some (.lst xs)) (h : EvD K te σ H d) (ho : Ev ta σ H (.ref l)) (hi : EvD K tb σ H (.int i)) (hj : ixN xs.length i = some j) (k : ∀ v H1, Ex H H1 → Is K H1 v d → D.nx σ (upd H1 l (.lst (xs.set j v)))) :
    tAsg te (gSub ta tb rSetL) D σ H := h H (Ex.refl H) _ fun v H1 e1 a => ho H1 e1 _ fun H2 e2 => hi H2 (e1.trans e2) _ fun w H3 e3 b => by
  cases b
  exact ⟨l, xs, i, j, rfl, rfl, ((e1.trans e2).trans e3) l _ hl, hj, k v H3 ((e1.trans e2).trans e3) (a.ex (e2.trans e3))⟩
theorem q_setD {l : Addr} {xs : List V} {i : Int} {j : Nat} (hl : H l = some (.lst xs)) (h : EvD K te σ H d) (ho : Ev ta σ H (.ref l)) (hi : EvD K tb σ H (.int i)) (hj : ixN xs.length i = some j) (k : ∀ v H1, Ex H H1 → Is K H1 v d → tz D σ (upd H1 l (.lst (xs.set j v)))) :
    tSeq (tAsg te (gSub ta tb rSetL)) tz D σ H := s_setD (D := { D with nx := tz D }) hl h ho hi hj k
theorem q_for {L : List Addr} {n : Nat} {item : Nat → WD.D} (hI : EvI K wi σ L H n item) (Pv : Nat → L2.St → Hp → Prop) (h0 : ∀ H1, Ex H H1 → Pv 0 σ H1)
    (hs : ∀ i x σ' H' H'', i < n → Pv i σ' H' → Ex H' H'' → Is K H'' x (item i) → g x σ' H'' fun σ2 H2 => tw { D with nx := fun σ3 H3 => Pv (i + 1) σ3 H3 ∧ Mu L H' H3, ct := fun σ3 H3 => Pv (i + 1) σ3 H3 ∧ Mu L H' H3, bk := tz D } σ2 H2)
    (hd : ∀ σ' H', Pv n σ' H' → tz D σ' H') : tSeq (tFor wi g tw) tz D σ H := s_for (D := { D with nx := tz D }) hI Pv h0 hs hd
end
end WD
end
section
set_option Elab.async false
set_option linter.all false
set_option maxRecDepth 100000
namespace L2
open PySem PySem.Spec PyProof.Rows
section
variable {X : Cx} {n : Nat}
/-- a def of one's own called by the machine (a special method) -/
theorem own_call {CX : CXT} {f : Addr} {fd : FuncData} {ps : List Str} {sp : Sp} {E : XK} {A : Around} (sb : Sub X n A) (F : FnOk X.prog X.w X.K X.mg X.base CX n f fd ps sp) (hb : Binds X.K fd ps []) (hx : Passes CX X E)
    {pins : List (Addr × Obj)} {s : Shared} {σ : St} {H : Hp} {vs : List V} {us : List Value} {Q : VK} (I : Inv X pins σ H s) (rv : Vals vs us) (hsp : sp vs H Q E) :
    wpAny (model X.prog X.w) A (call (.ref f) us) (EP X pins σ Q) X.xe s := by
  have e0 : Env0 X.prog X.w X.K X.mg X.base A X.stack s H := by
    have e := I.env0
    exact ⟨by rw [sb.fr]; exact e.frames, e.mod, e.bs, e.bsz, e.funs, e.frf, e.hok, e.bare⟩
  have hl := F.len _ _ _ _ hsp
  have hlu : us.length = ps.length := by rw [← rv.length]; exact hl
  refine wpAny_call (codeAny_mono (F.run A X.stack s H ⟨us, []⟩ us vs _ E sb.room e0 (by
    have := hb s us I.kIn (by simpa using hlu)
    simpa using this) rv hsp) fun r s' hq => ?_)
  cases r with
  | error e => exact hx pins σ H s e s' I hq
  | ok fl =>
    cases fl with
    | ret w => exact I.after hq
    | next => exact False.elim hq
    | brk => exact False.elim hq
    | cont => exact False.elim hq
/-- len(o), o an instance with a __len__ of the text -/
def rLenO (C : Addr) (sp : Sp) (E : XK) : List V → Hp → VK → Prop := fun xs H Q => ∃ a dx fs, xs = [.ref a] ∧ H a = some (.ins C dx fs) ∧ sp [.ref a] H (fun v H' => ∃ i : Int, v = .int i ∧ (0 ≤ i ∧ i < 2 ^ 63) ∧ Q (.int i) H') E
theorem call_lenO {CX : CXT} {C f : Addr} {fd : FuncData} {ps : List Str} {sp : Sp} {E : XK} (F : FnOk X.prog X.w X.K X.mg X.base CX n f fd ps sp) (hs : PySem.W.findIn X.K (.ref C) "__len__" = some (some (.ref f))) (hf : PySem.W.isFn X.K (.ref f) = true)
    (hb : Binds X.K fd ps []) (hx : Passes CX X E) (hr : Room (n + 1) X.A) : CallR X (.builtin "len") (rLenO C sp E) := by
  intro pins s σ H xs us Q I r h
  obtain ⟨a, dx, fs, rfl, ha, hsp⟩ := h
  obtain ⟨u, rfl, ru⟩ := vals1 r
  cases ru
  obtain ⟨mA, J, _⟩ := ins_get I.hok ha
  obtain ⟨od, J, _⟩ := J.look
  obtain ⟨m, hF⟩ := I.fr
  refine PySem.W.len_K hF I.ok.mod.kin J hs hf ?_
  refine wpAny_mono (own_call (A := X.A.in1) (Sub.in1 ⟨hr, rfl⟩) F hb hx I (.cons (show RelV (.ref a) (.ref a) from rfl) .nil) hsp) (fun v s' z => ?_) fun _ _ x => x
  obtain ⟨w, H', I', rw', i, rfl, hi, q⟩ := z
  obtain ⟨t, rfl⟩ := rw'
  exact ⟨hi, .int i, H', I'.tok _, ⟨_, rfl⟩, q⟩
/-- x in o, o an instance with a __contains__ of the text that gives True or False -/
def rInO (C : Addr) (sp : Sp) (E : XK) (neg : Bool) : R2 := fun x y H Q => ∃ a dx fs, y = .ref a ∧ H a = some (.ins C dx fs) ∧ sp [.ref a, x] H (fun v H' => ∃ b : Bool, v = .bl b ∧ Q (.bl (if neg then !b else b)) H') E
theorem op_inO {CX : CXT} {C f : Addr} {fd : FuncData} {ps : List Str} {sp : Sp} {E : XK} (F : FnOk X.prog X.w X.K X.mg X.base CX n f fd ps sp) (hs : PySem.W.findIn X.K (.ref C) "__contains__" = some (some (.ref f))) (hf : PySem.W.isFn X.K (.ref f) = true)
    (hb : Binds X.K fd ps []) (hx : Passes CX X E) (hr : Room n X.A) : OpR X (compareOp .In) (rInO C sp E false) := by
  intro pins s σ H x y v u Q I rx ry h
  obtain ⟨a, dx, fs, rfl, ha, hsp⟩ := h
  cases ry
  obtain ⟨mA, J, _⟩ := ins_get I.hok ha
  obtain ⟨od, J, _⟩ := J.look
  obtain ⟨m, hF⟩ := I.fr
  refine PySem.W.in_K hF I.ok.mod.kin J hs hf ?_
  refine wpAny_mono (own_call (A := X.A) ⟨hr, rfl⟩ F hb hx I (.cons (show RelV (.ref a) (.ref a) from rfl) (.cons rx .nil)) hsp) (fun v s' z => ?_) fun _ _ x => x
  obtain ⟨w, H', I', rw', b, rfl, q⟩ := z
  cases rw'
  exact wpAny_truthy_bool ⟨.bl b, H', I', rfl, q⟩
theorem op_notInO {CX : CXT} {C f : Addr} {fd : FuncData} {ps : List Str} {sp : Sp} {E : XK} (F : FnOk X.prog X.w X.K X.mg X.base CX n f fd ps sp) (hs : PySem.W.findIn X.K (.ref C) "__contains__" = some (some (.ref f))) (hf : PySem.W.isFn X.K (.ref f) = true)
    (hb : Binds X.K fd ps []) (hx : Passes CX X E) (hr : Room n X.A) : OpR X (compareOp .NotIn) (rInO C sp E true) := by
  intro pins s σ H x y v u Q I rx ry h
  obtain ⟨a, dx, fs, rfl, ha, hsp⟩ := h
  cases ry
  obtain ⟨mA, J, _⟩ := ins_get I.hok ha
  obtain ⟨od, J, _⟩ := J.look
  obtain ⟨m, hF⟩ := I.fr
  refine PySem.W.notIn_K hF I.ok.mod.kin J hs hf ?_
  refine wpAny_mono (own_call (A := X.A) ⟨hr, rfl⟩ F hb hx I (.cons (show RelV (.ref a) (.ref a) from rfl) (.cons rx .nil)) hsp) (fun v s' z => ?_) fun _ _ x => x
  obtain ⟨w, H', I', rw', b, rfl, q⟩ := z
  cases rw'
  exact wpAny_truthy_bool ⟨.bl (!b), H', I', rfl, q⟩
/-- the truth of an instance with a __bool__ of the text -/
def tTruO (C : Addr) (sp : Sp) (E : XK) (ta : TE) : TT := fun σ H Q => ta σ H fun x H1 => ∃ a dx fs, x = .ref a ∧ H1 a = some (.ins C dx fs) ∧ sp [.ref a] H1 (fun v H' => ∃ b : Bool, v = .bl b ∧ Q b H') E
theorem pt_truO {CX : CXT} {C f : Addr} {fd : FuncData} {ps : List Str} {sp : Sp} {E : XK} {e : Expr} {ta : TE} (F : FnOk X.prog X.w X.K X.mg X.base CX n f fd ps sp) (hs : PySem.W.findIn X.K (.ref C) "__bool__" = some (some (.ref f))) (hf : PySem.W.isFn X.K (.ref f) = true)
    (hb : Binds X.K fd ps []) (hx : Passes CX X E) (hr : Room n X.A) (ha : PE X e ta) (he : ∀ whole, isTrue e X.env whole = (do let v ← whole; standAt e.pos; holding [v] (truthy v))) : PT X e (tTruO C sp E ta) := by
  refine ⟨fun pins s σ H Q I h => ?_⟩
  refine isTrue_plain (thn (ha.run pins s σ H _ I h) fun v s1 ⟨x, H1, I1, r1, q1⟩ => ?_) (he _)
  obtain ⟨a, dx, fs, rfl, hi, hsp⟩ := q1
  cases r1
  obtain ⟨mA, J, _⟩ := ins_get I1.hok hi
  obtain ⟨od, J, _⟩ := J.look
  obtain ⟨m, hF⟩ := I1.fr
  refine PySem.W.truthy_K hF I1.ok.mod.kin J hs hf ?_
  refine wpAny_mono (own_call (A := X.A) ⟨hr, rfl⟩ F hb hx I1 (.cons (show RelV (.ref a) (.ref a) from rfl) .nil) hsp) (fun v s' z => ?_) fun _ _ x => x
  obtain ⟨w, H', I', rw', b, rfl, q⟩ := z
  cases rw'
  exact ⟨H', I', q⟩
/-- x == y, x an instance with an __eq__ of the text that gives True or False, y of a class that is told -/
def rEqO (K : PySem.W.Frag) (C : Addr) (sp : Sp) (E : XK) : R2 := fun x y H Q => ∃ a b dx dy fs gs, x = .ref a ∧ y = .ref b ∧ H a = some (.ins C dx fs) ∧ H b = some (.ins C dy gs) ∧ sp [.ref a, .ref b] H (fun v H' => ∃ k : Bool, v = .bl k ∧ Q (.bl k) H') E
theorem op_eqO {CX : CXT} {C f : Addr} {fd : FuncData} {ps : List Str} {sp : Sp} {E : XK} (F : FnOk X.prog X.w X.K X.mg X.base CX n f fd ps sp) (hs : PySem.W.findIn X.K (.ref C) "__eq__" = some (some (.ref f))) (hf : PySem.W.isFn X.K (.ref f) = true)
    (hb : Binds X.K fd ps []) (hx : Passes CX X E) (hr : Room n X.A) : OpR X (compareOp .Eq) (rEqO X.K C sp E) := by
  intro pins s σ H x y v u Q I rx ry h
  obtain ⟨a, b, dx, dy, fs, gs, rfl, rfl, ha, hb', hsp⟩ := h
  cases rx
  cases ry
  obtain ⟨mA, J, _⟩ := ins_get I.hok ha
  obtain ⟨mB, J', _⟩ := ins_get I.hok hb'
  obtain ⟨od, J, _⟩ := J.look
  obtain ⟨od', J', _⟩ := J'.look
  obtain ⟨m, hF⟩ := I.fr
  show wpAny (model X.prog X.w) X.A (richCompare .Eq _ _) (EP X pins σ Q) X.xe s
  refine PySem.W.cmp_K (op := .Eq) (tb := .ref C) hr.units0 hF I.ok.mod.kin J J'.type (by simp [PySem.W.notFirst]) hs hf ?_
  refine wpAny_mono (own_call (A := X.A) ⟨hr, rfl⟩ F hb hx I (.cons (show RelV (.ref a) (.ref a) from rfl) (.cons (show RelV (.ref b) (.ref b) from rfl) .nil)) hsp) (fun v s' z => ?_) fun _ _ x => x
  obtain ⟨w, H', I', rw', b, rfl, q⟩ := z
  cases rw'
  exact ⟨.bl b, H', I', rfl, q⟩
/-- xs[i], read for xs[i] op= e -/
theorem get_list : PGet X (rIxL X.K) := by
  intro pins s σ H o i ov iv Q I ro ri h
  obtain ⟨p, xs, k, z, rfl, rfl, hq, he, q⟩ := h
  cases ro
  obtain ⟨t, rfl⟩ := ri
  obtain ⟨its, r, pl, hz⟩ := I.list hq
  obtain ⟨j, h1, h2, h3, h4, h5⟩ := atI_get he
  obtain ⟨w, ew, rw'⟩ := r.get h2
  have hl := r.length
  have hn := line63
  have fin : EP X pins σ Q w s := ⟨z, H, I, rw', q⟩
  by_cases h0 : 0 ≤ k
  · have hj : k.toNat = j := by
      rw [seqIndex_of h0 h5] at h1
      exact Option.some.inj h1
    exact wpAny_getItem_list pl.isList h0 (by omega) (by rw [hj]; simpa using ew) fin
  · have hj : (k + (its.toArray.size : Int)).toNat = j := by
      rw [seqIndex_neg (by omega) h4] at h1
      rw [List.size_toArray, ← hl]
      exact Option.some.inj h1
    exact wpAny_getItem_list_neg pl.isList (by omega) (by rw [List.size_toArray] <;> omega) (by omega) (by rw [hj]; simpa using ew) fin
end
end L2
end
section
set_option Elab.async false
set_option linter.all false
set_option maxRecDepth 100000
namespace PySem.W
open PySem PySem.Calls PyProof.Rows Builtin
section
variable {prog : Program} {w : World} {A : Around} {E : Value → Shared → Prop} {s : Shared} {K : Frag} {x C L f : Addr} {h₀ : Heap} {m : Str → Option Value} {ox : Obj} {od : Option Obj} {name : Str} {b tb : Value}
theorem my_ifBound {M : Model} {id : String} {args : List Value} {Q : Option Value → Shared → Prop} (X : K.In s.heap) (I : InstAt s.heap x ox C od) (hs : findIn K (.ref C) name = some (some (.builtin id))) (hb : ∀ self, bindSpecial (.builtin id) self = pure (.builtin id, [self]))
    (h : wpAny M A (call (.builtin id) (.ref x :: args)) (fun v => Q (some v)) E s) : wpAny M A (callSpecialIfBound? (.ref x) name args) Q E s := by
  simp only [callSpecialIfBound?, bindSpecialIfBound?]
  refine wpAny_holding (wpAny_bind (wpAny_bind (wpAny_bind (I.type.here ((looks_findIn X hs).here ?_)))))
  refine wpAny_bind (wpAny_askSetting (wpAny_ite ?_))
  have fin : wpAny M A (call (.builtin id) ([.ref x] ++ args) >>= fun v => pure (some v)) Q E s := wpAny_bind (wpAny_mono h (fun v s' h' => wpAny_pure h') fun _ _ h' => h')
  split
  · exact wpAny_bind ((Looks.of_pure (hb _)).here (wpAny_pure (by exact fin)))
  · exact wpAny_tryCatch (wpAny_bind ((Looks.of_pure (hb _)).here (wpAny_pure (by exact fin))))
theorem my_ne {Q : Value → Shared → Prop} (hu : A.units + 1 < cLine) (F : Fr h₀ L s.heap m) (X₀ : K.In h₀) (I : InstAt s.heap x ox C od) (hb : Looks (model prog w) s.heap (typeOf b) (.ref C))
    (hn : findIn K (.ref C) "__ne__" = some (some (.builtin "object.__ne__"))) (hm : mroIn K C (.type "object") = some true) (hs : findIn K (.ref C) "__eq__" = some (some (.ref f))) (hf : isFn K (.ref f) = true)
    (h : wpAny (model prog w) A.in1 (call (.ref f) [.ref x, b]) (fun v s' => ∃ k, v = .bool k ∧ Q (.bool (!k)) s') E s) : wpAny (model prog w) A (compareOp .NotEq (.ref x) b) Q E s := by
  have X := X₀.keeps F.keep
  have one : wpAny (model prog w) A (tryCompare (.ref x) "__ne__" b) (fun r s' => ∃ v, r = some v ∧ Q v s') E s := by
    unfold tryCompare
    refine wpAny_bind (my_ifBound X I hn PySem.F.slot_tuple_iterator_ne.bind (wpAny_call (codeAny_call_builtin PySem.F.slot_tuple_iterator_ne.plain PySem.F.cmpEntry_ne (check_slot (i := "object.__ne__") (owner := "object") (n := "__ne__") PySem.F.cmpKind_ne PySem.F.cmpSplit_ne (I.type.andThen (looks_mroIn X hm)) (PySem.F.cmpArgs_ne _ _) ?_))))
    unfold Builtin.«object.__ne__»
    refine wpAny_bind (m := slotArgs "__ne__" 1 _) (wpAny_pure ?_)
    refine wpAny_bind (m := cRoomFor _ _) (wpAny_cRoomFor (A := A.in1) hu ?_)
    refine wpAny_bind (m := callSpecialIfBound? (.ref x) (Str.ofString "__eq__") _) (ifBound_K X I hs hf (wpAny_mono h (fun r s' hq => ?_) fun _ _ y => y))
    obtain ⟨k, rfl, q⟩ := hq
    refine wpAny_bind (wpAny_truthy_bool (wpAny_pure ?_))
    exact wpAny_pure ⟨_, rfl, q⟩
  show wpAny (model prog w) A (richCompare .NotEq (.ref x) b) Q E s
  unfold richCompare
  simp only [oneThing_ref]
  refine wpAny_holding (wpAny_bind (wpAny_cRoomFor (by omega) ?_))
  refine wpAny_bind (I.type.here (wpAny_bind (hb.here ?_)))
  rw [show (Value.ref C != Value.ref C) = false from by simp]
  simp only [Bool.false_eq_true, if_false]
  refine wpAny_bind (wpAny_pure ?_)
  simp only [Bool.false_eq_true, if_false]
  refine wpAny_bind (wpAny_mono one (fun r s' z => ?_) fun _ _ e => e)
  obtain ⟨v, rfl, hq⟩ := z
  exact wpAny_pure hq
end
end PySem.W
namespace L2
open PySem PySem.Spec PyProof.Rows
section
variable {X : Cx} {n : Nat}
/-- x != y by an __eq__ of the text -/
def rNeO (K : PySem.W.Frag) (C : Addr) (sp : Sp) (E : XK) : R2 := fun x y H Q => ∃ a b dx dy fs gs, x = .ref a ∧ y = .ref b ∧ H a = some (.ins C dx fs) ∧ H b = some (.ins C dy gs) ∧ sp [.ref a, .ref b] H (fun v H' => ∃ k : Bool, v = .bl k ∧ Q (.bl (!k)) H') E
theorem op_neO {CX : CXT} {C f : Addr} {fd : FuncData} {ps : List Str} {sp : Sp} {E : XK} (F : FnOk X.prog X.w X.K X.mg X.base CX n f fd ps sp) (hs : PySem.W.findIn X.K (.ref C) "__eq__" = some (some (.ref f))) (hf : PySem.W.isFn X.K (.ref f) = true)
    (hn : PySem.W.findIn X.K (.ref C) "__ne__" = some (some (.builtin "object.__ne__"))) (hm : PySem.W.mroIn X.K C (.type "object") = some true)
    (hb : Binds X.K fd ps []) (hx : Passes CX X E) (hr : Room (n + 1) X.A) : OpR X (compareOp .NotEq) (rNeO X.K C sp E) := by
  intro pins s σ H x y v u Q I rx ry h
  obtain ⟨a, b, dx, dy, fs, gs, rfl, rfl, ha, hb', hsp⟩ := h
  cases rx
  cases ry
  obtain ⟨mA, J, _⟩ := ins_get I.hok ha
  obtain ⟨mB, J', _⟩ := ins_get I.hok hb'
  obtain ⟨od, J, _⟩ := J.look
  obtain ⟨od', J', _⟩ := J'.look
  obtain ⟨m, hF⟩ := I.fr
  have hu : X.A.units + 1 < cLine := by
    have := hr.units
    omega
  refine PySem.W.my_ne hu hF I.ok.mod.kin J J'.type hn hm hs hf ?_
  refine wpAny_mono (own_call (A := X.A.in1) (Sub.in1 ⟨hr, rfl⟩) F hb hx I (.cons (show RelV (.ref a) (.ref a) from rfl) (.cons (show RelV (.ref b) (.ref b) from rfl) .nil)) hsp) (fun v s' z => ?_) fun _ _ x => x
  obtain ⟨w, H', I', rw', k, rfl, q⟩ := z
  cases rw'
  exact ⟨k, rfl, .bl (!k), H', I', rfl, q⟩
end
end L2
end
section
set_option Elab.async false
set_option linter.all false
set_option maxRecDepth 100000
namespace WD
open PySem PySem.Spec PyProof.Rows L2 Evl
/-! ### a def of the text by its promise -/
structure FnG (P : Program) (w : World) (K : PySem.W.Frag) (mg : Str → Option Value) (base : Heap) (k : Nat) (f : Addr) (ps : List Str) (sp : Sp) : Prop where
  ex : ∃ fd, FnOk P w K mg base (L2.CX P w) k f fd ps sp ∧ Binds K fd ps []
  kp : PySem.W.keepIn K (.ref f) = true
section
variable {X : Cx} {k : Nat} {f : Addr} {ps : List Str} {sp : Sp} {x : Str} {p pos apos : Pos} {e o : Expr} {es : List Expr} {t : TA} {ta : TE} {C : Addr} {m : Str}
theorem pe_callG (F : FnG X.prog X.w X.K X.mg X.base k f ps sp) (hr : Room k X.A) (hg : Gl X x) (hm : X.mg x = some (.ref f)) (ha : PA X (e :: es) t)
    (hdb : (x == ("__debug__" : Str)) = false := by decide) (hst : starEach (e :: es) X.env = (false, eval e X.env) :: starEach es X.env := by rfl) (hpl : (backTo pos (starEach es X.env)).any (·.1) = false := by rfl) :
    PE X (.Call (.Name x p) (e :: es) [] pos) (tCall sp [] E0 t) := by
  obtain ⟨⟨fd, F, B⟩, kp⟩ := F
  exact pe_call F hr hg hm kp B .nil passL ha (hdb := hdb) (he := hst) (hpl := hpl)
theorem pe_callG0 (F : FnG X.prog X.w X.K X.mg X.base k f ps sp) (hr : Room k X.A) (hg : Gl X x) (hm : X.mg x = some (.ref f)) (hdb : (x == ("__debug__" : Str)) = false := by decide) : PE X (.Call (.Name x p) [] [] pos) (tCall sp [] E0 tNil) := by
  obtain ⟨⟨fd, F, B⟩, kp⟩ := F
  exact pe_call0 F hr hg hm kp B .nil passL (hdb := hdb)
theorem pe_methG {pl : Sem Bool} (he : PE X o ta) (c : Cls X.K C) (hm : Meth X.K C m f) (F : FnG X.prog X.w X.K X.mg X.base k f ps sp) (hr : Room k X.A) (ha : PA X (e :: es) t)
    (hst : starEach (e :: es) X.env = (false, eval e X.env) :: starEach es X.env := by rfl) (hpl : (backTo pos (starEach es X.env)).any (·.1) = false := by rfl)
    (ht : eval (.Call (.Attribute o m apos) (e :: es) [] pos) X.env = (do
      let ov ← eval o X.env
      standAt apos.atName
      let (f, first) ← holding [ov] (getMethod ov m pl)
      callWith pos f first (backTo pos (starEach (e :: es) X.env)) (backToKw pos (keywordEach [] X.env))) := by rfl) :
    PE X (.Call (.Attribute o m apos) (e :: es) [] pos) (tMeth C m sp [] E0 ta t) := by
  obtain ⟨⟨fd, F, B⟩, kp⟩ := F
  exact pe_meth he c hm F hr B .nil passL ha hst hpl ht
theorem pe_methG0 {pl : Sem Bool} (he : PE X o ta) (c : Cls X.K C) (hm : Meth X.K C m f) (F : FnG X.prog X.w X.K X.mg X.base k f ps sp) (hr : Room k X.A)
    (ht : eval (.Call (.Attribute o m apos) [] [] pos) X.env = (do
      let ov ← eval o X.env
      standAt apos.atName
      let (f, first) ← holding [ov] (getMethod ov m pl)
      callWith pos f first (backTo pos (starEach [] X.env)) (backToKw pos (keywordEach [] X.env))) := by rfl) :
    PE X (.Call (.Attribute o m apos) [] [] pos) (tMeth C m sp [] E0 ta tNil) := by
  obtain ⟨⟨fd, F, B⟩, kp⟩ := F
  exact pe_meth0 he c hm F hr B .nil passL ht
theorem pe_makeG (M : Mk X.K C f) (F : FnG X.prog X.w X.K X.mg X.base k f ps sp) (hr : Room (k + 1) X.A) (hg : Gl X x) (hm : X.mg x = some (.ref C)) (ha : PA X (e :: es) t)
    (hdb : (x == ("__debug__" : Str)) = false := by decide) (hst : starEach (e :: es) X.env = (false, eval e X.env) :: starEach es X.env := by rfl) (hpl : (backTo pos (starEach es X.env)).any (·.1) = false := by rfl) :
    PE X (.Call (.Name x p) (e :: es) [] pos) (tMake C sp [] E0 t) := by
  obtain ⟨⟨fd, F, B⟩, kp⟩ := F
  exact pe_make M F hr hg hm B .nil passL ha (hdb := hdb) (he := hst) (hpl := hpl)
theorem pe_globI {i : Int} (hg : Gl X x) (hm : ∃ t, X.mg x = some (.int i t)) (hd : (x == ("__debug__" : Str)) = false := by decide) : PE X (.Name x pos) (tC (.int i)) := by
  obtain ⟨t, hm⟩ := hm
  exact pe_glob hg hm ⟨_, rfl⟩ hd
theorem pe_tyN {n : String} (hg : Gl X x) (hm : X.mg x = none) (hv : bootBuiltins x = some (.type n)) (hn : x ≠ "__name__" := by decide) (hd : (x == ("__debug__" : Str)) = false := by decide) : PE X (.Name x pos) (tC (.ty n)) := pe_bltn hg hm hv rfl hn hd
theorem pe_clsN (hg : Gl X x) (hm : X.mg x = some (.ref C)) (hd : (x == ("__debug__" : Str)) = false := by decide) : PE X (.Name x pos) (tC (.ref C)) := pe_glob hg hm rfl hd
end
section
variable {P : Program} {w : World} {K : PySem.W.Frag} {mg : Str → Option Value} {base : Heap}
/-- a def of no defaults, its body's reading -/
theorem fnG {x qual : Str} {st : Stmt} {f : Addr} {N ps : List Str} {k : Nat} {sp : Sp} (F : ∃ fd, FunD K x qual (defArgs st) (defBody st) (defScope st) [] [] f fd) (S : FnScope N ps (defScope st)) (len : ∀ vs H Q E, sp vs H Q E → vs.length = ps.length)
    (hb : ∀ (kV doc pm : Value) (an : Option Addr) (cdv ct : Value) (us : List Value), us.length = ps.length → bindArgs (PySem.W.fnOf x qual (defArgs st) (defBody st) (defScope st) .none kV doc pm an cdv ct) ⟨us, []⟩ = pure (ps.zip us))
    (hbody : ∀ (cdv : Value) (A : Around) (outer : List Env) (s : Shared) (H : Hp) (vs : List V) (Q : VK) (E : XK), Room k (A.deeper (envOfC qual (defScope st) s.heap.objs.size f cdv)) → sp vs H Q E →
      ∃ t, PSs (cxOf (L2.CX P w) P w K mg base N qual (defScope st) f cdv A outer s H E).nox (defBody st) t ∧ t { nx := fun _ H' => Q .non H', rt := Q } (start N vs) H) : FnG P w K mg base (k + 1) f ps sp := by
  obtain ⟨fd, F⟩ := F
  exact ⟨⟨fd, F.ok S len (fun cdv A outer s H vs Q E hr h => let ⟨t, h1, h2⟩ := hbody cdv A outer s H vs Q E hr h; ⟨t, h1.nox, h2⟩), F.bindsN hb⟩, F.kp⟩
end
/-! ### types -/
def D.ty : D → Option String
  | .non => some "NoneType" | .bl _ => some "bool" | .int _ => some "int" | .str _ => some "str" | .tup _ => some "tuple" | .lst _ => some "list" | .obj _ _ => none
variable {K : PySem.W.Frag} {σ : L2.St} {H H' : Hp} {ta tb te tx : TE} {t u : TT} {d d1 d2 : D} {ds es : List D}
theorem sqT_ty {a : Addr} {xs : List V} (h : SqT K H a xs) : TyX K H (.ref a) (.type "tuple") := by
  rcases h with (h | ⟨o, h⟩) | h
  · exact .base (.tup h)
  · exact .fTuple h
  · obtain ⟨o, its, n, h1, h2, h3, _⟩ := h
    exact .kTuple h1 h2
theorem rdL_ty {a : Addr} {xs : List V} (h : Rd H a (.lst xs)) : TyX K H (.ref a) (.type "list") := by
  rcases h with h | ⟨o, h⟩
  · exact .base (.lst h)
  · exact .base (.frz h)
end WD
end
section
set_option Elab.async false
set_option linter.all false
set_option maxRecDepth 100000
namespace WD
/-! ### fractions as pairs without a common divisor -/
def fr (q : Rat) : D := .tup [.int q.num, .int (q.den : Int)]
theorem fr_lf (q : Rat) : (fr q).lf = true := rfl
theorem mkRat_pair {n : Int} {d : Nat} (hd : d ≠ 0) : (n / ((Nat.gcd n.natAbs d : Nat) : Int) = (mkRat n d).num) ∧ ((d : Int) / ((Nat.gcd n.natAbs d : Nat) : Int) = ((mkRat n d).den : Int)) := by
  rw [Rat.mkRat_def, dif_neg hd, Rat.num_normalize, Rat.den_normalize]
  exact ⟨rfl, (Int.natCast_ediv _ _).symm⟩
theorem add_pair (a b : Rat) : let g := Nat.gcd a.den b.den
    let top := a.num * ((b.den : Int) / (g : Int)) + b.num * ((a.den : Int) / (g : Int))
    let r := Nat.gcd top.natAbs g
    top / (r : Int) = (a + b).num ∧ (a.den : Int) / (g : Int) * ((b.den : Int) / (r : Int)) = ((a + b).den : Int) := by
  intro g top r
  have hg : g ≠ 0 := Nat.ne_of_gt (Nat.gcd_pos_of_pos_left _ a.den_pos)
  have e : a + b = Rat.add a b := rfl
  have e1 : top = a.num * ((b.den / g : Nat) : Int) + b.num * ((a.den / g : Nat) : Int) := by
    show a.num * ((b.den : Int) / (g : Int)) + b.num * ((a.den : Int) / (g : Int)) = _
    rw [Int.natCast_ediv, Int.natCast_ediv]
  rw [e]
  unfold Rat.add
  by_cases h1 : g = 1
  · have r1 : r = 1 := by
      show Nat.gcd top.natAbs g = 1
      rw [h1]
      exact Nat.gcd_one_right _
    have h1' : a.den.gcd b.den = 1 := h1
    rw [dif_pos h1']
    refine ⟨?_, ?_⟩
    · rw [r1, e1, h1]
      simp
    · rw [r1, h1]
      simp
  · have h1' : ¬ a.den.gcd b.den = 1 := h1
    rw [dif_neg h1']
    simp only [Rat.maybeNormalize_eq, Int.divExact_eq_ediv]
    have hr : r ∣ b.den := Nat.dvd_trans (Nat.gcd_dvd_right _ _) (Nat.gcd_dvd_right _ _)
    have er : r = (a.num * ((b.den / g : Nat) : Int) + b.num * ((a.den / g : Nat) : Int)).natAbs.gcd g := by rw [← e1]
    refine ⟨?_, ?_⟩
    · rw [e1]
      show _ / (r : Int) = _ / ((Nat.gcd _ g : Nat) : Int)
      rw [← er]
    · show _ = ((a.den / g * b.den / (Nat.gcd _ g) : Nat) : Int)
      rw [← er, Nat.mul_div_assoc _ hr]
      rw [Int.natCast_mul, Int.natCast_ediv, Int.natCast_ediv]
theorem mul_pair (a b : Rat) : let l := Nat.gcd a.num.natAbs b.den
    let r := Nat.gcd b.num.natAbs a.den
    a.num / (l : Int) * (b.num / (r : Int)) = (a * b).num ∧ (a.den : Int) / (r : Int) * ((b.den : Int) / (l : Int)) = ((a * b).den : Int) := by
  intro l r
  have e : a * b = Rat.mul a b := rfl
  rw [e]
  unfold Rat.mul
  simp only [Int.divExact_eq_ediv, Nat.divExact_eq_div]
  refine ⟨rfl, ?_⟩
  rw [Int.natCast_mul, Int.natCast_ediv, Int.natCast_ediv]
theorem mul_mk (a b : Rat) : mkRat (a.num * b.num) (a.den * b.den) = a * b := (Rat.mul_def' a b).symm
theorem add_mk (a b : Rat) : mkRat (a.num * b.den + b.num * a.den) (a.den * b.den) = a + b := (Rat.add_def' a b).symm
/-! ### sizes -/
/-- short enough for products and divisors -/
structure Sm (n : Nat) (q : Rat) : Prop where
  num : q.num.natAbs < 2 ^ n
  den : q.den < 2 ^ n
theorem Sm.mono {n m : Nat} {q : Rat} (h : Sm n q) (hn : n ≤ m) : Sm m q := ⟨Nat.lt_of_lt_of_le h.num (Nat.pow_le_pow_right (by decide) hn), Nat.lt_of_lt_of_le h.den (Nat.pow_le_pow_right (by decide) hn)⟩
theorem natAbs_div_le (i : Int) (n : Nat) : (i / (n : Int)).natAbs ≤ i.natAbs + 1 := by
  rcases Nat.eq_zero_or_pos n with h | h
  · subst h
    simp
  · have h1 : (0 : Int) < n := by omega
    have h2 := Int.emod_add_mul_ediv i n
    have h3 := Int.emod_nonneg i (by omega : (n : Int) ≠ 0)
    have h4 := Int.emod_lt_of_pos i h1
    rcases Int.le_total 0 i with p | p
    · have q1 : 0 ≤ i / (n : Int) := Int.ediv_nonneg p (by omega)
      have q2 : i / (n : Int) ≤ i := Int.ediv_le_self _ p
      omega
    · have q1 : i / (n : Int) ≤ 0 := Int.ediv_nonpos_of_nonpos_of_neg p (by omega)
      have q2 : i - (n : Int) < (n : Int) * (i / (n : Int)) := by omega
      have q3 : i - 1 ≤ i / (n : Int) := by
        rcases Int.lt_or_le (i / (n : Int)) (i - 1) with z | z
        · exfalso
          have : (n : Int) * (i / (n : Int)) ≤ (n : Int) * (i - 2) := Int.mul_le_mul_of_nonneg_left (by omega) (by omega)
          have e : (n : Int) * (i - 2) = (n : Int) * (i - 1) - n := by
            rw [Int.mul_sub, Int.mul_sub]
            omega
          have : (n : Int) * (i - 1) ≤ 1 * (i - 1) := Int.mul_le_mul_of_nonpos_right (by omega) (by omega)
          omega
        · exact z
      omega
end WD
end
section
set_option Elab.async false
set_option linter.all false
set_option maxRecDepth 100000
namespace WD
open PySem PySem.Spec PyProof.Rows L2 Evl
variable {K : PySem.W.Frag} {σ : L2.St} {H H' : Hp} {ta tb te tx : TE} {t u : TT} {d d1 d2 : D} {ds es : List D}
theorem Is.ty {v : V} {s : String} (h : Is K H v d) (e : d.ty = some s) : TyX K H v (.type s) := by
  cases h with
  | non => cases e; exact .base .non
  | bl b => cases e; exact .base (.bl b)
  | int i => cases e; exact .base (.int i)
  | str x => cases e; exact .base (.str x)
  | tup h a => cases e; exact sqT_ty h
  | lst h a => cases e; exact rdL_ty h
  | obj h a => cases e
theorem ed_isi {n s : String} {b : Bool} (h : EvD K te σ H d) (ht : d.ty = some s) (hk : kitB s n = some b) : EvD K (tCB (rIsi K) (tCons te (tCons (tC (.ty n)) tNil))) σ H (.bl b) := fun H1 e Q q =>
  h H1 e _ fun v H2 e2 a => ⟨v, _, _, _, b, rfl, .ty n, a.ty ht, kit_ty hk, q _ H2 e2 (.bl b)⟩
/-- of an instance of the text's class C, by the class itself | a built-in class -/
structure OwnTy (K : PySem.W.Frag) (c : Str) : Prop where
  cl : Cls K (He.ga K c)
  ha : PySem.W.findIn K (.ref (He.ga K c)) "__class__" = some (some (.builtin "object.__class__"))
  hn : PySem.W.specialIn K (.builtin "object.__class__") "__get__" = some (some (.builtin "getset_descriptor.__get__"))
  ht : PySem.W.takesIn K (.builtin "object.__class__") = some true
  hm : PySem.W.mroIn K (He.ga K c) (.type "object") = some true
theorem ed_isiO {c : Str} {fs : List (Str × D)} {b : Bool} (h : EvD K te σ H (.obj c fs)) (o : OwnTy K c) {C : Addr} (hk : PySem.W.kitOne K (.ref (He.ga K c)) (.ref C) = some b) : EvD K (tCB (rIsi K) (tCons te (tCons (tC (.ref C)) tNil))) σ H (.bl b) := fun H1 e Q q =>
  h H1 e _ fun v H2 e2 a => by
    cases a with
    | obj ho af => exact ⟨_, _, _, _, b, rfl, .own C, .base (.ins ho o.cl o.ha o.hn o.ht o.hm), hk, q _ H2 e2 (.bl b)⟩
/-- isinstance(x, (list, tuple)) -/
theorem ed_isiT {n1 n2 s : String} {b1 b2 : Bool} (h : EvD K te σ H d) (ht : d.ty = some s) (hk1 : kitB s n1 = some b1) (hk2 : kitB s n2 = some b2) :
    EvD K (tCB (rIsiT K) (tCons te (tCons (tTup (tCons (tC (.ty n1)) (tCons (tC (.ty n2)) tNil))) tNil))) σ H (.bl (b1 || b2)) := fun H1 e Q q =>
  h H1 e _ fun v H2 e2 a => by
    refine ⟨by show 2 ≤ sizeLine; decide, fun p hp => ⟨v, p, _, _, _, (b1 || b2), rfl, upd_same, .cons (.ty n1) (.cons (.ty n2) .nil), (a.ex (Ex.new hp)).ty ht, ?_, q _ _ (e2.trans (Ex.new hp)) (.bl _)⟩⟩
    refine kitAny_cons (b := b1) (kit_ty hk1) (fun z => ?_) (fun z => by rw [z]; rfl)
    subst z
    rw [Bool.false_or]
    exact kitAny_cons (b := b2) (kit_ty hk2) (fun z => by rw [z]; exact kitAny_nil) (fun z => z)
def D.isInt : D → Bool
  | .int _ => true
  | _ => false
/-! ### a while loop over two ints -/
theorem natAbs_nn {i : Int} (h : 0 ≤ i) : ((i.natAbs : Nat) : Int) = i := by omega
end WD
namespace WD
open PySem PySem.Spec PyProof.Rows L2 Evl
section
variable {X : Cx}
theorem call_lenS : CallR X (.builtin "len") (rLenS X.K) := call_len_seq
theorem call_listS : CallR X (.type "list") (rListS X.K) := call_list_of
theorem call_tupS : CallR X (.type "tuple") (rTupS X.K) := call_tuple_of
theorem call_absS : CallR X (.builtin "abs") rAbs := call_abs
theorem call_intS : CallR X (.type "int") rInt1 := call_int1
theorem call_maxS (hc : X.calm = true) : CallR X (.builtin "max") rMax2 := call_max2 hc
theorem call_minS (hc : X.calm = true) : CallR X (.builtin "min") rMin2 := call_min2 hc
end
end WD
end
section
set_option Elab.async false
set_option linter.all false
set_option maxRecDepth 100000
set_option maxHeartbeats 4000000
/-! set(xs) of a list of ints: the type is called; its __init__ is answered as a code of its own. -/
namespace L2
open PySem PySem.Spec PyProof.Rows
section
variable {P : Program} {w : World} {A : Around} {E : Value → Shared → Prop} {s : Shared}
/-- what the making hands on: an object of the type, and its __init__'s code -/
def Hands (P : Program) (w : World) (A : Around) (E : Value → Shared → Prop) (T ini : String) (us : List Value) (Q : Value → Shared → Prop) (o : Value) (t : Shared) : Prop :=
  t.TypeIs o T ∧ codeAny (model P w) A (.call (.builtin ini) ⟨o :: us, []⟩) (wants (fun z t' => z = .none ∧ Q o t') E) t
theorem type_hands {T nw ini : String} {us : List Value} {Q : Value → Shared → Prop} (f : TypeCalled T nw ini) (ck : checkTypeCall T ⟨us, []⟩ = pure ()) (go : codeAny (model P w) A.in1 (.call (.builtin nw) ⟨.type T :: us, []⟩) (wants (Hands P w A.in1 E T ini us Q) E) s) :
    wpAny (model P w) A (call (.type T) us) Q E s := by
  rcases f with ⟨n1, n2, ⟨mc, mt, mo⟩, md, n3, sb, il⟩
  apply wpAny_call; apply codeAny_of_tree
  show wpAny _ _ (callAny (.type T) ⟨us, []⟩) _ _ _
  apply wpAny_pure; refine ⟨Code.quiet_builtin _ (by decide +kernel), ?_⟩
  apply codeAny_builtin F.entry_type_call; rw [Around.under_plain (weight_type_call_type T us []) rfl]
  repeat (any_goals (first | assumption | wp_step))
  apply codeAny_mono go; intro r t hr
  rcases r with e | fl
  · exact hr
  cases fl with
  | next => exact False.elim hr
  | brk => exact False.elim hr
  | cont => exact False.elim hr
  | ret v =>
    obtain ⟨ty, nx⟩ := hr
    have lk := il.lookup; have bd := il.bind v
    repeat (any_goals (first | assumption | wp_step))
    apply codeAny_mono nx; intro r2 t2 hr2
    rcases r2 with e2 | fl2
    · exact hr2
    cases fl2 with
    | next => exact False.elim hr2
    | brk => exact False.elim hr2
    | cont => exact False.elim hr2
    | ret z =>
      rcases hr2 with ⟨rfl, fin⟩
      repeat (any_goals (first | assumption | wp_step))
/-- the new set's object -/
abbrev newS (w : World) : Obj := { cls := .type "set", dict := none, data := .set #[] 0 (.fresh 0 0 (!w.params.followText "set-order")) }
/-- set(xs) for a list of ints -/
theorem call_set_listR {l : Addr} {us : Array Value} (ns : List Int) {Q : Value → Shared → Prop} (hh : A.handled = none) (hl : s.heap.IsList l us) (hit : IntsAre us.toList ns) (hb : ns.length + 1 < scanBound)
    (h : ∀ (h' : Heap) (tk c : Nat), SetR w h' s.heap.objs.size (fun j => decide (j ∈ ns)) c → c ≤ ns.length → (∀ b o, s.heap.get? b = some o → h'.get? b = some o) → Q (.ref s.heap.objs.size) { s with heap := h', toks := tk }) :
    wpAny (model P w) A (call (.type "set") [.ref l]) Q E s := by
  have big : us.size = ns.length := by rw [← Array.length_toList]; exact IntsAre.length hit
  refine type_hands F.called_set (F.typeCall_set_1 (.ref l)) (code_set_led1 (.ref l) ?_)
  have here : Shared.TypeIs { s with heap := s.heap.push (newS w) } (.ref s.heap.objs.size) "set" := ⟨_, Heap.get?_push_size _ rfl, rfl⟩
  refine ⟨here, codeAny_call_builtin F.called_set.init.plain F.entry_set_init (check_set_init_1 here ?_)⟩
  rcases hl with ⟨⟨k1, k2, k3, k4⟩, got, rfl, nn, rfl⟩
  have old : l < s.heap.objs.size := Heap.lt_size got
  have gotS : (s.heap.push (newS w)).get? s.heap.objs.size = some (newS w) := Heap.get?_push_size _ rfl
  have got2 : (s.heap.push (newS w)).get? l = some { cls := .type "list", dict := k2, data := .seq us nn, slots := k4 } := Heap.get?_push_of_some _ got
  have isl : (s.heap.push (newS w)).IsList l us := ⟨_, got2, rfl, nn, rfl⟩
  have f1 := F.sub_list_set; have f2 := F.sub_list_frozenset
  have f3 : (Value.type "list" == Value.type "dict") = false := by decide
  unfold Builtin.«set.__init__» noKeywords Builtin.Frozenset.updateFrom
  generalize hpi : pyIter = PI
  wp_walk
  subst hpi
  apply wpAny_pyIter_list isl; apply wpAny_bind; apply wpAny_runValue
  have sz : (s.heap.push (newS w)).objs.size = s.heap.objs.size + 1 := Heap.size_push ..
  have nit : l ≠ (s.heap.push (newS w)).objs.size := by rw [sz]; exact Nat.ne_of_lt (Nat.lt_succ_of_lt old)
  have nfp : s.heap.objs.size ∉ [(s.heap.push (newS w)).objs.size, l] := by
    rw [sz]; intro z
    rcases List.mem_cons.mp z with z | z
    · exact Nat.ne_of_lt (Nat.lt_succ_self _) z
    · exact Nat.ne_of_gt old (List.mem_singleton.mp z)
  have val : ∀ (i : Nat) (v : Value), us[i]? = some v → ∃ k t, ns[i]? = some k ∧ v = .int k t := by
    intro i v hv
    have iu : i < us.size := (Array.getElem?_eq_some_iff.mp hv).1
    obtain ⟨t, et⟩ := IntsAre.int_at hit i v (by rw [Array.getElem?_toList]; exact hv)
    have ii : i < ns.length := by omega
    exact ⟨ns[i], t, List.getElem?_eq_getElem ii, by rw [et]; congr 1; rw [List.getD_eq_getElem?_getD, List.getElem?_eq_getElem ii]; rfl⟩
  have hh3 : A.in1.in1.in1.handled = none := by simp [hh]
  have it0 : ((s.heap.push (newS w)).push { cls := .type "list_iterator", data := .fields #[.ref l, .int 0 0] }).get? s.heap.objs.size = some (newS w) := Heap.get?_push_of_some _ gotS
  apply set_update_ints (Walks.list hh3 (s.heap.push (newS w)).objs.size l nit us).toS s.heap.objs.size nfp ns big hb val (us.size - 0) 0 _ (by omega) (Nat.zero_le _) ⟨⟨_, Heap.get?_push_size _ rfl, rfl, rfl⟩, isl.push _⟩ ⟨0, Nat.le_refl 0, setR_new_at it0⟩
  intro t c mv hc hS
  rcases t with ⟨h', g2, d2, tk, o2⟩
  have q1 : g2 = s.gens := mv.gens
  have q2 : d2 = s.drawn := mv.drawn
  have q3 : o2 = s.os := mv.os
  subst q1 q2 q3
  show wpAny _ _ _ _ _ _
  apply wpAny_pure
  show wpAny _ _ (ret Value.none) _ _ _
  refine wpAny_pure ⟨rfl, h h' tk c hS (by omega) fun b o e => ?_⟩
  have bl : b < s.heap.objs.size := Heap.lt_size e
  refine mv.heap b o (fun z => ?_) (Heap.get?_push_of_some _ (Heap.get?_push_of_some _ e))
  rcases List.mem_cons.mp z with z | z
  · exact Nat.ne_of_lt bl z
  · have y := List.mem_singleton.mp z
    have y2 : b = s.heap.objs.size + 1 := y.trans sz
    rw [y2] at bl; exact absurd bl (Nat.not_lt.mpr (Nat.le_succ _))
end
end L2
end
section
set_option Elab.async false
set_option linter.all false
set_option maxRecDepth 100000
set_option maxHeartbeats 4000000
namespace L2
open PySem PySem.Spec PyProof.Rows
section
variable {X : Cx}
/-- sorted(set(xs)), xs a list or a tuple of fewer than 64 ints -/
def tSortSet (K : PySem.W.Frag) (ta : TE) : TE := fun σ H Q => ta σ H fun x H1 => ∃ (l : Addr) (ns : List Int), x = .ref l ∧ (SqL K H1 l (ns.map V.int) ∨ SqT K H1 l (ns.map V.int)) ∧ ns.length < 64 ∧
  ∀ (ms : List Int) (p : Addr), ms.Pairwise (· < ·) → (∀ k : Int, k ∈ ms ↔ k ∈ ns) → H1 p = none → Q (.ref p) (upd H1 p (.lst (ms.map V.int)))
theorem pe_sortSet {a : Expr} {ta : TE} {p p2 q pos : Pos} (hg : Gl X "sorted") (hm : X.mg "sorted" = none) (hg2 : Gl X "set") (hm2 : X.mg "set" = none) (ha : PE X a ta) (hc : X.calm = true := by rfl)
    (hv : bootBuiltins "sorted" = some (.builtin "sorted") := by decide +kernel) (na : starEach [a] X.env = (false, eval a X.env) :: starEach [] X.env := by rfl) : PE X (.Call (.Name "sorted" p) [.Call (.Name "set" p2) [a] [] q] [] pos) (tSortSet X.K ta) := by
  refine ⟨fun pins s σ H Q I h => ?_⟩
  refine Call_ (ld_blt I hg hm hv ?_)
  refine PyProof.Rows.callWith_builtin1 (PyProof.Rows.args_cons ?_ rfl) rfl rfl
  refine Call_ (ld_blt I hg2 hm2 boot_set (PyProof.Rows.callWith_type1 (PyProof.Rows.args_cons (thn (ha.run pins s σ H _ I h) fun v s1 ⟨x, H1, I1, r1, q1⟩ => PyProof.Rows.args_nil ?_) na) na rfl))
  obtain ⟨l, ns, rfl, hq, hl, q1⟩ := q1
  cases r1
  have fin : ∀ (s2 : Shared) (b : Addr) (c : Nat), Inv X pins σ H1 s2 → SetR X.w s2.heap b (fun j => decide (j ∈ ns)) c → c ≤ ns.length →
      wpAny (model X.prog X.w) X.A (call (.builtin "sorted") [.ref b]) (EP X pins σ Q) X.xe s2 := by
    intro s2 b c J R hcn
    refine sorted_set R (J.ok.hd hc) (Nat.lt_of_le_of_lt hcn hl) fun s' u out c2 ms k g o hp hgt hi hsm hmem hlen => ?_
    have z : (ms.map V.int).length ≤ sizeLine := by
      rw [List.length_map, hlen, sizeLine_eq]
      omega
    have free : H1 u = none := J.hok.fresh hp
    have J2 : Inv X pins σ (upd H1 u (.lst (ms.map V.int))) { s2 with heap := s'.heap, gens := s'.gens, drawn := s'.drawn, toks := s'.toks } :=
      J.call (ch := []) (Un.laid k hp free) (J.hok.laid k hp ⟨z, out.toList, c2, vals_of_ints hi, hgt⟩) (by rw [g]; exact J.bare) (fun _ z => nomatch z)
    have e : s' = { s2 with heap := s'.heap, gens := s'.gens, drawn := s'.drawn, toks := s'.toks } := by
      cases s'
      cases s2
      cases o
      rfl
    rw [e]
    refine ⟨.ref u, _, J2, rfl, q1 ms u hsm (fun k => ?_) free⟩
    rw [hmem k]
    exact decide_eq_true_iff
  rcases hq with hq | hq
  · obtain ⟨its, r, pl, hz⟩ := I1.list hq
    exact call_set_listR ns (I1.ok.hd hc) pl.isList (by simpa using RZ.intsAre_vals r) (by unfold scanBound; omega) fun h' tk c R hcn keep => PyProof.Rows.args_nil (fin _ _ c (I1.kept keep) R hcn)
  · obtain ⟨its, r, pl, hz⟩ := I1.tuple hq
    exact call_set_tupI ns (I1.ok.hd hc) pl (by simpa using RZ.intsAre_vals r) (by unfold scanBound; omega) fun h' tk c R hcn keep => PyProof.Rows.args_nil (fin _ _ c (I1.kept keep) R hcn)
end
end L2
end
section
set_option Elab.async false
set_option linter.all false
set_option maxRecDepth 100000
namespace WD
open PySem PySem.Spec PyProof.Rows L2 Evl
/-! ### ascending, each once -/
def insU (x : Int) : List Int → List Int
  | [] => [x]
  | y :: ys => if x < y then x :: y :: ys else if x = y then y :: ys else y :: insU x ys
def asc (ns : List Int) : List Int := ns.foldr insU []
theorem mem_insU {x k : Int} : ∀ {ys : List Int}, k ∈ insU x ys ↔ k = x ∨ k ∈ ys
  | [] => by simp [insU]
  | y :: ys => by
    have ih := mem_insU (x := x) (k := k) (ys := ys)
    unfold insU
    split
    · simp
    · split
      · rename_i h
        subst h
        simp
      · rw [List.mem_cons, ih, List.mem_cons]
        constructor
        · rintro (h | h | h)
          · exact .inr (.inl h)
          · exact .inl h
          · exact .inr (.inr h)
        · rintro (h | h | h)
          · exact .inr (.inl h)
          · exact .inl h
          · exact .inr (.inr h)
theorem asc_insU {x : Int} : ∀ {ys : List Int}, ys.Pairwise (· < ·) → (insU x ys).Pairwise (· < ·)
  | [], _ => by simp [insU]
  | y :: ys, h => by
    obtain ⟨h1, h2⟩ := List.pairwise_cons.mp h
    unfold insU
    split
    · rename_i hx
      exact List.pairwise_cons.mpr ⟨fun z hz => by
        rcases List.mem_cons.mp hz with e | e
        · rw [e]; exact hx
        · exact Int.lt_trans hx (h1 z e), h⟩
    · split
      · exact h
      · exact List.pairwise_cons.mpr ⟨fun z hz => by
          rcases mem_insU.mp hz with e | e
          · omega
          · exact h1 z e, asc_insU h2⟩
theorem asc_pw : ∀ ns : List Int, (asc ns).Pairwise (· < ·)
  | [] => .nil
  | x :: xs => asc_insU (asc_pw xs)
theorem mem_asc {k : Int} : ∀ {ns : List Int}, k ∈ asc ns ↔ k ∈ ns
  | [] => Iff.rfl
  | x :: xs => by
    show k ∈ insU x (asc xs) ↔ _
    rw [mem_insU, mem_asc, List.mem_cons]
theorem pw_unique : ∀ {xs ys : List Int}, xs.Pairwise (· < ·) → ys.Pairwise (· < ·) → (∀ k, k ∈ xs ↔ k ∈ ys) → xs = ys
  | [], [], _, _, _ => rfl
  | [], y :: ys, _, _, h => by have := (h y).mpr List.mem_cons_self; cases this
  | x :: xs, [], _, _, h => by have := (h x).mp List.mem_cons_self; cases this
  | x :: xs, y :: ys, h1, h2, h => by
    obtain ⟨a1, a2⟩ := List.pairwise_cons.mp h1
    obtain ⟨b1, b2⟩ := List.pairwise_cons.mp h2
    have e : x = y := by
      rcases List.mem_cons.mp ((h x).mp List.mem_cons_self) with e | e
      · exact e
      · rcases List.mem_cons.mp ((h y).mpr List.mem_cons_self) with e' | e'
        · exact e'.symm
        · have := a1 y e'
          have := b1 x e
          omega
    subst e
    rw [pw_unique a2 b2 fun k => ?_]
    constructor
    · intro hk
      rcases List.mem_cons.mp ((h k).mp (List.mem_cons_of_mem _ hk)) with e | e
      · have := a1 k hk; omega
      · exact e
    · intro hk
      rcases List.mem_cons.mp ((h k).mpr (List.mem_cons_of_mem _ hk)) with e | e
      · have := b1 k hk; omega
      · exact e
theorem asc_id {ns : List Int} (h : ns.Pairwise (· < ·)) : asc ns = ns := pw_unique (asc_pw ns) h fun _ => mem_asc
def iL (ns : List Int) : List D := ns.map .int
variable {K : PySem.W.Frag} {σ : L2.St} {H H' : Hp} {ta tb te tx tc : TE} {t u : TT} {d d1 d2 d3 : D} {ds es : List D}
theorem allIL : ∀ {ns : List Int} {vs : List V}, All K H vs (iL ns) → vs = ns.map V.int
  | [], _, h => by cases h; rfl
  | n :: ns, _, h => by
    cases h with
    | cons a1 a =>
      cases a1
      rw [allIL a] <;> rfl
theorem iLall : ∀ {ns : List Int}, All K H (ns.map V.int) (iL ns)
  | [] => .nil
  | n :: ns => .cons (.int n) iLall
theorem iLlf (ns : List Int) : D.lfs (iL ns) = true := lfs_map _ (fun _ => rfl) ns
theorem iLlen (ns : List Int) : (iL ns).length = ns.length := List.length_map ..
theorem en_sortSet {ns : List Int} (h : EvD K te σ H (.lst (iL ns)) ∨ EvD K te σ H (.tup (iL ns))) (hl : ns.length < 64) : EvN K (tSortSet K te) σ H (iL (asc ns)) := fun H1 e Q q => by
  have fin : ∀ (l : Addr) (H2 : Hp), Ex H1 H2 → (SqL K H2 l (ns.map V.int) ∨ SqT K H2 l (ns.map V.int)) → ∃ (l' : Addr) (ns' : List Int), V.ref l = .ref l' ∧ (SqL K H2 l' (ns'.map V.int) ∨ SqT K H2 l' (ns'.map V.int)) ∧ ns'.length < 64 ∧
      ∀ (ms : List Int) (p : Addr), ms.Pairwise (· < ·) → (∀ k : Int, k ∈ ms ↔ k ∈ ns') → H2 p = none → Q (.ref p) (upd H2 p (.lst (ms.map V.int))) := fun l H2 e2 hq => ⟨l, ns, rfl, hq, hl, fun ms p hs hm hp => by
    have z : ms = asc ns := pw_unique hs (asc_pw ns) fun k => (hm k).trans mem_asc.symm
    subst z
    exact q p _ _ (fresh_back e2 hp) (e2.trans (Ex.new hp)) upd_same iLall⟩
  rcases h with h | h
  · exact h H1 e _ fun v H2 e2 a => by
      cases a with
      | lst r a =>
        rw [allIL a] at r
        exact fin _ H2 e2 (.inl (.inl r))
  · exact h H1 e _ fun v H2 e2 a => by
      cases a with
      | tup r a =>
        rw [allIL a] at r
        exact fin _ H2 e2 (.inr r)
/-! ### chains -/
theorem ed_chain {r r' : R2} {a b : Bool} (ha : EvD K ta σ H d1) (hb : EvD K tb σ H d2) (hr : RD K r d1 d2 H (.bl a)) (hc : a = true → EvD K tc σ H d3) (hr' : a = true → RD K r' d2 d3 H (.bl b)) : EvD K (tChain r r' ta tb tc) σ H (.bl (a && b)) := fun H1 e Q q =>
  ha H1 e _ fun v1 H2 e2 a1 => hb H2 (e.trans e2) _ fun v2 H3 e3 a2 => hr v1 v2 H3 ((e.trans e2).trans e3) (a1.ex e3) a2 _ fun z H4 e4 az => by
    cases az
    refine ⟨a, rfl, ?_⟩
    cases a with
    | true =>
      exact hc rfl H4 (((e.trans e2).trans e3).trans e4) _ fun v3 H5 e5 a3 => hr' rfl v2 v3 H5 ((((e.trans e2).trans e3).trans e4).trans e5) (a2.ex (e4.trans e5)) a3 Q fun v H6 e6 av => q v H6 ((((e2.trans e3).trans e4).trans e5).trans e6) av
    | false => exact q _ H4 ((e2.trans e3).trans e4) (.bl false)
theorem rd_lt {i j : Int} : RD K (rI0 fun i j => .bl (decide (i < j))) (.int i) (.int j) H (.bl (decide (i < j))) := rd_B0 (g := fun i j => decide (i < j))
theorem rd_le {i j : Int} : RD K (rI0 fun i j => .bl (decide (i ≤ j))) (.int i) (.int j) H (.bl (decide (i ≤ j))) := rd_B0 (g := fun i j => decide (i ≤ j))
end WD
end
section
set_option Elab.async false
set_option linter.all false
set_option maxRecDepth 100000
namespace WD
open PySem PySem.Spec PyProof.Rows L2 Evl
variable {K : PySem.W.Frag} {σ : L2.St} {H H' : Hp} {ta tb te tx tc : TE} {t u : TT} {d d1 d2 d3 : D} {ds es : List D}
/-! ### an instance is made -/
/-- what __init__ promises: the new instance at x gets its fields, nothing else that was there is touched -/
def spI (K : PySem.W.Frag) (c : Str) (R : List D → List (Str × D) → Prop) : Sp := fun vs H Q _ => ∃ x dx us ds fs H0, vs = .ref x :: us ∧ H x = some (.ins (He.ga K c) dx []) ∧ H0 x = none ∧ Ex H0 H ∧ All K H0 us ds ∧ R ds fs ∧
  ∀ H' fvs, (∀ a o, a ≠ x → H a = some o → H' a = some o) → H' x = some (.ins (He.ga K c) dx fvs) → AllF K H' fvs fs → Q .non H'
theorem ed_make {c : Str} {R : List D → List (Str × D) → Prop} {E : XK} {tr : TA} {fs : List (Str × D)} (h : EvDA K tr σ H ds) (hR : R ds fs) : EvD K (tMake (He.ga K c) (spI K c R) [] E tr) σ H (.obj c fs) := fun H1 e Q q =>
  h H1 e _ fun vs H2 e2 a x dx hx hdx ne => by
    have e3 : Ex H2 (upd (upd H2 dx (.own x)) x (.ins (He.ga K c) dx [])) := (Ex.new hdx).trans (Ex.new (by
      rw [upd_ne ne.symm]
      exact hx))
    refine ⟨x, dx, vs, ds, fs, H2, by rw [List.append_nil], upd_same, hx, e3, a, hR, fun H' fvs keep hx' af => ⟨rfl, q _ H' ?_ (.obj hx' af)⟩⟩
    exact e2.trans fun b o hb => keep b o (ne_of_none hb hx) (e3 b o hb)
/-- but for the object at x, all stays -/
def Xe (x : Addr) (H H' : Hp) : Prop := ∀ a o, a ≠ x → H a = some o → H' a = some o
theorem Xe.refl (x : Addr) (H : Hp) : Xe x H H := fun _ _ _ h => h
theorem Xe.trans {x : Addr} {H1 H2 : Hp} (a : Xe x H H1) (b : Xe x H1 H2) : Xe x H H2 := fun c o n h => b c o n (a c o n h)
theorem Xe.ex {x : Addr} (e : Ex H H') : Xe x H H' := fun a o _ h => e a o h
theorem Xe.upd {x : Addr} {o : HO} : Xe x H (L2.upd H x o) := fun a u n h => by
  rw [upd_ne n]
  exact h
theorem Xe.of_none {x : Addr} {H0 : Hp} (e : Ex H0 H) (m : Xe x H H') (n : H0 x = none) : Ex H0 H' := fun a o h => m a o (ne_of_none h n) (e a o h)
/-- self.f = e -/
theorem q_fld {D : Ends} {tz : TS} {f : Str} {x C dx : Addr} {fvs : List (Str × V)} (hx : H x = some (.ins C dx fvs)) (h : EvD K te σ H d) (ho : Ev ta σ H (.ref x)) (hc : Cls K C) (hn : NoAttr K C f) (hl : fvs.length < 1000)
    (k : ∀ v H1, Ex H H1 → Is K H1 v d → tz D σ (upd H1 x (.ins C dx (putF f v fvs)))) : tSeq (sFld K ta te f) tz D σ H :=
  h H (Ex.refl H) _ fun v H1 e1 a => ho H1 e1 _ fun H2 e2 => ⟨x, C, dx, fvs, rfl, (e1.trans e2) _ _ hx, hc, hn, hl, k v H2 (e1.trans e2) (a.ex e2)⟩
theorem s_fld {D : Ends} {f : Str} {x C dx : Addr} {fvs : List (Str × V)} (hx : H x = some (.ins C dx fvs)) (h : EvD K te σ H d) (ho : Ev ta σ H (.ref x)) (hc : Cls K C) (hn : NoAttr K C f) (hl : fvs.length < 1000)
    (k : ∀ v H1, Ex H H1 → Is K H1 v d → D.nx σ (upd H1 x (.ins C dx (putF f v fvs)))) : sFld K ta te f D σ H :=
  h H (Ex.refl H) _ fun v H1 e1 a => ho H1 e1 _ fun H2 e2 => ⟨x, C, dx, fvs, rfl, (e1.trans e2) _ _ hx, hc, hn, hl, k v H2 (e1.trans e2) (a.ex e2)⟩
theorem ev_ref {i : Nat} {x : Addr} (h : σ[i]? = some (some (.ref x))) : Ev (tVar i) σ H (.ref x) := ev_var h
/-- a call whose answer is let go -/
theorem q_do {D : Ends} {tz : TS} (h : EvD K te σ H d) (k : ∀ H1, Ex H H1 → tz D σ H1) : tSeq (tDrop te) tz D σ H := h H (Ex.refl H) _ fun _ H1 e _ => k H1 e
/-! ### loops that only look -/
theorem q_look {wi : TI} {g : TG} {n : Nat} {item : Nat → WD.D} {D : Ends} {tw tz : TS} {W : L2.St → Prop} (hI : EvI K wi σ [] H n item) (h0 : W σ)
    (hs : ∀ i x σ' H' H'', i < n → W σ' → Ex H H' → Ex H' H'' → Is K H'' x (item i) → ∀ Nx : L2.St → Hp → Prop, (∀ σ3 H3, W σ3 → Ex H'' H3 → Nx σ3 H3) → g x σ' H'' fun σ2 H2 => tw { D with nx := Nx, ct := Nx, bk := tz D } σ2 H2)
    (hd : ∀ σ' H', W σ' → Ex H H' → tz D σ' H') : tSeq (tFor wi g tw) tz D σ H :=
  q_for hI (fun _ σ' H' => W σ' ∧ Ex H H') (fun H1 e => ⟨h0, e⟩) (fun i x σ' H' H'' hi p e a => hs i x σ' H' H'' hi p.1 p.2 e a _ fun σ3 H3 w e3 => ⟨⟨w, (p.2.trans e).trans e3⟩, Mu.ex (e.trans e3)⟩) (fun σ' H' p => hd σ' H' p.1 p.2)
theorem s_look {wi : TI} {g : TG} {n : Nat} {item : Nat → WD.D} {D : Ends} {tw : TS} {W : L2.St → Prop} (hI : EvI K wi σ [] H n item) (h0 : W σ)
    (hs : ∀ i x σ' H' H'', i < n → W σ' → Ex H H' → Ex H' H'' → Is K H'' x (item i) → ∀ Nx : L2.St → Hp → Prop, (∀ σ3 H3, W σ3 → Ex H'' H3 → Nx σ3 H3) → g x σ' H'' fun σ2 H2 => tw { D with nx := Nx, ct := Nx, bk := D.nx } σ2 H2)
    (hd : ∀ σ' H', W σ' → Ex H H' → D.nx σ' H') : tFor wi g tw D σ H :=
  s_for hI (fun _ σ' H' => W σ' ∧ Ex H H') (fun H1 e => ⟨h0, e⟩) (fun i x σ' H' H'' hi p e a => hs i x σ' H' H'' hi p.1 p.2 e a _ fun σ3 H3 w e3 => ⟨⟨w, (p.2.trans e).trans e3⟩, Mu.ex (e.trans e3)⟩) (fun σ' H' p => hd σ' H' p.1 p.2)
def frs (qs : List Rat) : List D := qs.map fr
theorem frs_lf (qs : List Rat) : D.lfs (frs qs) = true := lfs_map _ (fun _ => rfl) qs
theorem frs_len (qs : List Rat) : (frs qs).length = qs.length := List.length_map ..
theorem getD_map {α : Type} (f : α → D) (xs : List α) (i : Nat) (h : i < xs.length) : (xs.map f).getD i .non = f xs[i] := by
  rw [List.getD_eq_getElem?_getD, List.getElem?_map, List.getElem?_eq_getElem h] <;> rfl
theorem map_gives {α : Type} (f : α → D) (xs : List α) (v : Nat → D) (h : ∀ i (hi : i < xs.length), v i = f xs[i]) : gives xs.length (fun _ => true) v = xs.map f := by
  rw [gives_all]
  refine List.ext_getElem? fun i => ?_
  rw [List.getElem?_map, List.getElem?_map]
  by_cases hi : i < xs.length
  · rw [List.getElem?_range hi, List.getElem?_eq_getElem hi]
    exact congrArg some (h i hi)
  · rw [List.getElem?_eq_none (by rw [List.length_range]; omega), List.getElem?_eq_none (by omega)] <;> rfl
/-! ### the row as data -/
def rowF (A : List Int) (v : List Rat) (L : List Int) : List (Str × D) := [("areas", .tup (iL A)), ("volumes", .tup (frs v)), ("locks", .tup (iL L))]
def rowD (A : List Int) (v : List Rat) (L : List Int) : D := .obj "Row" (rowF A v L)
end WD
end
section
set_option Elab.async false
set_option linter.all false
set_option maxRecDepth 100000
namespace WD
open PySem PySem.Spec PyProof.Rows L2 Evl
/-! ### defs with defaults -/
structure FnH (P : Program) (w : World) (K : PySem.W.Frag) (mg : Str → Option Value) (base : Heap) (k : Nat) (f : Addr) (ps : List Str) (sp : Sp) (dvs : List V) : Prop where
  ex : ∃ fd ds, FnOk P w K mg base (L2.CX P w) k f fd ps sp ∧ Vals dvs ds ∧ Binds K fd ps ds
  kp : PySem.W.keepIn K (.ref f) = true
section
variable {X : Cx} {k : Nat} {f : Addr} {ps : List Str} {sp : Sp} {x : Str} {p pos apos : Pos} {e o : Expr} {es : List Expr} {t : TA} {ta : TE} {C : Addr} {m : Str} {dvs : List V}
theorem pe_callH (F : FnH X.prog X.w X.K X.mg X.base k f ps sp dvs) (hr : Room k X.A) (hg : Gl X x) (hm : X.mg x = some (.ref f)) (ha : PA X (e :: es) t)
    (hdb : (x == ("__debug__" : Str)) = false := by decide) (hst : starEach (e :: es) X.env = (false, eval e X.env) :: starEach es X.env := by rfl) (hpl : (backTo pos (starEach es X.env)).any (·.1) = false := by rfl) :
    PE X (.Call (.Name x p) (e :: es) [] pos) (tCall sp dvs E0 t) := by
  obtain ⟨⟨fd, ds, F, v, B⟩, kp⟩ := F
  exact pe_call F hr hg hm kp B v passL ha (hdb := hdb) (he := hst) (hpl := hpl)
theorem pe_methH {pl : Sem Bool} (he : PE X o ta) (c : Cls X.K C) (hm : Meth X.K C m f) (F : FnH X.prog X.w X.K X.mg X.base k f ps sp dvs) (hr : Room k X.A) (ha : PA X (e :: es) t)
    (hst : starEach (e :: es) X.env = (false, eval e X.env) :: starEach es X.env := by rfl) (hpl : (backTo pos (starEach es X.env)).any (·.1) = false := by rfl)
    (ht : eval (.Call (.Attribute o m apos) (e :: es) [] pos) X.env = (do
      let ov ← eval o X.env
      standAt apos.atName
      let (f, first) ← holding [ov] (getMethod ov m pl)
      callWith pos f first (backTo pos (starEach (e :: es) X.env)) (backToKw pos (keywordEach [] X.env))) := by rfl) :
    PE X (.Call (.Attribute o m apos) (e :: es) [] pos) (tMeth C m sp dvs E0 ta t) := by
  obtain ⟨⟨fd, ds, F, v, B⟩, kp⟩ := F
  exact pe_meth he c hm F hr B v passL ha hst hpl ht
theorem pe_makeH (M : Mk X.K C f) (F : FnH X.prog X.w X.K X.mg X.base k f ps sp dvs) (hr : Room (k + 1) X.A) (hg : Gl X x) (hm : X.mg x = some (.ref C)) (ha : PA X (e :: es) t)
    (hdb : (x == ("__debug__" : Str)) = false := by decide) (hst : starEach (e :: es) X.env = (false, eval e X.env) :: starEach es X.env := by rfl) (hpl : (backTo pos (starEach es X.env)).any (·.1) = false := by rfl) :
    PE X (.Call (.Name x p) (e :: es) [] pos) (tMake C sp dvs E0 t) := by
  obtain ⟨⟨fd, ds, F, v, B⟩, kp⟩ := F
  exact pe_make M F hr hg hm B v passL ha (hdb := hdb) (he := hst) (hpl := hpl)
end
section
variable {P : Program} {w : World} {K : PySem.W.Frag} {mg : Str → Option Value} {base : Heap}
/-- a def of defaults dvs; n values are written, the defaults behind the first j fill up -/
theorem fnH {x qual : Str} {st : Stmt} {f : Addr} {N ps : List Str} {k : Nat} {sp : Sp} {dvs : List V} (n j : Nat) (F : ∃ fd, FunD K x qual (defArgs st) (defBody st) (defScope st) dvs [] f fd) (S : FnScope N ps (defScope st)) (len : ∀ vs H Q E, sp vs H Q E → vs.length = ps.length)
    (hd : dvs ≠ []) (hn : n + (dvs.length - j) = ps.length)
    (hb : ∀ (T : Addr) (kV doc pm : Value) (an : Option Addr) (cdv ct : Value) (us its : List Value), us.length = n → its.length = dvs.length →
      ∃ k, bindArgs (PySem.W.fnOf x qual (defArgs st) (defBody st) (defScope st) (.ref T) kV doc pm an cdv ct) ⟨us, []⟩ = seqItems? (.ref T) >>= k ∧ k (some its.toArray) = pure (ps.zip (us ++ its.drop j)))
    (hbody : ∀ (cdv : Value) (A : Around) (outer : List Env) (s : Shared) (H : Hp) (vs : List V) (Q : VK) (E : XK), Room k (A.deeper (envOfC qual (defScope st) s.heap.objs.size f cdv)) → sp vs H Q E →
      ∃ t, PSs (cxOf (L2.CX P w) P w K mg base N qual (defScope st) f cdv A outer s H E).nox (defBody st) t ∧ t { nx := fun _ H' => Q .non H', rt := Q } (start N vs) H) : FnH P w K mg base (k + 1) f ps sp (dvs.drop j) := by
  obtain ⟨fd, F⟩ := F
  obtain ⟨ds, v, B⟩ := F.binds1 n j hd hn hb
  exact ⟨⟨fd, ds, F.ok S len (fun cdv A outer s H vs Q E hr h => let ⟨t, h1, h2⟩ := hbody cdv A outer s H vs Q E hr h; ⟨t, h1.nox, h2⟩), v, B⟩, F.kp⟩
end
/-! ### a tuple that stands at the top -/
def tupA (K : PySem.W.Frag) (a : Addr) (vs : List V) : Bool := match K.lookup a with
  | some ⟨.type c, _, .seq its _, _⟩ => decide (c = "tuple") && (decide (its.size ≤ sizeLine) && He.relAll vs its.toList)
  | _ => false
theorem tupA_ok {K : PySem.W.Frag} {a : Addr} {vs : List V} (h : tupA K a vs = true) (H : Hp) : SqT K H a vs := by
  unfold tupA at h
  split at h
  · rename_i c _ its n _ q
    obtain ⟨h1, h2⟩ := Bool.and_eq_true_iff.mp h
    obtain ⟨h3, h4⟩ := Bool.and_eq_true_iff.mp h2
    exact .inr ⟨_, its, n, q, congrArg Value.type (of_decide_eq_true h1), rfl, of_decide_eq_true h3, He.relAll_ok h4⟩
  · cases h
theorem ed_makeH {K : PySem.W.Frag} {σ : L2.St} {H : Hp} {ds es : List D} {dvs : List V} {c : Str} {R : List D → List (Str × D) → Prop} {E : XK} {tr : TA} {fs : List (Str × D)} (h : EvDA K tr σ H ds) (hd : ∀ H, All K H dvs es) (hR : R (ds ++ es) fs) : EvD K (tMake (He.ga K c) (spI K c R) dvs E tr) σ H (.obj c fs) := fun H1 e Q q =>
  h H1 e _ fun vs H2 e2 a x dx hx hdx ne => by
    have e3 : Ex H2 (upd (upd H2 dx (.own x)) x (.ins (He.ga K c) dx [])) := (Ex.new hdx).trans (Ex.new (by
      rw [upd_ne ne.symm]
      exact hx))
    refine ⟨x, dx, vs ++ dvs, ds ++ es, fs, H2, rfl, upd_same, hx, e3, a.app (hd H2), hR, fun H' fvs keep hx' af => ⟨rfl, q _ H' ?_ (.obj hx' af)⟩⟩
    exact e2.trans fun b o hb => keep b o (ne_of_none hb hx) (e3 b o hb)
theorem ed_methH {K : PySem.W.Frag} {σ : L2.St} {H : Hp} {te : TE} {ds es : List D} {d : D} {dvs : List V} {R : List D → D → Prop} {E : XK} {m c : Str} {fs : List (Str × D)} {tr : TA} (h : EvD K te σ H (.obj c fs)) (hl : fs.lookup m = none) (hr : EvDA K tr σ H ds) (hd : ∀ H, All K H dvs es) (hR : R (.obj c fs :: (ds ++ es)) d) :
    EvD K (tMeth (He.ga K c) m (spD K R) dvs E te tr) σ H d := fun H1 e Q q =>
  h H1 e _ fun v H2 e2 a => by
    cases a with
    | obj ho af =>
      refine ⟨_, _, _, rfl, ho, AllF.none af hl, hr H2 (e.trans e2) _ fun vs H3 e3 b => ⟨_, _, .cons (.obj (e3 _ _ ho) (af.ex e3)) (b.app (hd H3)), hR, fun v H4 e4 c => q v H4 ((e2.trans e3).trans e4) c⟩⟩
end WD
end
section
set_option Elab.async false
set_option linter.all false
set_option maxRecDepth 100000
namespace WD
open PySem PySem.Spec PyProof.Rows L2 Evl
section
variable {X : Cx} {k : Nat} {f C : Addr} {ps : List Str} {sp : Sp}
theorem inO_of (F : FnG X.prog X.w X.K X.mg X.base k f ps sp) (hm : Meth X.K C "__contains__" f) (hr : Room k X.A) : OpR X (compareOp .In) (rInO C sp E0 false) := by
  obtain ⟨⟨fd, F, B⟩, kp⟩ := F
  exact op_inO F hm.at_ hm.fn B passL hr
theorem notInO_of (F : FnG X.prog X.w X.K X.mg X.base k f ps sp) (hm : Meth X.K C "__contains__" f) (hr : Room k X.A) : OpR X (compareOp .NotIn) (rInO C sp E0 true) := by
  obtain ⟨⟨fd, F, B⟩, kp⟩ := F
  exact op_notInO F hm.at_ hm.fn B passL hr
theorem lenO_of (F : FnG X.prog X.w X.K X.mg X.base k f ps sp) (hm : Meth X.K C "__len__" f) (hr : Room (k + 1) X.A) : CallR X (.builtin "len") (rLenO C sp E0) := by
  obtain ⟨⟨fd, F, B⟩, kp⟩ := F
  exact call_lenO F hm.at_ hm.fn B passL hr
theorem eqO_of (F : FnG X.prog X.w X.K X.mg X.base k f ps sp) (hm : Meth X.K C "__eq__" f) (hr : Room k X.A) : OpR X (compareOp .Eq) (rEqO X.K C sp E0) := by
  obtain ⟨⟨fd, F, B⟩, kp⟩ := F
  exact op_eqO F hm.at_ hm.fn B passL hr
theorem neO_of (F : FnG X.prog X.w X.K X.mg X.base k f ps sp) (hm : Meth X.K C "__eq__" f) (hn : PySem.W.findIn X.K (.ref C) "__ne__" = some (some (.builtin "object.__ne__"))) (ho : PySem.W.mroIn X.K C (.type "object") = some true) (hr : Room (k + 1) X.A) : OpR X (compareOp .NotEq) (rNeO X.K C sp E0) := by
  obtain ⟨⟨fd, F, B⟩, kp⟩ := F
  exact op_neO F hm.at_ hm.fn hn ho B passL hr
theorem truO_of {e : Expr} {ta : TE} (F : FnG X.prog X.w X.K X.mg X.base k f ps sp) (hm : Meth X.K C "__bool__" f) (hr : Room k X.A) (ha : PE X e ta) (he : ∀ whole, isTrue e X.env whole = (do let v ← whole; standAt e.pos; holding [v] (truthy v)) := by intro _; rfl) : PT X e (tTruO C sp E0 ta) := by
  obtain ⟨⟨fd, F, B⟩, kp⟩ := F
  exact pt_truO F hm.at_ hm.fn B passL hr ha he
end
variable {K : PySem.W.Frag} {σ : L2.St} {H H' : Hp} {ta tb te tx tc : TE} {t u : TT} {d d1 d2 d3 : D} {ds es : List D}
theorem ed_inO {c : Str} {R : List D → D → Prop} {E : XK} {fs : List (Str × D)} {b neg : Bool} (ha : EvD K ta σ H d) (hb : EvD K tb σ H (.obj c fs)) (hR : R [.obj c fs, d] (.bl b)) : EvD K (tOp (rInO (He.ga K c) (spD K R) E neg) ta tb) σ H (.bl (if neg then !b else b)) := ed_op ha hb fun v1 v2 H1 _ a1 a2 Q q => by
  cases a2 with
  | obj ho af => exact ⟨_, _, _, rfl, ho, [.obj c fs, d], .bl b, .cons (.obj ho af) (.cons a1 .nil), hR, fun v H' e i => by cases i; exact ⟨b, rfl, q _ H' e (.bl _)⟩⟩
theorem ed_lenO {c : Str} {R : List D → D → Prop} {E : XK} {fs : List (Str × D)} {n : Int} (h : EvD K te σ H (.obj c fs)) (hR : R [.obj c fs] (.int n)) (hn : 0 ≤ n ∧ n < 2 ^ 63) : EvD K (tCB (rLenO (He.ga K c) (spD K R) E) (tCons te tNil)) σ H (.int n) := fun H1 e Q q =>
  h H1 e _ fun v H2 e2 a => by
    cases a with
    | obj ho af => exact ⟨_, _, _, rfl, ho, [.obj c fs], .int n, .cons (.obj ho af) .nil, hR, fun v H' e3 i => by cases i; exact ⟨n, rfl, hn, q _ H' (e2.trans e3) (.int _)⟩⟩
theorem ed_eqO {c : Str} {R : List D → D → Prop} {E : XK} {fs gs : List (Str × D)} {b : Bool} (ha : EvD K ta σ H (.obj c fs)) (hb : EvD K tb σ H (.obj c gs)) (hR : R [.obj c fs, .obj c gs] (.bl b)) : EvD K (tOp (rEqO K (He.ga K c) (spD K R) E) ta tb) σ H (.bl b) := ed_op ha hb fun v1 v2 H1 _ a1 a2 Q q => by
  cases a1 with
  | obj h1 f1 =>
    cases a2 with
    | obj h2 f2 => exact ⟨_, _, _, _, _, _, rfl, rfl, h1, h2, _, .bl b, .cons (.obj h1 f1) (.cons (.obj h2 f2) .nil), hR, fun v H' e i => by cases i; exact ⟨b, rfl, q _ H' e (.bl _)⟩⟩
theorem ed_neO {c : Str} {R : List D → D → Prop} {E : XK} {fs gs : List (Str × D)} {b : Bool} (ha : EvD K ta σ H (.obj c fs)) (hb : EvD K tb σ H (.obj c gs)) (hR : R [.obj c fs, .obj c gs] (.bl b)) : EvD K (tOp (rNeO K (He.ga K c) (spD K R) E) ta tb) σ H (.bl (!b)) := ed_op ha hb fun v1 v2 H1 _ a1 a2 Q q => by
  cases a1 with
  | obj h1 f1 =>
    cases a2 with
    | obj h2 f2 => exact ⟨_, _, _, _, _, _, rfl, rfl, h1, h2, _, .bl b, .cons (.obj h1 f1) (.cons (.obj h2 f2) .nil), hR, fun v H' e i => by cases i; exact ⟨b, rfl, q _ H' e (.bl _)⟩⟩
theorem et_truO {c : Str} {R : List D → D → Prop} {E : XK} {fs : List (Str × D)} {b : Bool} (h : EvD K te σ H (.obj c fs)) (hR : R [.obj c fs] (.bl b)) : EvT (tTruO (He.ga K c) (spD K R) E te) σ H b := fun H1 e Q q =>
  h H1 e _ fun v H2 e2 a => by
    cases a with
    | obj ho af => exact ⟨_, _, _, rfl, ho, [.obj c fs], .bl b, .cons (.obj ho af) .nil, hR, fun v H' e3 i => by cases i; exact ⟨b, rfl, q H' (e2.trans e3)⟩⟩
/-! ### a new object, to be changed -/
def EvO' (K : PySem.W.Frag) (te : TE) (σ : L2.St) (H : Hp) (c : Str) (fs : List (Str × D)) : Prop := ∀ H1, Ex H H1 → ∀ Q : VK, (∀ x dx fvs H2, H1 x = none → Ex H1 H2 → H2 x = some (.ins (He.ga K c) dx fvs) → AllF K H2 fvs fs → Q (.ref x) H2) → te σ H1 Q
theorem eo_make {c : Str} {R : List D → List (Str × D) → Prop} {E : XK} {tr : TA} {fs : List (Str × D)} {dvs : List V} (h : EvDA K tr σ H ds) (hd : ∀ H, All K H dvs es) (hR : R (ds ++ es) fs) : EvO' K (tMake (He.ga K c) (spI K c R) dvs E tr) σ H c fs := fun H1 e Q q =>
  h H1 e _ fun vs H2 e2 a x dx hx hdx ne => by
    have e3 : Ex H2 (upd (upd H2 dx (.own x)) x (.ins (He.ga K c) dx [])) := (Ex.new hdx).trans (Ex.new (by
      rw [upd_ne ne.symm]
      exact hx))
    refine ⟨x, dx, vs ++ dvs, ds ++ es, fs, H2, rfl, upd_same, hx, e3, a.app (hd H2), hR, fun H' fvs keep hx' af => ⟨rfl, q _ _ _ H' (fresh_back e2 hx) ?_ hx' af⟩⟩
    exact e2.trans fun b o hb => keep b o (ne_of_none hb hx) (e3 b o hb)
theorem q_asgO {D : Ends} {tz : TS} {i : Nat} {c : Str} {fs : List (Str × WD.D)} (h : EvO' K te σ H c fs) (k : ∀ x dx fvs H1, H x = none → Ex H H1 → H1 x = some (.ins (He.ga K c) dx fvs) → AllF K H1 fvs fs → tz D (σ.set i (some (.ref x))) H1) : tSeq (tAsg te (gName i)) tz D σ H := h H (Ex.refl H) _ k
/-- tuples sliced: any slice that leaves something out -/
theorem ed_slT {tl th : TO} {lo hi : Option Int} (h : EvD K te σ H (.tup ds)) (h1 : EvO tl σ H lo) (h2 : EvO th σ H hi) (hw : ¬ (HT.sIx ds.length 0 lo = 0 ∧ HT.sIx ds.length ds.length hi = ds.length)) : EvD K (tSl (rSlT K) te tl th) σ H (.tup (cutD ds lo hi)) := fun H1 e _ q =>
  h H1 e _ fun v H2 e2 a => by
    cases a with
    | tup hs a =>
      exact h1 H2 (e.trans e2) _ fun H3 e3 => h2 H3 ((e.trans e2).trans e3) _ fun H4 e4 =>
        ⟨_, _, rfl, ex_t (e3.trans e4) hs, by rw [a.len]; exact hw, fun p hp => q _ _ (((e2.trans e3).trans e4).trans (Ex.new hp)) (.tup (st_of upd_same) (cutA (a.ex ((e3.trans e4).trans (Ex.new hp)))))⟩
theorem sIx_some (n : Nat) (k : Nat) : HT.sIx n 0 (some (k : Int)) = min k n := HT.sIx_nat n 0 k
theorem sIx_someH (n : Nat) (k : Nat) : HT.sIx n n (some (k : Int)) = min k n := HT.sIx_nat n n k
theorem cut_to (xs : List D) (k : Nat) : cutD xs none (some (k : Int)) = xs.take k := by
  unfold cutD
  rw [sIx_someH, HT.sIx_none, Nat.sub_zero, List.drop_zero]
  by_cases h : k ≤ xs.length
  · rw [Nat.min_eq_left h]
  · rw [Nat.min_eq_right (by omega), List.take_of_length_le (Nat.le_refl _), List.take_of_length_le (by omega)]
theorem cut_from (xs : List D) (k : Nat) : cutD xs (some (k : Int)) none = xs.drop k := by
  unfold cutD
  rw [sIx_some, HT.sIx_none]
  by_cases h : k ≤ xs.length
  · rw [Nat.min_eq_left h, List.take_of_length_le (by rw [List.length_drop]; exact Nat.le_refl _)]
  · rw [Nat.min_eq_right (by omega), Nat.sub_self, List.drop_eq_nil_of_le (Nat.le_refl _), List.drop_eq_nil_of_le (by omega)] <;> rfl
end WD
end
section
set_option Elab.async false
set_option linter.all false
set_option maxRecDepth 100000
namespace WD
open PySem PySem.Spec PyProof.Rows L2 Evl
variable {K : PySem.W.Frag} {σ : L2.St} {H H' H0 H1 : Hp} {ta tb te tx tc : TE} {d d1 d2 d3 : D} {ds es : List D}
theorem ed_catA (ha : EvD K ta σ H (.tup ds)) (hb : EvD K tb σ H (.tup es)) (hl : ds.length + es.length ≤ 100000) : EvD K (tOp (rCatA K) ta tb) σ H (.tup (ds ++ es)) := ed_op ha hb fun v1 v2 H1 _ a1 a2 Q q => by
  cases a1 with
  | tup s1 a1 =>
    cases a2 with
    | tup s2 a2 =>
      refine ⟨_, _, _, _, rfl, rfl, s1, s2, sz_of (by rw [a1.len, a2.len]; exact hl), ?_, ?_, ?_⟩
      · intro z
        subst z
        cases a1
        exact q _ _ (Ex.refl _) (.tup s2 a2)
      · intro _ z
        subst z
        cases a2
        rw [List.append_nil] at q
        exact q _ _ (Ex.refl _) (.tup s1 a1)
      · intro _ _ p hp
        exact q _ _ (Ex.new hp) (.tup (st_of upd_same) ((a1.ex (Ex.new hp)).app (a2.ex (Ex.new hp))))
theorem ed_slA {tl th : TO} {lo hi : Option Int} (h : EvD K te σ H (.tup ds)) (h1 : EvO tl σ H lo) (h2 : EvO th σ H hi) : EvD K (tSl (rSlA K) te tl th) σ H (.tup (cutD ds lo hi)) := fun H1 e _ q =>
  h H1 e _ fun v H2 e2 a => by
    cases a with
    | tup hs a =>
      refine h1 H2 (e.trans e2) _ fun H3 e3 => h2 H3 ((e.trans e2).trans e3) _ fun H4 e4 => ⟨_, _, rfl, ex_t (e3.trans e4) hs, ?_, ?_⟩
      · intro hw
        rw [a.len] at hw
        refine q _ _ ((e2.trans e3).trans e4) ?_
        have z : cutD ds lo hi = ds := by
          unfold cutD
          rw [hw.1, hw.2, List.drop_zero, Nat.sub_zero, List.take_length]
        rw [z]
        exact .tup (ex_t (e3.trans e4) hs) (a.ex (e3.trans e4))
      · intro _ p hp
        exact q _ _ (((e2.trans e3).trans e4).trans (Ex.new hp)) (.tup (st_of upd_same) (cutA (a.ex ((e3.trans e4).trans (Ex.new hp)))))
theorem Ex.updN {p : Addr} {o : HO} (e : Ex H0 H) (n : H0 p = none) : Ex H0 (upd H p o) := fun a u h => by
  rw [upd_ne (ne_of_none h n)]
  exact e a u h
theorem gtL {p : Addr} {xs : List V} {o : HO} (h : H p = some (.lst xs)) : Gt H (upd H p o) := Gt.upd h (fun _ z => by cases z) (fun _ _ z => by cases z)
theorem Is.updL {p : Addr} {xs : List V} {o : HO} {v : V} (a : Is K H v d) (h : H p = some (.lst xs)) (l : d.lf = true) : Is K (upd H p o) v d := a.gt (gtL h) l
theorem All.updL {p : Addr} {xs ys : List V} {o : HO} (a : All K H ys ds) (h : H p = some (.lst xs)) (l : D.lfs ds = true) : All K (upd H p o) ys ds := a.gt (gtL h) l
/-- what stands in the first ones -/
def S (v : List Rat) (j : Nat) : Rat := (v.take j).foldl (· + ·) 0
theorem S_zero (v : List Rat) : S v 0 = 0 := rfl
theorem S_succ (v : List Rat) (j : Nat) (h : j < v.length) : S v (j + 1) = S v j + v[j] := by
  unfold S
  rw [List.take_succ_eq_append_getElem h, List.foldl_append]
  rfl
theorem getD_frs (v : List Rat) (i : Nat) (h : i < v.length) : (frs v).getD i .non = fr v[i] := getD_map fr v i h
/-- a loop that puts things behind a list of its own, one each time -/
theorem q_grow {wi : TI} {g : TG} {tw tz : TS} {En : Ends} {n : Nat} {item f : Nat → WD.D} {W : L2.St → Prop} {p : Addr} {xs : List V} {es : List WD.D} (hp0 : H0 p = none) (e0 : Ex H0 H) (hp : H p = some (.lst xs)) (ax : All K H xs es) (hf : D.lfs es = true) (hF : ∀ i, i < n → (f i).lf = true) (hz : es.length + n < 100000)
    (hI : EvI K wi σ [p] H n item) (h0 : W σ)
    (hs : ∀ i x σ' H' ys, i < n → W σ' → Ex H0 H' → H' p = some (.lst ys) → All K H' ys (es ++ (List.range i).map f) → ys.length < 100000 → Is K H' x (item i) → ∀ Nx : L2.St → Hp → Prop,
      (∀ σ3 H3 v, W σ3 → Ex H' H3 → Is K H3 v (f i) → Nx σ3 (upd H3 p (.lst (ys ++ [v])))) → g x σ' H' fun σ2 H2 => tw { En with nx := Nx, ct := Nx, bk := tz En } σ2 H2)
    (hd : ∀ σ' H' ys, W σ' → Ex H0 H' → H' p = some (.lst ys) → All K H' ys (es ++ (List.range n).map f) → tz En σ' H') : tSeq (tFor wi g tw) tz En σ H := by
  have lfi : ∀ i, i ≤ n → D.lfs (es ++ (List.range i).map f) = true := fun i hi => lfs_app hf (by
    induction i with
    | zero => rfl
    | succ i ih =>
      rw [List.range_succ, List.map_append]
      refine lfs_app (ih (by omega)) ?_
      show ((f i).lf && true) = true
      rw [hF i (by omega)]
      rfl)
  refine q_for hI (fun i σ' H' => W σ' ∧ Ex H0 H' ∧ ∃ ys, H' p = some (.lst ys) ∧ All K H' ys (es ++ (List.range i).map f)) (fun H1 e => ⟨h0, e0.trans e, xs, e _ _ hp, by
    rw [List.range_zero, List.map_nil, List.append_nil]
    exact ax.ex e⟩) ?_ (fun σ' H' ⟨w, e, ys, hy, ay⟩ => hd σ' H' ys w e hy ay)
  rintro i x σ' H' H'' hi ⟨w, e, ys, hy, ay⟩ e2 a
  refine hs i x σ' H'' ys hi w (e.trans e2) (e2 _ _ hy) (ay.ex e2) ?_ a _ ?_
  · rw [ay.len, List.length_append, List.length_map, List.length_range]
    omega
  · intro σ3 H3 v w3 e3 av
    have hy3 := (e2.trans e3) _ _ hy
    refine ⟨⟨w3, Ex.updN ((e.trans e2).trans e3) hp0, _, upd_same, ?_⟩, (Mu.ex (e2.trans e3)).trans (Mu.upd (List.mem_singleton.mpr rfl) hy3)⟩
    rw [List.range_succ, List.map_append, ← List.append_assoc]
    exact All.app ((ay.ex (e2.trans e3)).updL hy3 (lfi i (by omega))) (.cons (av.updL hy3 (hF i hi)) .nil)
theorem EvI.is {wi : TI} {σ : L2.St} {L : List Addr} {H : Hp} {n m : Nat} {item : Nat → D} (h : EvI K wi σ L H n item) (q : n = m) : EvI K wi σ L H m item := q ▸ h
theorem ix_last (ds : List D) (d : D) : atI (ds ++ [d]) (-1) = some d := by
  unfold atI
  rw [show ixN (ds ++ [d]).length (-1) = some ds.length from by
    unfold ixN
    rw [List.length_append, if_neg (by decide), if_pos (by simp; omega)]
    congr 1
    simp
    omega]
  simp
end WD
end
section
set_option Elab.async false
set_option linter.all false
set_option maxRecDepth 100000
namespace WD
open PySem PySem.Spec PyProof.Rows L2 Evl
variable {X : Cx} {K : PySem.W.Frag}
/-! the same with the frozen part named: for what stands within a comprehension -/
theorem notInK (h : X.K = K) : OpR X (compareOp .NotIn) (rIn K true) := h ▸ op_notIn_seq
theorem inK (h : X.K = K) : OpR X (compareOp .In) (rIn K false) := h ▸ op_in_seq
theorem ixTK (h : X.K = K) : IxR X (rIxT K) := h ▸ ix_tup
theorem ixLK (h : X.K = K) : IxR X (rIxL K) := h ▸ ix_list
theorem slLK (h : X.K = K) : SlR X (rSlL K) := h ▸ sl_list
theorem slAK (h : X.K = K) : SlR X (rSlA K) := h ▸ sl_tupA
theorem catAK (h : X.K = K) : OpR X (binaryOp .Add) (rCatA K) := h ▸ op_catA
theorem lenK (h : X.K = K) : CallR X (.builtin "len") (rLenS K) := h ▸ call_lenS
theorem isiK (h : X.K = K) : CallR X (.builtin "isinstance") (rIsi K) := h ▸ call_isi
theorem eqDK (h : X.K = K) (hu : X.A.units + 64 < cLine) : OpR X (compareOp .Eq) (rEqD K) := h ▸ op_eqD hu
theorem neDK (h : X.K = K) (hu : X.A.units + 64 < cLine) : OpR X (compareOp .NotEq) (rNeD K) := h ▸ op_neD hu
theorem fldK {e : Expr} {ta : TE} {f : Str} {pos : Pos} (h : X.K = K) (he : PE X e ta) (hb : attributeBase e f X.env (eval e X.env) = eval e X.env) : PE X (.Attribute e f pos) (tFld K ta f) := h ▸ pe_fld he hb
end WD
end
section
set_option Elab.async false
set_option linter.all false
set_option maxRecDepth 100000
namespace WD
/-! small fractions -/
theorem smMk {k : Nat} {n : Int} {b : Nat} (h0 : b ≠ 0) (hn : n.natAbs < 2 ^ k) (hb : b < 2 ^ k) : Sm k (mkRat n b) := by
  rw [Rat.mkRat_def, dif_neg h0]
  refine ⟨?_, ?_⟩
  · rw [Rat.num_normalize]
    rw [Int.natAbs_ediv_of_dvd (Int.ofNat_dvd_left.mpr (Nat.gcd_dvd_left _ _))]
    exact Nat.lt_of_le_of_lt (Nat.div_le_self _ _) hn
  · rw [Rat.den_normalize]
    exact Nat.lt_of_le_of_lt (Nat.div_le_self _ _) hb
theorem Sm.add {n m : Nat} {p q : Rat} (a : Sm n p) (b : Sm m q) : Sm (n + m + 1) (p + q) := by
  rw [Rat.add_def']
  refine smMk (Nat.mul_ne_zero p.den_nz q.den_nz) ?_ ?_
  · refine Nat.lt_of_le_of_lt (Int.natAbs_add_le _ _) ?_
    rw [Int.natAbs_mul, Int.natAbs_mul, Int.natAbs_natCast, Int.natAbs_natCast, Nat.pow_succ, Nat.pow_add, Nat.mul_two]
    have h1 := Nat.mul_lt_mul_of_lt_of_le a.num (Nat.le_of_lt b.den) (Nat.two_pow_pos m)
    have h2 := Nat.mul_lt_mul_of_lt_of_le b.num (Nat.le_of_lt a.den) (Nat.two_pow_pos n)
    rw [Nat.mul_comm (2 ^ m) (2 ^ n)] at h2
    omega
  · have h := Nat.mul_lt_mul_of_lt_of_le a.den (Nat.le_of_lt b.den) (Nat.two_pow_pos m)
    rw [Nat.pow_succ, Nat.pow_add]
    omega
theorem Sm.mul {n m : Nat} {p q : Rat} (a : Sm n p) (b : Sm m q) : Sm (n + m) (p * q) := by
  rw [Rat.mul_def']
  refine smMk (Nat.mul_ne_zero p.den_nz q.den_nz) ?_ ?_
  · rw [Int.natAbs_mul, Nat.pow_add]
    exact Nat.mul_lt_mul_of_lt_of_le a.num (Nat.le_of_lt b.num) (Nat.two_pow_pos m)
  · rw [Nat.pow_add]
    exact Nat.mul_lt_mul_of_lt_of_le a.den (Nat.le_of_lt b.den) (Nat.two_pow_pos m)
theorem Sm.neg {n : Nat} {p : Rat} (a : Sm n p) : Sm n (-p) := ⟨by
  rw [Rat.neg_num, Int.natAbs_neg]
  exact a.num, by
  rw [Rat.neg_den]
  exact a.den⟩
theorem Sm.sub {n m : Nat} {p q : Rat} (a : Sm n p) (b : Sm m q) : Sm (n + m + 1) (p - q) := by
  rw [Rat.sub_eq_add_neg]
  exact a.add b.neg
theorem Sm.int {n : Nat} {i : Int} (h : i.natAbs < 2 ^ n) (hn : 1 ≤ n) : Sm n (i : Rat) := ⟨h, Nat.one_lt_two_pow (by omega)⟩
theorem fr_int (i : Int) : fr (i : Rat) = .tup [.int i, .int 1] := rfl
theorem fr_over {n : Nat} (h : n ≠ 0) : fr (mkRat 1 n) = .tup [.int 1, .int (n : Int)] := by
  have e := mkRat_pair (n := 1) h
  have g : Nat.gcd (1 : Int).natAbs n = 1 := Nat.gcd_one_left n
  rw [g] at e
  unfold fr
  rw [← e.1, ← e.2]
  simp
end WD
end
section
set_option Elab.async false
set_option linter.all false
set_option maxRecDepth 100000
namespace WD
open PySem PySem.Spec PyProof.Rows L2 Evl
section
variable {K : PySem.W.Frag} {σ : L2.St} {H H' : Hp} {ta tb te tx tc : TE} {t u : TT} {d d1 d2 d3 : D} {ds es : List D}
theorem Mu.un {L : List Addr} {p : Addr} {H H2 H' : Hp} (hp : H p = none) (e : Ex H H2) (mu : Mu (p :: L) H2 H') : Mu L H H' := ⟨fun a o n h => mu.1 a o (fun z => by
  rcases List.mem_cons.mp z with z | z
  · subst z
    rw [hp] at h
    cases h
  · exact n z) (e a o h), (Gt.of e).trans mu.2⟩
theorem Mu.more {L L' : List Addr} {H H' : Hp} (m : Mu L H H') (h : ∀ a ∈ L, a ∈ L') : Mu L' H H' := ⟨fun a o n k => m.1 a o (fun z => n (h a z)) k, m.2⟩
theorem Mu.keep {L : List Addr} {H H' : Hp} {a : Addr} {o : HO} (m : Mu L H H') (n : a ∉ L) (h : H a = some o) : H' a = some o := m.1 a o n h
/-- a list built while other things change: Inv by the turn -/
theorem en_lcM {wi : TI} {g : TG} {Q : VK} {n : Nat} {item : Nat → D} {vs : List Nat} {L : List Addr} (Inv : Nat → Hp → Prop) (f : Nat → Bool) (v : Nat → D) (hI : EvI K wi σ L H n item) (hL : ∀ l ∈ L, ∃ o, H l = some o) (hn : n ≤ 50000) (hf : ∀ i, i < n → f i = true → (v i).lf = true)
    (hst : ∀ i D Ha Hb, H D = none → Inv i Ha → Mu [D] Ha Hb → Inv i Hb) (h0 : Inv 0 H)
    (hs : ∀ i x H1, i < n → Inv i H1 → Mu L H H1 → Is K H1 x (item i) → ∀ (Y : VK) (N : Hp → Prop), (∀ y H4, f i = true → Is K H4 y (v i) → Inv (i + 1) H4 → Mu L H1 H4 → Y y H4) → (∀ H3, f i = false → Inv (i + 1) H3 → Mu L H1 H3 → N H3) →
      g x (wipe σ vs) H1 fun σ2 H2 => wipe σ2 vs = wipe σ vs ∧ t σ2 H2 fun b H3 => if b = true then te σ2 H3 Y else N H3)
    (q : ∀ p xs H', H p = none → Mu L H H' → Inv n H' → H' p = some (.lst xs) → All K H' xs (gives n f v) → Q (.ref p) H') : tLc wi g t te vs σ H Q := hI _ fun J H2 Ps e2 w Dl hD => by
  have hDH : H Dl = none := fresh_back e2 hD
  have hDL : Dl ∉ L := fun z => by
    obtain ⟨o, ho⟩ := hL _ z
    rw [hDH] at ho
    cases ho
  have hst' : ∀ i Ha Hb, Inv i Ha → Ex Ha Hb → Inv i Hb := fun i Ha Hb h e => hst i Dl Ha Hb hDH h (Mu.ex e)
  refine ⟨fun i m H' => m = n - i ∧ i ≤ n ∧ Mu (Dl :: L) (L2.upd H2 Dl (.lst [])) H' ∧ Inv i H' ∧ ∃ acc, H' Dl = some (.lst acc) ∧ All K H' acc (gives i f v), ⟨n, by simp, Nat.zero_le _, Mu.refl _ _, hst' 0 _ _ h0 (e2.trans (Ex.new hD)), [], upd_same, .nil⟩, ?_⟩
  rintro i m H' ⟨rfl, hi, mu, iv, acc, hacc, aa⟩
  have ps0 : Ps (L2.upd H2 Dl (.lst [])) := w.stays [] (by simp) H2 _ w.here (Mu.ex (Ex.new hD))
  have ps : Ps H' := w.stays (Dl :: L) (fun l h => by
    rcases List.mem_cons.mp h with h | h
    · exact .inr (by rw [h]; exact hD)
    · exact .inl h) _ H' ps0 mu
  have mu0 : Mu L H H' := Mu.un hDH (e2.trans (Ex.new hD)) mu
  by_cases hlt : i < n
  · obtain ⟨g1, g2⟩ := w.go H' ps i hlt
    refine .inr ⟨g1, fun H3 => Mu (Dl :: L) (L2.upd H2 Dl (.lst [])) H3 ∧ Inv (i + 1) H3 ∧ ∃ acc, H3 Dl = some (.lst acc) ∧ All K H3 acc (gives (i + 1) f v), fun H3 q => ⟨n - (i + 1), by omega, rfl, by omega, q.1, q.2⟩, fun x H3 hy => ?_⟩
    obtain ⟨e3, a⟩ := g2 x H3 hy
    have hacc3 := e3 _ _ hacc
    have aa3 := aa.ex e3
    have mu3 := mu.trans (Mu.ex e3)
    have lfa : D.lfs (gives i f v) = true := gives_lf i fun j hj => hf j (by omega)
    refine hs i x H3 hlt (hst' i _ _ iv e3) (mu0.trans (Mu.ex e3)) a _ _ ?_ ?_
    · intro y H6 f1 ay iv6 mu6
      have hacc6 := mu6.keep hDL hacc3
      refine ⟨acc, hacc6, sz_lt (by
        rw [aa.len]
        have := gives_len i f v
        omega), (mu3.trans (mu6.more fun a h => List.mem_cons_of_mem _ h)).trans (Mu.upd (List.mem_cons_self ..) hacc6), hst _ Dl _ _ hDH iv6 (Mu.upd (List.mem_singleton.mpr rfl) hacc6), _, upd_same, ?_⟩
      rw [gives_yes f1]
      have gt : Gt H6 (L2.upd H6 Dl (.lst (acc ++ [y]))) := Gt.lst hacc6
      exact ((aa3.gt mu6.2 lfa).gt gt lfa).app (All.one (ay.gt gt (hf i hlt f1)))
    · intro H6 f1 iv6 mu6
      refine ⟨mu3.trans (mu6.more fun a h => List.mem_cons_of_mem _ h), iv6, acc, mu6.keep hDL hacc3, ?_⟩
      rw [gives_no f1]
      exact aa3.gt mu6.2 lfa
  · have e : i = n := by omega
    subst e
    exact .inl ⟨w.stop H' ps, q Dl acc H' hDH mu0 iv hacc aa⟩
/-- o.m(..) that changes things -/
theorem em_meth {C dx x : Addr} {m : Str} {fvs : List (Str × V)} {sp : Sp} {tr : TA} {E : XK} {Q : VK} (ho : Ev te σ H (.ref x)) (hx : H x = some (.ins C dx fvs)) (hl : fvs.lookup m = none) (hr : EvDA K tr σ H ds) (k : ∀ vs H1, Ex H H1 → All K H1 vs ds → sp (.ref x :: vs) H1 Q E) : tMeth C m sp [] E te tr σ H Q :=
  ho H (Ex.refl H) _ fun H1 e1 => ⟨x, dx, fvs, rfl, e1 _ _ hx, hl, hr H1 e1 _ fun vs H2 e2 a => by
    rw [List.append_nil]
    exact k vs H2 (e1.trans e2) a⟩
theorem ed_fldX {C dx x : Addr} {f : Str} {fvs : List (Str × V)} {v : V} (ho : Ev te σ H (.ref x)) (hx : H x = some (.ins C dx fvs)) (hc : Cls K C) (hn : NoAttr K C f) (hl : fvs.lookup f = some v) (a : Is K H v d) : EvD K (tFld K te f) σ H d := fun H1 e Q q =>
  ho H1 e _ fun H2 e2 => ⟨x, C, dx, fvs, v, rfl, (e.trans e2) _ _ hx, hc, hn, hl, q v H2 e2 (a.ex (e.trans e2))⟩
theorem ev_fldX {C dx x : Addr} {f : Str} {fvs : List (Str × V)} {v : V} (ho : Ev te σ H (.ref x)) (hx : H x = some (.ins C dx fvs)) (hc : Cls K C) (hn : NoAttr K C f) (hl : fvs.lookup f = some v) : Ev (tFld K te f) σ H v := fun H1 e Q q =>
  ho H1 e _ fun H2 e2 => ⟨x, C, dx, fvs, v, rfl, (e.trans e2) _ _ hx, hc, hn, hl, q H2 e2⟩
theorem all_ints : ∀ (H : Hp) (ts : List Int), All K H (ts.map V.int) (iL ts)
  | _, [] => .nil
  | H, t :: ts => .cons (.int t) (all_ints H ts)
end
end WD
end
section
set_option Elab.async false
set_option linter.all false
set_option maxRecDepth 100000
namespace WD
open PySem PySem.Spec PyProof.Rows L2 Evl
section
variable {X : Cx} {K : PySem.W.Frag} {σ : L2.St} {H : Hp} {ta tb : TE}
def rLcm : List V → Hp → VK → Prop := fun vs H Q => ∃ a b : Nat, vs = [.int (a : Int), .int (b : Int)] ∧ a < 2 ^ 6000 ∧ b < 2 ^ 6000 ∧ Q (.int ((Nat.lcm a b : Nat) : Int)) H
theorem cr_lcm : CallR X (.builtin "math.lcm") rLcm := by
  intro pins s σ H vs us Q I r h
  obtain ⟨a, b, rfl, ha, hb, q⟩ := h
  obtain ⟨t, u, rfl⟩ := Vals.int2 r
  have e : (((Nat.lcm 1 ((a : Int)).natAbs).lcm ((b : Int)).natAbs : Nat) : Int) = ((Nat.lcm a b : Nat) : Int) := by
    rw [Int.natAbs_natCast, Int.natAbs_natCast, show Nat.lcm 1 a = a from by simp [Nat.lcm]]
  have l1 : (max 1 ((a : Int)).natAbs).log2 ≤ 6000 := PySem.W.mg_log (Nat.lt_of_lt_of_le (by
    rw [Int.natAbs_natCast]
    show max 1 a < 2 ^ 6000
    exact Nat.max_lt.mpr ⟨Nat.one_lt_two_pow (by decide), ha⟩) (Nat.pow_le_pow_right (by decide) (by decide)))
  have l2 : (max ((a : Int)).natAbs ((b : Int)).natAbs).log2 ≤ 6000 := PySem.W.mg_log (Nat.lt_of_lt_of_le (by
    rw [Int.natAbs_natCast, Int.natAbs_natCast]
    show max a b < 2 ^ 6000
    exact Nat.max_lt.mpr ⟨ha, hb⟩) (Nat.pow_le_pow_right (by decide) (by decide)))
  have hs : ((((Nat.lcm 1 ((a : Int)).natAbs).lcm ((b : Int)).natAbs : Nat) : Int)).natAbs.log2 < bitsLine := by
    rw [e, Int.natAbs_natCast]
    refine Nat.lt_of_le_of_lt (PySem.W.mg_log (k := 12000) ?_) (by decide)
    refine Nat.lt_of_lt_of_le (?_ : _ < 2 ^ 12000) (Nat.pow_le_pow_right (by decide) (by decide))
    have h1 : Nat.lcm a b ≤ a * b := by
      unfold Nat.lcm
      exact Nat.div_le_self _ _
    refine Nat.lt_of_le_of_lt h1 ?_
    rw [show (12000 : Nat) = 6000 + 6000 from rfl, Nat.pow_add]
    exact Nat.mul_lt_mul_of_lt_of_le ha (Nat.le_of_lt hb) (Nat.two_pow_pos _)
  refine call_function_meets PySem.W.MGF.kind_lcm PySem.W.MGF.plain_lcm PySem.W.MGF.entry_lcm (PySem.W.MGF.args_lcm _ _) (PySem.W.mg_run_lcm (a : Int) t (b : Int) u (by omega) (by omega) hs).meets ?_
  exact ⟨.int _, H, I.tok _, ⟨_, congrArg (fun z => Value.int z _) e⟩, q⟩
theorem ed_lcm {i j : Nat} (ha : EvD K ta σ H (.int (i : Int))) (hb : EvD K tb σ H (.int (j : Int))) (hi : i < 2 ^ 6000) (hj : j < 2 ^ 6000) : EvD K (tCB rLcm (tCons ta (tCons tb tNil))) σ H (.int ((Nat.lcm i j : Nat) : Int)) := fun H1 e Q q =>
  ha H1 e _ fun v H2 e2 a => hb H2 (e.trans e2) _ fun w H3 e3 b => by
    cases a; cases b
    exact ⟨i, j, rfl, hi, hj, q _ H3 (e2.trans e3) (.int _)⟩
end
end WD
end
section
set_option Elab.async false
set_option linter.all false
set_option maxRecDepth 100000
namespace WD
open PySem PySem.Spec PyProof.Rows L2 Evl
theorem tupK {X : Cx} {K : PySem.W.Frag} {es : List Expr} {k : Nat} {t : TGs} {n : Nat} {pos : Pos} (h : X.K = K) (hc : X.calm = true) (ht : PGs X es t)
    (hn : (assignEach es X.env).length = n := by rfl) (hst : (assignEach es X.env).findIdx? (·.1) = none := by rfl) : PG X (.Tuple es k pos) (gTup K n t) := h ▸ pg_tup hc ht hn hst
/-! fractions over one number below -/
theorem mkRat_den_dvd (n : Int) {d : Nat} (hd : d ≠ 0) : (mkRat n d).den ∣ d := by
  rw [Rat.mkRat_def, dif_neg hd, Rat.den_normalize]
  exact Nat.div_dvd_of_dvd (Nat.gcd_dvd_right _ _)
theorem num_of (q : Rat) : q * ((q.den : Int) : Rat) = (q.num : Rat) := by
  have h := Rat.mkRat_self q
  rw [Rat.mkRat_eq_div] at h
  have h1 : ((q.den : Nat) : Rat) = ((q.den : Int) : Rat) := rfl
  have h2 : ((q.den : Int) : Rat) ≠ 0 := by
    have := q.den_pos
    exact_mod_cast (by omega : (q.den : Int) ≠ 0)
  rw [h1] at h
  grind
theorem over_of_dvd {q : Rat} {M : Nat} (h : q.den ∣ M) : q * ((M : Int) : Rat) = ((q.num * ((M / q.den : Nat) : Int) : Int) : Rat) := by
  obtain ⟨c, rfl⟩ := h
  rw [Nat.mul_div_cancel_left _ q.den_pos, Rat.intCast_mul, Int.natCast_mul, Rat.intCast_mul, ← Rat.mul_assoc]
  rw [num_of]
theorem dvd_of_over {q : Rat} {M : Nat} {n : Int} (h0 : M ≠ 0) (h : q * ((M : Int) : Rat) = (n : Rat)) : q.den ∣ M := by
  have hm : ((M : Int) : Rat) ≠ 0 := by exact_mod_cast (show (M : Int) ≠ 0 by omega)
  have e : q = mkRat n M := by
    rw [Rat.mkRat_eq_div]
    have : ((M : Nat) : Rat) = ((M : Int) : Rat) := rfl
    grind
  rw [e]
  exact mkRat_den_dvd n h0
theorem den_add {p q : Rat} {M : Nat} (h0 : M ≠ 0) (hp : p.den ∣ M) (hq : q.den ∣ M) : (p + q).den ∣ M := by
  refine dvd_of_over (n := p.num * ((M / p.den : Nat) : Int) + q.num * ((M / q.den : Nat) : Int)) h0 ?_
  rw [Rat.add_mul, over_of_dvd hp, over_of_dvd hq, Rat.intCast_add]
theorem S_den {v : List Rat} {M : Nat} (h0 : M ≠ 0) (h : ∀ q ∈ v, q.den ∣ M) : ∀ j, j ≤ v.length → (S v j).den ∣ M
  | 0, _ => ⟨M, (Nat.one_mul M).symm⟩
  | j + 1, hj => by
    rw [S_succ v j hj]
    exact den_add h0 (S_den h0 h j (by omega)) (h _ (List.getElem_mem _))
theorem S_step {v : List Rat} (h : ∀ q ∈ v, 0 ≤ q) {j : Nat} (hj : j < v.length) : S v j ≤ S v (j + 1) := by
  rw [S_succ v j hj]
  have := h _ (List.getElem_mem hj)
  grind
theorem S_mono {v : List Rat} (h : ∀ q ∈ v, 0 ≤ q) {i : Nat} : ∀ {j : Nat}, i ≤ j → j ≤ v.length → S v i ≤ S v j
  | 0, h1, _ => by
    have : i = 0 := by omega
    subst this
    exact Rat.le_refl
  | j + 1, h1, h2 => by
    by_cases e : i = j + 1
    · subst e
      exact Rat.le_refl
    · exact Rat.le_trans (S_mono h (show i ≤ j by omega) (by omega)) (S_step h h2)
theorem S_nn {v : List Rat} (h : ∀ q ∈ v, 0 ≤ q) {j : Nat} (hj : j ≤ v.length) : 0 ≤ S v j := S_mono h (Nat.zero_le j) hj
/-- a row of sizes that are told -/
structure RowOk (A : List Int) (v : List Rat) (M W : Nat) : Prop where
  len : v.length = A.length
  a1 : 1 ≤ A.length
  al : A.length ≤ 24
  ar : ∀ a ∈ A, 1 ≤ a ∧ a ≤ 1000
  m0 : 0 < M
  m1 : M < 2 ^ 400
  w1 : W < 2 ^ 400
  nn : ∀ q ∈ v, 0 ≤ q
  dn : ∀ q ∈ v, q.den ∣ M
  tot : S v v.length ≤ ((W : Int) : Rat)
theorem sm_of {q : Rat} {M W : Nat} (m0 : 0 < M) (m1 : M < 2 ^ 400) (w1 : W < 2 ^ 400) (h0 : 0 ≤ q) (h1 : q ≤ ((W : Int) : Rat)) (hd : q.den ∣ M) : Sm 800 q := by
  have dl := Nat.le_of_dvd m0 hd
  refine ⟨?_, Nat.lt_of_le_of_lt dl (Nat.lt_of_lt_of_le m1 (Nat.pow_le_pow_right (by decide) (by decide)))⟩
  have hden : (0 : Rat) ≤ ((q.den : Int) : Rat) := by exact_mod_cast Int.natCast_nonneg q.den
  have e : ((q.num : Int) : Rat) = q * ((q.den : Int) : Rat) := (num_of q).symm
  have n0 : (0 : Rat) ≤ ((q.num : Int) : Rat) := by
    rw [e]
    exact Rat.mul_nonneg h0 hden
  have n1 : ((q.num : Int) : Rat) ≤ (((W : Int) * (q.den : Int) : Int) : Rat) := by
    rw [e, Rat.intCast_mul]
    exact Rat.mul_le_mul_of_nonneg_right h1 hden
  have z0 : 0 ≤ q.num := by exact_mod_cast n0
  have z1 : q.num ≤ (W : Int) * (q.den : Int) := by exact_mod_cast n1
  have z2 : q.num.natAbs ≤ W * q.den := by
    rw [← Int.natCast_mul] at z1
    omega
  have z3 : W * q.den ≤ W * M := Nat.mul_le_mul_left _ dl
  have z4 : W * M < 2 ^ 400 * 2 ^ 400 := Nat.mul_lt_mul_of_lt_of_le w1 (Nat.le_of_lt m1) (Nat.two_pow_pos _)
  rw [← Nat.pow_add] at z4
  omega
theorem RowOk.sumOk {A : List Int} {v : List Rat} {M W : Nat} (h : RowOk A v M W) {j : Nat} (hj : j ≤ v.length) : 0 ≤ S v j ∧ S v j ≤ ((W : Int) : Rat) ∧ (S v j).den ∣ M ∧ Sm 800 (S v j) := by
  have a := S_nn h.nn hj
  have b := Rat.le_trans (S_mono h.nn hj (Nat.le_refl _)) h.tot
  have c := S_den (by have := h.m0; omega) h.dn j hj
  exact ⟨a, b, c, sm_of h.m0 h.m1 h.w1 a b c⟩
theorem RowOk.le {A : List Int} {v : List Rat} {M W : Nat} (h : RowOk A v M W) {q : Rat} (hq : q ∈ v) : q ≤ ((W : Int) : Rat) := by
  obtain ⟨j, hj, rfl⟩ := List.getElem_of_mem hq
  have a := (h.sumOk (show j ≤ v.length by omega)).1
  have b := (h.sumOk (show j + 1 ≤ v.length by omega)).2.1
  rw [S_succ v j hj] at b
  grind
theorem RowOk.sm {A : List Int} {v : List Rat} {M W : Nat} (h : RowOk A v M W) {q : Rat} (hq : q ∈ v) : Sm 800 q := sm_of h.m0 h.m1 h.w1 (h.nn q hq) (h.le hq) (h.dn q hq)
section
variable {K : PySem.W.Frag} {σ : L2.St} {H : Hp} {te : TE} {ds : List D}
theorem EvI.item {wi : TI} {L : List Addr} {n : Nat} {item item' : Nat → D} (h : EvI K wi σ L H n item) (q : ∀ i, i < n → item i = item' i) : EvI K wi σ L H n item' := fun R r => h R fun J H2 Ps e w => r J H2 Ps e ⟨w.here, w.stays, fun H3 p i hi => ⟨(w.go H3 p i hi).1, fun x H4 y => ⟨((w.go H3 p i hi).2 x H4 y).1, q i hi ▸ ((w.go H3 p i hi).2 x H4 y).2⟩⟩, w.stop⟩
theorem q_fldN {En : Ends} {tz : TS} {ta : TE} {f : Str} {x C dx : Addr} {fvs : List (Str × V)} (hx : H x = some (.ins C dx fvs)) (h : EvN K te σ H ds) (ho : Ev ta σ H (.ref x)) (hc : Cls K C) (hn : NoAttr K C f) (hl : fvs.length < 1000)
    (k : ∀ p xs H1, H p = none → Ex H H1 → H1 p = some (.lst xs) → All K H1 xs ds → tz En σ (upd H1 x (.ins C dx (putF f (.ref p) fvs)))) : tSeq (sFld K ta te f) tz En σ H :=
  h H (Ex.refl H) _ fun p xs H1 hp e1 hx1 a => ho H1 e1 _ fun H2 e2 => ⟨x, C, dx, fvs, rfl, (e1.trans e2) _ _ hx, hc, hn, hl, k p xs H2 hp (e1.trans e2) (e2 _ _ hx1) (a.ex e2)⟩
theorem s_fldN {En : Ends} {ta : TE} {f : Str} {x C dx : Addr} {fvs : List (Str × V)} (hx : H x = some (.ins C dx fvs)) (h : EvN K te σ H ds) (ho : Ev ta σ H (.ref x)) (hc : Cls K C) (hn : NoAttr K C f) (hl : fvs.length < 1000)
    (k : ∀ p xs H1, H p = none → Ex H H1 → H1 p = some (.lst xs) → All K H1 xs ds → En.nx σ (upd H1 x (.ins C dx (putF f (.ref p) fvs)))) : sFld K ta te f En σ H :=
  h H (Ex.refl H) _ fun p xs H1 hp e1 hx1 a => ho H1 e1 _ fun H2 e2 => ⟨x, C, dx, fvs, rfl, (e1.trans e2) _ _ hx, hc, hn, hl, k p xs H2 hp (e1.trans e2) (e2 _ _ hx1) (a.ex e2)⟩
end
end WD
end
section
set_option Elab.async false
set_option linter.all false
set_option maxRecDepth 100000
namespace WD
open PySem PySem.Spec PyProof.Rows L2 Evl
section
variable {K : PySem.W.Frag} {σ : L2.St} {H : Hp} {te tv : TE}
def kvI (kf vi : Nat → Int) (n : Nat) : List (Key × V) := (List.range n).map fun k => (Sum.inl (kf k), V.int (vi k))
theorem putK_end (k : Key) (z : V) (kvs : List (Key × V)) (h : ∀ p ∈ kvs, p.1 ≠ k) : putK kvs k z = kvs ++ [(k, z)] := putK_new z (by
  unfold valV
  rw [List.find?_eq_none.mpr (fun p hp => by simp [h p hp])]
  rfl)
/-- a dict of ints by ints, from a comprehension with one name -/
theorem en_dc {wi : TI} {n j : Nat} {item : Nat → D} {vs : List Nat} {tk : TE} {Q : VK} (kf vi : Nat → Int) (hI : EvI K wi σ [] H n item) (hn : n ≤ 50000) (hinj : ∀ a b, a < n → b < n → kf a = kf b → a = b) (hw : ∀ x, wipe ((wipe σ vs).set j (some x)) vs = wipe σ vs)
    (hk : ∀ i x H1, i < n → Ex H H1 → Is K H1 x (item i) → EvD K tk ((wipe σ vs).set j (some x)) H1 (.int (kf i))) (hv : ∀ i x H1, i < n → Ex H H1 → Is K H1 x (item i) → EvD K tv ((wipe σ vs).set j (some x)) H1 (.int (vi i)))
    (q : ∀ p H', H p = none → Ex H H' → H' p = some (.dK (kvI kf vi n)) → Q (.ref p) H') : tDc wi (gName j) tYes tk tv vs σ H Q := hI _ fun J H2 Ps e2 w Dl hD => by
  have hDH : H Dl = none := fresh_back e2 hD
  refine ⟨fun i m H' => m = n - i ∧ i ≤ n ∧ Ps H' ∧ Ex H H' ∧ H' Dl = some (.dK (kvI kf vi i)), ⟨n, by simp, Nat.zero_le _, w.stays [] (by simp) H2 _ w.here (Mu.ex (Ex.new hD)), e2.trans (Ex.new hD), upd_same⟩, ?_⟩
  rintro i m H' ⟨rfl, hi, ps, eH, hd⟩
  by_cases hlt : i < n
  · obtain ⟨g1, g2⟩ := w.go H' ps i hlt
    refine .inr ⟨g1, fun H3 => Ps H3 ∧ Ex H H3 ∧ H3 Dl = some (.dK (kvI kf vi (i + 1))), fun H3 q => ⟨n - (i + 1), by omega, rfl, by omega, q.1, q.2⟩, fun x H3 hy => ?_⟩
    obtain ⟨e3, a⟩ := g2 x H3 hy
    show wipe ((wipe σ vs).set j (some x)) vs = wipe σ vs ∧ _
    refine ⟨hw x, ?_⟩
    show tk _ H3 _
    refine hk i x H3 hlt (eH.trans e3) a H3 (Ex.refl H3) _ fun y H4 e4 ay => ?_
    refine hv i x H3 hlt (eH.trans e3) a H4 e4 _ fun z H5 e5 az => ?_
    cases ay
    cases az
    have e35 := (e3.trans e4).trans e5
    refine ⟨kvI kf vi i, .inl (kf i), rfl, e35 _ _ hd, sz_lt (by
      unfold kvI
      rw [List.length_map, List.length_range]
      omega), ?_, ?_, ?_⟩
    · exact w.stays [Dl] (fun l h => .inr (by rw [List.mem_singleton.mp h]; exact hD)) H' _ ps ⟨fun b o nb h => by
        rw [upd_ne (fun z => nb (by rw [z]; exact List.mem_singleton.mpr rfl))]
        exact e35 _ _ h, (Gt.of e35).trans (Gt.upd (e35 _ _ hd) (fun _ z => by cases z) (fun _ _ z => by cases z))⟩
    · exact Ex.updN (eH.trans e35) hDH
    · rw [putK_end]
      · rw [upd_same]
        unfold kvI
        rw [List.range_succ, List.map_append]
        rfl
      · intro p hp
        unfold kvI at hp
        obtain ⟨k, hk, rfl⟩ := List.mem_map.mp hp
        have hk := List.mem_range.mp hk
        intro z
        have := hinj k i (by omega) hlt (Sum.inl.inj z)
        omega
  · have e : i = n := by omega
    subst e
    exact .inl ⟨w.stop H' ps, q Dl H' hDH eH hd⟩
end
end WD
end
section
set_option Elab.async false
set_option linter.all false
set_option maxRecDepth 100000
namespace WD
open PySem PySem.Spec PyProof.Rows L2 Evl
section
variable {K : PySem.W.Frag} {σ : L2.St} {H H' : Hp} {ta tb te tx tc : TE} {t u : TT} {d d1 d2 d3 : D} {ds es : List D}
/-- the same where what comes isn't told ahead: Inv by the turn and what was put -/
theorem en_lcP {wi : TI} {g : TG} {Q : VK} {n : Nat} {item : Nat → D} {vs : List Nat} {L : List Addr} (Inv : Nat → List D → Hp → Prop) (hI : EvI K wi σ L H n item) (hL : ∀ l ∈ L, ∃ o, H l = some o) (hn : n ≤ 50000)
    (hst : ∀ i ds D Ha Hb, H D = none → Inv i ds Ha → Mu [D] Ha Hb → Inv i ds Hb) (h0 : Inv 0 [] H)
    (hs : ∀ i ds x H1, i < n → Inv i ds H1 → Mu L H H1 → Is K H1 x (item i) → ∀ (Y : VK) (N : Hp → Prop), (∀ y H4 e, e.lf = true → Is K H4 y e → Inv (i + 1) (ds ++ [e]) H4 → Mu L H1 H4 → Y y H4) → (∀ H3, Inv (i + 1) ds H3 → Mu L H1 H3 → N H3) →
      g x (wipe σ vs) H1 fun σ2 H2 => wipe σ2 vs = wipe σ vs ∧ t σ2 H2 fun b H3 => if b = true then te σ2 H3 Y else N H3)
    (q : ∀ p xs ds H', H p = none → Mu L H H' → Inv n ds H' → H' p = some (.lst xs) → All K H' xs ds → Q (.ref p) H') : tLc wi g t te vs σ H Q := hI _ fun J H2 Ps e2 w Dl hD => by
  have hDH : H Dl = none := fresh_back e2 hD
  have hDL : Dl ∉ L := fun z => by
    obtain ⟨o, ho⟩ := hL _ z
    rw [hDH] at ho
    cases ho
  have hst' : ∀ i ds Ha Hb, Inv i ds Ha → Ex Ha Hb → Inv i ds Hb := fun i ds Ha Hb h e => hst i ds Dl Ha Hb hDH h (Mu.ex e)
  refine ⟨fun i m H' => m = n - i ∧ i ≤ n ∧ Mu (Dl :: L) (L2.upd H2 Dl (.lst [])) H' ∧ ∃ acc ds, Inv i ds H' ∧ ds.length ≤ i ∧ D.lfs ds = true ∧ H' Dl = some (.lst acc) ∧ All K H' acc ds, ⟨n, by simp, Nat.zero_le _, Mu.refl _ _, [], [], hst' 0 _ _ _ h0 (e2.trans (Ex.new hD)), Nat.le_refl _, rfl, upd_same, .nil⟩, ?_⟩
  rintro i m H' ⟨rfl, hi, mu, acc, ds, iv, dl, lfa, hacc, aa⟩
  have ps0 : Ps (L2.upd H2 Dl (.lst [])) := w.stays [] (by simp) H2 _ w.here (Mu.ex (Ex.new hD))
  have ps : Ps H' := w.stays (Dl :: L) (fun l h => by
    rcases List.mem_cons.mp h with h | h
    · exact .inr (by rw [h]; exact hD)
    · exact .inl h) _ H' ps0 mu
  have mu0 : Mu L H H' := Mu.un hDH (e2.trans (Ex.new hD)) mu
  by_cases hlt : i < n
  · obtain ⟨g1, g2⟩ := w.go H' ps i hlt
    refine .inr ⟨g1, fun H3 => Mu (Dl :: L) (L2.upd H2 Dl (.lst [])) H3 ∧ ∃ acc ds, Inv (i + 1) ds H3 ∧ ds.length ≤ i + 1 ∧ D.lfs ds = true ∧ H3 Dl = some (.lst acc) ∧ All K H3 acc ds, fun H3 q => ⟨n - (i + 1), by omega, rfl, by omega, q.1, q.2⟩, fun x H3 hy => ?_⟩
    obtain ⟨e3, a⟩ := g2 x H3 hy
    have hacc3 := e3 _ _ hacc
    have aa3 := aa.ex e3
    have mu3 := mu.trans (Mu.ex e3)
    refine hs i ds x H3 hlt (hst' i _ _ _ iv e3) (mu0.trans (Mu.ex e3)) a _ _ ?_ ?_
    · intro y H6 e lfe ay iv6 mu6
      have hacc6 := mu6.keep hDL hacc3
      have gt : Gt H6 (L2.upd H6 Dl (.lst (acc ++ [y]))) := Gt.lst hacc6
      refine ⟨acc, hacc6, sz_lt (by
        rw [aa.len]
        omega), (mu3.trans (mu6.more fun a h => List.mem_cons_of_mem _ h)).trans (Mu.upd (List.mem_cons_self ..) hacc6), acc ++ [y], ds ++ [e], hst _ _ Dl _ _ hDH iv6 (Mu.upd (List.mem_singleton.mpr rfl) hacc6), by rw [List.length_append, List.length_singleton]; omega, lfs_app lfa ?_, upd_same, ?_⟩
      · show (e.lf && true) = true
        rw [lfe]
        rfl
      · exact ((aa3.gt mu6.2 lfa).gt gt lfa).app (All.one (ay.gt gt lfe))
    · intro H6 iv6 mu6
      exact ⟨mu3.trans (mu6.more fun a h => List.mem_cons_of_mem _ h), acc, ds, iv6, by omega, lfa, mu6.keep hDL hacc3, aa3.gt mu6.2 lfa⟩
  · have e : i = n := by omega
    subst e
    exact .inl ⟨w.stop H' ps, q Dl acc ds H' hDH mu0 iv hacc aa⟩
end
end WD
end
section
set_option Elab.async false
set_option linter.all false
set_option maxRecDepth 100000
namespace WD
open PySem PySem.Spec PyProof.Rows L2 Evl RZ
section
variable {K : PySem.W.Frag} {σ : L2.St} {H H' : Hp} {ta tb te tx tc : TE} {t u : TT} {d d1 d2 d3 : D} {ds es : List D}
theorem Is.tup_inv {v : V} (h : Is K H v (.tup ds)) : ∃ p xs, v = .ref p ∧ SqT K H p xs ∧ All K H xs ds := by
  cases h with
  | tup h a => exact ⟨_, _, rfl, h, a⟩
theorem tup_gt {p : Addr} {xs : List V} (h : SqT K H p xs) (a : All K H xs ds) (g : Gt H H') (l : D.lfs ds = true) : SqT K H' p xs ∧ All K H' xs ds := by
  have h1 : Is K H' (.ref p) (.tup ds) := Is.gt g (.tup h a) l
  have a1 := a.gt g l
  have h2 := Is.tup h a
  rcases h with h | h
  · exact ⟨.inl (g p xs h), a1⟩
  · exact ⟨.inr h, a1⟩
theorem ei_zipT {L : List Addr} (h : EvD K ta σ H (.tup ds)) (h' : EvD K tb σ H (.tup es)) (hl : es.length ≤ ds.length) (hf : D.lfs ds = true) (hf' : D.lfs es = true) :
    EvI K (iZipA K (tCons ta (tCons tb tNil))) σ L H es.length (fun i => .tup [ds.getD i .non, es.getD i .non]) := fun R r =>
  h H (Ex.refl H) _ fun v H2 e2 i2 => h' H2 e2 _ fun v' H3 e3 i3 => by
    obtain ⟨p, xs, rfl, hp, a⟩ := Is.tup_inv (i2.ex e3)
    obtain ⟨p', xs', rfl, hp', a'⟩ := Is.tup_inv i3
    refine ⟨p, p', xs, xs', rfl, .inr ⟨hp, hp', r (ItzT K p p') H3 (fun H4 => (SqT K H4 p xs ∧ All K H4 xs ds) ∧ SqT K H4 p' xs' ∧ All K H4 xs' es) (e2.trans e3) ⟨⟨⟨hp, a⟩, hp', a'⟩, fun L' hL' H4 H5 q m => ⟨tup_gt q.1.1 q.1.2 m.2 hf, tup_gt q.2.1 q.2.2 m.2 hf'⟩, fun H4 q i hi => ?_, fun H4 q => ⟨xs, xs', q.1.1, q.2.1, .inr ?_⟩⟩⟩⟩
    · obtain ⟨d, hd⟩ : ∃ d, ds[i]? = some d := ⟨_, List.getElem?_eq_getElem (Nat.lt_of_lt_of_le hi hl)⟩
      obtain ⟨d', hd'⟩ : ∃ d, es[i]? = some d := ⟨_, List.getElem?_eq_getElem hi⟩
      obtain ⟨v, hv, b⟩ := q.1.2.get hd
      obtain ⟨v', hv', b'⟩ := q.2.2.get hd'
      refine ⟨⟨xs, xs', v, v', q.1.1, q.2.1, hv, hv'⟩, fun x H5 hy => ?_⟩
      obtain ⟨T, x1, x2, rfl, nT, rfl, f1, f2⟩ := hy
      have g1 := f1 xs q.1.1
      have g2 := f2 xs' q.2.1
      rw [hv] at g1
      rw [hv'] at g2
      cases g1
      cases g2
      rw [getD_some hd, getD_some hd']
      exact ⟨Ex.new nT, .tup (st_of upd_same) (.cons (b.ex (Ex.new nT)) (.cons (b'.ex (Ex.new nT)) .nil))⟩
    · rw [q.2.2.len]
      exact Nat.le_refl _
end
end WD
end
section
set_option Elab.async false
set_option linter.all false
set_option maxRecDepth 100000
namespace PySem
open Sem (wp)
namespace ZN
open PySem.F
/-- a zip that has handed out the tuple at T -/
abbrev Kept (h : Heap) (z TI TO T : Addr) (fl : Bool) : Prop := h.get? z = some { cls := .type "zip", dict := none, data := .fields #[rawInt T, .bool fl, .bool false, .ref TI, .ref TO], slots := #[] }
section
variable {prog : Program} {w : World} {A : Around} {E : Value → Shared → Prop} {s : Shared}
theorem alive_step {a : Addr} {o : Obj} {Q : Option Obj → Shared → Prop} (ho : s.heap.get? a = some o) (h : Q (some o) s) : wpAny (model prog w) A (loadIfAlive a) Q E s := PySem.W.kdx_alive ho h
/-- what was handed out is still there: the zip is marked, and makes its tuples anew -/
theorem free_kept {z TI TO T : Addr} {fl : Bool} {o : Obj} {Q : Bool → Shared → Prop} (hz : Kept s.heap z TI TO T fl) (hT : s.heap.get? T = some o)
    (hQ : ∀ h', Kept h' z TI TO T true → (∀ c o, c ≠ z → s.heap.get? c = some o → h'.get? c = some o) → h'.objs.size = s.heap.objs.size → Q false { s with heap := h' }) :
    wpAny (model prog w) A (Builtin.SmallTypes.ownedTupleIsFree (.ref z)) Q E s := by
  unfold Builtin.SmallTypes.ownedTupleIsFree
  refine wpAny_bind (wpAny_field hz rfl (x := rawInt T) rfl ?_)
  show wpAny _ _ (loadIfAlive ((T : Int)).toNat >>= _) _ _ _
  rw [Int.toNat_natCast]
  refine wpAny_bind (alive_step hT ?_)
  simp only [Option.isNone_some, Bool.false_eq_true, if_false]
  refine wpAny_bind (wpAny_field hz rfl (x := .bool fl) rfl ?_)
  cases fl with
  | true =>
    refine wpAny_ite_split (fun h => absurd h (by decide)) fun _ => ?_
    exact wpAny_pure (hQ s.heap hz (fun _ _ _ e => e) rfl)
  | false =>
    refine wpAny_ite_split (fun _ => ?_) fun h => absurd (by decide) h
    refine wpAny_bind (wpAny_setField_rec hz (by simp) fun h₁ hz₁ hs₁ => ?_)
    exact wpAny_pure (hQ h₁ hz₁ (fun c o n e => hs₁.extBut c o n e) hs₁.1)
theorem next_kept {z TI TO T i1 i2 l1 l2 : Addr} {fl : Bool} {o : Obj} {k1 k2 : Nat} {xs ys : Array Value} {x y : Value} {Q : Value → Shared → Prop} (D : ZipApart z TI TO i1 i2 l1 l2)
    (hz : Kept s.heap z TI TO T fl) (hT : s.heap.get? T = some o) (hTI : IsPair s.heap TI (.ref i1) (.ref i2))
    (h1 : s.heap.IsListIter i1 l1 k1) (h2 : s.heap.IsListIter i2 l2 k2) (hl1 : s.heap.IsList l1 xs) (hl2 : s.heap.IsList l2 ys) (hx : xs[k1]? = some x) (hy : ys[k2]? = some y)
    (hQ : ∀ h', Kept h' z TI TO T true → h'.IsListIter i1 l1 (k1 + 1) → h'.IsListIter i2 l2 (k2 + 1) → IsPair h' s.heap.objs.size x y → h'.objs.size = s.heap.objs.size + 1 →
      (∀ c o, c ≠ z → c ≠ i1 → c ≠ i2 → s.heap.get? c = some o → h'.get? c = some o) → Q (.ref s.heap.objs.size) { s with heap := h' }) :
    wpAny (model prog w) A (Builtin.«zip.__next__» ⟨[.ref z], []⟩) (fun fin s' => ∃ v, fin = .done (.ret v) ∧ Q v s') E s := by
  show wpAny _ _ (field (.ref z) 2 >>= _) _ _ _
  refine wpAny_bind (wpAny_field hz rfl (x := .bool false) rfl ?_)
  show wpAny _ _ (field (.ref z) 3 >>= _) _ _ _
  refine wpAny_bind (wpAny_field hz rfl (x := .ref TI) rfl ?_)
  refine wpAny_bind (wpAny_seqItems hTI rfl ?_)
  show wpAny _ _ (Builtin.SmallTypes.ownedTupleIsFree (.ref z) >>= _) _ _ _
  refine wpAny_bind (free_kept hz hT fun h₁ hz₁ hk₁ n₁ => ?_)
  rw [if_neg (by decide)]
  dsimp only
  simp only [List.forIn_toArray, List.forIn_cons, List.forIn_nil]
  have b1 := h1.at fun o e => hk₁ _ o D.i1z e
  have c1 := hl1.at fun o e => hk₁ _ o D.l1z e
  have b2 := h2.at fun o e => hk₁ _ o D.i2z e
  have c2 := hl2.at fun o e => hk₁ _ o D.l2z e
  refine wpAny_bind (wpAny_bind (wpAny_bind (wpAny_holding ?_)))
  show wpAny _ _ (Builtin.SmallTypes.nextOf (.ref i1) >>= _) _ _ _
  refine wpAny_bind (wpAny_nextOf_list_item b1 c1 hx fun h₂ d1 s₂ => wpAny_pure (wpAny_pure ?_))
  have d2 := b2.extBut s₂.extBut D.i12.symm
  have e2 := c2.extBut s₂.extBut D.l2i1
  show wpAny _ _ _ _ _ _
  refine wpAny_bind (wpAny_bind (wpAny_holding ?_))
  show wpAny _ _ (Builtin.SmallTypes.nextOf (.ref i2) >>= _) _ _ _
  refine wpAny_bind (wpAny_nextOf_list_item d2 e2 hy fun h₃ f2 s₃ => wpAny_pure (wpAny_pure (wpAny_pure ?_)))
  have f1 := d1.extBut s₃.extBut D.i12
  have n₃ : h₃.objs.size = s.heap.objs.size := by rw [s₃.1, s₂.1, n₁]
  have z₃ : Kept h₃ z TI TO T true := s₃.extBut _ _ D.i2z.symm (s₂.extBut _ _ D.i1z.symm hz₁)
  show wpAny _ _ (newTuple [x, y] >>= _) _ _ _
  refine wpAny_bind (wpAny_newTuple ?_)
  refine wpAny_pure ⟨_, rfl, ?_⟩
  have up : ∀ c o, h₃.get? c = some o → (h₃.push { cls := .type "tuple", data := .seq ([x, y] : List Value).toArray }).get? c = some o := fun c o e => Heap.get?_push_of_some _ e
  have k₃ : ∀ c o, c ≠ z → c ≠ i1 → c ≠ i2 → s.heap.get? c = some o → h₃.get? c = some o := fun c o n1 n2 n3 e => s₃.extBut _ _ n3 (s₂.extBut _ _ n2 (hk₁ c o n1 e))
  show Q (.ref h₃.objs.size) _
  rw [n₃]
  exact hQ (h₃.push { cls := .type "tuple", data := .seq ([x, y] : List Value).toArray }) (up _ _ z₃) (f1.at fun o e => up _ o e) (f2.at fun o e => up _ o e) (by rw [← n₃]; exact Heap.get?_push_size _ rfl) (by rw [Heap.size_push, n₃]) fun c o n1 n2 n3 e => up c o (k₃ c o n1 n2 n3 e)
theorem end_kept {z TI TO T i1 i2 l1 l2 : Addr} {fl : Bool} {o : Obj} {k1 : Nat} {xs : Array Value} {Q : Fin → Shared → Prop} (hh : A.handled = none) (D : ZipApart z TI TO i1 i2 l1 l2)
    (hz : Kept s.heap z TI TO T fl) (hT : s.heap.get? T = some o) (hTI : IsPair s.heap TI (.ref i1) (.ref i2))
    (h1 : s.heap.IsListIter i1 l1 k1) (hl1 : s.heap.IsList l1 xs) (hx : xs[k1]? = none)
    (hE : ∀ h' e, (∀ c o, c ≠ z → c ≠ i1 → s.heap.get? c = some o → h'.get? c = some o) → (∃ o, h'.get? e = some o ∧ o.cls = .type "StopIteration") → E (.ref e) { s with heap := h' }) :
    wpAny (model prog w) A (Builtin.«zip.__next__» ⟨[.ref z], []⟩) Q E s := by
  show wpAny _ _ (field (.ref z) 2 >>= _) _ _ _
  refine wpAny_bind (wpAny_field hz rfl (x := .bool false) rfl ?_)
  show wpAny _ _ (field (.ref z) 3 >>= _) _ _ _
  refine wpAny_bind (wpAny_field hz rfl (x := .ref TI) rfl ?_)
  refine wpAny_bind (wpAny_seqItems hTI rfl ?_)
  show wpAny _ _ (Builtin.SmallTypes.ownedTupleIsFree (.ref z) >>= _) _ _ _
  refine wpAny_bind (free_kept hz hT fun h₁ hz₁ hk₁ n₁ => ?_)
  rw [if_neg (by decide)]
  dsimp only
  simp only [List.forIn_toArray, List.forIn_cons, List.forIn_nil]
  refine wpAny_bind (wpAny_bind (wpAny_bind (wpAny_holding ?_)))
  show wpAny _ _ (Builtin.SmallTypes.nextOf (.ref i1) >>= _) _ _ _
  refine wpAny_bind (wpAny_nextOf_list_end hh (h1.at fun o e => hk₁ _ o D.i1z e) (hl1.at fun o e => hk₁ _ o D.l1z e) hx fun h₂ e s₂ he => ?_)
  exact hE h₂ e (fun c o n1 n2 x => s₂ _ _ n2 (hk₁ c o n1 x)) he
theorem pyNext_kept {z TI TO T i1 i2 l1 l2 : Addr} {fl : Bool} {o : Obj} {k1 k2 : Nat} {xs ys : Array Value} {x y : Value} {Q : Option Value → Shared → Prop} (D : ZipApart z TI TO i1 i2 l1 l2)
    (hz : Kept s.heap z TI TO T fl) (hT : s.heap.get? T = some o) (hTI : IsPair s.heap TI (.ref i1) (.ref i2))
    (h1 : s.heap.IsListIter i1 l1 k1) (h2 : s.heap.IsListIter i2 l2 k2) (hl1 : s.heap.IsList l1 xs) (hl2 : s.heap.IsList l2 ys) (hx : xs[k1]? = some x) (hy : ys[k2]? = some y)
    (hQ : ∀ h', Kept h' z TI TO T true → h'.IsListIter i1 l1 (k1 + 1) → h'.IsListIter i2 l2 (k2 + 1) → IsPair h' s.heap.objs.size x y → h'.objs.size = s.heap.objs.size + 1 →
      (∀ c o, c ≠ z → c ≠ i1 → c ≠ i2 → s.heap.get? c = some o → h'.get? c = some o) → Q (some (.ref s.heap.objs.size)) { s with heap := h' }) : wpAny (model prog w) A (pyNext (.ref z)) Q E s := by
  have ty : s.TypeIs (.ref z) "zip" := ⟨_, hz, rfl⟩
  unfold pyNext
  refine wpAny_bind (wpAny_attempt (wpAny_callSpecial?_slot (name := Str.ofString "__next__") ty slot_zip_next (wpAny_call_entry slot_zip_next ty entry_zip_next ?_ (args_zip_next_1 _))))
  exact next_kept D hz hT hTI h1 h2 hl1 hl2 hx hy fun h' a1 a2 a3 a4 a5 a6 => wpAny_pure (hQ h' a1 a2 a3 a4 a5 a6)
theorem pyNext_over {z TI TO T i1 i2 l1 l2 : Addr} {fl : Bool} {o : Obj} {k1 : Nat} {xs : Array Value} {Q : Option Value → Shared → Prop} (hh : A.handled = none) (D : ZipApart z TI TO i1 i2 l1 l2)
    (hz : Kept s.heap z TI TO T fl) (hT : s.heap.get? T = some o) (hTI : IsPair s.heap TI (.ref i1) (.ref i2)) (h1 : s.heap.IsListIter i1 l1 k1) (hl1 : s.heap.IsList l1 xs) (hx : xs[k1]? = none)
    (hQ : ∀ h', (∀ c o, c ≠ z → c ≠ i1 → s.heap.get? c = some o → h'.get? c = some o) → Q none { s with heap := h' }) : wpAny (model prog w) A (pyNext (.ref z)) Q E s := by
  have ty : s.TypeIs (.ref z) "zip" := ⟨_, hz, rfl⟩
  unfold pyNext
  refine wpAny_bind (wpAny_attempt (wpAny_callSpecial?_slot (name := Str.ofString "__next__") ty slot_zip_next (wpAny_call_entry slot_zip_next ty entry_zip_next (end_kept hh D hz hT hTI h1 hl1 hx fun h' e hk he => ?_) (args_zip_next_1 _))))
  obtain ⟨oe, ho, hc⟩ := he
  refine wpAny_bind (wpAny_isInstance (T := "StopIteration") (b := true) ⟨oe, ho, hc⟩ isSubtype_stop ?_)
  exact wpAny_pure (hQ _ hk)
/-- where list(zip(..)) stands behind i tuples, which lie at as -/
structure Zs (h : Heap) (z TI TO i1 i2 l1 l2 S : Addr) (xs ys : Array Value) (i : Nat) (as : List Addr) : Prop where
  st : (as = [] ∧ IsZip h z TI TO .none ∧ ∃ a b, IsPair h TO a b) ∨ (∃ T fl, T ∈ as ∧ Kept h z TI TO T fl)
  ti : IsPair h TI (.ref i1) (.ref i2)
  h1 : h.IsListIter i1 l1 i
  h2 : h.IsListIter i2 l2 i
  q1 : h.IsList l1 xs
  q2 : h.IsList l2 ys
  le : as.length = i
  ps : ∀ (j : Nat) (a : Addr), as[j]? = some a → ∃ x y, xs[j]? = some x ∧ ys[j]? = some y ∧ IsPair h a x y
  ap : ∀ a ∈ as, a ≠ z ∧ a ≠ TO ∧ a ≠ i1 ∧ a ≠ i2 ∧ S < a
  up : as.Pairwise (· < ·)
theorem Zs.over {h h' : Heap} {z TI TO i1 i2 l1 l2 S : Addr} {xs ys : Array Value} {i : Nat} {as : List Addr} (q : Zs h z TI TO i1 i2 l1 l2 S xs ys i as) (hz : z ≠ S) (hTI : TI ≠ S) (hTO : TO ≠ S) (hi1 : i1 ≠ S) (hi2 : i2 ≠ S) (hl1 : l1 ≠ S) (hl2 : l2 ≠ S)
    (k : ∀ c o, c ≠ S → h.get? c = some o → h'.get? c = some o) : Zs h' z TI TO i1 i2 l1 l2 S xs ys i as := by
  refine ⟨?_, k _ _ hTI q.ti, q.h1.at fun o e => k _ o hi1 e, q.h2.at fun o e => k _ o hi2 e, q.q1.at fun o e => k _ o hl1 e, q.q2.at fun o e => k _ o hl2 e, q.le, fun j a ha => ?_, q.ap, q.up⟩
  · rcases q.st with ⟨e, a, b, c, d⟩ | ⟨T, fl, m, d⟩
    · exact .inl ⟨e, k _ _ hz a, b, c, k _ _ hTO d⟩
    · exact .inr ⟨T, fl, m, k _ _ hz d⟩
  · obtain ⟨x, y, e1, e2, e3⟩ := q.ps j a ha
    exact ⟨x, y, e1, e2, k _ _ (Nat.ne_of_gt (q.ap a (List.mem_of_getElem? ha)).2.2.2.2) e3⟩
theorem step_item {z TI TO i1 i2 l1 l2 S : Addr} {xs ys : Array Value} {i : Nat} {as : List Addr} {x y : Value} {Q : Option Value → Shared → Prop} (D : ZipApart z TI TO i1 i2 l1 l2) (hS : S < s.heap.objs.size) (zs : Zs s.heap z TI TO i1 i2 l1 l2 S xs ys i as) (hx : xs[i]? = some x) (hy : ys[i]? = some y)
    (hTOl : TO < s.heap.objs.size)
    (hQ : ∀ h' a, Zs h' z TI TO i1 i2 l1 l2 S xs ys (i + 1) (as ++ [a]) → a = s.heap.objs.size → h'.objs.size = s.heap.objs.size + 1 → (∀ c o, c ≠ z → c ≠ TO → c ≠ i1 → c ≠ i2 → s.heap.get? c = some o → h'.get? c = some o) → Q (some (.ref a)) { s with heap := h' }) : wpAny (model prog w) A (pyNext (.ref z)) Q E s := by
  have lz : z < s.heap.objs.size := by
    rcases zs.st with ⟨_, a, _⟩ | ⟨T, fl, _, d⟩
    · exact Heap.lt_size a
    · exact Heap.lt_size d
  have li1 : i1 < s.heap.objs.size := by obtain ⟨_, e, _⟩ := zs.h1; exact Heap.lt_size e
  have li2 : i2 < s.heap.objs.size := by obtain ⟨_, e, _⟩ := zs.h2; exact Heap.lt_size e
  have fin : ∀ h', (∃ fl T, T ∈ as ++ [s.heap.objs.size] ∧ Kept h' z TI TO T fl) → h'.IsListIter i1 l1 (i + 1) → h'.IsListIter i2 l2 (i + 1) → IsPair h' s.heap.objs.size x y → h'.objs.size = s.heap.objs.size + 1 →
      (∀ c o, c ≠ z → c ≠ TO → c ≠ i1 → c ≠ i2 → s.heap.get? c = some o → h'.get? c = some o) → Q (some (.ref s.heap.objs.size)) { s with heap := h' } := by
    rintro h' ⟨fl, T, hm, hk⟩ a1 a2 a3 a4 k
    refine hQ h' _ ⟨.inr ⟨T, fl, hm, hk⟩, k _ _ D.TIz D.TITO D.TIi1 D.TIi2 zs.ti, a1, a2, zs.q1.at fun o e => k _ o D.l1z D.l1TO D.l1i1 D.l1i2 e, zs.q2.at fun o e => k _ o D.l2z D.l2TO D.l2i1 D.l2i2 e, by rw [List.length_append, zs.le]; rfl, fun j a ha => ?_, fun a ha => ?_, ?_⟩ rfl a4 k
    · rcases Nat.lt_or_ge j as.length with hj | hj
      · rw [List.getElem?_append_left hj] at ha
        obtain ⟨x', y', e1, e2, e3⟩ := zs.ps j a ha
        obtain ⟨n1, n2, n3, n4, n5⟩ := zs.ap a (List.mem_of_getElem? ha)
        exact ⟨x', y', e1, e2, k _ _ n1 n2 n3 n4 e3⟩
      · rw [List.getElem?_append_right hj] at ha
        have hj0 : j - as.length = 0 := by
          cases hd : j - as.length with
          | zero => rfl
          | succ m =>
            rw [hd] at ha
            simp at ha
        rw [hj0] at ha
        cases ha
        have : j = i := by
          have := zs.le
          omega
        subst this
        exact ⟨x, y, hx, hy, a3⟩
    · rcases List.mem_append.mp ha with ha | ha
      · exact zs.ap a ha
      · rw [List.mem_singleton.mp ha]
        exact ⟨Nat.ne_of_gt lz, Nat.ne_of_gt hTOl, Nat.ne_of_gt li1, Nat.ne_of_gt li2, hS⟩
    · refine List.pairwise_append.mpr ⟨zs.up, List.pairwise_singleton _ _, fun a ha b hb => ?_⟩
      rw [List.mem_singleton.mp hb]
      obtain ⟨j, hj⟩ := List.getElem?_of_mem ha
      obtain ⟨_, _, _, _, e3⟩ := zs.ps j a hj
      exact Heap.lt_size e3
  rcases zs.st with ⟨e, hz, b, c, hTO⟩ | ⟨T, fl, hm, hk⟩
  · exact wpAny_pyNext_zip_item D hz zs.ti hTO zs.h1 zs.h2 zs.q1 zs.q2 hx hy fun h' a1 a2 a3 a4 a5 a6 a7 => fin h' ⟨false, s.heap.objs.size, by simp, a1⟩ a3 a4 a5 a6 a7
  · obtain ⟨j, hj⟩ := List.getElem?_of_mem hm
    obtain ⟨x', y', _, _, e3⟩ := zs.ps j T hj
    exact pyNext_kept D hk e3 zs.ti zs.h1 zs.h2 zs.q1 zs.q2 hx hy fun h' a1 a2 a3 a4 a5 a6 => fin h' ⟨true, T, List.mem_append_left _ hm, a1⟩ a2 a3 a4 a5 fun c o n1 _ n3 n4 e => a6 c o n1 n3 n4 e
theorem step_over {z TI TO i1 i2 l1 l2 S : Addr} {xs ys : Array Value} {i : Nat} {as : List Addr} {Q : Option Value → Shared → Prop} (hh : A.handled = none) (D : ZipApart z TI TO i1 i2 l1 l2) (zs : Zs s.heap z TI TO i1 i2 l1 l2 S xs ys i as) (hx : xs[i]? = none)
    (hQ : ∀ h', (∀ c o, c ≠ z → c ≠ TO → c ≠ i1 → c ≠ i2 → s.heap.get? c = some o → h'.get? c = some o) → Q none { s with heap := h' }) : wpAny (model prog w) A (pyNext (.ref z)) Q E s := by
  rcases zs.st with ⟨e, hz, b, c, hTO⟩ | ⟨T, fl, hm, hk⟩
  · exact wpAny_pyNext_zip_end hh D hz zs.ti hTO zs.h1 zs.h2 zs.q1 zs.q2 (.inl hx) hQ
  · obtain ⟨j, hj⟩ := List.getElem?_of_mem hm
    obtain ⟨x', y', _, _, e3⟩ := zs.ps j T hj
    exact pyNext_over hh D hk e3 zs.ti zs.h1 zs.q1 hx fun h' k => hQ h' fun c o n1 _ n3 _ e => k c o n1 n3 e
variable {R : Result → Shared → Prop}
/-- the loop that takes all that a zip gives -/
theorem loop {z TI TO i1 i2 l1 l2 S : Addr} {xs ys : Array Value} (hh : A.handled = none) (D : ZipApart z TI TO i1 i2 l1 l2) (hxy : xs.size = ys.size) (hn : xs.size ≤ sizeLine) (hz : z ≠ S) (hTI : TI ≠ S) (hTO : TO ≠ S) (hi1 : i1 ≠ S) (hi2 : i2 ≠ S) (hl1 : l1 ≠ S) (hl2 : l2 ≠ S) (res : Value) (h₀ : Heap)
    (hold : ∀ c o, h₀.get? c = some o → c ≠ z ∧ c ≠ TO ∧ c ≠ i1 ∧ c ≠ i2 ∧ c ≠ S)
    (hR : ∀ h' tk acc c (as : List Addr), (∀ c o, h₀.get? c = some o → h'.get? c = some o) → h'.get? S = some { cls := .type "list", dict := none, data := .seq acc c, slots := #[] } → acc.toList = as.map Value.ref → as.length = xs.size →
      (∀ (j : Nat) (a : Addr), as[j]? = some a → ∃ x y, xs[j]? = some x ∧ ys[j]? = some y ∧ IsPair h' a x y) → (∀ a ∈ as, S < a) → as.Pairwise (· < ·) → R (.ok (.ret res)) { s with heap := h', toks := tk }) :
    ∀ (m i : Nat) (h : Heap) (tk : Nat) (acc : Array Value) (c : Nat) (as : List Addr), xs.size - i = m → i ≤ xs.size → Zs h z TI TO i1 i2 l1 l2 S xs ys i as → TO < h.objs.size → (∀ c o, h₀.get? c = some o → h.get? c = some o) →
      h.get? S = some { cls := .type "list", dict := none, data := .seq acc c, slots := #[] } → acc.toList = as.map Value.ref →
      codeAny (model prog w) A (.builtin "list.extend.loop" ⟨[.ref S, .ref z, res], []⟩) R { s with heap := h, toks := tk } := by
  intro m
  induction m with
  | zero =>
    intro i h tk acc c as hm hi zs lTO kp hS ha
    have e : i = xs.size := by omega
    refine codeAny_builtin entry_extend_loop ?_
    rw [Around.under_plainId plain_extend_loop _]
    show wpAny _ A.in1 (pyNext (.ref z) >>= _) _ _ _
    refine wpAny_bind (step_over (A := A.in1) hh D zs (by rw [e]; simp) fun h' k => ?_)
    refine wpAny_pure (hR h' tk acc c as (fun c o x => ?_) (k _ _ hz.symm hTO.symm hi1.symm hi2.symm hS) ha (by rw [zs.le, e]) (fun j a hj => ?_) (fun a x => (zs.ap a x).2.2.2.2) zs.up)
    · obtain ⟨n1, n2, n3, n4, _⟩ := hold c o x
      exact k c o n1 n2 n3 n4 (kp c o x)
    · obtain ⟨x, y, e1, e2, e3⟩ := zs.ps j a hj
      obtain ⟨n1, n2, n3, n4, _⟩ := zs.ap a (List.mem_of_getElem? hj)
      exact ⟨x, y, e1, e2, k _ _ n1 n2 n3 n4 e3⟩
  | succ m ih =>
    intro i h tk acc c as hm hi zs lTO kp hS ha
    have lt : i < xs.size := by omega
    have lt2 : i < ys.size := by omega
    refine codeAny_builtin entry_extend_loop ?_
    rw [Around.under_plainId plain_extend_loop _]
    show wpAny _ A.in1 (pyNext (.ref z) >>= _) _ _ _
    refine wpAny_bind (step_item (A := A.in1) D (Heap.lt_size hS) zs (Array.getElem?_eq_getElem lt) (Array.getElem?_eq_getElem lt2) lTO fun h' a zs' ea es k => ?_)
    have hS' := k _ _ hz.symm hTO.symm hi1.symm hi2.symm hS
    show wpAny _ A.in1 (updateSeq S (·.push (.ref a)) >>= _) _ _ _
    have as1 : acc.size = i := by
      rw [← Array.length_toList, ha, List.length_map, zs.le]
    refine wpAny_bind (wpAny_updateSeq hS' rfl (wpAny_pure ⟨plainId_quiet plain_extend_loop _, ?_⟩) (by rw [as1]; omega) (by show (acc.push (.ref a)).size ≤ sizeLine + 1; rw [Array.size_push, as1]; omega))
    have oth : ∀ b o, b ≠ S → h'.get? b = some o → (h'.update S (Obj.mapSeq (·.push (.ref a)))).get? b = some o := fun b o n e => (Heap.get?_update_other _ _ n.symm).trans e
    refine ih (i + 1) (h'.update S (Obj.mapSeq (·.push (.ref a)))) tk (acc.push (.ref a)) _ (as ++ [a]) (by omega) (by omega) (zs'.over hz hTI hTO hi1 hi2 hl1 hl2 oth) ?_ (fun c o x => ?_) (Heap.get?_update_self _ hS' rfl) (by rw [Array.toList_push, ha, List.map_append]; rfl)
    · have : (h'.update S (Obj.mapSeq (·.push (.ref a)))).objs.size = h'.objs.size := (Heap.SameBut.update ..).1
      rw [this, es]
      exact Nat.lt_succ_of_lt lTO
    · obtain ⟨n1, n2, n3, n4, n5⟩ := hold c o x
      exact oth c o n5 (k c o n1 n2 n3 n4 (kp c o x))
theorem zip_no_len : typeLookup (.type "zip") "__len__" = pure none := by rw [typeLookup_type, builtinLookup_eq_fast]; kernel_rfl
theorem zip_no_hint : typeLookup (.type "zip") "__length_hint__" = pure none := by rw [typeLookup_type, builtinLookup_eq_fast]; kernel_rfl
theorem extend_zip {z TI TO i1 i2 l1 l2 S : Addr} {xs ys : Array Value} (hh : A.handled = none) (D : ZipApart z TI TO i1 i2 l1 l2) (hxy : xs.size = ys.size) (hn : xs.size ≤ sizeLine) (hz : z ≠ S) (hTI : TI ≠ S) (hTO : TO ≠ S) (hi1 : i1 ≠ S) (hi2 : i2 ≠ S) (hl1 : l1 ≠ S) (hl2 : l2 ≠ S) (res : Value) (h₀ : Heap) (c₀ : Nat)
    (hold : ∀ c o, h₀.get? c = some o → c ≠ z ∧ c ≠ TO ∧ c ≠ i1 ∧ c ≠ i2 ∧ c ≠ S) (kp : ∀ c o, h₀.get? c = some o → s.heap.get? c = some o) (zs : Zs s.heap z TI TO i1 i2 l1 l2 S xs ys 0 []) (lTO : TO < s.heap.objs.size)
    (hS : s.heap.get? S = some { cls := .type "list", data := .seq #[] c₀ })
    (hR : ∀ h' tk acc c (as : List Addr), (∀ c o, h₀.get? c = some o → h'.get? c = some o) → h'.get? S = some { cls := .type "list", dict := none, data := .seq acc c, slots := #[] } → acc.toList = as.map Value.ref → as.length = xs.size →
      (∀ (j : Nat) (a : Addr), as[j]? = some a → ∃ x y, xs[j]? = some x ∧ ys[j]? = some y ∧ IsPair h' a x y) → (∀ a ∈ as, S < a) → as.Pairwise (· < ·) → R (.ok (.ret res)) { s with heap := h', toks := tk }) :
    wpAny (model prog w) A.in1 (Builtin.List.listExtendWith (.ref S) (.ref z) res)
      (fun fin s' => match fin with | .done f => R (.ok f) s' | .again c' => c'.quiet = true ∧ codeAny (model prog w) A c' R s') (fun e s' => R (.error e) s') s := by
  obtain ⟨zo, ezo, czo⟩ : ∃ f0, IsZip s.heap z TI TO f0 ∧ f0 = .none := by
    rcases zs.st with ⟨_, a, _⟩ | ⟨T, fl, m, _⟩
    · exact ⟨_, a, rfl⟩
    · cases m
  have ty : s.TypeIs (.ref z) "zip" := ⟨_, ezo, rfl⟩
  unfold Builtin.List.listExtendWith
  refine wpAny_bind (wpAny_typeOf ty ?_)
  have e1 : Builtin.List.listSameRef (.ref S) (.ref z) = false := by simp [Builtin.List.listSameRef, hz.symm]
  have e2 : (Value.type "zip" == Value.type "list") = false := by decide
  have e3 : (Value.type "zip" == Value.type "tuple") = false := by decide
  simp only [e1, e2, e3, Bool.or_false, Bool.false_eq_true, if_false]
  refine wpAny_bind (wpAny_pyIter_zip ezo ?_)
  refine wpAny_bind (wpAny_holding ?_)
  unfold Builtin.List.listLengthHint
  refine wpAny_bind (wpAny_specialOf ty zip_no_len ?_)
  show wpAny _ A.in1 (specialOf (Value.ref z) (Str.ofString "__length_hint__") >>= _) _ _ _
  refine wpAny_bind (wpAny_specialOf ty zip_no_hint ?_)
  refine wpAny_pure ?_
  show wpAny _ A.in1 (rule "list.extend.makes-room" >>= fun _ => Builtin.List.listTouch (.ref S) >>= fun _ => again (.builtin "list.extend.loop" ⟨[.ref S, .ref z, res], []⟩)) _ _ _
  refine wpAny_bind (wpAny_rule ?_)
  refine wpAny_bind ?_
  show wpAny _ A.in1 (updateSeq S (·.push .none) >>= fun _ => updateSeq S (·.pop)) _ _ _
  refine wpAny_bind (wpAny_updateSeq hS rfl ?_)
  have u1 := Heap.get?_update_self (Obj.mapSeq (·.push Value.none)) hS rfl
  refine wpAny_updateSeq (hz := by seq_fits) u1 rfl ?_
  have u2 := Heap.get?_update_self (Obj.mapSeq (·.pop)) u1 rfl
  have oth : ∀ b o, b ≠ S → s.heap.get? b = some o → ((s.heap.update S (Obj.mapSeq (·.push Value.none))).update S (Obj.mapSeq (·.pop))).get? b = some o :=
    fun b o n e => (Heap.get?_update_other _ _ n.symm).trans ((Heap.get?_update_other _ _ n.symm).trans e)
  refine wpAny_pure ⟨plainId_quiet plain_extend_loop _, ?_⟩
  refine loop (s := s) hh D hxy hn hz hTI hTO hi1 hi2 hl1 hl2 res h₀ hold hR xs.size 0 _ _ #[] _ [] (Nat.sub_zero _) (Nat.zero_le _) (zs.over hz hTI hTO hi1 hi2 hl1 hl2 oth) ?_ (fun c o e => oth c o (hold c o e).2.2.2.2 (kp c o e)) u2 rfl
  have z1 : ((s.heap.update S (Obj.mapSeq (·.push Value.none))).update S (Obj.mapSeq (·.pop))).objs.size = s.heap.objs.size := ((Heap.SameBut.update ..).1).trans (Heap.SameBut.update ..).1
  rw [z1]
  exact lTO
theorem list_of_zip {z TI TO i1 i2 l1 l2 : Addr} {xs ys : Array Value} {Q : Value → Shared → Prop} (hh : A.handled = none) (D : ZipApart z TI TO i1 i2 l1 l2) (hxy : xs.size = ys.size) (hn : xs.size ≤ sizeLine) (hz : IsZip s.heap z TI TO .none) (hTI : IsPair s.heap TI (.ref i1) (.ref i2)) (hTO : ∃ a b, IsPair s.heap TO a b)
    (h1 : s.heap.IsListIter i1 l1 0) (h2 : s.heap.IsListIter i2 l2 0) (q1 : s.heap.IsList l1 xs) (q2 : s.heap.IsList l2 ys) (h₀ : Heap) (hold : ∀ c o, h₀.get? c = some o → c ≠ z ∧ c ≠ TO ∧ c ≠ i1 ∧ c ≠ i2) (kp : ∀ c o, h₀.get? c = some o → s.heap.get? c = some o)
    (hQ : ∀ h' tk acc c (as : List Addr), (∀ c o, h₀.get? c = some o → h'.get? c = some o) → h'.get? s.heap.objs.size = some { cls := .type "list", dict := none, data := .seq acc c, slots := #[] } → acc.toList = as.map Value.ref → as.length = xs.size →
      (∀ (j : Nat) (a : Addr), as[j]? = some a → ∃ x y, xs[j]? = some x ∧ ys[j]? = some y ∧ IsPair h' a x y) → (∀ a ∈ as, s.heap.objs.size < a) → as.Pairwise (· < ·) → Q (.ref s.heap.objs.size) { s with heap := h', toks := tk }) :
    wpAny (model prog w) A (call (.type "list") [.ref z]) Q E s := by
  have up : ∀ c o, s.heap.get? c = some o → (s.heap.push { cls := .type "list", data := .seq #[] }).get? c = some o := fun c o e => Heap.get?_push_of_some _ e
  have ne : ∀ {c : Addr} {o : Obj}, s.heap.get? c = some o → c ≠ s.heap.objs.size := fun e => Nat.ne_of_lt (Heap.lt_size e)
  obtain ⟨pa, pb, hTO⟩ := hTO
  have n1 : i1 ≠ s.heap.objs.size := by obtain ⟨_, e, _⟩ := h1; exact ne e
  have n2 : i2 ≠ s.heap.objs.size := by obtain ⟨_, e, _⟩ := h2; exact ne e
  have n3 : l1 ≠ s.heap.objs.size := by obtain ⟨_, e, _⟩ := q1; exact ne e
  have n4 : l2 ≠ s.heap.objs.size := by obtain ⟨_, e, _⟩ := q2; exact ne e
  refine callType_codes (Q₁ := fun obj s₁ => obj = .ref s.heap.objs.size ∧ s₁ = { s with heap := s.heap.push { cls := .type "list", data := .seq #[] } }) called_list (typeCall_list_1 _) entry_list_init (code_list_new _ ⟨rfl, rfl⟩) fun obj s₁ he => ?_
  obtain ⟨rfl, rfl⟩ := he
  have hS : (s.heap.push { cls := .type "list", data := .seq #[] }).get? s.heap.objs.size = some { cls := .type "list", data := .seq #[] } := Heap.get?_push_size _ rfl
  refine ⟨⟨_, hS, rfl⟩, args_list_init_2 _ _, ?_⟩
  show wpAny _ _ (do let old ← Builtin.List.listItems (.ref s.heap.objs.size); Builtin.List.listUpdate (.ref s.heap.objs.size) (fun _ => #[]); letGo old.toList.reverse; Builtin.List.listExtendWith (.ref s.heap.objs.size) (.ref z) .none) _ _ _
  refine wpAny_bind ?_
  unfold Builtin.List.listItems
  refine wpAny_bind (wpAny_seqItems hS rfl (wpAny_pure ?_))
  show wpAny _ _ (updateSeq s.heap.objs.size (fun _ => #[]) >>= fun _ => letGo (#[] : Array Value).toList.reverse >>= fun _ => Builtin.List.listExtendWith (.ref s.heap.objs.size) (.ref z) .none) _ _ _
  refine wpAny_bind (wpAny_updateSeq hS rfl ?_)
  have u1 := Heap.get?_update_self (Obj.mapSeq (fun _ => (#[] : Array Value))) hS rfl
  have oth : ∀ c o, s.heap.get? c = some o → ((s.heap.push { cls := .type "list", data := .seq #[] }).update s.heap.objs.size (Obj.mapSeq (fun _ => (#[] : Array Value)))).get? c = some o := fun c o e => (Heap.get?_update_other _ _ (ne e).symm).trans (up c o e)
  refine wpAny_bind (wpAny_letGo ?_)
  refine extend_zip (A := A.in1) hh D hxy hn (ne hz) (ne hTI) (ne hTO) n1 n2 n3 n4 .none h₀ _ (fun c o e => ⟨(hold c o e).1, (hold c o e).2.1, (hold c o e).2.2.1, (hold c o e).2.2.2, ne (kp c o e)⟩) (fun c o e => oth c o (kp c o e))
    ⟨.inl ⟨rfl, oth _ _ hz, pa, pb, oth _ _ hTO⟩, oth _ _ hTI, h1.at fun o e => oth _ o e, h2.at fun o e => oth _ o e, q1.at fun o e => oth _ o e, q2.at fun o e => oth _ o e, rfl, fun j a h => by simp at h, (fun a h => nomatch h), List.Pairwise.nil⟩ (Heap.lt_size (oth _ _ hTO)) u1
    fun h' tk acc c as a1 a2 a3 a4 a5 a6 a7 => ⟨rfl, hQ h' tk acc c as a1 a2 a3 a4 a5 a6 a7⟩
end
end ZN
end PySem
end
section
set_option Elab.async false
set_option linter.all false
set_option maxRecDepth 100000
set_option maxHeartbeats 2000000
namespace ZL
open PySem PySem.Spec PyProof.Rows L2
/-- tuples of two at their addresses -/
def putZ : Hp → List Addr → List V → List V → Hp
  | H, a :: as, x :: xs, y :: ys => putZ (upd H a (.tup [x, y])) as xs ys
  | H, _, _, _ => H
theorem putZ_off {b : Addr} : ∀ (as : List Addr) (xs ys : List V) (H : Hp), b ∉ as → putZ H as xs ys b = H b
  | [], _, _, _, _ => rfl
  | _ :: _, [], _, _, _ => rfl
  | _ :: _, _ :: _, [], _, _ => rfl
  | a :: as, x :: xs, y :: ys, H, h => by
    have h1 := putZ_off as xs ys (upd H a (.tup [x, y])) fun z => h (List.mem_cons_of_mem _ z)
    have h2 : b ≠ a := fun z => h (by rw [z]; exact List.mem_cons_self ..)
    exact h1.trans (upd_ne h2)
theorem putZ_at : ∀ (as : List Addr) (xs ys : List V) (H : Hp), as.length = xs.length → as.length = ys.length → as.Nodup → ∀ (j : Nat) (t : Addr) (x y : V), as[j]? = some t → xs[j]? = some x → ys[j]? = some y → putZ H as xs ys t = some (.tup [x, y])
  | [], _, _, _, _, _, _, j, t, x, y, h, _, _ => by simp at h
  | _ :: _, [], _, _, h, _, _, _, _, _, _, _, _, _ => by cases h
  | _ :: _, _ :: _, [], _, _, h, _, _, _, _, _, _, _, _ => by cases h
  | a :: as, x :: xs, y :: ys, H, h1, h2, nd, j, t, u, v, e1, e2, e3 => by
    have n := List.nodup_cons.mp nd
    cases j with
    | zero =>
      cases e1
      cases e2
      cases e3
      show putZ (upd H a (.tup [x, y])) as xs ys a = _
      rw [putZ_off as xs ys _ n.1]
      exact upd_same
    | succ j => exact putZ_at as xs ys _ (Nat.succ.inj h1) (Nat.succ.inj h2) n.2 j t u v e1 e2 e3
theorem vals_at : ∀ {xs : List V} {us : List Value}, Vals xs us → ∀ {j : Nat} {u : Value}, us[j]? = some u → ∃ x, xs[j]? = some x ∧ RelV x u
  | _, _, .nil, j, u, h => by simp at h
  | _, _, .cons r t, 0, u, h => by
    cases h
    exact ⟨_, rfl, r⟩
  | _, _, .cons r t, j + 1, u, h => vals_at t h
section
variable {X : Cx} {e e2 : Expr} {ta : TA} {p p2 pos pos2 : Pos}
theorem laid {pins : List (Addr × Obj)} {σ : L2.St} {H : Hp} {s : Shared} {h' : Heap} {tk : Nat} {xs ys : List V} {us vs : List Value} {acc : Array Value} {c : Nat} {as : List Addr} {S : Addr} (I : Inv X pins σ H s) (hz : xs.length ≤ sizeLine) (r1 : Vals xs us) (r2 : Vals ys vs) (hxy : xs.length = ys.length)
    (hk : ∀ b o, s.heap.get? b = some o → h'.get? b = some o) (hSl : s.heap.objs.size ≤ S) (hS : h'.get? S = some { cls := .type "list", dict := none, data := .seq acc c, slots := #[] }) (hl : as.length = xs.length) (hacc : acc.toList = as.map Value.ref) (abv : ∀ a ∈ as, S < a) (up : as.Pairwise (· < ·))
    (hp : ∀ (j : Nat) (a : Addr), as[j]? = some a → ∃ x y, us[j]? = some x ∧ vs[j]? = some y ∧ IsPair h' a x y) :
    ∃ H' : Hp, (∀ b o, H b = some o → H' b = some o) ∧ H S = none ∧ (∀ t ∈ as, H t = none) ∧ S ∉ as ∧ H' S = some (.lst (as.map V.ref)) ∧ (∀ (j : Nat) (t : Addr) (x y : V), as[j]? = some t → xs[j]? = some x → ys[j]? = some y → H' t = some (.tup [x, y])) ∧ Inv X pins σ H' { s with heap := h', toks := tk } := by
  have sn : S ∉ as := fun z => Nat.lt_irrefl _ (abv _ z)
  have nd : as.Nodup := List.Pairwise.imp (fun {a b} (h : a < b) => Nat.ne_of_lt h) up
  have new : ∀ t ∈ as, H t = none := fun t ht => I.hok.fresh (Nat.le_of_lt (Nat.lt_of_le_of_lt hSl (abv t ht)))
  have newS : H S = none := I.hok.fresh hSl
  generalize hH0 : upd H S (.lst (as.map V.ref)) = H0
  have a1 : H0 S = some (.lst (as.map V.ref)) := by rw [← hH0]; exact upd_same
  have a2 : ∀ b, b ≠ S → H0 b = H b := fun b n => by rw [← hH0]; exact upd_ne n
  have off : ∀ b, b ∉ as → b ≠ S → putZ H0 as xs ys b = H b := fun b n1 n2 => (putZ_off as xs ys H0 n1).trans (a2 b n2)
  have low : ∀ b o, s.heap.get? b = some o → b ∉ as ∧ b ≠ S := fun b o e => ⟨fun z => absurd (Heap.lt_size e) (Nat.not_lt.mpr (Nat.le_of_lt (Nat.lt_of_le_of_lt hSl (abv b z)))), fun z => absurd (Heap.lt_size e) (Nat.not_lt.mpr (by rw [z]; exact hSl))⟩
  have kp : ∀ b u, H b = some u → putZ H0 as xs ys b = some u := fun b u e => by
    rw [off b (fun z => by rw [new b z] at e; cases e) (fun z => by rw [z, newS] at e; cases e)]
    exact e
  have eS : putZ H0 as xs ys S = some (.lst (as.map V.ref)) := (putZ_off as xs ys H0 sn).trans a1
  have at' := putZ_at as xs ys H0 hl (hl.trans hxy) nd
  refine ⟨putZ H0 as xs ys, kp, newS, new, sn, eS, at', ?_⟩
  refine I.call' (ch := []) rfl ⟨fun b o q _ _ _ => hk b o q, fun b o q _ _ _ => ⟨o.slots, hk b o q⟩, fun b o q n _ => ?_, fun b o q _ => ⟨o, hk b o q⟩, fun b xs q => kp b _ q, fun b o u q => kp b _ q, fun b ps q => ⟨#[], by rw [kp b _ q]; simp⟩⟩ (fun b u q => ?_) I.bare fun b z => by simp at z
  · obtain ⟨z1, z2⟩ := low b o q
    exact (off b z1 z2).trans n
  · by_cases hb : b ∈ as
    · obtain ⟨j, hj⟩ := List.getElem?_of_mem hb
      obtain ⟨x, y, f1, f2, f3⟩ := hp j b hj
      obtain ⟨x', g1, g2⟩ := vals_at r1 f1
      obtain ⟨y', g3, g4⟩ := vals_at r2 f2
      rw [at' j b x' y' hj g1 g3] at q
      cases q
      exact ⟨by show 2 ≤ sizeLine; decide, [x, y], .cons g2 (.cons g4 .nil), ⟨_, f3, rfl, _, rfl⟩⟩
    · by_cases hb2 : b = S
      · rw [hb2] at q ⊢
        rw [eS] at q
        cases q
        refine ⟨by rw [List.length_map]; omega, acc.toList, c, by rw [hacc]; exact LiI.vals_refs as, ?_⟩
        rw [Array.toArray_toList]
        exact hS
      · rw [off b hb hb2] at q
        exact (I.hok b u q).stay (fun d v _ y => hk d v y) (fun d y => kp d _ y) fun d xs y => kp d _ y
/-- list(zip(e, e2)) of two lists of one length -/
def tListZip (K : PySem.W.Frag) (ta : TA) : TE := fun σ H Q => ta σ H fun vs H1 => ∃ a b xs ys, vs = [.ref a, .ref b] ∧ SqL K H1 a xs ∧ SqL K H1 b ys ∧ xs.length = ys.length ∧
  ∀ (H' : Hp) (p : Addr) (ts : List Addr), (∀ b o, H1 b = some o → H' b = some o) → H1 p = none → (∀ t ∈ ts, H1 t = none) → p ∉ ts → H' p = some (.lst (ts.map V.ref)) → ts.length = xs.length →
    (∀ (j : Nat) (t : Addr) (x y : V), ts[j]? = some t → xs[j]? = some x → ys[j]? = some y → H' t = some (.tup [x, y])) → Q (.ref p) H'
theorem pe_listZip (hc : X.calm = true) (ha : PA X [e, e2] ta) (hg : Gl X "list") (hm : X.mg "list" = none) (hgz : Gl X "zip") (hmz : X.mg "zip" = none)
    (hs : starEach [.Call (.Name "zip" p2) [e, e2] [] pos2] X.env = (false, eval (.Call (.Name "zip" p2) [e, e2] [] pos2) X.env) :: starEach [] X.env := by rfl)
    (hs2 : starEach [e, e2] X.env = (false, eval e X.env) :: starEach [e2] X.env := by rfl) (hpl : (backTo pos2 (starEach [e2] X.env)).any (·.1) = false := by rfl) :
    PE X (.Call (.Name "list" p) [.Call (.Name "zip" p2) [e, e2] [] pos2] [] pos) (tListZip X.K ta) := by
  refine ⟨fun pins s σ H Q I h => ?_⟩
  refine wpAny_Call_Name_kw (ld_blt I hg hm (show bootBuiltins "list" = some (.type "list") by decide +kernel) ?_)
  refine PyProof.Rows.callWith_type1 ?_ hs rfl
  rw [hs]
  show wpAny _ _ (spliced ((false, eval (.Call (.Name "zip" p2) [e, e2] [] pos2) X.env) :: backTo pos (starEach [] X.env))) _ _ s
  refine Calls.spliced_cons ?_
  refine Call_ (ld_blt I hgz hmz PyProof.Rows.boot_zip (PyProof.Rows.callWith_type1 (thn (ha.run pos2 pins s σ H _ I h) fun us s1 ⟨vs, H1, I1, r1, q1⟩ => ?_) hs2 hpl))
  obtain ⟨a, b, xs, ys, ex, hqx, hqy, hxy, q⟩ := q1
  subst ex
  cases r1 with
  | cons r rr =>
    cases rr with
    | cons r' rr =>
      cases rr
      cases r
      cases r'
      obtain ⟨us, rv, p1, z1⟩ := I1.list hqx
      obtain ⟨ws, rv2, p2', z2⟩ := I1.list hqy
      have la : a < s1.heap.objs.size := p1.lt
      have lb : b < s1.heap.objs.size := p2'.lt
      refine call_zip_2 p1.isList p2'.isList fun h' hz hTI hTO h1 h2 hsz hk => ?_
      refine Calls.spliced_nil ?_
      have lu := rv.length
      have lw := rv2.length
      refine ZN.list_of_zip (I1.ok.hd hc) (PySem.W.ktu_apart s1.heap.objs.size a b la lb) (by simp; omega) (by simp; omega) hz hTI ⟨_, _, hTO⟩ h1 h2 (p1.isList.at fun o x => hk _ o x) (p2'.isList.at fun o x => hk _ o x) s1.heap (fun c o x => ?_) hk fun h'' tk acc c as k1 k2 k3 k4 k5 k6 k7 => ?_
      · have l : c < s1.heap.objs.size := Heap.lt_size x
        exact ⟨Nat.ne_of_lt (Nat.lt_of_lt_of_le l (Nat.le_add_right _ 4)), Nat.ne_of_lt (Nat.lt_of_lt_of_le l (Nat.le_add_right _ 3)), Nat.ne_of_lt l, Nat.ne_of_lt (Nat.lt_of_lt_of_le l (Nat.le_add_right _ 1))⟩
      · obtain ⟨H', g1, g2, g3, g4, g5, g6, J⟩ := laid (tk := tk) I1 z1 rv rv2 hxy k1 (by show s1.heap.objs.size ≤ h'.objs.size; omega) k2 (by rw [k4]; simp; omega) k3 k6 k7 (fun j t hj => by
          obtain ⟨x, y, e1, e2, e3⟩ := k5 j t hj
          exact ⟨x, y, by simpa using e1, by simpa using e2, e3⟩)
        exact ⟨.ref _, H', J, rfl, q H' _ as g1 g2 g3 g4 g5 (by rw [k4]; simp; omega) g6⟩
end
end ZL
end
section
set_option Elab.async false
set_option linter.all false
set_option maxRecDepth 100000
namespace WD
open PySem PySem.Spec PyProof.Rows L2 Evl StX
section
variable {K : PySem.W.Frag} {σ : L2.St} {H H' : Hp} {ta tb te tx tc : TE} {t u : TT} {d d1 d2 d3 : D} {ds es : List D}
theorem ea_star {tr : TA} (h : EvD K te σ H (.lst ds)) (hr : EvDA K tr σ H es) : EvDA K (tStar K te tr) σ H (ds ++ es) := fun H1 e Q q =>
  h H1 e _ fun v H2 e2 a => by
    cases a with
    | lst r a =>
      exact ⟨_, _, rfl, .inr (.inl r), hr H2 (e.trans e2) _ fun ys H3 e3 b => q _ H3 (e2.trans e3) ((a.ex e3).app b)⟩
theorem en_listZip {xs ys : List Int} (h : EvD K ta σ H (.lst (iL xs))) (h' : EvD K tb σ H (.lst (iL ys))) (hl : xs.length = ys.length) : EvN K (ZL.tListZip K (tCons ta (tCons tb tNil))) σ H ((xs.zip ys).map fun p => .tup [.int p.1, .int p.2]) := fun H1 e Q q =>
  h H1 e _ fun v H2 e2 a => h' H2 (e.trans e2) _ fun w H3 e3 b => by
    cases a with
    | lst r a =>
      cases b with
      | lst r' b =>
        have a1 := allIL a
        have b1 := allIL b
        subst a1
        subst b1
        refine ⟨_, _, _, _, rfl, .inl (ex_rd e3 r), .inl r', by rw [List.length_map, List.length_map, hl], fun H' p ts k hp nt np hx lt ht => q p _ H' (fresh_back (e2.trans e3) hp) ((e2.trans e3).trans k) hx ?_⟩
        rw [List.length_map] at lt
        have gen : ∀ (ts : List Addr) (xs ys : List Int), ts.length = xs.length → xs.length = ys.length → (∀ (j : Nat) (t : Addr) (x y : V), ts[j]? = some t → (xs.map V.int)[j]? = some x → (ys.map V.int)[j]? = some y → H' t = some (.tup [x, y])) → All K H' (ts.map V.ref) ((xs.zip ys).map fun p => .tup [.int p.1, .int p.2]) := by
          intro ts
          induction ts with
          | nil =>
            intro xs ys h1 h2 _
            cases xs with
            | nil => exact .nil
            | cons _ _ => cases h1
          | cons t ts ih =>
            intro xs ys h1 h2 hh
            cases xs with
            | nil => cases h1
            | cons x xs =>
              cases ys with
              | nil => cases h2
              | cons y ys =>
                exact .cons (.tup (st_of (hh 0 t (.int x) (.int y) rfl rfl rfl)) (.cons (.int x) (.cons (.int y) .nil))) (ih xs ys (Nat.succ.inj h1) (Nat.succ.inj h2) fun j t' x' y' a1 a2 a3 => hh (j + 1) t' x' y' a1 a2 a3)
        exact gen ts xs ys lt hl ht
end
end WD
end
section
set_option Elab.async false
set_option linter.all false
set_option maxRecDepth 100000
set_option maxHeartbeats 4000000
/-! an own exception whose __init__(self, a) says super().__init__("..") and self.f = a: made, raised, its field read -/
namespace SupX
open PySem PySem.W PySem.Calls PyProof.Rows PySem.HandSPX
/-- the body -/
def supBody (txt f a : Str) (sn : Str) (k : Nat) (p0 p1 p2 p3 p4 p5 p6 p7 p8 p9 : Pos) : List Stmt :=
  [.Expr (.Call (.Attribute (.Call (.Name "super" p0) [] [] p1) "__init__" p2) [.Constant (.str txt) k p3] [] p4) p5, .Assign [.Attribute (.Name sn p6) f p7] (.Name a p8) p9]
section
variable {prog : Program} {w : World} {A : Around} {E : Value → Shared → Prop} {h : Heap} {g : Array GenState} {d : Drawn} {t : Nat} {os : OsState}
/-- ValueError.__init__ bound to an exception, called -/
theorem call_bound {B nw ini : String} {bmB : List Value} (fb : ExcBaseFacts B nw ini bmB) {nm q : Str} {C N u e t0 : Addr} {bs bm : List Value} {hdct : Bool} {sn : List Str} {sub : List Value} {ab : Bool} {col : Option Bool} {dd : Option Addr} {k0 k1 k2 k3 k5 : Option Value} {us : List Value} {Q : Value → Shared → Prop}
    (hC : h.get? C = some (excClassObj nm q C N bs bm hdct sn sub ab col dd k0 k1 k2 k3 k5 nw)) (he : h.get? e = some (excO C t0)) (hu : h.get? u = some (kxs_mw ini e)) (hl : us.length ≤ sizeLine)
    (hq : ∀ h' t1, (∀ b o, b ≠ e → h.get? b = some o → h'.get? b = some o) → h'.get? e = some (excO C t1) → Q .none ⟨h', g, d, t, os⟩) : wpAny (model prog w) A (call (.ref u) us) Q E ⟨h, g, d, t, os⟩ := by
  apply wpAny_call; apply codeAny_of_tree
  show wpAny _ A.in1 (callAny (.ref u) ⟨us, []⟩) _ _ _
  unfold callAny; apply wpAny_bind; apply wpAny_load hu
  have mw : (Value.type "method-wrapper" == Value.type "method" || Value.type "method-wrapper" == Value.type "builtin_function_or_method" || Value.type "method-wrapper" == Value.type "method-wrapper") = true := by decide
  simp only [kxs_mw, mw, if_true]
  apply KFB.if_so (by decide); apply wpAny_bind; apply check_bound_init fb.toExcCallFacts hC he rfl
  refine wpAny_bind (wpAny_pure (wpAny_pure ⟨plainId_quiet fb.init.plain _, codeAny_builtin fb.initEntry ?_⟩))
  exact exc_init_tree (cls := .ref C) (t0 := t0) (dv := none) (c2 := .none) (c3 := .none) (b4 := .bool false) he hl fun h' k e2 _ => hq h' _ k e2
end
/-- what the written part says of the class x at C, its __init__ at fI: super().__init__(txt), then self.f = its argument -/
structure Sup (prog : Program) (K : Frag) (mg : Str → Option Value) (C fI : Addr) (x f txt : Str) : Prop where
  gC : mg x = some (.ref C)
  cls : ∃ nm q N bs bm sn sub ab col dd k0 k1 k2 k3 k5, K.lookup C = some (excClassObj nm q C N bs bm true sn sub ab col dd k0 k1 k2 k3 k5 "ValueError.__new__") ∧ refsVE bm = true
  sa : findIn K (.ref C) "__setattr__" = some (some (.builtin "object.__setattr__"))
  ga : findIn K (.ref C) "__getattribute__" = some (some (.builtin "BaseException.__getattribute__"))
  gg : findIn K (.ref C) "__getattr__" = some none
  noN : findIn K (.ref C) f = some none
  iC : findIn K (.ref C) "__init__" = some (some (.ref fI))
  tC : typeIn K (.ref fI) = some (.type "function")
  kC : keepIn K (.ref C) = true
  exC : subIn K (.ref C) (.type "BaseException") = some true
  veC : subIn K (.ref C) (.type "ValueError") = some true
  tyC : typeIn K (.ref C) = some (.type "type")
  hdC : hasDictIn K C = true
  meC : mroIn K C (.ref C) = some true
  te : exmOne K (.ref C) (.ref C) = some true
  sup : ks_superIn K C C "__init__" = some (some (.builtin "ValueError.__init__"))
  opq : nsIn K cStatics "thirdparty.any" = some none
  noS : mg "super" = none
  top : (prog.main.scope.names.lookup ("super" : Str)).isSome = false
  fn : ∃ (oc : Value) (od : Option Addr) (qual a sn : Str) (pr : Arguments) (sc : Scope) (kV doc pm : Value) (an : Option Addr) (cda cc : Addr) (ct : Value) (osl : Array (Option Value)) (ar : Arg) (k : Nat) (p0 p1 p2 p3 p4 p5 p6 p7 p8 p9 : Pos),
    K.lookup fI = some ⟨oc, od, .func (ksFn "__init__" qual pr (supBody txt f a sn k p0 p1 p2 p3 p4 p5 p6 p7 p8 p9) sc .none kV doc pm an (.ref cda) ct cc), osl⟩ ∧ codeIn K (.ref cda) qual = true ∧
    (∃ cl cld csl, K.lookup cc = some ⟨cl, cld, .cell (some (.ref C)), csl⟩) ∧ (∃ ccl cdd vs ccs file tf, K.lookup cda = some ⟨ccl, cdd, .fields vs, ccs⟩ ∧ vs[2]? = some (.str file tf) ∧ ((prog.main.file : Str) == file) = true) ∧
    (∀ u v : Value, bindArgs (ksFn "__init__" qual pr (supBody txt f a sn k p0 p1 p2 p3 p4 p5 p6 p7 p8 p9) sc .none kV doc pm an (.ref cda) ct cc) ⟨[u, v], []⟩ = pure [(sn, u), (a, v)]) ∧
    (pr.posonlyargs ++ pr.args).head? = some ar ∧ ar.arg = sn ∧ a ≠ sn ∧ (sn == ("__debug__" : Str)) = false ∧ (a == ("__debug__" : Str)) = false ∧ (∀ y ∈ sc.names, y.2 ≠ .cell) ∧ sc.names.lookup sn = some .local ∧ sc.names.lookup a = some .local ∧ sc.names.lookup ("super" : Str) = some .globalImplicit ∧
    sc.names.lookup ("__class__" : Str) = some .free ∧ sc.kind = .function ∧ sc.isCoroutine = false ∧ sc.isGenerator = false ∧
    (∀ L : Addr, ∃ pl : Sem Bool, eval (.Call (.Attribute (.Call (.Name "super" p0) [] [] p1) "__init__" p2) [.Constant (.str txt) k p3] [] p4) (ksEnv qual sc L fI (.ref cda) cc) = (do
      let ov ← attributeBase (.Call (.Name "super" p0) [] [] p1) "__init__" (ksEnv qual sc L fI (.ref cda) cc) (eval (.Call (.Name "super" p0) [] [] p1) (ksEnv qual sc L fI (.ref cda) cc))
      standAt p2.atName
      let (f, first) ← holding [ov] (getMethod ov "__init__" pl)
      callWith p4 f first (backTo p4 (starEach [.Constant (.str txt) k p3] (ksEnv qual sc L fI (.ref cda) cc))) [])) ∧
    (∀ L : Addr, interactive (ksEnv qual sc L fI (.ref cda) cc) = false) ∧
    (∀ L : Addr, swapsWith (.Call (.Attribute (.Call (.Name "super" p0) [] [] p1) "__init__" p2) [.Constant (.str txt) k p3] [] p4) none p5.line (ksEnv qual sc L fI (.ref cda) cc) = pure false) ∧
    (∀ L : Addr, swapsWith (.Name a p8) (some (.Attribute (.Name sn p6) f p7)) p9.line (ksEnv qual sc L fI (.ref cda) cc) = pure false) ∧
    (∀ L : Addr, starEach [.Constant (.str txt) k p3] (ksEnv qual sc L fI (.ref cda) cc) = (false, eval (.Constant (.str txt) k p3) (ksEnv qual sc L fI (.ref cda) cc)) :: starEach [] (ksEnv qual sc L fI (.ref cda) cc)) ∧
    (∀ L : Addr, starEach [] (ksEnv qual sc L fI (.ref cda) cc) = [])
/-- what __init__ leaves -/
structure SupEnd (h h' : Heap) (x C dx : Addr) (f : Str) (v : Value) : Prop where
  keep : ∀ b o, b ≠ x → h.get? b = some o → h'.get? b = some o
  obj : ∃ t1 : Addr, h'.get? x = some { cls := .ref C, dict := some dx, data := .fields #[.ref t1, .none, .none, .none, .bool false, .none] }
  dbig : h.objs.size ≤ dx
  dne : dx ≠ x
  ns : h'.Ns1 dx (fun y => if y = f then some v else none)
section
variable {prog : Program} {w : World} {A : Around} {E : Value → Shared → Prop} {R : Result → Shared → Prop} {s : Shared} {K : Frag} {mg mb : Str → Option Value} {C fI : Addr} {x f txt : Str}
theorem sup_init (T : Sup prog K mg C fI x f txt) {e t0 : Addr} {v : Value} (X : K.In s.heap) (G : s.heap.Ns mainGlobals mg) (B : s.heap.Ns builtinsNs mb) (bt : mb "super" = some (.type "super")) (hlim : s.heap.NoLimit) (he : s.heap.get? e = some (excO C t0)) (hnx : K.lookup e = none)
    (hroom : A.depth < recursionLimit) (hq : ∀ h' tk dx, SupEnd s.heap h' e C dx f v → R (.ok (.ret .none)) { s with heap := h', toks := tk }) : codeAny (model prog w) A (.call (.ref fI) ⟨[.ref e, v], []⟩) R s := by
  obtain ⟨oc, od, qual, a, sn, pr, sc, kV, doc, pm, an, cda, cc, ct, osl, ar, k, p0, p1, p2, p3, p4, p5, p6, p7, p8, p9, ho, hcd, ⟨cl, cld, csl, hcc⟩, ⟨ccl, cdd, vs, ccs, file, tf, hcda, hvs, hfile⟩, hbind, hp, rfl, nsn, dsn, da, hcell, l1, l2, l3, l4, kd, hco, hgen, hev, hint, hw1, hw2, hst, hst0⟩ := T.fn
  obtain ⟨nm, q, N, bs, bm, sn, sub, ab, col, dd, k0, k1, k2, k3, k5, hC, hbm⟩ := T.cls
  have hcl : clsIn K C = some { name := nm, bases := bs, mro := .ref C :: bm, ns := N, qualname := q, hasDict := true, slotNames := sn, subclasses := sub, abstract := ab, collection := col, hasDel := false } := by unfold clsIn; rw [hC] <;> rfl
  refine ks_codeAny_call_defAt (binds := [(ar.arg, .ref e), (a, v)]) hroom (X _ _ ho) rfl hlim (codeRec_of X hcd) rfl (BindsTo.of_eq (hbind _ _)) hcell (fun y hy => ?_) (fun h1 hns k1 => ?_) hco hgen kd
  · rcases List.mem_cons.mp hy with rfl | hy
    · exact l1
    · rw [List.mem_singleton.mp hy]; exact l2
  have X1 : K.In h1 := X.keeps k1
  have he1 := k1 _ _ he
  have hC1 : h1.get? C = some (excClassObj nm q C N bs bm true sn sub ab col dd _ _ _ _ _ "ValueError.__new__") := X1 _ _ hC
  have xC : e ≠ C := fun z => by rw [z, hC] at hnx; cases hnx
  have G1 : h1.Ns mainGlobals mg := G.keeps k1
  have B1 : h1.Ns builtinsNs mb := B.keeps k1
  have KF := kxs_ValueError
  show PySem.wpAt (model prog w) (A.deeper (ksEnv qual sc s.heap.objs.size fI (.ref cda) cc)) (.func (supBody txt f a ar.arg k p0 p1 p2 p3 p4 p5 p6 p7 p8 p9) (ksEnv qual sc s.heap.objs.size fI (.ref cda) cc)) (execs (supBody txt f a ar.arg k p0 p1 p2 p3 p4 p5 p6 p7 p8 p9) (ksEnv qual sc s.heap.objs.size fI (.ref cda) cc)) _ _ _
  generalize hA2 : A.deeper (ksEnv qual sc s.heap.objs.size fI (.ref cda) cc) = A2
  unfold supBody
  obtain ⟨pl, hev⟩ := hev s.heap.objs.size
  refine ks_wpAt_execs_cons (ks_wpAt_Expr_any (ks_wpAt_MethodCall (ks_wpAt_super_base (env := ksEnv qual sc s.heap.objs.size fI (.ref cda) cc) l3 l4 (by decide) rfl (X1 _ _ ho) rfl hp rfl (X1 _ _ hcda) rfl hvs hfile T.top ?_) hev) (hint _) (hw1 _))
  refine ks_loadName_global kd l3 (loadGlobal_builtin (env := ksEnv qual sc s.heap.objs.size fI (.ref cda) cc) G1 T.noS B1 bt ⟨rfl, ?_⟩)
  refine wpAny_loadName_free (c := cc) kd l4 (by rfl) ⟨_, X1 _ _ hcc, rfl⟩ (wpAny_loadName_local kd l1 hns (v := .ref e) ?_ ?_)
  · show List.lookup ar.arg [(a, v), (ar.arg, .ref e)] = some (.ref e)
    rw [List.lookup_cons, List.lookup_cons_self]
    have z : (ar.arg == a) = false := by simpa using nsn.symm
    rw [z]
  refine ks_wpAny_isType_cls hC1 rfl ⟨rfl, ?_⟩
  refine ks_wpAny_call_super hC1 rfl he1 rfl (fun c z => by cases z) (looks_mroIn X1 T.meC) fun h2 hso k2 => ?_
  have X2 : K.In h2 := X1.keeps k2
  have he2 := k2 _ _ he1
  have I2 : InstAt h2 e (excO C t0) C none := ⟨he2, rfl, rfl, trivial⟩
  have hf := T.sup
  unfold ks_superIn at hf
  rw [hcl] at hf
  refine kxs_getMethod KF hso (looks_opaque X2 T.opq) (l₀ := .ref C :: bm) (fun A Q E s k q => wpAny_bind ((looks_clsIn X2 hcl) A _ E s k (wpAny_pure q))) rfl X2 hf (I2.type.andThen (looks_subIn X2 T.veC)) xC (by decide) ?_
  have k3 : ∀ b o, h2.get? b = some o → (h2.push (kxs_mw "ValueError.__init__" e)).get? b = some o := fun b o z => Heap.get?_push_of_some _ z
  show wpAny _ _ (callWith p4 (.ref h2.objs.size) [] (backTo p4 (starEach [.Constant (.str txt) k p3] (ksEnv qual sc s.heap.objs.size fI (.ref cda) cc))) []) _ _ _
  rw [hst, hst0]
  refine kxs_callWith (i := "ValueError.__init__") (x := e) (by rfl) (evalArgs_plain ?_)
  refine spliced_cons (wpAny_Constant_str (k := k) (pos := p3) (spliced_nil ?_))
  have hu : (h2.push (kxs_mw "ValueError.__init__" e)).get? h2.objs.size = some (kxs_mw "ValueError.__init__" e) := Heap.get?_push_size _ rfl
  refine ⟨hu, ?_⟩
  refine call_bound PySem.F.excBase_ValueError (k3 _ _ (k2 _ _ hC1)) (k3 _ _ he2) hu (by show 1 ≤ sizeLine; rw [sizeLine_eq]; decide) fun h4 t4 k4 he4 => ?_
  have kk : ∀ b o, b ≠ e → s.heap.get? b = some o → h4.get? b = some o := fun b o hb z => k4 b o hb (k3 b o (k2 b o (k1 b o z)))
  have X4 : K.In h4 := fun b o z => kk b o (fun y => by rw [y, hnx] at z; cases z) (X b o z)
  have eL : s.heap.objs.size ≠ e := Nat.ne_of_gt (Heap.lt_size he)
  have lt4 : s.heap.objs.size < h4.objs.size := by
    obtain ⟨oL, es, ep, hL, r⟩ := hns
    exact Heap.lt_size (k4 _ _ eL (k3 _ _ (k2 _ _ hL)))
  have hns4 : h4.Ns s.heap.objs.size (fun y => List.lookup y [(ar.arg, Value.ref e), (a, v)].reverse) := by
    obtain ⟨oL, es, ep, hL, r⟩ := hns
    exact ⟨oL, es, ep, k4 _ _ eL (k3 _ _ (k2 _ _ hL)), r⟩
  show PySem.wpAt _ _ _ (execs [.Assign [.Attribute (.Name ar.arg p6) f p7] (.Name a p8) p9] (ksEnv qual sc s.heap.objs.size fI (.ref cda) cc)) _ _ _
  refine wpAt_of_wpAny (wpAny_execs_cons (plainObj_wpAny_Assign_Attribute ?_ (hw2 _)))
  refine wpAny_Name (wpAny_loadName_local kd l2 hns4 (v := v) ?_ ?_) da
  · show List.lookup a [(a, v), (ar.arg, .ref e)] = some v
    rw [List.lookup_cons_self]
  refine wpAny_Name (wpAny_loadName_local kd l1 hns4 (v := .ref e) ?_ ?_) dsn
  · show List.lookup ar.arg [(a, v), (ar.arg, .ref e)] = some (.ref e)
    rw [List.lookup_cons, List.lookup_cons_self]
    have z : (ar.arg == a) = false := by simpa using nsn.symm
    rw [z]
  refine set_plain X4 (ox := excO C t4) (od := none) ⟨he4, rfl, rfl, trivial⟩ T.sa ?_
  refine exc_osa X4 he4 hcl (show refsVE (.ref C :: bm) = true from hbm) rfl T.noN (fun h5 tk5 dx k5 dn dne hx5 hn5 => ?_)
  show wpAny _ _ (execs [] _) _ _ _
  exact wpAny_execs_nil (hq h5 tk5 dx ⟨fun b o hb z => k5 b o hb (kk b o hb z), ⟨t4, hx5⟩, Nat.le_of_lt (Nat.lt_of_lt_of_le lt4 dn), dne, hn5⟩)
/-- one that is made -/
structure SupMade (h h' : Heap) (e C d : Addr) (f : Str) (v : Value) : Prop where
  keep : ∀ b o, h.get? b = some o → h'.get? b = some o
  new : h.objs.size ≤ e
  obj : ∃ oe vs, h'.get? e = some oe ∧ oe.cls = .ref C ∧ oe.dict = some d ∧ oe.data = .fields vs ∧ vs[1]? = some .none
  dbig : h.objs.size ≤ d
  dne : d ≠ e
  ns : h'.Ns1 d (fun y => if y = f then some v else none)
theorem sup_made (T : Sup prog K mg C fI x f txt) {v : Value} (X : K.In s.heap) (G : s.heap.Ns mainGlobals mg) (B : s.heap.Ns builtinsNs mb) (bt : mb "super" = some (.type "super")) (hlim : s.heap.NoLimit) (hroom : A.depth + 1 < recursionLimit)
    (hq : ∀ h' tk e d, SupMade s.heap h' e C d f v → R (.ok (.ret (.ref e))) { s with heap := h', toks := tk }) : codeAny (model prog w) A (.call (.ref C) ⟨[v], []⟩) R s := by
  obtain ⟨nm, q, N, bs, bm, sn, sub, ab, col, dd, k0, k1, k2, k3, k5, hC, hbm⟩ := T.cls
  rcases s with ⟨hp, g, dr, tk, os⟩
  have up : ∀ b o, hp.get? b = some o → ((hp.push (kdv_tup [v])).push (excO C hp.objs.size)).get? b = some o := fun b o z => Heap.get?_push_of_some _ (Heap.get?_push_of_some _ z)
  have new : ((hp.push (kdv_tup [v])).push (excO C hp.objs.size)).get? (hp.objs.size + 1) = some (excO C hp.objs.size) := by heap_get
  have out : K.lookup (hp.objs.size + 1) = none := by
    cases z : K.lookup (hp.objs.size + 1) with
    | none => rfl
    | some o =>
      have y : hp.get? (hp.objs.size + 1) = some o := X _ _ z
      exact absurd (Nat.lt_of_succ_lt (Heap.lt_size y)) (Nat.lt_irrefl _)
  have one : [v].length ≤ sizeLine := by show 1 ≤ sizeLine; rw [sizeLine_eq]; decide
  refine call_own PySem.F.excBase_ValueError (fun Y => refsVE_contains Y bm hbm) (X _ _ hC) (looks_findIn X T.iC) (fun self => bind_fn X self T.tC) one ?_
  refine sup_init (s := ⟨(hp.push (kdv_tup [v])).push (excO C hp.objs.size), g, dr, tk, os⟩) T (X.keeps up) (G.keeps up) (B.keeps up) bt (hlim.keeps up) new out ?_ fun h' tk' dx F => ?_
  · show A.depth + 1 < recursionLimit
    exact hroom
  · have old : ∀ b o, hp.get? b = some o → h'.get? b = some o := fun b o z => F.keep b o (Nat.ne_of_lt (Nat.lt_succ_of_lt (Heap.lt_size z))) (up b o z)
    have big : hp.objs.size ≤ dx := by
      have y := F.dbig
      rw [Heap.size_push, Heap.size_push] at y
      exact Nat.le_trans (Nat.le_add_right _ 2) y
    obtain ⟨t1, ob⟩ := F.obj
    exact ⟨rfl, hq h' tk' (hp.objs.size + 1) dx ⟨old, Nat.le_succ _, ⟨_, _, ob, rfl, rfl, rfl, rfl⟩, big, F.dne, F.ns⟩⟩
end
end SupX
namespace L2
open PySem PySem.Spec PyProof.Rows
theorem relO_sup {v : V} {u : Value} (r : RelV v u) (f g : Str) : RelO (List.lookup g [(f, v)]) (if g = f then some u else none) := by
  by_cases z : g = f
  · subst z
    rw [if_pos rfl, List.lookup_cons_self]
    exact r
  · have y : (g == f) = false := by simpa using z
    rw [if_neg z, List.lookup_cons, y]
    exact True.intro
section
variable {X : Cx} {C fI : Addr} {x f txt : Str}
/-- C(e) -/
def tMkSup (C : Addr) (f : Str) (ta : TA) : St → Hp → XK → Prop := fun σ H Q => ta σ H fun vs H1 => ∃ v, vs = [v] ∧ ∀ d, H1 d = none → Q (.ref C) (some d) (upd H1 d (.xd [(f, v)]))
theorem pmk_sup {a : Expr} {ta : TA} {p pos : Pos} {k : Nat} (T : SupX.Sup X.prog X.K X.mg C fI x f txt) (hr : Room k X.A) (ha : PA X [a] ta) (hg : Gl X x) (hd : (x == ("__debug__" : Str)) = false := by decide)
    (hst : starEach (a :: []) X.env = (false, eval a X.env) :: starEach [] X.env := by rfl) (hpl : (backTo pos (starEach [] X.env)).any (·.1) = false := by rfl) :
    PMk X (.Call (.Name x p) [a] [] pos) (tMkSup C f ta) := by
  intro pins s σ H Q I h
  refine wpAny_Call_Name_kw (ld_glob I hg T.gC ?_ hd)
  refine PySem.W.callWith_K (h₀ := X.base) I.ok.mod.kin T.kC (thn (ha.run pos pins s σ H _ I h) fun us s1 ⟨vs, H1, I1, r1, v, ev, q1⟩ => ⟨I1.kIn, ?_⟩) hst hpl
  subst ev
  obtain ⟨u, rfl, ru⟩ := r1.one
  show wpAny _ _ (call (.ref C) [u]) _ _ _
  have lim := I1.nolimit
  obtain ⟨mb, nb, eb⟩ := I1.ok.mod.blt
  have glo : s1.heap.Ns mainGlobals X.mg := I1.ok.mod.glob.keeps I1.bk
  have blt : s1.heap.Ns builtinsNs mb := nb.keeps I1.bk
  obtain ⟨hp, g, dr, tk, os⟩ := s1
  refine wpAny_call (SupX.sup_made (s := ⟨hp, g, dr, tk, os⟩) T I1.kIn glo blt ((eb _ (by decide +kernel)).trans (by decide +kernel)) lim (by have := hr.dp; omega) fun h' tk' e d M => ?_)
  show MkP X pins σ Q (.ref e) ⟨h', g, dr, tk', os⟩
  obtain ⟨oe, fv, hoe, hc, hd2, hdat, h1⟩ := M.obj
  obtain ⟨G', g1, g2⟩ := restrict h' fun b => decide (b ≠ e)
  have gk : ∀ b, b ≠ e → G'.get? b = h'.get? b := fun b hb => g1 b (decide_eq_true hb)
  have ge : G'.get? e = none := g2 e (by simp)
  have old : ∀ b o, hp.get? b = some o → G'.get? b = some o := fun b o q => (gk b (Nat.ne_of_lt (Nat.lt_of_lt_of_le (Heap.lt_size q) M.new))).trans (M.keep b o q)
  have ob : ObjOk X.prog X.w (upd H1 d (.xd [(f, v)])) G' d (.xd [(f, v)]) := ⟨_, M.ns.at (fun o q => (gk d M.dne).trans q), fun g => relO_sup ru f g⟩
  have J : Inv X pins σ (upd H1 d (.xd [(f, v)])) ⟨G', g, dr, tk', os⟩ := I1.laid (t' := tk') old M.dbig ob
  refine ⟨e, oe, fv, ⟨G', g, dr, tk', os⟩, _, .ref C, some d, rfl, J, fun b o q => ?_, ge, hoe, ⟨hc, hd2⟩, hdat, h1, ?_, rfl, I1.bare, raises_own T.exC T.tyC, q1 d (I1.hok.fresh M.dbig)⟩
  · by_cases hb : b = e
    · have q' : G'.get? b = some o := q
      rw [hb, ge] at q'; cases q'
    · exact (gk b hb).symm.trans q
  · rw [upd_ne (Ne.symm M.dne)]
    exact I1.hok.fresh M.new
/-- raise C(e) -/
def tRaiseSup (C : Addr) (f : Str) (W : WX) (ta : TA) : TS := fun _ σ H => tMkSup C f ta σ H fun cls d H' => W cls d σ H'
theorem ps_raiseSup {a : Expr} {ta : TA} {W : WX} {p pos pos2 : Pos} {k : Nat} (hc : X.calm = true) (T : SupX.Sup X.prog X.K X.mg C fI x f txt) (hr : Room k X.A) (tk : Takes X W) (ha : PA X [a] ta) (hg : Gl X x) (hd : (x == ("__debug__" : Str)) = false := by decide)
    (hst : starEach (a :: []) X.env = (false, eval a X.env) :: starEach [] X.env := by rfl) (hpl : (backTo pos (starEach [] X.env)).any (·.1) = false := by rfl) :
    PS X (.Raise (some (.Call (.Name x p) [a] [] pos)) none pos2) (tRaiseSup C f W ta) := ps_raise hc tk (pmk_sup T hr ha hg hd hst hpl)
/-- n.f, n the exception that the suite holds (at a; its class cls, its dict d) -/
def tBySup (C : Addr) (f : Str) (a : Addr) (cls : Value) (d : Option Addr) (te : TE) : TE := fun σ H Q => te σ H fun x H1 => x = .ref a ∧ cls = .ref C ∧ ∃ (dd : Addr) (v : V), d = some dd ∧ H1 dd = some (.xd [(f, v)]) ∧ Q v H1
theorem pe_bySup {a : Addr} {oe : Obj} {cls : Value} {d : Option Addr} {pn : List (Addr × Obj)} {e : Expr} {te : TE} {pos : Pos} (T : SupX.Sup X.prog X.K X.mg C fI x f txt) (hz : Zc cls d oe) (hf : ∃ vs, oe.data = .fields vs) (he : PE (X.suite a ((a, oe) :: pn)) e te)
    (hb : attributeBase e f X.env (eval e X.env) = eval e X.env := by rfl) (hn : PySem.W.copiedNames.contains f = false := by decide) :
    PE (X.suite a ((a, oe) :: pn)) (.Attribute e f pos) (tBySup C f a cls d te) := by
  refine ⟨fun pins s σ H Q I h => ?_⟩
  refine attr_of hb (thn (he.run pins s σ H _ I h) fun u s1 hh => ?_)
  obtain ⟨x, H1, I1, rx, ex, ec, dd, v, ed, ea, q⟩ := hh
  subst ex
  obtain rfl : u = Value.ref a := rx
  subst ec
  subst ed
  obtain ⟨ha, _⟩ := I1.pin (a, oe) (List.mem_append_left _ List.mem_cons_self)
  obtain ⟨vs, hd⟩ := hf
  have hx : ObjOk X.prog X.w H1 s1.heap dd (.xd [(f, v)]) := I1.hok dd _ ea
  obtain ⟨mA, hns, hr⟩ := hx
  obtain ⟨od, ho, hl⟩ := lookIn_ns hns
  have l : List.lookup f [(f, v)] = some v := List.lookup_cons_self
  obtain ⟨u, hu, ru⟩ := RelO.some_of (v := v) (o := mA f) (by rw [← l]; exact hr f)
  have J : PySem.W.InstAt s1.heap a oe C (some od) := ⟨ha, hz.1, by unfold PySem.W.notCls; rw [hd] <;> rfl, by rw [hz.2]; exact ho⟩
  exact HandSPX.exc_get I1.kIn J T.ga T.gg T.exC (PySem.W.findObj_own T.hdC T.noN rfl (by rw [hl, hu])) (handed_of ru) ⟨v, H1, I1.tok _, ru, q⟩
end
end L2
end
section
set_option Elab.async false
set_option linter.all false
set_option maxRecDepth 100000
set_option maxHeartbeats 4000000
/-! the head's facts, with own exceptions that say super().__init__(..) -/
namespace SupX
open PySem PySem.W PySem.Calls PyProof.Rows PySem.HandSPX L2
def clsB (K : Frag) (C : Addr) : Bool := match K.lookup C with
  | some ⟨.type t, _, .cls cd, sl⟩ => decide (t = "type") && (decide (cd.mro.head? = some (.ref C)) && (refsVE (cd.mro.drop 1) && (cd.hasDict && (!cd.hasDel && (decide (sl.size = 6) && decide (sl[4]? = some (some (.builtin "ValueError.__new__"))))))))
  | _ => false
theorem clsB_ok {K : Frag} {C : Addr} (h : clsB K C = true) : ∃ nm q N bs bm sn sub ab col dd k0 k1 k2 k3 k5, K.lookup C = some (excClassObj nm q C N bs bm true sn sub ab col dd k0 k1 k2 k3 k5 "ValueError.__new__") ∧ refsVE bm = true := by
  unfold clsB at h
  cases e : K.lookup C with
  | none => rw [e] at h; cases h
  | some o =>
    obtain ⟨oc, od, dt, sl⟩ := o
    rw [e] at h
    cases oc with
    | type t =>
      cases dt with
      | cls cd =>
        obtain ⟨nm, bs, mro, ns, qn, hd, sn, sub, ab, col, del⟩ := cd
        obtain ⟨h1, h⟩ := He.ba h
        obtain ⟨h2, h⟩ := He.ba h
        obtain ⟨h3, h⟩ := He.ba h
        obtain ⟨h4, h⟩ := He.ba h
        obtain ⟨h5, h⟩ := He.ba h
        obtain ⟨h6, h7⟩ := He.ba h
        have h1 := of_decide_eq_true h1
        have h2 := of_decide_eq_true h2
        have h6 := of_decide_eq_true h6
        have h7 := of_decide_eq_true h7
        subst h1
        cases mro with
        | nil => cases h2
        | cons c bm =>
          cases h2
          cases hd with
          | false => cases h4
          | true =>
            cases del with
            | true => cases h5
            | false =>
              obtain ⟨l⟩ := sl
              match l, h6, h7 with
              | [k0, k1, k2, k3, k4, k5], _, h7 =>
                cases h7
                exact ⟨nm, qn, ns, bs, bm, sn, sub, ab, col, od, k0, k1, k2, k3, k5, rfl, h3⟩
      | _ => cases h
    | _ => cases dt <;> cases h
/-- a def that closes over its class: its text -/
abbrev FnC : Type := Option (Str × Str × Arguments × FuncBody × Scope × Addr × List Str × Addr)
def fnC (K : Frag) (f : Addr) : FnC := match K.lookup f with
  | some ⟨_, _, .func fd, _⟩ => some (fd.name, fd.qualname, fd.params, fd.body, fd.scope, fd.globals, fd.closure.map (·.1), fd.builtins)
  | _ => none
/-- an exception's class: its name, its field, its __init__, as the text has them -/
structure XcD where
  x : Str
  f : Str
  txt : Str
  qual : Str
  st : Stmt
def XcD.C (K : Frag) (d : XcD) : Addr := He.ga K d.x
def XcD.i (K : Frag) (d : XcD) : Addr := He.ma K (d.C K) "__init__"
def XcD.val (d : XcD) : FnC := some ("__init__", d.qual, defArgs d.st, .stmts (defBody d.st), defScope d.st, mainGlobals, ["__class__"], builtinsNs)
def cellB (K : Frag) (c C : Addr) : Bool := match K.lookup c with
  | some ⟨_, _, .cell (some (.ref a)), _⟩ => decide (a = C)
  | _ => false
def codeB (K : Frag) (file : Str) (cd : Value) : Bool := match cd with
  | .ref c => (match K.lookup c with
    | some ⟨_, _, .fields vs, _⟩ => (match (vs[2]? : Option Value) with
      | some (Value.str f _) => decide (f = file)
      | _ => false)
    | _ => false)
  | _ => false
def initB (K : Frag) (file : Str) (d : XcD) : Bool := match K.lookup (d.i K) with
  | some ⟨_, _, .func fd, _⟩ => codeIn K fd.code d.qual && (codeB K file fd.code && (fd.closure.all (fun q => cellB K q.2 (d.C K)) && decide (fd.defaults = .none)))
  | _ => false
def XcD.ok (K : Frag) (file : Str) (d : XcD) : Bool := He.eqO (nsIn K mainGlobals d.x) (some (some (.ref (d.C K)))) && (clsB K (d.C K) && (He.eqO (findIn K (.ref (d.C K)) "__setattr__") (some (some (.builtin "object.__setattr__"))) &&
  (He.eqO (findIn K (.ref (d.C K)) "__getattribute__") (some (some (.builtin "BaseException.__getattribute__"))) && (He.eqO (findIn K (.ref (d.C K)) "__getattr__") (some none) && (He.eqO (findIn K (.ref (d.C K)) d.f) (some none) &&
  (He.eqO (findIn K (.ref (d.C K)) "__init__") (some (some (.ref (d.i K)))) && (decide (typeIn K (.ref (d.i K)) = some (.type "function")) && (keepIn K (.ref (d.C K)) && (decide (subIn K (.ref (d.C K)) (.type "BaseException") = some true) &&
  (decide (subIn K (.ref (d.C K)) (.type "ValueError") = some true) && (decide (typeIn K (.ref (d.C K)) = some (.type "type")) && (hasDictIn K (d.C K) && (decide (mroIn K (d.C K) (.ref (d.C K)) = some true) &&
  (decide (exmOne K (.ref (d.C K)) (.ref (d.C K)) = some true) && (He.eqO (ks_superIn K (d.C K) (d.C K) "__init__") (some (some (.builtin "ValueError.__init__"))) && (He.eqO (nsIn K cStatics "thirdparty.any") (some none) && (He.eqO (nsIn K mainGlobals "super") (some none) && initB K file d)))))))))))))))))
/-- what the text of such an __init__ gives, however it stands in the heap -/
def TextOk (d : XcD) : Prop := ∃ (a sn : Str) (ar : Arg) (k : Nat) (p0 p1 p2 p3 p4 p5 p6 p7 p8 p9 : Pos), defBody d.st = supBody d.txt d.f a sn k p0 p1 p2 p3 p4 p5 p6 p7 p8 p9 ∧
  (∀ (kV doc pm : Value) (an : Option Addr) (cda cc : Addr) (ct u v : Value), bindArgs (ksFn "__init__" d.qual (defArgs d.st) (supBody d.txt d.f a sn k p0 p1 p2 p3 p4 p5 p6 p7 p8 p9) (defScope d.st) .none kV doc pm an (.ref cda) ct cc) ⟨[u, v], []⟩ = pure [(sn, u), (a, v)]) ∧
  ((defArgs d.st).posonlyargs ++ (defArgs d.st).args).head? = some ar ∧ ar.arg = sn ∧ a ≠ sn ∧ (sn == ("__debug__" : Str)) = false ∧ (a == ("__debug__" : Str)) = false ∧ (∀ y ∈ (defScope d.st).names, y.2 ≠ .cell) ∧ (defScope d.st).names.lookup sn = some .local ∧ (defScope d.st).names.lookup a = some .local ∧
  (defScope d.st).names.lookup ("super" : Str) = some .globalImplicit ∧ (defScope d.st).names.lookup ("__class__" : Str) = some .free ∧ (defScope d.st).kind = .function ∧ (defScope d.st).isCoroutine = false ∧ (defScope d.st).isGenerator = false ∧
  ∀ (L fI cda cc : Addr),
    (∃ pl : Sem Bool, eval (.Call (.Attribute (.Call (.Name "super" p0) [] [] p1) "__init__" p2) [.Constant (.str d.txt) k p3] [] p4) (ksEnv d.qual (defScope d.st) L fI (.ref cda) cc) = (do
      let ov ← attributeBase (.Call (.Name "super" p0) [] [] p1) "__init__" (ksEnv d.qual (defScope d.st) L fI (.ref cda) cc) (eval (.Call (.Name "super" p0) [] [] p1) (ksEnv d.qual (defScope d.st) L fI (.ref cda) cc))
      standAt p2.atName
      let (f, first) ← holding [ov] (getMethod ov "__init__" pl)
      callWith p4 f first (backTo p4 (starEach [.Constant (.str d.txt) k p3] (ksEnv d.qual (defScope d.st) L fI (.ref cda) cc))) [])) ∧
    interactive (ksEnv d.qual (defScope d.st) L fI (.ref cda) cc) = false ∧
    swapsWith (.Call (.Attribute (.Call (.Name "super" p0) [] [] p1) "__init__" p2) [.Constant (.str d.txt) k p3] [] p4) none p5.line (ksEnv d.qual (defScope d.st) L fI (.ref cda) cc) = pure false ∧
    swapsWith (.Name a p8) (some (.Attribute (.Name sn p6) d.f p7)) p9.line (ksEnv d.qual (defScope d.st) L fI (.ref cda) cc) = pure false ∧
    starEach [.Constant (.str d.txt) k p3] (ksEnv d.qual (defScope d.st) L fI (.ref cda) cc) = (false, eval (.Constant (.str d.txt) k p3) (ksEnv d.qual (defScope d.st) L fI (.ref cda) cc)) :: starEach [] (ksEnv d.qual (defScope d.st) L fI (.ref cda) cc) ∧
    starEach [] (ksEnv d.qual (defScope d.st) L fI (.ref cda) cc) = []
theorem sup_of {prog : Program} {K : Frag} {h : Heap} {mg : Str → Option Value} {file : Str} {d : XcD} (X : K.In h) (G : h.Ns mainGlobals mg) (t : TextOk d) (e : fnC K (d.i K) = d.val) (c : d.ok K file = true) (hp : prog.main.file = file) (ht : (prog.main.scope.names.lookup ("super" : Str)).isSome = false) :
    Sup prog K mg (d.C K) (d.i K) d.x d.f d.txt := by
  obtain ⟨c1, c⟩ := He.ba c
  obtain ⟨c2, c⟩ := He.ba c
  obtain ⟨c3, c⟩ := He.ba c
  obtain ⟨c4, c⟩ := He.ba c
  obtain ⟨c5, c⟩ := He.ba c
  obtain ⟨c6, c⟩ := He.ba c
  obtain ⟨c7, c⟩ := He.ba c
  obtain ⟨c8, c⟩ := He.ba c
  obtain ⟨c9, c⟩ := He.ba c
  obtain ⟨c10, c⟩ := He.ba c
  obtain ⟨c11, c⟩ := He.ba c
  obtain ⟨c12, c⟩ := He.ba c
  obtain ⟨c13, c⟩ := He.ba c
  obtain ⟨c14, c⟩ := He.ba c
  obtain ⟨c15, c⟩ := He.ba c
  obtain ⟨c16, c⟩ := He.ba c
  obtain ⟨c17, c⟩ := He.ba c
  obtain ⟨c18, c⟩ := He.ba c
  refine { gC := mg_of X G (He.eqO_ok c1), cls := clsB_ok c2, sa := He.eqO_ok c3, ga := He.eqO_ok c4, gg := He.eqO_ok c5, noN := He.eqO_ok c6, iC := He.eqO_ok c7, tC := of_decide_eq_true c8, kC := c9, exC := of_decide_eq_true c10, veC := of_decide_eq_true c11, tyC := of_decide_eq_true c12, hdC := c13, meC := of_decide_eq_true c14, te := of_decide_eq_true c15, sup := He.eqO_ok c16, opq := He.eqO_ok c17, noS := mg_none_of X G (He.eqO_ok c18), top := ht, fn := ?_ }
  obtain ⟨a, sn, ar, k, p0, p1, p2, p3, p4, p5, p6, p7, p8, p9, tb, t1, t2, t3, t4, t5, t6, t7, t8, t9, t10, t11, t12, t13, t14, t15⟩ := t
  unfold initB at c
  unfold fnC at e
  cases q : K.lookup (d.i K) with
  | none => rw [q] at c; cases c
  | some o =>
    obtain ⟨oc, od, dt, osl⟩ := o
    rw [q] at c e
    cases dt with
    | func fd =>
      obtain ⟨n1, n2, n3, n4, n5, n6, n7, n8, n9, n10, n11, n12, n13, n14, n15⟩ := fd
      have e2 : (some (n1, n2, n3, n4, n5, n6, n7.map (·.1), n15) : FnC) = d.val := e
      unfold XcD.val at e2
      simp only [Option.some.injEq, Prod.mk.injEq] at e2
      obtain ⟨h1, h2, h3, h4, h5, h6, h7, h8⟩ := e2
      have c' : (codeIn K n13 d.qual && (codeB K file n13 && (n7.all (fun q => cellB K q.2 (d.C K)) && decide (n8 = .none)))) = true := c
      obtain ⟨b1, b⟩ := He.ba c'
      obtain ⟨b2, b⟩ := He.ba b
      obtain ⟨b3, b4⟩ := He.ba b
      have b4 := of_decide_eq_true b4
      subst h1 h2 h3 h4 h5 h6 h8 b4
      rw [tb] at q
      match n7, h7, b3 with
      | [(z, cc)], h7, b3 =>
        have hz : z = "__class__" := by simpa using h7
        subst hz
        have b3 : cellB K cc (d.C K) = true := by simpa using b3
        cases n13 with
        | ref cda =>
          refine ⟨oc, od, d.qual, a, sn, defArgs d.st, defScope d.st, n9, n10, n11, n12, cda, cc, n14, osl, ar, k, p0, p1, p2, p3, p4, p5, p6, p7, p8, p9, by rw [tb], b1, ?_, ?_, t1 _ _ _ _ _ _ _, t2, t3, t4, t5, t6, t7, t8, t9, t10, t11, t12, t13, t14, fun L => (t15 L _ cda cc).1, fun L => (t15 L _ cda cc).2.1, fun L => (t15 L _ cda cc).2.2.1, fun L => (t15 L _ cda cc).2.2.2.1, fun L => (t15 L _ cda cc).2.2.2.2.1, fun L => (t15 L _ cda cc).2.2.2.2.2⟩
          · unfold cellB at b3
            split at b3
            · rename_i c1 c2 a sl ho
              have := of_decide_eq_true b3
              subst this
              exact ⟨_, _, _, ho⟩
            · cases b3
          · have b2 : (match K.lookup cda with
              | some ⟨_, _, .fields vs, _⟩ => (match (vs[2]? : Option Value) with
                | some (Value.str f _) => decide (f = file)
                | _ => false)
              | _ => false) = true := b2
            cases y : K.lookup cda with
            | none => rw [y] at b2; cases b2
            | some o2 =>
              obtain ⟨o2c, o2d, o2t, o2s⟩ := o2
              simp only [y] at b2
              cases o2t with
              | fields vs =>
                simp only at b2
                split at b2
                · rename_i f tf hv
                  exact ⟨_, _, vs, _, f, tf, rfl, hv, by rw [hp, of_decide_eq_true b2]; exact beq_self_eq_true _⟩
                · cases b2
              | _ => cases b2
        | _ => cases b1
    | _ => cases c
/-! ### the Hook -/
abbrev AlS : Type := He.AlD × Bool × List FnC
def frS (g : Addr → Option Obj) (n : Nat) : Frag := He.frG g (He.asD g n ++ [cStatics])
def obsS (fa : List He.Fa) (fn : List He.DefD) (xs : List XcD) (file : Str) (ex : Frag → Bool) (K : Frag) : AlS := (He.obsD fa fn K, ex K && xs.all (fun d => d.ok K file), xs.map fun d => fnC K (d.i K))
def valS (fn : List He.DefD) (xs : List XcD) : AlS := (He.valD fn, true, xs.map XcD.val)
def SaysS (fa : List He.Fa) (fn : List He.DefD) (xs : List XcD) (file : Str) (ex : Frag → Bool) (K : Frag) : Prop := obsS fa fn xs file ex K = valS fn xs
def obsSG (n : Nat) (fa : List He.Fa) (fn : List He.DefD) (xs : List XcD) (file : Str) (ex : Frag → Bool) (g : Addr → Option Obj) : AlS := obsS fa fn xs file ex (frS g n)
def hookS (n : Nat) (fa : List He.Fa) (fn : List He.DefD) (xs : List XcD) (file : Str) (ex : Frag → Bool) : Hook where
  α := AlS
  obs := fun s => obsSG n fa fn xs file ex s.heap.get?
  val := fun _ => valS fn xs
  says := fun _ h => ∃ K : Frag, K.In h ∧ SaysS fa fn xs file ex K
  of := fun _ _ e => ⟨_, He.frG_in, e⟩
  keeps := fun _ _ _ ⟨K, hK, c⟩ k => ⟨K, Frag.In.keeps hK k, c⟩
theorem obsSG_eq {n : Nat} {fa : List He.Fa} {fn : List He.DefD} {xs : List XcD} {file : Str} {ex : Frag → Bool} {g : Addr → Option Obj} {s : Shared} (h : ∀ a, g a = s.heap.get? a) : obsSG n fa fn xs file ex g = (hookS n fa fn xs file ex).obs s := by
  have e : g = s.heap.get? := funext h
  rw [e] <;> rfl
section
variable {fa : List He.Fa} {fn : List He.DefD} {xs : List XcD} {file : Str} {ex : Frag → Bool} {K : Frag}
theorem SaysS.d (c : SaysS fa fn xs file ex K) : He.SaysD fa fn K := congrArg (fun z : AlS => z.1) c
theorem SaysS.two (c : SaysS fa fn xs file ex K) : (ex K && xs.all (fun d => d.ok K file)) = true := congrArg (fun z : AlS => z.2.1) c
theorem SaysS.exq (c : SaysS fa fn xs file ex K) : ex K = true := (He.ba c.two).1
theorem SaysS.xok (c : SaysS fa fn xs file ex K) (i : Nat) {d : XcD} (h : xs[i]? = some d := by rfl) : d.ok K file = true := List.all_eq_true.mp (He.ba c.two).2 d (List.mem_of_getElem? h)
theorem SaysS.xfn (c : SaysS fa fn xs file ex K) (i : Nat) {d : XcD} (h : xs[i]? = some d := by rfl) : fnC K (d.i K) = d.val := by
  have e : (xs.map fun d => fnC K (d.i K)) = xs.map XcD.val := congrArg (fun z : AlS => z.2.2) c
  have e2 : (xs.map fun d => fnC K (d.i K))[i]? = (xs.map XcD.val)[i]? := by rw [e]
  rw [List.getElem?_map, List.getElem?_map, h] at e2
  exact Option.some.inj e2
end
end SupX
namespace WD
open PySem PySem.Spec PyProof.Rows L2
/-- no list stands in the written part -/
def noLst (K : PySem.W.Frag) : Bool := K.all fun p => match p.2.cls with
  | .type c => decide (c ≠ "list")
  | _ => true
theorem rd_of {K : PySem.W.Frag} {H : Hp} {a : Addr} {xs : List V} (n : noLst K = true) (h : SqL K H a xs) : Rd H a (.lst xs) := by
  rcases h with h | ⟨o, its, k, h1, h2, _⟩
  · exact h
  · have mem : (a, o) ∈ K := by
      have key : ∀ l : List (Addr × Obj), l.lookup a = some o → (a, o) ∈ l := by
        intro l
        induction l with
        | nil => intro h; cases h
        | cons q l ih =>
          obtain ⟨b, u⟩ := q
          intro h
          rw [List.lookup_cons] at h
          cases z : (a == b) with
          | true =>
            rw [z] at h
            cases h
            rw [beq_iff_eq.mp z]
            exact List.mem_cons_self
          | false =>
            rw [z] at h
            exact List.mem_cons_of_mem _ (ih h)
      exact key K h1
    have y := List.all_eq_true.mp n _ mem
    simp only [h2] at y
    exact absurd rfl (of_decide_eq_true y)
end WD
end
section
set_option Elab.async false
set_option linter.all false
set_option maxRecDepth 100000
namespace My
open PySem PySem.Spec PyProof.Rows L2 Evl WD
def topS (i : Nat) : Stmt := PySem.Challenge.pw_weirlines_k45_whole_turns.main.body.getD i (.Pass ⟨0, 0, 0, 0⟩)
abbrev c_WeirError : Stmt := topS 3
abbrev c_BadRow : Stmt := topS 4
abbrev c_BadWeir : Stmt := topS 5
abbrev s_BadWeir___init__ : Stmt := inClass c_BadWeir 0
abbrev c_BadOrder : Stmt := topS 6
abbrev s_BadOrder___init__ : Stmt := inClass c_BadOrder 0
abbrev s_is_integer : Stmt := topS 8
abbrev s_is_fraction : Stmt := topS 9
abbrev s_is_amount : Stmt := topS 10
abbrev s_reduced : Stmt := topS 11
abbrev s_exact : Stmt := topS 12
abbrev s_plus : Stmt := topS 13
abbrev s_minus : Stmt := topS 14
abbrev s_times : Stmt := topS 15
abbrev s_common_bottom : Stmt := topS 16
abbrev c_Line : Stmt := topS 17
abbrev s_Line___init__ : Stmt := inClass c_Line 0
abbrev s_Line_top : Stmt := inClass c_Line 1
abbrev s_Line_even : Stmt := inClass c_Line 2
abbrev s_Line_inside : Stmt := inClass c_Line 3
abbrev s_Line_water : Stmt := inClass c_Line 4
abbrev c_Row : Stmt := topS 22
abbrev s_Row___init__ : Stmt := inClass c_Row 0
abbrev s_Row___len__ : Stmt := inClass c_Row 1
abbrev s_Row___getitem__ : Stmt := inClass c_Row 2
abbrev s_Row___iter__ : Stmt := inClass c_Row 3
abbrev s_Row___contains__ : Stmt := inClass c_Row 4
abbrev s_Row___eq__ : Stmt := inClass c_Row 5
abbrev s_Row_weirs : Stmt := inClass c_Row 6
abbrev s_Row_heights : Stmt := inClass c_Row 7
abbrev s_Row_sums : Stmt := inClass c_Row 8
abbrev s_Row_reaches : Stmt := inClass c_Row 9
abbrev s_Row_opened : Stmt := inClass c_Row 10
abbrev s_with_volumes : Stmt := topS 23
abbrev s_check_areas : Stmt := topS 24
abbrev s_check_volumes : Stmt := topS 25
abbrev s_check_locks : Stmt := topS 26
abbrev s_check_row : Stmt := topS 27
abbrev s_check_order : Stmt := topS 28
abbrev s_line_of : Stmt := topS 29
abbrev c_Sinking : Stmt := topS 31
abbrev s_Sinking___init__ : Stmt := inClass c_Sinking 0
abbrev s_Sinking___eq__ : Stmt := inClass c_Sinking 1
abbrev s_Sinking___bool__ : Stmt := inClass c_Sinking 2
abbrev s_Sinking_shows : Stmt := inClass c_Sinking 3
abbrev s_sign_at : Stmt := topS 32
abbrev s_all_signs : Stmt := topS 33
abbrev s_changes : Stmt := topS 34
abbrev s_signs : Stmt := topS 35
abbrev s_turns : Stmt := topS 36
abbrev s_flats : Stmt := topS 37
abbrev s_peaks : Stmt := topS 38
abbrev s_sinking : Stmt := topS 39
abbrev s_turns_left : Stmt := topS 40
abbrev s__law_number : Stmt := topS 42
abbrev s__law_take : Stmt := topS 43
abbrev s__law_pick : Stmt := topS 44
abbrev s__law_common : Stmt := topS 45
abbrev s__law_part : Stmt := topS 46
abbrev s__law_plus : Stmt := topS 47
abbrev s__law_less : Stmt := topS 48
abbrev s__law_times : Stmt := topS 49
abbrev s__law_drawn : Stmt := topS 50
abbrev s__law_parts_of : Stmt := topS 51
abbrev s__law_open : Stmt := topS 52
abbrev s__law_heights : Stmt := topS 53
abbrev s__law_order : Stmt := topS 54
abbrev s__law_signs : Stmt := topS 55
abbrev s__law_turns : Stmt := topS 56
abbrev s__law_flats : Stmt := topS 57
abbrev s__law_peaks : Stmt := topS 58
abbrev s_law : Stmt := topS 59
def d_is_integer : He.DefD := ⟨("is_integer", none), "is_integer", "is_integer", defArgs s_is_integer, defBody s_is_integer, defScope s_is_integer, [], []⟩
def d_is_fraction : He.DefD := ⟨("is_fraction", none), "is_fraction", "is_fraction", defArgs s_is_fraction, defBody s_is_fraction, defScope s_is_fraction, [], []⟩
def d_is_amount : He.DefD := ⟨("is_amount", none), "is_amount", "is_amount", defArgs s_is_amount, defBody s_is_amount, defScope s_is_amount, [], []⟩
def d_reduced : He.DefD := ⟨("reduced", none), "reduced", "reduced", defArgs s_reduced, defBody s_reduced, defScope s_reduced, [], []⟩
def d_exact : He.DefD := ⟨("exact", none), "exact", "exact", defArgs s_exact, defBody s_exact, defScope s_exact, [], []⟩
def d_plus : He.DefD := ⟨("plus", none), "plus", "plus", defArgs s_plus, defBody s_plus, defScope s_plus, [], []⟩
def d_minus : He.DefD := ⟨("minus", none), "minus", "minus", defArgs s_minus, defBody s_minus, defScope s_minus, [], []⟩
def d_times : He.DefD := ⟨("times", none), "times", "times", defArgs s_times, defBody s_times, defScope s_times, [], []⟩
def d_common_bottom : He.DefD := ⟨("common_bottom", none), "common_bottom", "common_bottom", defArgs s_common_bottom, defBody s_common_bottom, defScope s_common_bottom, [], []⟩
def d_Line___init__ : He.DefD := ⟨("Line", some "__init__"), "__init__", "Line.__init__", defArgs s_Line___init__, defBody s_Line___init__, defScope s_Line___init__, [.adr (He.dflAt (("Line", some "__init__")) 0)], []⟩
def d_Line_top : He.DefD := ⟨("Line", some "top"), "top", "Line.top", defArgs s_Line_top, defBody s_Line_top, defScope s_Line_top, [], []⟩
def d_Line_even : He.DefD := ⟨("Line", some "even"), "even", "Line.even", defArgs s_Line_even, defBody s_Line_even, defScope s_Line_even, [], []⟩
def d_Line_inside : He.DefD := ⟨("Line", some "inside"), "inside", "Line.inside", defArgs s_Line_inside, defBody s_Line_inside, defScope s_Line_inside, [], []⟩
def d_Line_water : He.DefD := ⟨("Line", some "water"), "water", "Line.water", defArgs s_Line_water, defBody s_Line_water, defScope s_Line_water, [], []⟩
def d_Row___init__ : He.DefD := ⟨("Row", some "__init__"), "__init__", "Row.__init__", defArgs s_Row___init__, defBody s_Row___init__, defScope s_Row___init__, [.adr (He.dflAt (("Row", some "__init__")) 0)], []⟩
def d_Row___len__ : He.DefD := ⟨("Row", some "__len__"), "__len__", "Row.__len__", defArgs s_Row___len__, defBody s_Row___len__, defScope s_Row___len__, [], []⟩
def d_Row___getitem__ : He.DefD := ⟨("Row", some "__getitem__"), "__getitem__", "Row.__getitem__", defArgs s_Row___getitem__, defBody s_Row___getitem__, defScope s_Row___getitem__, [], []⟩
def d_Row___iter__ : He.DefD := ⟨("Row", some "__iter__"), "__iter__", "Row.__iter__", defArgs s_Row___iter__, defBody s_Row___iter__, defScope s_Row___iter__, [], []⟩
def d_Row___contains__ : He.DefD := ⟨("Row", some "__contains__"), "__contains__", "Row.__contains__", defArgs s_Row___contains__, defBody s_Row___contains__, defScope s_Row___contains__, [], []⟩
def d_Row___eq__ : He.DefD := ⟨("Row", some "__eq__"), "__eq__", "Row.__eq__", defArgs s_Row___eq__, defBody s_Row___eq__, defScope s_Row___eq__, [], []⟩
def d_Row_weirs : He.DefD := ⟨("Row", some "weirs"), "weirs", "Row.weirs", defArgs s_Row_weirs, defBody s_Row_weirs, defScope s_Row_weirs, [], []⟩
def d_Row_heights : He.DefD := ⟨("Row", some "heights"), "heights", "Row.heights", defArgs s_Row_heights, defBody s_Row_heights, defScope s_Row_heights, [], []⟩
def d_Row_sums : He.DefD := ⟨("Row", some "sums"), "sums", "Row.sums", defArgs s_Row_sums, defBody s_Row_sums, defScope s_Row_sums, [], []⟩
def d_Row_opened : He.DefD := ⟨("Row", some "opened"), "opened", "Row.opened", defArgs s_Row_opened, defBody s_Row_opened, defScope s_Row_opened, [.adr (He.dflAt (("Row", some "opened")) 0)], []⟩
def d_with_volumes : He.DefD := ⟨("with_volumes", none), "with_volumes", "with_volumes", defArgs s_with_volumes, defBody s_with_volumes, defScope s_with_volumes, [], []⟩
def d_check_areas : He.DefD := ⟨("check_areas", none), "check_areas", "check_areas", defArgs s_check_areas, defBody s_check_areas, defScope s_check_areas, [], []⟩
def d_check_volumes : He.DefD := ⟨("check_volumes", none), "check_volumes", "check_volumes", defArgs s_check_volumes, defBody s_check_volumes, defScope s_check_volumes, [], []⟩
def d_check_locks : He.DefD := ⟨("check_locks", none), "check_locks", "check_locks", defArgs s_check_locks, defBody s_check_locks, defScope s_check_locks, [], []⟩
def d_check_row : He.DefD := ⟨("check_row", none), "check_row", "check_row", defArgs s_check_row, defBody s_check_row, defScope s_check_row, [], []⟩
def d_check_order : He.DefD := ⟨("check_order", none), "check_order", "check_order", defArgs s_check_order, defBody s_check_order, defScope s_check_order, [], []⟩
def d_line_of : He.DefD := ⟨("line_of", none), "line_of", "line_of", defArgs s_line_of, defBody s_line_of, defScope s_line_of, [], []⟩
def d_Sinking___init__ : He.DefD := ⟨("Sinking", some "__init__"), "__init__", "Sinking.__init__", defArgs s_Sinking___init__, defBody s_Sinking___init__, defScope s_Sinking___init__, [], []⟩
def d_Sinking___eq__ : He.DefD := ⟨("Sinking", some "__eq__"), "__eq__", "Sinking.__eq__", defArgs s_Sinking___eq__, defBody s_Sinking___eq__, defScope s_Sinking___eq__, [], []⟩
def d_Sinking___bool__ : He.DefD := ⟨("Sinking", some "__bool__"), "__bool__", "Sinking.__bool__", defArgs s_Sinking___bool__, defBody s_Sinking___bool__, defScope s_Sinking___bool__, [], []⟩
def d_Sinking_shows : He.DefD := ⟨("Sinking", some "shows"), "shows", "Sinking.shows", defArgs s_Sinking_shows, defBody s_Sinking_shows, defScope s_Sinking_shows, [], []⟩
def d_sign_at : He.DefD := ⟨("sign_at", none), "sign_at", "sign_at", defArgs s_sign_at, defBody s_sign_at, defScope s_sign_at, [], []⟩
def d_all_signs : He.DefD := ⟨("all_signs", none), "all_signs", "all_signs", defArgs s_all_signs, defBody s_all_signs, defScope s_all_signs, [], []⟩
def d_changes : He.DefD := ⟨("changes", none), "changes", "changes", defArgs s_changes, defBody s_changes, defScope s_changes, [], []⟩
def d_signs : He.DefD := ⟨("signs", none), "signs", "signs", defArgs s_signs, defBody s_signs, defScope s_signs, [], []⟩
def d_turns : He.DefD := ⟨("turns", none), "turns", "turns", defArgs s_turns, defBody s_turns, defScope s_turns, [], []⟩
def d_flats : He.DefD := ⟨("flats", none), "flats", "flats", defArgs s_flats, defBody s_flats, defScope s_flats, [], []⟩
def d_peaks : He.DefD := ⟨("peaks", none), "peaks", "peaks", defArgs s_peaks, defBody s_peaks, defScope s_peaks, [], []⟩
def d_sinking : He.DefD := ⟨("sinking", none), "sinking", "sinking", defArgs s_sinking, defBody s_sinking, defScope s_sinking, [], []⟩
def d_turns_left : He.DefD := ⟨("turns_left", none), "turns_left", "turns_left", defArgs s_turns_left, defBody s_turns_left, defScope s_turns_left, [], []⟩
def d__law_number : He.DefD := ⟨("_law_number", none), "_law_number", "_law_number", defArgs s__law_number, defBody s__law_number, defScope s__law_number, [], []⟩
def d__law_take : He.DefD := ⟨("_law_take", none), "_law_take", "_law_take", defArgs s__law_take, defBody s__law_take, defScope s__law_take, [], []⟩
def d__law_pick : He.DefD := ⟨("_law_pick", none), "_law_pick", "_law_pick", defArgs s__law_pick, defBody s__law_pick, defScope s__law_pick, [], []⟩
def d__law_common : He.DefD := ⟨("_law_common", none), "_law_common", "_law_common", defArgs s__law_common, defBody s__law_common, defScope s__law_common, [], []⟩
def d__law_part : He.DefD := ⟨("_law_part", none), "_law_part", "_law_part", defArgs s__law_part, defBody s__law_part, defScope s__law_part, [], []⟩
def d__law_plus : He.DefD := ⟨("_law_plus", none), "_law_plus", "_law_plus", defArgs s__law_plus, defBody s__law_plus, defScope s__law_plus, [], []⟩
def d__law_less : He.DefD := ⟨("_law_less", none), "_law_less", "_law_less", defArgs s__law_less, defBody s__law_less, defScope s__law_less, [], []⟩
def d__law_times : He.DefD := ⟨("_law_times", none), "_law_times", "_law_times", defArgs s__law_times, defBody s__law_times, defScope s__law_times, [], []⟩
def d__law_drawn : He.DefD := ⟨("_law_drawn", none), "_law_drawn", "_law_drawn", defArgs s__law_drawn, defBody s__law_drawn, defScope s__law_drawn, [], []⟩
def d__law_parts_of : He.DefD := ⟨("_law_parts_of", none), "_law_parts_of", "_law_parts_of", defArgs s__law_parts_of, defBody s__law_parts_of, defScope s__law_parts_of, [], []⟩
def d__law_open : He.DefD := ⟨("_law_open", none), "_law_open", "_law_open", defArgs s__law_open, defBody s__law_open, defScope s__law_open, [], []⟩
def d__law_heights : He.DefD := ⟨("_law_heights", none), "_law_heights", "_law_heights", defArgs s__law_heights, defBody s__law_heights, defScope s__law_heights, [], []⟩
def d__law_order : He.DefD := ⟨("_law_order", none), "_law_order", "_law_order", defArgs s__law_order, defBody s__law_order, defScope s__law_order, [], []⟩
def d__law_signs : He.DefD := ⟨("_law_signs", none), "_law_signs", "_law_signs", defArgs s__law_signs, defBody s__law_signs, defScope s__law_signs, [], []⟩
def d__law_turns : He.DefD := ⟨("_law_turns", none), "_law_turns", "_law_turns", defArgs s__law_turns, defBody s__law_turns, defScope s__law_turns, [], []⟩
def d__law_flats : He.DefD := ⟨("_law_flats", none), "_law_flats", "_law_flats", defArgs s__law_flats, defBody s__law_flats, defScope s__law_flats, [], []⟩
def d__law_peaks : He.DefD := ⟨("_law_peaks", none), "_law_peaks", "_law_peaks", defArgs s__law_peaks, defBody s__law_peaks, defScope s__law_peaks, [], []⟩
def d_law : He.DefD := ⟨("law", none), "law", "law", defArgs s_law, defBody s_law, defScope s_law, [], []⟩
def fn0 : List He.DefD := [d_is_integer, d_is_fraction, d_is_amount, d_reduced, d_exact, d_plus, d_minus, d_times, d_common_bottom, d_Line___init__, d_Line_top, d_Line_even, d_Line_inside, d_Line_water, d_Row___init__, d_Row___len__, d_Row___getitem__, d_Row___iter__, d_Row___contains__, d_Row___eq__]
def fn1 : List He.DefD := [d_Row_weirs, d_Row_heights, d_Row_sums, d_Row_opened, d_with_volumes, d_check_areas, d_check_volumes, d_check_locks, d_check_row, d_check_order, d_line_of, d_Sinking___init__, d_Sinking___eq__, d_Sinking___bool__, d_Sinking_shows, d_sign_at, d_all_signs, d_changes, d_signs, d_turns]
def fn2 : List He.DefD := [d_flats, d_peaks, d_sinking, d_turns_left, d__law_number, d__law_take, d__law_pick, d__law_common, d__law_part, d__law_plus, d__law_less, d__law_times, d__law_drawn, d__law_parts_of, d__law_open, d__law_heights, d__law_order, d__law_signs, d__law_turns, d__law_flats]
def fn3 : List He.DefD := [d__law_peaks, d_law]
def fn : List He.DefD := fn0 ++ fn1 ++ fn2 ++ fn3
def fa0 : List He.Fa := [.glo "WeirError", .glo "BadRow", .glo "BadWeir", .glo "BadOrder", .glo "is_integer", .glo "is_fraction", .glo "is_amount", .glo "reduced", .glo "exact", .glo "plus", .glo "minus", .glo "times", .glo "common_bottom", .glo "Line", .cls "Line", .mkr "Line", .meth "Line" "top", .meth "Line" "even", .meth "Line" "inside", .meth "Line" "water"]
def fa1 : List He.Fa := [.noat "Line" "areas", .noat "Line" "bottom", .noat "Line" "bottoms", .noat "Line" "tops", .int "MOST_BASINS" 24, .int "MOST_AREA" 1000, .int "MOST_OPENINGS" 20000, .glo "Row", .cls "Row", .mkr "Row", .meth "Row" "__len__", .meth "Row" "__getitem__", .meth "Row" "__iter__", .meth "Row" "__contains__", .meth "Row" "__eq__", .meth "Row" "weirs", .meth "Row" "heights", .meth "Row" "sums", .meth "Row" "opened", .noat "Row" "areas"]
def fa2 : List He.Fa := [.noat "Row" "locks", .noat "Row" "volumes", .glo "with_volumes", .glo "check_areas", .glo "check_volumes", .glo "check_locks", .glo "check_row", .glo "check_order", .glo "line_of", .glo "Sinking", .cls "Sinking", .mkr "Sinking", .meth "Sinking" "__eq__", .meth "Sinking" "__bool__", .meth "Sinking" "shows", .noat "Sinking" "numbers", .glo "sign_at", .glo "all_signs", .glo "changes", .glo "signs"]
def fa3 : List He.Fa := [.glo "turns", .glo "flats", .glo "peaks", .glo "sinking", .glo "turns_left", .glo "_law_number", .glo "_law_take", .glo "_law_pick", .glo "_law_common", .glo "_law_part", .glo "_law_plus", .glo "_law_less", .glo "_law_times", .glo "_law_drawn", .glo "_law_parts_of", .glo "_law_open", .glo "_law_heights", .glo "_law_order", .glo "_law_signs", .glo "_law_turns"]
def fa4 : List He.Fa := [.glo "_law_flats", .glo "_law_peaks", .glo "law", .free "ValueError", .free "abs", .free "all", .free "bool", .free "enumerate", .free "int", .free "isinstance", .free "len", .free "list", .free "max", .free "min", .free "range", .free "set", .free "sorted", .free "super", .free "tuple", .free "zip"]
def fa : List He.Fa := fa0 ++ fa1 ++ fa2 ++ fa3 ++ fa4
def loose0 : List PySem.Str := ["_wall", "WeirError", "BadRow", "BadWeir", "BadOrder", "is_integer", "is_fraction", "is_amount", "reduced", "exact", "plus", "minus", "times", "common_bottom", "Line", "MOST_BASINS", "MOST_AREA", "MOST_OPENINGS", "Row", "with_volumes"]
def loose1 : List PySem.Str := ["check_areas", "check_volumes", "check_locks", "check_row", "check_order", "line_of", "Sinking", "sign_at", "all_signs", "changes", "signs", "turns", "flats", "peaks", "sinking", "turns_left", "_law_number", "_law_take", "_law_pick", "_law_common"]
def loose2 : List PySem.Str := ["_law_part", "_law_plus", "_law_less", "_law_times", "_law_drawn", "_law_parts_of", "_law_open", "_law_heights", "_law_order", "_law_signs", "_law_turns", "_law_flats", "_law_peaks"]
def loose : List PySem.Str := loose0 ++ loose1 ++ loose2
def x_BadWeir : SupX.XcD := ⟨"BadWeir", "number", "no weir that can be opened here", "BadWeir.__init__", s_BadWeir___init__⟩
def x_BadOrder : SupX.XcD := ⟨"BadOrder", "place", "no order of weirs that can be opened here", "BadOrder.__init__", s_BadOrder___init__⟩
def xs : List SupX.XcD := [x_BadWeir, x_BadOrder]
def fileS : Str := PySem.Challenge.pw_weirlines_k45_whole_turns.main.file
open He in
def exL (K : PySem.W.Frag) : List Bool := [eqO (PySem.W.nsIn K mainGlobals "gcd") (some (some (.builtin "math.gcd"))),
  eqO (PySem.W.nsIn K mainGlobals "lcm") (some (some (.builtin "math.lcm"))),
  eqO (PySem.W.findIn K (.ref (He.ga K "Line")) "__ne__") (some (some (.builtin "object.__ne__"))),
  eqO (PySem.W.findIn K (.ref (He.ga K "Line")) "__class__") (some (some (.builtin "object.__class__"))),
  decide (PySem.W.mroIn K (He.ga K "Line") (.type "object") = some true),
  decide (PySem.W.kitOne K (.ref (He.ga K "Line")) (.ref (He.ga K "Line")) = some true),
  decide (PySem.W.kitOne K (.ref (He.ga K "Line")) (.type "tuple") = some false),
  eqO (PySem.W.findIn K (.ref (He.ga K "Row")) "__ne__") (some (some (.builtin "object.__ne__"))),
  eqO (PySem.W.findIn K (.ref (He.ga K "Row")) "__class__") (some (some (.builtin "object.__class__"))),
  decide (PySem.W.mroIn K (He.ga K "Row") (.type "object") = some true),
  decide (PySem.W.kitOne K (.ref (He.ga K "Row")) (.ref (He.ga K "Row")) = some true),
  decide (PySem.W.kitOne K (.ref (He.ga K "Row")) (.type "tuple") = some false),
  eqO (PySem.W.findIn K (.ref (He.ga K "Sinking")) "__ne__") (some (some (.builtin "object.__ne__"))),
  eqO (PySem.W.findIn K (.ref (He.ga K "Sinking")) "__class__") (some (some (.builtin "object.__class__"))),
  decide (PySem.W.mroIn K (He.ga K "Sinking") (.type "object") = some true),
  decide (PySem.W.kitOne K (.ref (He.ga K "Sinking")) (.ref (He.ga K "Sinking")) = some true),
  decide (PySem.W.kitOne K (.ref (He.ga K "Sinking")) (.type "tuple") = some false),
  eqO (PySem.W.specialIn K (.builtin "object.__class__") "__get__") (some (some (.builtin "getset_descriptor.__get__"))),
  decide (PySem.W.takesIn K (.builtin "object.__class__") = some true),
  WD.tupA K (He.dflAt (("Line", some "__init__")) 0 K) [],
  WD.tupA K (He.dflAt (("Row", some "__init__")) 0 K) [],
  WD.tupA K (He.dflAt (("Row", some "opened")) 0 K) [V.int 1, V.int 1],
  WD.noLst K]
def exB (K : PySem.W.Frag) : Bool := (exL K).all id
structure Txt (K : PySem.W.Frag) (mg : Str → Option Value) : Prop where
  h : ∃ hp : Heap, K.In hp ∧ hp.Ns mainGlobals mg
  s : SupX.SaysS fa fn xs fileS exB K
theorem Txt.c {K : PySem.W.Frag} {mg : Str → Option Value} (T : Txt K mg) : He.SaysD fa fn K := T.s.d
theorem Txt.e {K : PySem.W.Frag} {mg : Str → Option Value} (T : Txt K mg) : exB K = true := T.s.exq
section
variable {K : PySem.W.Frag} {mg : Str → Option Value}
theorem Txt.ex (T : Txt K mg) (i : Nat) {b : Bool} (h : (exL K)[i]? = some b := by rfl) : b = true := List.all_eq_true.mp T.e b (List.mem_of_getElem? h)
theorem Txt.glo (T : Txt K mg) {x : Str} (c : (He.Fa.glo x).ok K = true) : mg x = some (.ref (He.ga K x)) := by
  obtain ⟨hp, kx, gx⟩ := T.h
  exact He.glo_ok kx gx c
theorem Txt.free (T : Txt K mg) {x : Str} (c : (He.Fa.free x).ok K = true) : mg x = none := by
  obtain ⟨hp, kx, gx⟩ := T.h
  exact He.free_ok kx gx c
theorem Txt.int (T : Txt K mg) {x : Str} {i : Int} (c : (He.Fa.int x i).ok K = true) : ∃ t, mg x = some (.int i t) := by
  obtain ⟨hp, kx, gx⟩ := T.h
  exact He.int_ok kx gx c
theorem Txt.blt (T : Txt K mg) {x : Str} {v : Value} (c : He.eqO (PySem.W.nsIn K mainGlobals x) (some (some v)) = true) : mg x = some v := by
  obtain ⟨hp, kx, gx⟩ := T.h
  exact PySem.W.mg_of kx gx (He.eqO_ok c)
theorem Txt.m_WeirError (T : Txt K mg) : mg "WeirError" = some (.ref (He.ga K "WeirError")) := T.glo (T.c.fact 0 (f := .glo "WeirError"))
theorem Txt.m_BadRow (T : Txt K mg) : mg "BadRow" = some (.ref (He.ga K "BadRow")) := T.glo (T.c.fact 1 (f := .glo "BadRow"))
theorem Txt.m_BadWeir (T : Txt K mg) : mg "BadWeir" = some (.ref (He.ga K "BadWeir")) := T.glo (T.c.fact 2 (f := .glo "BadWeir"))
theorem Txt.m_BadOrder (T : Txt K mg) : mg "BadOrder" = some (.ref (He.ga K "BadOrder")) := T.glo (T.c.fact 3 (f := .glo "BadOrder"))
theorem Txt.m_is_integer (T : Txt K mg) : mg "is_integer" = some (.ref (He.ga K "is_integer")) := T.glo (T.c.fact 4 (f := .glo "is_integer"))
theorem Txt.m_is_fraction (T : Txt K mg) : mg "is_fraction" = some (.ref (He.ga K "is_fraction")) := T.glo (T.c.fact 5 (f := .glo "is_fraction"))
theorem Txt.m_is_amount (T : Txt K mg) : mg "is_amount" = some (.ref (He.ga K "is_amount")) := T.glo (T.c.fact 6 (f := .glo "is_amount"))
theorem Txt.m_reduced (T : Txt K mg) : mg "reduced" = some (.ref (He.ga K "reduced")) := T.glo (T.c.fact 7 (f := .glo "reduced"))
theorem Txt.m_exact (T : Txt K mg) : mg "exact" = some (.ref (He.ga K "exact")) := T.glo (T.c.fact 8 (f := .glo "exact"))
theorem Txt.m_plus (T : Txt K mg) : mg "plus" = some (.ref (He.ga K "plus")) := T.glo (T.c.fact 9 (f := .glo "plus"))
theorem Txt.m_minus (T : Txt K mg) : mg "minus" = some (.ref (He.ga K "minus")) := T.glo (T.c.fact 10 (f := .glo "minus"))
theorem Txt.m_times (T : Txt K mg) : mg "times" = some (.ref (He.ga K "times")) := T.glo (T.c.fact 11 (f := .glo "times"))
theorem Txt.m_common_bottom (T : Txt K mg) : mg "common_bottom" = some (.ref (He.ga K "common_bottom")) := T.glo (T.c.fact 12 (f := .glo "common_bottom"))
theorem Txt.m_Line (T : Txt K mg) : mg "Line" = some (.ref (He.ga K "Line")) := T.glo (T.c.fact 13 (f := .glo "Line"))
theorem Txt.c_Line (T : Txt K mg) : Cls K (He.ga K "Line") := He.cls_ok (T.c.fact 14 (f := .cls "Line"))
theorem Txt.k_Line (T : Txt K mg) : Mk K (He.ga K "Line") (He.ma K (He.ga K "Line") "__init__") := He.mkr_ok (T.c.fact 15 (f := .mkr "Line"))
theorem Txt.x_Line_top (T : Txt K mg) : Meth K (He.ga K "Line") "top" (He.ma K (He.ga K "Line") "top") := He.meth_ok (T.c.fact 16 (f := .meth "Line" "top"))
theorem Txt.x_Line_even (T : Txt K mg) : Meth K (He.ga K "Line") "even" (He.ma K (He.ga K "Line") "even") := He.meth_ok (T.c.fact 17 (f := .meth "Line" "even"))
theorem Txt.x_Line_inside (T : Txt K mg) : Meth K (He.ga K "Line") "inside" (He.ma K (He.ga K "Line") "inside") := He.meth_ok (T.c.fact 18 (f := .meth "Line" "inside"))
theorem Txt.x_Line_water (T : Txt K mg) : Meth K (He.ga K "Line") "water" (He.ma K (He.ga K "Line") "water") := He.meth_ok (T.c.fact 19 (f := .meth "Line" "water"))
theorem Txt.n_Line_areas (T : Txt K mg) : NoAttr K (He.ga K "Line") "areas" := He.noat_ok (T.c.fact 20 (f := .noat "Line" "areas"))
theorem Txt.n_Line_bottom (T : Txt K mg) : NoAttr K (He.ga K "Line") "bottom" := He.noat_ok (T.c.fact 21 (f := .noat "Line" "bottom"))
theorem Txt.n_Line_bottoms (T : Txt K mg) : NoAttr K (He.ga K "Line") "bottoms" := He.noat_ok (T.c.fact 22 (f := .noat "Line" "bottoms"))
theorem Txt.n_Line_tops (T : Txt K mg) : NoAttr K (He.ga K "Line") "tops" := He.noat_ok (T.c.fact 23 (f := .noat "Line" "tops"))
theorem Txt.i_MOST_BASINS (T : Txt K mg) : ∃ t, mg "MOST_BASINS" = some (.int 24 t) := T.int (T.c.fact 24 (f := .int "MOST_BASINS" 24))
theorem Txt.i_MOST_AREA (T : Txt K mg) : ∃ t, mg "MOST_AREA" = some (.int 1000 t) := T.int (T.c.fact 25 (f := .int "MOST_AREA" 1000))
theorem Txt.i_MOST_OPENINGS (T : Txt K mg) : ∃ t, mg "MOST_OPENINGS" = some (.int 20000 t) := T.int (T.c.fact 26 (f := .int "MOST_OPENINGS" 20000))
theorem Txt.m_Row (T : Txt K mg) : mg "Row" = some (.ref (He.ga K "Row")) := T.glo (T.c.fact 27 (f := .glo "Row"))
theorem Txt.c_Row (T : Txt K mg) : Cls K (He.ga K "Row") := He.cls_ok (T.c.fact 28 (f := .cls "Row"))
theorem Txt.k_Row (T : Txt K mg) : Mk K (He.ga K "Row") (He.ma K (He.ga K "Row") "__init__") := He.mkr_ok (T.c.fact 29 (f := .mkr "Row"))
theorem Txt.x_Row___len__ (T : Txt K mg) : Meth K (He.ga K "Row") "__len__" (He.ma K (He.ga K "Row") "__len__") := He.meth_ok (T.c.fact 30 (f := .meth "Row" "__len__"))
theorem Txt.x_Row___getitem__ (T : Txt K mg) : Meth K (He.ga K "Row") "__getitem__" (He.ma K (He.ga K "Row") "__getitem__") := He.meth_ok (T.c.fact 31 (f := .meth "Row" "__getitem__"))
theorem Txt.x_Row___iter__ (T : Txt K mg) : Meth K (He.ga K "Row") "__iter__" (He.ma K (He.ga K "Row") "__iter__") := He.meth_ok (T.c.fact 32 (f := .meth "Row" "__iter__"))
theorem Txt.x_Row___contains__ (T : Txt K mg) : Meth K (He.ga K "Row") "__contains__" (He.ma K (He.ga K "Row") "__contains__") := He.meth_ok (T.c.fact 33 (f := .meth "Row" "__contains__"))
theorem Txt.x_Row___eq__ (T : Txt K mg) : Meth K (He.ga K "Row") "__eq__" (He.ma K (He.ga K "Row") "__eq__") := He.meth_ok (T.c.fact 34 (f := .meth "Row" "__eq__"))
theorem Txt.x_Row_weirs (T : Txt K mg) : Meth K (He.ga K "Row") "weirs" (He.ma K (He.ga K "Row") "weirs") := He.meth_ok (T.c.fact 35 (f := .meth "Row" "weirs"))
theorem Txt.x_Row_heights (T : Txt K mg) : Meth K (He.ga K "Row") "heights" (He.ma K (He.ga K "Row") "heights") := He.meth_ok (T.c.fact 36 (f := .meth "Row" "heights"))
theorem Txt.x_Row_sums (T : Txt K mg) : Meth K (He.ga K "Row") "sums" (He.ma K (He.ga K "Row") "sums") := He.meth_ok (T.c.fact 37 (f := .meth "Row" "sums"))
theorem Txt.x_Row_opened (T : Txt K mg) : Meth K (He.ga K "Row") "opened" (He.ma K (He.ga K "Row") "opened") := He.meth_ok (T.c.fact 38 (f := .meth "Row" "opened"))
theorem Txt.n_Row_areas (T : Txt K mg) : NoAttr K (He.ga K "Row") "areas" := He.noat_ok (T.c.fact 39 (f := .noat "Row" "areas"))
theorem Txt.n_Row_locks (T : Txt K mg) : NoAttr K (He.ga K "Row") "locks" := He.noat_ok (T.c.fact 40 (f := .noat "Row" "locks"))
theorem Txt.n_Row_volumes (T : Txt K mg) : NoAttr K (He.ga K "Row") "volumes" := He.noat_ok (T.c.fact 41 (f := .noat "Row" "volumes"))
theorem Txt.m_with_volumes (T : Txt K mg) : mg "with_volumes" = some (.ref (He.ga K "with_volumes")) := T.glo (T.c.fact 42 (f := .glo "with_volumes"))
theorem Txt.m_check_areas (T : Txt K mg) : mg "check_areas" = some (.ref (He.ga K "check_areas")) := T.glo (T.c.fact 43 (f := .glo "check_areas"))
theorem Txt.m_check_volumes (T : Txt K mg) : mg "check_volumes" = some (.ref (He.ga K "check_volumes")) := T.glo (T.c.fact 44 (f := .glo "check_volumes"))
theorem Txt.m_check_locks (T : Txt K mg) : mg "check_locks" = some (.ref (He.ga K "check_locks")) := T.glo (T.c.fact 45 (f := .glo "check_locks"))
theorem Txt.m_check_row (T : Txt K mg) : mg "check_row" = some (.ref (He.ga K "check_row")) := T.glo (T.c.fact 46 (f := .glo "check_row"))
theorem Txt.m_check_order (T : Txt K mg) : mg "check_order" = some (.ref (He.ga K "check_order")) := T.glo (T.c.fact 47 (f := .glo "check_order"))
theorem Txt.m_line_of (T : Txt K mg) : mg "line_of" = some (.ref (He.ga K "line_of")) := T.glo (T.c.fact 48 (f := .glo "line_of"))
theorem Txt.m_Sinking (T : Txt K mg) : mg "Sinking" = some (.ref (He.ga K "Sinking")) := T.glo (T.c.fact 49 (f := .glo "Sinking"))
theorem Txt.c_Sinking (T : Txt K mg) : Cls K (He.ga K "Sinking") := He.cls_ok (T.c.fact 50 (f := .cls "Sinking"))
theorem Txt.k_Sinking (T : Txt K mg) : Mk K (He.ga K "Sinking") (He.ma K (He.ga K "Sinking") "__init__") := He.mkr_ok (T.c.fact 51 (f := .mkr "Sinking"))
theorem Txt.x_Sinking___eq__ (T : Txt K mg) : Meth K (He.ga K "Sinking") "__eq__" (He.ma K (He.ga K "Sinking") "__eq__") := He.meth_ok (T.c.fact 52 (f := .meth "Sinking" "__eq__"))
theorem Txt.x_Sinking___bool__ (T : Txt K mg) : Meth K (He.ga K "Sinking") "__bool__" (He.ma K (He.ga K "Sinking") "__bool__") := He.meth_ok (T.c.fact 53 (f := .meth "Sinking" "__bool__"))
theorem Txt.x_Sinking_shows (T : Txt K mg) : Meth K (He.ga K "Sinking") "shows" (He.ma K (He.ga K "Sinking") "shows") := He.meth_ok (T.c.fact 54 (f := .meth "Sinking" "shows"))
theorem Txt.n_Sinking_numbers (T : Txt K mg) : NoAttr K (He.ga K "Sinking") "numbers" := He.noat_ok (T.c.fact 55 (f := .noat "Sinking" "numbers"))
theorem Txt.m_sign_at (T : Txt K mg) : mg "sign_at" = some (.ref (He.ga K "sign_at")) := T.glo (T.c.fact 56 (f := .glo "sign_at"))
theorem Txt.m_all_signs (T : Txt K mg) : mg "all_signs" = some (.ref (He.ga K "all_signs")) := T.glo (T.c.fact 57 (f := .glo "all_signs"))
theorem Txt.m_changes (T : Txt K mg) : mg "changes" = some (.ref (He.ga K "changes")) := T.glo (T.c.fact 58 (f := .glo "changes"))
theorem Txt.m_signs (T : Txt K mg) : mg "signs" = some (.ref (He.ga K "signs")) := T.glo (T.c.fact 59 (f := .glo "signs"))
theorem Txt.m_turns (T : Txt K mg) : mg "turns" = some (.ref (He.ga K "turns")) := T.glo (T.c.fact 60 (f := .glo "turns"))
theorem Txt.m_flats (T : Txt K mg) : mg "flats" = some (.ref (He.ga K "flats")) := T.glo (T.c.fact 61 (f := .glo "flats"))
theorem Txt.m_peaks (T : Txt K mg) : mg "peaks" = some (.ref (He.ga K "peaks")) := T.glo (T.c.fact 62 (f := .glo "peaks"))
theorem Txt.m_sinking (T : Txt K mg) : mg "sinking" = some (.ref (He.ga K "sinking")) := T.glo (T.c.fact 63 (f := .glo "sinking"))
theorem Txt.m_turns_left (T : Txt K mg) : mg "turns_left" = some (.ref (He.ga K "turns_left")) := T.glo (T.c.fact 64 (f := .glo "turns_left"))
theorem Txt.m__law_number (T : Txt K mg) : mg "_law_number" = some (.ref (He.ga K "_law_number")) := T.glo (T.c.fact 65 (f := .glo "_law_number"))
theorem Txt.m__law_take (T : Txt K mg) : mg "_law_take" = some (.ref (He.ga K "_law_take")) := T.glo (T.c.fact 66 (f := .glo "_law_take"))
theorem Txt.m__law_pick (T : Txt K mg) : mg "_law_pick" = some (.ref (He.ga K "_law_pick")) := T.glo (T.c.fact 67 (f := .glo "_law_pick"))
theorem Txt.m__law_common (T : Txt K mg) : mg "_law_common" = some (.ref (He.ga K "_law_common")) := T.glo (T.c.fact 68 (f := .glo "_law_common"))
theorem Txt.m__law_part (T : Txt K mg) : mg "_law_part" = some (.ref (He.ga K "_law_part")) := T.glo (T.c.fact 69 (f := .glo "_law_part"))
theorem Txt.m__law_plus (T : Txt K mg) : mg "_law_plus" = some (.ref (He.ga K "_law_plus")) := T.glo (T.c.fact 70 (f := .glo "_law_plus"))
theorem Txt.m__law_less (T : Txt K mg) : mg "_law_less" = some (.ref (He.ga K "_law_less")) := T.glo (T.c.fact 71 (f := .glo "_law_less"))
theorem Txt.m__law_times (T : Txt K mg) : mg "_law_times" = some (.ref (He.ga K "_law_times")) := T.glo (T.c.fact 72 (f := .glo "_law_times"))
theorem Txt.m__law_drawn (T : Txt K mg) : mg "_law_drawn" = some (.ref (He.ga K "_law_drawn")) := T.glo (T.c.fact 73 (f := .glo "_law_drawn"))
theorem Txt.m__law_parts_of (T : Txt K mg) : mg "_law_parts_of" = some (.ref (He.ga K "_law_parts_of")) := T.glo (T.c.fact 74 (f := .glo "_law_parts_of"))
theorem Txt.m__law_open (T : Txt K mg) : mg "_law_open" = some (.ref (He.ga K "_law_open")) := T.glo (T.c.fact 75 (f := .glo "_law_open"))
theorem Txt.m__law_heights (T : Txt K mg) : mg "_law_heights" = some (.ref (He.ga K "_law_heights")) := T.glo (T.c.fact 76 (f := .glo "_law_heights"))
theorem Txt.m__law_order (T : Txt K mg) : mg "_law_order" = some (.ref (He.ga K "_law_order")) := T.glo (T.c.fact 77 (f := .glo "_law_order"))
theorem Txt.m__law_signs (T : Txt K mg) : mg "_law_signs" = some (.ref (He.ga K "_law_signs")) := T.glo (T.c.fact 78 (f := .glo "_law_signs"))
theorem Txt.m__law_turns (T : Txt K mg) : mg "_law_turns" = some (.ref (He.ga K "_law_turns")) := T.glo (T.c.fact 79 (f := .glo "_law_turns"))
theorem Txt.m__law_flats (T : Txt K mg) : mg "_law_flats" = some (.ref (He.ga K "_law_flats")) := T.glo (T.c.fact 80 (f := .glo "_law_flats"))
theorem Txt.m__law_peaks (T : Txt K mg) : mg "_law_peaks" = some (.ref (He.ga K "_law_peaks")) := T.glo (T.c.fact 81 (f := .glo "_law_peaks"))
theorem Txt.m_law (T : Txt K mg) : mg "law" = some (.ref (He.ga K "law")) := T.glo (T.c.fact 82 (f := .glo "law"))
theorem Txt.z_ValueError (T : Txt K mg) : mg "ValueError" = none := T.free (T.c.fact 83 (f := .free "ValueError"))
theorem Txt.z_abs (T : Txt K mg) : mg "abs" = none := T.free (T.c.fact 84 (f := .free "abs"))
theorem Txt.z_all (T : Txt K mg) : mg "all" = none := T.free (T.c.fact 85 (f := .free "all"))
theorem Txt.z_bool (T : Txt K mg) : mg "bool" = none := T.free (T.c.fact 86 (f := .free "bool"))
theorem Txt.z_enumerate (T : Txt K mg) : mg "enumerate" = none := T.free (T.c.fact 87 (f := .free "enumerate"))
theorem Txt.z_int (T : Txt K mg) : mg "int" = none := T.free (T.c.fact 88 (f := .free "int"))
theorem Txt.z_isinstance (T : Txt K mg) : mg "isinstance" = none := T.free (T.c.fact 89 (f := .free "isinstance"))
theorem Txt.z_len (T : Txt K mg) : mg "len" = none := T.free (T.c.fact 90 (f := .free "len"))
theorem Txt.z_list (T : Txt K mg) : mg "list" = none := T.free (T.c.fact 91 (f := .free "list"))
theorem Txt.z_max (T : Txt K mg) : mg "max" = none := T.free (T.c.fact 92 (f := .free "max"))
theorem Txt.z_min (T : Txt K mg) : mg "min" = none := T.free (T.c.fact 93 (f := .free "min"))
theorem Txt.z_range (T : Txt K mg) : mg "range" = none := T.free (T.c.fact 94 (f := .free "range"))
theorem Txt.z_set (T : Txt K mg) : mg "set" = none := T.free (T.c.fact 95 (f := .free "set"))
theorem Txt.z_sorted (T : Txt K mg) : mg "sorted" = none := T.free (T.c.fact 96 (f := .free "sorted"))
theorem Txt.z_super (T : Txt K mg) : mg "super" = none := T.free (T.c.fact 97 (f := .free "super"))
theorem Txt.z_tuple (T : Txt K mg) : mg "tuple" = none := T.free (T.c.fact 98 (f := .free "tuple"))
theorem Txt.z_zip (T : Txt K mg) : mg "zip" = none := T.free (T.c.fact 99 (f := .free "zip"))
theorem Txt.b_gcd (T : Txt K mg) : mg "gcd" = some (.builtin "math.gcd") := T.blt (T.ex 0)
theorem Txt.b_lcm (T : Txt K mg) : mg "lcm" = some (.builtin "math.lcm") := T.blt (T.ex 1)
theorem Txt.ne_Line (T : Txt K mg) : PySem.W.findIn K (.ref (He.ga K "Line")) "__ne__" = some (some (.builtin "object.__ne__")) := He.eqO_ok (T.ex 2)
theorem Txt.cl_Line (T : Txt K mg) : PySem.W.findIn K (.ref (He.ga K "Line")) "__class__" = some (some (.builtin "object.__class__")) := He.eqO_ok (T.ex 3)
theorem Txt.ob_Line (T : Txt K mg) : PySem.W.mroIn K (He.ga K "Line") (.type "object") = some true := of_decide_eq_true (T.ex 4)
theorem Txt.ki_Line (T : Txt K mg) : PySem.W.kitOne K (.ref (He.ga K "Line")) (.ref (He.ga K "Line")) = some true := of_decide_eq_true (T.ex 5)
theorem Txt.kt_Line (T : Txt K mg) : PySem.W.kitOne K (.ref (He.ga K "Line")) (.type "tuple") = some false := of_decide_eq_true (T.ex 6)
theorem Txt.ne_Row (T : Txt K mg) : PySem.W.findIn K (.ref (He.ga K "Row")) "__ne__" = some (some (.builtin "object.__ne__")) := He.eqO_ok (T.ex 7)
theorem Txt.cl_Row (T : Txt K mg) : PySem.W.findIn K (.ref (He.ga K "Row")) "__class__" = some (some (.builtin "object.__class__")) := He.eqO_ok (T.ex 8)
theorem Txt.ob_Row (T : Txt K mg) : PySem.W.mroIn K (He.ga K "Row") (.type "object") = some true := of_decide_eq_true (T.ex 9)
theorem Txt.ki_Row (T : Txt K mg) : PySem.W.kitOne K (.ref (He.ga K "Row")) (.ref (He.ga K "Row")) = some true := of_decide_eq_true (T.ex 10)
theorem Txt.kt_Row (T : Txt K mg) : PySem.W.kitOne K (.ref (He.ga K "Row")) (.type "tuple") = some false := of_decide_eq_true (T.ex 11)
theorem Txt.ne_Sinking (T : Txt K mg) : PySem.W.findIn K (.ref (He.ga K "Sinking")) "__ne__" = some (some (.builtin "object.__ne__")) := He.eqO_ok (T.ex 12)
theorem Txt.cl_Sinking (T : Txt K mg) : PySem.W.findIn K (.ref (He.ga K "Sinking")) "__class__" = some (some (.builtin "object.__class__")) := He.eqO_ok (T.ex 13)
theorem Txt.ob_Sinking (T : Txt K mg) : PySem.W.mroIn K (He.ga K "Sinking") (.type "object") = some true := of_decide_eq_true (T.ex 14)
theorem Txt.ki_Sinking (T : Txt K mg) : PySem.W.kitOne K (.ref (He.ga K "Sinking")) (.ref (He.ga K "Sinking")) = some true := of_decide_eq_true (T.ex 15)
theorem Txt.kt_Sinking (T : Txt K mg) : PySem.W.kitOne K (.ref (He.ga K "Sinking")) (.type "tuple") = some false := of_decide_eq_true (T.ex 16)
theorem Txt.sp (T : Txt K mg) : PySem.W.specialIn K (.builtin "object.__class__") "__get__" = some (some (.builtin "getset_descriptor.__get__")) := He.eqO_ok (T.ex 17)
theorem Txt.tk (T : Txt K mg) : PySem.W.takesIn K (.builtin "object.__class__") = some true := of_decide_eq_true (T.ex 18)
theorem Txt.t_Line___init___0 (T : Txt K mg) : WD.tupA K (He.dflAt (("Line", some "__init__")) 0 K) [] = true := T.ex 19
theorem Txt.t_Row___init___0 (T : Txt K mg) : WD.tupA K (He.dflAt (("Row", some "__init__")) 0 K) [] = true := T.ex 20
theorem Txt.t_Row_opened_0 (T : Txt K mg) : WD.tupA K (He.dflAt (("Row", some "opened")) 0 K) [V.int 1, V.int 1] = true := T.ex 21
theorem Txt.noL (T : Txt K mg) : WD.noLst K = true := T.ex 22
theorem Txt.f_is_integer (T : Txt K mg) : ∃ fd, FunD K "is_integer" "is_integer" (defArgs s_is_integer) (defBody s_is_integer) (defScope s_is_integer) [] [] (He.fAd K (("is_integer", none))) fd := T.c.def_ 0 (d := d_is_integer)
theorem Txt.f_is_fraction (T : Txt K mg) : ∃ fd, FunD K "is_fraction" "is_fraction" (defArgs s_is_fraction) (defBody s_is_fraction) (defScope s_is_fraction) [] [] (He.fAd K (("is_fraction", none))) fd := T.c.def_ 1 (d := d_is_fraction)
theorem Txt.f_is_amount (T : Txt K mg) : ∃ fd, FunD K "is_amount" "is_amount" (defArgs s_is_amount) (defBody s_is_amount) (defScope s_is_amount) [] [] (He.fAd K (("is_amount", none))) fd := T.c.def_ 2 (d := d_is_amount)
theorem Txt.f_reduced (T : Txt K mg) : ∃ fd, FunD K "reduced" "reduced" (defArgs s_reduced) (defBody s_reduced) (defScope s_reduced) [] [] (He.fAd K (("reduced", none))) fd := T.c.def_ 3 (d := d_reduced)
theorem Txt.f_exact (T : Txt K mg) : ∃ fd, FunD K "exact" "exact" (defArgs s_exact) (defBody s_exact) (defScope s_exact) [] [] (He.fAd K (("exact", none))) fd := T.c.def_ 4 (d := d_exact)
theorem Txt.f_plus (T : Txt K mg) : ∃ fd, FunD K "plus" "plus" (defArgs s_plus) (defBody s_plus) (defScope s_plus) [] [] (He.fAd K (("plus", none))) fd := T.c.def_ 5 (d := d_plus)
theorem Txt.f_minus (T : Txt K mg) : ∃ fd, FunD K "minus" "minus" (defArgs s_minus) (defBody s_minus) (defScope s_minus) [] [] (He.fAd K (("minus", none))) fd := T.c.def_ 6 (d := d_minus)
theorem Txt.f_times (T : Txt K mg) : ∃ fd, FunD K "times" "times" (defArgs s_times) (defBody s_times) (defScope s_times) [] [] (He.fAd K (("times", none))) fd := T.c.def_ 7 (d := d_times)
theorem Txt.f_common_bottom (T : Txt K mg) : ∃ fd, FunD K "common_bottom" "common_bottom" (defArgs s_common_bottom) (defBody s_common_bottom) (defScope s_common_bottom) [] [] (He.fAd K (("common_bottom", none))) fd := T.c.def_ 8 (d := d_common_bottom)
theorem Txt.f_Line___init__ (T : Txt K mg) : ∃ fd, FunD K "__init__" "Line.__init__" (defArgs s_Line___init__) (defBody s_Line___init__) (defScope s_Line___init__) (d_Line___init__.dvs K) (d_Line___init__.kws K) (He.fAd K (("Line", some "__init__"))) fd := T.c.def_ 9 (d := d_Line___init__)
theorem Txt.f_Line_top (T : Txt K mg) : ∃ fd, FunD K "top" "Line.top" (defArgs s_Line_top) (defBody s_Line_top) (defScope s_Line_top) [] [] (He.fAd K (("Line", some "top"))) fd := T.c.def_ 10 (d := d_Line_top)
theorem Txt.f_Line_even (T : Txt K mg) : ∃ fd, FunD K "even" "Line.even" (defArgs s_Line_even) (defBody s_Line_even) (defScope s_Line_even) [] [] (He.fAd K (("Line", some "even"))) fd := T.c.def_ 11 (d := d_Line_even)
theorem Txt.f_Line_inside (T : Txt K mg) : ∃ fd, FunD K "inside" "Line.inside" (defArgs s_Line_inside) (defBody s_Line_inside) (defScope s_Line_inside) [] [] (He.fAd K (("Line", some "inside"))) fd := T.c.def_ 12 (d := d_Line_inside)
theorem Txt.f_Line_water (T : Txt K mg) : ∃ fd, FunD K "water" "Line.water" (defArgs s_Line_water) (defBody s_Line_water) (defScope s_Line_water) [] [] (He.fAd K (("Line", some "water"))) fd := T.c.def_ 13 (d := d_Line_water)
theorem Txt.f_Row___init__ (T : Txt K mg) : ∃ fd, FunD K "__init__" "Row.__init__" (defArgs s_Row___init__) (defBody s_Row___init__) (defScope s_Row___init__) (d_Row___init__.dvs K) (d_Row___init__.kws K) (He.fAd K (("Row", some "__init__"))) fd := T.c.def_ 14 (d := d_Row___init__)
theorem Txt.f_Row___len__ (T : Txt K mg) : ∃ fd, FunD K "__len__" "Row.__len__" (defArgs s_Row___len__) (defBody s_Row___len__) (defScope s_Row___len__) [] [] (He.fAd K (("Row", some "__len__"))) fd := T.c.def_ 15 (d := d_Row___len__)
theorem Txt.f_Row___getitem__ (T : Txt K mg) : ∃ fd, FunD K "__getitem__" "Row.__getitem__" (defArgs s_Row___getitem__) (defBody s_Row___getitem__) (defScope s_Row___getitem__) [] [] (He.fAd K (("Row", some "__getitem__"))) fd := T.c.def_ 16 (d := d_Row___getitem__)
theorem Txt.f_Row___iter__ (T : Txt K mg) : ∃ fd, FunD K "__iter__" "Row.__iter__" (defArgs s_Row___iter__) (defBody s_Row___iter__) (defScope s_Row___iter__) [] [] (He.fAd K (("Row", some "__iter__"))) fd := T.c.def_ 17 (d := d_Row___iter__)
theorem Txt.f_Row___contains__ (T : Txt K mg) : ∃ fd, FunD K "__contains__" "Row.__contains__" (defArgs s_Row___contains__) (defBody s_Row___contains__) (defScope s_Row___contains__) [] [] (He.fAd K (("Row", some "__contains__"))) fd := T.c.def_ 18 (d := d_Row___contains__)
theorem Txt.f_Row___eq__ (T : Txt K mg) : ∃ fd, FunD K "__eq__" "Row.__eq__" (defArgs s_Row___eq__) (defBody s_Row___eq__) (defScope s_Row___eq__) [] [] (He.fAd K (("Row", some "__eq__"))) fd := T.c.def_ 19 (d := d_Row___eq__)
theorem Txt.f_Row_weirs (T : Txt K mg) : ∃ fd, FunD K "weirs" "Row.weirs" (defArgs s_Row_weirs) (defBody s_Row_weirs) (defScope s_Row_weirs) [] [] (He.fAd K (("Row", some "weirs"))) fd := T.c.def_ 20 (d := d_Row_weirs)
theorem Txt.f_Row_heights (T : Txt K mg) : ∃ fd, FunD K "heights" "Row.heights" (defArgs s_Row_heights) (defBody s_Row_heights) (defScope s_Row_heights) [] [] (He.fAd K (("Row", some "heights"))) fd := T.c.def_ 21 (d := d_Row_heights)
theorem Txt.f_Row_sums (T : Txt K mg) : ∃ fd, FunD K "sums" "Row.sums" (defArgs s_Row_sums) (defBody s_Row_sums) (defScope s_Row_sums) [] [] (He.fAd K (("Row", some "sums"))) fd := T.c.def_ 22 (d := d_Row_sums)
theorem Txt.f_Row_opened (T : Txt K mg) : ∃ fd, FunD K "opened" "Row.opened" (defArgs s_Row_opened) (defBody s_Row_opened) (defScope s_Row_opened) (d_Row_opened.dvs K) (d_Row_opened.kws K) (He.fAd K (("Row", some "opened"))) fd := T.c.def_ 23 (d := d_Row_opened)
theorem Txt.f_with_volumes (T : Txt K mg) : ∃ fd, FunD K "with_volumes" "with_volumes" (defArgs s_with_volumes) (defBody s_with_volumes) (defScope s_with_volumes) [] [] (He.fAd K (("with_volumes", none))) fd := T.c.def_ 24 (d := d_with_volumes)
theorem Txt.f_check_areas (T : Txt K mg) : ∃ fd, FunD K "check_areas" "check_areas" (defArgs s_check_areas) (defBody s_check_areas) (defScope s_check_areas) [] [] (He.fAd K (("check_areas", none))) fd := T.c.def_ 25 (d := d_check_areas)
theorem Txt.f_check_volumes (T : Txt K mg) : ∃ fd, FunD K "check_volumes" "check_volumes" (defArgs s_check_volumes) (defBody s_check_volumes) (defScope s_check_volumes) [] [] (He.fAd K (("check_volumes", none))) fd := T.c.def_ 26 (d := d_check_volumes)
theorem Txt.f_check_locks (T : Txt K mg) : ∃ fd, FunD K "check_locks" "check_locks" (defArgs s_check_locks) (defBody s_check_locks) (defScope s_check_locks) [] [] (He.fAd K (("check_locks", none))) fd := T.c.def_ 27 (d := d_check_locks)
theorem Txt.f_check_row (T : Txt K mg) : ∃ fd, FunD K "check_row" "check_row" (defArgs s_check_row) (defBody s_check_row) (defScope s_check_row) [] [] (He.fAd K (("check_row", none))) fd := T.c.def_ 28 (d := d_check_row)
theorem Txt.f_check_order (T : Txt K mg) : ∃ fd, FunD K "check_order" "check_order" (defArgs s_check_order) (defBody s_check_order) (defScope s_check_order) [] [] (He.fAd K (("check_order", none))) fd := T.c.def_ 29 (d := d_check_order)
theorem Txt.f_line_of (T : Txt K mg) : ∃ fd, FunD K "line_of" "line_of" (defArgs s_line_of) (defBody s_line_of) (defScope s_line_of) [] [] (He.fAd K (("line_of", none))) fd := T.c.def_ 30 (d := d_line_of)
theorem Txt.f_Sinking___init__ (T : Txt K mg) : ∃ fd, FunD K "__init__" "Sinking.__init__" (defArgs s_Sinking___init__) (defBody s_Sinking___init__) (defScope s_Sinking___init__) [] [] (He.fAd K (("Sinking", some "__init__"))) fd := T.c.def_ 31 (d := d_Sinking___init__)
theorem Txt.f_Sinking___eq__ (T : Txt K mg) : ∃ fd, FunD K "__eq__" "Sinking.__eq__" (defArgs s_Sinking___eq__) (defBody s_Sinking___eq__) (defScope s_Sinking___eq__) [] [] (He.fAd K (("Sinking", some "__eq__"))) fd := T.c.def_ 32 (d := d_Sinking___eq__)
theorem Txt.f_Sinking___bool__ (T : Txt K mg) : ∃ fd, FunD K "__bool__" "Sinking.__bool__" (defArgs s_Sinking___bool__) (defBody s_Sinking___bool__) (defScope s_Sinking___bool__) [] [] (He.fAd K (("Sinking", some "__bool__"))) fd := T.c.def_ 33 (d := d_Sinking___bool__)
theorem Txt.f_Sinking_shows (T : Txt K mg) : ∃ fd, FunD K "shows" "Sinking.shows" (defArgs s_Sinking_shows) (defBody s_Sinking_shows) (defScope s_Sinking_shows) [] [] (He.fAd K (("Sinking", some "shows"))) fd := T.c.def_ 34 (d := d_Sinking_shows)
theorem Txt.f_sign_at (T : Txt K mg) : ∃ fd, FunD K "sign_at" "sign_at" (defArgs s_sign_at) (defBody s_sign_at) (defScope s_sign_at) [] [] (He.fAd K (("sign_at", none))) fd := T.c.def_ 35 (d := d_sign_at)
theorem Txt.f_all_signs (T : Txt K mg) : ∃ fd, FunD K "all_signs" "all_signs" (defArgs s_all_signs) (defBody s_all_signs) (defScope s_all_signs) [] [] (He.fAd K (("all_signs", none))) fd := T.c.def_ 36 (d := d_all_signs)
theorem Txt.f_changes (T : Txt K mg) : ∃ fd, FunD K "changes" "changes" (defArgs s_changes) (defBody s_changes) (defScope s_changes) [] [] (He.fAd K (("changes", none))) fd := T.c.def_ 37 (d := d_changes)
theorem Txt.f_signs (T : Txt K mg) : ∃ fd, FunD K "signs" "signs" (defArgs s_signs) (defBody s_signs) (defScope s_signs) [] [] (He.fAd K (("signs", none))) fd := T.c.def_ 38 (d := d_signs)
theorem Txt.f_turns (T : Txt K mg) : ∃ fd, FunD K "turns" "turns" (defArgs s_turns) (defBody s_turns) (defScope s_turns) [] [] (He.fAd K (("turns", none))) fd := T.c.def_ 39 (d := d_turns)
theorem Txt.f_flats (T : Txt K mg) : ∃ fd, FunD K "flats" "flats" (defArgs s_flats) (defBody s_flats) (defScope s_flats) [] [] (He.fAd K (("flats", none))) fd := T.c.def_ 40 (d := d_flats)
theorem Txt.f_peaks (T : Txt K mg) : ∃ fd, FunD K "peaks" "peaks" (defArgs s_peaks) (defBody s_peaks) (defScope s_peaks) [] [] (He.fAd K (("peaks", none))) fd := T.c.def_ 41 (d := d_peaks)
theorem Txt.f_sinking (T : Txt K mg) : ∃ fd, FunD K "sinking" "sinking" (defArgs s_sinking) (defBody s_sinking) (defScope s_sinking) [] [] (He.fAd K (("sinking", none))) fd := T.c.def_ 42 (d := d_sinking)
theorem Txt.f_turns_left (T : Txt K mg) : ∃ fd, FunD K "turns_left" "turns_left" (defArgs s_turns_left) (defBody s_turns_left) (defScope s_turns_left) [] [] (He.fAd K (("turns_left", none))) fd := T.c.def_ 43 (d := d_turns_left)
theorem Txt.f__law_number (T : Txt K mg) : ∃ fd, FunD K "_law_number" "_law_number" (defArgs s__law_number) (defBody s__law_number) (defScope s__law_number) [] [] (He.fAd K (("_law_number", none))) fd := T.c.def_ 44 (d := d__law_number)
theorem Txt.f__law_take (T : Txt K mg) : ∃ fd, FunD K "_law_take" "_law_take" (defArgs s__law_take) (defBody s__law_take) (defScope s__law_take) [] [] (He.fAd K (("_law_take", none))) fd := T.c.def_ 45 (d := d__law_take)
theorem Txt.f__law_pick (T : Txt K mg) : ∃ fd, FunD K "_law_pick" "_law_pick" (defArgs s__law_pick) (defBody s__law_pick) (defScope s__law_pick) [] [] (He.fAd K (("_law_pick", none))) fd := T.c.def_ 46 (d := d__law_pick)
theorem Txt.f__law_common (T : Txt K mg) : ∃ fd, FunD K "_law_common" "_law_common" (defArgs s__law_common) (defBody s__law_common) (defScope s__law_common) [] [] (He.fAd K (("_law_common", none))) fd := T.c.def_ 47 (d := d__law_common)
theorem Txt.f__law_part (T : Txt K mg) : ∃ fd, FunD K "_law_part" "_law_part" (defArgs s__law_part) (defBody s__law_part) (defScope s__law_part) [] [] (He.fAd K (("_law_part", none))) fd := T.c.def_ 48 (d := d__law_part)
theorem Txt.f__law_plus (T : Txt K mg) : ∃ fd, FunD K "_law_plus" "_law_plus" (defArgs s__law_plus) (defBody s__law_plus) (defScope s__law_plus) [] [] (He.fAd K (("_law_plus", none))) fd := T.c.def_ 49 (d := d__law_plus)
theorem Txt.f__law_less (T : Txt K mg) : ∃ fd, FunD K "_law_less" "_law_less" (defArgs s__law_less) (defBody s__law_less) (defScope s__law_less) [] [] (He.fAd K (("_law_less", none))) fd := T.c.def_ 50 (d := d__law_less)
theorem Txt.f__law_times (T : Txt K mg) : ∃ fd, FunD K "_law_times" "_law_times" (defArgs s__law_times) (defBody s__law_times) (defScope s__law_times) [] [] (He.fAd K (("_law_times", none))) fd := T.c.def_ 51 (d := d__law_times)
theorem Txt.f__law_drawn (T : Txt K mg) : ∃ fd, FunD K "_law_drawn" "_law_drawn" (defArgs s__law_drawn) (defBody s__law_drawn) (defScope s__law_drawn) [] [] (He.fAd K (("_law_drawn", none))) fd := T.c.def_ 52 (d := d__law_drawn)
theorem Txt.f__law_parts_of (T : Txt K mg) : ∃ fd, FunD K "_law_parts_of" "_law_parts_of" (defArgs s__law_parts_of) (defBody s__law_parts_of) (defScope s__law_parts_of) [] [] (He.fAd K (("_law_parts_of", none))) fd := T.c.def_ 53 (d := d__law_parts_of)
theorem Txt.f__law_open (T : Txt K mg) : ∃ fd, FunD K "_law_open" "_law_open" (defArgs s__law_open) (defBody s__law_open) (defScope s__law_open) [] [] (He.fAd K (("_law_open", none))) fd := T.c.def_ 54 (d := d__law_open)
theorem Txt.f__law_heights (T : Txt K mg) : ∃ fd, FunD K "_law_heights" "_law_heights" (defArgs s__law_heights) (defBody s__law_heights) (defScope s__law_heights) [] [] (He.fAd K (("_law_heights", none))) fd := T.c.def_ 55 (d := d__law_heights)
theorem Txt.f__law_order (T : Txt K mg) : ∃ fd, FunD K "_law_order" "_law_order" (defArgs s__law_order) (defBody s__law_order) (defScope s__law_order) [] [] (He.fAd K (("_law_order", none))) fd := T.c.def_ 56 (d := d__law_order)
theorem Txt.f__law_signs (T : Txt K mg) : ∃ fd, FunD K "_law_signs" "_law_signs" (defArgs s__law_signs) (defBody s__law_signs) (defScope s__law_signs) [] [] (He.fAd K (("_law_signs", none))) fd := T.c.def_ 57 (d := d__law_signs)
theorem Txt.f__law_turns (T : Txt K mg) : ∃ fd, FunD K "_law_turns" "_law_turns" (defArgs s__law_turns) (defBody s__law_turns) (defScope s__law_turns) [] [] (He.fAd K (("_law_turns", none))) fd := T.c.def_ 58 (d := d__law_turns)
theorem Txt.f__law_flats (T : Txt K mg) : ∃ fd, FunD K "_law_flats" "_law_flats" (defArgs s__law_flats) (defBody s__law_flats) (defScope s__law_flats) [] [] (He.fAd K (("_law_flats", none))) fd := T.c.def_ 59 (d := d__law_flats)
theorem Txt.f__law_peaks (T : Txt K mg) : ∃ fd, FunD K "_law_peaks" "_law_peaks" (defArgs s__law_peaks) (defBody s__law_peaks) (defScope s__law_peaks) [] [] (He.fAd K (("_law_peaks", none))) fd := T.c.def_ 60 (d := d__law_peaks)
theorem Txt.f_law (T : Txt K mg) : ∃ fd, FunD K "law" "law" (defArgs s_law) (defBody s_law) (defScope s_law) [] [] (He.fAd K (("law", none))) fd := T.c.def_ 61 (d := d_law)
theorem to_BadWeir : SupX.TextOk x_BadWeir := ⟨"number", "self", _, _, _, _, _, _, _, _, _, _, _, _, rfl, fun _ _ _ _ _ _ _ _ _ => rfl, rfl, rfl, by decide, by decide, by decide, by decide +kernel, rfl, rfl, rfl, rfl, rfl, rfl, rfl, fun _ _ _ _ => ⟨⟨_, rfl⟩, rfl, rfl, rfl, rfl, rfl⟩⟩
theorem Txt.s_BadWeir {P : Program} (T : Txt K mg) (hp : P.main.file = fileS) (ht : (P.main.scope.names.lookup ("super" : Str)).isSome = false) : SupX.Sup P K mg (He.ga K "BadWeir") (He.ma K (He.ga K "BadWeir") "__init__") "BadWeir" "number" "no weir that can be opened here" := by
  obtain ⟨h, X, G⟩ := T.h
  exact SupX.sup_of X G to_BadWeir (T.s.xfn 0) (T.s.xok 0) hp ht
theorem to_BadOrder : SupX.TextOk x_BadOrder := ⟨"place", "self", _, _, _, _, _, _, _, _, _, _, _, _, rfl, fun _ _ _ _ _ _ _ _ _ => rfl, rfl, rfl, by decide, by decide, by decide, by decide +kernel, rfl, rfl, rfl, rfl, rfl, rfl, rfl, fun _ _ _ _ => ⟨⟨_, rfl⟩, rfl, rfl, rfl, rfl, rfl⟩⟩
theorem Txt.s_BadOrder {P : Program} (T : Txt K mg) (hp : P.main.file = fileS) (ht : (P.main.scope.names.lookup ("super" : Str)).isSome = false) : SupX.Sup P K mg (He.ga K "BadOrder") (He.ma K (He.ga K "BadOrder") "__init__") "BadOrder" "place" "no order of weirs that can be opened here" := by
  obtain ⟨h, X, G⟩ := T.h
  exact SupX.sup_of X G to_BadOrder (T.s.xfn 1) (T.s.xok 1) hp ht
end
theorem sc_is_integer : FnScope ["thing"] ["thing"] (defScope s_is_integer) := ⟨rfl, rfl, rfl, by decide +kernel, rfl, by decide +kernel, by decide +kernel⟩
theorem sc_is_fraction : FnScope ["thing"] ["thing"] (defScope s_is_fraction) := ⟨rfl, rfl, rfl, by decide +kernel, rfl, by decide +kernel, by decide +kernel⟩
theorem sc_is_amount : FnScope ["thing"] ["thing"] (defScope s_is_amount) := ⟨rfl, rfl, rfl, by decide +kernel, rfl, by decide +kernel, by decide +kernel⟩
theorem sc_reduced : FnScope ["top", "bottom", "shared"] ["top", "bottom"] (defScope s_reduced) := ⟨rfl, rfl, rfl, by decide +kernel, rfl, by decide +kernel, by decide +kernel⟩
theorem sc_exact : FnScope ["told"] ["told"] (defScope s_exact) := ⟨rfl, rfl, rfl, by decide +kernel, rfl, by decide +kernel, by decide +kernel⟩
theorem sc_plus : FnScope ["one", "other", "shared", "top", "rest"] ["one", "other"] (defScope s_plus) := ⟨rfl, rfl, rfl, by decide +kernel, rfl, by decide +kernel, by decide +kernel⟩
theorem sc_minus : FnScope ["one", "other"] ["one", "other"] (defScope s_minus) := ⟨rfl, rfl, rfl, by decide +kernel, rfl, by decide +kernel, by decide +kernel⟩
theorem sc_times : FnScope ["one", "other", "left", "right"] ["one", "other"] (defScope s_times) := ⟨rfl, rfl, rfl, by decide +kernel, rfl, by decide +kernel, by decide +kernel⟩
theorem sc_common_bottom : FnScope ["fractions", "bottom", "_", "below"] ["fractions"] (defScope s_common_bottom) := ⟨rfl, rfl, rfl, by decide +kernel, rfl, by decide +kernel, by decide +kernel⟩
theorem sc_Line___init__ : FnScope ["self", "areas", "sums", "others", "bottom", "top", "below", "_"] ["self", "areas", "sums", "others"] (defScope s_Line___init__) := ⟨rfl, rfl, rfl, by decide +kernel, rfl, by decide +kernel, by decide +kernel⟩
theorem sc_Line_top : FnScope ["self", "at"] ["self", "at"] (defScope s_Line_top) := ⟨rfl, rfl, rfl, by decide +kernel, rfl, by decide +kernel, by decide +kernel⟩
theorem sc_Line_even : FnScope ["self", "weir", "first", "second", "top", "shared"] ["self", "weir"] (defScope s_Line_even) := ⟨rfl, rfl, rfl, by decide +kernel, rfl, by decide +kernel, by decide +kernel⟩
theorem sc_Line_inside : FnScope ["self", "basin"] ["self", "basin"] (defScope s_Line_inside) := ⟨rfl, rfl, rfl, by decide +kernel, rfl, by decide +kernel, by decide +kernel⟩
theorem sc_Line_water : FnScope ["self", "basin"] ["self"] (defScope s_Line_water) := ⟨rfl, rfl, rfl, by decide +kernel, rfl, by decide +kernel, by decide +kernel⟩
theorem sc_Row___init__ : FnScope ["self", "areas", "volumes", "locks", "volume"] ["self", "areas", "volumes", "locks"] (defScope s_Row___init__) := ⟨rfl, rfl, rfl, by decide +kernel, rfl, by decide +kernel, by decide +kernel⟩
theorem sc_Row___len__ : FnScope ["self"] ["self"] (defScope s_Row___len__) := ⟨rfl, rfl, rfl, by decide +kernel, rfl, by decide +kernel, by decide +kernel⟩
theorem sc_Row___getitem__ : FnScope ["self", "at"] ["self", "at"] (defScope s_Row___getitem__) := ⟨rfl, rfl, rfl, by decide +kernel, rfl, by decide +kernel, by decide +kernel⟩
theorem sc_Row___iter__ : FnScope ["self"] ["self"] (defScope s_Row___iter__) := ⟨rfl, rfl, rfl, by decide +kernel, rfl, by decide +kernel, by decide +kernel⟩
theorem sc_Row___contains__ : FnScope ["self", "weir"] ["self", "weir"] (defScope s_Row___contains__) := ⟨rfl, rfl, rfl, by decide +kernel, rfl, by decide +kernel, by decide +kernel⟩
theorem sc_Row___eq__ : FnScope ["self", "other"] ["self", "other"] (defScope s_Row___eq__) := ⟨rfl, rfl, rfl, by decide +kernel, rfl, by decide +kernel, by decide +kernel⟩
theorem sc_Row_weirs : FnScope ["self", "weir"] ["self"] (defScope s_Row_weirs) := ⟨rfl, rfl, rfl, by decide +kernel, rfl, by decide +kernel, by decide +kernel⟩
theorem sc_Row_heights : FnScope ["self", "volume", "area"] ["self"] (defScope s_Row_heights) := ⟨rfl, rfl, rfl, by decide +kernel, rfl, by decide +kernel, by decide +kernel⟩
theorem sc_Row_sums : FnScope ["self", "found", "volume"] ["self"] (defScope s_Row_sums) := ⟨rfl, rfl, rfl, by decide +kernel, rfl, by decide +kernel, by decide +kernel⟩
theorem sc_Row_opened : FnScope ["self", "weir", "share", "first", "second", "ahead", "beyond", "even", "late", "part", "moved"] ["self", "weir", "share"] (defScope s_Row_opened) := ⟨rfl, rfl, rfl, by decide +kernel, rfl, by decide +kernel, by decide +kernel⟩
theorem sc_with_volumes : FnScope ["row", "volumes", "late"] ["row", "volumes"] (defScope s_with_volumes) := ⟨rfl, rfl, rfl, by decide +kernel, rfl, by decide +kernel, by decide +kernel⟩
theorem sc_check_areas : FnScope ["areas", "area"] ["areas"] (defScope s_check_areas) := ⟨rfl, rfl, rfl, by decide +kernel, rfl, by decide +kernel, by decide +kernel⟩
theorem sc_check_volumes : FnScope ["volumes", "many", "volume"] ["volumes", "many"] (defScope s_check_volumes) := ⟨rfl, rfl, rfl, by decide +kernel, rfl, by decide +kernel, by decide +kernel⟩
theorem sc_check_locks : FnScope ["locks", "many", "lock"] ["locks", "many"] (defScope s_check_locks) := ⟨rfl, rfl, rfl, by decide +kernel, rfl, by decide +kernel, by decide +kernel⟩
theorem sc_check_row : FnScope ["row"] ["row"] (defScope s_check_row) := ⟨rfl, rfl, rfl, by decide +kernel, rfl, by decide +kernel, by decide +kernel⟩
theorem sc_check_order : FnScope ["row", "order", "place", "weir"] ["row", "order"] (defScope s_check_order) := ⟨rfl, rfl, rfl, by decide +kernel, rfl, by decide +kernel, by decide +kernel⟩
theorem sc_line_of : FnScope ["row"] ["row"] (defScope s_line_of) := ⟨rfl, rfl, rfl, by decide +kernel, rfl, by decide +kernel, by decide +kernel⟩
theorem sc_Sinking___init__ : FnScope ["self", "numbers"] ["self", "numbers"] (defScope s_Sinking___init__) := ⟨rfl, rfl, rfl, by decide +kernel, rfl, by decide +kernel, by decide +kernel⟩
theorem sc_Sinking___eq__ : FnScope ["self", "other"] ["self", "other"] (defScope s_Sinking___eq__) := ⟨rfl, rfl, rfl, by decide +kernel, rfl, by decide +kernel, by decide +kernel⟩
theorem sc_Sinking___bool__ : FnScope ["self"] ["self"] (defScope s_Sinking___bool__) := ⟨rfl, rfl, rfl, by decide +kernel, rfl, by decide +kernel, by decide +kernel⟩
theorem sc_Sinking_shows : FnScope ["self", "row", "order"] ["self", "row", "order"] (defScope s_Sinking_shows) := ⟨rfl, rfl, rfl, by decide +kernel, rfl, by decide +kernel, by decide +kernel⟩
theorem sc_sign_at : FnScope ["line", "weir", "rise"] ["line", "weir"] (defScope s_sign_at) := ⟨rfl, rfl, rfl, by decide +kernel, rfl, by decide +kernel, by decide +kernel⟩
theorem sc_all_signs : FnScope ["line", "weir"] ["line"] (defScope s_all_signs) := ⟨rfl, rfl, rfl, by decide +kernel, rfl, by decide +kernel, by decide +kernel⟩
theorem sc_changes : FnScope ["told", "left", "sign", "at"] ["told"] (defScope s_changes) := ⟨rfl, rfl, rfl, by decide +kernel, rfl, by decide +kernel, by decide +kernel⟩
theorem sc_signs : FnScope ["row", "sign"] ["row"] (defScope s_signs) := ⟨rfl, rfl, rfl, by decide +kernel, rfl, by decide +kernel, by decide +kernel⟩
theorem sc_turns : FnScope ["row"] ["row"] (defScope s_turns) := ⟨rfl, rfl, rfl, by decide +kernel, rfl, by decide +kernel, by decide +kernel⟩
theorem sc_flats : FnScope ["row", "told", "ends", "weir"] ["row"] (defScope s_flats) := ⟨rfl, rfl, rfl, by decide +kernel, rfl, by decide +kernel, by decide +kernel⟩
theorem sc_peaks : FnScope ["row", "told", "first", "end"] ["row"] (defScope s_peaks) := ⟨rfl, rfl, rfl, by decide +kernel, rfl, by decide +kernel, by decide +kernel⟩
theorem sc_sinking : FnScope ["row", "order", "openings", "line", "told", "numbers", "weir", "near"] ["row", "order"] (defScope s_sinking) := ⟨rfl, rfl, rfl, by decide +kernel, rfl, by decide +kernel, by decide +kernel⟩
theorem sc_turns_left : FnScope ["row", "weir"] ["row"] (defScope s_turns_left) := ⟨rfl, rfl, rfl, by decide +kernel, rfl, by decide +kernel, by decide +kernel⟩
theorem sc__law_number : FnScope ["script", "index", "cell", "blend"] ["script", "index"] (defScope s__law_number) := ⟨rfl, rfl, rfl, by decide +kernel, rfl, by decide +kernel, by decide +kernel⟩
theorem sc__law_take : FnScope ["draw", "many"] ["draw", "many"] (defScope s__law_take) := ⟨rfl, rfl, rfl, by decide +kernel, rfl, by decide +kernel, by decide +kernel⟩
theorem sc__law_pick : FnScope ["draw", "items"] ["draw", "items"] (defScope s__law_pick) := ⟨rfl, rfl, rfl, by decide +kernel, rfl, by decide +kernel, by decide +kernel⟩
theorem sc__law_common : FnScope ["one", "other"] ["one", "other"] (defScope s__law_common) := ⟨rfl, rfl, rfl, by decide +kernel, rfl, by decide +kernel, by decide +kernel⟩
theorem sc__law_part : FnScope ["top", "below", "least"] ["top", "below"] (defScope s__law_part) := ⟨rfl, rfl, rfl, by decide +kernel, rfl, by decide +kernel, by decide +kernel⟩
theorem sc__law_plus : FnScope ["one", "other"] ["one", "other"] (defScope s__law_plus) := ⟨rfl, rfl, rfl, by decide +kernel, rfl, by decide +kernel, by decide +kernel⟩
theorem sc__law_less : FnScope ["one", "other"] ["one", "other"] (defScope s__law_less) := ⟨rfl, rfl, rfl, by decide +kernel, rfl, by decide +kernel, by decide +kernel⟩
theorem sc__law_times : FnScope ["one", "other"] ["one", "other"] (defScope s__law_times) := ⟨rfl, rfl, rfl, by decide +kernel, rfl, by decide +kernel, by decide +kernel⟩
theorem sc__law_drawn : FnScope ["draw", "most", "many", "even", "areas", "volumes", "locks", "basin", "weir"] ["draw", "most"] (defScope s__law_drawn) := ⟨rfl, rfl, rfl, by decide +kernel, rfl, by decide +kernel, by decide +kernel⟩
theorem sc__law_parts_of : FnScope ["volumes", "volume"] ["volumes"] (defScope s__law_parts_of) := ⟨rfl, rfl, rfl, by decide +kernel, rfl, by decide +kernel, by decide +kernel⟩
theorem sc__law_open : FnScope ["areas", "volumes", "weir", "both", "one", "other", "first"] ["areas", "volumes", "weir"] (defScope s__law_open) := ⟨rfl, rfl, rfl, by decide +kernel, rfl, by decide +kernel, by decide +kernel⟩
theorem sc__law_heights : FnScope ["areas", "volumes", "area", "volume"] ["areas", "volumes"] (defScope s__law_heights) := ⟨rfl, rfl, rfl, by decide +kernel, rfl, by decide +kernel, by decide +kernel⟩
theorem sc__law_order : FnScope ["draw", "weirs", "many", "turn"] ["draw", "weirs", "many"] (defScope s__law_order) := ⟨rfl, rfl, rfl, by decide +kernel, rfl, by decide +kernel, by decide +kernel⟩
theorem sc__law_signs : FnScope ["heights", "found", "one", "late"] ["heights"] (defScope s__law_signs) := ⟨rfl, rfl, rfl, by decide +kernel, rfl, by decide +kernel, by decide +kernel⟩
theorem sc__law_turns : FnScope ["heights", "told", "one", "late"] ["heights"] (defScope s__law_turns) := ⟨rfl, rfl, rfl, by decide +kernel, rfl, by decide +kernel, by decide +kernel⟩
theorem sc__law_flats : FnScope ["heights", "found", "basin", "height"] ["heights"] (defScope s__law_flats) := ⟨rfl, rfl, rfl, by decide +kernel, rfl, by decide +kernel, by decide +kernel⟩
theorem sc__law_peaks : FnScope ["heights", "told", "found", "first", "last", "low", "basin"] ["heights"] (defScope s__law_peaks) := ⟨rfl, rfl, rfl, by decide +kernel, rfl, by decide +kernel, by decide +kernel⟩
theorem sc_law : FnScope ["script", "draw", "areas", "volumes", "locks", "row", "told", "weirs", "heights", "order", "now", "numbers", "weir", "found", "due", "late", "falling", "error", "area", "at"] ["script"] (defScope s_law) := ⟨rfl, rfl, rfl, by decide +kernel, rfl, by decide +kernel, by decide +kernel⟩
end My
end
section
set_option Elab.async false
set_option linter.all false
set_option maxRecDepth 100000
set_option maxHeartbeats 0
namespace My
open PySem PySem.Spec PyProof.Rows L2
abbrev R : PySem.W.OpenRow := PySem.W.OpenLaw.row PySem.Challenge.rw_weirlines_k45_whole_turns
abbrev hk : PySem.W.Hook := SupX.hookS 5 fa fn xs fileS exB
def ob (s : PySem.W.SharedT) : SupX.AlS := SupX.obsSG 5 fa fn xs fileS exB (HandSHeadRun.getT s)
theorem ob_eq (s : PySem.W.SharedT) : ob s = hk.obs s.abs := SupX.obsSG_eq (HandSHeadRun.getT_eq s)
theorem run (w : World) : HandSHeadRun.RunEqI R (PySem.W.view R.prog [0, 59]) hk ob 6000 loose w := by
  unfold HandSHeadRun.RunEqI
  kernel_rfl
end My
end
section
set_option Elab.async false
set_option linter.all false
set_option maxRecDepth 100000
set_option maxHeartbeats 4000000
namespace My
open PySem PySem.Spec PyProof.Rows L2 Evl WD
local macro_rules | `(tactic| walk_at "exgo") => `(tactic| first | exact Ex.refl _ | assumption | (refine' Ex.trans ?ea ?eb; (case eb => assumption); (case ea => walk_at "exgo")))
local macro_rules | `(tactic| walk_at "is") => `(tactic| first | assumption | (refine' Is.ex ?e ?h; (case h => assumption); (case e => walk_at "exgo")) | exact Is.int _ | exact Is.bl _ | exact Is.non)
local macro_rules | `(tactic| walk_at "ev") => `(tactic| first
  | exact ed_int | exact ed_bl | exact ed_non | exact ed_str
  | ((with_reducible apply ed_var) <;> first | exact rfl | walk_at "is")
  | ((with_reducible apply ed_add) <;> walk_at "ev")
  | ((with_reducible apply ed_sub) <;> walk_at "ev")
  | ((with_reducible apply ed_neg) <;> walk_at "ev")
  | ((with_reducible apply ed_mulW) <;> try walk_at "ev")
  | ((with_reducible apply ed_divW) <;> try walk_at "ev")
  | ((with_reducible apply ed_mod) <;> try walk_at "ev")
  | ((with_reducible apply ed_ixT) <;> first | exact rfl | walk_at "ev" | skip)
  | ((with_reducible apply ed_ixL) <;> first | exact rfl | walk_at "ev" | skip)
  | ((with_reducible apply ed_lt) <;> walk_at "ev")
  | ((with_reducible apply ed_le) <;> walk_at "ev")
  | ((with_reducible apply ed_gt) <;> walk_at "ev")
  | ((with_reducible apply ed_ge) <;> walk_at "ev")
  | ((with_reducible apply ed_eqI) <;> walk_at "ev")
  | ((with_reducible apply ed_neI) <;> walk_at "ev")
  | ((with_reducible apply ed_gcd) <;> walk_at "ev")
  | ((with_reducible apply ed_abs) <;> walk_at "ev")
  | ((with_reducible apply ed_intI) <;> walk_at "ev")
  | ((with_reducible apply ed_intB) <;> walk_at "ev")
  | ((with_reducible apply ed_max2) <;> walk_at "ev")
  | ((with_reducible apply ed_min2) <;> walk_at "ev")
  | ((with_reducible apply ed_lenT) <;> walk_at "ev")
  | ((with_reducible apply ed_lenL) <;> walk_at "ev")
  | ((with_reducible apply ed_tuple) <;> walk_at "ev")
  | ((with_reducible apply ed_tupleT) <;> walk_at "ev")
  | ((with_reducible apply ed_tup) <;> first | walk_at "ea" | (simp; done) | skip)
  | ((with_reducible apply et_t) <;> walk_at "ev")
  | ((with_reducible apply et_v) <;> walk_at "ev"))
local macro_rules | `(tactic| walk_at "ea") => `(tactic| first
  | exact ea0
  | ((with_reducible apply ea1) <;> first | walk_at "ev" | walk_at "ea" | skip))

section
variable {P : Program} {w : World} {K : PySem.W.Frag} {mg : Str → Option Value} {base : Heap}
def R_reduced (ds : List D) (d : D) : Prop := ∃ (n : Int) (b : Nat), ds = [.int n, .int (b : Int)] ∧ 0 < b ∧ b < 2 ^ 9000 ∧ d = fr (mkRat n b)
theorem divW_gcd {i : Int} {x b : Nat} (hb : 0 < b) (hs : b < 2 ^ 9000) (hx : x ∣ b) : CDivW i (x : Int) := wide_div (b := 9000) (by
  have := Nat.pos_of_dvd_of_pos hx hb
  omega) (Nat.lt_of_le_of_lt (Nat.le_of_dvd hb hx) hs) (by decide) (by decide)
theorem All.inv1 {H : Hp} {vs : List V} {d : D} (a : All K H vs [d]) : ∃ v, vs = [v] ∧ Is K H v d := by
  cases a with
  | cons a1 a => cases a; exact ⟨_, rfl, a1⟩
theorem All.inv2 {H : Hp} {vs : List V} {d1 d2 : D} (a : All K H vs [d1, d2]) : ∃ v w, vs = [v, w] ∧ Is K H v d1 ∧ Is K H w d2 := by
  cases a with
  | cons a1 a => 
    obtain ⟨w, rfl, a2⟩ := All.inv1 a
    exact ⟨_, _, rfl, a1, a2⟩
theorem All.inv3 {H : Hp} {vs : List V} {d1 d2 d3 : D} (a : All K H vs [d1, d2, d3]) : ∃ v w x, vs = [v, w, x] ∧ Is K H v d1 ∧ Is K H w d2 ∧ Is K H x d3 := by
  cases a with
  | cons a1 a => 
    obtain ⟨w, x, rfl, a2⟩ := All.inv2 a
    exact ⟨_, _, _, rfl, a1, a2⟩
theorem ok_reduced (T : Txt K mg) : FnG P w K mg base 1 (He.ga K "reduced") ["top", "bottom"] (spD K R_reduced) := by
  refine fnG (N := ["top", "bottom", "shared"]) (st := s_reduced) T.f_reduced sc_reduced (fun vs H Q E h => ?_) (fun _ _ _ _ _ _ us hl => match us, hl with | [_, _], _ => rfl) (fun cdv A outer s H vs Q E hr h => ⟨_, (pss_cons (ps_asg (pe_callBfun cr_gcd (by rfl) T.b_gcd (pa_cons (pv 0) (pa_cons (pv 1) pa_nil))) (pg_name (i := 2) sc_reduced.nd rfl (.inl rfl))) (pss_one (ps_ret (pe_tup (pa_cons (pe_op op_fdivW (pv 0) (pv 2)) (pa_cons (pe_op op_fdivW (pv 1) (pv 2)) pa_nil)))))), ?_⟩)
  · obtain ⟨ds, d, a, ⟨n, b, rfl, _⟩, _⟩ := h
    exact a.len
  · obtain ⟨ds, d, a, ⟨n, b, rfl, hb, hs, rfl⟩, q⟩ := h
    obtain ⟨e1, e2⟩ := mkRat_pair (n := n) (d := b) (by omega)
    obtain ⟨v, v', rfl, a1, a2⟩ := All.inv2 a
    try dsimp only [cxOf, Cx.nox, Cx.wish]
    refine' q_asgD (K := K) ?e1 ?k1; (case e1 => (walk_at "ev")); intro v1 H1 x1 i1
    have hd : ∀ i : Int, CDivW i ((Nat.gcd n.natAbs b : Nat) : Int) := fun i => divW_gcd hb hs (Nat.gcd_dvd_right _ _)
    refine' s_retD (K := K) ?e2 ?k2; (case e2 => (walk_at "ev"; all_goals (exact hd _))); intro v2 H2 x2 i2
    refine q _ _ (x1.trans x2) ?_
    have e : fr (mkRat n b) = .tup [.int (n / ((Nat.gcd n.natAbs b : Nat) : Int)), .int ((b : Int) / ((Nat.gcd n.natAbs b : Nat) : Int))] := by
      rw [e1, e2] <;> rfl
    rw [e]
    exact i2
def R_plus (ds : List D) (d : D) : Prop := ∃ p q : Rat, ds = [fr p, fr q] ∧ Sm 4000 p ∧ Sm 4000 q ∧ d = fr (p + q)
theorem lt_pow_succ {n k : Nat} {i : Int} (h : i.natAbs < 2 ^ k) : (i / (n : Int)).natAbs < 2 ^ (k + 1) := by
  have h1 := natAbs_div_le i n
  have h2 : 2 ^ (k + 1) = 2 ^ k * 2 := Nat.pow_succ ..
  have h3 : 0 < 2 ^ k := Nat.pow_pos (by decide)
  omega
theorem mulW {i j : Int} {a b : Nat} (ha : i.natAbs < 2 ^ a) (hb : j.natAbs < 2 ^ b) (h0 : 0 < a := by decide) (h1 : 0 < b := by decide) (h : a + b ≤ 1000000 := by decide) : CMulW i j := wide_mul ha hb h0 h1 h
theorem divW {i : Int} {j b : Nat} (h : 0 < j) (hb : j < 2 ^ b) (h0 : 0 < b := by decide) (h9 : b ≤ 9000 := by decide) : CDivW i (j : Int) := wide_div (by omega) hb h0 h9
theorem ok_plus (T : Txt K mg) : FnG P w K mg base 1 (He.ga K "plus") ["one", "other"] (spD K R_plus) := by
  refine fnG (N := ["one", "other", "shared", "top", "rest"]) (st := s_plus) T.f_plus sc_plus (fun vs H Q E h => ?_) (fun _ _ _ _ _ _ us hl => match us, hl with | [_, _], _ => rfl) (fun cdv A outer s H vs Q E hr h => ⟨_, (pss_cons (ps_asg (pe_callBfun cr_gcd (by rfl) T.b_gcd (pa_cons (pe_ix ix_tup (pv 0) pe_int (fun _ _ => rfl)) (pa_cons (pe_ix ix_tup (pv 1) pe_int (fun _ _ => rfl)) pa_nil))) (pg_name (i := 2) sc_plus.nd rfl (.inl rfl))) (pss_cons (ps_asg (pe_op op_add (pe_op op_mulW (pe_ix ix_tup (pv 0) pe_int (fun _ _ => rfl)) (pe_op op_fdivW (pe_ix ix_tup (pv 1) pe_int (fun _ _ => rfl)) (pv 2))) (pe_op op_mulW (pe_ix ix_tup (pv 1) pe_int (fun _ _ => rfl)) (pe_op op_fdivW (pe_ix ix_tup (pv 0) pe_int (fun _ _ => rfl)) (pv 2)))) (pg_name (i := 3) sc_plus.nd rfl (.inl rfl))) (pss_cons (ps_asg (pe_callBfun cr_gcd (by rfl) T.b_gcd (pa_cons (pv 3) (pa_cons (pv 2) pa_nil))) (pg_name (i := 4) sc_plus.nd rfl (.inl rfl))) (pss_one (ps_ret (pe_tup (pa_cons (pe_op op_fdivW (pv 3) (pv 4)) (pa_cons (pe_op op_mulW (pe_op op_fdivW (pe_ix ix_tup (pv 0) pe_int (fun _ _ => rfl)) (pv 2)) (pe_op op_fdivW (pe_ix ix_tup (pv 1) pe_int (fun _ _ => rfl)) (pv 4))) pa_nil)))))))), ?_⟩)
  · obtain ⟨ds, d, a, ⟨p, r, rfl, _⟩, _⟩ := h
    exact a.len
  · obtain ⟨ds, d, a, ⟨p, r, rfl, sp, sr, rfl⟩, q⟩ := h
    obtain ⟨e1, e2⟩ := add_pair p r
    obtain ⟨v, v', rfl, a1, a2⟩ := All.inv2 a
    have g0 : 0 < Nat.gcd p.den r.den := Nat.gcd_pos_of_pos_left _ p.den_pos
    have g1 : Nat.gcd p.den r.den < 2 ^ 4000 := Nat.lt_of_le_of_lt (Nat.le_of_dvd p.den_pos (Nat.gcd_dvd_left _ _)) sp.den
    have hd : ∀ i : Int, CDivW i ((Nat.gcd p.den r.den : Nat) : Int) := fun i => divW (b := 4000) g0 g1
    unfold fr at a1 a2
    try dsimp only [cxOf, Cx.nox, Cx.wish]
    refine' q_asgD (K := K) ?e3 ?k3; (case e3 => (walk_at "ev")); intro v1 H1 x1 i1
    refine' q_asgD (K := K) ?e4 ?k4; (case e4 => (walk_at "ev"; all_goals (first | exact hd _ | exact mulW (a := 4000) (b := 4001) sp.num (lt_pow_succ (i := (r.den : Int)) sr.den) | exact mulW (a := 4000) (b := 4001) sr.num (lt_pow_succ (i := (p.den : Int)) sp.den)))); intro v2 H2 x2 i2
    refine' q_asgD (K := K) ?e5 ?k5; (case e5 => (walk_at "ev")); intro v3 H3 x3 i3
    have hd2 : ∀ (i n : Int), CDivW i ((Nat.gcd n.natAbs (Nat.gcd p.den r.den) : Nat) : Int) := fun i n => divW (b := 4000) (Nat.gcd_pos_of_pos_right _ g0) (Nat.lt_of_le_of_lt (Nat.le_of_dvd g0 (Nat.gcd_dvd_right _ _)) g1)
    refine' s_retD (K := K) ?e6 ?k6; (case e6 => (walk_at "ev"; all_goals (first | exact hd _ | exact hd2 _ _ | exact mulW (a := 4001) (b := 4001) (lt_pow_succ (i := (p.den : Int)) sp.den) (lt_pow_succ (i := (r.den : Int)) sr.den)))); intro v4 H4 x4 i4
    refine q _ _ (((x1.trans x2).trans x3).trans x4) ?_
    unfold fr
    rw [← e1, ← e2]
    exact i4
def R_is_integer (ds : List D) (d : D) : Prop := ∃ x s, ds = [x] ∧ x.ty = some s ∧ d = .bl x.isInt
theorem ok_is_integer (T : Txt K mg) : FnG P w K mg base 1 (He.ga K "is_integer") ["thing"] (spD K R_is_integer) := by
  refine fnG (N := ["thing"]) (st := s_is_integer) T.f_is_integer sc_is_integer (fun vs H Q E h => ?_) (fun _ _ _ _ _ _ us hl => match us, hl with | [_], _ => rfl) (fun cdv A outer s H vs Q E hr h => ⟨_, (pss_one (ps_ret (pe_and (pe_callB call_isi (by rfl) T.z_isinstance (by decide +kernel) (pa_cons (pv 0) (pa_cons (pe_tyN (n := "int") (by rfl) T.z_int (by decide +kernel)) pa_nil))) (pe_one (pe_not (pe_callB call_isi (by rfl) T.z_isinstance (by decide +kernel) (pa_cons (pv 0) (pa_cons (pe_tyN (n := "bool") (by rfl) T.z_bool (by decide +kernel)) pa_nil)))))))), ?_⟩)
  · obtain ⟨ds, d, a, ⟨x, s, rfl, _⟩, _⟩ := h
    exact a.len
  · obtain ⟨ds, d, a, ⟨x, s, rfl, hs, rfl⟩, q⟩ := h
    obtain ⟨v, rfl, a1⟩ := All.inv1 a
    refine s_retD (d := .bl x.isInt) ?_ fun v2 H2 x2 i2 => q _ _ x2 i2
    cases x with
    | obj c fs => cases hs
    | int i => exact ed_andV (a := true) (b := true) (ed_isi (n := "int") (b := true) (ed_var rfl a1) rfl (by decide +kernel)) fun _ => ed_notV (a := false) (ed_isi (n := "bool") (b := false) (ed_var rfl a1) rfl (by decide +kernel))
    | bl i => exact ed_andV (ed_isi (n := "int") (b := true) (ed_var rfl a1) rfl (by decide +kernel)) fun _ => ed_notV (ed_isi (n := "bool") (b := true) (ed_var rfl a1) rfl (by decide +kernel))
    | _ => exact ed_andV (a := false) (b := false) (ed_isi (n := "int") (ed_var rfl a1) rfl (by decide +kernel)) fun z => nomatch z
def D.isFr : D → Bool
  | .int _ => true
  | .tup [.int _, .int j] => decide (1 ≤ j)
  | _ => false
def R_is_fraction (ds : List D) (d : D) : Prop := d = .bl true ∧ ((∃ i, ds = [.int i]) ∨ (∃ i j, ds = [.tup [.int i, .int j]] ∧ 1 ≤ j))
theorem ok_is_fraction (T : Txt K mg) : FnG P w K mg base 2 (He.ga K "is_fraction") ["thing"] (spD K R_is_fraction) := by
  refine fnG (N := ["thing"]) (st := s_is_fraction) T.f_is_fraction sc_is_fraction (fun vs H Q E h => ?_) (fun _ _ _ _ _ _ us hl => match us, hl with | [_], _ => rfl) (fun cdv A outer s H vs Q E hr h => ⟨_, (pss_cons (ps_if (pt_not (pt_val (pe_callB call_isi (by rfl) T.z_isinstance (by decide +kernel) (pa_cons (pv 0) (pa_cons (pe_tyN (n := "tuple") (by rfl) T.z_tuple (by decide +kernel)) pa_nil))))) (pss_one (ps_ret (pe_callG (ok_is_integer T) (hr.mono (by decide)) (by rfl) T.m_is_integer (pa_cons (pv 0) pa_nil)))) pss_nil) (pss_one (ps_ret (pe_and (pe_cmpR op_eq (pe_callB call_lenS (by rfl) T.z_len PySem.boot_len (pa_cons (pv 0) pa_nil)) pe_int (nomark _)) (pe_and (pe_callG (ok_is_integer T) (hr.mono (by decide)) (by rfl) T.m_is_integer (pa_cons (pe_ix ix_tup (pv 0) pe_int (fun _ _ => rfl)) pa_nil)) (pe_and (pe_callG (ok_is_integer T) (hr.mono (by decide)) (by rfl) T.m_is_integer (pa_cons (pe_ix ix_tup (pv 0) pe_int (fun _ _ => rfl)) pa_nil)) (pe_one (pe_cmpR op_ge (pe_ix ix_tup (pv 0) pe_int (fun _ _ => rfl)) pe_int (nomark _))))))))), ?_⟩)
  · obtain ⟨ds, d, a, ⟨_, h⟩, _⟩ := h
    rcases h with ⟨i, rfl⟩ | ⟨i, j, rfl, _⟩ <;> exact a.len
  · obtain ⟨ds, d, a, ⟨rfl, h⟩, q⟩ := h
    rcases h with ⟨i, rfl⟩ | ⟨i, j, rfl, hj⟩
    · obtain ⟨v, rfl, a1⟩ := All.inv1 a
      refine q_when (b := true) (et_not (a := false) (et_v (K := K) (ed_isi (n := "tuple") (ed_var rfl a1) rfl (by decide +kernel)))) (fun _ H1 x1 => ?_) (fun z => nomatch z)
      exact s_retD (K := K) (ed_call (ea1 (ed_var rfl (a1.ex x1)) ea0) ⟨_, "int", rfl, rfl, rfl⟩) fun v2 H2 x2 i2 => q _ _ (x1.trans x2) i2
    · obtain ⟨v, rfl, a1⟩ := All.inv1 a
      refine q_when (b := false) (et_not (a := true) (et_v (K := K) (ed_isi (n := "tuple") (ed_var rfl a1) rfl (by decide +kernel)))) (fun z => nomatch z) (fun _ H1 x1 => ?_)
      try dsimp only [cxOf, Cx.nox, Cx.wish]
      have b1 := a1.ex x1
      refine s_retD (d := .bl true) ?_ fun v2 H2 x2 i2 => q _ _ (x1.trans x2) i2
      refine ed_andV (a := true) (b := true) (EvD.is (d := .bl (decide ((([D.int i, D.int j] : List D).length : Int) = 2))) (by walk_at "ev") rfl) fun _ => ed_andV (a := true) (b := true) ?_ fun _ => ed_andV (a := true) (b := true) ?_ fun _ => EvD.is (d := .bl (decide (1 ≤ j))) (by walk_at "ev") (by rw [decide_eq_true hj])
      · exact ed_call (ea1 (by walk_at "ev") ea0) ⟨.int i, "int", rfl, rfl, rfl⟩
      · exact ed_call (ea1 (by walk_at "ev") ea0) ⟨.int j, "int", rfl, rfl, rfl⟩
def R_exact (ds : List D) (d : D) : Prop := (∃ i : Int, ds = [.int i] ∧ d = fr (i : Rat)) ∨ (∃ (i : Int) (b : Nat), ds = [.tup [.int i, .int (b : Int)]] ∧ 0 < b ∧ b < 2 ^ 9000 ∧ d = fr (mkRat i b))
theorem ok_exact (T : Txt K mg) : FnG P w K mg base 2 (He.ga K "exact") ["told"] (spD K R_exact) := by
  refine fnG (N := ["told"]) (st := s_exact) T.f_exact sc_exact (fun vs H Q E h => ?_) (fun _ _ _ _ _ _ us hl => match us, hl with | [_], _ => rfl) (fun cdv A outer s H vs Q E hr h => ⟨_, (pss_cons (ps_if (pt_val (pe_callB call_isi (by rfl) T.z_isinstance (by decide +kernel) (pa_cons (pv 0) (pa_cons (pe_tyN (n := "tuple") (by rfl) T.z_tuple (by decide +kernel)) pa_nil)))) (pss_one (ps_ret (pe_callG (ok_reduced T) (hr.mono (by decide)) (by rfl) T.m_reduced (pa_cons (pe_ix ix_tup (pv 0) pe_int (fun _ _ => rfl)) (pa_cons (pe_ix ix_tup (pv 0) pe_int (fun _ _ => rfl)) pa_nil))))) pss_nil) (pss_one (ps_ret (pe_tup (pa_cons (pv 0) (pa_cons pe_int pa_nil)))))), ?_⟩)
  · obtain ⟨ds, d, a, h, _⟩ := h
    rcases h with ⟨i, rfl, _⟩ | ⟨i, j, rfl, _⟩ <;> exact a.len
  · obtain ⟨ds, d, a, h, q⟩ := h
    rcases h with ⟨i, rfl, rfl⟩ | ⟨i, b, rfl, h0, h1, rfl⟩
    · obtain ⟨v, rfl, a1⟩ := All.inv1 a
      refine q_when (b := false) (et_v (K := K) (ed_isi (n := "tuple") (ed_var rfl a1) rfl (by decide +kernel))) (fun z => nomatch z) (fun _ H1 x1 => ?_)
      refine s_retD (d := fr (i : Rat)) ?_ fun v2 H2 x2 i2 => q _ _ (x1.trans x2) i2
      exact ed_tup (ea1 (ed_var rfl (a1.ex x1)) (ea1 ed_int ea0)) (by show 2 ≤ 100000; decide)
    · obtain ⟨v, rfl, a1⟩ := All.inv1 a
      refine q_when (b := true) (et_v (K := K) (ed_isi (n := "tuple") (ed_var rfl a1) rfl (by decide +kernel))) (fun _ H1 x1 => ?_) (fun z => nomatch z)
      try dsimp only [cxOf, Cx.nox, Cx.wish]
      have b1 := a1.ex x1
      refine s_retD (d := fr (mkRat i b)) ?_ fun v2 H2 x2 i2 => q _ _ (x1.trans x2) i2
      exact ed_call (ea1 (by walk_at "ev") (ea1 (by walk_at "ev") ea0)) ⟨i, b, rfl, h0, h1, rfl⟩
def R_minus (ds : List D) (d : D) : Prop := ∃ p q : Rat, ds = [fr p, fr q] ∧ Sm 4000 p ∧ Sm 4000 q ∧ d = fr (p - q)
theorem ok_minus (T : Txt K mg) : FnG P w K mg base 2 (He.ga K "minus") ["one", "other"] (spD K R_minus) := by
  refine fnG (N := ["one", "other"]) (st := s_minus) T.f_minus sc_minus (fun vs H Q E h => ?_) (fun _ _ _ _ _ _ us hl => match us, hl with | [_, _], _ => rfl) (fun cdv A outer s H vs Q E hr h => ⟨_, (pss_one (ps_ret (pe_callG (ok_plus T) (hr.mono (by decide)) (by rfl) T.m_plus (pa_cons (pv 0) (pa_cons (pe_tup (pa_cons (pe_un un_neg (pe_ix ix_tup (pv 1) pe_int (fun _ _ => rfl))) (pa_cons (pe_ix ix_tup (pv 1) pe_int (fun _ _ => rfl)) pa_nil))) pa_nil))))), ?_⟩)
  · obtain ⟨ds, d, a, ⟨p, r, rfl, _⟩, _⟩ := h
    exact a.len
  · obtain ⟨ds, d, a, ⟨p, r, rfl, sp, sr, rfl⟩, q⟩ := h
    obtain ⟨v, v', rfl, a1, a2⟩ := All.inv2 a
    try dsimp only [cxOf, Cx.nox, Cx.wish]
    have a2' : Is K H v' (.tup [.int r.num, .int (r.den : Int)]) := a2
    refine s_retD (d := fr (p - r)) ?_ fun v2 H2 x2 i2 => q _ _ x2 i2
    refine ed_call (ds := [fr p, fr (-r)]) (ea1 (by walk_at "ev") (ea1 ?_ ea0)) ⟨p, -r, rfl, sp, ⟨by rw [Rat.neg_num, Int.natAbs_neg]; exact sr.num, by rw [Rat.neg_den]; exact sr.den⟩, by rw [Rat.sub_eq_add_neg]⟩
    show EvD K _ _ _ (.tup [.int (-r).num, .int ((-r).den : Int)])
    rw [Rat.neg_num, Rat.neg_den]
    walk_at "ev"
def R_times (ds : List D) (d : D) : Prop := ∃ p q : Rat, ds = [fr p, fr q] ∧ Sm 4000 p ∧ Sm 4000 q ∧ d = fr (p * q)
theorem ok_times (T : Txt K mg) : FnG P w K mg base 1 (He.ga K "times") ["one", "other"] (spD K R_times) := by
  refine fnG (N := ["one", "other", "left", "right"]) (st := s_times) T.f_times sc_times (fun vs H Q E h => ?_) (fun _ _ _ _ _ _ us hl => match us, hl with | [_, _], _ => rfl) (fun cdv A outer s H vs Q E hr h => ⟨_, (pss_cons (ps_asg (pe_callBfun cr_gcd (by rfl) T.b_gcd (pa_cons (pe_ix ix_tup (pv 0) pe_int (fun _ _ => rfl)) (pa_cons (pe_ix ix_tup (pv 1) pe_int (fun _ _ => rfl)) pa_nil))) (pg_name (i := 2) sc_times.nd rfl (.inl rfl))) (pss_cons (ps_asg (pe_callBfun cr_gcd (by rfl) T.b_gcd (pa_cons (pe_ix ix_tup (pv 1) pe_int (fun _ _ => rfl)) (pa_cons (pe_ix ix_tup (pv 0) pe_int (fun _ _ => rfl)) pa_nil))) (pg_name (i := 3) sc_times.nd rfl (.inl rfl))) (pss_one (ps_ret (pe_tup (pa_cons (pe_op op_mulW (pe_op op_fdivW (pe_ix ix_tup (pv 0) pe_int (fun _ _ => rfl)) (pv 2)) (pe_op op_fdivW (pe_ix ix_tup (pv 1) pe_int (fun _ _ => rfl)) (pv 3))) (pa_cons (pe_op op_mulW (pe_op op_fdivW (pe_ix ix_tup (pv 0) pe_int (fun _ _ => rfl)) (pv 3)) (pe_op op_fdivW (pe_ix ix_tup (pv 1) pe_int (fun _ _ => rfl)) (pv 2))) pa_nil))))))), ?_⟩)
  · obtain ⟨ds, d, a, ⟨p, r, rfl, _⟩, _⟩ := h
    exact a.len
  · obtain ⟨ds, d, a, ⟨p, r, rfl, sp, sr, rfl⟩, q⟩ := h
    obtain ⟨e1, e2⟩ := mul_pair p r
    obtain ⟨v, v', rfl, a1, a2⟩ := All.inv2 a
    unfold fr at a1 a2
    try dsimp only [cxOf, Cx.nox, Cx.wish]
    refine' q_asgD (K := K) ?e7 ?k7; (case e7 => (walk_at "ev")); intro v1 H1 x1 i1
    refine' q_asgD (K := K) ?e8 ?k8; (case e8 => (walk_at "ev")); intro v2 H2 x2 i2
    have hl : ∀ i : Int, CDivW i ((Nat.gcd p.num.natAbs r.den : Nat) : Int) := fun i => divW (b := 4000) (Nat.gcd_pos_of_pos_right _ r.den_pos) (Nat.lt_of_le_of_lt (Nat.le_of_dvd r.den_pos (Nat.gcd_dvd_right _ _)) sr.den)
    have hr' : ∀ i : Int, CDivW i ((Nat.gcd r.num.natAbs p.den : Nat) : Int) := fun i => divW (b := 4000) (Nat.gcd_pos_of_pos_right _ p.den_pos) (Nat.lt_of_le_of_lt (Nat.le_of_dvd p.den_pos (Nat.gcd_dvd_right _ _)) sp.den)
    refine' s_retD (K := K) ?e9 ?k9; (case e9 => (walk_at "ev"; all_goals (first | exact hl _ | exact hr' _ | exact mulW (a := 4001) (b := 4001) (lt_pow_succ sp.num) (lt_pow_succ sr.num) | exact mulW (a := 4001) (b := 4001) (lt_pow_succ (i := (p.den : Int)) sp.den) (lt_pow_succ (i := (r.den : Int)) sr.den)))); intro v4 H4 x4 i4
    refine q _ _ ((x1.trans x2).trans x4) ?_
    unfold fr
    rw [← e1, ← e2]
    exact i4
def R_is_less (ds : List D) (d : D) : Prop := ∃ p q : Rat, ds = [fr p, fr q] ∧ Sm 4000 p ∧ Sm 4000 q ∧ d = .bl (decide (p < q))

end
end My
end
section
set_option Elab.async false
set_option linter.all false
set_option maxRecDepth 100000
set_option maxHeartbeats 4000000
namespace My
open PySem PySem.Spec PyProof.Rows L2 Evl WD
local macro_rules | `(tactic| walk_at "exgo") => `(tactic| first | exact Ex.refl _ | assumption | (refine' Ex.trans ?ea ?eb; (case eb => assumption); (case ea => walk_at "exgo")))
local macro_rules | `(tactic| walk_at "is") => `(tactic| first | assumption | (refine' Is.ex ?e ?h; (case h => assumption); (case e => walk_at "exgo")) | exact Is.int _ | exact Is.bl _ | exact Is.non)
local macro_rules | `(tactic| walk_at "ev") => `(tactic| first
  | exact ed_int | exact ed_bl | exact ed_non | exact ed_str
  | ((with_reducible apply ed_var) <;> first | exact rfl | walk_at "is")
  | ((with_reducible apply ed_add) <;> walk_at "ev")
  | ((with_reducible apply ed_sub) <;> walk_at "ev")
  | ((with_reducible apply ed_neg) <;> walk_at "ev")
  | ((with_reducible apply ed_mulW) <;> try walk_at "ev")
  | ((with_reducible apply ed_divW) <;> try walk_at "ev")
  | ((with_reducible apply ed_mod) <;> try walk_at "ev")
  | ((with_reducible apply ed_ixT) <;> first | exact rfl | walk_at "ev" | skip)
  | ((with_reducible apply ed_ixL) <;> first | exact rfl | walk_at "ev" | skip)
  | ((with_reducible apply ed_lt) <;> walk_at "ev")
  | ((with_reducible apply ed_le) <;> walk_at "ev")
  | ((with_reducible apply ed_gt) <;> walk_at "ev")
  | ((with_reducible apply ed_ge) <;> walk_at "ev")
  | ((with_reducible apply ed_eqI) <;> walk_at "ev")
  | ((with_reducible apply ed_neI) <;> walk_at "ev")
  | ((with_reducible apply ed_gcd) <;> walk_at "ev")
  | ((with_reducible apply ed_abs) <;> walk_at "ev")
  | ((with_reducible apply ed_intI) <;> walk_at "ev")
  | ((with_reducible apply ed_intB) <;> walk_at "ev")
  | ((with_reducible apply ed_max2) <;> walk_at "ev")
  | ((with_reducible apply ed_min2) <;> walk_at "ev")
  | ((with_reducible apply ed_lenT) <;> walk_at "ev")
  | ((with_reducible apply ed_lenL) <;> walk_at "ev")
  | ((with_reducible apply ed_tuple) <;> walk_at "ev")
  | ((with_reducible apply ed_tupleT) <;> walk_at "ev")
  | ((with_reducible apply ed_tup) <;> first | walk_at "ea" | (simp; done) | skip)
  | ((with_reducible apply et_t) <;> walk_at "ev")
  | ((with_reducible apply et_v) <;> walk_at "ev"))
local macro_rules | `(tactic| walk_at "ea") => `(tactic| first
  | exact ea0
  | ((with_reducible apply ea1) <;> first | walk_at "ev" | walk_at "ea" | skip))

section
variable {P : Program} {w : World} {K : PySem.W.Frag} {mg : Str → Option Value} {base : Heap}
def R_common (ds : List D) (d : D) : Prop := ∃ a b : Nat, ds = [.int (a : Int), .int (b : Int)] ∧ d = .int ((Nat.gcd a b : Nat) : Int)
theorem ok__law_common (T : Txt K mg) : FnG P w K mg base 1 (He.ga K "_law_common") ["one", "other"] (spD K R_common) := by
  refine fnG (N := ["one", "other"]) (st := s__law_common) T.f__law_common sc__law_common (fun vs H Q E h => ?_) (fun _ _ _ _ _ _ us hl => match us, hl with | [_, _], _ => rfl) (fun cdv A outer s H vs Q E hr h => ⟨_, (pss_cons (ps_while PassesOwn.never (pt_cmpR op_ne (pv 1) pe_int (nomark _)) (pss_one (ps_par (i := 0) (j := 1) (by rfl) sc__law_common.nd rfl rfl (by decide) rfl rfl (pa_cons (pv 1) (pa_cons (pe_op op_mod (pe_callTy call_intS (by rfl) T.z_int (by decide +kernel) (pa_cons (pv 0) pa_nil)) (pv 1)) pa_nil)) (by rfl)))) (pss_one (ps_ret (pv 0)))), ?_⟩)
  · obtain ⟨ds, d, a, ⟨x, y, rfl, _⟩, _⟩ := h
    exact a.len
  · obtain ⟨ds, d, a, ⟨x, y, rfl, rfl⟩, q⟩ := h
    obtain ⟨v, v', rfl, a1, a2⟩ := All.inv2 a
    cases a1
    cases a2
    try dsimp only [cxOf, Cx.nox, Cx.wish]
    refine q_while (fun m σ' H' => ∃ a b : Nat, σ' = [some (.int (a : Int)), some (.int (b : Int))] ∧ Nat.gcd a b = Nat.gcd x y ∧ m = b ∧ Ex H H') y ⟨x, y, rfl, rfl, rfl, Ex.refl H⟩ ?_
    rintro m σ' H' ⟨a, b, rfl, hg, em, ex⟩
    refine ⟨!decide ((b : Int) = 0), et_t (K := K) (ed_neI (ed_var rfl (.int _)) ed_int), fun hb H1 x1 => ?_, fun hb H1 x1 => ?_⟩
    · have hb0 : (b : Int) ≠ 0 := by simpa using hb
      refine ⟨fun σ2 H2 => σ2 = [some (.int (b : Int)), some (.int ((a % b : Nat) : Int))] ∧ Ex H H2, ?_, ?_⟩
      · rintro σ2 H2 ⟨rfl, e2⟩
        refine ⟨a % b, by rw [em]; exact Nat.mod_lt _ (by omega), b, a % b, rfl, ?_, rfl, e2⟩
        rw [← hg, Nat.gcd_comm b (a % b), ← Nat.gcd_rec, Nat.gcd_comm]
      · refine s_parD (K := K) (d1 := .int (b : Int)) (d2 := .int ((a % b : Nat) : Int)) (ed_var rfl (.int _)) ?_ fun u u' H3 x3 i1 i2 => ?_
        · refine EvD.is (d := .int ((a : Int) % (b : Int))) (ed_mod (ed_intI (ed_var rfl (.int _))) (ed_var rfl (.int _)) (by omega)) ?_
          rw [Int.natCast_emod]
        · cases i1
          cases i2
          exact ⟨rfl, (ex.trans x1).trans x3⟩
    · have hb0 : b = 0 := by
        have : (b : Int) = 0 := by simpa using hb
        omega
      subst hb0
      rw [Nat.gcd_zero_right] at hg
      subst hg
      exact s_retD (K := K) (ed_var rfl (.int _)) fun u H2 x2 i2 => q _ _ ((ex.trans x1).trans x2) i2
def R_part (ds : List D) (d : D) : Prop := ∃ (n : Int) (b : Nat), ds = [.int n, .int (b : Int)] ∧ 0 < b ∧ b < 2 ^ 9000 ∧ d = fr (mkRat n b)
theorem abs_if (n : Int) : (if n < 0 then -n else n) = ((n.natAbs : Nat) : Int) := by
  split <;> omega
theorem ok__law_part (T : Txt K mg) : FnG P w K mg base 2 (He.ga K "_law_part") ["top", "below"] (spD K R_part) := by
  refine fnG (N := ["top", "below", "least"]) (st := s__law_part) T.f__law_part sc__law_part (fun vs H Q E h => ?_) (fun _ _ _ _ _ _ us hl => match us, hl with | [_, _], _ => rfl) (fun cdv A outer s H vs Q E hr h => ⟨_, (pss_cons (ps_asg (pe_callG (ok__law_common T) (hr.mono (by decide)) (by rfl) T.m__law_common (pa_cons (pe_callB call_absS (by rfl) T.z_abs (by decide +kernel) (pa_cons (pv 0) pa_nil)) (pa_cons (pv 1) pa_nil))) (pg_name (i := 2) sc__law_part.nd rfl (.inl rfl))) (pss_one (ps_ret (pe_ifExp (pt_cmpR op_ne (pv 2) pe_int (nomark _)) (pe_tup (pa_cons (pe_callTy call_intS (by rfl) T.z_int (by decide +kernel) (pa_cons (pe_op op_fdivW (pv 0) (pv 2)) pa_nil)) (pa_cons (pe_callTy call_intS (by rfl) T.z_int (by decide +kernel) (pa_cons (pe_op op_fdivW (pv 1) (pv 2)) pa_nil)) pa_nil))) (pe_tup (pa_cons pe_int (pa_cons pe_int pa_nil))))))), ?_⟩)
  · obtain ⟨ds, d, a, ⟨n, b, rfl, _⟩, _⟩ := h
    exact a.len
  · obtain ⟨ds, d, a, ⟨n, b, rfl, hb, hs, rfl⟩, q⟩ := h
    obtain ⟨e1, e2⟩ := mkRat_pair (n := n) (d := b) (by omega)
    obtain ⟨v, v', rfl, a1, a2⟩ := All.inv2 a
    try dsimp only [cxOf, Cx.nox, Cx.wish]
    have g0 : 0 < Nat.gcd n.natAbs b := Nat.gcd_pos_of_pos_right _ hb
    refine q_asgD (K := K) (d := .int ((Nat.gcd n.natAbs b : Nat) : Int)) (ed_call (ds := [.int ((n.natAbs : Nat) : Int), .int (b : Int)]) (ea1 ?_ (ea1 (by walk_at "ev") ea0)) ⟨n.natAbs, b, rfl, rfl⟩) fun v1 H1 x1 i1 => ?_
    · refine EvD.is (d := .int (if n < 0 then -n else n)) (by walk_at "ev") ?_
      rw [abs_if]
    have hd : ∀ i : Int, CDivW i ((Nat.gcd n.natAbs b : Nat) : Int) := fun i => divW_gcd hb hs (Nat.gcd_dvd_right _ _)
    refine s_retD (K := K) (d := fr (mkRat n b)) ?_ fun v2 H2 x2 i2 => q _ _ (x1.trans x2) i2
    refine EvD.is (ed_if (b := true) (d1 := fr (mkRat n b)) (d2 := .non) (t := _) ?_ (fun _ => ?_) (fun z => nomatch z)) rfl
    · exact et_is (et_t (K := K) (ed_neI (by walk_at "ev") ed_int)) (by
        have : ¬ ((Nat.gcd n.natAbs b : Nat) : Int) = 0 := by omega
        rw [decide_eq_false this]
        rfl)
    · unfold fr
      rw [← e1, ← e2]
      walk_at "ev"
      all_goals exact hd _
theorem ok__law_plus (T : Txt K mg) : FnG P w K mg base 3 (He.ga K "_law_plus") ["one", "other"] (spD K R_plus) := by
  refine fnG (N := ["one", "other"]) (st := s__law_plus) T.f__law_plus sc__law_plus (fun vs H Q E h => ?_) (fun _ _ _ _ _ _ us hl => match us, hl with | [_, _], _ => rfl) (fun cdv A outer s H vs Q E hr h => ⟨_, (pss_one (ps_ret (pe_callG (ok__law_part T) (hr.mono (by decide)) (by rfl) T.m__law_part (pa_cons (pe_op op_add (pe_op op_mulW (pe_ix ix_tup (pv 0) pe_int (fun _ _ => rfl)) (pe_ix ix_tup (pv 1) pe_int (fun _ _ => rfl))) (pe_op op_mulW (pe_ix ix_tup (pv 1) pe_int (fun _ _ => rfl)) (pe_ix ix_tup (pv 0) pe_int (fun _ _ => rfl)))) (pa_cons (pe_op op_mulW (pe_ix ix_tup (pv 0) pe_int (fun _ _ => rfl)) (pe_ix ix_tup (pv 1) pe_int (fun _ _ => rfl))) pa_nil))))), ?_⟩)
  · obtain ⟨ds, d, a, ⟨p, r, rfl, _⟩, _⟩ := h
    exact a.len
  · obtain ⟨ds, d, a, ⟨p, r, rfl, sp, sr, rfl⟩, q⟩ := h
    obtain ⟨v, v', rfl, a1, a2⟩ := All.inv2 a
    unfold fr at a1 a2
    try dsimp only [cxOf, Cx.nox, Cx.wish]
    refine s_retD (K := K) (d := fr (p + r)) ?_ fun v2 H2 x2 i2 => q _ _ x2 i2
    refine ed_call (ds := [.int (p.num * r.den + r.num * p.den), .int ((p.den * r.den : Nat) : Int)]) (ea1 ?_ (ea1 ?_ ea0)) ⟨_, p.den * r.den, rfl, Nat.mul_pos p.den_pos r.den_pos, ?_, by rw [add_mk]⟩
    · walk_at "ev"
      all_goals first | exact mulW (a := 4000) (b := 4000) sp.num sr.den | exact mulW (a := 4000) (b := 4000) sr.num sp.den
    · rw [Int.natCast_mul]
      walk_at "ev"
      exact mulW (a := 4000) (b := 4000) sp.den sr.den
    · exact Nat.lt_of_lt_of_le (Nat.mul_lt_mul'' sp.den sr.den) (by rw [← Nat.pow_add]; exact Nat.pow_le_pow_right (by decide) (by decide))
theorem ok__law_times (T : Txt K mg) : FnG P w K mg base 3 (He.ga K "_law_times") ["one", "other"] (spD K R_times) := by
  refine fnG (N := ["one", "other"]) (st := s__law_times) T.f__law_times sc__law_times (fun vs H Q E h => ?_) (fun _ _ _ _ _ _ us hl => match us, hl with | [_, _], _ => rfl) (fun cdv A outer s H vs Q E hr h => ⟨_, (pss_one (ps_ret (pe_callG (ok__law_part T) (hr.mono (by decide)) (by rfl) T.m__law_part (pa_cons (pe_op op_mulW (pe_ix ix_tup (pv 0) pe_int (fun _ _ => rfl)) (pe_ix ix_tup (pv 1) pe_int (fun _ _ => rfl))) (pa_cons (pe_op op_mulW (pe_ix ix_tup (pv 0) pe_int (fun _ _ => rfl)) (pe_ix ix_tup (pv 1) pe_int (fun _ _ => rfl))) pa_nil))))), ?_⟩)
  · obtain ⟨ds, d, a, ⟨p, r, rfl, _⟩, _⟩ := h
    exact a.len
  · obtain ⟨ds, d, a, ⟨p, r, rfl, sp, sr, rfl⟩, q⟩ := h
    obtain ⟨v, v', rfl, a1, a2⟩ := All.inv2 a
    unfold fr at a1 a2
    try dsimp only [cxOf, Cx.nox, Cx.wish]
    refine s_retD (K := K) (d := fr (p * r)) ?_ fun v2 H2 x2 i2 => q _ _ x2 i2
    refine ed_call (ds := [.int (p.num * r.num), .int ((p.den * r.den : Nat) : Int)]) (ea1 ?_ (ea1 ?_ ea0)) ⟨_, p.den * r.den, rfl, Nat.mul_pos p.den_pos r.den_pos, ?_, by rw [mul_mk]⟩
    · walk_at "ev"
      exact mulW (a := 4000) (b := 4000) sp.num sr.num
    · rw [Int.natCast_mul]
      walk_at "ev"
      exact mulW (a := 4000) (b := 4000) sp.den sr.den
    · exact Nat.lt_of_lt_of_le (Nat.mul_lt_mul'' sp.den sr.den) (by rw [← Nat.pow_add]; exact Nat.pow_le_pow_right (by decide) (by decide))
theorem ok__law_less (T : Txt K mg) : FnG P w K mg base 1 (He.ga K "_law_less") ["one", "other"] (spD K R_is_less) := by
  refine fnG (N := ["one", "other"]) (st := s__law_less) T.f__law_less sc__law_less (fun vs H Q E h => ?_) (fun _ _ _ _ _ _ us hl => match us, hl with | [_, _], _ => rfl) (fun cdv A outer s H vs Q E hr h => ⟨_, (pss_one (ps_ret (pe_cmpR op_lt (pe_op op_mulW (pe_ix ix_tup (pv 0) pe_int (fun _ _ => rfl)) (pe_ix ix_tup (pv 1) pe_int (fun _ _ => rfl))) (pe_op op_mulW (pe_ix ix_tup (pv 1) pe_int (fun _ _ => rfl)) (pe_ix ix_tup (pv 0) pe_int (fun _ _ => rfl))) (nomark _)))), ?_⟩)
  · obtain ⟨ds, d, a, ⟨p, r, rfl, _⟩, _⟩ := h
    exact a.len
  · obtain ⟨ds, d, a, ⟨p, r, rfl, sp, sr, rfl⟩, q⟩ := h
    obtain ⟨v, v', rfl, a1, a2⟩ := All.inv2 a
    unfold fr at a1 a2
    try dsimp only [cxOf, Cx.nox, Cx.wish]
    refine' s_retD (K := K) ?e1 ?k1; (case e1 => (walk_at "ev"; all_goals (first | exact mulW (a := 4000) (b := 4000) sp.num sr.den | exact mulW (a := 4000) (b := 4000) sr.num sp.den))); intro v4 H4 x4 i4
    refine q _ _ x4 ?_
    rw [show decide (p < r) = decide (p.num * (r.den : Int) < r.num * (p.den : Int)) from decide_eq_decide.mpr (Rat.lt_iff p r)]
    exact i4

end
end My
end
section
set_option Elab.async false
set_option linter.all false
set_option maxRecDepth 100000
set_option maxHeartbeats 4000000
namespace My
open PySem PySem.Spec PyProof.Rows L2 Evl WD
local macro_rules | `(tactic| walk_at "exgo") => `(tactic| first | exact Ex.refl _ | assumption | (refine' Ex.trans ?ea ?eb; (case eb => assumption); (case ea => walk_at "exgo")))
local macro_rules | `(tactic| walk_at "is") => `(tactic| first | assumption | (refine' Is.ex ?e ?h; (case h => assumption); (case e => walk_at "exgo")) | exact Is.int _ | exact Is.bl _ | exact Is.non)
local macro_rules | `(tactic| walk_at "ev") => `(tactic| first
  | exact ed_int | exact ed_bl | exact ed_non | exact ed_str
  | ((with_reducible apply ed_var) <;> first | exact rfl | walk_at "is")
  | ((with_reducible apply ed_add) <;> walk_at "ev")
  | ((with_reducible apply ed_sub) <;> walk_at "ev")
  | ((with_reducible apply ed_neg) <;> walk_at "ev")
  | ((with_reducible apply ed_mulW) <;> try walk_at "ev")
  | ((with_reducible apply ed_divW) <;> try walk_at "ev")
  | ((with_reducible apply ed_mod) <;> try walk_at "ev")
  | ((with_reducible apply ed_ixT) <;> first | exact rfl | walk_at "ev" | skip)
  | ((with_reducible apply ed_ixL) <;> first | exact rfl | walk_at "ev" | skip)
  | ((with_reducible apply ed_lt) <;> walk_at "ev")
  | ((with_reducible apply ed_le) <;> walk_at "ev")
  | ((with_reducible apply ed_gt) <;> walk_at "ev")
  | ((with_reducible apply ed_ge) <;> walk_at "ev")
  | ((with_reducible apply ed_eqI) <;> walk_at "ev")
  | ((with_reducible apply ed_neI) <;> walk_at "ev")
  | ((with_reducible apply ed_gcd) <;> walk_at "ev")
  | ((with_reducible apply ed_abs) <;> walk_at "ev")
  | ((with_reducible apply ed_intI) <;> walk_at "ev")
  | ((with_reducible apply ed_intB) <;> walk_at "ev")
  | ((with_reducible apply ed_max2) <;> walk_at "ev")
  | ((with_reducible apply ed_min2) <;> walk_at "ev")
  | ((with_reducible apply ed_lenT) <;> walk_at "ev")
  | ((with_reducible apply ed_lenL) <;> walk_at "ev")
  | ((with_reducible apply ed_tuple) <;> walk_at "ev")
  | ((with_reducible apply ed_tupleT) <;> walk_at "ev")
  | ((with_reducible apply ed_tup) <;> first | walk_at "ea" | (simp; done) | skip)
  | ((with_reducible apply et_t) <;> walk_at "ev")
  | ((with_reducible apply et_v) <;> walk_at "ev"))
local macro_rules | `(tactic| walk_at "ea") => `(tactic| first
  | exact ea0
  | ((with_reducible apply ea1) <;> first | walk_at "ev" | walk_at "ea" | skip))

section
variable {P : Program} {w : World} {K : PySem.W.Frag} {mg : Str → Option Value} {base : Heap}
/-- a volume as it is told -/
inductive Tv where
  | i (n : Int) | p (n : Int) (b : Nat)
def Tv.d : Tv → D
  | .i n => .int n
  | .p n b => .tup [.int n, .int (b : Int)]
def Tv.q : Tv → Rat
  | .i n => (n : Rat)
  | .p n b => mkRat n b
def Tv.ok : Tv → Prop
  | .i n => 0 ≤ n ∧ n.natAbs < 2 ^ 3999
  | .p n b => 0 ≤ n ∧ n.natAbs < 2 ^ 3999 ∧ 0 < b ∧ b < 2 ^ 3999
theorem pow_lt {n m : Nat} (h : n ≤ m) {x : Nat} (hx : x < 2 ^ n) : x < 2 ^ m := Nat.lt_of_lt_of_le hx (Nat.pow_le_pow_right (by decide) h)
theorem mk_nonneg {n : Int} {b : Nat} (hn : 0 ≤ n) : 0 ≤ mkRat n b := by
  rw [← Rat.num_nonneg, Rat.num_mkRat]
  split
  · exact Int.le_refl 0
  · exact Int.ediv_nonneg hn (by omega)
theorem mk_sm {n : Int} {b : Nat} (hn : n.natAbs < 2 ^ 3999) (hb : b < 2 ^ 3999) : Sm 4000 (mkRat n b) := by
  refine ⟨?_, ?_⟩
  · rw [Rat.num_mkRat]
    split
    · show 0 < 2 ^ 4000
      exact Nat.pow_pos (by decide)
    · exact lt_pow_succ hn
  · rw [Rat.den_mkRat]
    split
    · exact Nat.one_lt_two_pow (by decide)
    · exact Nat.lt_of_le_of_lt (Nat.div_le_self _ _) (pow_lt (by decide) hb)
theorem Tv.sm : ∀ {t : Tv}, t.ok → Sm 4000 t.q
  | .i n, h => ⟨by
      show n.natAbs < 2 ^ 4000
      exact pow_lt (by decide) h.2, by
      show 1 < 2 ^ 4000
      exact Nat.one_lt_two_pow (by decide)⟩
  | .p n b, h => mk_sm h.2.1 h.2.2.2
theorem Tv.nn : ∀ {t : Tv}, t.ok → 0 ≤ t.q
  | .i n, h => by
    show (0 : Rat) ≤ (n : Rat)
    exact Rat.intCast_nonneg.mpr h.1
  | .p n b, h => mk_nonneg h.1
theorem Tv.lf : ∀ t : Tv, t.d.lf = true
  | .i _ => rfl
  | .p _ _ => rfl
theorem Tv.isfr : ∀ {t : Tv}, t.ok → R_is_fraction [t.d] (.bl true)
  | .i n, _ => ⟨rfl, .inl ⟨n, rfl⟩⟩
  | .p n b, h => ⟨rfl, .inr ⟨n, b, rfl, by have := h.2.2.1; omega⟩⟩
theorem Tv.isex : ∀ {t : Tv}, t.ok → R_exact [t.d] (fr t.q)
  | .i n, _ => .inl ⟨n, rfl, rfl⟩
  | .p n b, h => .inr ⟨n, b, rfl, h.2.2.1, pow_lt (by decide) h.2.2.2, rfl⟩
def R_is_amount (ds : List D) (d : D) : Prop := ∃ t : Tv, t.ok ∧ ds = [t.d] ∧ d = .bl true
theorem ok_is_amount (T : Txt K mg) : FnG P w K mg base 3 (He.ga K "is_amount") ["thing"] (spD K R_is_amount) := by
  refine fnG (N := ["thing"]) (st := s_is_amount) T.f_is_amount sc_is_amount (fun vs H Q E h => ?_) (fun _ _ _ _ _ _ us hl => match us, hl with | [_], _ => rfl) (fun cdv A outer s H vs Q E hr h => ⟨_, (pss_one (ps_ret (pe_and (pe_callG (ok_is_fraction T) (hr.mono (by decide)) (by rfl) T.m_is_fraction (pa_cons (pv 0) pa_nil)) (pe_one (pe_cmpR op_ge (pe_ifExp (pt_val (pe_callB call_isi (by rfl) T.z_isinstance (by decide +kernel) (pa_cons (pv 0) (pa_cons (pe_tyN (n := "tuple") (by rfl) T.z_tuple (by decide +kernel)) pa_nil)))) (pe_ix ix_tup (pv 0) pe_int (fun _ _ => rfl)) (pv 0)) pe_int (nomark _)))))), ?_⟩)
  · obtain ⟨ds, d, a, ⟨t, _, rfl, _⟩, _⟩ := h
    exact a.len
  · obtain ⟨ds, d, a, ⟨t, ok, rfl, rfl⟩, q⟩ := h
    obtain ⟨v, rfl, a1⟩ := All.inv1 a
    refine s_retD (d := .bl true) ?_ fun v2 H2 x2 i2 => q _ _ x2 i2
    refine ed_andV (a := true) (b := true) (ed_call (ea1 (ed_var rfl a1) ea0) (Tv.isfr ok)) fun _ => ?_
    cases t with
    | i n => exact EvD.is (ed_ge (i := n) (j := 0) (ed_if (d1 := .non) (d2 := .int n) (b := false) (et_v (K := K) (ed_isi (n := "tuple") (ed_var rfl a1) rfl (by decide +kernel))) (fun z => nomatch z) fun _ => ed_var rfl a1) ed_int) (congrArg D.bl (decide_eq_true ok.1))
    | p n b => exact EvD.is (ed_ge (i := n) (j := 0) (ed_if (d1 := .int n) (d2 := .non) (b := true) (et_v (K := K) (ed_isi (n := "tuple") (ed_var rfl a1) rfl (by decide +kernel))) (fun _ => ed_ixT (ed_var rfl a1) ed_int rfl) fun z => nomatch z) ed_int) (congrArg D.bl (decide_eq_true ok.1))
def R_check_areas (ds : List D) (d : D) : Prop := ∃ A : List Int, ds = [.tup (iL A)] ∧ 1 ≤ A.length ∧ A.length ≤ 24 ∧ (∀ a ∈ A, 1 ≤ a ∧ a ≤ 1000) ∧ d = .non
theorem ok_check_areas (T : Txt K mg) : FnG P w K mg base 2 (He.ga K "check_areas") ["areas"] (spD K R_check_areas) := by
  refine fnG (N := ["areas", "area"]) (st := s_check_areas) T.f_check_areas sc_check_areas (fun vs H Q E h => ?_) (fun _ _ _ _ _ _ us hl => match us, hl with | [_], _ => rfl) (fun cdv A outer s H vs Q E hr h => ⟨_, (pss_cons (ps_if (PW.pt (pw_or (pt_not (pt_val (pe_callB call_isi (by rfl) T.z_isinstance (by decide +kernel) (pa_cons (pv 0) (pa_cons (pe_tyN (n := "tuple") (by rfl) T.z_tuple (by decide +kernel)) pa_nil))))) (pw_or1 (pt_not (pt_chain op_le op_le pe_int (pe_callB call_lenS (by rfl) T.z_len PySem.boot_len (pa_cons (pv 0) pa_nil)) (pe_globI (by rfl) T.i_MOST_BASINS)))))) (pss_one ps_never) pss_nil) (pss_one (ps_for PassesOwn.never rfl (pi_tup (pv 0)) (pg_name (i := 1) sc_check_areas.nd rfl (.inl rfl)) (pss_one (ps_if (PW.pt (pw_or (pt_not (pt_val (pe_callG (ok_is_integer T) (hr.mono (by decide)) (by rfl) T.m_is_integer (pa_cons (pv 1) pa_nil)))) (pw_or1 (pt_not (pt_chain op_le op_le pe_int (pv 1) (pe_globI (by rfl) T.i_MOST_AREA)))))) (pss_one ps_never) pss_nil))))), ?_⟩)
  · obtain ⟨ds, d, a, ⟨A, rfl, _⟩, _⟩ := h
    exact a.len
  · obtain ⟨ds, d, a, ⟨A, rfl, h1, h2, h3, rfl⟩, q⟩ := h
    obtain ⟨v, rfl, a1⟩ := All.inv1 a
    try dsimp only [cxOf, Cx.nox, Cx.wish]
    refine q_when (b := false || !(decide ((1 : Int) ≤ A.length) && decide ((A.length : Int) ≤ 24))) (et_or (et_not (a := true) (et_v (K := K) (ed_isi (n := "tuple") (ed_var rfl a1) rfl (by decide +kernel)))) fun _ => et_not (et_t (K := K) (ed_chain ed_int (d2 := .int (A.length : Int)) ?_ rd_le (fun _ => ed_int) (fun _ => rd_le)))) (fun z => ?_) (fun _ H1 x1 => ?_)
    · exact EvD.is (ed_lenT (K := K) (ed_var rfl a1)) (by rw [iLlen])
    · exfalso
      rw [decide_eq_true (show (1 : Int) ≤ A.length by omega), decide_eq_true (show (A.length : Int) ≤ 24 by omega)] at z
      cases z
    · have hI : EvI K (iTup K (tVar 0)) (start ["areas", "area"] [v]) [] H1 (iL A).length (fun i => (iL A).getD i .non) := ei_tup (ed_var rfl (a1.ex x1)) (iLlf A)
      refine s_look (W := fun σ => ∃ y, σ = [some v, y]) hI ⟨none, rfl⟩ ?_ (fun σ' H' _ e => q _ _ (x1.trans e) .non)
      rintro i x σ' H' H'' hi ⟨y, rfl⟩ e1 e2 ax Nx hN
      rw [iLlen] at hi
      rw [show (iL A).getD i .non = D.int A[i] from getD_map _ _ _ hi] at ax
      obtain ⟨b1, b2⟩ := h3 A[i] (List.getElem_mem hi)
      refine g_name (s_when (b := false || !(decide ((1 : Int) ≤ A[i]) && decide (A[i] ≤ 1000))) (et_or (et_not (a := true) (et_v (K := K) (ed_call (ea1 (ed_var rfl ax) ea0) ⟨_, "int", rfl, rfl, rfl⟩))) fun _ => et_not (et_t (K := K) (ed_chain ed_int (ed_var rfl ax) rd_le (fun _ => ed_int) (fun _ => rd_le)))) (fun z => ?_) (fun _ H3 x3 => hN _ _ ⟨_, rfl⟩ x3))
      exfalso
      rw [decide_eq_true b1, decide_eq_true b2] at z
      cases z
def R_check_volumes (ds : List D) (d : D) : Prop := ∃ ts : List Tv, ds = [.tup (ts.map Tv.d), .int (ts.length : Int)] ∧ (∀ t ∈ ts, t.ok) ∧ d = .non
theorem ok_check_volumes (T : Txt K mg) : FnG P w K mg base 4 (He.ga K "check_volumes") ["volumes", "many"] (spD K R_check_volumes) := by
  refine fnG (N := ["volumes", "many", "volume"]) (st := s_check_volumes) T.f_check_volumes sc_check_volumes (fun vs H Q E h => ?_) (fun _ _ _ _ _ _ us hl => match us, hl with | [_, _], _ => rfl) (fun cdv A outer s H vs Q E hr h => ⟨_, (pss_cons (ps_if (PW.pt (pw_or (pt_not (pt_val (pe_callB call_isi (by rfl) T.z_isinstance (by decide +kernel) (pa_cons (pv 0) (pa_cons (pe_tyN (n := "tuple") (by rfl) T.z_tuple (by decide +kernel)) pa_nil))))) (pw_or1 (pt_cmpR op_ne (pe_callB call_lenS (by rfl) T.z_len PySem.boot_len (pa_cons (pv 0) pa_nil)) (pv 1) (nomark _))))) (pss_one ps_never) pss_nil) (pss_one (ps_for PassesOwn.never rfl (pi_tup (pv 0)) (pg_name (i := 2) sc_check_volumes.nd rfl (.inl rfl)) (pss_one (ps_if (pt_not (pt_val (pe_callG (ok_is_amount T) (hr.mono (by decide)) (by rfl) T.m_is_amount (pa_cons (pv 2) pa_nil)))) (pss_one ps_never) pss_nil))))), ?_⟩)
  · obtain ⟨ds, d, a, ⟨A, rfl, _⟩, _⟩ := h
    exact a.len
  · obtain ⟨ds, d, a, ⟨ts, rfl, h3, rfl⟩, q⟩ := h
    obtain ⟨v, v', rfl, a1, a2⟩ := All.inv2 a
    try dsimp only [cxOf, Cx.nox, Cx.wish]
    refine q_when (b := false || !decide ((ts.length : Int) = ts.length)) (et_or (et_not (a := true) (et_v (K := K) (ed_isi (n := "tuple") (ed_var rfl a1) rfl (by decide +kernel)))) fun _ => et_t (K := K) (ed_neI (K := K) (i := (ts.length : Int)) ?_ (ed_var rfl a2))) (fun z => ?_) (fun _ H1 x1 => ?_)
    · exact EvD.is (ed_lenT (K := K) (ed_var rfl a1)) (by rw [List.length_map])
    · exfalso
      rw [decide_eq_true rfl] at z
      cases z
    · have hI : EvI K (iTup K (tVar 0)) (start ["volumes", "many", "volume"] [v, v']) [] H1 (ts.map Tv.d).length (fun i => (ts.map Tv.d).getD i .non) := ei_tup (ed_var rfl (a1.ex x1)) (lfs_map _ Tv.lf ts)
      refine s_look (W := fun σ => ∃ y, σ = [some v, some v', y]) hI ⟨none, rfl⟩ ?_ (fun σ' H' _ e => q _ _ (x1.trans e) .non)
      rintro i x σ' H' H'' hi ⟨y, rfl⟩ e1 e2 ax Nx hN
      rw [List.length_map] at hi
      rw [getD_map _ _ _ hi] at ax
      have hok := h3 ts[i] (List.getElem_mem hi)
      exact g_name (s_when (b := false) (et_not (a := true) (et_v (K := K) (ed_call (ea1 (ed_var rfl ax) ea0) ⟨_, hok, rfl, rfl⟩))) (fun z => nomatch z) (fun _ H3 x3 => hN _ _ ⟨_, rfl⟩ x3))

end
end My
end
section
set_option Elab.async false
set_option linter.all false
set_option maxRecDepth 100000
set_option maxHeartbeats 4000000
namespace My
open PySem PySem.Spec PyProof.Rows L2 Evl WD
local macro_rules | `(tactic| walk_at "exgo") => `(tactic| first | exact Ex.refl _ | assumption | (refine' Ex.trans ?ea ?eb; (case eb => assumption); (case ea => walk_at "exgo")))
local macro_rules | `(tactic| walk_at "is") => `(tactic| first | assumption | (refine' Is.ex ?e ?h; (case h => assumption); (case e => walk_at "exgo")) | exact Is.int _ | exact Is.bl _ | exact Is.non)
local macro_rules | `(tactic| walk_at "ev") => `(tactic| first
  | exact ed_int | exact ed_bl | exact ed_non | exact ed_str
  | ((with_reducible apply ed_var) <;> first | exact rfl | walk_at "is")
  | ((with_reducible apply ed_add) <;> walk_at "ev")
  | ((with_reducible apply ed_sub) <;> walk_at "ev")
  | ((with_reducible apply ed_neg) <;> walk_at "ev")
  | ((with_reducible apply ed_mulW) <;> try walk_at "ev")
  | ((with_reducible apply ed_divW) <;> try walk_at "ev")
  | ((with_reducible apply ed_mod) <;> try walk_at "ev")
  | ((with_reducible apply ed_ixT) <;> first | exact rfl | walk_at "ev" | skip)
  | ((with_reducible apply ed_ixL) <;> first | exact rfl | walk_at "ev" | skip)
  | ((with_reducible apply ed_lt) <;> walk_at "ev")
  | ((with_reducible apply ed_le) <;> walk_at "ev")
  | ((with_reducible apply ed_gt) <;> walk_at "ev")
  | ((with_reducible apply ed_ge) <;> walk_at "ev")
  | ((with_reducible apply ed_eqI) <;> walk_at "ev")
  | ((with_reducible apply ed_neI) <;> walk_at "ev")
  | ((with_reducible apply ed_gcd) <;> walk_at "ev")
  | ((with_reducible apply ed_abs) <;> walk_at "ev")
  | ((with_reducible apply ed_intI) <;> walk_at "ev")
  | ((with_reducible apply ed_intB) <;> walk_at "ev")
  | ((with_reducible apply ed_max2) <;> walk_at "ev")
  | ((with_reducible apply ed_min2) <;> walk_at "ev")
  | ((with_reducible apply ed_lenT) <;> walk_at "ev")
  | ((with_reducible apply ed_lenL) <;> walk_at "ev")
  | ((with_reducible apply ed_tuple) <;> walk_at "ev")
  | ((with_reducible apply ed_tupleT) <;> walk_at "ev")
  | ((with_reducible apply ed_tup) <;> first | walk_at "ea" | (simp; done) | skip)
  | ((with_reducible apply et_t) <;> walk_at "ev")
  | ((with_reducible apply et_v) <;> walk_at "ev"))
local macro_rules | `(tactic| walk_at "ea") => `(tactic| first
  | exact ea0
  | ((with_reducible apply ea1) <;> first | walk_at "ev" | walk_at "ea" | skip))

section
variable {P : Program} {w : World} {K : PySem.W.Frag} {mg : Str → Option Value} {base : Heap}
theorem inV_int {i : Int} : ∀ L : List Int, inV (.int i) (L.map V.int) = decide (i ∈ L)
  | [] => rfl
  | y :: ys => by
    show ((y == i) || inV (.int i) (ys.map V.int)) = _
    rw [inV_int ys, show (y == i) = decide (i = y) from by
      rw [Bool.eq_iff_iff, beq_iff_eq, decide_eq_true_iff]
      exact ⟨Eq.symm, Eq.symm⟩, ← Bool.decide_or]
    exact decide_eq_decide.mpr List.mem_cons.symm
theorem ed_ninT {σ : L2.St} {H : Hp} {ta tb : TE} {i : Int} {L : List Int} (ha : EvD K ta σ H (.int i)) (hb : EvD K tb σ H (.tup (iL L))) : EvD K (tOp (rIn K true) ta tb) σ H (.bl (!decide (i ∈ L))) := ed_op ha hb fun v1 v2 H1 _ a1 a2 Q q => by
  cases a1
  cases a2 with
  | tup h a =>
    rw [allIL a] at h
    refine ⟨_, _, rfl, .inr h, rfl, ?_, ?_⟩
    · rw [List.all_map]
      exact List.all_eq_true.mpr fun _ _ => rfl
    · show Q (.bl (!inV (.int i) (L.map V.int))) H1
      rw [inV_int]
      exact q _ H1 (Ex.refl H1) (.bl _)
theorem ed_ninL {σ : L2.St} {H : Hp} {ta tb : TE} {i : Int} {L : List Int} (ha : EvD K ta σ H (.int i)) (hb : EvD K tb σ H (.lst (iL L))) : EvD K (tOp (rIn K true) ta tb) σ H (.bl (!decide (i ∈ L))) := ed_op ha hb fun v1 v2 H1 _ a1 a2 Q q => by
  cases a1
  cases a2 with
  | lst h a =>
    rw [allIL a] at h
    refine ⟨_, _, rfl, .inl (.inl h), rfl, ?_, ?_⟩
    · rw [List.all_map]
      exact List.all_eq_true.mpr fun _ _ => rfl
    · show Q (.bl (!inV (.int i) (L.map V.int))) H1
      rw [inV_int]
      exact q _ H1 (Ex.refl H1) (.bl _)
theorem ed_inL {σ : L2.St} {H : Hp} {ta tb : TE} {i : Int} {L : List Int} (ha : EvD K ta σ H (.int i)) (hb : EvD K tb σ H (.lst (iL L))) : EvD K (tOp (rIn K false) ta tb) σ H (.bl (decide (i ∈ L))) := ed_op ha hb fun v1 v2 H1 _ a1 a2 Q q => by
  cases a1
  cases a2 with
  | lst h a =>
    rw [allIL a] at h
    refine ⟨_, _, rfl, .inl (.inl h), rfl, ?_, ?_⟩
    · rw [List.all_map]
      exact List.all_eq_true.mpr fun _ _ => rfl
    · show Q (.bl (inV (.int i) (L.map V.int))) H1
      rw [inV_int]
      exact q _ H1 (Ex.refl H1) (.bl _)
def R_check_locks (mk : List D → D) (ds : List D) (d : D) : Prop := ∃ (L : List Int) (n : Int), ds = [mk (iL L), .int n] ∧ (∀ l ∈ L, 0 < l ∧ l < n) ∧ d = .non
theorem ok_check_locks_L (T : Txt K mg) : FnG P w K mg base 2 (He.ga K "check_locks") ["locks", "many"] (spD K (R_check_locks .lst)) := by
  refine fnG (N := ["locks", "many", "lock"]) (st := s_check_locks) T.f_check_locks sc_check_locks (fun vs H Q E h => ?_) (fun _ _ _ _ _ _ us hl => match us, hl with | [_, _], _ => rfl) (fun cdv A outer s H vs Q E hr h => ⟨_, (pss_cons (ps_if (pt_not (pt_val (pe_callB call_isiT (by rfl) T.z_isinstance (by decide +kernel) (pa_cons (pv 0) (pa_cons (pe_tup (pa_cons (pe_tyN (n := "list") (by rfl) T.z_list (by decide +kernel)) (pa_cons (pe_tyN (n := "tuple") (by rfl) T.z_tuple (by decide +kernel)) pa_nil))) pa_nil))))) (pss_one ps_never) pss_nil) (pss_one (ps_for PassesOwn.never rfl (pi_list (pv 0)) (pg_name (i := 2) sc_check_locks.nd rfl (.inl rfl)) (pss_cons (ps_if (pt_not (pt_val (pe_callG (ok_is_integer T) (hr.mono (by decide)) (by rfl) T.m_is_integer (pa_cons (pv 2) pa_nil)))) (pss_one ps_never) pss_nil) (pss_one (ps_if (pt_not (pt_chain op_lt op_lt pe_int (pv 2) (pv 1))) (pss_one ps_never) pss_nil)))))), ?_⟩)
  · obtain ⟨ds, d, a, ⟨A, n, rfl, _⟩, _⟩ := h
    exact a.len
  · obtain ⟨ds, d, a, ⟨L, n, rfl, h3, rfl⟩, q⟩ := h
    obtain ⟨v, v', rfl, a1, a2⟩ := All.inv2 a
    try dsimp only [cxOf, Cx.nox, Cx.wish]
    refine q_when (b := false) (et_not (a := true || false) (et_v (K := K) (ed_isiT (n1 := "list") (n2 := "tuple") (ed_var rfl a1) rfl (by decide +kernel) (by decide +kernel)))) (fun z => nomatch z) (fun _ H1 x1 => ?_)
    have hI : EvI K (iList K (tVar 0)) (start ["locks", "many", "lock"] [v, v']) [] H1 (iL L).length (fun i => (iL L).getD i .non) := ei_list (es_var rfl (a1.ex x1) (Ex.refl _) (fun _ z => nomatch z)) (iLlf L)
    refine s_look (W := fun σ => ∃ y, σ = [some v, some v', y]) hI ⟨none, rfl⟩ ?_ (fun σ' H' _ e => q _ _ (x1.trans e) .non)
    rintro i x σ' H' H'' hi ⟨y, rfl⟩ e1 e2 ax Nx hN
    rw [iLlen] at hi
    rw [show (iL L).getD i .non = D.int L[i] from getD_map _ _ _ hi] at ax
    obtain ⟨b1, b2⟩ := h3 L[i] (List.getElem_mem hi)
    refine g_name (q_when (b := false) (et_not (a := true) (et_v (K := K) (ed_call (ea1 (ed_var rfl ax) ea0) ⟨_, "int", rfl, rfl, rfl⟩))) (fun z => nomatch z) (fun _ H3 x3 => ?_))
    refine s_when (b := !(decide (0 < L[i]) && decide (L[i] < n))) (et_not (et_t (K := K) (ed_chain ed_int (ed_var rfl (ax.ex x3)) rd_lt (fun _ => ed_var rfl (a2.ex (((x1.trans e1).trans e2).trans x3))) (fun _ => rd_lt)))) (fun z => ?_) (fun _ H4 x4 => hN _ _ ⟨_, rfl⟩ (x3.trans x4))
    exfalso
    rw [decide_eq_true b1, decide_eq_true b2] at z
    cases z
theorem ok_check_locks_T (T : Txt K mg) : FnG P w K mg base 2 (He.ga K "check_locks") ["locks", "many"] (spD K (R_check_locks .tup)) := by
  refine fnG (N := ["locks", "many", "lock"]) (st := s_check_locks) T.f_check_locks sc_check_locks (fun vs H Q E h => ?_) (fun _ _ _ _ _ _ us hl => match us, hl with | [_, _], _ => rfl) (fun cdv A outer s H vs Q E hr h => ⟨_, (pss_cons (ps_if (pt_not (pt_val (pe_callB call_isiT (by rfl) T.z_isinstance (by decide +kernel) (pa_cons (pv 0) (pa_cons (pe_tup (pa_cons (pe_tyN (n := "list") (by rfl) T.z_list (by decide +kernel)) (pa_cons (pe_tyN (n := "tuple") (by rfl) T.z_tuple (by decide +kernel)) pa_nil))) pa_nil))))) (pss_one ps_never) pss_nil) (pss_one (ps_for PassesOwn.never rfl (pi_tup (pv 0)) (pg_name (i := 2) sc_check_locks.nd rfl (.inl rfl)) (pss_cons (ps_if (pt_not (pt_val (pe_callG (ok_is_integer T) (hr.mono (by decide)) (by rfl) T.m_is_integer (pa_cons (pv 2) pa_nil)))) (pss_one ps_never) pss_nil) (pss_one (ps_if (pt_not (pt_chain op_lt op_lt pe_int (pv 2) (pv 1))) (pss_one ps_never) pss_nil)))))), ?_⟩)
  · obtain ⟨ds, d, a, ⟨A, n, rfl, _⟩, _⟩ := h
    exact a.len
  · obtain ⟨ds, d, a, ⟨L, n, rfl, h3, rfl⟩, q⟩ := h
    obtain ⟨v, v', rfl, a1, a2⟩ := All.inv2 a
    try dsimp only [cxOf, Cx.nox, Cx.wish]
    refine q_when (b := false) (et_not (a := false || true) (et_v (K := K) (ed_isiT (n1 := "list") (n2 := "tuple") (ed_var rfl a1) rfl (by decide +kernel) (by decide +kernel)))) (fun z => nomatch z) (fun _ H1 x1 => ?_)
    have hI : EvI K (iTup K (tVar 0)) (start ["locks", "many", "lock"] [v, v']) [] H1 (iL L).length (fun i => (iL L).getD i .non) := ei_tup (ed_var rfl (a1.ex x1)) (iLlf L)
    refine s_look (W := fun σ => ∃ y, σ = [some v, some v', y]) hI ⟨none, rfl⟩ ?_ (fun σ' H' _ e => q _ _ (x1.trans e) .non)
    rintro i x σ' H' H'' hi ⟨y, rfl⟩ e1 e2 ax Nx hN
    rw [iLlen] at hi
    rw [show (iL L).getD i .non = D.int L[i] from getD_map _ _ _ hi] at ax
    obtain ⟨b1, b2⟩ := h3 L[i] (List.getElem_mem hi)
    refine g_name (q_when (b := false) (et_not (a := true) (et_v (K := K) (ed_call (ea1 (ed_var rfl ax) ea0) ⟨_, "int", rfl, rfl, rfl⟩))) (fun z => nomatch z) (fun _ H3 x3 => ?_))
    refine s_when (b := !(decide (0 < L[i]) && decide (L[i] < n))) (et_not (et_t (K := K) (ed_chain ed_int (ed_var rfl (ax.ex x3)) rd_lt (fun _ => ed_var rfl (a2.ex (((x1.trans e1).trans e2).trans x3))) (fun _ => rd_lt)))) (fun z => ?_) (fun _ H4 x4 => hN _ _ ⟨_, rfl⟩ (x3.trans x4))
    exfalso
    rw [decide_eq_true b1, decide_eq_true b2] at z
    cases z
theorem own_Row (T : Txt K mg) : OwnTy K "Row" := ⟨T.c_Row, T.cl_Row, T.sp, T.tk, T.ob_Row⟩
def R_check_row (ds : List D) (d : D) : Prop := ∃ fs, ds = [.obj "Row" fs] ∧ d = .non
theorem ok_check_row (T : Txt K mg) : FnG P w K mg base 1 (He.ga K "check_row") ["row"] (spD K R_check_row) := by
  refine fnG (N := ["row"]) (st := s_check_row) T.f_check_row sc_check_row (fun vs H Q E h => ?_) (fun _ _ _ _ _ _ us hl => match us, hl with | [_], _ => rfl) (fun cdv A outer s H vs Q E hr h => ⟨_, (pss_one (ps_if (pt_not (pt_val (pe_callB call_isi (by rfl) T.z_isinstance (by decide +kernel) (pa_cons (pv 0) (pa_cons (pe_clsN (by rfl) T.m_Row) pa_nil))))) (pss_one ps_never) pss_nil)), ?_⟩)
  · obtain ⟨ds, d, a, ⟨fs, rfl, _⟩, _⟩ := h
    exact a.len
  · obtain ⟨ds, d, a, ⟨fs, rfl, rfl⟩, q⟩ := h
    obtain ⟨v, rfl, a1⟩ := All.inv1 a
    try dsimp only [cxOf, Cx.nox, Cx.wish]
    exact s_when (b := false) (et_not (a := true) (et_v (K := K) (ed_isiO (ed_var rfl a1) (own_Row T) T.ki_Row))) (fun z => nomatch z) (fun _ H1 x1 => q _ _ x1 .non)
def R_Row (mk : List D → D) (ds : List D) (fs : List (Str × D)) : Prop := ∃ (A L : List Int) (ts : List Tv), ds = [.tup (iL A), .tup (ts.map Tv.d), mk (iL L)] ∧ 1 ≤ A.length ∧ A.length ≤ 24 ∧ (∀ a ∈ A, 1 ≤ a ∧ a ≤ 1000) ∧
  ts.length = A.length ∧ (∀ t ∈ ts, t.ok) ∧ (∀ l ∈ L, 0 < l ∧ l < (A.length : Int)) ∧ L.length < 64 ∧ fs = rowF A (ts.map Tv.q) (asc L)
theorem ok_Row_init (T : Txt K mg) (mk : List D → D) (hm : ∀ (σ : L2.St) (H : Hp) (te : TE) (L : List Int), EvD K te σ H (mk (iL L)) → EvD K te σ H (.lst (iL L)) ∨ EvD K te σ H (.tup (iL L))) {x : Addr} {dx : Addr} {v1 v2 v3 : V} {H0 H : Hp} {A L : List Int} {ts : List Tv} {Q : VK}
    {tcl : TE}
    (hx : H x = some (.ins (He.ga K "Row") dx [])) (h0 : H0 x = none) (ex : Ex H0 H) (a1 : Is K H0 v1 (.tup (iL A))) (a2 : Is K H0 v2 (.tup (ts.map Tv.d))) (a3 : Is K H0 v3 (mk (iL L)))
    (hA1 : 1 ≤ A.length) (hA2 : A.length ≤ 24) (hA : ∀ a ∈ A, 1 ≤ a ∧ a ≤ 1000) (hl : ts.length = A.length) (hok : ∀ t ∈ ts, t.ok) (hL : ∀ l ∈ L, 0 < l ∧ l < (A.length : Int)) (hL6 : L.length < 64)
    (hcl : ∀ H1, Ex H H1 → EvD K tcl [some (.ref x), some v1, some v2, some v3, none] H1 .non)
    (q : ∀ H' fvs, (∀ a o, a ≠ x → H a = some o → H' a = some o) → H' x = some (.ins (He.ga K "Row") dx fvs) → AllF K H' fvs (rowF A (ts.map Tv.q) (asc L)) → Q .non H')
    {tA tV : TE} (hcA : ∀ H1, Ex H H1 → EvD K tA [some (.ref x), some v1, some v2, some v3, none] H1 .non) (hcV : ∀ H1, Ex H H1 → EvD K tV [some (.ref x), some v1, some v2, some v3, none] H1 .non)
    {tv : TE} (hv : ∀ H1, Ex H0 H1 → EvD K tv [some (.ref x), some v1, some v2, some v3, none] H1 (.tup (frs (ts.map Tv.q)))) :
    tSeq (tDrop tA) (tSeq (tDrop tV) (tSeq (tDrop tcl) (tSeq (sFld K (tVar 0) (tCB (rTupS K) (tCons (tVar 1) tNil)) "areas") (tSeq (sFld K (tVar 0) tv "volumes") (sFld K (tVar 0) (tCB (rTupS K) (tCons (tSortSet K (tVar 3)) tNil)) "locks")))))
      { nx := fun _ H' => Q .non H', rt := Q } [some (.ref x), some v1, some v2, some v3, none] H := by
  refine q_do (hcA H (Ex.refl H)) fun H1 e1 => q_do (hcV H1 e1) fun H2 e2 => q_do (hcl H2 (e1.trans e2)) fun H3 e3 => ?_
  have E3 := ex.trans ((e1.trans e2).trans e3)
  have hx3 := ((e1.trans e2).trans e3) _ _ hx
  refine q_fld hx3 (ed_tupleT (ed_var rfl (a1.ex E3))) (ev_ref rfl) T.c_Row T.n_Row_areas (by decide) fun u1 H4 e4 i1 => ?_
  have x1 : Xe x H (upd H4 x (.ins (He.ga K "Row") dx (putF "areas" u1 []))) := (Xe.ex (((e1.trans e2).trans e3).trans e4)).trans Xe.upd
  have E4 : Ex H0 (upd H4 x (.ins (He.ga K "Row") dx (putF "areas" u1 []))) := Xe.of_none ex x1 h0
  refine q_fld upd_same (hv _ E4) (ev_ref rfl) T.c_Row T.n_Row_volumes (Nat.lt_of_le_of_lt (length_putF _ _ _) (by decide)) fun u2 H5 e5 i2 => ?_
  have x2 : Xe x H (upd H5 x (.ins (He.ga K "Row") dx (putF "volumes" u2 (putF "areas" u1 [])))) := (x1.trans (Xe.ex e5)).trans Xe.upd
  have E5 : Ex H0 (upd H5 x (.ins (He.ga K "Row") dx (putF "volumes" u2 (putF "areas" u1 [])))) := Xe.of_none ex x2 h0
  refine s_fld upd_same (ed_tuple (en_sortSet (hm _ _ _ _ (ed_var rfl (a3.ex E5))) hL6).toD) (ev_ref rfl) T.c_Row T.n_Row_locks (Nat.lt_of_le_of_lt (Nat.le_trans (length_putF _ _ _) (Nat.succ_le_succ (length_putF _ _ _))) (by decide)) fun u3 H6 e6 i3 => ?_
  have gU : ∀ {Ha : Hp} {o o' : HO} {f : List (Str × V)} {C' d' : Addr}, Ha x = some (.ins C' d' f) → Gt Ha (upd Ha x o') := fun h => Gt.upd h (fun _ z => by cases z) (fun _ _ z => by cases z)
  refine q _ _ ((x2.trans (Xe.ex e6)).trans Xe.upd) upd_same ?_
  have g1 : Gt H4 (upd H4 x (.ins (He.ga K "Row") dx (putF "areas" u1 []))) := gU (o := .own 0) (e4 _ _ hx3)
  have g2 : Gt H5 (upd H5 x (.ins (He.ga K "Row") dx (putF "volumes" u2 (putF "areas" u1 [])))) := gU (o := .own 0) (e5 _ _ upd_same)
  have g3 : Gt H6 (upd H6 x (.ins (He.ga K "Row") dx (putF "locks" u3 (putF "volumes" u2 (putF "areas" u1 []))))) := gU (o := .own 0) (e6 _ _ upd_same)
  exact .cons (i1.gt (((g1.trans (Gt.of e5)).trans g2).trans ((Gt.of e6).trans g3)) (iLlf A)) (.cons (i2.gt (g2.trans ((Gt.of e6).trans g3)) (frs_lf _)) (.cons (i3.gt g3 (iLlf _)) .nil))
theorem ok_Row___init___L (T : Txt K mg) : FnH P w K mg base 5 (He.ma K (He.ga K "Row") "__init__") ["self", "areas", "volumes", "locks"] (spI K "Row" (R_Row .lst)) [] := by
  refine fnH 4 1 (N := ["self", "areas", "volumes", "locks", "volume"]) (st := s_Row___init__) T.f_Row___init__ sc_Row___init__ (fun vs H Q E h => ?_) (List.cons_ne_nil _ _) rfl (fun _ _ _ _ _ _ _ us its h1 h2 => match us, its, h1, h2 with | [u0, u1, u2, u3], [z0], _, _ => ⟨_, rfl, rfl⟩) (fun cdv A outer s H vs Q E hr h => ⟨_, (pss_cons (ps_expr (pe_callG (ok_check_areas T) (hr.mono (by decide)) (by rfl) T.m_check_areas (pa_cons (pv 1) pa_nil))) (pss_cons (ps_expr (pe_callG (ok_check_volumes T) (hr.mono (by decide)) (by rfl) T.m_check_volumes (pa_cons (pv 2) (pa_cons (pe_callB call_lenS (by rfl) T.z_len PySem.boot_len (pa_cons (pv 1) pa_nil)) pa_nil)))) (pss_cons (ps_expr (pe_callG (ok_check_locks_L T) (hr.mono (by decide)) (by rfl) T.m_check_locks (pa_cons (pv 3) (pa_cons (pe_callB call_lenS (by rfl) T.z_len PySem.boot_len (pa_cons (pv 1) pa_nil)) pa_nil)))) (pss_cons (ps_fld (pv 0) (pe_callTy call_tupS (by rfl) T.z_tuple (by decide +kernel) (pa_cons (pv 1) pa_nil)) rfl) (pss_cons (ps_fld (pv 0) (pe_callTy call_tupS (by rfl) T.z_tuple (by decide +kernel) (pa_cons (pe_lc (own := [("volume", 4)]) rfl sc_Row___init__.nd (pi_tup (pv 2)) (blkOk_by (own := [("volume", 4)]) (N := ["self", "areas", "volumes", "locks", "volume"]) (sc := defScope s_Row___init__) (by decide +kernel)) (fun _ _ _ _ _ => (pg_name (i := 4) sc_Row___init__.nd rfl (.inl rfl))) (fun _ _ _ _ _ => pts_nil) (fun _ _ _ _ _ => (pe_callG (ok_exact T) (hr.mono (by decide)) (by rfl) T.m_exact (pa_cons (pv 4) pa_nil)))) pa_nil)) rfl) (pss_one (ps_fld (pv 0) (pe_callTy call_tupS (by rfl) T.z_tuple (by decide +kernel) (pa_cons (pe_sortSet (by rfl) T.z_sorted (by rfl) T.z_set (pv 3)) pa_nil)) rfl))))))), ?_⟩)
  · obtain ⟨x, dx, us, ds, fs, H0, rfl, _, _, _, a, ⟨A, L, ts, rfl, _⟩, _⟩ := h
    exact congrArg Nat.succ a.len
  · obtain ⟨x, dx, us, ds, fs, H0, rfl, hx, h0, ex, a, ⟨A, L, ts, rfl, hA1, hA2, hA, hl, hok, hL, hL6, rfl⟩, q⟩ := h
    obtain ⟨v1, v2, v3, rfl, a1, a2, a3⟩ := All.inv3 a
    try dsimp only [cxOf, Cx.nox, Cx.wish]
    refine ok_Row_init T .lst (fun _ _ _ _ h => .inl h) hx h0 ex a1 a2 a3 hA1 hA2 hA hl hok hL hL6 ?_ q ?_ ?_ ?_
    · exact fun H1 e => ed_call (ea1 (ed_var rfl (a3.ex (ex.trans e))) (ea1 (EvD.is (ed_lenT (K := K) (ed_var rfl (a1.ex (ex.trans e)))) (by rw [iLlen])) ea0)) ⟨L, A.length, rfl, hL, rfl⟩
    · exact fun H1 e => ed_call (ea1 (ed_var rfl (a1.ex (ex.trans e))) ea0) ⟨A, rfl, hA1, hA2, hA, rfl⟩
    · exact fun H1 e => ed_call (ea1 (ed_var rfl (a2.ex (ex.trans e))) (ea1 (EvD.is (ed_lenT (K := K) (ed_var rfl (a1.ex (ex.trans e)))) (by rw [iLlen, hl])) ea0)) ⟨ts, rfl, hok, rfl⟩
    · intro H1 e
      refine ed_tuple (EvN.is (en_lc1 (n := (ts.map Tv.d).length) (item := fun i => (ts.map Tv.d).getD i .non) (fun _ => true) (fun i => ((ts.map Tv.q).map fr).getD i .non) (fun H2 e2 => ei_tup (ed_var rfl (a2.ex (e.trans e2))) (lfs_map _ Tv.lf ts)) ?_ ?_ (fun x => rfl) (fun i x H2 _ _ _ => et_yes) ?_) ?_).toD
      · rw [List.length_map]
        omega
      · intro i hi _
        rw [List.length_map] at hi
        rw [getD_map _ _ _ (by rw [List.length_map]; exact hi)]
        rfl
      · intro i x H2 hi e2 ax _
        rw [List.length_map] at hi
        rw [getD_map _ _ _ hi] at ax
        rw [getD_map _ _ _ (by rw [List.length_map]; exact hi), List.getElem_map]
        exact ed_call (ea1 (ed_var rfl ax) ea0) (Tv.isex (hok ts[i] (List.getElem_mem hi)))
      · rw [List.length_map]
        have z := map_gives fr (ts.map Tv.q) (fun i => ((ts.map Tv.q).map fr).getD i .non) (fun i hi => getD_map _ _ _ hi)
        rw [List.length_map] at z
        exact z
theorem ok_Row___init___T (T : Txt K mg) : FnH P w K mg base 5 (He.ma K (He.ga K "Row") "__init__") ["self", "areas", "volumes", "locks"] (spI K "Row" (R_Row .tup)) [.ref (He.dflAt ("Row", some "__init__") 0 K)] := by
  refine fnH 3 0 (N := ["self", "areas", "volumes", "locks", "volume"]) (st := s_Row___init__) T.f_Row___init__ sc_Row___init__ (fun vs H Q E h => ?_) (List.cons_ne_nil _ _) rfl (fun _ _ _ _ _ _ _ us its h1 h2 => match us, its, h1, h2 with | [u0, u1, u2], [z0], _, _ => ⟨_, rfl, rfl⟩) (fun cdv A outer s H vs Q E hr h => ⟨_, (pss_cons (ps_expr (pe_callG (ok_check_areas T) (hr.mono (by decide)) (by rfl) T.m_check_areas (pa_cons (pv 1) pa_nil))) (pss_cons (ps_expr (pe_callG (ok_check_volumes T) (hr.mono (by decide)) (by rfl) T.m_check_volumes (pa_cons (pv 2) (pa_cons (pe_callB call_lenS (by rfl) T.z_len PySem.boot_len (pa_cons (pv 1) pa_nil)) pa_nil)))) (pss_cons (ps_expr (pe_callG (ok_check_locks_T T) (hr.mono (by decide)) (by rfl) T.m_check_locks (pa_cons (pv 3) (pa_cons (pe_callB call_lenS (by rfl) T.z_len PySem.boot_len (pa_cons (pv 1) pa_nil)) pa_nil)))) (pss_cons (ps_fld (pv 0) (pe_callTy call_tupS (by rfl) T.z_tuple (by decide +kernel) (pa_cons (pv 1) pa_nil)) rfl) (pss_cons (ps_fld (pv 0) (pe_callTy call_tupS (by rfl) T.z_tuple (by decide +kernel) (pa_cons (pe_lc (own := [("volume", 4)]) rfl sc_Row___init__.nd (pi_tup (pv 2)) (blkOk_by (own := [("volume", 4)]) (N := ["self", "areas", "volumes", "locks", "volume"]) (sc := defScope s_Row___init__) (by decide +kernel)) (fun _ _ _ _ _ => (pg_name (i := 4) sc_Row___init__.nd rfl (.inl rfl))) (fun _ _ _ _ _ => pts_nil) (fun _ _ _ _ _ => (pe_callG (ok_exact T) (hr.mono (by decide)) (by rfl) T.m_exact (pa_cons (pv 4) pa_nil)))) pa_nil)) rfl) (pss_one (ps_fld (pv 0) (pe_callTy call_tupS (by rfl) T.z_tuple (by decide +kernel) (pa_cons (pe_sortSet (by rfl) T.z_sorted (by rfl) T.z_set (pv 3)) pa_nil)) rfl))))))), ?_⟩)
  · obtain ⟨x, dx, us, ds, fs, H0, rfl, _, _, _, a, ⟨A, L, ts, rfl, _⟩, _⟩ := h
    exact congrArg Nat.succ a.len
  · obtain ⟨x, dx, us, ds, fs, H0, rfl, hx, h0, ex, a, ⟨A, L, ts, rfl, hA1, hA2, hA, hl, hok, hL, hL6, rfl⟩, q⟩ := h
    obtain ⟨v1, v2, v3, rfl, a1, a2, a3⟩ := All.inv3 a
    try dsimp only [cxOf, Cx.nox, Cx.wish]
    refine ok_Row_init T .tup (fun _ _ _ _ h => .inr h) hx h0 ex a1 a2 a3 hA1 hA2 hA hl hok hL hL6 ?_ q ?_ ?_ ?_
    · exact fun H1 e => ed_call (ea1 (ed_var rfl (a3.ex (ex.trans e))) (ea1 (EvD.is (ed_lenT (K := K) (ed_var rfl (a1.ex (ex.trans e)))) (by rw [iLlen])) ea0)) ⟨L, A.length, rfl, hL, rfl⟩
    · exact fun H1 e => ed_call (ea1 (ed_var rfl (a1.ex (ex.trans e))) ea0) ⟨A, rfl, hA1, hA2, hA, rfl⟩
    · exact fun H1 e => ed_call (ea1 (ed_var rfl (a2.ex (ex.trans e))) (ea1 (EvD.is (ed_lenT (K := K) (ed_var rfl (a1.ex (ex.trans e)))) (by rw [iLlen, hl])) ea0)) ⟨ts, rfl, hok, rfl⟩
    · intro H1 e
      refine ed_tuple (EvN.is (en_lc1 (n := (ts.map Tv.d).length) (item := fun i => (ts.map Tv.d).getD i .non) (fun _ => true) (fun i => ((ts.map Tv.q).map fr).getD i .non) (fun H2 e2 => ei_tup (ed_var rfl (a2.ex (e.trans e2))) (lfs_map _ Tv.lf ts)) ?_ ?_ (fun x => rfl) (fun i x H2 _ _ _ => et_yes) ?_) ?_).toD
      · rw [List.length_map]
        omega
      · intro i hi _
        rw [List.length_map] at hi
        rw [getD_map _ _ _ (by rw [List.length_map]; exact hi)]
        rfl
      · intro i x H2 hi e2 ax _
        rw [List.length_map] at hi
        rw [getD_map _ _ _ hi] at ax
        rw [getD_map _ _ _ (by rw [List.length_map]; exact hi), List.getElem_map]
        exact ed_call (ea1 (ed_var rfl ax) ea0) (Tv.isex (hok ts[i] (List.getElem_mem hi)))
      · rw [List.length_map]
        have z := map_gives fr (ts.map Tv.q) (fun i => ((ts.map Tv.q).map fr).getD i .non) (fun i hi => getD_map _ _ _ hi)
        rw [List.length_map] at z
        exact z

end
end My
end
section
set_option Elab.async false
set_option linter.all false
set_option maxRecDepth 100000
set_option maxHeartbeats 4000000
namespace My
open PySem PySem.Spec PyProof.Rows L2 Evl WD
local macro_rules | `(tactic| walk_at "exgo") => `(tactic| first | exact Ex.refl _ | assumption | (refine' Ex.trans ?ea ?eb; (case eb => assumption); (case ea => walk_at "exgo")))
local macro_rules | `(tactic| walk_at "is") => `(tactic| first | assumption | (refine' Is.ex ?e ?h; (case h => assumption); (case e => walk_at "exgo")) | exact Is.int _ | exact Is.bl _ | exact Is.non)
local macro_rules | `(tactic| walk_at "ev") => `(tactic| first
  | exact ed_int | exact ed_bl | exact ed_non | exact ed_str
  | ((with_reducible apply ed_var) <;> first | exact rfl | walk_at "is")
  | ((with_reducible apply ed_add) <;> walk_at "ev")
  | ((with_reducible apply ed_sub) <;> walk_at "ev")
  | ((with_reducible apply ed_neg) <;> walk_at "ev")
  | ((with_reducible apply ed_mulW) <;> try walk_at "ev")
  | ((with_reducible apply ed_divW) <;> try walk_at "ev")
  | ((with_reducible apply ed_mod) <;> try walk_at "ev")
  | ((with_reducible apply ed_ixT) <;> first | exact rfl | walk_at "ev" | skip)
  | ((with_reducible apply ed_ixL) <;> first | exact rfl | walk_at "ev" | skip)
  | ((with_reducible apply ed_lt) <;> walk_at "ev")
  | ((with_reducible apply ed_le) <;> walk_at "ev")
  | ((with_reducible apply ed_gt) <;> walk_at "ev")
  | ((with_reducible apply ed_ge) <;> walk_at "ev")
  | ((with_reducible apply ed_eqI) <;> walk_at "ev")
  | ((with_reducible apply ed_neI) <;> walk_at "ev")
  | ((with_reducible apply ed_gcd) <;> walk_at "ev")
  | ((with_reducible apply ed_abs) <;> walk_at "ev")
  | ((with_reducible apply ed_intI) <;> walk_at "ev")
  | ((with_reducible apply ed_intB) <;> walk_at "ev")
  | ((with_reducible apply ed_max2) <;> walk_at "ev")
  | ((with_reducible apply ed_min2) <;> walk_at "ev")
  | ((with_reducible apply ed_lenT) <;> walk_at "ev")
  | ((with_reducible apply ed_lenL) <;> walk_at "ev")
  | ((with_reducible apply ed_tuple) <;> walk_at "ev")
  | ((with_reducible apply ed_tupleT) <;> walk_at "ev")
  | ((with_reducible apply ed_tup) <;> first | walk_at "ea" | (simp; done) | skip)
  | ((with_reducible apply et_t) <;> walk_at "ev")
  | ((with_reducible apply et_v) <;> walk_at "ev"))
local macro_rules | `(tactic| walk_at "ea") => `(tactic| first
  | exact ea0
  | ((with_reducible apply ea1) <;> first | walk_at "ev" | walk_at "ea" | skip))

section
variable {P : Program} {w : World} {K : PySem.W.Frag} {mg : Str → Option Value} {base : Heap}
def okR (v : List Rat) : Prop := (∀ q ∈ v, Sm 3000 q) ∧ (∀ i, i ≤ v.length → Sm 3000 (S v i)) ∧ v.length ≤ 24
def R_Row___len__ (ds : List D) (d : D) : Prop := ∃ A v L, ds = [rowD A v L] ∧ d = .int (A.length : Int)
theorem ok_Row___len__ (T : Txt K mg) : FnG P w K mg base 1 (He.ma K (He.ga K "Row") "__len__") ["self"] (spD K R_Row___len__) := by
  refine fnG (N := ["self"]) (st := s_Row___len__) T.f_Row___len__ sc_Row___len__ (fun vs H Q E h => ?_) (fun _ _ _ _ _ _ us hl => match us, hl with | [_], _ => rfl) (fun cdv A outer s H vs Q E hr h => ⟨_, (pss_one (ps_ret (pe_callB call_lenS (by rfl) T.z_len PySem.boot_len (pa_cons (pe_fld (pv 0) rfl) pa_nil)))), ?_⟩)
  · obtain ⟨ds, d, a, ⟨A, v, L, rfl, _⟩, _⟩ := h
    exact a.len
  · obtain ⟨ds, d, a, ⟨A, v, L, rfl, rfl⟩, q⟩ := h
    obtain ⟨u, rfl, a1⟩ := All.inv1 a
    try dsimp only [cxOf, Cx.nox, Cx.wish]
    exact s_retD (EvD.is (ed_lenT (K := K) (ed_fld (ed_var rfl a1) T.c_Row T.n_Row_areas rfl)) (by rw [iLlen])) fun v2 H2 x2 i2 => q _ _ x2 i2
def inR (A L : List Int) (i : Int) : Bool := decide (0 < i) && decide (i < A.length) && !decide (i ∈ L)
def R_Row___contains__ (ds : List D) (d : D) : Prop := ∃ A v L i, ds = [rowD A v L, .int i] ∧ d = .bl (inR A L i)
theorem ok_Row___contains__ (T : Txt K mg) : FnG P w K mg base 2 (He.ma K (He.ga K "Row") "__contains__") ["self", "weir"] (spD K R_Row___contains__) := by
  refine fnG (N := ["self", "weir"]) (st := s_Row___contains__) T.f_Row___contains__ sc_Row___contains__ (fun vs H Q E h => ?_) (fun _ _ _ _ _ _ us hl => match us, hl with | [_, _], _ => rfl) (fun cdv A outer s H vs Q E hr h => ⟨_, (pss_one (ps_ret (pe_and (pe_callG (ok_is_integer T) (hr.mono (by decide)) (by rfl) T.m_is_integer (pa_cons (pv 1) pa_nil)) (pe_and (pe_chain op_lt op_lt pe_int (pv 1) (pe_callB call_lenS (by rfl) T.z_len PySem.boot_len (pa_cons (pe_fld (pv 0) rfl) pa_nil))) (pe_one (pe_cmpR op_notIn_seq (pv 1) (pe_fld (pv 0) rfl) (by rfl))))))), ?_⟩)
  · obtain ⟨ds, d, a, ⟨A, v, L, i, rfl, _⟩, _⟩ := h
    exact a.len
  · obtain ⟨ds, d, a, ⟨A, v, L, i, rfl, rfl⟩, q⟩ := h
    obtain ⟨u, u', rfl, a1, a2⟩ := All.inv2 a
    try dsimp only [cxOf, Cx.nox, Cx.wish]
    refine s_retD (EvD.is (ed_andV (K := K) (a := true) (b := (decide (0 < i) && decide (i < A.length)) && !decide (i ∈ L)) (ed_call (ea1 (ed_var rfl a2) ea0) ⟨_, "int", rfl, rfl, rfl⟩) fun _ => ed_andV (ed_chain ed_int (ed_var rfl a2) rd_lt (fun _ => EvD.is (ed_lenT (K := K) (ed_fld (ed_var rfl a1) T.c_Row T.n_Row_areas rfl)) (by rw [iLlen])) (fun _ => rd_lt)) fun _ => ed_ninT (ed_var rfl a2) (ed_fld (ed_var rfl a1) T.c_Row T.n_Row_locks rfl)) (by rw [Bool.true_and]; rfl)) fun v2 H2 x2 i2 => q _ _ x2 i2
def wrs (A L : List Int) : List Int := ((List.range (A.length - 1)).map fun i : Nat => 1 + (i : Int)).filter fun i => !decide (i ∈ L)
def R_Row_weirs (ds : List D) (es : List D) : Prop := ∃ A v L, ds = [rowD A v L] ∧ A.length ≤ 24 ∧ es = iL (wrs A L)
theorem ok_Row_weirs (T : Txt K mg) : FnG P w K mg base 1 (He.ma K (He.ga K "Row") "weirs") ["self"] (spN K R_Row_weirs) := by
  refine fnG (N := ["self", "weir"]) (st := s_Row_weirs) T.f_Row_weirs sc_Row_weirs (fun vs H Q E h => ?_) (fun _ _ _ _ _ _ us hl => match us, hl with | [_], _ => rfl) (fun cdv A outer s H vs Q E hr h => ⟨_, (pss_one (ps_ret (pe_lc (own := [("weir", 1)]) rfl sc_Row_weirs.nd (pi_range2 (by rfl) T.z_range (pa_cons pe_int (pa_cons (pe_callB call_lenS (by rfl) T.z_len PySem.boot_len (pa_cons (pe_fld (pv 0) rfl) pa_nil)) pa_nil))) (blkOk_by (own := [("weir", 1)]) (N := ["self", "weir"]) (sc := defScope s_Row_weirs) (by decide +kernel)) (fun _ _ _ _ _ => (pg_name (i := 1) sc_Row_weirs.nd rfl (.inl rfl))) (fun _ _ _ _ _ => (pts_one (pt_cmpR (notInK (K := K) rfl) (pv 1) (fldK (K := K) rfl (pv 0) (by rfl)) (by rfl)))) (fun _ _ _ _ _ => (pv 1))))), ?_⟩)
  · obtain ⟨ds, d, a, ⟨A, v, L, rfl, _⟩, _⟩ := h
    exact a.len
  · obtain ⟨ds, d, a, ⟨A, v, L, rfl, hA, rfl⟩, q⟩ := h
    obtain ⟨u, rfl, a1⟩ := All.inv1 a
    try dsimp only [cxOf, Cx.nox, Cx.wish]
    refine s_retN (K := K) (EvN.is (en_lc1 (n := ((A.length : Int) - 1).toNat) (item := fun i => .int (1 + (i : Int))) (fun i => !decide (1 + (i : Int) ∈ L)) (fun i => .int (1 + (i : Int))) (fun H2 e2 => ei_r2 (ea1 ed_int (ea1 (EvD.is (ed_lenT (K := K) (ed_fld (ed_var rfl (a1.ex e2)) T.c_Row T.n_Row_areas rfl)) (by rw [iLlen])) ea0)) (by omega)) (by omega) (fun _ _ _ => rfl) (fun x => rfl) (fun i x H2 _ e2 ax => et_t (K := K) (ed_ninT (ed_var rfl ax) (ed_fld (ed_var rfl (a1.ex e2)) T.c_Row T.n_Row_locks rfl))) (fun i x H2 _ e2 ax _ => ed_var rfl ax)) ?_) fun p xs H' hp e hq ax => q p xs H' hp e hq ax
    unfold gives wrs iL
    rw [show ((A.length : Int) - 1).toNat = A.length - 1 from by omega, List.filter_map, List.map_map]
    rfl
def R_Row_sums (ds : List D) (es : List D) : Prop := ∃ A v L, ds = [rowD A v L] ∧ okR v ∧ es = (List.range (v.length + 1)).map fun j => fr (S v j)
theorem ok_Row_sums (T : Txt K mg) : FnG P w K mg base 2 (He.ma K (He.ga K "Row") "sums") ["self"] (spN K R_Row_sums) := by
  refine fnG (N := ["self", "found", "volume"]) (st := s_Row_sums) T.f_Row_sums sc_Row_sums (fun vs H Q E h => ?_) (fun _ _ _ _ _ _ us hl => match us, hl with | [_], _ => rfl) (fun cdv A outer s H vs Q E hr h => ⟨_, (pss_cons (ps_asg (pe_lst (pa_cons (pe_tup (pa_cons pe_int (pa_cons pe_int pa_nil))) pa_nil)) (pg_name (i := 1) sc_Row_sums.nd rfl (.inl rfl))) (pss_cons (ps_for PassesOwn.never rfl (pi_tup (pe_fld (pv 0) rfl)) (pg_name (i := 2) sc_Row_sums.nd rfl (.inl rfl)) (pss_one (ps_expr (pe_bm PySem.F.plainAttrs_list PySem.F.slot_list_append PySem.F.type_list_append mt_append (pv 1) (pa_cons (pe_callG (ok_plus T) (hr.mono (by decide)) (by rfl) T.m_plus (pa_cons (pe_ix ix_list (pv 1) (pe_un un_neg pe_int) (fun _ _ => rfl)) (pa_cons (pv 2) pa_nil))) pa_nil))))) (pss_one (ps_ret (pv 1))))), ?_⟩)
  · obtain ⟨ds, d, a, ⟨A, v, L, rfl, _⟩, _⟩ := h
    exact a.len
  · obtain ⟨ds, d, a, ⟨A, v, L, rfl, ⟨k1, k2, k3⟩, rfl⟩, q⟩ := h
    obtain ⟨u, rfl, a1⟩ := All.inv1 a
    try dsimp only [cxOf, Cx.nox, Cx.wish]
    refine q_asgN (K := K) (ds := [fr 0]) (en_lst (ea1 (ed_tup (ea1 ed_int (ea1 ed_int ea0)) (by show 2 ≤ 100000; decide)) ea0)) fun p xs H1 hp e1 hq ax => ?_
    refine q_grow (K := K) (f := fun j => fr (S v (j + 1))) (W := fun σ => ∃ y, σ = [some u, some (.ref p), y]) hp e1 hq ax rfl (fun _ _ => rfl) (n := v.length) (by show 1 + v.length < 100000; omega) (EvI.is (ei_tup (ed_fld (ed_var rfl (a1.ex e1)) T.c_Row T.n_Row_volumes rfl) (frs_lf v)) (frs_len v)) ⟨none, rfl⟩ ?_ ?_
    · rintro i x σ' H' ys hi ⟨y, rfl⟩ e hy ay hl ax Nx hN
      rw [getD_frs v i hi] at ax
      refine g_name (s_appD (K := K) (d := fr (S v (i + 1))) hy (ev_ref rfl) (ed_call (ea1 (ed_ixL (ed_var rfl (.lst (.inl hy) ay)) (ed_neg ed_int) ?_) (ea1 (ed_var rfl ax) ea0)) ⟨S v i, v[i], rfl, (k2 i (by omega)).mono (by decide), (k1 _ (List.getElem_mem hi)).mono (by decide), by rw [S_succ v i hi]⟩) hl fun z H2 e2 az => hN _ _ _ ⟨_, rfl⟩ e2 az)
      cases i with
      | zero => rfl
      | succ i =>
        rw [List.range_succ, List.map_append, ← List.append_assoc]
        exact ix_last _ _
    · rintro σ' H' ys ⟨y, rfl⟩ e hy ay
      refine ⟨_, rfl, q p ys H' hp e hy ?_⟩
      rw [List.range_succ_eq_map, List.map_cons, List.map_map]
      exact ay

end
end My
end
section
set_option Elab.async false
set_option linter.all false
set_option maxRecDepth 100000
set_option maxHeartbeats 4000000
namespace My
open PySem PySem.Spec PyProof.Rows L2 Evl WD
local macro_rules | `(tactic| walk_at "exgo") => `(tactic| first | exact Ex.refl _ | assumption | (refine' Ex.trans ?ea ?eb; (case eb => assumption); (case ea => walk_at "exgo")))
local macro_rules | `(tactic| walk_at "is") => `(tactic| first | assumption | (refine' Is.ex ?e ?h; (case h => assumption); (case e => walk_at "exgo")) | exact Is.int _ | exact Is.bl _ | exact Is.non)
local macro_rules | `(tactic| walk_at "ev") => `(tactic| first
  | exact ed_int | exact ed_bl | exact ed_non | exact ed_str
  | ((with_reducible apply ed_var) <;> first | exact rfl | walk_at "is")
  | ((with_reducible apply ed_add) <;> walk_at "ev")
  | ((with_reducible apply ed_sub) <;> walk_at "ev")
  | ((with_reducible apply ed_neg) <;> walk_at "ev")
  | ((with_reducible apply ed_mulW) <;> try walk_at "ev")
  | ((with_reducible apply ed_divW) <;> try walk_at "ev")
  | ((with_reducible apply ed_mod) <;> try walk_at "ev")
  | ((with_reducible apply ed_ixT) <;> first | exact rfl | walk_at "ev" | skip)
  | ((with_reducible apply ed_ixL) <;> first | exact rfl | walk_at "ev" | skip)
  | ((with_reducible apply ed_lt) <;> walk_at "ev")
  | ((with_reducible apply ed_le) <;> walk_at "ev")
  | ((with_reducible apply ed_gt) <;> walk_at "ev")
  | ((with_reducible apply ed_ge) <;> walk_at "ev")
  | ((with_reducible apply ed_eqI) <;> walk_at "ev")
  | ((with_reducible apply ed_neI) <;> walk_at "ev")
  | ((with_reducible apply ed_gcd) <;> walk_at "ev")
  | ((with_reducible apply ed_abs) <;> walk_at "ev")
  | ((with_reducible apply ed_intI) <;> walk_at "ev")
  | ((with_reducible apply ed_intB) <;> walk_at "ev")
  | ((with_reducible apply ed_max2) <;> walk_at "ev")
  | ((with_reducible apply ed_min2) <;> walk_at "ev")
  | ((with_reducible apply ed_lenT) <;> walk_at "ev")
  | ((with_reducible apply ed_lenL) <;> walk_at "ev")
  | ((with_reducible apply ed_tuple) <;> walk_at "ev")
  | ((with_reducible apply ed_tupleT) <;> walk_at "ev")
  | ((with_reducible apply ed_tup) <;> first | walk_at "ea" | (simp; done) | skip)
  | ((with_reducible apply et_t) <;> walk_at "ev")
  | ((with_reducible apply et_v) <;> walk_at "ev"))
local macro_rules | `(tactic| walk_at "ea") => `(tactic| first
  | exact ea0
  | ((with_reducible apply ea1) <;> first | walk_at "ev" | walk_at "ea" | skip))

section
variable {P : Program} {w : World} {K : PySem.W.Frag} {mg : Str → Option Value} {base : Heap}
theorem gtI {H : Hp} {x C d : Addr} {f : List (Str × V)} {o : HO} (h : H x = some (.ins C d f)) : Gt H (upd H x o) := Gt.upd h (fun _ z => by cases z) (fun _ _ z => by cases z)
theorem row_fvs {H : Hp} {A L : List Int} {v : List Rat} {fvs : List (Str × V)} (a : AllF K H fvs (rowF A v L)) : ∃ x1 x2 x3, fvs = ([("areas", x1), ("volumes", x2), ("locks", x3)] : List (Str × V)) := by
  cases a with
  | cons h1 a =>
    cases a with
    | cons h2 a =>
      cases a with
      | cons h3 a =>
        cases a
        exact ⟨_, _, _, rfl⟩
def R_with_volumes (ds : List D) (d : D) : Prop := ∃ A v v' L, ds = [rowD A v L, .tup (frs v')] ∧ d = rowD A v' L
theorem ok_with_volumes (T : Txt K mg) : FnG P w K mg base 7 (He.ga K "with_volumes") ["row", "volumes"] (spD K R_with_volumes) := by
  refine fnG (N := ["row", "volumes", "late"]) (st := s_with_volumes) T.f_with_volumes sc_with_volumes (fun vs H Q E h => ?_) (fun _ _ _ _ _ _ us hl => match us, hl with | [_, _], _ => rfl) (fun cdv A outer s H vs Q E hr h => ⟨_, (pss_cons (ps_asg (pe_makeH T.k_Row (ok_Row___init___T T) (hr.mono (by decide)) (by rfl) T.m_Row (pa_cons (pe_tup (pa_cons pe_int pa_nil)) (pa_cons (pe_tup (pa_cons pe_int pa_nil)) pa_nil))) (pg_name (i := 2) sc_with_volumes.nd rfl (.inl rfl))) (pss_cons (ps_fld (pv 2) (pe_fld (pv 0) rfl) rfl) (pss_cons (ps_fld (pv 2) (pe_callTy call_tupS (by rfl) T.z_tuple (by decide +kernel) (pa_cons (pv 1) pa_nil)) rfl) (pss_cons (ps_fld (pv 2) (pe_fld (pv 0) rfl) rfl) (pss_one (ps_ret (pv 2))))))), ?_⟩)
  · obtain ⟨ds, d, a, ⟨A, v, v', L, rfl, _⟩, _⟩ := h
    exact a.len
  · obtain ⟨ds, d, a, ⟨A, v, v', L, rfl, rfl⟩, q⟩ := h
    obtain ⟨u, u', rfl, a1, a2⟩ := All.inv2 a
    try dsimp only [cxOf, Cx.nox, Cx.wish]
    refine q_asgO (K := K) (eo_make (es := [.tup (iL [])]) (ea1 (ed_tup (ea1 ed_int ea0) (by show 1 ≤ 100000; decide)) (ea1 (ed_tup (ea1 ed_int ea0) (by show 1 ≤ 100000; decide)) ea0)) (fun H => .cons (.tup (tupA_ok T.t_Row___init___0 H) .nil) .nil)
      ⟨[1], [], [.i 0], rfl, by decide, by decide, by decide, rfl, fun t h => ?_, (fun l h => nomatch h), by decide, rfl⟩) fun x dx fvs H1 nx e1 hx af => ?_
    · cases List.mem_singleton.mp h
      exact ⟨Int.le_refl _, Nat.two_pow_pos _⟩
    · obtain ⟨x1, x2, x3, rfl⟩ := row_fvs af
      refine q_fld hx (ed_fld (ed_var rfl (a1.ex e1)) T.c_Row T.n_Row_areas rfl) (ev_ref rfl) T.c_Row T.n_Row_areas (by show 3 < 1000; decide) fun w1 H2 e2 i1 => ?_
      have E1 : Ex H (upd H2 x (.ins (He.ga K "Row") dx (putF "areas" w1 [("areas", x1), ("volumes", x2), ("locks", x3)]))) := Ex.updN (e1.trans e2) nx
      refine q_fld upd_same (ed_tupleT (ed_var rfl (a2.ex E1))) (ev_ref rfl) T.c_Row T.n_Row_volumes (by show 3 < 1000; decide) fun w2 H3 e3 i2 => ?_
      have E2 : Ex H (upd H3 x (.ins (He.ga K "Row") dx (putF "volumes" w2 (putF "areas" w1 [("areas", x1), ("volumes", x2), ("locks", x3)])))) := Ex.updN (E1.trans e3) nx
      refine q_fld upd_same (ed_fld (ed_var rfl (a1.ex E2)) T.c_Row T.n_Row_locks rfl) (ev_ref rfl) T.c_Row T.n_Row_locks (by show 3 < 1000; decide) fun w3 H4 e4 i3 => ?_
      have E3 := Ex.updN (o := .ins (He.ga K "Row") dx (putF "locks" w3 (putF "volumes" w2 (putF "areas" w1 [("areas", x1), ("volumes", x2), ("locks", x3)])))) (E2.trans e4) nx
      refine ⟨_, rfl, q _ _ E3 (.obj upd_same (.cons (i1.gt ((((gtI (e2 _ _ hx)).trans (Gt.of e3)).trans (gtI (e3 _ _ upd_same))).trans ((Gt.of e4).trans (gtI (e4 _ _ upd_same)))) (iLlf A)) (.cons (i2.gt ((gtI (e3 _ _ upd_same)).trans ((Gt.of e4).trans (gtI (e4 _ _ upd_same)))) (frs_lf _)) (.cons (i3.gt (gtI (e4 _ _ upd_same)) (iLlf _)) .nil))))⟩

end
end My
end
section
set_option Elab.async false
set_option linter.all false
set_option maxRecDepth 100000
set_option maxHeartbeats 4000000
namespace My
open PySem PySem.Spec PyProof.Rows L2 Evl WD
local macro_rules | `(tactic| walk_at "exgo") => `(tactic| first | exact Ex.refl _ | assumption | (refine' Ex.trans ?ea ?eb; (case eb => assumption); (case ea => walk_at "exgo")))
local macro_rules | `(tactic| walk_at "is") => `(tactic| first | assumption | (refine' Is.ex ?e ?h; (case h => assumption); (case e => walk_at "exgo")) | exact Is.int _ | exact Is.bl _ | exact Is.non)
local macro_rules | `(tactic| walk_at "ev") => `(tactic| first
  | exact ed_int | exact ed_bl | exact ed_non | exact ed_str
  | ((with_reducible apply ed_var) <;> first | exact rfl | walk_at "is")
  | ((with_reducible apply ed_add) <;> walk_at "ev")
  | ((with_reducible apply ed_sub) <;> walk_at "ev")
  | ((with_reducible apply ed_neg) <;> walk_at "ev")
  | ((with_reducible apply ed_mulW) <;> try walk_at "ev")
  | ((with_reducible apply ed_divW) <;> try walk_at "ev")
  | ((with_reducible apply ed_mod) <;> try walk_at "ev")
  | ((with_reducible apply ed_ixT) <;> first | exact rfl | walk_at "ev" | skip)
  | ((with_reducible apply ed_ixL) <;> first | exact rfl | walk_at "ev" | skip)
  | ((with_reducible apply ed_lt) <;> walk_at "ev")
  | ((with_reducible apply ed_le) <;> walk_at "ev")
  | ((with_reducible apply ed_gt) <;> walk_at "ev")
  | ((with_reducible apply ed_ge) <;> walk_at "ev")
  | ((with_reducible apply ed_eqI) <;> walk_at "ev")
  | ((with_reducible apply ed_neI) <;> walk_at "ev")
  | ((with_reducible apply ed_gcd) <;> walk_at "ev")
  | ((with_reducible apply ed_abs) <;> walk_at "ev")
  | ((with_reducible apply ed_intI) <;> walk_at "ev")
  | ((with_reducible apply ed_intB) <;> walk_at "ev")
  | ((with_reducible apply ed_max2) <;> walk_at "ev")
  | ((with_reducible apply ed_min2) <;> walk_at "ev")
  | ((with_reducible apply ed_lenT) <;> walk_at "ev")
  | ((with_reducible apply ed_lenL) <;> walk_at "ev")
  | ((with_reducible apply ed_tuple) <;> walk_at "ev")
  | ((with_reducible apply ed_tupleT) <;> walk_at "ev")
  | ((with_reducible apply ed_tup) <;> first | walk_at "ea" | (simp; done) | skip)
  | ((with_reducible apply et_t) <;> walk_at "ev")
  | ((with_reducible apply et_v) <;> walk_at "ev"))
local macro_rules | `(tactic| walk_at "ea") => `(tactic| first
  | exact ea0
  | ((with_reducible apply ea1) <;> first | walk_at "ev" | walk_at "ea" | skip))

section
variable {P : Program} {w : World} {K : PySem.W.Frag} {mg : Str → Option Value} {base : Heap}
def lateOf (a b : Int) (x y s : Rat) : List Rat :=
  let e := (x + y) * mkRat 1 (a + b).toNat
  if s = 1 then [e * (a : Rat), e * (b : Rat)] else [x + (e * (a : Rat) - x) * s, y - (e * (a : Rat) - x) * s]
def opn (A : List Int) (v : List Rat) (w : Nat) (s : Rat) : List Rat := v.take (w - 1) ++ (lateOf (A.getD (w - 1) 1) (A.getD w 1) (v.getD (w - 1) 0) (v.getD w 0) s ++ v.drop (w + 1))
theorem atI_nat {α : Type} {xs : List α} {j : Nat} (h : j < xs.length) : atI xs (j : Int) = some xs[j] := by
  unfold atI ixN
  rw [if_pos (Int.natCast_nonneg j), if_pos (by omega)]
  show xs[(j : Int).toNat]? = _
  rw [Int.toNat_natCast, List.getElem?_eq_getElem h]
theorem at_iL {A : List Int} {j : Nat} (h : j < A.length) : atI (iL A) (j : Int) = some (.int (A.getD j 1)) := by
  rw [atI_nat (by rw [iLlen]; exact h)]
  unfold iL
  rw [List.getElem_map, List.getD_eq_getElem?_getD, List.getElem?_eq_getElem h] <;> rfl
theorem at_frs {v : List Rat} {j : Nat} (h : j < v.length) : atI (frs v) (j : Int) = some (fr (v.getD j 0)) := by
  rw [atI_nat (by rw [frs_len]; exact h)]
  unfold WD.frs
  rw [List.getElem_map, List.getD_eq_getElem?_getD, List.getElem?_eq_getElem h] <;> rfl
theorem gd_mem {α : Type} {v : List α} {j : Nat} {z : α} (h : j < v.length) : v.getD j z ∈ v := by
  rw [List.getD_eq_getElem?_getD, List.getElem?_eq_getElem h]
  exact List.getElem_mem h
theorem sh_fr (q : Rat) : Sh (fr q) := ⟨rfl, rfl⟩
theorem eqv_fr (p q : Rat) : PyData.eqv (fr p).py (fr q).py = decide (p = q) := by
  show ((p.num == q.num) && (((p.den : Int) == (q.den : Int)) && true)) = _
  rw [Bool.eq_iff_iff, Bool.and_true, Bool.and_eq_true, beq_iff_eq, beq_iff_eq, decide_eq_true_iff]
  constructor
  · rintro ⟨a, b⟩
    exact Rat.ext a (Int.ofNat.inj b)
  · rintro rfl
    exact ⟨rfl, rfl⟩
structure OpnOk (A L : List Int) (v : List Rat) (w : Nat) (s : Tv) : Prop where
  len : v.length = A.length
  w1 : 1 ≤ w
  w2 : w < A.length
  nl : (w : Int) ∉ L
  ar : ∀ a ∈ A, 1 ≤ a ∧ a ≤ 1000
  al : A.length ≤ 24
  sm : ∀ q ∈ v, Sm 900 q
  sok : s.ok
  ssm : Sm 100 s.q
def R_Row_opened (ds : List D) (d : D) : Prop := ∃ A v L w s, ds = [rowD A v L, .int ((w : Nat) : Int), s.d] ∧ OpnOk A L v w s ∧ d = rowD A (opn A v w s.q) L
theorem ok_Row_opened3 (T : Txt K mg) : FnH P w K mg base 8 (He.ma K (He.ga K "Row") "opened") ["self", "weir", "share"] (spD K R_Row_opened) [] := by
  refine fnH 3 1 (N := ["self", "weir", "share", "first", "second", "ahead", "beyond", "even", "late", "part", "moved"]) (st := s_Row_opened) T.f_Row_opened sc_Row_opened (fun vs H Q E h => ?_) (List.cons_ne_nil _ _) rfl (fun _ _ _ _ _ _ _ us its h1 h2 => match us, its, h1, h2 with | [u0, u1, u2], [z0], _, _ => ⟨_, rfl, rfl⟩) (fun cdv A outer s H vs Q E hr h => ⟨_, (pss_cons (ps_if (pt_cmpR (notInO_of (ok_Row___contains__ T) T.x_Row___contains__ (hr.mono (by decide))) (pv 1) (pv 0) (by rfl)) (pss_one ps_never) pss_nil) (pss_cons (ps_par (i := 3) (j := 4) (by rfl) sc_Row_opened.nd rfl rfl (by decide) rfl rfl (pa_cons (pe_ix ix_tup (pe_fld (pv 0) rfl) (pe_op op_sub (pv 1) pe_int) (fun _ _ => rfl)) (pa_cons (pe_ix ix_tup (pe_fld (pv 0) rfl) (pv 1) (fun _ _ => rfl)) pa_nil)) (by rfl)) (pss_cons (ps_par (i := 5) (j := 6) (by rfl) sc_Row_opened.nd rfl rfl (by decide) rfl rfl (pa_cons (pe_ix ix_tup (pe_fld (pv 0) rfl) (pe_op op_sub (pv 1) pe_int) (fun _ _ => rfl)) (pa_cons (pe_ix ix_tup (pe_fld (pv 0) rfl) (pv 1) (fun _ _ => rfl)) pa_nil)) (by rfl)) (pss_cons (ps_asg (pe_callG (ok_times T) (hr.mono (by decide)) (by rfl) T.m_times (pa_cons (pe_callG (ok_plus T) (hr.mono (by decide)) (by rfl) T.m_plus (pa_cons (pv 5) (pa_cons (pv 6) pa_nil))) (pa_cons (pe_tup (pa_cons pe_int (pa_cons (pe_op op_add (pv 3) (pv 4)) pa_nil))) pa_nil))) (pg_name (i := 7) sc_Row_opened.nd rfl (.inl rfl))) (pss_cons (ps_asg (pe_tup (pa_cons (pe_callG (ok_times T) (hr.mono (by decide)) (by rfl) T.m_times (pa_cons (pv 7) (pa_cons (pe_tup (pa_cons (pv 3) (pa_cons pe_int pa_nil))) pa_nil))) (pa_cons (pe_callG (ok_times T) (hr.mono (by decide)) (by rfl) T.m_times (pa_cons (pv 7) (pa_cons (pe_tup (pa_cons (pv 4) (pa_cons pe_int pa_nil))) pa_nil))) pa_nil))) (pg_name (i := 8) sc_Row_opened.nd rfl (.inl rfl))) (pss_cons (ps_asg (pe_callG (ok_exact T) (hr.mono (by decide)) (by rfl) T.m_exact (pa_cons (pv 2) pa_nil)) (pg_name (i := 9) sc_Row_opened.nd rfl (.inl rfl))) (pss_cons (ps_if (pt_cmpR (op_neD (hr.units)) (pv 9) (pe_tup (pa_cons pe_int (pa_cons pe_int pa_nil))) (nomark _)) (pss_cons (ps_asg (pe_callG (ok_times T) (hr.mono (by decide)) (by rfl) T.m_times (pa_cons (pe_callG (ok_minus T) (hr.mono (by decide)) (by rfl) T.m_minus (pa_cons (pe_ix ix_tup (pv 8) pe_int (fun _ _ => rfl)) (pa_cons (pv 5) pa_nil))) (pa_cons (pv 9) pa_nil))) (pg_name (i := 10) sc_Row_opened.nd rfl (.inl rfl))) (pss_one (ps_asg (pe_tup (pa_cons (pe_callG (ok_plus T) (hr.mono (by decide)) (by rfl) T.m_plus (pa_cons (pv 5) (pa_cons (pv 10) pa_nil))) (pa_cons (pe_callG (ok_minus T) (hr.mono (by decide)) (by rfl) T.m_minus (pa_cons (pv 6) (pa_cons (pv 10) pa_nil))) pa_nil))) (pg_name (i := 8) sc_Row_opened.nd rfl (.inl rfl))))) pss_nil) (pss_one (ps_ret (pe_callG (ok_with_volumes T) (hr.mono (by decide)) (by rfl) T.m_with_volumes (pa_cons (pv 0) (pa_cons (pe_op op_catA (pe_op op_catA (pe_slice sl_tupA (pe_fld (pv 0) rfl) po_none (po_some (pe_op op_sub (pv 1) pe_int))) (pv 8)) (pe_slice sl_tupA (pe_fld (pv 0) rfl) (po_some (pe_op op_add (pv 1) pe_int)) po_none)) pa_nil)))))))))))), ?_⟩)
  · obtain ⟨ds, d, a, ⟨A, v, L, w, s, rfl, _⟩, _⟩ := h
    exact a.len
  · obtain ⟨ds, d, a, ⟨A, v, L, w, s, rfl, ok, rfl⟩, q⟩ := h
    obtain ⟨u, u2, u3, rfl, a1, a2, a3⟩ := All.inv3 a
    try dsimp only [cxOf, Cx.nox, Cx.wish]
    have w1 := ok.w1
    have w2 := ok.w2
    have l1 : w - 1 < A.length := by omega
    have l2 : w - 1 < v.length := by rw [ok.len]; omega
    have l3 : w < v.length := by rw [ok.len]; exact w2
    have ew : ((w : Int) - 1) = ((w - 1 : Nat) : Int) := by omega
    have A1 := ok.ar _ (gd_mem (z := 1) l1)
    have A2 := ok.ar _ (gd_mem (z := 1) w2)
    have s1 := ok.sm _ (gd_mem (z := 0) l2)
    have s2 := ok.sm _ (gd_mem (z := 0) l3)
    revert A1 A2 s1 s2
    generalize ha : A.getD (w - 1) 1 = a
    generalize hb : A.getD w 1 = b
    generalize hx : v.getD (w - 1) 0 = x
    generalize hy : v.getD w 0 = y
    intro A1 A2 s1 s2
    have fab : fr (mkRat 1 (a + b).toNat) = .tup [.int 1, .int (a + b)] := by
      rw [fr_over (by omega), Int.toNat_of_nonneg (by omega)]
    have sab : Sm 11 (mkRat 1 (a + b).toNat) := smMk (by omega) (by decide) (by omega)
    have sa : Sm 10 ((a : Int) : Rat) := Sm.int (by omega) (by decide)
    have sb : Sm 10 ((b : Int) : Rat) := Sm.int (by omega) (by decide)
    have sxy := (s1.add s2).mul sab
    refine q_when (b := false) (et_t (EvD.is (ed_inO (K := K) (neg := true) (b := true) (ed_var rfl a2) (ed_var rfl a1) ⟨A, v, L, _, rfl, ?_⟩) rfl)) (fun z => nomatch z) (fun _ H1 e1 => ?_)
    · unfold inR
      rw [decide_eq_true (show (0 : Int) < (w : Int) by omega), decide_eq_true (show (w : Int) < (A.length : Int) by omega), decide_eq_false ok.nl]
      rfl
    refine q_parD (K := K) (d1 := .int a) (d2 := .int b) (ed_ixT (ed_fld (ed_var rfl (a1.ex e1)) T.c_Row T.n_Row_areas rfl) (ed_sub (ed_var rfl (a2.ex e1)) ed_int) (by rw [ew, at_iL l1, ha])) (ed_ixT (ed_fld (ed_var rfl (a1.ex e1)) T.c_Row T.n_Row_areas rfl) (ed_var rfl (a2.ex e1)) (by rw [at_iL w2, hb])) fun v3 v4 H2 e2 i3 i4 => ?_
    have E2 := e1.trans e2
    refine q_parD (K := K) (d1 := fr x) (d2 := fr y) (ed_ixT (ed_fld (ed_var rfl (a1.ex E2)) T.c_Row T.n_Row_volumes rfl) (ed_sub (ed_var rfl (a2.ex E2)) ed_int) (by rw [ew, at_frs l2, hx])) (ed_ixT (ed_fld (ed_var rfl (a1.ex E2)) T.c_Row T.n_Row_volumes rfl) (ed_var rfl (a2.ex E2)) (by rw [at_frs l3, hy])) fun v5 v6 H3 e3 i5 i6 => ?_
    have E3 := E2.trans e3
    refine q_asgD (K := K) (d := fr ((x + y) * mkRat 1 (a + b).toNat)) (ed_call (ea1 (ed_call (d := fr (x + y)) (ea1 (ed_var rfl i5) (ea1 (ed_var rfl i6) ea0)) ⟨x, y, rfl, s1.mono (by decide), s2.mono (by decide), rfl⟩) (ea1 (d := fr (mkRat 1 (a + b).toNat)) (EvD.is (ed_tup (K := K) (ea1 ed_int (ea1 (ed_add (ed_var rfl (i3.ex e3)) (ed_var rfl (i4.ex e3))) ea0)) (by show 2 ≤ 100000; decide)) fab.symm) ea0)) ⟨_, _, rfl, (s1.add s2).mono (by decide), sab.mono (by decide), rfl⟩) fun v7 H4 e4 i7 => ?_
    have E4 := E3.trans e4
    generalize he : (x + y) * mkRat 1 (a + b).toNat = e at i7 sxy
    refine q_asgD (K := K) (d := .tup [fr (e * (a : Rat)), fr (e * (b : Rat))]) (ed_tup (ea1 (ed_call (ea1 (ed_var rfl i7) (ea1 (d := fr ((a : Int) : Rat)) (EvD.is (ed_tup (K := K) (ea1 (ed_var rfl (i3.ex (e3.trans e4))) (ea1 ed_int ea0)) (by show 2 ≤ 100000; decide)) (fr_int a).symm) ea0)) ⟨_, _, rfl, sxy.mono (by decide), sa.mono (by decide), rfl⟩) (ea1 (ed_call (ea1 (ed_var rfl (i7)) (ea1 (d := fr ((b : Int) : Rat)) (EvD.is (ed_tup (K := K) (ea1 (ed_var rfl (i4.ex (e3.trans e4))) (ea1 ed_int ea0)) (by show 2 ≤ 100000; decide)) (fr_int b).symm) ea0)) ⟨_, _, rfl, sxy.mono (by decide), sb.mono (by decide), rfl⟩) ea0)) (by show 2 ≤ 100000; decide)) fun v8 H5 e5 i8 => ?_
    have E5 := E4.trans e5
    refine q_asgD (K := K) (d := fr s.q) (ed_call (ea1 (ed_var rfl (a3.ex E5)) ea0) (Tv.isex ok.sok)) fun v9 H6 e6 i9 => ?_
    have E6 := E5.trans e6
    have last : ∀ (lt : List Rat) (v10 : Option V) (H7 : Hp) (w8 : V), lt.length = 2 → lateOf a b x y s.q = lt → Ex H H7 → Is K H7 w8 (.tup (frs lt)) → EvD K (tCall (spD K R_with_volumes) [] E0 (tCons (tVar 0) (tCons (tOp (rCatA K) (tOp (rCatA K) (tSl (rSlA K) (tFld K (tVar 0) "volumes") tNoPart (tPart (tOp (rI0 fun i j => .int (i - j)) (tVar 1) (tC (.int 1))))) (tVar 8)) (tSl (rSlA K) (tFld K (tVar 0) "volumes") (tPart (tOp (rI0 fun i j => .int (i + j)) (tVar 1) (tC (.int 1)))) tNoPart)) tNil))) [some u, some u2, some u3, some v3, some v4, some v5, some v6, some v7, some w8, some v9, v10] H7 (rowD A (opn A v w s.q) L) := by
      intro lt v10 H7 w8 hl hlt E7 i10
      refine ed_call (ea1 (ed_var rfl (a1.ex E7)) (ea1 (EvD.is (ed_catA (K := K) (ed_catA (ed_slA (lo := none) (hi := some ((w - 1 : Nat) : Int)) (ed_fld (ed_var rfl (a1.ex E7)) T.c_Row T.n_Row_volumes rfl) eo_none (eo_s (EvD.is (ed_sub (ed_var rfl (a2.ex E7)) ed_int) (by rw [ew])))) (ed_var rfl i10) ?_) (ed_slA (lo := some ((w + 1 : Nat) : Int)) (hi := none) (ed_fld (ed_var rfl (a1.ex E7)) T.c_Row T.n_Row_volumes rfl) (eo_s (EvD.is (ed_add (ed_var rfl (a2.ex E7)) ed_int) (by rw [Int.natCast_add]; rfl))) eo_none) ?_) ?_) ea0)) ⟨A, v, opn A v w s.q, L, rfl, rfl⟩
      · rw [cut_to, List.length_take, frs_len, frs_len]
        have := ok.al
        have := ok.len
        omega
      · rw [cut_to, cut_from, List.length_append, List.length_take, List.length_drop, frs_len, frs_len]
        have := ok.al
        have := ok.len
        omega
      · rw [cut_to, cut_from]
        unfold opn WD.frs
        rw [ha, hb, hx, hy, hlt, List.map_append, List.map_append, List.map_take, List.map_drop, List.append_assoc]
    have hq : (x + y) * mkRat 1 (a + b).toNat = e := he
    have fin : ∀ (lt : List Rat) (v10 : Option V) (H7 : Hp) (w8 : V), lt.length = 2 → lateOf a b x y s.q = lt → Ex H6 H7 → Is K H7 w8 (.tup (frs lt)) → tRet (tCall (spD K R_with_volumes) [] E0 (tCons (tVar 0) (tCons (tOp (rCatA K) (tOp (rCatA K) (tSl (rSlA K) (tFld K (tVar 0) "volumes") tNoPart (tPart (tOp (rI0 fun i j => .int (i - j)) (tVar 1) (tC (.int 1))))) (tVar 8)) (tSl (rSlA K) (tFld K (tVar 0) "volumes") (tPart (tOp (rI0 fun i j => .int (i + j)) (tVar 1) (tC (.int 1)))) tNoPart)) tNil))) { nx := fun _ H' => Q .non H', rt := Q } [some u, some u2, some u3, some v3, some v4, some v5, some v6, some v7, some w8, some v9, v10] H7 := by
      intro lt v10 H7 w8 hl hlt e7 i10
      exact s_retD (last lt v10 H7 w8 hl hlt (E6.trans e7) i10) fun z H8 e8 iz => q _ _ ((E6.trans e7).trans e8) iz
    by_cases hs : s.q = 1
    · refine q_when (b := false) (et_t (EvD.is (ed_neD (K := K) (ed_var rfl i9) (EvD.is (ed_tup (K := K) (ea1 ed_int (ea1 ed_int ea0)) (by show 2 ≤ 100000; decide)) (fr_int 1).symm) (sh_fr _) (sh_fr _)) ?_)) (fun z => nomatch z) (fun _ H7 e7 => ?_)
      · rw [eqv_fr, decide_eq_true (by rw [hs]; rfl)]
        rfl
      · refine fin [e * (a : Rat), e * (b : Rat)] _ _ _ rfl ?_ e7 (i8.ex (e6.trans e7))
        unfold lateOf
        rw [hq, if_pos hs]
    · refine q_when (b := true) (et_t (EvD.is (ed_neD (K := K) (ed_var rfl i9) (EvD.is (ed_tup (K := K) (ea1 ed_int (ea1 ed_int ea0)) (by show 2 ≤ 100000; decide)) (fr_int 1).symm) (sh_fr _) (sh_fr _)) ?_)) (fun _ H7 e7 => ?_) (fun z => nomatch z)
      · rw [eqv_fr, decide_eq_false (fun z => hs (z.trans (by rfl)))]
        rfl
      · have sea := sxy.mul sa
        have sm := (sea.sub s1).mul ok.ssm
        refine q_asgD (K := K) (d := fr ((e * (a : Rat) - x) * s.q)) (ed_call (ea1 (ed_call (d := fr (e * (a : Rat) - x)) (ea1 (ed_ixT (ed_var rfl (i8.ex (e6.trans e7))) ed_int rfl) (ea1 (ed_var rfl (i5.ex (((e4.trans e5).trans e6).trans e7))) ea0)) ⟨_, _, rfl, sea.mono (by decide), s1.mono (by decide), rfl⟩) (ea1 (ed_var rfl (i9.ex e7)) ea0)) ⟨_, _, rfl, (sea.sub s1).mono (by decide), ok.ssm.mono (by decide), rfl⟩) fun v10 H8 e8 i10 => ?_
        have e48 := (((e4.trans e5).trans e6).trans e7).trans e8
        refine s_asgD (K := K) (d := .tup (frs [x + (e * (a : Rat) - x) * s.q, y - (e * (a : Rat) - x) * s.q])) (ed_tup (ea1 (ed_call (d := fr (x + (e * (a : Rat) - x) * s.q)) (ea1 (ed_var rfl (i5.ex e48)) (ea1 (ed_var rfl i10) ea0)) ⟨_, _, rfl, s1.mono (by decide), sm.mono (by decide), rfl⟩) (ea1 (ed_call (d := fr (y - (e * (a : Rat) - x) * s.q)) (ea1 (ed_var rfl (i6.ex e48)) (ea1 (ed_var rfl i10) ea0)) ⟨_, _, rfl, s2.mono (by decide), sm.mono (by decide), rfl⟩) ea0)) (by show 2 ≤ 100000; decide)) fun w8 H9 e9 iw => ?_
        refine fin _ _ _ _ rfl ?_ ((e7.trans e8).trans e9) iw
        unfold lateOf
        rw [hq, if_neg hs]
theorem ok_Row_opened2 (T : Txt K mg) : FnH P w K mg base 8 (He.ma K (He.ga K "Row") "opened") ["self", "weir", "share"] (spD K R_Row_opened) [.ref (He.dflAt ("Row", some "opened") 0 K)] := by
  refine fnH 2 0 (N := ["self", "weir", "share", "first", "second", "ahead", "beyond", "even", "late", "part", "moved"]) (st := s_Row_opened) T.f_Row_opened sc_Row_opened (fun vs H Q E h => ?_) (List.cons_ne_nil _ _) rfl (fun _ _ _ _ _ _ _ us its h1 h2 => match us, its, h1, h2 with | [u0, u1], [z0], _, _ => ⟨_, rfl, rfl⟩) (fun cdv A outer s H vs Q E hr h => ⟨_, (pss_cons (ps_if (pt_cmpR (notInO_of (ok_Row___contains__ T) T.x_Row___contains__ (hr.mono (by decide))) (pv 1) (pv 0) (by rfl)) (pss_one ps_never) pss_nil) (pss_cons (ps_par (i := 3) (j := 4) (by rfl) sc_Row_opened.nd rfl rfl (by decide) rfl rfl (pa_cons (pe_ix ix_tup (pe_fld (pv 0) rfl) (pe_op op_sub (pv 1) pe_int) (fun _ _ => rfl)) (pa_cons (pe_ix ix_tup (pe_fld (pv 0) rfl) (pv 1) (fun _ _ => rfl)) pa_nil)) (by rfl)) (pss_cons (ps_par (i := 5) (j := 6) (by rfl) sc_Row_opened.nd rfl rfl (by decide) rfl rfl (pa_cons (pe_ix ix_tup (pe_fld (pv 0) rfl) (pe_op op_sub (pv 1) pe_int) (fun _ _ => rfl)) (pa_cons (pe_ix ix_tup (pe_fld (pv 0) rfl) (pv 1) (fun _ _ => rfl)) pa_nil)) (by rfl)) (pss_cons (ps_asg (pe_callG (ok_times T) (hr.mono (by decide)) (by rfl) T.m_times (pa_cons (pe_callG (ok_plus T) (hr.mono (by decide)) (by rfl) T.m_plus (pa_cons (pv 5) (pa_cons (pv 6) pa_nil))) (pa_cons (pe_tup (pa_cons pe_int (pa_cons (pe_op op_add (pv 3) (pv 4)) pa_nil))) pa_nil))) (pg_name (i := 7) sc_Row_opened.nd rfl (.inl rfl))) (pss_cons (ps_asg (pe_tup (pa_cons (pe_callG (ok_times T) (hr.mono (by decide)) (by rfl) T.m_times (pa_cons (pv 7) (pa_cons (pe_tup (pa_cons (pv 3) (pa_cons pe_int pa_nil))) pa_nil))) (pa_cons (pe_callG (ok_times T) (hr.mono (by decide)) (by rfl) T.m_times (pa_cons (pv 7) (pa_cons (pe_tup (pa_cons (pv 4) (pa_cons pe_int pa_nil))) pa_nil))) pa_nil))) (pg_name (i := 8) sc_Row_opened.nd rfl (.inl rfl))) (pss_cons (ps_asg (pe_callG (ok_exact T) (hr.mono (by decide)) (by rfl) T.m_exact (pa_cons (pv 2) pa_nil)) (pg_name (i := 9) sc_Row_opened.nd rfl (.inl rfl))) (pss_cons (ps_if (pt_cmpR (op_neD (hr.units)) (pv 9) (pe_tup (pa_cons pe_int (pa_cons pe_int pa_nil))) (nomark _)) (pss_cons (ps_asg (pe_callG (ok_times T) (hr.mono (by decide)) (by rfl) T.m_times (pa_cons (pe_callG (ok_minus T) (hr.mono (by decide)) (by rfl) T.m_minus (pa_cons (pe_ix ix_tup (pv 8) pe_int (fun _ _ => rfl)) (pa_cons (pv 5) pa_nil))) (pa_cons (pv 9) pa_nil))) (pg_name (i := 10) sc_Row_opened.nd rfl (.inl rfl))) (pss_one (ps_asg (pe_tup (pa_cons (pe_callG (ok_plus T) (hr.mono (by decide)) (by rfl) T.m_plus (pa_cons (pv 5) (pa_cons (pv 10) pa_nil))) (pa_cons (pe_callG (ok_minus T) (hr.mono (by decide)) (by rfl) T.m_minus (pa_cons (pv 6) (pa_cons (pv 10) pa_nil))) pa_nil))) (pg_name (i := 8) sc_Row_opened.nd rfl (.inl rfl))))) pss_nil) (pss_one (ps_ret (pe_callG (ok_with_volumes T) (hr.mono (by decide)) (by rfl) T.m_with_volumes (pa_cons (pv 0) (pa_cons (pe_op op_catA (pe_op op_catA (pe_slice sl_tupA (pe_fld (pv 0) rfl) po_none (po_some (pe_op op_sub (pv 1) pe_int))) (pv 8)) (pe_slice sl_tupA (pe_fld (pv 0) rfl) (po_some (pe_op op_add (pv 1) pe_int)) po_none)) pa_nil)))))))))))), ?_⟩)
  · obtain ⟨ds, d, a, ⟨A, v, L, w, s, rfl, _⟩, _⟩ := h
    exact a.len
  · obtain ⟨ds, d, a, ⟨A, v, L, w, s, rfl, ok, rfl⟩, q⟩ := h
    obtain ⟨u, u2, u3, rfl, a1, a2, a3⟩ := All.inv3 a
    try dsimp only [cxOf, Cx.nox, Cx.wish]
    have w1 := ok.w1
    have w2 := ok.w2
    have l1 : w - 1 < A.length := by omega
    have l2 : w - 1 < v.length := by rw [ok.len]; omega
    have l3 : w < v.length := by rw [ok.len]; exact w2
    have ew : ((w : Int) - 1) = ((w - 1 : Nat) : Int) := by omega
    have A1 := ok.ar _ (gd_mem (z := 1) l1)
    have A2 := ok.ar _ (gd_mem (z := 1) w2)
    have s1 := ok.sm _ (gd_mem (z := 0) l2)
    have s2 := ok.sm _ (gd_mem (z := 0) l3)
    revert A1 A2 s1 s2
    generalize ha : A.getD (w - 1) 1 = a
    generalize hb : A.getD w 1 = b
    generalize hx : v.getD (w - 1) 0 = x
    generalize hy : v.getD w 0 = y
    intro A1 A2 s1 s2
    have fab : fr (mkRat 1 (a + b).toNat) = .tup [.int 1, .int (a + b)] := by
      rw [fr_over (by omega), Int.toNat_of_nonneg (by omega)]
    have sab : Sm 11 (mkRat 1 (a + b).toNat) := smMk (by omega) (by decide) (by omega)
    have sa : Sm 10 ((a : Int) : Rat) := Sm.int (by omega) (by decide)
    have sb : Sm 10 ((b : Int) : Rat) := Sm.int (by omega) (by decide)
    have sxy := (s1.add s2).mul sab
    refine q_when (b := false) (et_t (EvD.is (ed_inO (K := K) (neg := true) (b := true) (ed_var rfl a2) (ed_var rfl a1) ⟨A, v, L, _, rfl, ?_⟩) rfl)) (fun z => nomatch z) (fun _ H1 e1 => ?_)
    · unfold inR
      rw [decide_eq_true (show (0 : Int) < (w : Int) by omega), decide_eq_true (show (w : Int) < (A.length : Int) by omega), decide_eq_false ok.nl]
      rfl
    refine q_parD (K := K) (d1 := .int a) (d2 := .int b) (ed_ixT (ed_fld (ed_var rfl (a1.ex e1)) T.c_Row T.n_Row_areas rfl) (ed_sub (ed_var rfl (a2.ex e1)) ed_int) (by rw [ew, at_iL l1, ha])) (ed_ixT (ed_fld (ed_var rfl (a1.ex e1)) T.c_Row T.n_Row_areas rfl) (ed_var rfl (a2.ex e1)) (by rw [at_iL w2, hb])) fun v3 v4 H2 e2 i3 i4 => ?_
    have E2 := e1.trans e2
    refine q_parD (K := K) (d1 := fr x) (d2 := fr y) (ed_ixT (ed_fld (ed_var rfl (a1.ex E2)) T.c_Row T.n_Row_volumes rfl) (ed_sub (ed_var rfl (a2.ex E2)) ed_int) (by rw [ew, at_frs l2, hx])) (ed_ixT (ed_fld (ed_var rfl (a1.ex E2)) T.c_Row T.n_Row_volumes rfl) (ed_var rfl (a2.ex E2)) (by rw [at_frs l3, hy])) fun v5 v6 H3 e3 i5 i6 => ?_
    have E3 := E2.trans e3
    refine q_asgD (K := K) (d := fr ((x + y) * mkRat 1 (a + b).toNat)) (ed_call (ea1 (ed_call (d := fr (x + y)) (ea1 (ed_var rfl i5) (ea1 (ed_var rfl i6) ea0)) ⟨x, y, rfl, s1.mono (by decide), s2.mono (by decide), rfl⟩) (ea1 (d := fr (mkRat 1 (a + b).toNat)) (EvD.is (ed_tup (K := K) (ea1 ed_int (ea1 (ed_add (ed_var rfl (i3.ex e3)) (ed_var rfl (i4.ex e3))) ea0)) (by show 2 ≤ 100000; decide)) fab.symm) ea0)) ⟨_, _, rfl, (s1.add s2).mono (by decide), sab.mono (by decide), rfl⟩) fun v7 H4 e4 i7 => ?_
    have E4 := E3.trans e4
    generalize he : (x + y) * mkRat 1 (a + b).toNat = e at i7 sxy
    refine q_asgD (K := K) (d := .tup [fr (e * (a : Rat)), fr (e * (b : Rat))]) (ed_tup (ea1 (ed_call (ea1 (ed_var rfl i7) (ea1 (d := fr ((a : Int) : Rat)) (EvD.is (ed_tup (K := K) (ea1 (ed_var rfl (i3.ex (e3.trans e4))) (ea1 ed_int ea0)) (by show 2 ≤ 100000; decide)) (fr_int a).symm) ea0)) ⟨_, _, rfl, sxy.mono (by decide), sa.mono (by decide), rfl⟩) (ea1 (ed_call (ea1 (ed_var rfl (i7)) (ea1 (d := fr ((b : Int) : Rat)) (EvD.is (ed_tup (K := K) (ea1 (ed_var rfl (i4.ex (e3.trans e4))) (ea1 ed_int ea0)) (by show 2 ≤ 100000; decide)) (fr_int b).symm) ea0)) ⟨_, _, rfl, sxy.mono (by decide), sb.mono (by decide), rfl⟩) ea0)) (by show 2 ≤ 100000; decide)) fun v8 H5 e5 i8 => ?_
    have E5 := E4.trans e5
    refine q_asgD (K := K) (d := fr s.q) (ed_call (ea1 (ed_var rfl (a3.ex E5)) ea0) (Tv.isex ok.sok)) fun v9 H6 e6 i9 => ?_
    have E6 := E5.trans e6
    have last : ∀ (lt : List Rat) (v10 : Option V) (H7 : Hp) (w8 : V), lt.length = 2 → lateOf a b x y s.q = lt → Ex H H7 → Is K H7 w8 (.tup (frs lt)) → EvD K (tCall (spD K R_with_volumes) [] E0 (tCons (tVar 0) (tCons (tOp (rCatA K) (tOp (rCatA K) (tSl (rSlA K) (tFld K (tVar 0) "volumes") tNoPart (tPart (tOp (rI0 fun i j => .int (i - j)) (tVar 1) (tC (.int 1))))) (tVar 8)) (tSl (rSlA K) (tFld K (tVar 0) "volumes") (tPart (tOp (rI0 fun i j => .int (i + j)) (tVar 1) (tC (.int 1)))) tNoPart)) tNil))) [some u, some u2, some u3, some v3, some v4, some v5, some v6, some v7, some w8, some v9, v10] H7 (rowD A (opn A v w s.q) L) := by
      intro lt v10 H7 w8 hl hlt E7 i10
      refine ed_call (ea1 (ed_var rfl (a1.ex E7)) (ea1 (EvD.is (ed_catA (K := K) (ed_catA (ed_slA (lo := none) (hi := some ((w - 1 : Nat) : Int)) (ed_fld (ed_var rfl (a1.ex E7)) T.c_Row T.n_Row_volumes rfl) eo_none (eo_s (EvD.is (ed_sub (ed_var rfl (a2.ex E7)) ed_int) (by rw [ew])))) (ed_var rfl i10) ?_) (ed_slA (lo := some ((w + 1 : Nat) : Int)) (hi := none) (ed_fld (ed_var rfl (a1.ex E7)) T.c_Row T.n_Row_volumes rfl) (eo_s (EvD.is (ed_add (ed_var rfl (a2.ex E7)) ed_int) (by rw [Int.natCast_add]; rfl))) eo_none) ?_) ?_) ea0)) ⟨A, v, opn A v w s.q, L, rfl, rfl⟩
      · rw [cut_to, List.length_take, frs_len, frs_len]
        have := ok.al
        have := ok.len
        omega
      · rw [cut_to, cut_from, List.length_append, List.length_take, List.length_drop, frs_len, frs_len]
        have := ok.al
        have := ok.len
        omega
      · rw [cut_to, cut_from]
        unfold opn WD.frs
        rw [ha, hb, hx, hy, hlt, List.map_append, List.map_append, List.map_take, List.map_drop, List.append_assoc]
    have hq : (x + y) * mkRat 1 (a + b).toNat = e := he
    have fin : ∀ (lt : List Rat) (v10 : Option V) (H7 : Hp) (w8 : V), lt.length = 2 → lateOf a b x y s.q = lt → Ex H6 H7 → Is K H7 w8 (.tup (frs lt)) → tRet (tCall (spD K R_with_volumes) [] E0 (tCons (tVar 0) (tCons (tOp (rCatA K) (tOp (rCatA K) (tSl (rSlA K) (tFld K (tVar 0) "volumes") tNoPart (tPart (tOp (rI0 fun i j => .int (i - j)) (tVar 1) (tC (.int 1))))) (tVar 8)) (tSl (rSlA K) (tFld K (tVar 0) "volumes") (tPart (tOp (rI0 fun i j => .int (i + j)) (tVar 1) (tC (.int 1)))) tNoPart)) tNil))) { nx := fun _ H' => Q .non H', rt := Q } [some u, some u2, some u3, some v3, some v4, some v5, some v6, some v7, some w8, some v9, v10] H7 := by
      intro lt v10 H7 w8 hl hlt e7 i10
      exact s_retD (last lt v10 H7 w8 hl hlt (E6.trans e7) i10) fun z H8 e8 iz => q _ _ ((E6.trans e7).trans e8) iz
    by_cases hs : s.q = 1
    · refine q_when (b := false) (et_t (EvD.is (ed_neD (K := K) (ed_var rfl i9) (EvD.is (ed_tup (K := K) (ea1 ed_int (ea1 ed_int ea0)) (by show 2 ≤ 100000; decide)) (fr_int 1).symm) (sh_fr _) (sh_fr _)) ?_)) (fun z => nomatch z) (fun _ H7 e7 => ?_)
      · rw [eqv_fr, decide_eq_true (by rw [hs]; rfl)]
        rfl
      · refine fin [e * (a : Rat), e * (b : Rat)] _ _ _ rfl ?_ e7 (i8.ex (e6.trans e7))
        unfold lateOf
        rw [hq, if_pos hs]
    · refine q_when (b := true) (et_t (EvD.is (ed_neD (K := K) (ed_var rfl i9) (EvD.is (ed_tup (K := K) (ea1 ed_int (ea1 ed_int ea0)) (by show 2 ≤ 100000; decide)) (fr_int 1).symm) (sh_fr _) (sh_fr _)) ?_)) (fun _ H7 e7 => ?_) (fun z => nomatch z)
      · rw [eqv_fr, decide_eq_false (fun z => hs (z.trans (by rfl)))]
        rfl
      · have sea := sxy.mul sa
        have sm := (sea.sub s1).mul ok.ssm
        refine q_asgD (K := K) (d := fr ((e * (a : Rat) - x) * s.q)) (ed_call (ea1 (ed_call (d := fr (e * (a : Rat) - x)) (ea1 (ed_ixT (ed_var rfl (i8.ex (e6.trans e7))) ed_int rfl) (ea1 (ed_var rfl (i5.ex (((e4.trans e5).trans e6).trans e7))) ea0)) ⟨_, _, rfl, sea.mono (by decide), s1.mono (by decide), rfl⟩) (ea1 (ed_var rfl (i9.ex e7)) ea0)) ⟨_, _, rfl, (sea.sub s1).mono (by decide), ok.ssm.mono (by decide), rfl⟩) fun v10 H8 e8 i10 => ?_
        have e48 := (((e4.trans e5).trans e6).trans e7).trans e8
        refine s_asgD (K := K) (d := .tup (frs [x + (e * (a : Rat) - x) * s.q, y - (e * (a : Rat) - x) * s.q])) (ed_tup (ea1 (ed_call (d := fr (x + (e * (a : Rat) - x) * s.q)) (ea1 (ed_var rfl (i5.ex e48)) (ea1 (ed_var rfl i10) ea0)) ⟨_, _, rfl, s1.mono (by decide), sm.mono (by decide), rfl⟩) (ea1 (ed_call (d := fr (y - (e * (a : Rat) - x) * s.q)) (ea1 (ed_var rfl (i6.ex e48)) (ea1 (ed_var rfl i10) ea0)) ⟨_, _, rfl, s2.mono (by decide), sm.mono (by decide), rfl⟩) ea0)) (by show 2 ≤ 100000; decide)) fun w8 H9 e9 iw => ?_
        refine fin _ _ _ _ rfl ?_ ((e7.trans e8).trans e9) iw
        unfold lateOf
        rw [hq, if_neg hs]

end
end My
end
section
set_option Elab.async false
set_option linter.all false
set_option maxRecDepth 100000
set_option maxHeartbeats 4000000
namespace My
open PySem PySem.Spec PyProof.Rows L2 Evl WD
local macro_rules | `(tactic| walk_at "exgo") => `(tactic| first | exact Ex.refl _ | assumption | (refine' Ex.trans ?ea ?eb; (case eb => assumption); (case ea => walk_at "exgo")))
local macro_rules | `(tactic| walk_at "is") => `(tactic| first | assumption | (refine' Is.ex ?e ?h; (case h => assumption); (case e => walk_at "exgo")) | exact Is.int _ | exact Is.bl _ | exact Is.non)
local macro_rules | `(tactic| walk_at "ev") => `(tactic| first
  | exact ed_int | exact ed_bl | exact ed_non | exact ed_str
  | ((with_reducible apply ed_var) <;> first | exact rfl | walk_at "is")
  | ((with_reducible apply ed_add) <;> walk_at "ev")
  | ((with_reducible apply ed_sub) <;> walk_at "ev")
  | ((with_reducible apply ed_neg) <;> walk_at "ev")
  | ((with_reducible apply ed_mulW) <;> try walk_at "ev")
  | ((with_reducible apply ed_divW) <;> try walk_at "ev")
  | ((with_reducible apply ed_mod) <;> try walk_at "ev")
  | ((with_reducible apply ed_ixT) <;> first | exact rfl | walk_at "ev" | skip)
  | ((with_reducible apply ed_ixL) <;> first | exact rfl | walk_at "ev" | skip)
  | ((with_reducible apply ed_lt) <;> walk_at "ev")
  | ((with_reducible apply ed_le) <;> walk_at "ev")
  | ((with_reducible apply ed_gt) <;> walk_at "ev")
  | ((with_reducible apply ed_ge) <;> walk_at "ev")
  | ((with_reducible apply ed_eqI) <;> walk_at "ev")
  | ((with_reducible apply ed_neI) <;> walk_at "ev")
  | ((with_reducible apply ed_gcd) <;> walk_at "ev")
  | ((with_reducible apply ed_abs) <;> walk_at "ev")
  | ((with_reducible apply ed_intI) <;> walk_at "ev")
  | ((with_reducible apply ed_intB) <;> walk_at "ev")
  | ((with_reducible apply ed_max2) <;> walk_at "ev")
  | ((with_reducible apply ed_min2) <;> walk_at "ev")
  | ((with_reducible apply ed_lenT) <;> walk_at "ev")
  | ((with_reducible apply ed_lenL) <;> walk_at "ev")
  | ((with_reducible apply ed_tuple) <;> walk_at "ev")
  | ((with_reducible apply ed_tupleT) <;> walk_at "ev")
  | ((with_reducible apply ed_tup) <;> first | walk_at "ea" | (simp; done) | skip)
  | ((with_reducible apply et_t) <;> walk_at "ev")
  | ((with_reducible apply et_v) <;> walk_at "ev"))
local macro_rules | `(tactic| walk_at "ea") => `(tactic| first
  | exact ea0
  | ((with_reducible apply ea1) <;> first | walk_at "ev" | walk_at "ea" | skip))

section
variable {P : Program} {w : World} {K : PySem.W.Frag} {mg : Str → Option Value} {base : Heap}
structure LineIs (K : PySem.W.Frag) (H : Hp) (x p r : Addr) (A : List Int) (B : Nat) (s : List Rat) (ts : List Int) (bs : List Nat) (dx : Addr) (va : V) : Prop where
  ob : H x = some (.ins (He.ga K "Line") dx [("areas", va), ("bottom", .int (B : Int)), ("tops", .ref p), ("bottoms", .ref r)])
  ar : Is K H va (.tup (iL A))
  pr : p ≠ r
  xp : x ≠ p
  xr : x ≠ r
  tp : H p = some (.lst (ts.map V.int))
  bp : H r = some (.lst ((bs.map Int.ofNat).map V.int))
  lt : ts.length = s.length
  lb : bs.length = s.length
  eq : ∀ j (h : j < s.length), 0 < bs[j] ∧ bs[j] ∣ B ∧ ((ts[j] : Int) : Rat) = s[j] * ((bs[j] : Int) : Rat)
/-- a line: what stands ahead of each weir, told with a number below that is a multiple of all -/
def LineAt (K : PySem.W.Frag) (H : Hp) (x p r : Addr) (A : List Int) (B : Nat) (s : List Rat) : Prop := ∃ ts bs dx va, LineIs K H x p r A B s ts bs dx va
structure LineOk (A : List Int) (B : Nat) (s : List Rat) : Prop where
  len : s.length = A.length + 1
  al : A.length ≤ 24
  ar : ∀ a ∈ A, 1 ≤ a ∧ a ≤ 1000
  b0 : 0 < B
  bs : B < 2 ^ 2000
  lo : ∀ q ∈ s, 0 ≤ q
  hi : ∀ q ∈ s, q ≤ ((2 ^ 900 : Int) : Rat)
theorem LineAt.ex {H H' : Hp} {x p r : Addr} {A : List Int} {B : Nat} {s : List Rat} (h : LineAt K H x p r A B s) (e : Ex H H') : LineAt K H' x p r A B s := by
  obtain ⟨ts, bs, dx, va, h⟩ := h
  exact ⟨ts, bs, dx, va, ⟨e _ _ h.ob, h.ar.ex e, h.pr, h.xp, h.xr, e _ _ h.tp, e _ _ h.bp, h.lt, h.lb, h.eq⟩⟩
theorem LineAt.mu {H H' : Hp} {L : List Addr} {x p r : Addr} {A : List Int} {B : Nat} {s : List Rat} (h : LineAt K H x p r A B s) (m : Mu L H H') (n : ∀ l ∈ L, l ≠ x ∧ l ≠ p ∧ l ≠ r) : LineAt K H' x p r A B s := by
  obtain ⟨ts, bs, dx, va, h⟩ := h
  exact ⟨ts, bs, dx, va, ⟨m.keep (fun z => (n _ z).1 rfl) h.ob, h.ar.gt m.2 (iLlf A), h.pr, h.xp, h.xr, m.keep (fun z => (n _ z).2.1 rfl) h.tp, m.keep (fun z => (n _ z).2.2 rfl) h.bp, h.lt, h.lb, h.eq⟩⟩
theorem at_ints {L : List Int} {j : Nat} (h : j < L.length) : atI (iL L) (j : Int) = some (.int L[j]) := by
  rw [atI_nat (by rw [iLlen]; exact h)]
  unfold iL
  rw [List.getElem_map]
theorem ixN_nat {n j : Nat} (h : j < n) : ixN n (j : Int) = some j := by
  unfold ixN
  rw [if_pos (Int.natCast_nonneg j), if_pos (by omega)] <;> rfl
theorem top_small {A : List Int} {B : Nat} {s : List Rat} (ok : LineOk A B s) {j : Nat} (h : j < s.length) {t : Int} {b : Nat} (hb : b ≤ B) (e : (t : Rat) = s[j] * ((b : Int) : Rat)) : t.natAbs < 2 ^ 2901 := by
  have h0 := ok.lo _ (List.getElem_mem h)
  have h1 := ok.hi _ (List.getElem_mem h)
  have hb0 : (0 : Rat) ≤ ((b : Int) : Rat) := by exact_mod_cast Int.natCast_nonneg b
  have h2 : (0 : Rat) ≤ (t : Rat) := by
    rw [e]
    exact Rat.mul_nonneg h0 hb0
  have h3 : (t : Rat) ≤ ((2 ^ 900 * (b : Int) : Int) : Rat) := by
    rw [e, Rat.intCast_mul]
    exact Rat.mul_le_mul_of_nonneg_right h1 hb0
  have h4 : 0 ≤ t := by exact_mod_cast h2
  have h5 : t ≤ 2 ^ 900 * (b : Int) := by exact_mod_cast h3
  have h6 : b < 2 ^ 2000 := Nat.lt_of_le_of_lt hb ok.bs
  have h7 : t.natAbs ≤ 2 ^ 900 * b := by
    have : ((2 ^ 900 * b : Nat) : Int) = 2 ^ 900 * (b : Int) := by
      rw [Int.natCast_mul]
      rfl
    omega
  have h8 : 2 ^ 900 * b < 2 ^ 900 * 2 ^ 2000 := Nat.mul_lt_mul_of_pos_left h6 (Nat.two_pow_pos 900)
  rw [← Nat.pow_add] at h8
  exact Nat.lt_of_le_of_lt h7 (Nat.lt_of_lt_of_le h8 (Nat.pow_le_pow_right (by decide) (by decide)))
theorem top_eq {t : Int} {b B : Nat} {q : Rat} (h0 : 0 < b) (h : b ∣ B) (e : (t : Rat) = q * ((b : Int) : Rat)) : ((t * ((B : Int) / (b : Int)) : Int) : Rat) = q * ((B : Int) : Rat) := by
  obtain ⟨c, rfl⟩ := h
  rw [show (((b * c : Nat) : Int) / (b : Int)) = (c : Int) from by
    rw [Int.natCast_mul]
    exact Int.mul_ediv_cancel_left _ (by omega), Rat.intCast_mul, e, Int.natCast_mul, Rat.intCast_mul, Rat.mul_assoc]
def sp_top (K : PySem.W.Frag) : Sp := fun vs H Q _ => ∃ x p r A B s, ∃ j : Nat, vs = [.ref x, .int (j : Int)] ∧ LineAt K H x p r A B s ∧ LineOk A B s ∧ j < s.length ∧ ∀ (t : Int) H', Mu [p, r] H H' → LineAt K H' x p r A B s → (∀ h : j < s.length, (t : Rat) = s[j] * ((B : Int) : Rat)) → Q (.int t) H'
theorem ok_Line_top (T : Txt K mg) : FnG P w K mg base 1 (He.ma K (He.ga K "Line") "top") ["self", "at"] (sp_top K) := by
  refine fnG (N := ["self", "at"]) (st := s_Line_top) T.f_Line_top sc_Line_top (fun vs H Q E h => ?_) (fun _ _ _ _ _ _ us hl => match us, hl with | [_, _], _ => rfl) (fun cdv A outer s H vs Q E hr h => ⟨_, (pss_cons (ps_if (pt_cmpR op_ne (pe_ix ix_list (pe_fld (pv 0) rfl) (pv 1) (fun _ _ => rfl)) (pe_fld (pv 0) rfl) (nomark _)) (pss_cons (ps_asg (pe_op op_mulW (pe_ix ix_list (pe_fld (pv 0) rfl) (pv 1) (fun _ _ => rfl)) (pe_op op_fdivW (pe_fld (pv 0) rfl) (pe_ix ix_list (pe_fld (pv 0) rfl) (pv 1) (fun _ _ => rfl)))) (pg_sub (pe_fld (pv 0) rfl) (pv 1) set_list)) (pss_one (ps_asg (pe_fld (pv 0) rfl) (pg_sub (pe_fld (pv 0) rfl) (pv 1) set_list)))) pss_nil) (pss_one (ps_ret (pe_ix ix_list (pe_fld (pv 0) rfl) (pv 1) (fun _ _ => rfl))))), ?_⟩)
  · obtain ⟨x, p, r, A, B, s, j, rfl, _⟩ := h
    rfl
  · obtain ⟨x, p, r, A, B, s, j, rfl, ⟨ts, bs, dx, va, h⟩, ok, hj, q⟩ := h
    try dsimp only [cxOf, Cx.nox, Cx.wish]
    have jt : j < ts.length := by rw [h.lt]; exact hj
    have jb : j < bs.length := by rw [h.lb]; exact hj
    obtain ⟨q0, q1, q2⟩ := h.eq j hj
    have jb2 : j < (bs.map Int.ofNat).length := by rw [List.length_map]; exact jb
    have gb : (bs.map Int.ofNat)[j] = ((bs[j] : Nat) : Int) := List.getElem_map _
    have bl : bs[j] ≤ B := Nat.le_of_dvd ok.b0 q1
    have rtp : ∀ H1, Ex H H1 → EvD K (tFld K (tVar 0) "tops") [some (.ref x), some (.int (j : Int))] H1 (.lst (iL ts)) := fun H1 e => ed_fldX (ev_ref rfl) (e _ _ h.ob) T.c_Line T.n_Line_tops rfl (.lst (.inl (e _ _ h.tp)) (all_ints _ _))
    have rbp : ∀ H1, Ex H H1 → EvD K (tFld K (tVar 0) "bottoms") [some (.ref x), some (.int (j : Int))] H1 (.lst (iL (bs.map Int.ofNat))) := fun H1 e => ed_fldX (ev_ref rfl) (e _ _ h.ob) T.c_Line T.n_Line_bottoms rfl (.lst (.inl (e _ _ h.bp)) (all_ints _ _))
    have rbo : ∀ H1, Ex H H1 → EvD K (tFld K (tVar 0) "bottom") [some (.ref x), some (.int (j : Int))] H1 (.int (B : Int)) := fun H1 e => ed_fldX (ev_ref rfl) (e _ _ h.ob) T.c_Line T.n_Line_bottom rfl (.int _)
    have fin : ∀ (ts' : List Int) (bs' : List Nat) (H' : Hp), Mu [p, r] H H' → LineIs K H' x p r A B s ts' bs' dx va → (∀ h : j < ts'.length, ((ts'[j] : Int) : Rat) = s[j] * ((B : Int) : Rat)) → tRet (tOp (rIxL K) (tFld K (tVar 0) "tops") (tVar 1)) { nx := fun _ H' => Q .non H', rt := Q } [some (.ref x), some (.int (j : Int))] H' := by
      intro ts' bs' H' mu l' e'
      have jt' : j < ts'.length := by rw [l'.lt]; exact hj
      refine s_retD (K := K) (d := .int ts'[j]) (ed_ixL (ed_fldX (ev_ref rfl) l'.ob T.c_Line T.n_Line_tops rfl (.lst (.inl l'.tp) (all_ints _ _))) (ed_var rfl (.int _)) (at_ints jt')) fun v H2 e2 i2 => ?_
      cases i2
      exact q _ _ (mu.trans (Mu.ex e2)) (LineAt.ex ⟨ts', bs', dx, va, l'⟩ e2) fun _ => e' jt'
    refine q_when (b := !decide (((bs[j] : Nat) : Int) = (B : Int))) (et_t (EvD.is (ed_neI (K := K) (ed_ixL (d := .int ((bs[j] : Nat) : Int)) (rbp H (Ex.refl H)) (ed_var rfl (.int _)) (by rw [at_ints jb2, gb])) (rbo H (Ex.refl H))) rfl)) (fun hb H1 e1 => ?_) (fun hb H1 e1 => ?_)
    · have hx1 := e1 _ _ h.ob
      have htp1 := e1 _ _ h.tp
      have hbp1 := e1 _ _ h.bp
      refine q_setD (K := K) (d := .int (ts[j] * ((B : Int) / ((bs[j] : Nat) : Int)))) htp1 (ed_mulW (ed_ixL (rtp H1 e1) (ed_var rfl (.int _)) (by rw [at_ints jt])) (ed_divW (rbo H1 e1) (ed_ixL (rbp H1 e1) (ed_var rfl (.int _)) (by rw [at_ints jb2, gb])) (divW (b := 2000) q0 (Nat.lt_of_le_of_lt bl ok.bs))) (mulW (a := 2901) (b := 2000) (top_small ok hj bl q2) ?_)) (ev_fldX (ev_ref rfl) hx1 T.c_Line T.n_Line_tops rfl) (ed_var (d := .int (j : Int)) rfl (.int _)) (ixN_nat (by rw [List.length_map]; exact jt)) fun v1 H2 e2 i1 => ?_
      · rw [← Int.natCast_ediv, Int.natAbs_natCast]
        exact Nat.lt_of_le_of_lt (Nat.div_le_self _ _) ok.bs
      · cases i1
        have hx2 := e2 _ _ hx1
        have htp2 := e2 _ _ htp1
        have hbp2 := e2 _ _ hbp1
        have ox : ∀ o, (upd H2 p o) x = some (.ins (He.ga K "Line") dx [("areas", va), ("bottom", .int (B : Int)), ("tops", .ref p), ("bottoms", .ref r)]) := fun o => by rw [upd_ne h.xp]; exact hx2
        have orr : ∀ o, (upd H2 p o) r = some (.lst ((bs.map Int.ofNat).map V.int)) := fun o => by rw [upd_ne h.pr.symm]; exact hbp2
        refine s_setD (K := K) (d := .int (B : Int)) (orr _) (ed_fldX (ev_ref rfl) (ox _) T.c_Line T.n_Line_bottom rfl (.int _)) (ev_fldX (ev_ref rfl) (ox _) T.c_Line T.n_Line_bottoms rfl) (ed_var (d := .int (j : Int)) rfl (.int _)) (ixN_nat (by rw [List.length_map]; exact jb2)) fun v2 H3 e3 i2 => ?_
        cases i2
        have g2 : Gt H2 (upd H2 p (.lst ((ts.map V.int).set j (V.int (ts[j] * ((B : Int) / ((bs[j] : Nat) : Int))))))) := Gt.lst htp2
        have g3 : Gt H3 (upd H3 r (.lst (((bs.map Int.ofNat).map V.int).set j (V.int (B : Int))))) := Gt.lst (e3 _ _ (orr _))
        refine fin (ts.set j (ts[j] * ((B : Int) / ((bs[j] : Nat) : Int)))) (bs.set j B) _ ?_ ⟨?_, ?_, h.pr, h.xp, h.xr, ?_, ?_, by rw [List.length_set]; exact h.lt, by rw [List.length_set]; exact h.lb, ?_⟩ ?_
        · exact ((Mu.ex (e1.trans e2)).trans (Mu.upd (List.mem_cons_self ..) htp2)).trans ((Mu.ex e3).trans (Mu.upd (List.mem_cons_of_mem _ (List.mem_singleton.mpr rfl)) (e3 _ _ (orr _))))
        · rw [upd_ne h.xr]
          exact e3 _ _ (ox _)
        · exact (h.ar.ex (e1.trans e2)).gt (g2.trans ((Gt.of e3).trans g3)) (iLlf A)
        · rw [upd_ne h.pr, List.map_set]
          exact e3 _ _ upd_same
        · rw [List.map_set, List.map_set]
          exact upd_same
        · intro k hk
          obtain ⟨k0, k1, k2⟩ := h.eq k hk
          by_cases kj : j = k
          · subst kj
            rw [List.getElem_set_self, List.getElem_set_self]
            refine ⟨ok.b0, Nat.dvd_refl B, ?_⟩
            exact top_eq q0 q1 q2
          · rw [List.getElem_set_ne kj, List.getElem_set_ne kj]
            exact ⟨k0, k1, k2⟩
        · intro hh
          rw [List.getElem_set_self]
          exact top_eq q0 q1 q2
    · have hb2 : bs[j] = B := by
        have : decide (((bs[j] : Nat) : Int) = (B : Int)) = true := by
          cases hc : decide (((bs[j] : Nat) : Int) = (B : Int)) with
          | true => rfl
          | false =>
            rw [hc] at hb
            cases hb
        exact Int.ofNat.inj (of_decide_eq_true this)
      refine fin ts bs H1 (Mu.ex e1) ⟨e1 _ _ h.ob, h.ar.ex e1, h.pr, h.xp, h.xr, e1 _ _ h.tp, e1 _ _ h.bp, h.lt, h.lb, h.eq⟩ fun _ => ?_
      rw [q2, hb2]

end
end My
end
section
set_option Elab.async false
set_option linter.all false
set_option maxRecDepth 100000
set_option maxHeartbeats 4000000
namespace My
open PySem PySem.Spec PyProof.Rows L2 Evl WD
local macro_rules | `(tactic| walk_at "exgo") => `(tactic| first | exact Ex.refl _ | assumption | (refine' Ex.trans ?ea ?eb; (case eb => assumption); (case ea => walk_at "exgo")))
local macro_rules | `(tactic| walk_at "is") => `(tactic| first | assumption | (refine' Is.ex ?e ?h; (case h => assumption); (case e => walk_at "exgo")) | exact Is.int _ | exact Is.bl _ | exact Is.non)
local macro_rules | `(tactic| walk_at "ev") => `(tactic| first
  | exact ed_int | exact ed_bl | exact ed_non | exact ed_str
  | ((with_reducible apply ed_var) <;> first | exact rfl | walk_at "is")
  | ((with_reducible apply ed_add) <;> walk_at "ev")
  | ((with_reducible apply ed_sub) <;> walk_at "ev")
  | ((with_reducible apply ed_neg) <;> walk_at "ev")
  | ((with_reducible apply ed_mulW) <;> try walk_at "ev")
  | ((with_reducible apply ed_divW) <;> try walk_at "ev")
  | ((with_reducible apply ed_mod) <;> try walk_at "ev")
  | ((with_reducible apply ed_ixT) <;> first | exact rfl | walk_at "ev" | skip)
  | ((with_reducible apply ed_ixL) <;> first | exact rfl | walk_at "ev" | skip)
  | ((with_reducible apply ed_lt) <;> walk_at "ev")
  | ((with_reducible apply ed_le) <;> walk_at "ev")
  | ((with_reducible apply ed_gt) <;> walk_at "ev")
  | ((with_reducible apply ed_ge) <;> walk_at "ev")
  | ((with_reducible apply ed_eqI) <;> walk_at "ev")
  | ((with_reducible apply ed_neI) <;> walk_at "ev")
  | ((with_reducible apply ed_gcd) <;> walk_at "ev")
  | ((with_reducible apply ed_abs) <;> walk_at "ev")
  | ((with_reducible apply ed_intI) <;> walk_at "ev")
  | ((with_reducible apply ed_intB) <;> walk_at "ev")
  | ((with_reducible apply ed_max2) <;> walk_at "ev")
  | ((with_reducible apply ed_min2) <;> walk_at "ev")
  | ((with_reducible apply ed_lenT) <;> walk_at "ev")
  | ((with_reducible apply ed_lenL) <;> walk_at "ev")
  | ((with_reducible apply ed_tuple) <;> walk_at "ev")
  | ((with_reducible apply ed_tupleT) <;> walk_at "ev")
  | ((with_reducible apply ed_tup) <;> first | walk_at "ea" | (simp; done) | skip)
  | ((with_reducible apply et_t) <;> walk_at "ev")
  | ((with_reducible apply et_v) <;> walk_at "ev"))
local macro_rules | `(tactic| walk_at "ea") => `(tactic| first
  | exact ea0
  | ((with_reducible apply ea1) <;> first | walk_at "ev" | walk_at "ea" | skip))

section
variable {P : Program} {w : World} {K : PySem.W.Frag} {mg : Str → Option Value} {base : Heap}
theorem em_top {te : TE} {tr : TA} {E : XK} {Q : VK} {σ : L2.St} {H : Hp} {x p r : Addr} {A : List Int} {B : Nat} {s : List Rat} {j : Nat} (h : LineAt K H x p r A B s) (ok : LineOk A B s) (hj : j < s.length) (ho : Ev te σ H (.ref x)) (hr : EvDA K tr σ H [.int (j : Int)])
    (k : ∀ (t : Int) H', Mu [p, r] H H' → LineAt K H' x p r A B s → (t : Rat) = s[j] * ((B : Int) : Rat) → Q (.int t) H') : tMeth (He.ga K "Line") "top" (sp_top K) [] E te tr σ H Q := by
  obtain ⟨ts, bs, dx, va, l⟩ := id h
  refine em_meth ho l.ob rfl hr fun vs H1 e1 a => ?_
  obtain ⟨v, rfl, a1⟩ := All.inv1 a
  cases a1
  exact ⟨x, p, r, A, B, s, j, rfl, h.ex e1, ok, hj, fun t H' m l' e' => k t H' ((Mu.ex e1).trans m) l' (e' hj)⟩
theorem LineAt.areas {H : Hp} {x p r : Addr} {A : List Int} {B : Nat} {s : List Rat} (T : Txt K mg) (h : LineAt K H x p r A B s) {te : TE} {σ : L2.St} (ho : Ev te σ H (.ref x)) : EvD K (tFld K te "areas") σ H (.tup (iL A)) := by
  obtain ⟨ts, bs, dx, va, l⟩ := h
  exact ed_fldX ho l.ob T.c_Line T.n_Line_areas rfl l.ar
def sp_inside (K : PySem.W.Frag) : Sp := fun vs H Q _ => ∃ x p r A B s, ∃ j : Nat, vs = [.ref x, .int (j : Int)] ∧ LineAt K H x p r A B s ∧ LineOk A B s ∧ j + 1 < s.length ∧ ∀ (t : Int) H', Mu [p, r] H H' → LineAt K H' x p r A B s → (∀ h : j + 1 < s.length, (t : Rat) = (s[j + 1] - s[j]) * ((B : Int) : Rat)) → Q (.int t) H'
theorem ok_Line_inside (T : Txt K mg) : FnG P w K mg base 2 (He.ma K (He.ga K "Line") "inside") ["self", "basin"] (sp_inside K) := by
  refine fnG (N := ["self", "basin"]) (st := s_Line_inside) T.f_Line_inside sc_Line_inside (fun vs H Q E h => ?_) (fun _ _ _ _ _ _ us hl => match us, hl with | [_, _], _ => rfl) (fun cdv A outer s H vs Q E hr h => ⟨_, (pss_one (ps_ret (pe_op op_sub (pe_methG (pv 0) T.c_Line T.x_Line_top (ok_Line_top T) (hr.mono (by decide)) (pa_cons (pe_op op_add (pv 1) pe_int) pa_nil)) (pe_methG (pv 0) T.c_Line T.x_Line_top (ok_Line_top T) (hr.mono (by decide)) (pa_cons (pv 1) pa_nil))))), ?_⟩)
  · obtain ⟨x, p, r, A, B, s, j, rfl, _⟩ := h
    rfl
  · obtain ⟨x, p, r, A, B, s, j, rfl, h, ok, hj, q⟩ := h
    try dsimp only [cxOf, Cx.nox, Cx.wish]
    refine em_top (j := j + 1) h ok hj (ev_ref rfl) (ea1 (EvD.is (ed_add (ed_var rfl (.int _)) ed_int) (by rw [Int.natCast_add]; rfl)) ea0) fun t1 H1 m1 l1 e1 => ?_
    refine em_top (j := j) l1 ok (by omega) (ev_ref rfl) (ea1 (ed_var rfl (.int _)) ea0) fun t2 H2 m2 l2 e2 => ?_
    refine ⟨t1, t2, rfl, rfl, q (t1 - t2) H2 (m1.trans m2) l2 fun _ => ?_⟩
    rw [Rat.intCast_sub, e1, e2]
    grind
theorem em_inside {te : TE} {tr : TA} {E : XK} {Q : VK} {σ : L2.St} {H : Hp} {x p r : Addr} {A : List Int} {B : Nat} {s : List Rat} {j : Nat} (h : LineAt K H x p r A B s) (ok : LineOk A B s) (hj : j + 1 < s.length) (ho : Ev te σ H (.ref x)) (hr : EvDA K tr σ H [.int (j : Int)])
    (k : ∀ (t : Int) H', Mu [p, r] H H' → LineAt K H' x p r A B s → (t : Rat) = (s[j + 1] - s[j]) * ((B : Int) : Rat) → Q (.int t) H') : tMeth (He.ga K "Line") "inside" (sp_inside K) [] E te tr σ H Q := by
  obtain ⟨ts, bs, dx, va, l⟩ := id h
  refine em_meth ho l.ob rfl hr fun vs H1 e1 a => ?_
  obtain ⟨v, rfl, a1⟩ := All.inv1 a
  cases a1
  exact ⟨x, p, r, A, B, s, j, rfl, h.ex e1, ok, hj, fun t H' m l' e' => k t H' ((Mu.ex e1).trans m) l' (e' hj)⟩
/-- how the row rises at a weir, times both areas -/
def rise (A : List Int) (s : List Rat) (w : Nat) : Rat := (s.getD (w + 1) 0 - s.getD w 0) * ((A.getD (w - 1) 1 : Int) : Rat) - (s.getD w 0 - s.getD (w - 1) 0) * ((A.getD w 1 : Int) : Rat)
def sg (q : Rat) : Int := if 0 < q then 1 else if q < 0 then -1 else 0
theorem getD_in {α : Type} {v : List α} {j : Nat} {z : α} (h : j < v.length) : v.getD j z = v[j] := by
  rw [List.getD_eq_getElem?_getD, List.getElem?_eq_getElem h] <;> rfl
theorem diff_small {A : List Int} {B : Nat} {s : List Rat} (ok : LineOk A B s) {j : Nat} (h : j + 1 < s.length) {t : Int} (e : (t : Rat) = (s[j + 1] - s[j]) * ((B : Int) : Rat)) : t.natAbs < 2 ^ 2902 := by
  have a0 := ok.lo _ (List.getElem_mem h)
  have a1 := ok.hi _ (List.getElem_mem h)
  have b0 := ok.lo _ (List.getElem_mem (show j < s.length by omega))
  have b1 := ok.hi _ (List.getElem_mem (show j < s.length by omega))
  have hb0 : (0 : Rat) ≤ ((B : Int) : Rat) := by exact_mod_cast Int.natCast_nonneg B
  have c1 : (t : Rat) ≤ ((2 ^ 900 * (B : Int) : Int) : Rat) := by
    rw [e, Rat.intCast_mul]
    exact Rat.mul_le_mul_of_nonneg_right (by grind) hb0
  have c2 : ((-(2 ^ 900 * (B : Int)) : Int) : Rat) ≤ (t : Rat) := by
    rw [e, Rat.intCast_neg, Rat.intCast_mul, ← Rat.neg_mul]
    exact Rat.mul_le_mul_of_nonneg_right (by grind) hb0
  have d1 : t ≤ 2 ^ 900 * (B : Int) := by exact_mod_cast c1
  have d2 : -(2 ^ 900 * (B : Int)) ≤ t := by exact_mod_cast c2
  have h7 : t.natAbs ≤ 2 ^ 900 * B := by
    have : ((2 ^ 900 * B : Nat) : Int) = 2 ^ 900 * (B : Int) := by
      rw [Int.natCast_mul]
      rfl
    omega
  have h8 : 2 ^ 900 * B < 2 ^ 900 * 2 ^ 2000 := Nat.mul_lt_mul_of_pos_left ok.bs (Nat.two_pow_pos 900)
  rw [← Nat.pow_add] at h8
  exact Nat.lt_of_le_of_lt h7 (Nat.lt_of_lt_of_le h8 (Nat.pow_le_pow_right (by decide) (by decide)))
def sp_sign_at (K : PySem.W.Frag) : Sp := fun vs H Q _ => ∃ x p r A B s, ∃ j : Nat, vs = [.ref x, .int (j : Int)] ∧ LineAt K H x p r A B s ∧ LineOk A B s ∧ 1 ≤ j ∧ j < A.length ∧ ∀ H', Mu [p, r] H H' → LineAt K H' x p r A B s → Q (.int (sg (rise A s j))) H'
theorem sg_int {t : Int} {q : Rat} {B : Nat} (hB : 0 < B) (e : (t : Rat) = q * ((B : Int) : Rat)) : (if (decide (t > 0)) = true then (1 : Int) else 0) - (if (decide (t < 0)) = true then (1 : Int) else 0) = sg q := by
  have hb : (0 : Rat) < ((B : Int) : Rat) := by exact_mod_cast (show (0 : Int) < (B : Int) by omega)
  have h1 : (0 : Rat) < (t : Rat) ↔ 0 < q := by
    rw [e]
    constructor
    · intro h
      apply Decidable.byContradiction
      intro z
      have := Rat.mul_le_mul_of_nonneg_right (Rat.not_lt.mp z) (Rat.le_of_lt hb)
      grind
    · intro h
      exact Rat.mul_pos h hb
  have h2 : (t : Rat) < 0 ↔ q < 0 := by
    rw [e]
    constructor
    · intro h
      apply Decidable.byContradiction
      intro z
      have := Rat.mul_nonneg (Rat.not_lt.mp z) (Rat.le_of_lt hb)
      grind
    · intro h
      have := Rat.mul_pos (show 0 < -q by grind) hb
      grind
  have h3 : 0 < t ↔ 0 < q := by
    rw [← h1]
    exact_mod_cast Iff.rfl
  have h4 : t < 0 ↔ q < 0 := by
    rw [← h2]
    exact_mod_cast Iff.rfl
  unfold sg
  by_cases a : 0 < q
  · have := h3.mpr a
    rw [if_pos (decide_eq_true (show t > 0 from this)), if_neg (by simp; omega), if_pos a]
    rfl
  · by_cases b : q < 0
    · have := h4.mpr b
      rw [if_neg (by simp; omega), if_pos (decide_eq_true this), if_neg a, if_pos b]
      rfl
    · rw [if_neg (by simp; have := mt h3.mp a; omega), if_neg (by simp; have := mt h4.mp b; omega), if_neg a, if_neg b]
      rfl
theorem ok_sign_at (T : Txt K mg) : FnG P w K mg base 3 (He.ga K "sign_at") ["line", "weir"] (sp_sign_at K) := by
  refine fnG (N := ["line", "weir", "rise"]) (st := s_sign_at) T.f_sign_at sc_sign_at (fun vs H Q E h => ?_) (fun _ _ _ _ _ _ us hl => match us, hl with | [_, _], _ => rfl) (fun cdv A outer s H vs Q E hr h => ⟨_, (pss_cons (ps_asg (pe_op op_sub (pe_op op_mulW (pe_methG (pv 0) T.c_Line T.x_Line_inside (ok_Line_inside T) (hr.mono (by decide)) (pa_cons (pv 1) pa_nil)) (pe_ix ix_tup (pe_fld (pv 0) rfl) (pe_op op_sub (pv 1) pe_int) (fun _ _ => rfl))) (pe_op op_mulW (pe_methG (pv 0) T.c_Line T.x_Line_inside (ok_Line_inside T) (hr.mono (by decide)) (pa_cons (pe_op op_sub (pv 1) pe_int) pa_nil)) (pe_ix ix_tup (pe_fld (pv 0) rfl) (pv 1) (fun _ _ => rfl)))) (pg_name (i := 2) sc_sign_at.nd rfl (.inl rfl))) (pss_one (ps_ret (pe_op op_sub (pe_callTy call_intS (by rfl) T.z_int (by decide +kernel) (pa_cons (pe_cmpR op_gt (pv 2) pe_int (nomark _)) pa_nil)) (pe_callTy call_intS (by rfl) T.z_int (by decide +kernel) (pa_cons (pe_cmpR op_lt (pv 2) pe_int (nomark _)) pa_nil)))))), ?_⟩)
  · obtain ⟨x, p, r, A, B, s, j, rfl, _⟩ := h
    rfl
  · obtain ⟨x, p, r, A, B, s, j, rfl, h, ok, j1, j2, q⟩ := h
    try dsimp only [cxOf, Cx.nox, Cx.wish]
    have hl := ok.len
    have ej : (((j : Nat) : Int) - 1) = ((j - 1 : Nat) : Int) := by omega
    have ha := ok.ar _ (gd_mem (z := 1) (show j - 1 < A.length by omega))
    have hb := ok.ar _ (gd_mem (z := 1) j2)
    refine em_inside (j := j) h ok (by omega) (ev_ref rfl) (ea1 (ed_var rfl (.int _)) ea0) fun t1 H1 m1 l1 e1 => ?_
    refine ed_ixT (K := K) (d := .int (A.getD (j - 1) 1)) (l1.areas T (ev_ref rfl)) (ed_sub (ed_var rfl (.int _)) ed_int) (by rw [ej]; exact at_iL (by omega)) H1 (Ex.refl H1) _ fun v2 H2 x2 i2 => ?_
    cases i2
    refine ⟨t1, _, rfl, rfl, mulW (a := 2902) (b := 10) (diff_small ok (by omega) e1) (by omega), ?_⟩
    refine em_inside (j := j - 1) (l1.ex x2) ok (by omega) (ev_ref rfl) (ea1 (EvD.is (ed_sub (ed_var rfl (.int _)) ed_int) (by rw [ej])) ea0) fun t3 H3 m3 l3 e3 => ?_
    refine ed_ixT (K := K) (d := .int (A.getD j 1)) (l3.areas T (ev_ref rfl)) (ed_var rfl (.int _)) (at_iL j2) H3 (Ex.refl H3) _ fun v4 H4 x4 i4 => ?_
    cases i4
    refine ⟨t3, _, rfl, rfl, mulW (a := 2902) (b := 10) (diff_small ok (by omega) e3) (by omega), ?_⟩
    refine ⟨_, _, rfl, rfl, ?_⟩
    have e : ((t1 * A.getD (j - 1) 1 - t3 * A.getD j 1 : Int) : Rat) = rise A s j * ((B : Int) : Rat) := by
      unfold rise
      rw [getD_in (v := s) (show j + 1 < s.length by omega), getD_in (v := s) (show j < s.length by omega), getD_in (v := s) (show j - 1 < s.length by omega)]
      rw [Rat.intCast_sub, Rat.intCast_mul, Rat.intCast_mul, e1, e3]
      have : (s[j - 1 + 1]'(by omega)) = s[j]'(by omega) := by congr 1; omega
      rw [this]
      grind
    refine s_retD (K := K) (d := .int (sg (rise A s j))) (EvD.is (ed_sub (K := K) (ed_intB (ed_gt (ed_var rfl (.int _)) ed_int)) (ed_intB (ed_lt (ed_var rfl (.int _)) ed_int))) ?_) fun v5 H5 x5 i5 => ?_
    · exact congrArg D.int (sg_int ok.b0 e)
    · cases i5
      exact q _ (((m1.trans (Mu.ex x2)).trans m3).trans (Mu.ex (x4.trans x5))) ((l3.ex x4).ex x5)

end
end My
end
section
set_option Elab.async false
set_option linter.all false
set_option maxRecDepth 100000
set_option maxHeartbeats 4000000
namespace My
open PySem PySem.Spec PyProof.Rows L2 Evl WD
local macro_rules | `(tactic| walk_at "exgo") => `(tactic| first | exact Ex.refl _ | assumption | (refine' Ex.trans ?ea ?eb; (case eb => assumption); (case ea => walk_at "exgo")))
local macro_rules | `(tactic| walk_at "is") => `(tactic| first | assumption | (refine' Is.ex ?e ?h; (case h => assumption); (case e => walk_at "exgo")) | exact Is.int _ | exact Is.bl _ | exact Is.non)
local macro_rules | `(tactic| walk_at "ev") => `(tactic| first
  | exact ed_int | exact ed_bl | exact ed_non | exact ed_str
  | ((with_reducible apply ed_var) <;> first | exact rfl | walk_at "is")
  | ((with_reducible apply ed_add) <;> walk_at "ev")
  | ((with_reducible apply ed_sub) <;> walk_at "ev")
  | ((with_reducible apply ed_neg) <;> walk_at "ev")
  | ((with_reducible apply ed_mulW) <;> try walk_at "ev")
  | ((with_reducible apply ed_divW) <;> try walk_at "ev")
  | ((with_reducible apply ed_mod) <;> try walk_at "ev")
  | ((with_reducible apply ed_ixT) <;> first | exact rfl | walk_at "ev" | skip)
  | ((with_reducible apply ed_ixL) <;> first | exact rfl | walk_at "ev" | skip)
  | ((with_reducible apply ed_lt) <;> walk_at "ev")
  | ((with_reducible apply ed_le) <;> walk_at "ev")
  | ((with_reducible apply ed_gt) <;> walk_at "ev")
  | ((with_reducible apply ed_ge) <;> walk_at "ev")
  | ((with_reducible apply ed_eqI) <;> walk_at "ev")
  | ((with_reducible apply ed_neI) <;> walk_at "ev")
  | ((with_reducible apply ed_gcd) <;> walk_at "ev")
  | ((with_reducible apply ed_abs) <;> walk_at "ev")
  | ((with_reducible apply ed_intI) <;> walk_at "ev")
  | ((with_reducible apply ed_intB) <;> walk_at "ev")
  | ((with_reducible apply ed_max2) <;> walk_at "ev")
  | ((with_reducible apply ed_min2) <;> walk_at "ev")
  | ((with_reducible apply ed_lenT) <;> walk_at "ev")
  | ((with_reducible apply ed_lenL) <;> walk_at "ev")
  | ((with_reducible apply ed_tuple) <;> walk_at "ev")
  | ((with_reducible apply ed_tupleT) <;> walk_at "ev")
  | ((with_reducible apply ed_tup) <;> first | walk_at "ea" | (simp; done) | skip)
  | ((with_reducible apply et_t) <;> walk_at "ev")
  | ((with_reducible apply et_v) <;> walk_at "ev"))
local macro_rules | `(tactic| walk_at "ea") => `(tactic| first
  | exact ea0
  | ((with_reducible apply ea1) <;> first | walk_at "ev" | walk_at "ea" | skip))

section
variable {P : Program} {w : World} {K : PySem.W.Frag} {mg : Str → Option Value} {base : Heap}
def sgs (A : List Int) (s : List Rat) : List Int := (List.range (A.length - 1)).map fun i => sg (rise A s (i + 1))
theorem em_sign_at {E : XK} {Q : VK} {σ : L2.St} {H : Hp} {x p r : Addr} {A : List Int} {B : Nat} {s : List Rat} {j : Nat} {tx tj : TE} (h : LineAt K H x p r A B s) (ok : LineOk A B s) (j1 : 1 ≤ j) (j2 : j < A.length) (hx : Ev tx σ H (.ref x)) (hj : EvD K tj σ H (.int (j : Int)))
    (k : ∀ H', Mu [p, r] H H' → LineAt K H' x p r A B s → Q (.int (sg (rise A s j))) H') : tCall (sp_sign_at K) [] E (tCons tx (tCons tj tNil)) σ H Q :=
  hx H (Ex.refl H) _ fun H1 e1 => hj H1 e1 _ fun v H2 e2 i2 => by
    cases i2
    exact ⟨x, p, r, A, B, s, j, rfl, h.ex (e1.trans e2), ok, j1, j2, fun H' m l => k H' ((Mu.ex (e1.trans e2)).trans m) l⟩
theorem LineAt.mu1 {H H' : Hp} {D : Addr} {H0 : Hp} {x p r : Addr} {A : List Int} {B : Nat} {s : List Rat} (h : LineAt K H x p r A B s) (m : Mu [D] H H') (hD : H0 D = none) (h0 : LineAt K H0 x p r A B s) : LineAt K H' x p r A B s := by
  refine h.mu m fun l hl => ?_
  rw [List.mem_singleton.mp hl]
  obtain ⟨ts, bs, dx, va, z⟩ := h0
  exact ⟨fun z2 => by (rw [z2, z.ob] at hD; cases hD), fun z2 => by (rw [z2, z.tp] at hD; cases hD), fun z2 => by (rw [z2, z.bp] at hD; cases hD)⟩
def sp_all_signs (K : PySem.W.Frag) : Sp := fun vs H Q _ => ∃ x p r A B s, vs = [.ref x] ∧ LineAt K H x p r A B s ∧ LineOk A B s ∧ ∀ l H', H l = none → Mu [p, r] H H' → LineAt K H' x p r A B s → H' l = some (.lst ((sgs A s).map V.int)) → Q (.ref l) H'
theorem ok_all_signs (T : Txt K mg) : FnG P w K mg base 5 (He.ga K "all_signs") ["line"] (sp_all_signs K) := by
  refine fnG (N := ["line", "weir"]) (st := s_all_signs) T.f_all_signs sc_all_signs (fun vs H Q E h => ?_) (fun _ _ _ _ _ _ us hl => match us, hl with | [_], _ => rfl) (fun cdv A outer s H vs Q E hr h => ⟨_, (pss_one (ps_ret (pe_lc (own := [("weir", 1)]) rfl sc_all_signs.nd (pi_range2 (by rfl) T.z_range (pa_cons pe_int (pa_cons (pe_callB call_lenS (by rfl) T.z_len PySem.boot_len (pa_cons (pe_fld (pv 0) rfl) pa_nil)) pa_nil))) (blkOk_by (own := [("weir", 1)]) (N := ["line", "weir"]) (sc := defScope s_all_signs) (by decide +kernel)) (fun _ _ _ _ _ => (pg_name (i := 1) sc_all_signs.nd rfl (.inl rfl))) (fun _ _ _ _ _ => pts_nil) (fun _ _ _ _ _ => (pe_callG (ok_sign_at T) (hr.mono (by decide)) (by rfl) T.m_sign_at (pa_cons (pv 0) (pa_cons (pv 1) pa_nil))))))), ?_⟩)
  · obtain ⟨x, p, r, A, B, s, rfl, _⟩ := h
    rfl
  · obtain ⟨x, p, r, A, B, s, rfl, h, ok, q⟩ := h
    try dsimp only [cxOf, Cx.nox, Cx.wish]
    have hA := ok.al
    refine en_lcM (K := K) (L := [p, r]) (n := ((A.length : Int) - 1).toNat) (item := fun i => .int (1 + (i : Int))) (fun _ H' => LineAt K H' x p r A B s) (fun _ => true) (fun i => .int (sg (rise A s (i + 1)))) (ei_r2 (ea1 ed_int (ea1 (EvD.is (ed_lenT (K := K) (h.areas T (ev_ref rfl))) (by rw [iLlen])) ea0)) (by omega)) ?_ (by omega) (fun _ _ _ => rfl) (fun i D Ha Hb hD l m => l.mu1 m hD h) h ?_ ?_
    · obtain ⟨ts, bs, dx, va, z⟩ := h
      intro l hl
      rcases List.mem_cons.mp hl with hl | hl
      · exact ⟨_, hl ▸ z.tp⟩
      · exact ⟨_, (List.mem_singleton.mp hl) ▸ z.bp⟩
    · intro i u H1 hi l m a Y N hY hN
      cases a
      refine ⟨rfl, ?_⟩
      exact em_sign_at (j := i + 1) l ok (by omega) (by omega) (ev_ref rfl) (ed_var rfl (by rw [show ((1 + (i : Int))) = ((i + 1 : Nat) : Int) from by omega]; exact .int _)) fun H' m' l' => hY _ _ rfl (.int _) l' m'
    · intro l xs H' hl m l' hx ax
      rw [gives_all] at ax
      have e : xs = (sgs A s).map V.int := by
        refine allIL ?_ (K := K) (H := H')
        unfold iL sgs
        rw [List.map_map]
        rw [show ((A.length : Int) - 1).toNat = A.length - 1 from by omega] at ax
        exact ax
      subst e
      exact q l H' hl m l' hx

end
end My
end
section
set_option Elab.async false
set_option linter.all false
set_option maxRecDepth 100000
set_option maxHeartbeats 4000000
namespace My
open PySem PySem.Spec PyProof.Rows L2 Evl WD
local macro_rules | `(tactic| walk_at "exgo") => `(tactic| first | exact Ex.refl _ | assumption | (refine' Ex.trans ?ea ?eb; (case eb => assumption); (case ea => walk_at "exgo")))
local macro_rules | `(tactic| walk_at "is") => `(tactic| first | assumption | (refine' Is.ex ?e ?h; (case h => assumption); (case e => walk_at "exgo")) | exact Is.int _ | exact Is.bl _ | exact Is.non)
local macro_rules | `(tactic| walk_at "ev") => `(tactic| first
  | exact ed_int | exact ed_bl | exact ed_non | exact ed_str
  | ((with_reducible apply ed_var) <;> first | exact rfl | walk_at "is")
  | ((with_reducible apply ed_add) <;> walk_at "ev")
  | ((with_reducible apply ed_sub) <;> walk_at "ev")
  | ((with_reducible apply ed_neg) <;> walk_at "ev")
  | ((with_reducible apply ed_mulW) <;> try walk_at "ev")
  | ((with_reducible apply ed_divW) <;> try walk_at "ev")
  | ((with_reducible apply ed_mod) <;> try walk_at "ev")
  | ((with_reducible apply ed_ixT) <;> first | exact rfl | walk_at "ev" | skip)
  | ((with_reducible apply ed_ixL) <;> first | exact rfl | walk_at "ev" | skip)
  | ((with_reducible apply ed_lt) <;> walk_at "ev")
  | ((with_reducible apply ed_le) <;> walk_at "ev")
  | ((with_reducible apply ed_gt) <;> walk_at "ev")
  | ((with_reducible apply ed_ge) <;> walk_at "ev")
  | ((with_reducible apply ed_eqI) <;> walk_at "ev")
  | ((with_reducible apply ed_neI) <;> walk_at "ev")
  | ((with_reducible apply ed_gcd) <;> walk_at "ev")
  | ((with_reducible apply ed_abs) <;> walk_at "ev")
  | ((with_reducible apply ed_intI) <;> walk_at "ev")
  | ((with_reducible apply ed_intB) <;> walk_at "ev")
  | ((with_reducible apply ed_max2) <;> walk_at "ev")
  | ((with_reducible apply ed_min2) <;> walk_at "ev")
  | ((with_reducible apply ed_lenT) <;> walk_at "ev")
  | ((with_reducible apply ed_lenL) <;> walk_at "ev")
  | ((with_reducible apply ed_tuple) <;> walk_at "ev")
  | ((with_reducible apply ed_tupleT) <;> walk_at "ev")
  | ((with_reducible apply ed_tup) <;> first | walk_at "ea" | (simp; done) | skip)
  | ((with_reducible apply et_t) <;> walk_at "ev")
  | ((with_reducible apply et_v) <;> walk_at "ev"))
local macro_rules | `(tactic| walk_at "ea") => `(tactic| first
  | exact ea0
  | ((with_reducible apply ea1) <;> first | walk_at "ev" | walk_at "ea" | skip))

section
variable {P : Program} {w : World} {K : PySem.W.Frag} {mg : Str → Option Value} {base : Heap}
def evn (A : List Int) (s : List Rat) (j : Nat) : List Rat := s.set j ((((A.getD j 1 : Int) : Rat) * s.getD (j - 1) 0 + ((A.getD (j - 1) 1 : Int) : Rat) * s.getD (j + 1) 0) / ((A.getD (j - 1) 1 + A.getD j 1 : Int) : Rat))
def sp_even (K : PySem.W.Frag) : Sp := fun vs H Q _ => ∃ x p r A B s, ∃ j : Nat, vs = [.ref x, .int (j : Int)] ∧ LineAt K H x p r A B s ∧ LineOk A B s ∧ 1 ≤ j ∧ j < A.length ∧ ∀ (B' : Nat) H', Mu [x, p, r] H H' → LineAt K H' x p r A B' (evn A s j) → 0 < B' → B ∣ B' → B' ∣ B * (A.getD (j - 1) 1 + A.getD j 1).toNat → Q .non H'
theorem even_eq {t u g a b : Int} {B : Nat} {q : Rat} (hg : g ≠ 0) (ht : g ∣ t) (hu : g ∣ u) (hu0 : u ≠ 0) (e : (t : Rat) = q * ((B : Int) : Rat)) : ((t / g : Int) : Rat) = (q / (u : Rat)) * (((B : Int) * (u / g) : Int) : Rat) := by
  obtain ⟨c, rfl⟩ := ht
  obtain ⟨d, rfl⟩ := hu
  rw [Int.mul_ediv_cancel_left _ hg, Int.mul_ediv_cancel_left _ hg]
  have hd : d ≠ 0 := fun z => hu0 (by rw [z, Int.mul_zero])
  have hgr : (g : Rat) ≠ 0 := by exact_mod_cast hg
  have hdr : (d : Rat) ≠ 0 := by exact_mod_cast hd
  rw [Rat.intCast_mul] at e
  rw [Rat.intCast_mul, Rat.intCast_mul]
  grind
theorem ok_Line_even (T : Txt K mg) : FnG P w K mg base 2 (He.ma K (He.ga K "Line") "even") ["self", "weir"] (sp_even K) := by
  refine fnG (N := ["self", "weir", "first", "second", "top", "shared"]) (st := s_Line_even) T.f_Line_even sc_Line_even (fun vs H Q E h => ?_) (fun _ _ _ _ _ _ us hl => match us, hl with | [_, _], _ => rfl) (fun cdv A outer s H vs Q E hr h => ⟨_, (pss_cons (ps_par (i := 2) (j := 3) (by rfl) sc_Line_even.nd rfl rfl (by decide) rfl rfl (pa_cons (pe_ix ix_tup (pe_fld (pv 0) rfl) (pe_op op_sub (pv 1) pe_int) (fun _ _ => rfl)) (pa_cons (pe_ix ix_tup (pe_fld (pv 0) rfl) (pv 1) (fun _ _ => rfl)) pa_nil)) (by rfl)) (pss_cons (ps_asg (pe_op op_add (pe_op op_mulW (pv 3) (pe_methG (pv 0) T.c_Line T.x_Line_top (ok_Line_top T) (hr.mono (by decide)) (pa_cons (pe_op op_sub (pv 1) pe_int) pa_nil))) (pe_op op_mulW (pv 2) (pe_methG (pv 0) T.c_Line T.x_Line_top (ok_Line_top T) (hr.mono (by decide)) (pa_cons (pe_op op_add (pv 1) pe_int) pa_nil)))) (pg_name (i := 4) sc_Line_even.nd rfl (.inl rfl))) (pss_cons (ps_asg (pe_callBfun cr_gcd (by rfl) T.b_gcd (pa_cons (pv 4) (pa_cons (pe_op op_add (pv 2) (pv 3)) pa_nil))) (pg_name (i := 5) sc_Line_even.nd rfl (.inl rfl))) (pss_cons (ps_fld (pv 0) (pe_op op_mulW (pe_fld (pv 0) rfl) (pe_op op_fdivW (pe_op op_add (pv 2) (pv 3)) (pv 5))) rfl) (pss_cons (ps_asg (pe_op op_fdivW (pv 4) (pv 5)) (pg_sub (pe_fld (pv 0) rfl) (pv 1) set_list)) (pss_one (ps_asg (pe_fld (pv 0) rfl) (pg_sub (pe_fld (pv 0) rfl) (pv 1) set_list)))))))), ?_⟩)
  · obtain ⟨x, p, r, A, B, s, j, rfl, _⟩ := h
    rfl
  · obtain ⟨x, p, r, A, B, s, j, rfl, h, ok, j1, j2, q⟩ := h
    try dsimp only [cxOf, Cx.nox, Cx.wish]
    have hl := ok.len
    have ej : (((j : Nat) : Int) - 1) = ((j - 1 : Nat) : Int) := by omega
    have ej' : (((j : Nat) : Int) + 1) = ((j + 1 : Nat) : Int) := by omega
    have ha := ok.ar _ (gd_mem (z := 1) (show j - 1 < A.length by omega))
    have hb := ok.ar _ (gd_mem (z := 1) j2)
    have i1 : j - 1 < s.length := by omega
    have i2 : j + 1 < s.length := by omega
    have i3 : j < s.length := by omega
    revert ha hb
    unfold evn at q
    revert q
    generalize hA1 : A.getD (j - 1) 1 = a
    generalize hA2 : A.getD j 1 = b
    intro q ha hb
    refine q_parD (K := K) (d1 := .int a) (d2 := .int b) (ed_ixT (h.areas T (ev_ref rfl)) (ed_sub (ed_var rfl (.int _)) ed_int) (by rw [ej, at_iL (by omega), hA1])) (ed_ixT (h.areas T (ev_ref rfl)) (ed_var rfl (.int _)) (by rw [at_iL j2, hA2])) fun v1 v2 H1 e1 a1 a2 => ?_
    cases a1
    cases a2
    have h1 := h.ex e1
    refine ⟨_, rfl, ?_⟩
    refine em_top (j := j - 1) h1 ok i1 (ev_ref rfl) (ea1 (EvD.is (ed_sub (ed_var rfl (.int _)) ed_int) (by rw [ej])) ea0) fun t1 H2 m2 l2 q2 => ?_
    refine ⟨_, _, rfl, rfl, mulW (a := 10) (b := 2901) (by omega) (top_small ok i1 (Nat.le_refl B) q2), ?_⟩
    refine ⟨_, rfl, ?_⟩
    refine em_top (j := j + 1) l2 ok i2 (ev_ref rfl) (ea1 (EvD.is (ed_add (ed_var rfl (.int _)) ed_int) (by rw [ej'])) ea0) fun t3 H3 m3 l3 q3 => ?_
    refine ⟨_, _, rfl, rfl, mulW (a := 10) (b := 2901) (by omega) (top_small ok i2 (Nat.le_refl B) q3), ?_⟩
    refine ⟨_, _, rfl, rfl, ?_⟩
    have et : ((b * t1 + a * t3 : Int) : Rat) = (((b : Int) : Rat) * s.getD (j - 1) 0 + ((a : Int) : Rat) * s.getD (j + 1) 0) * ((B : Int) : Rat) := by
      rw [getD_in i1, getD_in i2, Rat.intCast_add, Rat.intCast_mul, Rat.intCast_mul, q2, q3]
      grind
    have M3 : Mu [x, p, r] H H3 := (Mu.ex e1).trans ((m2.trans m3).more fun a h => List.mem_cons_of_mem _ h)
    clear q2 q3 m2 m3 l2
    dsimp only
    revert et
    generalize b * t1 + a * t3 = t
    intro et
    refine q_asgD (K := K) (d := .int ((Nat.gcd t.natAbs (a + b).natAbs : Nat) : Int)) (ed_gcd (ed_var rfl (.int _)) (ed_add (ed_var rfl (.int _)) (ed_var rfl (.int _)))) fun v5 H4 e4 a5 => ?_
    cases a5
    obtain ⟨ts, bs, dx, va, l⟩ := l3.ex e4
    have g0 : 0 < Nat.gcd t.natAbs (a + b).natAbs := Nat.gcd_pos_of_pos_right _ (by omega)
    have g1 : Nat.gcd t.natAbs (a + b).natAbs ≤ (a + b).natAbs := Nat.le_of_dvd (by omega) (Nat.gcd_dvd_right _ _)
    have d1 : ((Nat.gcd t.natAbs (a + b).natAbs : Nat) : Int) ∣ t := Int.natAbs_dvd_natAbs.mp (by rw [Int.natAbs_natCast]; exact Nat.gcd_dvd_left _ _)
    have d2 : ((Nat.gcd t.natAbs (a + b).natAbs : Nat) : Int) ∣ (a + b) := Int.natAbs_dvd_natAbs.mp (by rw [Int.natAbs_natCast]; exact Nat.gcd_dvd_right _ _)
    revert g0 g1 d1 d2
    generalize hg : Nat.gcd t.natAbs (a + b).natAbs = g
    intro g0 g1 d1 d2
    have dq : ((a + b) / (g : Int)) = (((a + b).toNat / g : Nat) : Int) := by
      rw [Int.natCast_ediv, Int.toNat_of_nonneg (by omega)]
    have dl : (a + b).toNat / g ≤ (a + b).toNat := Nat.div_le_self _ _
    have dg : g ∣ (a + b).toNat := by
      have : (g : Int) ∣ ((a + b).toNat : Int) := by
        rw [Int.toNat_of_nonneg (by omega)]
        exact d2
      exact Int.natCast_dvd_natCast.mp this
    have dp : 0 < (a + b).toNat / g := Nat.div_pos (Nat.le_of_dvd (by omega) dg) g0
    have jt : j < ts.length := by rw [l.lt]; exact i3
    have jb : j < (bs.map Int.ofNat).length := by rw [List.length_map, l.lb]; exact i3
    have fe := even_eq (a := a) (b := b) (by omega) d1 d2 (by omega) et
    rw [dq, ← Int.natCast_mul] at fe
    refine q_fld (K := K) (d := .int ((B * ((a + b).toNat / g) : Nat) : Int)) l.ob (EvD.is (ed_mulW (ed_fldX (ev_ref rfl) l.ob T.c_Line T.n_Line_bottom rfl (.int _)) (ed_divW (ed_add (ed_var rfl (.int _)) (ed_var rfl (.int _))) (ed_var rfl (.int _)) (divW (b := 12) g0 (by omega))) (mulW (a := 2000) (b := 12) (by rw [Int.natAbs_natCast]; exact ok.bs) (by rw [dq, Int.natAbs_natCast]; omega))) (by rw [dq, Int.natCast_mul])) (ev_ref rfl) T.c_Line T.n_Line_bottom (by show 4 < 1000; decide) fun v6 H5 e5 a6 => ?_
    cases a6
    have ob5 : (upd H5 x (.ins (He.ga K "Line") dx (putF "bottom" (V.int ((B * ((a + b).toNat / g) : Nat) : Int)) [("areas", va), ("bottom", .int (B : Int)), ("tops", .ref p), ("bottoms", .ref r)]))) x = some (.ins (He.ga K "Line") dx [("areas", va), ("bottom", .int ((B * ((a + b).toNat / g) : Nat) : Int)), ("tops", .ref p), ("bottoms", .ref r)]) := upd_same
    have tp5 : (upd H5 x (.ins (He.ga K "Line") dx (putF "bottom" (V.int ((B * ((a + b).toNat / g) : Nat) : Int)) [("areas", va), ("bottom", .int (B : Int)), ("tops", .ref p), ("bottoms", .ref r)]))) p = some (.lst (ts.map V.int)) := by
      rw [upd_ne l.xp.symm]
      exact e5 _ _ l.tp
    have bp5 : (upd H5 x (.ins (He.ga K "Line") dx (putF "bottom" (V.int ((B * ((a + b).toNat / g) : Nat) : Int)) [("areas", va), ("bottom", .int (B : Int)), ("tops", .ref p), ("bottoms", .ref r)]))) r = some (.lst ((bs.map Int.ofNat).map V.int)) := by
      rw [upd_ne l.xr.symm]
      exact e5 _ _ l.bp
    have G5 : Gt H (upd H5 x (.ins (He.ga K "Line") dx (putF "bottom" (V.int ((B * ((a + b).toNat / g) : Nat) : Int)) [("areas", va), ("bottom", .int (B : Int)), ("tops", .ref p), ("bottoms", .ref r)]))) := (M3.2.trans (Gt.of (e4.trans e5))).trans (gtI (e5 _ _ l.ob))
    have G5' := (Gt.of e5).trans (gtI (o := .ins (He.ga K "Line") dx (putF "bottom" (V.int ((B * ((a + b).toNat / g) : Nat) : Int)) [("areas", va), ("bottom", .int (B : Int)), ("tops", .ref p), ("bottoms", .ref r)])) (e5 _ _ l.ob))
    have M5 : Mu [x, p, r] H (upd H5 x (.ins (He.ga K "Line") dx (putF "bottom" (V.int ((B * ((a + b).toNat / g) : Nat) : Int)) [("areas", va), ("bottom", .int (B : Int)), ("tops", .ref p), ("bottoms", .ref r)]))) := ⟨fun a o n k => by
      rw [upd_ne (fun z => n (by rw [z]; exact List.mem_cons_self ..))]
      exact (e4.trans e5) _ _ (M3.1 a o n k), G5⟩
    have va5 := l.ar.gt G5' (iLlf A)
    revert ob5 tp5 bp5 M5 va5
    generalize (upd H5 x (.ins (He.ga K "Line") dx (putF "bottom" (V.int ((B * ((a + b).toNat / g) : Nat) : Int)) [("areas", va), ("bottom", .int (B : Int)), ("tops", .ref p), ("bottoms", .ref r)]))) = J
    intro ob5 tp5 bp5 M5 va5
    refine q_setD (K := K) (d := .int (t / (g : Int))) tp5 (ed_divW (ed_var rfl (.int _)) (ed_var rfl (.int _)) (divW (b := 12) g0 (by omega))) (ev_fldX (ev_ref rfl) ob5 T.c_Line T.n_Line_tops rfl) (ed_var (d := .int (j : Int)) rfl (.int _)) (ixN_nat (by rw [List.length_map]; exact jt)) fun v7 H6 e6 a7 => ?_
    cases a7
    have ob6 : (upd H6 p (.lst ((ts.map V.int).set j (V.int (t / (g : Int)))))) x = some (.ins (He.ga K "Line") dx [("areas", va), ("bottom", .int ((B * ((a + b).toNat / g) : Nat) : Int)), ("tops", .ref p), ("bottoms", .ref r)]) := by
      rw [upd_ne l.xp]
      exact e6 _ _ ob5
    have bp6 : (upd H6 p (.lst ((ts.map V.int).set j (V.int (t / (g : Int)))))) r = some (.lst ((bs.map Int.ofNat).map V.int)) := by
      rw [upd_ne l.pr.symm]
      exact e6 _ _ bp5
    refine s_setD (K := K) (d := .int ((B * ((a + b).toNat / g) : Nat) : Int)) bp6 (ed_fldX (ev_ref rfl) ob6 T.c_Line T.n_Line_bottom rfl (.int _)) (ev_fldX (ev_ref rfl) ob6 T.c_Line T.n_Line_bottoms rfl) (ed_var (d := .int (j : Int)) rfl (.int _)) (ixN_nat (by rw [List.length_map]; exact jb)) fun v8 H7 e7 a8 => ?_
    cases a8
    refine q (B * ((a + b).toNat / g)) _ ?_ ⟨ts.set j (t / (g : Int)), bs.set j (B * ((a + b).toNat / g)), dx, va, ?_, ?_, l.pr, l.xp, l.xr, ?_, ?_, by rw [List.length_set, List.length_set]; exact l.lt, by rw [List.length_set, List.length_set]; exact l.lb, ?_⟩ (Nat.mul_pos ok.b0 dp) (Nat.dvd_mul_right _ _) (Nat.mul_dvd_mul_left _ (Nat.div_dvd_of_dvd dg))
    · exact (M5.trans ((Mu.ex e6).trans (Mu.upd (by simp) (e6 _ _ tp5)))).trans ((Mu.ex e7).trans (Mu.upd (by simp) (e7 _ _ bp6)))
    · rw [upd_ne l.xr]
      exact e7 _ _ ob6
    · exact va5.gt (((Gt.of e6).trans (Gt.lst (e6 _ _ tp5))).trans ((Gt.of e7).trans (Gt.lst (e7 _ _ bp6)))) (iLlf A)
    · rw [upd_ne l.pr, List.map_set]
      exact e7 _ _ upd_same
    · rw [List.map_set, List.map_set]
      exact upd_same
    · intro k hk
      rw [List.length_set] at hk
      obtain ⟨k0, k1, k2⟩ := l.eq k hk
      by_cases kj : j = k
      · subst kj
        rw [List.getElem_set_self, List.getElem_set_self, List.getElem_set_self]
        exact ⟨Nat.mul_pos ok.b0 dp, Nat.dvd_refl _, fe⟩
      · rw [List.getElem_set_ne kj, List.getElem_set_ne kj, List.getElem_set_ne kj]
        exact ⟨k0, Nat.dvd_trans k1 (Nat.dvd_mul_right _ _), k2⟩

end
end My
end
section
set_option Elab.async false
set_option linter.all false
set_option maxRecDepth 100000
set_option maxHeartbeats 4000000
namespace My
open PySem PySem.Spec PyProof.Rows L2 Evl WD
local macro_rules | `(tactic| walk_at "exgo") => `(tactic| first | exact Ex.refl _ | assumption | (refine' Ex.trans ?ea ?eb; (case eb => assumption); (case ea => walk_at "exgo")))
local macro_rules | `(tactic| walk_at "is") => `(tactic| first | assumption | (refine' Is.ex ?e ?h; (case h => assumption); (case e => walk_at "exgo")) | exact Is.int _ | exact Is.bl _ | exact Is.non)
local macro_rules | `(tactic| walk_at "ev") => `(tactic| first
  | exact ed_int | exact ed_bl | exact ed_non | exact ed_str
  | ((with_reducible apply ed_var) <;> first | exact rfl | walk_at "is")
  | ((with_reducible apply ed_add) <;> walk_at "ev")
  | ((with_reducible apply ed_sub) <;> walk_at "ev")
  | ((with_reducible apply ed_neg) <;> walk_at "ev")
  | ((with_reducible apply ed_mulW) <;> try walk_at "ev")
  | ((with_reducible apply ed_divW) <;> try walk_at "ev")
  | ((with_reducible apply ed_mod) <;> try walk_at "ev")
  | ((with_reducible apply ed_ixT) <;> first | exact rfl | walk_at "ev" | skip)
  | ((with_reducible apply ed_ixL) <;> first | exact rfl | walk_at "ev" | skip)
  | ((with_reducible apply ed_lt) <;> walk_at "ev")
  | ((with_reducible apply ed_le) <;> walk_at "ev")
  | ((with_reducible apply ed_gt) <;> walk_at "ev")
  | ((with_reducible apply ed_ge) <;> walk_at "ev")
  | ((with_reducible apply ed_eqI) <;> walk_at "ev")
  | ((with_reducible apply ed_neI) <;> walk_at "ev")
  | ((with_reducible apply ed_gcd) <;> walk_at "ev")
  | ((with_reducible apply ed_abs) <;> walk_at "ev")
  | ((with_reducible apply ed_intI) <;> walk_at "ev")
  | ((with_reducible apply ed_intB) <;> walk_at "ev")
  | ((with_reducible apply ed_max2) <;> walk_at "ev")
  | ((with_reducible apply ed_min2) <;> walk_at "ev")
  | ((with_reducible apply ed_lenT) <;> walk_at "ev")
  | ((with_reducible apply ed_lenL) <;> walk_at "ev")
  | ((with_reducible apply ed_tuple) <;> walk_at "ev")
  | ((with_reducible apply ed_tupleT) <;> walk_at "ev")
  | ((with_reducible apply ed_tup) <;> first | walk_at "ea" | (simp; done) | skip)
  | ((with_reducible apply et_t) <;> walk_at "ev")
  | ((with_reducible apply et_v) <;> walk_at "ev"))
local macro_rules | `(tactic| walk_at "ea") => `(tactic| first
  | exact ea0
  | ((with_reducible apply ea1) <;> first | walk_at "ev" | walk_at "ea" | skip))

section
variable {P : Program} {w : World} {K : PySem.W.Frag} {mg : Str → Option Value} {base : Heap}
theorem gives_iL {L : List Int} (f : Int → Bool) : gives L.length (fun i => f (L.getD i 0)) (fun i => .int (L.getD i 0)) = iL (L.filter f) := by
  unfold gives iL
  have e : L = (List.range L.length).map fun i => L.getD i 0 := by
    refine List.ext_getElem (by simp) fun i h1 h2 => ?_
    rw [List.getElem_map, List.getElem_range, getD_in h1]
  conv => rhs; rw [e]
  rw [List.filter_map, List.map_map]
  rfl
/-- how often the signs that are told change -/
def chg (S : List Int) : Nat := let L := S.filter fun x => !decide (x = 0); ((List.range (L.length - 1)).filter fun i => !decide (L.getD i 0 = L.getD (i + 1) 0)).length
theorem at_iL0 {A : List Int} {j : Nat} (h : j < A.length) : atI (iL A) (j : Int) = some (.int (A.getD j 0)) := by
  rw [at_ints h, getD_in h]
def R_changes (ds : List D) (d : D) : Prop := ∃ S : List Int, ds = [.lst (iL S)] ∧ S.length ≤ 50 ∧ d = .int ((chg S : Nat) : Int)
theorem ok_changes (T : Txt K mg) : FnG P w K mg base 1 (He.ga K "changes") ["told"] (spD K R_changes) := by
  refine fnG (N := ["told", "left", "sign", "at"]) (st := s_changes) T.f_changes sc_changes (fun vs H Q E h => ?_) (fun _ _ _ _ _ _ us hl => match us, hl with | [_], _ => rfl) (fun cdv A outer s H vs Q E hr h => ⟨_, (pss_cons (ps_asg (pe_lc (own := [("sign", 2)]) rfl sc_changes.nd (pi_list (pv 0)) (blkOk_by (own := [("sign", 2)]) (N := ["told", "left", "sign", "at"]) (sc := defScope s_changes) (by decide +kernel)) (fun _ _ _ _ _ => (pg_name (i := 2) sc_changes.nd rfl (.inl rfl))) (fun _ _ _ _ _ => (pts_one (pt_cmpR op_ne (pv 2) pe_int (nomark _)))) (fun _ _ _ _ _ => (pv 2))) (pg_name (i := 1) sc_changes.nd rfl (.inr rfl))) (pss_one (ps_ret (pe_callB call_lenS (by rfl) T.z_len PySem.boot_len (pa_cons (pe_lc (own := [("at", 3)]) rfl sc_changes.nd (pi_range2 (by rfl) T.z_range (pa_cons pe_int (pa_cons (pe_callB call_lenS (by rfl) T.z_len PySem.boot_len (pa_cons (pv 1) pa_nil)) pa_nil))) (blkOk_by (own := [("at", 3)]) (N := ["told", "left", "sign", "at"]) (sc := defScope s_changes) (by decide +kernel)) (fun _ _ _ _ _ => (pg_name (i := 3) sc_changes.nd rfl (.inl rfl))) (fun _ _ _ _ _ => (pts_one (pt_cmpR op_ne (pe_ix (ixLK (K := K) rfl) (pv 1) (pe_op op_sub (pv 3) pe_int) (fun _ _ => rfl)) (pe_ix (ixLK (K := K) rfl) (pv 1) (pv 3) (fun _ _ => rfl)) (nomark _)))) (fun _ _ _ _ _ => (pv 3))) pa_nil))))), ?_⟩)
  · obtain ⟨ds, d, a, ⟨S, rfl, _⟩, _⟩ := h
    exact a.len
  · obtain ⟨ds, d, a, ⟨S, rfl, hS, rfl⟩, q⟩ := h
    obtain ⟨u, rfl, a1⟩ := All.inv1 a
    try dsimp only [cxOf, Cx.nox, Cx.wish]
    refine q_asgN (K := K) (EvN.is (en_lc1 (n := S.length) (item := fun i => (iL S).getD i .non) (fun i => !decide (S.getD i 0 = 0)) (fun i => .int (S.getD i 0)) (fun H2 e2 => EvI.is (ei_list (es_any (ed_var rfl (a1.ex e2))) (iLlf S)) (iLlen S)) (by omega) (fun _ _ _ => rfl) (fun x => rfl) (fun i x H2 hi e2 ax => ?_) (fun i x H2 hi e2 ax _ => ?_)) (gives_iL fun x => !decide (x = 0))) fun p xs H1 hp e1 hx ax => ?_
    · rw [show (iL S).getD i .non = .int (S.getD i 0) from by rw [show (iL S).getD i .non = D.int S[i] from getD_map _ _ _ hi, getD_in hi]] at ax
      exact et_t (K := K) (ed_neI (ed_var rfl ax) ed_int)
    · rw [show (iL S).getD i .non = .int (S.getD i 0) from by rw [show (iL S).getD i .non = D.int S[i] from getD_map _ _ _ hi, getD_in hi]] at ax
      exact ed_var rfl ax
    · have hL : (S.filter fun x => !decide (x = 0)).length ≤ 50 := Nat.le_trans (List.length_filter_le _ _) hS
      have hq : q = q := rfl
      generalize hc : (S.filter fun x => !decide (x = 0)) = L at ax hL
      refine s_retD (K := K) (d := .int ((chg S : Nat) : Int)) (EvD.is (ed_lenL (K := K) (EvN.toD (en_lc1 (n := ((L.length : Int) - 1).toNat) (item := fun i => .int (1 + (i : Int))) (fun i => !decide (L.getD i 0 = L.getD (i + 1) 0)) (fun i => .int (1 + (i : Int))) (fun H2 e2 => ei_r2 (ea1 ed_int (ea1 (EvD.is (ed_lenL (K := K) (ed_var rfl (.lst (.inl (e2 _ _ hx)) (ax.ex e2)))) (by rw [iLlen])) ea0)) (by omega)) (by omega) (fun _ _ _ => rfl) (fun x => rfl) (fun i x H2 hi e2 az => ?_) (fun i x H2 hi e2 az _ => ed_var rfl az)))) ?_) fun v H2 e2 i2 => q _ _ (e1.trans e2) i2
      · have hv : Is K H2 (.ref p) (.lst (iL L)) := .lst (.inl (e2 _ _ hx)) (ax.ex e2)
        refine et_t (K := K) (ed_neI (K := K) (ed_ixL (d := .int (L.getD i 0)) (ed_var rfl hv) (ed_sub (ed_var rfl az) ed_int) ?_) (ed_ixL (d := .int (L.getD (i + 1) 0)) (ed_var rfl hv) (ed_var rfl az) ?_))
        · rw [show (1 + (i : Int) - 1) = ((i : Nat) : Int) from by omega]
          exact at_iL0 (by omega)
        · rw [show (1 + (i : Int)) = ((i + 1 : Nat) : Int) from by omega]
          exact at_iL0 (by omega)
      · unfold gives chg
        rw [hc, List.length_map, show ((L.length : Int) - 1).toNat = L.length - 1 from by omega]

end
end My
end
section
set_option Elab.async false
set_option linter.all false
set_option maxRecDepth 100000
set_option maxHeartbeats 4000000
namespace My
open PySem PySem.Spec PyProof.Rows L2 Evl WD
local macro_rules | `(tactic| walk_at "exgo") => `(tactic| first | exact Ex.refl _ | assumption | (refine' Ex.trans ?ea ?eb; (case eb => assumption); (case ea => walk_at "exgo")))
local macro_rules | `(tactic| walk_at "is") => `(tactic| first | assumption | (refine' Is.ex ?e ?h; (case h => assumption); (case e => walk_at "exgo")) | exact Is.int _ | exact Is.bl _ | exact Is.non)
local macro_rules | `(tactic| walk_at "ev") => `(tactic| first
  | exact ed_int | exact ed_bl | exact ed_non | exact ed_str
  | ((with_reducible apply ed_var) <;> first | exact rfl | walk_at "is")
  | ((with_reducible apply ed_add) <;> walk_at "ev")
  | ((with_reducible apply ed_sub) <;> walk_at "ev")
  | ((with_reducible apply ed_neg) <;> walk_at "ev")
  | ((with_reducible apply ed_mulW) <;> try walk_at "ev")
  | ((with_reducible apply ed_divW) <;> try walk_at "ev")
  | ((with_reducible apply ed_mod) <;> try walk_at "ev")
  | ((with_reducible apply ed_ixT) <;> first | exact rfl | walk_at "ev" | skip)
  | ((with_reducible apply ed_ixL) <;> first | exact rfl | walk_at "ev" | skip)
  | ((with_reducible apply ed_lt) <;> walk_at "ev")
  | ((with_reducible apply ed_le) <;> walk_at "ev")
  | ((with_reducible apply ed_gt) <;> walk_at "ev")
  | ((with_reducible apply ed_ge) <;> walk_at "ev")
  | ((with_reducible apply ed_eqI) <;> walk_at "ev")
  | ((with_reducible apply ed_neI) <;> walk_at "ev")
  | ((with_reducible apply ed_gcd) <;> walk_at "ev")
  | ((with_reducible apply ed_abs) <;> walk_at "ev")
  | ((with_reducible apply ed_intI) <;> walk_at "ev")
  | ((with_reducible apply ed_intB) <;> walk_at "ev")
  | ((with_reducible apply ed_max2) <;> walk_at "ev")
  | ((with_reducible apply ed_min2) <;> walk_at "ev")
  | ((with_reducible apply ed_lenT) <;> walk_at "ev")
  | ((with_reducible apply ed_lenL) <;> walk_at "ev")
  | ((with_reducible apply ed_tuple) <;> walk_at "ev")
  | ((with_reducible apply ed_tupleT) <;> walk_at "ev")
  | ((with_reducible apply ed_tup) <;> first | walk_at "ea" | (simp; done) | skip)
  | ((with_reducible apply et_t) <;> walk_at "ev")
  | ((with_reducible apply et_v) <;> walk_at "ev"))
local macro_rules | `(tactic| walk_at "ea") => `(tactic| first
  | exact ea0
  | ((with_reducible apply ea1) <;> first | walk_at "ev" | walk_at "ea" | skip))

section
variable {P : Program} {w : World} {K : PySem.W.Frag} {mg : Str → Option Value} {base : Heap}
structure SOk (s : List Rat) (M : Nat) : Prop where
  m0 : 0 < M
  m1 : M < 2 ^ 2000
  sl : s.length ≤ 50
  dn : ∀ q ∈ s, q.den ∣ M
  sm : ∀ q ∈ s, Sm 2000 q
def cmb (s : List Rat) : Nat := s.foldl (fun b q => Nat.lcm b q.den) 1
theorem cmb_take {s : List Rat} {i : Nat} (h : i < s.length) : cmb (s.take (i + 1)) = Nat.lcm (cmb (s.take i)) (s.getD i 0).den := by
  unfold cmb
  rw [List.take_succ_eq_append_getElem h, List.foldl_append, getD_in h]
  rfl
theorem cmb_ok {s : List Rat} {M : Nat} (ok : SOk s M) : ∀ i, i ≤ s.length → 0 < cmb (s.take i) ∧ cmb (s.take i) ∣ M ∧ ∀ k, k < i → (s.getD k 0).den ∣ cmb (s.take i)
  | 0, _ => ⟨Nat.one_pos, Nat.one_dvd M, fun k hk => absurd hk (Nat.not_lt_zero k)⟩
  | i + 1, hi => by
    obtain ⟨b0, b1, b2⟩ := cmb_ok ok i (by omega)
    rw [cmb_take (by omega)]
    have dM : (s.getD i 0).den ∣ M := ok.dn _ (gd_mem (by omega))
    refine ⟨Nat.lcm_pos b0 (s.getD i 0).den_pos, Nat.lcm_dvd b1 dM, fun k hk => ?_⟩
    by_cases hk2 : k = i
    · subst hk2
      exact Nat.dvd_lcm_right _ _
    · exact Nat.dvd_trans (b2 k (by omega)) (Nat.dvd_lcm_left _ _)
def R_common_bottom (ds : List D) (d : D) : Prop := ∃ s M, ds = [.lst (frs s)] ∧ SOk s M ∧ d = .int ((cmb s : Nat) : Int)
theorem ok_common_bottom (T : Txt K mg) : FnG P w K mg base 1 (He.ga K "common_bottom") ["fractions"] (spD K R_common_bottom) := by
  refine fnG (N := ["fractions", "bottom", "_", "below"]) (st := s_common_bottom) T.f_common_bottom sc_common_bottom (fun vs H Q E h => ?_) (fun _ _ _ _ _ _ us hl => match us, hl with | [_], _ => rfl) (fun cdv A outer s H vs Q E hr h => ⟨_, (pss_cons (ps_asg pe_int (pg_name (i := 1) sc_common_bottom.nd rfl (.inl rfl))) (pss_cons (ps_for PassesOwn.never rfl (pi_list (pv 0)) (pg_tup rfl (pgs_cons (pg_name (i := 2) sc_common_bottom.nd rfl (.inl rfl)) (pgs_cons (pg_name (i := 3) sc_common_bottom.nd rfl (.inl rfl)) pgs_nil))) (pss_one (ps_asg (pe_callBfun cr_lcm (by rfl) T.b_lcm (pa_cons (pv 1) (pa_cons (pv 3) pa_nil))) (pg_name (i := 1) sc_common_bottom.nd rfl (.inl rfl))))) (pss_one (ps_ret (pv 1))))), ?_⟩)
  · obtain ⟨ds, d, a, ⟨s, M, rfl, _⟩, _⟩ := h
    exact a.len
  · obtain ⟨ds, d, a, ⟨s, M, rfl, ok, rfl⟩, q⟩ := h
    obtain ⟨u, rfl, a1⟩ := All.inv1 a
    try dsimp only [cxOf, Cx.nox, Cx.wish]
    have hi : ∀ i (hi : i < s.length), (frs s).getD i .non = .tup [.int (s.getD i 0).num, .int ((s.getD i 0).den : Int)] := fun i hi => by
      rw [getD_frs s i hi, getD_in hi]
      rfl
    refine q_asgD (K := K) (d := .int ((1 : Nat) : Int)) ed_int fun v1 H1 e1 i1 => ?_
    cases i1
    refine q_for (K := K) (L := []) (n := s.length) (item := fun i => .tup [.int (s.getD i 0).num, .int ((s.getD i 0).den : Int)]) (EvI.item (EvI.is (ei_list (es_any (ed_var rfl (a1.ex e1))) (frs_lf s)) (frs_len s)) hi)
      (fun i σ' H' => ∃ (y4 y5 : Option V), σ' = [some u, some (.int ((cmb (s.take i) : Nat) : Int)), y4, y5] ∧ Ex H H') (fun H2 e2 => ⟨none, none, rfl, e1.trans e2⟩) ?_ ?_
    · rintro i y σ' H2 H3 hi ⟨y4, y5, rfl, eH⟩ e3 ay
      refine g_two ay fun z1 z2 az1 az2 => ?_
      cases az1
      cases az2
      have dM : (s.getD i 0).den ∣ M := ok.dn _ (gd_mem hi)
      obtain ⟨b0, b1, b2⟩ := cmb_ok ok i (by omega)
      rw [cmb_take hi]
      refine s_asgD (K := K) (d := .int ((Nat.lcm (cmb (s.take i)) (s.getD i 0).den : Nat) : Int)) (ed_lcm (ed_var rfl (.int _)) (ed_var rfl (.int _)) (Nat.lt_of_le_of_lt (Nat.le_of_dvd ok.m0 b1) (Nat.lt_of_lt_of_le ok.m1 (Nat.pow_le_pow_right (by decide) (by decide)))) (Nat.lt_of_le_of_lt (Nat.le_of_dvd ok.m0 dM) (Nat.lt_of_lt_of_le ok.m1 (Nat.pow_le_pow_right (by decide) (by decide))))) fun v4 H4 e4 i4 => ?_
      cases i4
      exact ⟨⟨_, _, rfl, (eH.trans e3).trans e4⟩, Mu.ex (e3.trans e4)⟩
    · rintro σ' H2 ⟨y4, y5, rfl, eH⟩
      rw [List.take_of_length_le (Nat.le_refl _)]
      refine s_retD (K := K) (d := .int ((cmb s : Nat) : Int)) (ed_var rfl (.int _)) fun v H3 e3 i3 => q _ _ (eH.trans e3) i3
theorem ea_starT {K : PySem.W.Frag} {σ : L2.St} {H : Hp} {te : TE} {tr : TA} {ds es : List D} (h : EvD K te σ H (.tup ds)) (hr : EvDA K tr σ H es) : EvDA K (StX.tStar K te tr) σ H (ds ++ es) := fun H1 e Q q =>
  h H1 e _ fun v H2 e2 a => by
    cases a with
    | tup r a => exact ⟨_, _, rfl, .inl r, hr H2 (e.trans e2) _ fun ys H3 e3 b => q _ H3 (e2.trans e3) ((a.ex e3).app b)⟩
def sp_Line_init (K : PySem.W.Frag) : Sp := fun vs H Q _ => ∃ x dx us H0 A s M, vs = .ref x :: us ∧ H x = some (.ins (He.ga K "Line") dx []) ∧ H0 x = none ∧ Ex H0 H ∧ All K H0 us [.tup (iL A), .lst (frs s), .tup []] ∧ SOk s M ∧
  ∀ p r B H', H0 p = none → H0 r = none → Ex H0 H' → LineAt K H' x p r A B s → 0 < B → B ∣ M → Q .non H'
theorem ok_Line___init__ (T : Txt K mg) : FnH P w K mg base 2 (He.ma K (He.ga K "Line") "__init__") ["self", "areas", "sums", "others"] (sp_Line_init K) [.ref (He.dflAt ("Line", some "__init__") 0 K)] := by
  refine fnH 3 0 (N := ["self", "areas", "sums", "others", "bottom", "top", "below", "_"]) (st := s_Line___init__) T.f_Line___init__ sc_Line___init__ (fun vs H Q E h => ?_) (List.cons_ne_nil _ _) rfl (fun _ _ _ _ _ _ _ us its h1 h2 => match us, its, h1, h2 with | [u0, u1, u2], [z0], _, _ => ⟨_, rfl, rfl⟩) (fun cdv A outer s H vs Q E hr h => ⟨_, (pss_cons (ps_asg (pe_callG (ok_common_bottom T) (hr.mono (by decide)) (by rfl) T.m_common_bottom (pa_cons (pe_lst (StX.pa_star (pv 2) (StX.pa_star (pv 3) pa_nil))) pa_nil)) (pg_name (i := 4) sc_Line___init__.nd rfl (.inr rfl))) (pss_cons (ps_fld (pv 0) (pv 1) rfl) (pss_cons (ps_fld (pv 0) (pv 4) rfl) (pss_cons (ps_fld (pv 0) (pe_lc (own := [("top", 5), ("below", 6)]) rfl sc_Line___init__.nd (pi_list (pv 2)) (blkOk_by (own := [("top", 5), ("below", 6)]) (N := ["self", "areas", "sums", "others", "bottom", "top", "below", "_"]) (sc := defScope s_Line___init__) (by decide +kernel)) (fun _ _ _ _ _ => (tupK (K := K) (n := 2) rfl rfl (pgs_cons (pg_name (i := 5) sc_Line___init__.nd rfl (.inl rfl)) (pgs_cons (pg_name (i := 6) sc_Line___init__.nd rfl (.inl rfl)) pgs_nil)))) (fun _ _ _ _ _ => pts_nil) (fun _ _ _ _ _ => (pe_op op_mulW (pv 5) (pe_op op_fdivW (pv 4) (pv 6))))) rfl) (pss_one (ps_fld (pv 0) (pe_lc (own := [("_", 7)]) rfl sc_Line___init__.nd (pi_list (pv 2)) (blkOk_by (own := [("_", 7)]) (N := ["self", "areas", "sums", "others", "bottom", "top", "below", "_"]) (sc := defScope s_Line___init__) (by decide +kernel)) (fun _ _ _ _ _ => (pg_name (i := 7) sc_Line___init__.nd rfl (.inl rfl))) (fun _ _ _ _ _ => pts_nil) (fun _ _ _ _ _ => (pv 4))) rfl)))))), ?_⟩)
  · obtain ⟨x, dx, us, H0, A, s, M, rfl, _, _, _, a, _⟩ := h
    exact congrArg Nat.succ a.len
  · obtain ⟨x, dx, us, H0, A, s, M, rfl, hx, h0, e0, a, ok, q⟩ := h
    obtain ⟨u1, u2, u3, rfl, a1, a2, a3⟩ := All.inv3 a
    try dsimp only [cxOf, Cx.nox, Cx.wish]
    have hi : ∀ i (hi : i < s.length), (frs s).getD i .non = .tup [.int (s.getD i 0).num, .int ((s.getD i 0).den : Int)] := fun i hi => by
      rw [getD_frs s i hi, getD_in hi]
      rfl
    have dpos : ∀ i (hi : i < s.length) (B : Nat), 0 < B → (s.getD i 0).den ∣ B → B ∣ M → CDivW (B : Int) ((s.getD i 0).den : Int) := fun i hi B b0 b1 b2 => divW (b := 2000) (s.getD i 0).den_pos (Nat.lt_of_le_of_lt (Nat.le_of_dvd ok.m0 (Nat.dvd_trans b1 b2)) ok.m1)
    obtain ⟨b0, b1, b2⟩ := cmb_ok ok s.length (Nat.le_refl _)
    rw [List.take_of_length_le (Nat.le_refl _)] at b0 b1 b2
    refine q_asgD (K := K) (d := .int ((cmb s : Nat) : Int)) (ed_call (R := R_common_bottom) (ea1 (EvD.is (EvN.toD (en_lst (ea_star (ed_var rfl (a2.ex e0)) (ea_starT (ed_var rfl (a3.ex e0)) ea0)) (by rw [List.append_nil, List.append_nil, frs_len]; have := ok.sl; omega))) (by rw [List.append_nil, List.append_nil])) ea0) ⟨s, M, rfl, ok, rfl⟩) fun v1 H2 eH i1 => ?_
    cases i1
    generalize cmb s = B at b0 b1 b2 ⊢
    have hx2 := eH _ _ hx
    have E2 := e0.trans eH
    refine q_fld hx2 (ed_var rfl (a1.ex E2)) (ev_ref rfl) T.c_Line T.n_Line_areas (by decide) fun w1 H3 e3 i3 => ?_
    have E3 : Ex H0 (upd H3 x (.ins (He.ga K "Line") dx (putF "areas" w1 []))) := Ex.updN (E2.trans e3) h0
    refine q_fld (K := K) (d := .int (B : Int)) upd_same (ed_var rfl (.int _)) (ev_ref rfl) T.c_Line T.n_Line_bottom (by show 1 < 1000; decide) fun w2 H4 e4 i4 => ?_
    cases i4
    have E4 : Ex H0 (upd H4 x (.ins (He.ga K "Line") dx (putF "bottom" (.int (B : Int)) (putF "areas" w1 [])))) := Ex.updN (E3.trans e4) h0
    refine q_fldN (K := K) (ds := iL (s.map fun q => q.num * ((B / q.den : Nat) : Int))) upd_same (EvN.is (en_lc2 (n := s.length) (c1 := fun i => .int (s.getD i 0).num) (c2 := fun i => .int ((s.getD i 0).den : Int)) (fun _ => true) (fun i => .int ((s.getD i 0).num * ((B / (s.getD i 0).den : Nat) : Int))) (fun H5 e5 => EvI.item (EvI.is (ei_list (es_any (ed_var rfl (a2.ex (E4.trans e5)))) (frs_lf s)) (frs_len s)) hi) (by have := ok.sl; omega) (fun _ _ _ => rfl) (fun x y => rfl) (fun i x y H5 _ _ _ _ => et_yes) (fun i z1 z2 H5 hi e5 az1 az2 _ => ?_)) ?_) (ev_ref rfl) T.c_Line T.n_Line_tops (by show 2 < 1000; decide) fun p xs H5 hp e5 hx5 ax => ?_
    · have dd := b2 i hi
      have dM : (s.getD i 0).den ∣ M := ok.dn _ (gd_mem hi)
      refine EvD.is (ed_mulW (K := K) (ed_var rfl az1) (ed_divW (ed_var rfl (.int _)) (ed_var rfl az2) (dpos i hi B b0 dd b1)) (mulW (a := 2000) (b := 2000) (ok.sm _ (gd_mem hi)).num ?_)) ?_
      · rw [← Int.natCast_ediv, Int.natAbs_natCast]
        exact Nat.lt_of_le_of_lt (Nat.div_le_self _ _) (Nat.lt_of_le_of_lt (Nat.le_of_dvd ok.m0 b1) ok.m1)
      · rw [← Int.natCast_ediv]
    · rw [gives_all]
      unfold iL
      rw [List.map_map]
      refine List.ext_getElem (by simp) fun i h1 h2 => ?_
      rw [List.getElem_map, List.getElem_map, List.getElem_range]
      rw [List.length_map, List.length_range] at h1
      rw [getD_in h1]
      rfl
    · have xs1 := allIL ax
      subst xs1
      have p0 : H0 p = none := fresh_back E4 hp
      have px : x ≠ p := fun z => by
        rw [← z, upd_same] at hp
        cases hp
      have E5 : Ex H0 (upd H5 x (.ins (He.ga K "Line") dx (putF "tops" (.ref p) (putF "bottom" (.int (B : Int)) (putF "areas" w1 []))))) := Ex.updN (E4.trans e5) h0
      refine s_fldN (K := K) (ds := iL (s.map fun _ => (B : Int))) upd_same (EvN.is (en_lc1 (n := s.length) (item := fun i => .tup [.int (s.getD i 0).num, .int ((s.getD i 0).den : Int)]) (fun _ => true) (fun i => .int (B : Int)) (fun H6 e6 => EvI.item (EvI.is (ei_list (es_any (ed_var rfl (a2.ex (E5.trans e6)))) (frs_lf s)) (frs_len s)) hi) (by have := ok.sl; omega) (fun _ _ _ => rfl) (fun x => rfl) (fun i x H6 _ _ _ => et_yes) (fun i z1 H6 hi e6 az1 _ => ed_var rfl (.int _))) ?_) (ev_ref rfl) T.c_Line T.n_Line_bottoms (by show 3 < 1000; decide) fun r ys H6 hr e6 hx6 ay => ?_
      · rw [gives_all]
        unfold iL
        rw [List.map_map]
        refine List.ext_getElem (by simp) fun i h1 h2 => ?_
        rw [List.getElem_map, List.getElem_map]
        rfl
      · have ys1 := allIL ay
        subst ys1
        have xr : x ≠ r := fun z => by
          rw [← z, upd_same] at hr
          cases hr
        have p5 : (upd H5 x (.ins (He.ga K "Line") dx (putF "tops" (.ref p) (putF "bottom" (.int (B : Int)) (putF "areas" w1 []))))) p = some (.lst ((s.map fun q => q.num * ((B / q.den : Nat) : Int)).map V.int)) := by
          rw [upd_ne px.symm]
          exact hx5
        have pr : p ≠ r := fun z => by
          rw [← z, p5] at hr
          cases hr
        refine q p r B _ p0 (fresh_back E5 hr) (Ex.updN (E5.trans e6) h0) ⟨(s.map fun q => q.num * ((B / q.den : Nat) : Int)), s.map fun _ => B, dx, w1, upd_same, ?_, pr, px, xr, ?_, ?_, List.length_map .., List.length_map .., ?_⟩ b0 b1
        · exact i3.gt ((gtI (e3 _ _ hx2)).trans ((Gt.of e4).trans ((gtI (e4 _ _ upd_same)).trans ((Gt.of e5).trans ((gtI (e5 _ _ upd_same)).trans ((Gt.of e6).trans (gtI (e6 _ _ upd_same)))))))) (iLlf A)
        · rw [upd_ne px.symm]
          exact e6 _ _ p5
        · rw [upd_ne xr.symm, show (s.map fun _ => B).map Int.ofNat = s.map fun _ => (B : Int) from by
            rw [List.map_map]
            rfl]
          exact hx6
        · intro j hj
          rw [List.getElem_map, List.getElem_map]
          refine ⟨b0, Nat.dvd_refl B, ?_⟩
          have := b2 j hj
          rw [getD_in hj] at this
          exact (over_of_dvd this).symm

end
end My
end
section
set_option Elab.async false
set_option linter.all false
set_option maxRecDepth 100000
set_option maxHeartbeats 4000000
namespace My
open PySem PySem.Spec PyProof.Rows L2 Evl WD
local macro_rules | `(tactic| walk_at "exgo") => `(tactic| first | exact Ex.refl _ | assumption | (refine' Ex.trans ?ea ?eb; (case eb => assumption); (case ea => walk_at "exgo")))
local macro_rules | `(tactic| walk_at "is") => `(tactic| first | assumption | (refine' Is.ex ?e ?h; (case h => assumption); (case e => walk_at "exgo")) | exact Is.int _ | exact Is.bl _ | exact Is.non)
local macro_rules | `(tactic| walk_at "ev") => `(tactic| first
  | exact ed_int | exact ed_bl | exact ed_non | exact ed_str
  | ((with_reducible apply ed_var) <;> first | exact rfl | walk_at "is")
  | ((with_reducible apply ed_add) <;> walk_at "ev")
  | ((with_reducible apply ed_sub) <;> walk_at "ev")
  | ((with_reducible apply ed_neg) <;> walk_at "ev")
  | ((with_reducible apply ed_mulW) <;> try walk_at "ev")
  | ((with_reducible apply ed_divW) <;> try walk_at "ev")
  | ((with_reducible apply ed_mod) <;> try walk_at "ev")
  | ((with_reducible apply ed_ixT) <;> first | exact rfl | walk_at "ev" | skip)
  | ((with_reducible apply ed_ixL) <;> first | exact rfl | walk_at "ev" | skip)
  | ((with_reducible apply ed_lt) <;> walk_at "ev")
  | ((with_reducible apply ed_le) <;> walk_at "ev")
  | ((with_reducible apply ed_gt) <;> walk_at "ev")
  | ((with_reducible apply ed_ge) <;> walk_at "ev")
  | ((with_reducible apply ed_eqI) <;> walk_at "ev")
  | ((with_reducible apply ed_neI) <;> walk_at "ev")
  | ((with_reducible apply ed_gcd) <;> walk_at "ev")
  | ((with_reducible apply ed_abs) <;> walk_at "ev")
  | ((with_reducible apply ed_intI) <;> walk_at "ev")
  | ((with_reducible apply ed_intB) <;> walk_at "ev")
  | ((with_reducible apply ed_max2) <;> walk_at "ev")
  | ((with_reducible apply ed_min2) <;> walk_at "ev")
  | ((with_reducible apply ed_lenT) <;> walk_at "ev")
  | ((with_reducible apply ed_lenL) <;> walk_at "ev")
  | ((with_reducible apply ed_tuple) <;> walk_at "ev")
  | ((with_reducible apply ed_tupleT) <;> walk_at "ev")
  | ((with_reducible apply ed_tup) <;> first | walk_at "ea" | (simp; done) | skip)
  | ((with_reducible apply et_t) <;> walk_at "ev")
  | ((with_reducible apply et_v) <;> walk_at "ev"))
local macro_rules | `(tactic| walk_at "ea") => `(tactic| first
  | exact ea0
  | ((with_reducible apply ea1) <;> first | walk_at "ev" | walk_at "ea" | skip))

section
variable {P : Program} {w : World} {K : PySem.W.Frag} {mg : Str → Option Value} {base : Heap}
def sms (v : List Rat) : List Rat := (List.range (v.length + 1)).map (S v)
theorem sms_len (v : List Rat) : (sms v).length = v.length + 1 := by
  unfold sms
  rw [List.length_map, List.length_range]
theorem sms_mem {v : List Rat} {q : Rat} (h : q ∈ sms v) : ∃ j, j ≤ v.length ∧ q = S v j := by
  unfold sms at h
  obtain ⟨j, hj, rfl⟩ := List.mem_map.mp h
  exact ⟨j, by have := List.mem_range.mp hj; omega, rfl⟩
theorem _root_.WD.RowOk.okR {A : List Int} {v : List Rat} {M W : Nat} (h : RowOk A v M W) : okR v := ⟨fun q hq => (h.sm hq).mono (by decide), fun i hi => (h.sumOk hi).2.2.2.mono (by decide), by rw [h.len]; exact h.al⟩
theorem _root_.WD.RowOk.sOk {A : List Int} {v : List Rat} {M W : Nat} (h : RowOk A v M W) : SOk (sms v) M := ⟨h.m0, Nat.lt_of_lt_of_le h.m1 (Nat.pow_le_pow_right (by decide) (by decide)), by
  rw [sms_len, h.len]
  have := h.al
  omega, fun q hq => by
    obtain ⟨j, hj, rfl⟩ := sms_mem hq
    exact (h.sumOk hj).2.2.1, fun q hq => by
    obtain ⟨j, hj, rfl⟩ := sms_mem hq
    exact (h.sumOk hj).2.2.2.mono (by decide)⟩
theorem _root_.WD.RowOk.lineOk {A : List Int} {v : List Rat} {M W B : Nat} (h : RowOk A v M W) (b0 : 0 < B) (b1 : B ∣ M) : LineOk A B (sms v) := ⟨by rw [sms_len, h.len], h.al, h.ar, b0, Nat.lt_of_le_of_lt (Nat.le_of_dvd h.m0 b1) (Nat.lt_of_lt_of_le h.m1 (Nat.pow_le_pow_right (by decide) (by decide))), fun q hq => by
    obtain ⟨j, hj, rfl⟩ := sms_mem hq
    exact (h.sumOk hj).1, fun q hq => by
    obtain ⟨j, hj, rfl⟩ := sms_mem hq
    refine Rat.le_trans (h.sumOk hj).2.1 ?_
    have : (W : Int) ≤ 2 ^ 900 := by
      have h1 := h.w1
      have h2 : (2 : Nat) ^ 400 ≤ 2 ^ 900 := Nat.pow_le_pow_right (by decide) (by decide)
      have h3 : ((2 ^ 900 : Nat) : Int) = 2 ^ 900 := rfl
      omega
    exact_mod_cast this⟩
def sp_line_of (K : PySem.W.Frag) : Sp := fun vs H Q _ => ∃ A v L M W, ∃ u, vs = [u] ∧ Is K H u (rowD A v L) ∧ RowOk A v M W ∧ ∀ x p r B H', H x = none → H p = none → H r = none → Ex H H' → LineAt K H' x p r A B (sms v) → LineOk A B (sms v) → B ∣ M → Q (.ref x) H'
theorem em_make {C : Addr} {sp : Sp} {tr : TA} {E : XK} {Q : VK} {σ : L2.St} {H : Hp} {ds es : List D} {dvs : List V} (hr : EvDA K tr σ H ds) (hd : ∀ H, All K H dvs es) (k : ∀ vs H1 x dx, Ex H H1 → All K H1 vs (ds ++ es) → H1 x = none → H1 dx = none → dx ≠ x → sp (.ref x :: vs) (upd (upd H1 dx (.own x)) x (.ins C dx [])) (fun v H2 => v = .non ∧ Q (.ref x) H2) E) : tMake C sp dvs E tr σ H Q :=
  hr H (Ex.refl H) _ fun vs H1 e1 a x dx hx hdx ne => k (vs ++ dvs) H1 x dx e1 (a.app (hd H1)) hx hdx ne
theorem ok_line_of (T : Txt K mg) : FnG P w K mg base 5 (He.ga K "line_of") ["row"] (sp_line_of K) := by
  refine fnG (N := ["row"]) (st := s_line_of) T.f_line_of sc_line_of (fun vs H Q E h => ?_) (fun _ _ _ _ _ _ us hl => match us, hl with | [_], _ => rfl) (fun cdv A outer s H vs Q E hr h => ⟨_, (pss_one (ps_ret (pe_makeH T.k_Line (ok_Line___init__ T) (hr.mono (by decide)) (by rfl) T.m_Line (pa_cons (pe_fld (pv 0) rfl) (pa_cons (pe_methG0 (pv 0) T.c_Row T.x_Row_sums (ok_Row_sums T) (hr.mono (by decide))) pa_nil))))), ?_⟩)
  · obtain ⟨A, v, L, M, W, u, rfl, _⟩ := h
    rfl
  · obtain ⟨A, v, L, M, W, u, rfl, a1, ok, q⟩ := h
    try dsimp only [cxOf, Cx.nox, Cx.wish]
    refine em_make (K := K) (ds := [.tup (iL A), .lst (WD.frs (sms v))]) (ea1 (K := K) (ed_fld (ed_var rfl a1) T.c_Row T.n_Row_areas rfl) (ea1 (d := .lst (frs (sms v))) (EvD.is (EvN.toD (en_meth (K := K) (R := R_Row_sums) (es := (List.range (v.length + 1)).map fun j => fr (S v j)) (ed_var rfl a1) rfl ea0 ⟨A, v, L, rfl, ok.okR, rfl⟩)) ?_) ea0)) (fun H2 => .cons (.tup (tupA_ok T.t_Line___init___0 H2) .nil) .nil) fun vs H1 x dx e1 a hx hdx ne => ?_
    · unfold WD.frs sms
      rw [List.map_map]
      rfl
    · have e3 : Ex H1 (upd (upd H1 dx (.own x)) x (.ins (He.ga K "Line") dx [])) := (Ex.new hdx).trans (Ex.new (by
        rw [upd_ne ne.symm]
        exact hx))
      exact ⟨x, dx, vs, H1, A, sms v, M, rfl, upd_same, hx, e3, a, ok.sOk, fun p r B H' hp hr e4 l b0 b1 => ⟨rfl, q x p r B H' (fresh_back e1 hx) (fresh_back e1 hp) (fresh_back e1 hr) (e1.trans e4) l (ok.lineOk b0 b1) b1⟩⟩
theorem em_line_of {E : XK} {Q : VK} {σ : L2.St} {H : Hp} {A L : List Int} {v : List Rat} {M W : Nat} {tu : TE} (h : EvD K tu σ H (rowD A v L)) (ok : RowOk A v M W) (k : ∀ x p r B H', H x = none → H p = none → H r = none → Ex H H' → LineAt K H' x p r A B (sms v) → LineOk A B (sms v) → B ∣ M → Q (.ref x) H') : tCall (sp_line_of K) [] E (tCons tu tNil) σ H Q :=
  h H (Ex.refl H) _ fun u H1 e1 a => ⟨A, v, L, M, W, u, rfl, a, ok, fun x p r B H' hx hp hr e l lo b => k x p r B H' (fresh_back e1 hx) (fresh_back e1 hp) (fresh_back e1 hr) (e1.trans e) l lo b⟩
/-- the signs at all weirs, as a list of its own -/
theorem en_signs {E E' : XK} {σ : L2.St} {H : Hp} {A L : List Int} {v : List Rat} {M W : Nat} {tu : TE} (h : EvD K tu σ H (rowD A v L)) (ok : RowOk A v M W) : EvN K (tCall (sp_all_signs K) [] E (tCons (tCall (sp_line_of K) [] E' (tCons tu tNil)) tNil)) σ H (iL (sgs A (sms v))) := fun H1 e1 Q q =>
  em_line_of (fun H2 e2 => h H2 (e1.trans e2)) ok fun x p r B H2 hx hp hr e2 l lo b => ⟨x, p, r, A, B, sms v, rfl, l, lo, fun z H3 hz m l3 hx3 => q z _ H3 (fresh_back e2 hz) (Mu.of_ex e2 m fun y hy => by
    rcases List.mem_cons.mp hy with hy | hy
    · rw [hy]
      exact hp
    · rw [List.mem_singleton.mp hy]
      exact hr) hx3 (all_ints _ _)⟩
def R_signs (ds es : List D) : Prop := ∃ A v L M W, ds = [rowD A v L] ∧ RowOk A v M W ∧ es = iL ((sgs A (sms v)).filter fun x => !decide (x = 0))
theorem sgs_len (A : List Int) (s : List Rat) : (sgs A s).length = A.length - 1 := by
  unfold sgs
  rw [List.length_map, List.length_range]
theorem ok_signs (T : Txt K mg) : FnG P w K mg base 6 (He.ga K "signs") ["row"] (spN K R_signs) := by
  refine fnG (N := ["row", "sign"]) (st := s_signs) T.f_signs sc_signs (fun vs H Q E h => ?_) (fun _ _ _ _ _ _ us hl => match us, hl with | [_], _ => rfl) (fun cdv A outer s H vs Q E hr h => ⟨_, (pss_cons (ps_expr (pe_callG (ok_check_row T) (hr.mono (by decide)) (by rfl) T.m_check_row (pa_cons (pv 0) pa_nil))) (pss_one (ps_ret (pe_lc (own := [("sign", 1)]) rfl sc_signs.nd (pi_list (pe_callG (ok_all_signs T) (hr.mono (by decide)) (by rfl) T.m_all_signs (pa_cons (pe_callG (ok_line_of T) (hr.mono (by decide)) (by rfl) T.m_line_of (pa_cons (pv 0) pa_nil)) pa_nil))) (blkOk_by (own := [("sign", 1)]) (N := ["row", "sign"]) (sc := defScope s_signs) (by decide +kernel)) (fun _ _ _ _ _ => (pg_name (i := 1) sc_signs.nd rfl (.inl rfl))) (fun _ _ _ _ _ => (pts_one (pt_cmpR op_ne (pv 1) pe_int (nomark _)))) (fun _ _ _ _ _ => (pv 1)))))), ?_⟩)
  · obtain ⟨ds, d, a, ⟨A, v, L, M, W, rfl, _⟩, _⟩ := h
    exact a.len
  · obtain ⟨ds, d, a, ⟨A, v, L, M, W, rfl, ok, rfl⟩, q⟩ := h
    obtain ⟨u, rfl, a1⟩ := All.inv1 a
    try dsimp only [cxOf, Cx.nox, Cx.wish]
    refine q_do (ed_call (d := .non) (ea1 (ed_var rfl a1) ea0) ⟨_, rfl, rfl⟩) fun H1 e1 => ?_
    have hS : (sgs A (sms v)).length ≤ 50 := by
      rw [sgs_len]
      have := ok.al
      omega
    generalize hg : sgs A (sms v) = SG at q hS
    refine s_retN (K := K) (EvN.is (en_lc1 (n := SG.length) (item := fun i => (iL SG).getD i .non) (fun i => !decide (SG.getD i 0 = 0)) (fun i => .int (SG.getD i 0)) (fun H2 e2 => EvI.is (ei_list (es_new (hg ▸ en_signs (ed_var rfl (a1.ex (e1.trans e2))) ok) (fun l hl => nomatch hl)) (iLlf SG)) (iLlen SG)) (by omega) (fun _ _ _ => rfl) (fun x => rfl) (fun i x H2 hi e2 ax => ?_) (fun i x H2 hi e2 ax _ => ?_)) (gives_iL fun x => !decide (x = 0))) fun p xs H' hp e hx ax => q p xs H' (fresh_back e1 hp) (e1.trans e) hx ax
    · rw [show (iL SG).getD i .non = .int (SG.getD i 0) from by rw [show (iL SG).getD i .non = D.int SG[i] from getD_map _ _ _ hi, getD_in hi]] at ax
      exact et_t (K := K) (ed_neI (ed_var rfl ax) ed_int)
    · rw [show (iL SG).getD i .non = .int (SG.getD i 0) from by rw [show (iL SG).getD i .non = D.int SG[i] from getD_map _ _ _ hi, getD_in hi]] at ax
      exact ed_var rfl ax
/-- how often a row turns -/
def trn (A : List Int) (v : List Rat) : Nat := chg (sgs A (sms v))
def R_turns (ds : List D) (d : D) : Prop := ∃ A v L M W, ds = [rowD A v L] ∧ RowOk A v M W ∧ d = .int ((trn A v : Nat) : Int)
theorem chg_idem (S : List Int) : chg (S.filter fun x => !decide (x = 0)) = chg S := by
  unfold chg
  rw [List.filter_filter]
  simp only [Bool.and_self]
theorem ok_turns (T : Txt K mg) : FnG P w K mg base 7 (He.ga K "turns") ["row"] (spD K R_turns) := by
  refine fnG (N := ["row"]) (st := s_turns) T.f_turns sc_turns (fun vs H Q E h => ?_) (fun _ _ _ _ _ _ us hl => match us, hl with | [_], _ => rfl) (fun cdv A outer s H vs Q E hr h => ⟨_, (pss_one (ps_ret (pe_callG (ok_changes T) (hr.mono (by decide)) (by rfl) T.m_changes (pa_cons (pe_callG (ok_signs T) (hr.mono (by decide)) (by rfl) T.m_signs (pa_cons (pv 0) pa_nil)) pa_nil)))), ?_⟩)
  · obtain ⟨ds, d, a, ⟨A, v, L, M, W, rfl, _⟩, _⟩ := h
    exact a.len
  · obtain ⟨ds, d, a, ⟨A, v, L, M, W, rfl, ok, rfl⟩, q⟩ := h
    obtain ⟨u, rfl, a1⟩ := All.inv1 a
    try dsimp only [cxOf, Cx.nox, Cx.wish]
    refine s_retD (K := K) (d := .int ((trn A v : Nat) : Int)) (ed_call (ea1 (EvN.toD (en_call (K := K) (ea1 (ed_var rfl a1) ea0) ⟨A, v, L, M, W, rfl, ok, rfl⟩)) ea0) ⟨_, rfl, ?_, ?_⟩) fun v2 H2 e2 i2 => q _ _ e2 i2
    · refine Nat.le_trans (List.length_filter_le _ _) ?_
      rw [sgs_len]
      have := ok.al
      omega
    · unfold trn
      rw [chg_idem]

end
end My
end
section
set_option Elab.async false
set_option linter.all false
set_option maxRecDepth 100000
set_option maxHeartbeats 4000000
namespace My
open PySem PySem.Spec PyProof.Rows L2 Evl WD
local macro_rules | `(tactic| walk_at "exgo") => `(tactic| first | exact Ex.refl _ | assumption | (refine' Ex.trans ?ea ?eb; (case eb => assumption); (case ea => walk_at "exgo")))
local macro_rules | `(tactic| walk_at "is") => `(tactic| first | assumption | (refine' Is.ex ?e ?h; (case h => assumption); (case e => walk_at "exgo")) | exact Is.int _ | exact Is.bl _ | exact Is.non)
local macro_rules | `(tactic| walk_at "ev") => `(tactic| first
  | exact ed_int | exact ed_bl | exact ed_non | exact ed_str
  | ((with_reducible apply ed_var) <;> first | exact rfl | walk_at "is")
  | ((with_reducible apply ed_add) <;> walk_at "ev")
  | ((with_reducible apply ed_sub) <;> walk_at "ev")
  | ((with_reducible apply ed_neg) <;> walk_at "ev")
  | ((with_reducible apply ed_mulW) <;> try walk_at "ev")
  | ((with_reducible apply ed_divW) <;> try walk_at "ev")
  | ((with_reducible apply ed_mod) <;> try walk_at "ev")
  | ((with_reducible apply ed_ixT) <;> first | exact rfl | walk_at "ev" | skip)
  | ((with_reducible apply ed_ixL) <;> first | exact rfl | walk_at "ev" | skip)
  | ((with_reducible apply ed_lt) <;> walk_at "ev")
  | ((with_reducible apply ed_le) <;> walk_at "ev")
  | ((with_reducible apply ed_gt) <;> walk_at "ev")
  | ((with_reducible apply ed_ge) <;> walk_at "ev")
  | ((with_reducible apply ed_eqI) <;> walk_at "ev")
  | ((with_reducible apply ed_neI) <;> walk_at "ev")
  | ((with_reducible apply ed_gcd) <;> walk_at "ev")
  | ((with_reducible apply ed_abs) <;> walk_at "ev")
  | ((with_reducible apply ed_intI) <;> walk_at "ev")
  | ((with_reducible apply ed_intB) <;> walk_at "ev")
  | ((with_reducible apply ed_max2) <;> walk_at "ev")
  | ((with_reducible apply ed_min2) <;> walk_at "ev")
  | ((with_reducible apply ed_lenT) <;> walk_at "ev")
  | ((with_reducible apply ed_lenL) <;> walk_at "ev")
  | ((with_reducible apply ed_tuple) <;> walk_at "ev")
  | ((with_reducible apply ed_tupleT) <;> walk_at "ev")
  | ((with_reducible apply ed_tup) <;> first | walk_at "ea" | (simp; done) | skip)
  | ((with_reducible apply et_t) <;> walk_at "ev")
  | ((with_reducible apply et_v) <;> walk_at "ev"))
local macro_rules | `(tactic| walk_at "ea") => `(tactic| first
  | exact ea0
  | ((with_reducible apply ea1) <;> first | walk_at "ev" | walk_at "ea" | skip))

section
variable {P : Program} {w : World} {K : PySem.W.Frag} {mg : Str → Option Value} {base : Heap}
def R_check_order (ds es : List D) : Prop := ∃ A v L O, ds = [rowD A v L, .lst (iL O)] ∧ O.length ≤ 100 ∧ (∀ o ∈ O, inR A L o = true) ∧ es = iL O
theorem ok_check_order (T : Txt K mg) : FnG P w K mg base 3 (He.ga K "check_order") ["row", "order"] (spN K R_check_order) := by
  refine fnG (N := ["row", "order", "place", "weir"]) (st := s_check_order) T.f_check_order sc_check_order (fun vs H Q E h => ?_) (fun _ _ _ _ _ _ us hl => match us, hl with | [_, _], _ => rfl) (fun cdv A outer s H vs Q E hr h => ⟨_, (pss_cons (ps_if (PW.pt (pw_or (pt_not (pt_val (pe_callB call_isiT (by rfl) T.z_isinstance (by decide +kernel) (pa_cons (pv 1) (pa_cons (pe_tup (pa_cons (pe_tyN (n := "list") (by rfl) T.z_list (by decide +kernel)) (pa_cons (pe_tyN (n := "tuple") (by rfl) T.z_tuple (by decide +kernel)) pa_nil))) pa_nil))))) (pw_or1 (pt_cmpR op_gt (pe_callB call_lenS (by rfl) T.z_len PySem.boot_len (pa_cons (pv 1) pa_nil)) (pe_globI (by rfl) T.i_MOST_OPENINGS) (nomark _))))) (pss_one ps_never) pss_nil) (pss_cons (ps_for PassesOwn.never rfl (pi_enum (by rfl) T.z_enumerate (pa_cons (pv 1) pa_nil)) (pg_tup rfl (pgs_cons (pg_name (i := 2) sc_check_order.nd rfl (.inl rfl)) (pgs_cons (pg_name (i := 3) sc_check_order.nd rfl (.inl rfl)) pgs_nil))) (pss_one (ps_if (pt_cmpR (notInO_of (ok_Row___contains__ T) T.x_Row___contains__ (hr.mono (by decide))) (pv 3) (pv 0) (by rfl)) (pss_one ps_never) pss_nil))) (pss_one (ps_ret (pe_callTy call_listS (by rfl) T.z_list (by decide +kernel) (pa_cons (pv 1) pa_nil)))))), ?_⟩)
  · obtain ⟨ds, d, a, ⟨A, v, L, O, rfl, _⟩, _⟩ := h
    exact a.len
  · obtain ⟨ds, d, a, ⟨A, v, L, O, rfl, hO, hi, rfl⟩, q⟩ := h
    obtain ⟨u, u', rfl, a1, a2⟩ := All.inv2 a
    try dsimp only [cxOf, Cx.nox, Cx.wish]
    refine q_when (b := false || decide ((O.length : Int) > 20000)) (et_or (et_not (a := true || false) (et_v (K := K) (ed_isiT (n1 := "list") (n2 := "tuple") (ed_var rfl a2) rfl (by decide +kernel) (by decide +kernel)))) fun _ => et_t (K := K) (ed_gt (EvD.is (ed_lenL (K := K) (ed_var rfl a2)) (by rw [iLlen])) ed_int)) (fun z => ?_) (fun _ H1 e1 => ?_)
    · exfalso
      rw [decide_eq_false (show ¬ ((O.length : Int) > 20000) by omega)] at z
      cases z
    · refine q_look (K := K) (W := fun σ => ∃ y z, σ = [some u, some u', y, z]) (EvI.is (ei_enum (es_any (ed_var rfl (a2.ex e1))) (iLlf O)) (iLlen O)) ⟨none, none, rfl⟩ ?_ ?_
      · rintro i x σ' H' H'' hii ⟨y, z, rfl⟩ e2 e3 ax Nx hN
        refine g_two ax fun z1 z2 az1 az2 => ?_
        rw [show (iL O).getD i .non = .int O[i] from getD_map _ _ _ hii] at az2
        refine s_when (b := false) (et_t (EvD.is (ed_inO (K := K) (neg := true) (b := true) (ed_var rfl az2) (ed_var rfl (a1.ex ((e1.trans e2).trans e3))) ⟨A, v, L, O[i], rfl, by rw [hi _ (List.getElem_mem hii)]⟩) rfl)) (fun z => nomatch z) (fun _ H4 e4 => hN _ _ ⟨_, _, rfl⟩ e4)
      · rintro σ' H' ⟨y, z, rfl⟩ e2
        exact s_retN (K := K) (en_list (ed_var rfl (a2.ex (e1.trans e2)))) fun p xs H3 hp e3 hx ax => q p xs H3 (fresh_back (e1.trans e2) hp) ((e1.trans e2).trans e3) hx ax
def sinkF (ns : List Int) : List (Str × D) := [("numbers", .lst (iL ns))]
def R_Sinking (mk : List D → D) (ds : List D) (fs : List (Str × D)) : Prop := ∃ ns : List Int, ds = [mk (iL ns)] ∧ fs = sinkF ns
theorem ok_Sinking___init___L (T : Txt K mg) : FnG P w K mg base 1 (He.ma K (He.ga K "Sinking") "__init__") ["self", "numbers"] (spI K "Sinking" (R_Sinking .lst)) := by
  refine fnG (N := ["self", "numbers"]) (st := s_Sinking___init__) T.f_Sinking___init__ sc_Sinking___init__ (fun vs H Q E h => ?_) (fun _ _ _ _ _ _ us hl => match us, hl with | [_, _], _ => rfl) (fun cdv A outer s H vs Q E hr h => ⟨_, (pss_one (ps_fld (pv 0) (pe_callTy call_listS (by rfl) T.z_list (by decide +kernel) (pa_cons (pv 1) pa_nil)) rfl)), ?_⟩)
  · obtain ⟨x, dx, us, ds, fs, H0, rfl, _, _, _, a, ⟨ns, rfl, _⟩, _⟩ := h
    exact congrArg Nat.succ a.len
  · obtain ⟨x, dx, us, ds, fs, H0, rfl, hx, h0, ex, a, ⟨ns, rfl, rfl⟩, q⟩ := h
    obtain ⟨u, rfl, a1⟩ := All.inv1 a
    try dsimp only [cxOf, Cx.nox, Cx.wish]
    refine s_fldN (K := K) hx (en_list (ed_var rfl (a1.ex ex))) (ev_ref rfl) T.c_Sinking T.n_Sinking_numbers (by decide) fun p xs H1 hp e1 hx1 ax => ?_
    have px : p ≠ x := fun z => by
      rw [z, hx] at hp
      cases hp
    refine q _ _ ((Xe.ex e1).trans Xe.upd) upd_same (.cons (.lst (.inl ?_) (ax.gt (gtI (e1 _ _ hx)) (iLlf ns))) .nil)
    rw [upd_ne px]
    exact hx1
theorem ok_Sinking___init___T (T : Txt K mg) : FnG P w K mg base 1 (He.ma K (He.ga K "Sinking") "__init__") ["self", "numbers"] (spI K "Sinking" (R_Sinking .tup)) := by
  refine fnG (N := ["self", "numbers"]) (st := s_Sinking___init__) T.f_Sinking___init__ sc_Sinking___init__ (fun vs H Q E h => ?_) (fun _ _ _ _ _ _ us hl => match us, hl with | [_, _], _ => rfl) (fun cdv A outer s H vs Q E hr h => ⟨_, (pss_one (ps_fld (pv 0) (pe_callTy call_listS (by rfl) T.z_list (by decide +kernel) (pa_cons (pv 1) pa_nil)) rfl)), ?_⟩)
  · obtain ⟨x, dx, us, ds, fs, H0, rfl, _, _, _, a, ⟨ns, rfl, _⟩, _⟩ := h
    exact congrArg Nat.succ a.len
  · obtain ⟨x, dx, us, ds, fs, H0, rfl, hx, h0, ex, a, ⟨ns, rfl, rfl⟩, q⟩ := h
    obtain ⟨u, rfl, a1⟩ := All.inv1 a
    try dsimp only [cxOf, Cx.nox, Cx.wish]
    refine s_fldN (K := K) hx (en_listT (ed_var rfl (a1.ex ex))) (ev_ref rfl) T.c_Sinking T.n_Sinking_numbers (by decide) fun p xs H1 hp e1 hx1 ax => ?_
    have px : p ≠ x := fun z => by
      rw [z, hx] at hp
      cases hp
    refine q _ _ ((Xe.ex e1).trans Xe.upd) upd_same (.cons (.lst (.inl ?_) (ax.gt (gtI (e1 _ _ hx)) (iLlf ns))) .nil)
    rw [upd_ne px]
    exact hx1
theorem own_Sinking (T : Txt K mg) : OwnTy K "Sinking" := ⟨T.c_Sinking, T.cl_Sinking, T.sp, T.tk, T.ob_Sinking⟩
theorem pys_iL : ∀ ns : List Int, D.pys (iL ns) = ns.map .int
  | [] => rfl
  | n :: ns => congrArg _ (pys_iL ns)
theorem fls_iL : ∀ ns : List Int, D.fls (iL ns) = true
  | [] => rfl
  | n :: ns => fls_iL ns
theorem eqvs_int : ∀ a b : List Int, PyData.eqv (.list (a.map .int)) (.list (b.map .int)) = decide (a = b)
  | [], [] => by simp [PyData.eqv, PyData.eqvAll]
  | [], _ :: _ => by simp [PyData.eqv, PyData.eqvAll]
  | _ :: _, [] => by simp [PyData.eqv, PyData.eqvAll]
  | x :: a, y :: b => by
    have h := eqvs_int a b
    simp only [PyData.eqv] at h
    simp [PyData.eqv, PyData.eqvAll, h]
    rw [Bool.eq_iff_iff]
    simp
def R_Sinking___eq__ (ds : List D) (d : D) : Prop := ∃ a b : List Int, ds = [.obj "Sinking" (sinkF a), .obj "Sinking" (sinkF b)] ∧ d = .bl (decide (a = b))
def R_Sinking___bool__ (ds : List D) (d : D) : Prop := ∃ a : List Int, ds = [.obj "Sinking" (sinkF a)] ∧ d = .bl true
theorem ok_Sinking___bool__ (T : Txt K mg) : FnG P w K mg base 1 (He.ma K (He.ga K "Sinking") "__bool__") ["self"] (spD K R_Sinking___bool__) := by
  refine fnG (N := ["self"]) (st := s_Sinking___bool__) T.f_Sinking___bool__ sc_Sinking___bool__ (fun vs H Q E h => ?_) (fun _ _ _ _ _ _ us hl => match us, hl with | [_], _ => rfl) (fun cdv A outer s H vs Q E hr h => ⟨_, (pss_one (ps_ret pe_bl)), ?_⟩)
  · obtain ⟨ds, d, a, ⟨A, rfl, _⟩, _⟩ := h
    exact a.len
  · obtain ⟨ds, d, a, ⟨A, rfl, rfl⟩, q⟩ := h
    obtain ⟨u, rfl, a1⟩ := All.inv1 a
    try dsimp only [cxOf, Cx.nox, Cx.wish]
    exact s_retD (K := K) ed_bl fun v2 H2 x2 i2 => q _ _ x2 i2
theorem lay_iL : ∀ ns : List Int, PyData.canLayAll0 (ns.map PyData.int) = true
  | [] => by simp [PyData.canLayAll0]
  | n :: ns => by
    have := lay_iL ns
    simp [PyData.canLayAll0, PyData.canLay0, this]
theorem dep_iL : ∀ ns : List Int, PyData.depthAll (ns.map PyData.int) ≤ 1
  | [] => by simp [PyData.depthAll]
  | n :: ns => by
    have := dep_iL ns
    simp [PyData.depthAll, PyData.depth] at this ⊢
    omega
theorem sh_iL (ns : List Int) : Sh (.lst (iL ns)) := ⟨fls_iL ns, by
  show SeqAt.shaped (.list (D.pys (iL ns))) = true
  rw [pys_iL]
  unfold SeqAt.shaped
  have h1 := lay_iL ns
  have h2 := dep_iL ns
  simp [PyData.canLay0, PyData.depth, h1]
  omega⟩
theorem eqv_iL (a b : List Int) : PyData.eqv (D.lst (iL a)).py (D.lst (iL b)).py = decide (a = b) := by
  show PyData.eqv (.list (D.pys (iL a))) (.list (D.pys (iL b))) = _
  rw [pys_iL, pys_iL, eqvs_int]
theorem ok_Sinking___eq__ (T : Txt K mg) : FnG P w K mg base 1 (He.ma K (He.ga K "Sinking") "__eq__") ["self", "other"] (spD K R_Sinking___eq__) := by
  refine fnG (N := ["self", "other"]) (st := s_Sinking___eq__) T.f_Sinking___eq__ sc_Sinking___eq__ (fun vs H Q E h => ?_) (fun _ _ _ _ _ _ us hl => match us, hl with | [_, _], _ => rfl) (fun cdv A outer s H vs Q E hr h => ⟨_, (pss_one (ps_ret (pe_and (pe_callB call_isi (by rfl) T.z_isinstance (by decide +kernel) (pa_cons (pv 1) (pa_cons (pe_clsN (by rfl) T.m_Sinking) pa_nil))) (pe_one (pe_cmpR (op_eqD (hr.units)) (pe_fld (pv 0) rfl) (pe_fld (pv 1) rfl) (nomark _)))))), ?_⟩)
  · obtain ⟨ds, d, a, ⟨A, B, rfl, _⟩, _⟩ := h
    exact a.len
  · obtain ⟨ds, d, a, ⟨A, B, rfl, rfl⟩, q⟩ := h
    obtain ⟨u, u', rfl, a1, a2⟩ := All.inv2 a
    try dsimp only [cxOf, Cx.nox, Cx.wish]
    refine s_retD (K := K) (EvD.is (ed_andV (K := K) (a := true) (b := decide (A = B)) (ed_isiO (ed_var rfl a2) (own_Sinking T) T.ki_Sinking) fun _ => EvD.is (ed_eqD (K := K) (ed_fld (ed_var rfl a1) T.c_Sinking T.n_Sinking_numbers rfl) (ed_fld (ed_var rfl a2) T.c_Sinking T.n_Sinking_numbers rfl) (sh_iL A) (sh_iL B)) (by rw [eqv_iL])) (by rw [Bool.true_and])) fun v2 H2 x2 i2 => q _ _ x2 i2

end
end My
end
section
set_option Elab.async false
set_option linter.all false
set_option maxRecDepth 100000
set_option maxHeartbeats 4000000
namespace My
open PySem PySem.Spec PyProof.Rows L2 Evl WD
local macro_rules | `(tactic| walk_at "exgo") => `(tactic| first | exact Ex.refl _ | assumption | (refine' Ex.trans ?ea ?eb; (case eb => assumption); (case ea => walk_at "exgo")))
local macro_rules | `(tactic| walk_at "is") => `(tactic| first | assumption | (refine' Is.ex ?e ?h; (case h => assumption); (case e => walk_at "exgo")) | exact Is.int _ | exact Is.bl _ | exact Is.non)
local macro_rules | `(tactic| walk_at "ev") => `(tactic| first
  | exact ed_int | exact ed_bl | exact ed_non | exact ed_str
  | ((with_reducible apply ed_var) <;> first | exact rfl | walk_at "is")
  | ((with_reducible apply ed_add) <;> walk_at "ev")
  | ((with_reducible apply ed_sub) <;> walk_at "ev")
  | ((with_reducible apply ed_neg) <;> walk_at "ev")
  | ((with_reducible apply ed_mulW) <;> try walk_at "ev")
  | ((with_reducible apply ed_divW) <;> try walk_at "ev")
  | ((with_reducible apply ed_mod) <;> try walk_at "ev")
  | ((with_reducible apply ed_ixT) <;> first | exact rfl | walk_at "ev" | skip)
  | ((with_reducible apply ed_ixL) <;> first | exact rfl | walk_at "ev" | skip)
  | ((with_reducible apply ed_lt) <;> walk_at "ev")
  | ((with_reducible apply ed_le) <;> walk_at "ev")
  | ((with_reducible apply ed_gt) <;> walk_at "ev")
  | ((with_reducible apply ed_ge) <;> walk_at "ev")
  | ((with_reducible apply ed_eqI) <;> walk_at "ev")
  | ((with_reducible apply ed_neI) <;> walk_at "ev")
  | ((with_reducible apply ed_gcd) <;> walk_at "ev")
  | ((with_reducible apply ed_abs) <;> walk_at "ev")
  | ((with_reducible apply ed_intI) <;> walk_at "ev")
  | ((with_reducible apply ed_intB) <;> walk_at "ev")
  | ((with_reducible apply ed_max2) <;> walk_at "ev")
  | ((with_reducible apply ed_min2) <;> walk_at "ev")
  | ((with_reducible apply ed_lenT) <;> walk_at "ev")
  | ((with_reducible apply ed_lenL) <;> walk_at "ev")
  | ((with_reducible apply ed_tuple) <;> walk_at "ev")
  | ((with_reducible apply ed_tupleT) <;> walk_at "ev")
  | ((with_reducible apply ed_tup) <;> first | walk_at "ea" | (simp; done) | skip)
  | ((with_reducible apply et_t) <;> walk_at "ev")
  | ((with_reducible apply et_v) <;> walk_at "ev"))
local macro_rules | `(tactic| walk_at "ea") => `(tactic| first
  | exact ea0
  | ((with_reducible apply ea1) <;> first | walk_at "ev" | walk_at "ea" | skip))

section
variable {P : Program} {w : World} {K : PySem.W.Frag} {mg : Str → Option Value} {base : Heap}
theorem em_even {te : TE} {tr : TA} {E : XK} {Q : VK} {σ : L2.St} {H : Hp} {x p r : Addr} {A : List Int} {B : Nat} {s : List Rat} {j : Nat} (h : LineAt K H x p r A B s) (ok : LineOk A B s) (j1 : 1 ≤ j) (j2 : j < A.length) (ho : Ev te σ H (.ref x)) (hr : EvDA K tr σ H [.int (j : Int)])
    (k : ∀ (B' : Nat) H', Mu [x, p, r] H H' → LineAt K H' x p r A B' (evn A s j) → 0 < B' → B ∣ B' → B' ∣ B * (A.getD (j - 1) 1 + A.getD j 1).toNat → Q .non H') : tMeth (He.ga K "Line") "even" (sp_even K) [] E te tr σ H Q := by
  obtain ⟨ts, bs, dx, va, l⟩ := id h
  refine em_meth ho l.ob rfl hr fun vs H1 e1 a => ?_
  obtain ⟨v, rfl, a1⟩ := All.inv1 a
  cases a1
  exact ⟨x, p, r, A, B, s, j, rfl, h.ex e1, ok, j1, j2, fun B' H' m l' b0 b1 b2 => k B' H' ((Mu.ex e1).trans m) l' b0 b1 b2⟩
theorem evn_len (A : List Int) (s : List Rat) (j : Nat) : (evn A s j).length = s.length := List.length_set
theorem evn_ne {A : List Int} {s : List Rat} {j k : Nat} (h : k ≠ j) : (evn A s j).getD k 0 = s.getD k 0 := by
  unfold evn
  rw [List.getD_eq_getElem?_getD, List.getElem?_set_ne (by omega)]
  exact List.getD_eq_getElem?_getD.symm
theorem rise_ne {A : List Int} {s : List Rat} {j k : Nat} (h1 : k + 1 < j ∨ j + 1 < k) : rise A (evn A s j) k = rise A s k := by
  unfold rise
  rw [evn_ne (by omega), evn_ne (by omega), evn_ne (by omega)]
theorem mean_le {a b : Int} {x y hi : Rat} (ha : 1 ≤ a) (hb : 1 ≤ b) (hx : x ≤ hi) (hy : y ≤ hi) : ((b : Rat) * x + (a : Rat) * y) / ((a + b : Int) : Rat) ≤ hi := by
  have a0 : (0 : Rat) < (a : Rat) := by exact_mod_cast (show (0 : Int) < a by omega)
  have b0 : (0 : Rat) < (b : Rat) := by exact_mod_cast (show (0 : Int) < b by omega)
  have c0 : (0 : Rat) < ((a + b : Int) : Rat) := by exact_mod_cast (show (0 : Int) < a + b by omega)
  have h1 := Rat.mul_le_mul_of_nonneg_left hx (Rat.le_of_lt b0)
  have h2 := Rat.mul_le_mul_of_nonneg_left hy (Rat.le_of_lt a0)
  have e : ((b : Rat) * x + (a : Rat) * y) / ((a + b : Int) : Rat) * ((a + b : Int) : Rat) = (b : Rat) * x + (a : Rat) * y := by grind
  generalize ((b : Rat) * x + (a : Rat) * y) / ((a + b : Int) : Rat) = z at e ⊢
  apply Decidable.byContradiction
  intro n
  have n := Rat.not_le.mp n
  have h3 := Rat.mul_pos (show 0 < z - hi by grind) c0
  rw [Rat.intCast_add] at e h3
  grind
theorem mean_ge {a b : Int} {x y lo : Rat} (ha : 1 ≤ a) (hb : 1 ≤ b) (hx : lo ≤ x) (hy : lo ≤ y) : lo ≤ ((b : Rat) * x + (a : Rat) * y) / ((a + b : Int) : Rat) := by
  have a0 : (0 : Rat) < (a : Rat) := by exact_mod_cast (show (0 : Int) < a by omega)
  have b0 : (0 : Rat) < (b : Rat) := by exact_mod_cast (show (0 : Int) < b by omega)
  have c0 : (0 : Rat) < ((a + b : Int) : Rat) := by exact_mod_cast (show (0 : Int) < a + b by omega)
  have h1 := Rat.mul_le_mul_of_nonneg_left hx (Rat.le_of_lt b0)
  have h2 := Rat.mul_le_mul_of_nonneg_left hy (Rat.le_of_lt a0)
  have e : ((b : Rat) * x + (a : Rat) * y) / ((a + b : Int) : Rat) * ((a + b : Int) : Rat) = (b : Rat) * x + (a : Rat) * y := by grind
  generalize ((b : Rat) * x + (a : Rat) * y) / ((a + b : Int) : Rat) = z at e ⊢
  apply Decidable.byContradiction
  intro n
  have n := Rat.not_le.mp n
  have h3 := Rat.mul_pos (show 0 < lo - z by grind) c0
  rw [Rat.intCast_add] at e h3
  grind
theorem LineOk.evn {A : List Int} {B B' : Nat} {s : List Rat} (ok : LineOk A B s) {j : Nat} (j1 : 1 ≤ j) (j2 : j < A.length) (b0 : 0 < B') (b1 : B' < 2 ^ 2000) : LineOk A B' (evn A s j) := by
  have hl := ok.len
  have ha := ok.ar _ (gd_mem (z := 1) (show j - 1 < A.length by omega))
  have hb := ok.ar _ (gd_mem (z := 1) j2)
  have m1 : s.getD (j - 1) 0 ∈ s := gd_mem (by omega)
  have m2 : s.getD (j + 1) 0 ∈ s := gd_mem (by omega)
  refine ⟨(evn_len A s j).trans hl, ok.al, ok.ar, b0, b1, fun q hq => ?_, fun q hq => ?_⟩
  · unfold My.evn at hq
    rcases List.mem_or_eq_of_mem_set hq with hq | rfl
    · exact ok.lo q hq
    · exact mean_ge ha.1 hb.1 (ok.lo _ m1) (ok.lo _ m2)
  · unfold My.evn at hq
    rcases List.mem_or_eq_of_mem_set hq with hq | rfl
    · exact ok.hi q hq
    · exact mean_le ha.1 hb.1 (ok.hi _ m1) (ok.hi _ m2)
/-- the signs while those near a weir are told anew -/
def sgm (A : List Int) (s s' : List Rat) (lo k : Nat) : List Int := (List.range (A.length - 1)).map fun i => if lo ≤ i + 1 ∧ i + 1 < lo + k then sg (rise A s' (i + 1)) else sg (rise A s (i + 1))
theorem sgm_zero (A : List Int) (s s' : List Rat) (lo : Nat) : sgm A s s' lo 0 = sgs A s := by
  unfold sgm sgs
  refine List.map_congr_left fun i _ => ?_
  rw [if_neg (by omega)]
theorem sgm_len (A : List Int) (s s' : List Rat) (lo k : Nat) : (sgm A s s' lo k).length = A.length - 1 := by
  unfold sgm
  rw [List.length_map, List.length_range]
theorem sgm_get {A : List Int} {s s' : List Rat} {lo k i : Nat} (h : i < (sgm A s s' lo k).length) : (sgm A s s' lo k)[i] = if lo ≤ i + 1 ∧ i + 1 < lo + k then sg (rise A s' (i + 1)) else sg (rise A s (i + 1)) := by
  simp only [sgm, List.getElem_map, List.getElem_range]
theorem sgm_succ (A : List Int) (s s' : List Rat) (lo k : Nat) (h0 : 1 ≤ lo) (h : lo + k < A.length) : (sgm A s s' lo k).set (lo + k - 1) (sg (rise A s' (lo + k))) = sgm A s s' lo (k + 1) := by
  refine List.ext_getElem (by rw [List.length_set, sgm_len, sgm_len]) fun i h1 h2 => ?_
  rw [List.length_set, sgm_len] at h1
  by_cases e : lo + k - 1 = i
  · subst e
    rw [List.getElem_set_self, sgm_get, if_pos (by omega), show lo + k - 1 + 1 = lo + k from by omega]
  · rw [List.getElem_set_ne e, sgm_get, sgm_get]
    by_cases c : lo ≤ i + 1 ∧ i + 1 < lo + k
    · rw [if_pos c, if_pos (by omega)]
    · rw [if_neg c, if_neg (by omega)]
theorem sgm_end (A : List Int) (s : List Rat) (j lo k : Nat) (h0 : lo = (if 1 > (j : Int) - 1 then 1 else j - 1)) (hk : lo + k = min (j + 2) A.length) (j1 : 1 ≤ j) (j2 : j < A.length) : sgm A s (evn A s j) lo k = sgs A (evn A s j) := by
  unfold sgm sgs
  refine List.map_congr_left fun i hi => ?_
  have hi := List.mem_range.mp hi
  by_cases c : lo ≤ i + 1 ∧ i + 1 < lo + k
  · rw [if_pos c]
  · rw [if_neg c, rise_ne]
    split at h0 <;> omega
/-- what stands ahead of the weirs behind the first openings -/
def lns (A : List Int) (v : List Rat) (O : List Int) (k : Nat) : List Rat := (O.take k).foldl (fun s o => evn A s o.toNat) (sms v)
theorem lns_succ (A : List Int) (v : List Rat) (O : List Int) (k : Nat) (h : k < O.length) : lns A v O (k + 1) = evn A (lns A v O k) O[k].toNat := by
  unfold lns
  rw [List.take_succ_eq_append_getElem h, List.foldl_append]
  rfl
def nms (A : List Int) (v : List Rat) (O : List Int) (k : Nat) : List Int := (List.range (k + 1)).map fun i => ((chg (sgs A (lns A v O i)) : Nat) : Int)
theorem nms_succ (A : List Int) (v : List Rat) (O : List Int) (k : Nat) : nms A v O (k + 1) = nms A v O k ++ [((chg (sgs A (lns A v O (k + 1))) : Nat) : Int)] := by
  unfold nms
  rw [List.range_succ, List.map_append]
  rfl
theorem g_setL {Q : L2.St → Hp → Prop} {σ : L2.St} {H : Hp} {ta tb : TE} {l : Addr} {xs : List V} {i : Int} {j : Nat} {v : V} (hl : H l = some (.lst xs)) (ho : Ev ta σ H (.ref l)) (hi : EvD K tb σ H (.int i)) (hj : ixN xs.length i = some j) (k : ∀ H1, Ex H H1 → Q σ (upd H1 l (.lst (xs.set j v)))) : gSub ta tb rSetL v σ H Q :=
  ho H (Ex.refl H) _ fun H2 e2 => hi H2 e2 _ fun w H3 e3 b => by
    cases b
    exact ⟨l, xs, i, j, rfl, rfl, (e2.trans e3) l _ hl, hj, k H3 (e2.trans e3)⟩
theorem em_all_signs {E : XK} {Q : VK} {σ : L2.St} {H : Hp} {x p r : Addr} {A : List Int} {B : Nat} {s : List Rat} {tx : TE} (h : LineAt K H x p r A B s) (ok : LineOk A B s) (hx : Ev tx σ H (.ref x))
    (k : ∀ l H', H l = none → Mu [p, r] H H' → LineAt K H' x p r A B s → H' l = some (.lst ((sgs A s).map V.int)) → Q (.ref l) H') : tCall (sp_all_signs K) [] E (tCons tx tNil) σ H Q :=
  hx H (Ex.refl H) _ fun H1 e1 => ⟨x, p, r, A, B, s, rfl, h.ex e1, ok, fun l H' hl m l' hx' => k l H' (fresh_back e1 hl) ((Mu.ex e1).trans m) l' hx'⟩

end
end My
end
section
set_option Elab.async false
set_option linter.all false
set_option maxRecDepth 100000
set_option maxHeartbeats 4000000
namespace My
open PySem PySem.Spec PyProof.Rows L2 Evl WD
local macro_rules | `(tactic| walk_at "exgo") => `(tactic| first | exact Ex.refl _ | assumption | (refine' Ex.trans ?ea ?eb; (case eb => assumption); (case ea => walk_at "exgo")))
local macro_rules | `(tactic| walk_at "is") => `(tactic| first | assumption | (refine' Is.ex ?e ?h; (case h => assumption); (case e => walk_at "exgo")) | exact Is.int _ | exact Is.bl _ | exact Is.non)
local macro_rules | `(tactic| walk_at "ev") => `(tactic| first
  | exact ed_int | exact ed_bl | exact ed_non | exact ed_str
  | ((with_reducible apply ed_var) <;> first | exact rfl | walk_at "is")
  | ((with_reducible apply ed_add) <;> walk_at "ev")
  | ((with_reducible apply ed_sub) <;> walk_at "ev")
  | ((with_reducible apply ed_neg) <;> walk_at "ev")
  | ((with_reducible apply ed_mulW) <;> try walk_at "ev")
  | ((with_reducible apply ed_divW) <;> try walk_at "ev")
  | ((with_reducible apply ed_mod) <;> try walk_at "ev")
  | ((with_reducible apply ed_ixT) <;> first | exact rfl | walk_at "ev" | skip)
  | ((with_reducible apply ed_ixL) <;> first | exact rfl | walk_at "ev" | skip)
  | ((with_reducible apply ed_lt) <;> walk_at "ev")
  | ((with_reducible apply ed_le) <;> walk_at "ev")
  | ((with_reducible apply ed_gt) <;> walk_at "ev")
  | ((with_reducible apply ed_ge) <;> walk_at "ev")
  | ((with_reducible apply ed_eqI) <;> walk_at "ev")
  | ((with_reducible apply ed_neI) <;> walk_at "ev")
  | ((with_reducible apply ed_gcd) <;> walk_at "ev")
  | ((with_reducible apply ed_abs) <;> walk_at "ev")
  | ((with_reducible apply ed_intI) <;> walk_at "ev")
  | ((with_reducible apply ed_intB) <;> walk_at "ev")
  | ((with_reducible apply ed_max2) <;> walk_at "ev")
  | ((with_reducible apply ed_min2) <;> walk_at "ev")
  | ((with_reducible apply ed_lenT) <;> walk_at "ev")
  | ((with_reducible apply ed_lenL) <;> walk_at "ev")
  | ((with_reducible apply ed_tuple) <;> walk_at "ev")
  | ((with_reducible apply ed_tupleT) <;> walk_at "ev")
  | ((with_reducible apply ed_tup) <;> first | walk_at "ea" | (simp; done) | skip)
  | ((with_reducible apply et_t) <;> walk_at "ev")
  | ((with_reducible apply et_v) <;> walk_at "ev"))
local macro_rules | `(tactic| walk_at "ea") => `(tactic| first
  | exact ea0
  | ((with_reducible apply ea1) <;> first | walk_at "ev" | walk_at "ea" | skip))

section
variable {P : Program} {w : World} {K : PySem.W.Frag} {mg : Str → Option Value} {base : Heap}
def R_sinking (ds : List D) (d : D) : Prop := ∃ A v L M W O, ds = [rowD A v L, .lst (iL O)] ∧ RowOk A v M W ∧ O.length ≤ 100 ∧ (∀ o ∈ O, inR A L o = true) ∧ d = .obj "Sinking" (sinkF (nms A v O O.length))
theorem ok_sinking (T : Txt K mg) : FnG P w K mg base 6 (He.ga K "sinking") ["row", "order"] (spD K R_sinking) := by
  refine fnG (N := ["row", "order", "openings", "line", "told", "numbers", "weir", "near"]) (st := s_sinking) T.f_sinking sc_sinking (fun vs H Q E h => ?_) (fun _ _ _ _ _ _ us hl => match us, hl with | [_, _], _ => rfl) (fun cdv A outer s H vs Q E hr h => ⟨_, (pss_cons (ps_expr (pe_callG (ok_check_row T) (hr.mono (by decide)) (by rfl) T.m_check_row (pa_cons (pv 0) pa_nil))) (pss_cons (ps_asg (pe_callG (ok_check_order T) (hr.mono (by decide)) (by rfl) T.m_check_order (pa_cons (pv 0) (pa_cons (pv 1) pa_nil))) (pg_name (i := 2) sc_sinking.nd rfl (.inl rfl))) (pss_cons (ps_asg (pe_callG (ok_line_of T) (hr.mono (by decide)) (by rfl) T.m_line_of (pa_cons (pv 0) pa_nil)) (pg_name (i := 3) sc_sinking.nd rfl (.inl rfl))) (pss_cons (ps_asg (pe_callG (ok_all_signs T) (hr.mono (by decide)) (by rfl) T.m_all_signs (pa_cons (pv 3) pa_nil)) (pg_name (i := 4) sc_sinking.nd rfl (.inl rfl))) (pss_cons (ps_asg (pe_lst (pa_cons (pe_callG (ok_changes T) (hr.mono (by decide)) (by rfl) T.m_changes (pa_cons (pv 4) pa_nil)) pa_nil)) (pg_name (i := 5) sc_sinking.nd rfl (.inl rfl))) (pss_cons (ps_for PassesOwn.never rfl (pi_list (pv 2)) (pg_name (i := 6) sc_sinking.nd rfl (.inl rfl)) (pss_cons (ps_expr (pe_methG (pv 3) T.c_Line T.x_Line_even (ok_Line_even T) (hr.mono (by decide)) (pa_cons (pv 6) pa_nil))) (pss_cons (ps_for PassesOwn.never rfl (pi_range2 (by rfl) T.z_range (pa_cons (pe_callB (call_maxS rfl) (by rfl) T.z_max (by decide +kernel) (pa_cons (pe_op op_sub (pv 6) pe_int) (pa_cons pe_int pa_nil))) (pa_cons (pe_callB (call_minS rfl) (by rfl) T.z_min (by decide +kernel) (pa_cons (pe_op op_add (pv 6) pe_int) (pa_cons (pe_callB (lenO_of (ok_Row___len__ T) T.x_Row___len__ (hr.mono (by decide))) (by rfl) T.z_len PySem.boot_len (pa_cons (pv 0) pa_nil)) pa_nil))) pa_nil))) (pg_name (i := 7) sc_sinking.nd rfl (.inl rfl)) (pss_one (ps_asg (pe_callG (ok_sign_at T) (hr.mono (by decide)) (by rfl) T.m_sign_at (pa_cons (pv 3) (pa_cons (pv 7) pa_nil))) (pg_sub (pv 4) (pe_op op_sub (pv 7) pe_int) set_list)))) (pss_one (ps_expr (pe_bm PySem.F.plainAttrs_list PySem.F.slot_list_append PySem.F.type_list_append mt_append (pv 5) (pa_cons (pe_callG (ok_changes T) (hr.mono (by decide)) (by rfl) T.m_changes (pa_cons (pv 4) pa_nil)) pa_nil))))))) (pss_one (ps_ret (pe_makeG T.k_Sinking (ok_Sinking___init___L T) (hr.mono (by decide)) (by rfl) T.m_Sinking (pa_cons (pv 5) pa_nil)))))))))), ?_⟩)
  · obtain ⟨ds, d, a, ⟨A, v, L, M, W, O, rfl, _⟩, _⟩ := h
    exact a.len
  · obtain ⟨ds, d, a, ⟨A, v, L, M, W, O, rfl, ok, hO, hin, rfl⟩, q⟩ := h
    obtain ⟨u, u', rfl, a1, a2⟩ := All.inv2 a
    try dsimp only [cxOf, Cx.nox, Cx.wish]
    have hA := ok.al
    refine q_do (ed_call (d := .non) (ea1 (ed_var rfl a1) ea0) ⟨_, rfl, rfl⟩) fun H1 e1 => ?_
    refine q_asgN (K := K) (en_call (ea1 (ed_var rfl (a1.ex e1)) (ea1 (ed_var rfl (a2.ex e1)) ea0)) ⟨A, v, L, O, rfl, hO, hin, rfl⟩) fun po xo H2 hpo e2 hxo axo => ?_
    have vo : Is K H2 (.ref po) (.lst (iL O)) := .lst (.inl hxo) axo
    refine em_line_of (ed_var rfl (a1.ex (e1.trans e2))) ok fun x p r B0 H3 hx hp hr e3 l3 lo3 b3 => ?_
    have E3 := (e1.trans e2).trans e3
    refine em_all_signs l3 lo3 (ev_ref rfl) fun tl H4 htl m4 l4 hx4 => ?_
    have E4 : Ex H2 H4 := Mu.of_ex e3 m4 fun y hy => by
      rcases List.mem_cons.mp hy with hy | hy
      · rw [hy]; exact hp
      · rw [List.mem_singleton.mp hy]; exact hr
    have tl2 : H2 tl = none := fresh_back e3 htl
    obtain ⟨n1, n2, n3⟩ : tl ≠ x ∧ tl ≠ p ∧ tl ≠ r := by
      obtain ⟨ts, bs, dx, va, z⟩ := id l3
      exact ⟨fun e => by (rw [e, z.ob] at htl; cases htl), fun e => by (rw [e, z.tp] at htl; cases htl), fun e => by (rw [e, z.bp] at htl; cases htl)⟩
    have hSl : ∀ s, (sgs A s).length ≤ 50 := fun s => by
      rw [sgs_len]
      omega
    refine q_asgN (K := K) (ds := iL (nms A v O 0)) (EvN.is (en_lst (ea1 (ed_call (R := R_changes) (d := .int ((chg (sgs A (lns A v O 0)) : Nat) : Int)) (ea1 (d := .lst (iL (sgs A (sms v)))) (ed_var rfl (.lst (.inl hx4) (all_ints _ _))) ea0) ⟨_, rfl, hSl _, rfl⟩) ea0) (by show 1 ≤ 100000; decide)) rfl) fun nl xn H5 hnl e5 hxn axn => ?_
    have xn1 := allIL axn
    subst xn1
    have nl2 : H2 nl = none := fresh_back E4 hnl
    have k1 : nl ≠ tl := fun e => by (rw [e, hx4] at hnl; cases hnl)
    obtain ⟨k2, k3, k4⟩ : nl ≠ x ∧ nl ≠ p ∧ nl ≠ r := by
      obtain ⟨ts, bs, dx, va, z⟩ := id l4
      exact ⟨fun e => by (rw [e, z.ob] at hnl; cases hnl), fun e => by (rw [e, z.tp] at hnl; cases hnl), fun e => by (rw [e, z.bp] at hnl; cases hnl)⟩
    have fr2 : ∀ y ∈ [x, p, r, tl, nl], H2 y = none := fun y hy => by
      simp only [List.mem_cons, List.mem_nil_iff, or_false] at hy
      rcases hy with rfl | rfl | rfl | rfl | rfl <;> assumption
    have E5 : Ex H2 H5 := E4.trans e5
    have B0l : B0 < 2 ^ (400 + 11 * 0) := Nat.lt_of_le_of_lt (Nat.le_of_dvd ok.m0 b3) ok.m1
    refine q_for (K := K) (L := [x, p, r, tl, nl]) (n := O.length) (item := fun i => (iL O).getD i .non) (EvI.is (ei_list (es_var rfl vo E5 fr2) (iLlf O)) (iLlen O))
      (fun i σ' H' => ∃ y6 y7 B, σ' = [some u, some u', some (.ref po), some (.ref x), some (.ref tl), some (.ref nl), y6, y7] ∧ Ex H2 H' ∧ LineAt K H' x p r A B (lns A v O i) ∧ LineOk A B (lns A v O i) ∧ B < 2 ^ (400 + 11 * i) ∧ H' tl = some (.lst ((sgs A (lns A v O i)).map V.int)) ∧ H' nl = some (.lst ((nms A v O i).map V.int)))
      (fun H6 e6 => ⟨none, none, B0, rfl, E5.trans e6, l4.ex (e5.trans e6), lo3, B0l, (e5.trans e6) _ _ hx4, e6 _ _ hxn⟩) ?_ ?_
    · rintro i z σ' H6 H7 hi ⟨y6, y7, B, rfl, E6, l6, lo6, b6, t6, n6⟩ e7 az
      rw [show (iL O).getD i .non = .int O[i] from getD_map _ _ _ hi] at az
      have hio := hin _ (List.getElem_mem hi)
      rw [lns_succ A v O i hi, nms_succ, lns_succ A v O i hi]
      generalize hs : lns A v O i = s at l6 lo6 t6 ⊢
      generalize hns : nms A v O i = ns at n6 ⊢
      have nsl : ns.length = i + 1 := by
        rw [← hns]
        unfold nms
        rw [List.length_map, List.length_range]
      have sl := lo6.len
      generalize O[i] = o at az hio ⊢
      unfold inR at hio
      rw [Bool.and_eq_true, Bool.and_eq_true, decide_eq_true_iff, decide_eq_true_iff] at hio
      obtain ⟨j, rfl⟩ : ∃ j : Nat, o = (j : Int) := ⟨o.toNat, by omega⟩
      have j1 : 1 ≤ j := by omega
      have j2 : j < A.length := by omega
      rw [Int.toNat_natCast]
      cases az
      have ha := ok.ar _ (gd_mem (z := 1) (show j - 1 < A.length by omega))
      have hb := ok.ar _ (gd_mem (z := 1) j2)
      refine g_name ?_
      refine em_even (j := j) (l6.ex e7) lo6 j1 j2 (ev_ref rfl) (ea1 (ed_var rfl (.int _)) ea0) fun B' H8 m8 l8 b0' bd bd' => ?_
      have bl : B' < 2 ^ (400 + 11 * (i + 1)) := by
        have h1 := Nat.le_of_dvd (Nat.mul_pos lo6.b0 (by omega)) bd'
        have h2 : B * (A.getD (j - 1) 1 + A.getD j 1).toNat ≤ B * 2 ^ 11 := Nat.mul_le_mul_left _ (by omega)
        have h3 : B * 2 ^ 11 < 2 ^ (400 + 11 * i) * 2 ^ 11 := Nat.mul_lt_mul_of_pos_right b6 (by decide)
        rw [← Nat.pow_add] at h3
        rw [show 400 + 11 * (i + 1) = 400 + 11 * i + 11 from by omega]
        omega
      have lo8 : LineOk A B' (evn A s j) := lo6.evn j1 j2 b0' (Nat.lt_of_lt_of_le bl (Nat.pow_le_pow_right (by decide) (by omega)))
      have t7 := e7 _ _ t6
      have n7 := e7 _ _ n6
      have t8 := m8.keep (a := tl) (by simp [n1, n2, n3]) t7
      have n8 := m8.keep (a := nl) (by simp [k2, k3, k4]) n7
      have E8 : Ex H2 H8 := Mu.of_ex (E6.trans e7) m8 fun y hy => fr2 y (by
        simp only [List.mem_cons, List.mem_nil_iff, or_false] at hy ⊢
        rcases hy with h | h | h <;> simp [h])
      have M8 : Mu [x, p, r, tl, nl] H6 H8 := (Mu.ex e7).trans (m8.more fun a h => by
        simp only [List.mem_cons, List.mem_nil_iff, or_false] at h ⊢
        rcases h with h | h | h <;> simp [h])
      obtain ⟨lo, hlo⟩ : ∃ lo : Nat, lo = (if 1 > (j : Int) - 1 then 1 else j - 1) := ⟨_, rfl⟩
      obtain ⟨hi', hhi⟩ : ∃ hi' : Nat, hi' = min (j + 2) A.length := ⟨_, rfl⟩
      have lo1 : 1 ≤ lo := by
        rw [hlo]
        split <;> omega
      have lo2 : lo ≤ hi' := by
        rw [hlo, hhi]
        split <;> omega
      have sgz : H8 tl = some (.lst ((sgm A s (evn A s j) lo 0).map V.int)) := by
        rw [sgm_zero]
        exact t8
      refine q_for (K := K) (L := [x, p, r, tl, nl]) (n := hi' - lo) (item := fun i => .int ((lo : Int) + (i : Int))) (EvI.is (ei_r2 (lo := (lo : Int)) (n := (hi' : Int)) (ea1 (EvD.is (ed_max2 (K := K) (ed_sub (ed_var rfl (.int _)) ed_int) ed_int) ?_) (ea1 (EvD.is (ed_min2 (K := K) (ed_add (ed_var rfl (.int _)) ed_int) (ed_lenO (ed_var rfl (a1.ex ((e1.trans e2).trans E8))) ⟨A, v, L, rfl, rfl⟩ (by omega))) ?_) ea0)) (by omega)) (by omega))
        (fun k σ' H' => ∃ y7, σ' = [some u, some u', some (.ref po), some (.ref x), some (.ref tl), some (.ref nl), some (.int (j : Int)), y7] ∧ Ex H2 H' ∧ Mu [x, p, r, tl, nl] H6 H' ∧ LineAt K H' x p r A B' (evn A s j) ∧ H' tl = some (.lst ((sgm A s (evn A s j) lo k).map V.int)) ∧ H' nl = some (.lst (ns.map V.int)))
        (fun H9 e9 => ⟨y7, rfl, E8.trans e9, M8.trans (Mu.ex e9), l8.ex e9, e9 _ _ sgz, e9 _ _ n8⟩) ?_ ?_
      · rw [hlo]
        split <;> rename_i hc
        · exact congrArg D.int (by rfl)
        · exact congrArg D.int (by omega)
      · rw [hhi]
        split <;> rename_i hc
        · exact congrArg D.int (by omega)
        · exact congrArg D.int (by omega)
      · rintro k z σ' H9 H10 hk ⟨w7, rfl, E9, M9, l9, t9, n9⟩ e10 az
        cases az
        have q1 : lo + k < A.length := by omega
        refine g_name ?_
        refine em_sign_at (j := lo + k) (l9.ex e10) lo8 (by omega) q1 (ev_ref rfl) (ed_var rfl (by rw [show ((lo : Int) + (k : Int)) = ((lo + k : Nat) : Int) from by omega]; exact .int _)) fun H11 m11 l11 => ?_
        have t11 := m11.keep (a := tl) (by simp [n2, n3]) (e10 _ _ t9)
        have n11 := m11.keep (a := nl) (by simp [k3, k4]) (e10 _ _ n9)
        have M11 : Mu [x, p, r, tl, nl] H9 H11 := (Mu.ex e10).trans (m11.more fun a h => by
          simp only [List.mem_cons, List.mem_nil_iff, or_false] at h ⊢
          rcases h with h | h <;> simp [h])
        refine g_setL t11 (ev_ref rfl) (i := ((lo + k - 1 : Nat) : Int)) (j := lo + k - 1) (EvD.is (ed_sub (K := K) (ed_var rfl (.int _)) ed_int) (congrArg D.int (by omega))) (ixN_nat (by rw [List.length_map, sgm_len]; omega)) fun H12 e12 => ?_
        have MM : Mu [x, p, r, tl, nl] H9 (upd H12 tl (.lst (((sgm A s (evn A s j) lo k).map V.int).set (lo + k - 1) (.int (sg (rise A (evn A s j) (lo + k))))))) := (M11.trans (Mu.ex e12)).trans (Mu.upd (by simp) (e12 _ _ t11))
        refine ⟨⟨_, rfl, Mu.of_ex E9 MM fr2, M9.trans MM, (l11.ex e12).mu (Mu.upd (L := [tl]) (by simp) (e12 _ _ t11)) (by simp [n1, n2, n3]), ?_, ?_⟩, MM⟩
        · rw [← sgm_succ A s (evn A s j) lo k lo1 q1, List.map_set]
          exact upd_same
        · rw [upd_ne k1]
          exact e12 _ _ n11
      · rintro σ' H9 ⟨w7, rfl, E9, M9, l9, t9, n9⟩
        rw [sgm_end A s j lo (hi' - lo) hlo (by omega) j1 j2] at t9
        refine s_appD (K := K) (d := .int ((chg (sgs A (evn A s j)) : Nat) : Int)) n9 (ev_ref rfl) (ed_call (R := R_changes) (ea1 (d := .lst (iL (sgs A (evn A s j)))) (ed_var rfl (.lst (.inl t9) (all_ints _ _))) ea0) ⟨_, rfl, hSl _, rfl⟩) (by rw [List.length_map, nsl]; omega) fun y H10 e10 ay => ?_
        cases ay
        have MM : Mu [x, p, r, tl, nl] H6 (upd H10 nl (.lst (ns.map V.int ++ [.int ((chg (sgs A (evn A s j)) : Nat) : Int)]))) := (M9.trans (Mu.ex e10)).trans (Mu.upd (by simp) (e10 _ _ n9))
        refine ⟨⟨_, _, B', rfl, Mu.of_ex E6 MM fr2, (l9.ex e10).mu (Mu.upd (L := [nl]) (by simp) (e10 _ _ n9)) (by simp [k2, k3, k4]), lo8, bl, ?_, ?_⟩, MM⟩
        · rw [upd_ne k1.symm]
          exact e10 _ _ t9
        · rw [List.map_append]
          exact upd_same
    · rintro σ' H6 ⟨y6, y7, B, rfl, E6, l6, lo6, b6, t6, n6⟩
      refine s_retD (K := K) (ed_make (R := R_Sinking .lst) (ea1 (d := .lst (iL (nms A v O O.length))) (ed_var rfl (.lst (.inl n6) (all_ints _ _))) ea0) ⟨_, rfl, rfl⟩) fun z H7 e7 iz => q _ _ (((e1.trans e2).trans E6).trans e7) iz

end
end My
end
section
set_option Elab.async false
set_option linter.all false
set_option maxRecDepth 100000
set_option maxHeartbeats 4000000
namespace My
open PySem PySem.Spec PyProof.Rows L2 Evl WD
local macro_rules | `(tactic| walk_at "exgo") => `(tactic| first | exact Ex.refl _ | assumption | (refine' Ex.trans ?ea ?eb; (case eb => assumption); (case ea => walk_at "exgo")))
local macro_rules | `(tactic| walk_at "is") => `(tactic| first | assumption | (refine' Is.ex ?e ?h; (case h => assumption); (case e => walk_at "exgo")) | exact Is.int _ | exact Is.bl _ | exact Is.non)
local macro_rules | `(tactic| walk_at "ev") => `(tactic| first
  | exact ed_int | exact ed_bl | exact ed_non | exact ed_str
  | ((with_reducible apply ed_var) <;> first | exact rfl | walk_at "is")
  | ((with_reducible apply ed_add) <;> walk_at "ev")
  | ((with_reducible apply ed_sub) <;> walk_at "ev")
  | ((with_reducible apply ed_neg) <;> walk_at "ev")
  | ((with_reducible apply ed_mulW) <;> try walk_at "ev")
  | ((with_reducible apply ed_divW) <;> try walk_at "ev")
  | ((with_reducible apply ed_mod) <;> try walk_at "ev")
  | ((with_reducible apply ed_ixT) <;> first | exact rfl | walk_at "ev" | skip)
  | ((with_reducible apply ed_ixL) <;> first | exact rfl | walk_at "ev" | skip)
  | ((with_reducible apply ed_lt) <;> walk_at "ev")
  | ((with_reducible apply ed_le) <;> walk_at "ev")
  | ((with_reducible apply ed_gt) <;> walk_at "ev")
  | ((with_reducible apply ed_ge) <;> walk_at "ev")
  | ((with_reducible apply ed_eqI) <;> walk_at "ev")
  | ((with_reducible apply ed_neI) <;> walk_at "ev")
  | ((with_reducible apply ed_gcd) <;> walk_at "ev")
  | ((with_reducible apply ed_abs) <;> walk_at "ev")
  | ((with_reducible apply ed_intI) <;> walk_at "ev")
  | ((with_reducible apply ed_intB) <;> walk_at "ev")
  | ((with_reducible apply ed_max2) <;> walk_at "ev")
  | ((with_reducible apply ed_min2) <;> walk_at "ev")
  | ((with_reducible apply ed_lenT) <;> walk_at "ev")
  | ((with_reducible apply ed_lenL) <;> walk_at "ev")
  | ((with_reducible apply ed_tuple) <;> walk_at "ev")
  | ((with_reducible apply ed_tupleT) <;> walk_at "ev")
  | ((with_reducible apply ed_tup) <;> first | walk_at "ea" | (simp; done) | skip)
  | ((with_reducible apply et_t) <;> walk_at "ev")
  | ((with_reducible apply et_v) <;> walk_at "ev"))
local macro_rules | `(tactic| walk_at "ea") => `(tactic| first
  | exact ea0
  | ((with_reducible apply ea1) <;> first | walk_at "ev" | walk_at "ea" | skip))

section
variable {P : Program} {w : World} {K : PySem.W.Frag} {mg : Str → Option Value} {base : Heap}
def R_Sinking_shows (ds : List D) (d : D) : Prop := ∃ A v L M W O ns, ds = [.obj "Sinking" (sinkF ns), rowD A v L, .lst (iL O)] ∧ RowOk A v M W ∧ O.length ≤ 100 ∧ (∀ o ∈ O, inR A L o = true) ∧ d = .bl (decide (nms A v O O.length = ns))
theorem ok_Sinking_shows (T : Txt K mg) : FnG P w K mg base 7 (He.ma K (He.ga K "Sinking") "shows") ["self", "row", "order"] (spD K R_Sinking_shows) := by
  refine fnG (N := ["self", "row", "order"]) (st := s_Sinking_shows) T.f_Sinking_shows sc_Sinking_shows (fun vs H Q E h => ?_) (fun _ _ _ _ _ _ us hl => match us, hl with | [_, _, _], _ => rfl) (fun cdv A outer s H vs Q E hr h => ⟨_, (pss_one (ps_ret (pe_cmpR (eqO_of (ok_Sinking___eq__ T) T.x_Sinking___eq__ (hr.mono (by decide))) (pe_callG (ok_sinking T) (hr.mono (by decide)) (by rfl) T.m_sinking (pa_cons (pv 1) (pa_cons (pv 2) pa_nil))) (pv 0) (nomark _)))), ?_⟩)
  · obtain ⟨ds, d, a, ⟨A, v, L, M, W, O, ns, rfl, _⟩, _⟩ := h
    exact a.len
  · obtain ⟨ds, d, a, ⟨A, v, L, M, W, O, ns, rfl, ok, hO, hin, rfl⟩, q⟩ := h
    obtain ⟨u, u2, u3, rfl, a1, a2, a3⟩ := All.inv3 a
    try dsimp only [cxOf, Cx.nox, Cx.wish]
    exact s_retD (K := K) (ed_eqO (K := K) (ed_call (R := R_sinking) (ea1 (ed_var rfl a2) (ea1 (ed_var rfl a3) ea0)) ⟨A, v, L, M, W, O, rfl, ok, hO, hin, rfl⟩) (ed_var rfl a1) ⟨_, _, rfl, rfl⟩) fun v2 H2 x2 i2 => q _ _ x2 i2

end
end My
end
section
set_option Elab.async false
set_option linter.all false
set_option maxRecDepth 100000
set_option maxHeartbeats 4000000
namespace My
open PySem PySem.Spec PyProof.Rows L2 Evl WD
local macro_rules | `(tactic| walk_at "exgo") => `(tactic| first | exact Ex.refl _ | assumption | (refine' Ex.trans ?ea ?eb; (case eb => assumption); (case ea => walk_at "exgo")))
local macro_rules | `(tactic| walk_at "is") => `(tactic| first | assumption | (refine' Is.ex ?e ?h; (case h => assumption); (case e => walk_at "exgo")) | exact Is.int _ | exact Is.bl _ | exact Is.non)
local macro_rules | `(tactic| walk_at "ev") => `(tactic| first
  | exact ed_int | exact ed_bl | exact ed_non | exact ed_str
  | ((with_reducible apply ed_var) <;> first | exact rfl | walk_at "is")
  | ((with_reducible apply ed_add) <;> walk_at "ev")
  | ((with_reducible apply ed_sub) <;> walk_at "ev")
  | ((with_reducible apply ed_neg) <;> walk_at "ev")
  | ((with_reducible apply ed_mulW) <;> try walk_at "ev")
  | ((with_reducible apply ed_divW) <;> try walk_at "ev")
  | ((with_reducible apply ed_mod) <;> try walk_at "ev")
  | ((with_reducible apply ed_ixT) <;> first | exact rfl | walk_at "ev" | skip)
  | ((with_reducible apply ed_ixL) <;> first | exact rfl | walk_at "ev" | skip)
  | ((with_reducible apply ed_lt) <;> walk_at "ev")
  | ((with_reducible apply ed_le) <;> walk_at "ev")
  | ((with_reducible apply ed_gt) <;> walk_at "ev")
  | ((with_reducible apply ed_ge) <;> walk_at "ev")
  | ((with_reducible apply ed_eqI) <;> walk_at "ev")
  | ((with_reducible apply ed_neI) <;> walk_at "ev")
  | ((with_reducible apply ed_gcd) <;> walk_at "ev")
  | ((with_reducible apply ed_abs) <;> walk_at "ev")
  | ((with_reducible apply ed_intI) <;> walk_at "ev")
  | ((with_reducible apply ed_intB) <;> walk_at "ev")
  | ((with_reducible apply ed_max2) <;> walk_at "ev")
  | ((with_reducible apply ed_min2) <;> walk_at "ev")
  | ((with_reducible apply ed_lenT) <;> walk_at "ev")
  | ((with_reducible apply ed_lenL) <;> walk_at "ev")
  | ((with_reducible apply ed_tuple) <;> walk_at "ev")
  | ((with_reducible apply ed_tupleT) <;> walk_at "ev")
  | ((with_reducible apply ed_tup) <;> first | walk_at "ea" | (simp; done) | skip)
  | ((with_reducible apply et_t) <;> walk_at "ev")
  | ((with_reducible apply et_v) <;> walk_at "ev"))
local macro_rules | `(tactic| walk_at "ea") => `(tactic| first
  | exact ea0
  | ((with_reducible apply ea1) <;> first | walk_at "ev" | walk_at "ea" | skip))

section
variable {P : Program} {w : World} {K : PySem.W.Frag} {mg : Str → Option Value} {base : Heap}
/-! ### what an opening does to what stands ahead -/
def sumL (l : List Rat) : Rat := l.foldl (· + ·) 0
theorem foldl_add (l : List Rat) : ∀ c : Rat, l.foldl (· + ·) c = c + sumL l := by
  unfold sumL
  induction l with
  | nil => intro c; show c = c + 0; grind
  | cons x l ih =>
    intro c
    show l.foldl (· + ·) (c + x) = c + l.foldl (· + ·) (0 + x)
    rw [ih, ih (0 + x)]
    grind
theorem sumL_app (a b : List Rat) : sumL (a ++ b) = sumL a + sumL b := by
  show (a ++ b).foldl (· + ·) 0 = _
  rw [List.foldl_append, foldl_add]
  rfl
theorem sumL_cons (x : Rat) (b : List Rat) : sumL (x :: b) = x + sumL b := by
  show b.foldl (· + ·) (0 + x) = _
  rw [foldl_add]
  grind
theorem S_two (p t : List Rat) (x y x' y' : Rat) (h : x' + y' = x + y) (j : Nat) : S (p ++ x' :: y' :: t) j = if j = p.length + 1 then S (p ++ x :: y :: t) p.length + x' else S (p ++ x :: y :: t) j := by
  have e : ∀ l j, S l j = sumL (l.take j) := fun _ _ => rfl
  rw [e, e, e, List.take_append, List.take_append, List.take_append, sumL_app, sumL_app, sumL_app, Nat.sub_self]
  by_cases h1 : j ≤ p.length
  · rw [if_neg (by omega), show j - p.length = 0 from by omega]
    rfl
  · by_cases h2 : j = p.length + 1
    · rw [if_pos h2, h2, show p.length + 1 - p.length = 1 from by omega, List.take_of_length_le (show p.length ≤ p.length + 1 by omega), List.take_of_length_le (Nat.le_refl p.length)]
      show sumL p + sumL [x'] = sumL p + sumL [] + x'
      rw [sumL_cons]
      show sumL p + (x' + 0) = sumL p + 0 + x'
      grind
    · rw [if_neg h2]
      obtain ⟨k, hk⟩ : ∃ k, j - p.length = k + 2 := ⟨j - p.length - 2, by omega⟩
      rw [hk]
      show sumL _ + sumL (x' :: y' :: t.take k) = sumL _ + sumL (x :: y :: t.take k)
      rw [sumL_cons, sumL_cons, sumL_cons, sumL_cons]
      grind
theorem split_two {v : List Rat} {w : Nat} (h1 : 1 ≤ w) (h2 : w < v.length) : v = v.take (w - 1) ++ v.getD (w - 1) 0 :: v.getD w 0 :: v.drop (w + 1) := by
  have e1 : v.drop (w - 1) = v[w - 1] :: v.drop (w - 1 + 1) := List.drop_eq_getElem_cons (by omega)
  have e2 : v.drop w = v[w] :: v.drop (w + 1) := List.drop_eq_getElem_cons h2
  rw [show w - 1 + 1 = w from by omega] at e1
  conv => lhs; rw [← List.take_append_drop (w - 1) v, e1, e2]
  rw [getD_in (show w - 1 < v.length by omega), getD_in h2]
theorem late_eq {a b : Int} (ha : 1 ≤ a) (hb : 1 ≤ b) (x y s : Rat) : lateOf a b x y s = [x + ((x + y) * mkRat 1 (a + b).toNat * (a : Rat) - x) * s, y - ((x + y) * mkRat 1 (a + b).toNat * (a : Rat) - x) * s] := by
  have c0 : ((a + b : Int) : Rat) ≠ 0 := by exact_mod_cast (show (a + b : Int) ≠ 0 by omega)
  have e : mkRat 1 (a + b).toNat * ((a + b : Int) : Rat) = 1 := by
    rw [Rat.mkRat_eq_div]
    have h1 : (((a + b).toNat : Nat) : Rat) = ((a + b : Int) : Rat) := by
      have h2 : (((a + b).toNat : Nat) : Rat) = ((((a + b).toNat : Nat) : Int) : Rat) := rfl
      rw [h2, Int.toNat_of_nonneg (by omega)]
    rw [h1]
    show ((1 : Int) : Rat) / _ * _ = 1
    have h3 : ((1 : Int) : Rat) = 1 := rfl
    grind
  rw [Rat.intCast_add] at e
  unfold lateOf
  by_cases hs : s = 1
  · subst hs
    rw [if_pos rfl]
    generalize mkRat 1 (a + b).toNat = m at e ⊢
    congr 1
    · grind
    · congr 1
      grind
  · rw [if_neg hs]
theorem opn_eq {A L : List Int} {v : List Rat} {w : Nat} (h1 : 1 ≤ w) (h2 : w < A.length) (hv : v.length = A.length) (ar : ∀ a ∈ A, 1 ≤ a ∧ a ≤ 1000) (s : Rat) : ∃ x' y' : Rat, opn A v w s = v.take (w - 1) ++ x' :: y' :: v.drop (w + 1) ∧ x' + y' = v.getD (w - 1) 0 + v.getD w 0 ∧
    x' = v.getD (w - 1) 0 + ((v.getD (w - 1) 0 + v.getD w 0) * mkRat 1 (A.getD (w - 1) 1 + A.getD w 1).toNat * ((A.getD (w - 1) 1 : Int) : Rat) - v.getD (w - 1) 0) * s ∧ y' = v.getD w 0 - ((v.getD (w - 1) 0 + v.getD w 0) * mkRat 1 (A.getD (w - 1) 1 + A.getD w 1).toNat * ((A.getD (w - 1) 1 : Int) : Rat) - v.getD (w - 1) 0) * s := by
  have ha := ar _ (gd_mem (z := 1) (show w - 1 < A.length by omega))
  have hb := ar _ (gd_mem (z := 1) h2)
  refine ⟨_, _, ?_, ?_, rfl, rfl⟩
  · unfold opn
    rw [late_eq ha.1 hb.1]
    rfl
  · grind
theorem opn_len {A L : List Int} {v : List Rat} {w : Nat} (h1 : 1 ≤ w) (h2 : w < A.length) (hv : v.length = A.length) (ar : ∀ a ∈ A, 1 ≤ a ∧ a ≤ 1000) (s : Rat) : (opn A v w s).length = v.length := by
  obtain ⟨x', y', e, _⟩ := opn_eq (L := L) h1 h2 hv ar s
  rw [e, List.length_append, List.length_cons, List.length_cons, List.length_take, List.length_drop]
  omega
theorem S_opn {A : List Int} {v : List Rat} {w : Nat} (h1 : 1 ≤ w) (h2 : w < A.length) (hv : v.length = A.length) (ar : ∀ a ∈ A, 1 ≤ a ∧ a ≤ 1000) (s : Rat) (j : Nat) :
    S (opn A v w s) j = if j = w then S v w + ((v.getD (w - 1) 0 + v.getD w 0) * mkRat 1 (A.getD (w - 1) 1 + A.getD w 1).toNat * ((A.getD (w - 1) 1 : Int) : Rat) - v.getD (w - 1) 0) * s else S v j := by
  obtain ⟨x', y', e, hs, hx, hy⟩ := opn_eq (L := []) h1 h2 hv ar s
  have e2 := split_two h1 (show w < v.length by omega)
  have hp : (v.take (w - 1)).length = w - 1 := by
    rw [List.length_take]
    omega
  have k := S_two (v.take (w - 1)) (v.drop (w + 1)) _ _ x' y' hs j
  rw [← e2, ← e, hp, show w - 1 + 1 = w from by omega] at k
  rw [k]
  by_cases hj : j = w
  · rw [if_pos hj, if_pos hj]
    have := S_succ v (w - 1) (by omega)
    rw [show w - 1 + 1 = w from by omega] at this
    rw [this, hx, getD_in (show w - 1 < v.length by omega)]
    grind
  · rw [if_neg hj, if_neg hj]
theorem den_mul {p q : Rat} {P Q : Nat} (h0 : P ≠ 0) (h1 : Q ≠ 0) (hp : p.den ∣ P) (hq : q.den ∣ Q) : (p * q).den ∣ P * Q := by
  refine dvd_of_over (n := (p.num * ((P / p.den : Nat) : Int)) * (q.num * ((Q / q.den : Nat) : Int))) (Nat.mul_ne_zero h0 h1) ?_
  rw [Rat.intCast_mul, ← over_of_dvd hp, ← over_of_dvd hq, Int.natCast_mul, Rat.intCast_mul]
  grind
theorem den_neg {p : Rat} {P : Nat} (hp : p.den ∣ P) : (-p).den ∣ P := by
  rw [Rat.neg_den]
  exact hp
theorem den_sub {p q : Rat} {M : Nat} (h0 : M ≠ 0) (hp : p.den ∣ M) (hq : q.den ∣ M) : (p - q).den ∣ M := by
  rw [Rat.sub_eq_add_neg]
  exact den_add h0 hp (den_neg hq)
theorem den_int (i : Int) (P : Nat) : ((i : Rat)).den ∣ P := ⟨P, (Nat.one_mul P).symm⟩
theorem _root_.WD.RowOk.opn {A : List Int} {v : List Rat} {M W : Nat} (h : RowOk A v M W) {w : Nat} (h1 : 1 ≤ w) (h2 : w < A.length) {s : Rat} {Ds : Nat} (s0 : 0 ≤ s) (s1 : s ≤ 1) (d0 : 0 < Ds) (sd : s.den ∣ Ds) (hM : M * (A.getD (w - 1) 1 + A.getD w 1).toNat * Ds < 2 ^ 400) :
    RowOk A (opn A v w s) (M * (A.getD (w - 1) 1 + A.getD w 1).toNat * Ds) W := by
  have ha := h.ar _ (gd_mem (z := 1) (show w - 1 < A.length by omega))
  have hb := h.ar _ (gd_mem (z := 1) h2)
  obtain ⟨x', y', e, hs, hx, hy⟩ := opn_eq (L := []) h1 h2 h.len h.ar s
  have hl := h.len
  have mx : v.getD (w - 1) 0 ∈ v := gd_mem (by omega)
  have my : v.getD w 0 ∈ v := gd_mem (by omega)
  have x0 := h.nn _ mx
  have y0 := h.nn _ my
  have xd := h.dn _ mx
  have yd := h.dn _ my
  have st := S_opn h1 h2 h.len h.ar s v.length
  rw [if_neg (by omega)] at st
  have ln := opn_len (L := []) h1 h2 h.len h.ar s
  have m0 := h.m0
  clear mx my
  revert ha hb hx hy hM
  generalize A.getD (w - 1) 1 = a
  generalize A.getD w 1 = b
  intro hM ha hb hx hy
  have c0 : (a + b).toNat ≠ 0 := by omega
  have md : (mkRat 1 (a + b).toNat).den ∣ (a + b).toNat := mkRat_den_dvd 1 c0
  have ed : ((v.getD (w - 1) 0 + v.getD w 0) * mkRat 1 (a + b).toNat * (a : Rat) - v.getD (w - 1) 0).den ∣ M * (a + b).toNat := by
    refine den_sub (Nat.mul_ne_zero (by omega) c0) ?_ (Nat.dvd_trans xd (Nat.dvd_mul_right _ _))
    have := den_mul (Nat.mul_ne_zero (by omega) c0) Nat.one_ne_zero (den_mul (by omega) c0 (den_add (by omega) xd yd) md) (den_int a 1)
    rw [Nat.mul_one] at this
    exact this
  have td := den_mul (Nat.mul_ne_zero (by omega) c0) (by omega) ed sd
  have M0 : M * (a + b).toNat * Ds ≠ 0 := Nat.mul_ne_zero (Nat.mul_ne_zero (by omega) c0) (by omega)
  have big : M ∣ M * (a + b).toNat * Ds := by
    rw [Nat.mul_assoc]
    exact Nat.dvd_mul_right _ _
  have pos : 0 ≤ x' ∧ 0 ≤ y' := by
    have e1 : mkRat 1 (a + b).toNat * ((a : Rat) + (b : Rat)) = 1 := by
      rw [Rat.mkRat_eq_div]
      have h1 : (((a + b).toNat : Nat) : Rat) = ((a + b : Int) : Rat) := by
        have h2 : (((a + b).toNat : Nat) : Rat) = ((((a + b).toNat : Nat) : Int) : Rat) := rfl
        rw [h2, Int.toNat_of_nonneg (by omega)]
      have c1 : ((a + b : Int) : Rat) ≠ 0 := by exact_mod_cast (show (a + b : Int) ≠ 0 by omega)
      rw [h1, Rat.intCast_add] at *
      have h3 : ((1 : Int) : Rat) = 1 := rfl
      grind
    have a0 : (0 : Rat) < (a : Rat) := by exact_mod_cast (show (0 : Int) < a by omega)
    have b0 : (0 : Rat) < (b : Rat) := by exact_mod_cast (show (0 : Int) < b by omega)
    generalize mkRat 1 (a + b).toNat = m at e1 hx hy
    have mp : 0 < m := by
      apply Decidable.byContradiction
      intro n
      have n := Rat.not_lt.mp n
      have := Rat.mul_nonneg (show 0 ≤ -m by grind) (show 0 ≤ (a : Rat) + (b : Rat) by grind)
      grind
    have p1 := Rat.mul_nonneg (Rat.mul_nonneg (show 0 ≤ v.getD (w - 1) 0 + v.getD w 0 by grind) (Rat.le_of_lt mp)) (Rat.le_of_lt a0)
    have p2 := Rat.mul_nonneg (Rat.mul_nonneg (show 0 ≤ v.getD (w - 1) 0 + v.getD w 0 by grind) (Rat.le_of_lt mp)) (Rat.le_of_lt b0)
    have q1 := Rat.mul_nonneg p1 s0
    have q2 := Rat.mul_nonneg p2 s0
    have r1 := Rat.mul_nonneg x0 (show 0 ≤ 1 - s by grind)
    have r2 := Rat.mul_nonneg y0 (show 0 ≤ 1 - s by grind)
    have k : (v.getD (w - 1) 0 + v.getD w 0) * m * (a : Rat) * s + (v.getD (w - 1) 0 + v.getD w 0) * m * (b : Rat) * s = (v.getD (w - 1) 0 + v.getD w 0) * s := by
      have := congrArg (fun z => z * ((v.getD (w - 1) 0 + v.getD w 0) * s)) e1
      grind
    constructor <;> grind
  refine ⟨ln.trans h.len, h.a1, h.al, h.ar, by omega, hM, h.w1, ?_, ?_, ?_⟩
  · intro q hq
    rw [e] at hq
    rcases List.mem_append.mp hq with hq | hq
    · exact h.nn q (List.mem_of_mem_take hq)
    · rcases List.mem_cons.mp hq with rfl | hq
      · exact pos.1
      · rcases List.mem_cons.mp hq with rfl | hq
        · exact pos.2
        · exact h.nn q (List.mem_of_mem_drop hq)
  · intro q hq
    rw [e] at hq
    rcases List.mem_append.mp hq with hq | hq
    · exact Nat.dvd_trans (h.dn q (List.mem_of_mem_take hq)) big
    · rcases List.mem_cons.mp hq with rfl | hq
      · rw [hx]
        exact den_add M0 (Nat.dvd_trans xd big) td
      · rcases List.mem_cons.mp hq with rfl | hq
        · rw [hy]
          exact den_sub M0 (Nat.dvd_trans yd big) td
        · exact Nat.dvd_trans (h.dn q (List.mem_of_mem_drop hq)) big
  · rw [ln, st]
    exact h.tot

end
end My
end
section
set_option Elab.async false
set_option linter.all false
set_option maxRecDepth 100000
set_option maxHeartbeats 4000000
namespace My
open PySem PySem.Spec PyProof.Rows L2 Evl WD
local macro_rules | `(tactic| walk_at "exgo") => `(tactic| first | exact Ex.refl _ | assumption | (refine' Ex.trans ?ea ?eb; (case eb => assumption); (case ea => walk_at "exgo")))
local macro_rules | `(tactic| walk_at "is") => `(tactic| first | assumption | (refine' Is.ex ?e ?h; (case h => assumption); (case e => walk_at "exgo")) | exact Is.int _ | exact Is.bl _ | exact Is.non)
local macro_rules | `(tactic| walk_at "ev") => `(tactic| first
  | exact ed_int | exact ed_bl | exact ed_non | exact ed_str
  | ((with_reducible apply ed_var) <;> first | exact rfl | walk_at "is")
  | ((with_reducible apply ed_add) <;> walk_at "ev")
  | ((with_reducible apply ed_sub) <;> walk_at "ev")
  | ((with_reducible apply ed_neg) <;> walk_at "ev")
  | ((with_reducible apply ed_mulW) <;> try walk_at "ev")
  | ((with_reducible apply ed_divW) <;> try walk_at "ev")
  | ((with_reducible apply ed_mod) <;> try walk_at "ev")
  | ((with_reducible apply ed_ixT) <;> first | exact rfl | walk_at "ev" | skip)
  | ((with_reducible apply ed_ixL) <;> first | exact rfl | walk_at "ev" | skip)
  | ((with_reducible apply ed_lt) <;> walk_at "ev")
  | ((with_reducible apply ed_le) <;> walk_at "ev")
  | ((with_reducible apply ed_gt) <;> walk_at "ev")
  | ((with_reducible apply ed_ge) <;> walk_at "ev")
  | ((with_reducible apply ed_eqI) <;> walk_at "ev")
  | ((with_reducible apply ed_neI) <;> walk_at "ev")
  | ((with_reducible apply ed_gcd) <;> walk_at "ev")
  | ((with_reducible apply ed_abs) <;> walk_at "ev")
  | ((with_reducible apply ed_intI) <;> walk_at "ev")
  | ((with_reducible apply ed_intB) <;> walk_at "ev")
  | ((with_reducible apply ed_max2) <;> walk_at "ev")
  | ((with_reducible apply ed_min2) <;> walk_at "ev")
  | ((with_reducible apply ed_lenT) <;> walk_at "ev")
  | ((with_reducible apply ed_lenL) <;> walk_at "ev")
  | ((with_reducible apply ed_tuple) <;> walk_at "ev")
  | ((with_reducible apply ed_tupleT) <;> walk_at "ev")
  | ((with_reducible apply ed_tup) <;> first | walk_at "ea" | (simp; done) | skip)
  | ((with_reducible apply et_t) <;> walk_at "ev")
  | ((with_reducible apply et_v) <;> walk_at "ev"))
local macro_rules | `(tactic| walk_at "ea") => `(tactic| first
  | exact ea0
  | ((with_reducible apply ea1) <;> first | walk_at "ev" | walk_at "ea" | skip))

section
variable {P : Program} {w : World} {K : PySem.W.Frag} {mg : Str → Option Value} {base : Heap}
theorem wrs_mem {A L : List Int} {o : Int} : o ∈ wrs A L ↔ ∃ w : Nat, o = (w : Int) ∧ 1 ≤ w ∧ w < A.length ∧ (w : Int) ∉ L := by
  unfold wrs
  rw [List.mem_filter]
  constructor
  · rintro ⟨h, n⟩
    obtain ⟨i, hi, rfl⟩ := List.mem_map.mp h
    have hi := List.mem_range.mp hi
    refine ⟨i + 1, by omega, by omega, by omega, ?_⟩
    rw [show ((i + 1 : Nat) : Int) = 1 + (i : Int) from by omega]
    simpa using n
  · rintro ⟨w, rfl, h1, h2, h3⟩
    refine ⟨List.mem_map.mpr ⟨w - 1, List.mem_range.mpr (by omega), by omega⟩, by simpa using h3⟩
theorem wrs_inj {A L : List Int} {i j : Nat} (hi : i < (wrs A L).length) (hj : j < (wrs A L).length) (h : (wrs A L).getD i 0 = (wrs A L).getD j 0) : i = j := by
  have nd : (wrs A L).Pairwise (· < ·) := by
    unfold wrs
    refine List.Pairwise.filter _ ?_
    rw [List.pairwise_map]
    refine List.Pairwise.imp ?_ List.pairwise_lt_range
    intro a b hab
    omega
  rw [getD_in hi, getD_in hj] at h
  rcases Nat.lt_trichotomy i j with c | c | c
  · have := List.pairwise_iff_getElem.mp nd i j hi hj c
    omega
  · exact c
  · have := List.pairwise_iff_getElem.mp nd j i hj hi c
    omega
def sp_turns_left (K : PySem.W.Frag) : Sp := fun vs H Q _ => ∃ A v L M W, ∃ u, vs = [u] ∧ Is K H u (rowD A v L) ∧ RowOk A v M W ∧ M * 2000 < 2 ^ 400 ∧
  ∀ p H', H p = none → Ex H H' → H' p = some (.dK (kvI (fun i => (wrs A L).getD i 0) (fun i => ((trn A (opn A v ((wrs A L).getD i 0).toNat 1) : Nat) : Int)) (wrs A L).length)) → Q (.ref p) H'
theorem ok_turns_left (T : Txt K mg) : FnG P w K mg base 9 (He.ga K "turns_left") ["row"] (sp_turns_left K) := by
  refine fnG (N := ["row", "weir"]) (st := s_turns_left) T.f_turns_left sc_turns_left (fun vs H Q E h => ?_) (fun _ _ _ _ _ _ us hl => match us, hl with | [_], _ => rfl) (fun cdv A outer s H vs Q E hr h => ⟨_, (pss_cons (ps_expr (pe_callG (ok_check_row T) (hr.mono (by decide)) (by rfl) T.m_check_row (pa_cons (pv 0) pa_nil))) (pss_one (ps_ret (pe_dc (own := [("weir", 1)]) rfl sc_turns_left.nd (pi_list (pe_methG0 (pv 0) T.c_Row T.x_Row_weirs (ok_Row_weirs T) (hr.mono (by decide)))) (blkOk_by (own := [("weir", 1)]) (N := ["row", "weir"]) (sc := defScope s_turns_left) (by decide +kernel)) (fun _ _ _ _ _ => (pg_name (i := 1) sc_turns_left.nd rfl (.inl rfl))) (fun _ _ _ _ _ => pts_nil) (fun _ _ _ _ _ => (pv 1)) (fun _ _ _ _ _ => (pe_callG (ok_turns T) (hr.mono (by decide)) (by rfl) T.m_turns (pa_cons (pe_methH (pv 0) T.c_Row T.x_Row_opened (ok_Row_opened2 T) (hr.mono (by decide)) (pa_cons (pv 1) pa_nil)) pa_nil))))))), ?_⟩)
  · obtain ⟨A, v, L, M, W, u, rfl, _⟩ := h
    rfl
  · obtain ⟨A, v, L, M, W, u, rfl, a1, ok, hM, q⟩ := h
    try dsimp only [cxOf, Cx.nox, Cx.wish]
    have hA := ok.al
    have wl : (wrs A L).length ≤ 24 := by
      unfold wrs
      refine Nat.le_trans (List.length_filter_le _ _) ?_
      rw [List.length_map, List.length_range]
      omega
    refine q_do (ed_call (d := .non) (ea1 (ed_var rfl a1) ea0) ⟨_, rfl, rfl⟩) fun H1 e1 => ?_
    refine en_dc (K := K) (n := (wrs A L).length) (item := fun i => (iL (wrs A L)).getD i .non) (fun i => (wrs A L).getD i 0) (fun i => ((trn A (opn A v ((wrs A L).getD i 0).toNat 1) : Nat) : Int)) (EvI.is (ei_list (es_new (en_meth (K := K) (R := R_Row_weirs) (es := iL (wrs A L)) (ed_var rfl (a1.ex e1)) rfl ea0 ⟨A, v, L, rfl, hA, rfl⟩) (fun l hl => nomatch hl)) (iLlf _)) (iLlen _)) (by omega) (fun a b ha hb h => wrs_inj ha hb h) (fun x => rfl) ?_ ?_ (fun p H' hp e hx => q p H' (fresh_back e1 hp) (e1.trans e) hx)
    · intro i x H2 hi e2 ax
      rw [show (iL (wrs A L)).getD i .non = .int ((wrs A L).getD i 0) from by rw [show (iL (wrs A L)).getD i .non = D.int (wrs A L)[i] from getD_map _ _ _ hi, getD_in hi]] at ax
      exact ed_var rfl ax
    · intro i x H2 hi e2 ax
      rw [show (iL (wrs A L)).getD i .non = .int ((wrs A L).getD i 0) from by rw [show (iL (wrs A L)).getD i .non = D.int (wrs A L)[i] from getD_map _ _ _ hi, getD_in hi]] at ax
      have mem : (wrs A L).getD i 0 ∈ wrs A L := gd_mem hi
      revert ax mem
      generalize (wrs A L).getD i 0 = o
      intro ax mem
      obtain ⟨j, rfl, j1, j2, j3⟩ := wrs_mem.mp mem
      have ha := ok.ar _ (gd_mem (z := 1) (show j - 1 < A.length by omega))
      have hb := ok.ar _ (gd_mem (z := 1) j2)
      have hM2 : M * (A.getD (j - 1) 1 + A.getD j 1).toNat * 1 < 2 ^ 400 := Nat.lt_of_le_of_lt (by
        rw [Nat.mul_one]
        exact Nat.mul_le_mul_left _ (by omega)) hM
      have rk := ok.opn (s := 1) (Ds := 1) j1 j2 (by decide) (by decide) (by decide) ⟨1, rfl⟩ hM2
      rw [Int.toNat_natCast]
      refine ed_call (R := R_turns) (ea1 (ed_methH (K := K) (R := R_Row_opened) (es := [(Tv.p 1 1).d]) (ed_var rfl (a1.ex (e1.trans e2))) rfl (ea1 (ed_var rfl ax) ea0) (fun H => .cons (.tup (tupA_ok T.t_Row_opened_0 H) (.cons (.int 1) (.cons (.int 1) .nil))) .nil) ⟨A, v, L, j, Tv.p 1 1, rfl, ⟨ok.len, j1, j2, j3, ok.ar, ok.al, fun q hq => (ok.sm hq).mono (by decide), ?_, ?_⟩, rfl⟩) ea0) ⟨A, _, L, _, W, rfl, rk, rfl⟩
      · exact ⟨by decide, Nat.one_lt_two_pow (by decide), by decide, Nat.one_lt_two_pow (by decide)⟩
      · exact ⟨Nat.one_lt_two_pow (by decide), Nat.one_lt_two_pow (by decide)⟩

end
end My
end
section
set_option Elab.async false
set_option linter.all false
set_option maxRecDepth 100000
set_option maxHeartbeats 4000000
namespace My
open PySem PySem.Spec PyProof.Rows L2 Evl WD
local macro_rules | `(tactic| walk_at "exgo") => `(tactic| first | exact Ex.refl _ | assumption | (refine' Ex.trans ?ea ?eb; (case eb => assumption); (case ea => walk_at "exgo")))
local macro_rules | `(tactic| walk_at "is") => `(tactic| first | assumption | (refine' Is.ex ?e ?h; (case h => assumption); (case e => walk_at "exgo")) | exact Is.int _ | exact Is.bl _ | exact Is.non)
local macro_rules | `(tactic| walk_at "ev") => `(tactic| first
  | exact ed_int | exact ed_bl | exact ed_non | exact ed_str
  | ((with_reducible apply ed_var) <;> first | exact rfl | walk_at "is")
  | ((with_reducible apply ed_add) <;> walk_at "ev")
  | ((with_reducible apply ed_sub) <;> walk_at "ev")
  | ((with_reducible apply ed_neg) <;> walk_at "ev")
  | ((with_reducible apply ed_mulW) <;> try walk_at "ev")
  | ((with_reducible apply ed_divW) <;> try walk_at "ev")
  | ((with_reducible apply ed_mod) <;> try walk_at "ev")
  | ((with_reducible apply ed_ixT) <;> first | exact rfl | walk_at "ev" | skip)
  | ((with_reducible apply ed_ixL) <;> first | exact rfl | walk_at "ev" | skip)
  | ((with_reducible apply ed_lt) <;> walk_at "ev")
  | ((with_reducible apply ed_le) <;> walk_at "ev")
  | ((with_reducible apply ed_gt) <;> walk_at "ev")
  | ((with_reducible apply ed_ge) <;> walk_at "ev")
  | ((with_reducible apply ed_eqI) <;> walk_at "ev")
  | ((with_reducible apply ed_neI) <;> walk_at "ev")
  | ((with_reducible apply ed_gcd) <;> walk_at "ev")
  | ((with_reducible apply ed_abs) <;> walk_at "ev")
  | ((with_reducible apply ed_intI) <;> walk_at "ev")
  | ((with_reducible apply ed_intB) <;> walk_at "ev")
  | ((with_reducible apply ed_max2) <;> walk_at "ev")
  | ((with_reducible apply ed_min2) <;> walk_at "ev")
  | ((with_reducible apply ed_lenT) <;> walk_at "ev")
  | ((with_reducible apply ed_lenL) <;> walk_at "ev")
  | ((with_reducible apply ed_tuple) <;> walk_at "ev")
  | ((with_reducible apply ed_tupleT) <;> walk_at "ev")
  | ((with_reducible apply ed_tup) <;> first | walk_at "ea" | (simp; done) | skip)
  | ((with_reducible apply et_t) <;> walk_at "ev")
  | ((with_reducible apply et_v) <;> walk_at "ev"))
local macro_rules | `(tactic| walk_at "ea") => `(tactic| first
  | exact ea0
  | ((with_reducible apply ea1) <;> first | walk_at "ev" | walk_at "ea" | skip))

section
variable {P : Program} {w : World} {K : PySem.W.Frag} {mg : Str → Option Value} {base : Heap}
/-! ### turns never grow -/
def cc : List Int → Nat
  | [] => 0
  | [_] => 0
  | a :: b :: t => (if a = b then 0 else 1) + cc (b :: t)
def nz (S : List Int) : List Int := S.filter fun x => !decide (x = 0)
theorem cc_cons (a b : Int) (t : List Int) : cc (a :: b :: t) = (if a = b then 0 else 1) + cc (b :: t) := rfl
theorem cc_range : ∀ L : List Int, ((List.range (L.length - 1)).filter fun i => !decide (L.getD i 0 = L.getD (i + 1) 0)).length = cc L
  | [] => rfl
  | [_] => rfl
  | a :: b :: t => by
    have ih := cc_range (b :: t)
    rw [cc_cons, ← ih]
    show ((List.range (t.length + 1)).filter _).length = _
    rw [List.range_succ_eq_map, List.filter_cons]
    have e : (List.filter (fun i => !decide ((a :: b :: t).getD i 0 = (a :: b :: t).getD (i + 1) 0)) (List.map Nat.succ (List.range t.length))).length = ((List.range ((b :: t).length - 1)).filter fun i => !decide ((b :: t).getD i 0 = (b :: t).getD (i + 1) 0)).length := by
      rw [List.filter_map, List.length_map]
      rfl
    by_cases h : a = b
    · rw [if_pos h, if_neg (by simp [h]), e, Nat.zero_add]
    · rw [if_neg h, if_pos (by simp [h]), List.length_cons, e, Nat.add_comm]
theorem chg_eq (S : List Int) : chg S = cc (nz S) := cc_range (nz S)
theorem cc_del (x : Int) : ∀ (p t : List Int), cc (p ++ t) ≤ cc (p ++ x :: t)
  | [], [] => Nat.le_refl _
  | [], b :: t => by
    show cc (b :: t) ≤ cc (x :: b :: t)
    rw [cc_cons]
    omega
  | [a], [] => Nat.zero_le _
  | [a], b :: t => by
    show cc (a :: b :: t) ≤ cc (a :: x :: b :: t)
    rw [cc_cons, cc_cons, cc_cons]
    by_cases h1 : a = b <;> by_cases h2 : a = x <;> by_cases h3 : x = b <;> simp [h1, h2, h3] <;> first | omega | (exfalso; exact h1 (h2.trans h3)) | skip
  | a :: b :: p, t => by
    have := cc_del x (b :: p) t
    show cc (a :: b :: (p ++ t)) ≤ cc (a :: b :: (p ++ x :: t))
    rw [cc_cons, cc_cons]
    exact Nat.add_le_add_left this _
theorem cc_dup (q : Int) : ∀ (p t : List Int), cc (p ++ q :: q :: t) = cc (p ++ q :: t)
  | [], t => by
    show cc (q :: q :: t) = cc (q :: t)
    rw [cc_cons, if_pos rfl, Nat.zero_add]
  | [a], t => by
    show cc (a :: q :: q :: t) = cc (a :: q :: t)
    rw [cc_cons a q, cc_cons q q, if_pos (rfl : q = q), Nat.zero_add, cc_cons]
  | a :: b :: p, t => by
    have := cc_dup q (b :: p) t
    show cc (a :: b :: (p ++ q :: q :: t)) = cc (a :: b :: (p ++ q :: t))
    rw [cc_cons, cc_cons]
    exact congrArg _ this
theorem nz_app (a b : List Int) : nz (a ++ b) = nz a ++ nz b := List.filter_append ..
theorem nz_zero (t : List Int) : nz (0 :: t) = nz t := rfl
theorem nz_cons {x : Int} (h : x ≠ 0) (t : List Int) : nz (x :: t) = x :: nz t := by
  unfold nz
  rw [List.filter_cons, if_pos (by simp [h])]
theorem nz_le (x : Int) (p t : List Int) : cc (p ++ nz t) ≤ cc (p ++ nz (x :: t)) := by
  by_cases h : x = 0
  · rw [h, nz_zero]
    exact Nat.le_refl _
  · rw [nz_cons h]
    exact cc_del x p _
/-- a sign that is told anew: none, the same one, or that of a neighbour -/
theorem cc_set {S : List Int} {i : Nat} {a : Int} (hi : i < S.length) (h : a = 0 ∨ a = S[i] ∨ (∃ h : i + 1 < S.length, a = S[i + 1]) ∨ (∃ h : 1 ≤ i, a = S[i - 1])) : cc (nz (S.set i a)) ≤ cc (nz S) := by
  have es : S = S.take i ++ S[i] :: S.drop (i + 1) := by
    rw [← List.drop_eq_getElem_cons hi, List.take_append_drop]
  have ea : S.set i a = S.take i ++ a :: S.drop (i + 1) := by rw [List.set_eq_take_append_cons_drop, if_pos hi]
  rw [ea]
  conv => rhs; rw [es]
  rw [nz_app, nz_app]
  by_cases a0 : a = 0
  · rw [a0, nz_zero]
    exact nz_le _ _ _
  · rcases h with h | h | ⟨h1, h⟩ | ⟨h1, h⟩
    · exact absurd h a0
    · rw [h]
      exact Nat.le_refl _
    · have ed : S.drop (i + 1) = a :: S.drop (i + 1 + 1) := by
        rw [List.drop_eq_getElem_cons h1, h]
      rw [ed, nz_cons a0, nz_cons a0]
      rw [cc_dup]
      have := nz_le S[i] (nz (S.take i)) (a :: S.drop (i + 1 + 1))
      rw [nz_cons a0] at this
      exact this
    · have et : S.take i = S.take (i - 1) ++ [a] := by
        have := List.take_succ_eq_append_getElem (show i - 1 < S.length by omega)
        rw [show i - 1 + 1 = i from by omega] at this
        rw [this, h]
      rw [et, nz_app, nz_cons a0, nz_cons a0]
      show cc (nz (S.take (i - 1)) ++ [a] ++ a :: nz (S.drop (i + 1))) ≤ cc (nz (S.take (i - 1)) ++ [a] ++ nz (S[i] :: S.drop (i + 1)))
      have e2 : nz (S.take (i - 1)) ++ [a] ++ a :: nz (S.drop (i + 1)) = nz (S.take (i - 1)) ++ a :: a :: nz (S.drop (i + 1)) := by simp
      have e3 : nz (S.take (i - 1)) ++ a :: nz (S.drop (i + 1)) = nz (S.take (i - 1)) ++ [a] ++ nz (S.drop (i + 1)) := by simp
      rw [e2, cc_dup, e3]
      exact nz_le _ _ _
theorem sg_add {p q c : Rat} (hc : 0 ≤ c) : sg (p + c * q) = 0 ∨ sg (p + c * q) = sg p ∨ sg (p + c * q) = sg q := by
  have h1 : 0 < q → 0 ≤ c * q := fun h => Rat.mul_nonneg hc (Rat.le_of_lt h)
  have h2 : q < 0 → 0 ≤ -(c * q) := fun h => by
    have := Rat.mul_nonneg hc (show 0 ≤ -q by grind)
    grind
  have h3 : q = 0 → c * q = 0 := fun h => by
    rw [h]
    grind
  generalize c * q = z at h1 h2 h3
  unfold sg
  by_cases a1 : 0 < p + z <;> by_cases a2 : p + z < 0 <;> by_cases b1 : 0 < p <;> by_cases b2 : p < 0 <;> by_cases d1 : 0 < q <;> by_cases d2 : q < 0 <;> simp [a1, a2, b1, b2, d1, d2] <;> exfalso
  all_goals first
    | grind
    | (have d3 : q = 0 := Rat.le_antisymm (Rat.not_lt.mp d1) (Rat.not_lt.mp d2)
       have := h3 d3
       grind)
theorem sg_mul {q c : Rat} (hc : 0 ≤ c) : sg (c * q) = 0 ∨ sg (c * q) = sg q := by
  have := sg_add (p := 0) (q := q) hc
  rw [Rat.zero_add] at this
  rcases this with h | h | h
  · exact .inl h
  · left
    rw [h]
    rfl
  · exact .inr h

end
end My
end
section
set_option Elab.async false
set_option linter.all false
set_option maxRecDepth 100000
set_option maxHeartbeats 4000000
namespace My
open PySem PySem.Spec PyProof.Rows L2 Evl WD
local macro_rules | `(tactic| walk_at "exgo") => `(tactic| first | exact Ex.refl _ | assumption | (refine' Ex.trans ?ea ?eb; (case eb => assumption); (case ea => walk_at "exgo")))
local macro_rules | `(tactic| walk_at "is") => `(tactic| first | assumption | (refine' Is.ex ?e ?h; (case h => assumption); (case e => walk_at "exgo")) | exact Is.int _ | exact Is.bl _ | exact Is.non)
local macro_rules | `(tactic| walk_at "ev") => `(tactic| first
  | exact ed_int | exact ed_bl | exact ed_non | exact ed_str
  | ((with_reducible apply ed_var) <;> first | exact rfl | walk_at "is")
  | ((with_reducible apply ed_add) <;> walk_at "ev")
  | ((with_reducible apply ed_sub) <;> walk_at "ev")
  | ((with_reducible apply ed_neg) <;> walk_at "ev")
  | ((with_reducible apply ed_mulW) <;> try walk_at "ev")
  | ((with_reducible apply ed_divW) <;> try walk_at "ev")
  | ((with_reducible apply ed_mod) <;> try walk_at "ev")
  | ((with_reducible apply ed_ixT) <;> first | exact rfl | walk_at "ev" | skip)
  | ((with_reducible apply ed_ixL) <;> first | exact rfl | walk_at "ev" | skip)
  | ((with_reducible apply ed_lt) <;> walk_at "ev")
  | ((with_reducible apply ed_le) <;> walk_at "ev")
  | ((with_reducible apply ed_gt) <;> walk_at "ev")
  | ((with_reducible apply ed_ge) <;> walk_at "ev")
  | ((with_reducible apply ed_eqI) <;> walk_at "ev")
  | ((with_reducible apply ed_neI) <;> walk_at "ev")
  | ((with_reducible apply ed_gcd) <;> walk_at "ev")
  | ((with_reducible apply ed_abs) <;> walk_at "ev")
  | ((with_reducible apply ed_intI) <;> walk_at "ev")
  | ((with_reducible apply ed_intB) <;> walk_at "ev")
  | ((with_reducible apply ed_max2) <;> walk_at "ev")
  | ((with_reducible apply ed_min2) <;> walk_at "ev")
  | ((with_reducible apply ed_lenT) <;> walk_at "ev")
  | ((with_reducible apply ed_lenL) <;> walk_at "ev")
  | ((with_reducible apply ed_tuple) <;> walk_at "ev")
  | ((with_reducible apply ed_tupleT) <;> walk_at "ev")
  | ((with_reducible apply ed_tup) <;> first | walk_at "ea" | (simp; done) | skip)
  | ((with_reducible apply et_t) <;> walk_at "ev")
  | ((with_reducible apply et_v) <;> walk_at "ev"))
local macro_rules | `(tactic| walk_at "ea") => `(tactic| first
  | exact ea0
  | ((with_reducible apply ea1) <;> first | walk_at "ev" | walk_at "ea" | skip))

section
variable {P : Program} {w : World} {K : PySem.W.Frag} {mg : Str → Option Value} {base : Heap}
def sgL (m : Nat) (f : Nat → Rat) : List Int := (List.range m).map fun i => sg (f (i + 1))
theorem sgL_len (m : Nat) (f : Nat → Rat) : (sgL m f).length = m := by
  unfold sgL
  rw [List.length_map, List.length_range]
theorem sgL_get {m : Nat} {f : Nat → Rat} {i : Nat} (h : i < (sgL m f).length) : (sgL m f)[i] = sg (f (i + 1)) := by
  simp only [sgL, List.getElem_map, List.getElem_range]
theorem sgL_set (m : Nat) (f : Nat → Rat) (i : Nat) (z : Rat) : (sgL m f).set i (sg z) = sgL m fun k => if k = i + 1 then z else f k := by
  refine List.ext_getElem (by rw [List.length_set, sgL_len, sgL_len]) fun j h1 h2 => ?_
  rw [List.getElem_set, sgL_get h2]
  by_cases e : i = j
  · rw [if_pos e, if_pos (by omega)]
  · rw [if_neg e, if_neg (by omega), sgL_get]
theorem turn_one {m : Nat} {f : Nat → Rat} {k : Nat} {z : Rat} (k1 : 1 ≤ k) (k2 : k ≤ m) (h : sg z = 0 ∨ sg z = sg (f k) ∨ (k + 1 ≤ m ∧ sg z = sg (f (k + 1))) ∨ (2 ≤ k ∧ sg z = sg (f (k - 1)))) : cc (nz (sgL m fun j => if j = k then z else f j)) ≤ cc (nz (sgL m f)) := by
  have e := sgL_set m f (k - 1) z
  rw [show k - 1 + 1 = k from by omega] at e
  rw [← e]
  refine cc_set (by rw [sgL_len]; omega) ?_
  rw [sgL_get, show k - 1 + 1 = k from by omega]
  rcases h with h | h | ⟨h1, h⟩ | ⟨h1, h⟩
  · exact .inl h
  · exact .inr (.inl h)
  · refine .inr (.inr (.inl ⟨by rw [sgL_len]; omega, ?_⟩))
    rw [h]
    simp only [sgL_get]
  · refine .inr (.inr (.inr ⟨by omega, ?_⟩))
    rw [sgL_get, h, show k - 1 - 1 + 1 = k - 1 from by omega]
theorem turn_le {m : Nat} {f g : Nat → Rat} {w : Nat} (w1 : 1 ≤ w) (w2 : w ≤ m) (h0 : ∀ k, k ≠ w - 1 → k ≠ w → k ≠ w + 1 → g k = f k) (h1 : 2 ≤ w → ∃ c : Rat, 0 ≤ c ∧ g (w - 1) = f (w - 1) + c * f w) (h2 : w + 1 ≤ m → ∃ c : Rat, 0 ≤ c ∧ g (w + 1) = f (w + 1) + c * f w) (h3 : ∃ c : Rat, 0 ≤ c ∧ g w = c * f w) :
    cc (nz (sgL m g)) ≤ cc (nz (sgL m f)) := by
  obtain ⟨f1, e1, p1⟩ : ∃ f1 : Nat → Rat, (∀ k, 1 ≤ k → k ≤ m → f1 k = if k = w - 1 then g k else f k) ∧ cc (nz (sgL m f1)) ≤ cc (nz (sgL m f)) := by
    by_cases c : 2 ≤ w
    · obtain ⟨c1, c0, hc⟩ := h1 c
      refine ⟨fun j => if j = w - 1 then g (w - 1) else f j, fun k _ _ => ?_, turn_one (by omega) (by omega) ?_⟩
      · by_cases e : k = w - 1
        · simp only [if_pos e]
          rw [e]
        · simp only [if_neg e]
      · rw [hc]
        rcases sg_add (p := f (w - 1)) (q := f w) c0 with h | h | h
        · exact .inl h
        · exact .inr (.inl h)
        · exact .inr (.inr (.inl ⟨by omega, by rw [h, show w - 1 + 1 = w from by omega]⟩))
    · refine ⟨f, fun k k1 _ => ?_, Nat.le_refl _⟩
      rw [if_neg (by omega)]
  obtain ⟨f2, e2, p2⟩ : ∃ f2 : Nat → Rat, (∀ k, 1 ≤ k → k ≤ m → f2 k = if k = w - 1 ∨ k = w + 1 then g k else f k) ∧ cc (nz (sgL m f2)) ≤ cc (nz (sgL m f1)) := by
    by_cases c : w + 1 ≤ m
    · obtain ⟨c1, c0, hc⟩ := h2 c
      refine ⟨fun j => if j = w + 1 then g (w + 1) else f1 j, fun k k1 k2 => ?_, turn_one (by omega) (by omega) ?_⟩
      · by_cases e : k = w + 1
        · simp only [if_pos e]
          rw [if_pos (.inr e), e]
        · simp only [if_neg e]
          rw [e1 k k1 k2]
          by_cases e' : k = w - 1
          · rw [if_pos e', if_pos (.inl e')]
          · rw [if_neg e', if_neg (by omega)]
      · rw [hc]
        have a1 := e1 (w + 1) (by omega) c
        have a2 := e1 w w1 w2
        rw [if_neg (by omega)] at a1 a2
        rcases sg_add (p := f (w + 1)) (q := f w) c0 with h | h | h
        · exact .inl h
        · exact .inr (.inl (by rw [h, a1]))
        · exact .inr (.inr (.inr ⟨by omega, by rw [h, show w + 1 - 1 = w from by omega, a2]⟩))
    · refine ⟨f1, fun k k1 k2 => ?_, Nat.le_refl _⟩
      rw [e1 k k1 k2]
      by_cases e' : k = w - 1
      · rw [if_pos e', if_pos (.inl e')]
      · rw [if_neg e', if_neg (by omega)]
  obtain ⟨c, c0, hc⟩ := h3
  have p3 : cc (nz (sgL m fun j => if j = w then g w else f2 j)) ≤ cc (nz (sgL m f2)) := turn_one w1 w2 (by
    rw [hc]
    have a := e2 w w1 w2
    rw [if_neg (by omega)] at a
    rcases sg_mul (q := f w) c0 with h | h
    · exact .inl h
    · exact .inr (.inl (by rw [h, a])))
  have e3 : sgL m g = sgL m fun j => if j = w then g w else f2 j := by
    refine List.ext_getElem (by rw [sgL_len, sgL_len]) fun i i1 i2 => ?_
    rw [sgL_get, sgL_get]
    rw [sgL_len] at i1
    congr 1
    by_cases e : i + 1 = w
    · rw [if_pos e, e]
    · rw [if_neg e, e2 (i + 1) (by omega) (by omega)]
      by_cases e' : i + 1 = w - 1 ∨ i + 1 = w + 1
      · rw [if_pos e']
      · rw [if_neg e']
        exact h0 _ (by omega) e (by omega)
  rw [e3]
  exact Nat.le_trans p3 (Nat.le_trans p2 p1)
theorem sms_get {v : List Rat} {j : Nat} (h : j ≤ v.length) : (sms v).getD j 0 = S v j := by
  rw [getD_in (by rw [sms_len]; omega)]
  simp only [sms, List.getElem_map, List.getElem_range]
theorem trn_eq (A : List Int) (v : List Rat) : trn A v = cc (nz (sgL (A.length - 1) (rise A (sms v)))) := chg_eq _
/-- what an opening, whole or in part, does to how the row rises at the weirs -/
theorem rise_opn {A : List Int} {v : List Rat} {w : Nat} (h1 : 1 ≤ w) (h2 : w < A.length) (hv : v.length = A.length) (ar : ∀ a ∈ A, 1 ≤ a ∧ a ≤ 1000) (s : Rat) :
    ∃ c : Rat, 0 < c ∧ (∀ k, k + 1 ≤ v.length → k ≠ w - 1 → k ≠ w → k ≠ w + 1 → rise A (sms (opn A v w s)) k = rise A (sms v) k) ∧ (2 ≤ w → rise A (sms (opn A v w s)) (w - 1) = rise A (sms v) (w - 1) + (s * c * ((A.getD (w - 2) 1 : Int) : Rat)) * rise A (sms v) w) ∧
      (w + 1 < A.length → rise A (sms (opn A v w s)) (w + 1) = rise A (sms v) (w + 1) + (s * c * ((A.getD (w + 1) 1 : Int) : Rat)) * rise A (sms v) w) ∧ rise A (sms (opn A v w s)) w = (1 - s) * rise A (sms v) w := by
  have ha := ar _ (gd_mem (z := 1) (show w - 1 < A.length by omega))
  have hb := ar _ (gd_mem (z := 1) h2)
  have so := S_opn h1 h2 hv ar s
  have ln := opn_len (L := []) h1 h2 hv ar s
  have x1 := S_succ v (w - 1) (by omega)
  have x2 := S_succ v w (by omega)
  rw [show w - 1 + 1 = w from by omega, ← getD_in (z := (0 : Rat)) (show w - 1 < v.length by omega)] at x1
  rw [← getD_in (z := (0 : Rat)) (show w < v.length by omega)] at x2
  have cp : 0 < mkRat 1 (A.getD (w - 1) 1 + A.getD w 1).toNat ∧ mkRat 1 (A.getD (w - 1) 1 + A.getD w 1).toNat * (((A.getD (w - 1) 1 : Int) : Rat) + ((A.getD w 1 : Int) : Rat)) = 1 := by
    revert ha hb
    generalize A.getD (w - 1) 1 = a
    generalize A.getD w 1 = b
    intro ha hb
    have e1 : mkRat 1 (a + b).toNat * ((a : Rat) + (b : Rat)) = 1 := by
      rw [Rat.mkRat_eq_div]
      have h1 : (((a + b).toNat : Nat) : Rat) = ((a + b : Int) : Rat) := by
        have h2 : (((a + b).toNat : Nat) : Rat) = ((((a + b).toNat : Nat) : Int) : Rat) := rfl
        rw [h2, Int.toNat_of_nonneg (by omega)]
      have c1 : ((a + b : Int) : Rat) ≠ 0 := by exact_mod_cast (show (a + b : Int) ≠ 0 by omega)
      rw [h1, Rat.intCast_add] at *
      have h3 : ((1 : Int) : Rat) = 1 := rfl
      grind
    have a0 : (0 : Rat) < (a : Rat) := by exact_mod_cast (show (0 : Int) < a by omega)
    have b0 : (0 : Rat) < (b : Rat) := by exact_mod_cast (show (0 : Int) < b by omega)
    generalize mkRat 1 (a + b).toNat = m at e1 ⊢
    refine ⟨?_, e1⟩
    apply Decidable.byContradiction
    intro n
    have n := Rat.not_lt.mp n
    have := Rat.mul_nonneg (show 0 ≤ -m by grind) (show 0 ≤ (a : Rat) + (b : Rat) by grind)
    grind
  revert so cp
  generalize mkRat 1 (A.getD (w - 1) 1 + A.getD w 1).toNat = c
  intro so cp
  have g0 : ∀ k, k ≤ v.length → k ≠ w → (sms (opn A v w s)).getD k 0 = (sms v).getD k 0 := fun k hk n => by
    rw [sms_get (by rw [ln]; exact hk), sms_get hk, so k, if_neg n]
  have gw : (sms (opn A v w s)).getD w 0 = (sms v).getD w 0 + s * c * rise A (sms v) w := by
    rw [sms_get (by rw [ln]; omega), so w, if_pos rfl]
    unfold rise
    rw [sms_get (show w + 1 ≤ v.length by omega), sms_get (show w ≤ v.length by omega), sms_get (show w - 1 ≤ v.length by omega), x2, x1]
    have := cp.2
    grind
  refine ⟨c, cp.1, ?_, ?_, ?_, ?_⟩
  · intro k hk n1 n2 n3
    unfold rise
    rw [g0 (k + 1) hk (by omega), g0 k (by omega) n2, g0 (k - 1) (by omega) (by omega)]
  · intro hw
    generalize hr : rise A (sms v) w = R at gw
    unfold rise
    rw [show w - 1 + 1 = w from by omega, gw, g0 (w - 1) (by omega) (by omega), g0 (w - 1 - 1) (by omega) (by omega), show w - 1 - 1 = w - 2 from by omega]
    grind
  · intro hw
    generalize hr : rise A (sms v) w = R at gw
    unfold rise
    rw [g0 (w + 1 + 1) (by omega) (by omega), g0 (w + 1) (by omega) (by omega), show w + 1 - 1 = w from by omega, gw]
    grind
  · have hr : rise A (sms v) w = ((sms v).getD (w + 1) 0 - (sms v).getD w 0) * ((A.getD (w - 1) 1 : Int) : Rat) - ((sms v).getD w 0 - (sms v).getD (w - 1) 0) * ((A.getD w 1 : Int) : Rat) := rfl
    have hl : rise A (sms (opn A v w s)) w = ((sms (opn A v w s)).getD (w + 1) 0 - (sms (opn A v w s)).getD w 0) * ((A.getD (w - 1) 1 : Int) : Rat) - ((sms (opn A v w s)).getD w 0 - (sms (opn A v w s)).getD (w - 1) 0) * ((A.getD w 1 : Int) : Rat) := rfl
    rw [hl, gw, g0 (w + 1) (by omega) (by omega), g0 (w - 1) (by omega) (by omega)]
    generalize rise A (sms v) w = R at hr ⊢
    have := cp.2
    grind
/-- no opening, whole or in part, lets a row turn more often -/
theorem trn_opn {A : List Int} {v : List Rat} {w : Nat} (h1 : 1 ≤ w) (h2 : w < A.length) (hv : v.length = A.length) (ar : ∀ a ∈ A, 1 ≤ a ∧ a ≤ 1000) {s : Rat} (s0 : 0 ≤ s) (s1 : s ≤ 1) : trn A (opn A v w s) ≤ trn A v := by
  obtain ⟨c, c0, r0, r1, r2, r3⟩ := rise_opn h1 h2 hv ar s
  have sc : 0 ≤ s * c := Rat.mul_nonneg s0 (Rat.le_of_lt c0)
  have pos : ∀ j, j < A.length → 0 ≤ s * c * ((A.getD j 1 : Int) : Rat) := fun j hj => by
    have := ar _ (gd_mem (z := 1) hj)
    refine Rat.mul_nonneg sc ?_
    exact_mod_cast (show (0 : Int) ≤ A.getD j 1 by omega)
  rw [trn_eq, trn_eq]
  have e : sgL (A.length - 1) (rise A (sms (opn A v w s))) = sgL (A.length - 1) fun k => if k + 1 ≤ v.length then rise A (sms (opn A v w s)) k else rise A (sms v) k := by
    refine List.ext_getElem (by rw [sgL_len, sgL_len]) fun i i1 i2 => ?_
    rw [sgL_len] at i1
    rw [sgL_get, sgL_get, if_pos (by omega)]
  rw [e]
  refine turn_le h1 (by omega) ?_ ?_ ?_ ?_
  · intro k n1 n2 n3
    by_cases hk : k + 1 ≤ v.length
    · rw [if_pos hk]
      exact r0 k hk n1 n2 n3
    · rw [if_neg hk]
  · intro hw
    refine ⟨_, pos (w - 2) (by omega), ?_⟩
    rw [if_pos (by omega)]
    exact r1 hw
  · intro hw
    refine ⟨_, pos (w + 1) (by omega), ?_⟩
    rw [if_pos (by omega)]
    exact r2 (by omega)
  · refine ⟨1 - s, by grind, ?_⟩
    rw [if_pos (by omega)]
    exact r3

end
end My
end
section
set_option Elab.async false
set_option linter.all false
set_option maxRecDepth 100000
set_option maxHeartbeats 4000000
namespace My
open PySem PySem.Spec PyProof.Rows L2 Evl WD
local macro_rules | `(tactic| walk_at "exgo") => `(tactic| first | exact Ex.refl _ | assumption | (refine' Ex.trans ?ea ?eb; (case eb => assumption); (case ea => walk_at "exgo")))
local macro_rules | `(tactic| walk_at "is") => `(tactic| first | assumption | (refine' Is.ex ?e ?h; (case h => assumption); (case e => walk_at "exgo")) | exact Is.int _ | exact Is.bl _ | exact Is.non)
local macro_rules | `(tactic| walk_at "ev") => `(tactic| first
  | exact ed_int | exact ed_bl | exact ed_non | exact ed_str
  | ((with_reducible apply ed_var) <;> first | exact rfl | walk_at "is")
  | ((with_reducible apply ed_add) <;> walk_at "ev")
  | ((with_reducible apply ed_sub) <;> walk_at "ev")
  | ((with_reducible apply ed_neg) <;> walk_at "ev")
  | ((with_reducible apply ed_mulW) <;> try walk_at "ev")
  | ((with_reducible apply ed_divW) <;> try walk_at "ev")
  | ((with_reducible apply ed_mod) <;> try walk_at "ev")
  | ((with_reducible apply ed_ixT) <;> first | exact rfl | walk_at "ev" | skip)
  | ((with_reducible apply ed_ixL) <;> first | exact rfl | walk_at "ev" | skip)
  | ((with_reducible apply ed_lt) <;> walk_at "ev")
  | ((with_reducible apply ed_le) <;> walk_at "ev")
  | ((with_reducible apply ed_gt) <;> walk_at "ev")
  | ((with_reducible apply ed_ge) <;> walk_at "ev")
  | ((with_reducible apply ed_eqI) <;> walk_at "ev")
  | ((with_reducible apply ed_neI) <;> walk_at "ev")
  | ((with_reducible apply ed_gcd) <;> walk_at "ev")
  | ((with_reducible apply ed_abs) <;> walk_at "ev")
  | ((with_reducible apply ed_intI) <;> walk_at "ev")
  | ((with_reducible apply ed_intB) <;> walk_at "ev")
  | ((with_reducible apply ed_max2) <;> walk_at "ev")
  | ((with_reducible apply ed_min2) <;> walk_at "ev")
  | ((with_reducible apply ed_lenT) <;> walk_at "ev")
  | ((with_reducible apply ed_lenL) <;> walk_at "ev")
  | ((with_reducible apply ed_tuple) <;> walk_at "ev")
  | ((with_reducible apply ed_tupleT) <;> walk_at "ev")
  | ((with_reducible apply ed_tup) <;> first | walk_at "ea" | (simp; done) | skip)
  | ((with_reducible apply et_t) <;> walk_at "ev")
  | ((with_reducible apply et_v) <;> walk_at "ev"))
local macro_rules | `(tactic| walk_at "ea") => `(tactic| first
  | exact ea0
  | ((with_reducible apply ea1) <;> first | walk_at "ev" | walk_at "ea" | skip))

section
variable {P : Program} {w : World} {K : PySem.W.Frag} {mg : Str → Option Value} {base : Heap}
def lawNum (sc : List Int) (k : Int) : Int :=
  if sc = [] then (k * 48271 + 12345) % 2147483647 else
    let c := sc.getD (k % (sc.length : Int)).toNat 0
    let c := if (10 : Int) ^ (60 : Int).toNat ≤ (if c < 0 then -c else c) then c % (10 : Int) ^ (18 : Int).toNat else c
    let b := ((c + 977 * k) * 48271 + 31 * (sc.length : Int)) % 2147483647
    (b * 69621 % 2147483629 * 16807 + k) % 2147483587
def R_law_number (ds : List D) (d : D) : Prop := ∃ (sc : List Int) (k : Int), ds = [.lst (iL sc), .int k] ∧ 0 ≤ k ∧ k ≤ 2000 ∧ sc.length ≤ 1000 ∧ d = .int (lawNum sc k)
theorem mw {i j : Int} {a b : Nat} (ha : i.natAbs < 2 ^ a) (hb : j.natAbs < 2 ^ b) (h0 : 0 < a := by decide) (h1 : 0 < b := by decide) (h : a + b ≤ 1000000 := by decide) : CMulW i j := mulW ha hb h0 h1 h
theorem ok__law_number (T : Txt K mg) : FnG P w K mg base 1 (He.ga K "_law_number") ["script", "index"] (spD K R_law_number) := by
  refine fnG (N := ["script", "index", "cell", "blend"]) (st := s__law_number) T.f__law_number sc__law_number (fun vs H Q E h => ?_) (fun _ _ _ _ _ _ us hl => match us, hl with | [_, _], _ => rfl) (fun cdv A outer s H vs Q E hr h => ⟨_, (pss_cons (ps_if (pt_cmpR (op_eqD (hr.units)) (pv 0) (pe_lst pa_nil) (nomark _)) (pss_one (ps_ret (pe_callTy call_intS (by rfl) T.z_int (by decide +kernel) (pa_cons (pe_op op_mod (pe_op op_add (pe_op op_mulW (pv 1) pe_int) pe_int) pe_int) pa_nil)))) pss_nil) (pss_cons (ps_asg (pe_ix ix_list (pv 0) (pe_op op_mod (pv 1) (pe_callB call_lenS (by rfl) T.z_len PySem.boot_len (pa_cons (pv 0) pa_nil))) (fun _ _ => rfl)) (pg_name (i := 2) sc__law_number.nd rfl (.inl rfl))) (pss_cons (ps_if (pt_cmpR op_ge (pe_callB call_absS (by rfl) T.z_abs (by decide +kernel) (pa_cons (pv 2) pa_nil)) (pe_op op_pow pe_int pe_int) (nomark _)) (pss_one (ps_asg (pe_op op_mod (pv 2) (pe_op op_pow pe_int pe_int)) (pg_name (i := 2) sc__law_number.nd rfl (.inl rfl)))) pss_nil) (pss_cons (ps_asg (pe_op op_mod (pe_op op_add (pe_op op_mulW (pe_op op_add (pv 2) (pe_op op_mulW pe_int (pv 1))) pe_int) (pe_op op_mulW pe_int (pe_callB call_lenS (by rfl) T.z_len PySem.boot_len (pa_cons (pv 0) pa_nil)))) pe_int) (pg_name (i := 3) sc__law_number.nd rfl (.inl rfl))) (pss_one (ps_ret (pe_callTy call_intS (by rfl) T.z_int (by decide +kernel) (pa_cons (pe_op op_mod (pe_op op_add (pe_op op_mulW (pe_op op_mod (pe_op op_mulW (pv 3) pe_int) pe_int) pe_int) (pv 1)) pe_int) pa_nil)))))))), ?_⟩)
  · obtain ⟨ds, d, a, ⟨sc, k, rfl, _⟩, _⟩ := h
    exact a.len
  · obtain ⟨ds, d, a, ⟨sc, k, rfl, k0, k1, kl, rfl⟩, q⟩ := h
    obtain ⟨u, u', rfl, a1, a2⟩ := All.inv2 a
    try dsimp only [cxOf, Cx.nox, Cx.wish]
    have et : EvT (tTest (tOp (rEqD K) (tVar 0) (tLst tNil))) (L2.start ["script", "index", "cell", "blend"] [u, u']) H (decide (sc = [])) := et_t (EvD.is (ed_eqD (K := K) (ed_var rfl a1) (EvN.toD (en_lst ea0)) (sh_iL sc) (sh_iL [])) (by rw [show D.lst [] = D.lst (iL []) from rfl, eqv_iL]))
    by_cases hs : sc = []
    · rw [decide_eq_true hs] at et
      refine q_when (b := true) et (fun _ H1 e1 => ?_) (fun z => nomatch z)
      refine s_retD (K := K) (d := .int ((k * 48271 + 12345) % 2147483647)) (ed_intI (ed_mod (ed_add (ed_mulW (ed_var rfl (a2.ex e1)) ed_int (mw (a := 11) (b := 16) (by omega) (by decide))) ed_int) ed_int (by decide))) fun v H2 e2 i2 => q _ _ (e1.trans e2) (by
        unfold lawNum
        rw [if_pos hs]
        exact i2)
    · rw [decide_eq_false hs] at et
      have hl : 0 < sc.length := List.length_pos_iff.mpr hs
      refine q_when (b := false) et (fun z => nomatch z) (fun _ H1 e1 => ?_)
      have r0 : 0 ≤ k % (sc.length : Int) := Int.emod_nonneg _ (by omega)
      have r1 : k % (sc.length : Int) < (sc.length : Int) := Int.emod_lt_of_pos _ (by omega)
      refine q_asgD (K := K) (d := .int (sc.getD (k % (sc.length : Int)).toNat 0)) (ed_ixL (ed_var rfl (a1.ex e1)) (EvD.is (ed_mod (K := K) (ed_var rfl (a2.ex e1)) (EvD.is (ed_lenL (K := K) (ed_var rfl (a1.ex e1))) (by rw [iLlen])) (by omega)) rfl) (by
        conv => lhs; rw [← Int.toNat_of_nonneg r0]
        exact at_iL0 (by omega))) fun v1 H2 e2 i2 => ?_
      have E2 := e1.trans e2
      have fin : ∀ (c : Int) (v2 : V) (H3 : Hp), Ex H2 H3 → Is K H3 v2 (.int c) → c.natAbs < 2 ^ 201 → lawNum sc k = ((((c + 977 * k) * 48271 + 31 * (sc.length : Int)) % 2147483647) * 69621 % 2147483629 * 16807 + k) % 2147483587 →
          ∀ (tz : TS), tz = tSeq (tAsg (tOp (rI (fun _ j => 0 < j) fun i j => .int (i % j)) (tOp (rI0 fun i j => .int (i + j)) (tOp (rI CMulW fun i j => .int (i * j)) (tOp (rI0 fun i j => .int (i + j)) (tVar 2) (tOp (rI CMulW fun i j => .int (i * j)) (tC (.int 977)) (tVar 1))) (tC (.int 48271))) (tOp (rI CMulW fun i j => .int (i * j)) (tC (.int 31)) (tCB (rLenS K) (tCons (tVar 0) tNil)))) (tC (.int 2147483647))) (gName 3))
            (tRet (tCB rInt1 (tCons (tOp (rI (fun _ j => 0 < j) fun i j => .int (i % j)) (tOp (rI0 fun i j => .int (i + j)) (tOp (rI CMulW fun i j => .int (i * j)) (tOp (rI (fun _ j => 0 < j) fun i j => .int (i % j)) (tOp (rI CMulW fun i j => .int (i * j)) (tVar 3) (tC (.int 69621))) (tC (.int 2147483629))) (tC (.int 16807))) (tVar 1)) (tC (.int 2147483587))) tNil))) →
          tz { nx := fun _ H' => Q .non H', rt := Q } [some u, some u', some v2, none] H3 := by
        intro c v2 H3 e3 i3 cs hc tz ht
        rw [ht]
        refine q_asgD (K := K) (d := .int (((c + 977 * k) * 48271 + 31 * (sc.length : Int)) % 2147483647)) (ed_mod (ed_add (ed_mulW (ed_add (ed_var rfl i3) (ed_mulW ed_int (ed_var rfl (a2.ex (E2.trans e3))) (mw (a := 10) (b := 11) (by decide) (by omega)))) ed_int (mw (a := 202) (b := 16) (by omega) (by decide))) (ed_mulW ed_int (EvD.is (ed_lenL (K := K) (ed_var rfl (a1.ex (E2.trans e3)))) (by rw [iLlen])) (mw (a := 5) (b := 10) (by decide) (by omega)))) ed_int (by decide)) fun v3 H4 e4 i4 => ?_
        generalize hb : ((c + 977 * k) * 48271 + 31 * (sc.length : Int)) % 2147483647 = b at i4 hc
        have b0 : 0 ≤ b := by
          rw [← hb]
          exact Int.emod_nonneg _ (by decide)
        have b1 : b < 2147483647 := by
          rw [← hb]
          exact Int.emod_lt_of_pos _ (by decide)
        have m0 : 0 ≤ b * 69621 % 2147483629 := Int.emod_nonneg _ (by decide)
        have m1 : b * 69621 % 2147483629 < 2147483629 := Int.emod_lt_of_pos _ (by decide)
        refine s_retD (K := K) (d := .int ((b * 69621 % 2147483629 * 16807 + k) % 2147483587)) (ed_intI (ed_mod (ed_add (ed_mulW (ed_mod (ed_mulW (ed_var rfl i4) ed_int (mw (a := 31) (b := 17) (by omega) (by decide))) ed_int (by decide)) ed_int (mw (a := 31) (b := 15) (by omega) (by decide))) (ed_var rfl (a2.ex ((E2.trans e3).trans e4)))) ed_int (by decide))) fun v4 H5 e5 i5 => q _ _ (((E2.trans e3).trans e4).trans e5) (by
          rw [hc]
          exact i5)
      generalize hcl : sc.getD (k % (sc.length : Int)).toNat 0 = c at i2
      have p60 : (10 : Int) ^ (60 : Int).toNat < 2 ^ 200 := by decide
      have lv : lawNum sc k = (((((if (10 : Int) ^ (60 : Int).toNat ≤ (if c < 0 then -c else c) then c % (10 : Int) ^ (18 : Int).toNat else c) + 977 * k) * 48271 + 31 * (sc.length : Int)) % 2147483647) * 69621 % 2147483629 * 16807 + k) % 2147483587 := by
        unfold lawNum
        rw [if_neg hs, hcl]
      have ep : ∀ H', EvD K (tOp (rI CPow fun i j => .int (i ^ j.toNat)) (tC (.int 10)) (tC (.int 60))) [some u, some u', some v1, none] H' (.int ((10 : Int) ^ (60 : Int).toNat)) := fun H' => ed_pow ed_int ed_int ⟨by decide, by decide, by decide⟩
      have eg : EvT (tTest (tOp (rI0 fun i j => .bl (decide (i ≥ j))) (tCB rAbs (tCons (tVar 2) tNil)) (tOp (rI CPow fun i j => .int (i ^ j.toNat)) (tC (.int 10)) (tC (.int 60))))) [some u, some u', some v1, none] H2 (decide ((if c < 0 then -c else c) ≥ (10 : Int) ^ (60 : Int).toNat)) := et_t (K := K) (ed_ge (ed_abs (ed_var rfl i2)) (ep H2))
      generalize (10 : Int) ^ (60 : Int).toNat = p at eg lv p60 ep
      by_cases hbig : (if c < 0 then -c else c) ≥ p
      · rw [decide_eq_true hbig] at eg
        rw [if_pos hbig] at lv
        refine q_when (b := true) eg (fun _ H3 e3 => ?_) (fun z => nomatch z)
        refine s_asgD (K := K) (d := .int (c % (10 : Int) ^ (18 : Int).toNat)) (ed_mod (ed_var rfl (i2.ex e3)) (ed_pow ed_int ed_int ⟨by decide, by decide, by decide⟩) (by decide)) fun v2 H4 e4 i4 => ?_
        refine fin _ v2 H4 (e3.trans e4) i4 ?_ lv _ rfl
        have h1 := Int.emod_nonneg c (show (10 : Int) ^ (18 : Int).toNat ≠ 0 by decide)
        have h2 := Int.emod_lt_of_pos c (show (0 : Int) < (10 : Int) ^ (18 : Int).toNat by decide)
        have h3 : (10 : Int) ^ (18 : Int).toNat < 2 ^ 200 := by decide
        omega
      · rw [decide_eq_false hbig] at eg
        rw [if_neg (by omega)] at lv
        refine q_when (b := false) eg (fun z => nomatch z) (fun _ H3 e3 => ?_)
        refine fin _ v1 H3 e3 (i2.ex e3) ?_ lv _ rfl
        split at hbig <;> omega

end
end My
end
section
set_option Elab.async false
set_option linter.all false
set_option maxRecDepth 100000
set_option maxHeartbeats 4000000
namespace My
open PySem PySem.Spec PyProof.Rows L2 Evl WD
local macro_rules | `(tactic| walk_at "exgo") => `(tactic| first | exact Ex.refl _ | assumption | (refine' Ex.trans ?ea ?eb; (case eb => assumption); (case ea => walk_at "exgo")))
local macro_rules | `(tactic| walk_at "is") => `(tactic| first | assumption | (refine' Is.ex ?e ?h; (case h => assumption); (case e => walk_at "exgo")) | exact Is.int _ | exact Is.bl _ | exact Is.non)
local macro_rules | `(tactic| walk_at "ev") => `(tactic| first
  | exact ed_int | exact ed_bl | exact ed_non | exact ed_str
  | ((with_reducible apply ed_var) <;> first | exact rfl | walk_at "is")
  | ((with_reducible apply ed_add) <;> walk_at "ev")
  | ((with_reducible apply ed_sub) <;> walk_at "ev")
  | ((with_reducible apply ed_neg) <;> walk_at "ev")
  | ((with_reducible apply ed_mulW) <;> try walk_at "ev")
  | ((with_reducible apply ed_divW) <;> try walk_at "ev")
  | ((with_reducible apply ed_mod) <;> try walk_at "ev")
  | ((with_reducible apply ed_ixT) <;> first | exact rfl | walk_at "ev" | skip)
  | ((with_reducible apply ed_ixL) <;> first | exact rfl | walk_at "ev" | skip)
  | ((with_reducible apply ed_lt) <;> walk_at "ev")
  | ((with_reducible apply ed_le) <;> walk_at "ev")
  | ((with_reducible apply ed_gt) <;> walk_at "ev")
  | ((with_reducible apply ed_ge) <;> walk_at "ev")
  | ((with_reducible apply ed_eqI) <;> walk_at "ev")
  | ((with_reducible apply ed_neI) <;> walk_at "ev")
  | ((with_reducible apply ed_gcd) <;> walk_at "ev")
  | ((with_reducible apply ed_abs) <;> walk_at "ev")
  | ((with_reducible apply ed_intI) <;> walk_at "ev")
  | ((with_reducible apply ed_intB) <;> walk_at "ev")
  | ((with_reducible apply ed_max2) <;> walk_at "ev")
  | ((with_reducible apply ed_min2) <;> walk_at "ev")
  | ((with_reducible apply ed_lenT) <;> walk_at "ev")
  | ((with_reducible apply ed_lenL) <;> walk_at "ev")
  | ((with_reducible apply ed_tuple) <;> walk_at "ev")
  | ((with_reducible apply ed_tupleT) <;> walk_at "ev")
  | ((with_reducible apply ed_tup) <;> first | walk_at "ea" | (simp; done) | skip)
  | ((with_reducible apply et_t) <;> walk_at "ev")
  | ((with_reducible apply et_v) <;> walk_at "ev"))
local macro_rules | `(tactic| walk_at "ea") => `(tactic| first
  | exact ea0
  | ((with_reducible apply ea1) <;> first | walk_at "ev" | walk_at "ea" | skip))

section
variable {P : Program} {w : World} {K : PySem.W.Frag} {mg : Str → Option Value} {base : Heap}
/-- where the draws stand: a list of the script and how many were taken, n at most -/
def Dr (K : PySem.W.Frag) (H : Hp) (d sA : Addr) (sc : List Int) (n : Int) : Prop := ∃ k : Int, 0 ≤ k ∧ k ≤ n ∧ H d = some (.lst [.ref sA, .int k]) ∧ Is K H (.ref sA) (.lst (iL sc)) ∧ sA ≠ d ∧ sc.length ≤ 1000
theorem Is.lst_inv {H : Hp} {p : Addr} {ds : List D} (h : Is K H (.ref p) (.lst ds)) : ∃ xs, Rd H p (.lst xs) ∧ All K H xs ds := by
  cases h with
  | lst h a => exact ⟨_, h, a⟩
theorem Is.mul {H H' : Hp} {L : List Addr} {p : Addr} {ds : List D} (h : Is K H (.ref p) (.lst ds)) (m : Mu L H H') (n : p ∉ L) (l : D.lfs ds = true) : Is K H' (.ref p) (.lst ds) := by
  obtain ⟨xs, r, a⟩ := Is.lst_inv h
  exact .lst (m.rd r n) (a.gt m.2 l)
theorem Dr.mu {H H' : Hp} {L : List Addr} {d sA : Addr} {sc : List Int} {n : Int} (h : Dr K H d sA sc n) (m : Mu L H H') (n1 : d ∉ L) (n2 : sA ∉ L) : Dr K H' d sA sc n := by
  obtain ⟨k, k0, k1, hd, hs, ne, l⟩ := h
  exact ⟨k, k0, k1, m.keep n1 hd, Is.mul hs m n2 (iLlf sc), ne, l⟩
theorem Dr.ex {H H' : Hp} {d sA : Addr} {sc : List Int} {n : Int} (h : Dr K H d sA sc n) (e : Ex H H') : Dr K H' d sA sc n := h.mu (L := []) (Mu.ex e) (fun z => nomatch z) (fun z => nomatch z)
theorem Dr.le {H : Hp} {d sA : Addr} {sc : List Int} {n m : Int} (h : Dr K H d sA sc n) (l : n ≤ m) : Dr K H d sA sc m := by
  obtain ⟨k, k0, k1, h⟩ := h
  exact ⟨k, k0, by omega, h⟩
theorem Dr.some {H : Hp} {d sA : Addr} {sc : List Int} {n : Int} (h : Dr K H d sA sc n) : (∃ o, H d = .some o) ∧ ∃ o, H sA = .some o := by
  obtain ⟨k, k0, k1, hd, hs, ne, l⟩ := h
  obtain ⟨xs, r, a⟩ := Is.lst_inv hs
  exact ⟨⟨_, hd⟩, rd_some r⟩
def sp_take (K : PySem.W.Frag) : Sp := fun vs H Q _ => ∃ d sA sc n many, vs = [.ref d, .int many] ∧ Dr K H d sA sc n ∧ n ≤ 1000 ∧ 0 < many ∧ ∀ (t : Int) H', Mu [d] H H' → Dr K H' d sA sc (n + 1) → 0 ≤ t → t < many → Q (.int t) H'
theorem ok__law_take (T : Txt K mg) : FnG P w K mg base 2 (He.ga K "_law_take") ["draw", "many"] (sp_take K) := by
  refine fnG (N := ["draw", "many"]) (st := s__law_take) T.f__law_take sc__law_take (fun vs H Q E h => ?_) (fun _ _ _ _ _ _ us hl => match us, hl with | [_, _], _ => rfl) (fun cdv A outer s H vs Q E hr h => ⟨_, (pss_cons (ps_augS (pv 0) pe_int get_list pe_int ip_add set_list) (pss_one (ps_ret (pe_op op_mod (pe_callTy call_intS (by rfl) T.z_int (by decide +kernel) (pa_cons (pe_callG (ok__law_number T) (hr.mono (by decide)) (by rfl) T.m__law_number (pa_cons (pe_ix ix_list (pv 0) pe_int (fun _ _ => rfl)) (pa_cons (pe_callTy call_intS (by rfl) T.z_int (by decide +kernel) (pa_cons (pe_ix ix_list (pv 0) pe_int (fun _ _ => rfl)) pa_nil)) pa_nil))) pa_nil)) (pv 1))))), ?_⟩)
  · obtain ⟨d, sA, sc, n, many, rfl, _⟩ := h
    rfl
  · obtain ⟨d, sA, sc, n, many, rfl, ⟨k, k0, k1, hd, hs, ne, l⟩, hn, hm, q⟩ := h
    try dsimp only [cxOf, Cx.nox, Cx.wish]
    refine ⟨_, rfl, d, [.ref sA, .int k], 1, .int k, rfl, rfl, sq_of hd, rfl, k, 1, rfl, rfl, d, [.ref sA, .int k], 1, 1, rfl, rfl, hd, rfl, ?_⟩
    have hd1 : (upd H d (.lst ([V.ref sA, V.int k].set 1 (V.int (k + 1))))) d = some (.lst [.ref sA, .int (k + 1)]) := upd_same
    have m1 : Mu [d] H (upd H d (.lst ([V.ref sA, V.int k].set 1 (V.int (k + 1))))) := Mu.upd (List.mem_singleton.mpr rfl) hd
    have hs1 : Is K (upd H d (.lst ([V.ref sA, V.int k].set 1 (V.int (k + 1))))) (.ref sA) (.lst (iL sc)) := Is.mul hs m1 (by simpa using ne) (iLlf sc)
    revert hd1 m1 hs1
    generalize (upd H d (.lst ([V.ref sA, V.int k].set 1 (V.int (k + 1))))) = J
    intro hd1 m1 hs1
    have id1 : Is K J (.ref d) (.lst [.lst (iL sc), .int (k + 1)]) := .lst (.inl hd1) (.cons hs1 (.cons (.int _) .nil))
    refine s_retD (K := K) (d := .int (lawNum sc (k + 1) % many)) (ed_mod (ed_intI (ed_call (R := R_law_number) (d := .int (lawNum sc (k + 1))) (ea1 (ed_ixL (ed_var rfl id1) ed_int rfl) (ea1 (ed_intI (ed_ixL (ed_var rfl id1) ed_int rfl)) ea0)) ⟨sc, k + 1, rfl, by omega, by omega, l, rfl⟩)) (ed_var rfl (.int _)) hm) fun v H2 e2 i2 => ?_
    cases i2
    exact q _ _ (m1.trans (Mu.ex e2)) ⟨k + 1, by omega, by omega, e2 _ _ hd1, hs1.ex e2, ne, l⟩ (Int.emod_nonneg _ (by omega)) (Int.emod_lt_of_pos _ hm)
theorem em_take {E : XK} {Q : VK} {σ : L2.St} {H : Hp} {d sA : Addr} {sc : List Int} {n many : Int} {td tm : TE} (h : Dr K H d sA sc n) (hn : n ≤ 1000) (hm : 0 < many) (ed : Ev td σ H (.ref d)) (em : EvD K tm σ H (.int many))
    (k : ∀ (t : Int) H', Mu [d] H H' → Dr K H' d sA sc (n + 1) → 0 ≤ t → t < many → Q (.int t) H') : tCall (sp_take K) [] E (tCons td (tCons tm tNil)) σ H Q :=
  ed H (Ex.refl H) _ fun H1 e1 => em H1 e1 _ fun v H2 e2 i2 => by
    cases i2
    exact ⟨d, sA, sc, n, many, rfl, h.ex (e1.trans e2), hn, hm, fun t H' m l a b => k t H' ((Mu.ex (e1.trans e2)).trans m) l a b⟩
def sp_pick (K : PySem.W.Frag) : Sp := fun vs H Q _ => ∃ d sA sc n p ds, vs = [.ref d, .ref p] ∧ Dr K H d sA sc n ∧ n ≤ 1000 ∧ Is K H (.ref p) (.lst ds) ∧ p ≠ d ∧ ds ≠ [] ∧ D.lfs ds = true ∧ ∀ v H' e, Mu [d] H H' → Dr K H' d sA sc (n + 1) → e ∈ ds → Is K H' v e → Q v H'
theorem ok__law_pick (T : Txt K mg) : FnG P w K mg base 3 (He.ga K "_law_pick") ["draw", "items"] (sp_pick K) := by
  refine fnG (N := ["draw", "items"]) (st := s__law_pick) T.f__law_pick sc__law_pick (fun vs H Q E h => ?_) (fun _ _ _ _ _ _ us hl => match us, hl with | [_, _], _ => rfl) (fun cdv A outer s H vs Q E hr h => ⟨_, (pss_one (ps_ret (pe_ix ix_list (pv 1) (pe_callG (ok__law_take T) (hr.mono (by decide)) (by rfl) T.m__law_take (pa_cons (pv 0) (pa_cons (pe_callB call_lenS (by rfl) T.z_len PySem.boot_len (pa_cons (pv 1) pa_nil)) pa_nil))) (fun _ _ => rfl)))), ?_⟩)
  · obtain ⟨d, sA, sc, n, p, ds, rfl, _⟩ := h
    rfl
  · obtain ⟨d, sA, sc, n, p, ds, rfl, h, hn, hp, ne, n0, lf, q⟩ := h
    try dsimp only [cxOf, Cx.nox, Cx.wish]
    have hl : 0 < ds.length := List.length_pos_iff.mpr n0
    refine ⟨_, rfl, ?_⟩
    refine em_take h hn (many := (ds.length : Int)) (by omega) (ev_ref rfl) (ed_lenL (ed_var rfl hp)) fun t H' m l t0 t1 => ?_
    obtain ⟨xs, r, a⟩ := Is.lst_inv (Is.mul hp m (by simpa using ne) lf)
    obtain ⟨j, rfl⟩ : ∃ j : Nat, t = (j : Int) := ⟨t.toNat, by omega⟩
    have jd : j < ds.length := by omega
    have jx : j < xs.length := by
      rw [a.len]
      exact jd
    refine ⟨p, xs, (j : Int), xs[j], rfl, rfl, .inl r, atI_nat jx, q xs[j] H' ds[j] m l (List.getElem_mem jd) ?_⟩
    obtain ⟨v, hv, iv⟩ := All.get a (List.getElem?_eq_getElem jd)
    rw [List.getElem?_eq_getElem jx] at hv
    cases hv
    exact iv
theorem em_pick {E : XK} {Q : VK} {σ : L2.St} {H : Hp} {d sA p : Addr} {sc : List Int} {n : Int} {ds : List D} {td tm : TE} (h : Dr K H d sA sc n) (hn : n ≤ 1000) (hp : Is K H (.ref p) (.lst ds)) (ne : p ≠ d) (n0 : ds ≠ []) (lf : D.lfs ds = true) (ed : Ev td σ H (.ref d)) (em : Ev tm σ H (.ref p))
    (k : ∀ v H' e, Mu [d] H H' → Dr K H' d sA sc (n + 1) → e ∈ ds → Is K H' v e → Q v H') : tCall (sp_pick K) [] E (tCons td (tCons tm tNil)) σ H Q :=
  ed H (Ex.refl H) _ fun H1 e1 => em H1 e1 _ fun H2 e2 => ⟨d, sA, sc, n, p, ds, rfl, h.ex (e1.trans e2), hn, hp.ex (e1.trans e2), ne, n0, lf, fun v H' e m l a b => k v H' e ((Mu.ex (e1.trans e2)).trans m) l a b⟩
/-- the same for a list made on the spot -/
theorem em_pickN {E : XK} {Q : VK} {σ : L2.St} {H : Hp} {d sA : Addr} {sc : List Int} {n : Int} {ds : List D} {td tm : TE} (h : Dr K H d sA sc n) (hn : n ≤ 1000) (n0 : ds ≠ []) (lf : D.lfs ds = true) (ed : Ev td σ H (.ref d)) (em : EvN K tm σ H ds)
    (k : ∀ v H' e, Mu [d] H H' → Dr K H' d sA sc (n + 1) → e ∈ ds → Is K H' v e → Q v H') : tCall (sp_pick K) [] E (tCons td (tCons tm tNil)) σ H Q :=
  ed H (Ex.refl H) _ fun H1 e1 => em H1 e1 _ fun p xs H2 hp e2 hx a => by
    have h2 := h.ex (e1.trans e2)
    refine ⟨d, sA, sc, n, p, ds, rfl, h2, hn, .lst (.inl hx) a, fun z => ?_, n0, lf, fun v H' e m l a b => k v H' e ((Mu.ex (e1.trans e2)).trans m) l a b⟩
    obtain ⟨⟨o, ho⟩, _⟩ := (h.ex e1).some
    rw [z, ho] at hp
    cases hp

end
end My
end
section
set_option Elab.async false
set_option linter.all false
set_option maxRecDepth 100000
set_option maxHeartbeats 4000000
namespace My
open PySem PySem.Spec PyProof.Rows L2 Evl WD
local macro_rules | `(tactic| walk_at "exgo") => `(tactic| first | exact Ex.refl _ | assumption | (refine' Ex.trans ?ea ?eb; (case eb => assumption); (case ea => walk_at "exgo")))
local macro_rules | `(tactic| walk_at "is") => `(tactic| first | assumption | (refine' Is.ex ?e ?h; (case h => assumption); (case e => walk_at "exgo")) | exact Is.int _ | exact Is.bl _ | exact Is.non)
local macro_rules | `(tactic| walk_at "ev") => `(tactic| first
  | exact ed_int | exact ed_bl | exact ed_non | exact ed_str
  | ((with_reducible apply ed_var) <;> first | exact rfl | walk_at "is")
  | ((with_reducible apply ed_add) <;> walk_at "ev")
  | ((with_reducible apply ed_sub) <;> walk_at "ev")
  | ((with_reducible apply ed_neg) <;> walk_at "ev")
  | ((with_reducible apply ed_mulW) <;> try walk_at "ev")
  | ((with_reducible apply ed_divW) <;> try walk_at "ev")
  | ((with_reducible apply ed_mod) <;> try walk_at "ev")
  | ((with_reducible apply ed_ixT) <;> first | exact rfl | walk_at "ev" | skip)
  | ((with_reducible apply ed_ixL) <;> first | exact rfl | walk_at "ev" | skip)
  | ((with_reducible apply ed_lt) <;> walk_at "ev")
  | ((with_reducible apply ed_le) <;> walk_at "ev")
  | ((with_reducible apply ed_gt) <;> walk_at "ev")
  | ((with_reducible apply ed_ge) <;> walk_at "ev")
  | ((with_reducible apply ed_eqI) <;> walk_at "ev")
  | ((with_reducible apply ed_neI) <;> walk_at "ev")
  | ((with_reducible apply ed_gcd) <;> walk_at "ev")
  | ((with_reducible apply ed_abs) <;> walk_at "ev")
  | ((with_reducible apply ed_intI) <;> walk_at "ev")
  | ((with_reducible apply ed_intB) <;> walk_at "ev")
  | ((with_reducible apply ed_max2) <;> walk_at "ev")
  | ((with_reducible apply ed_min2) <;> walk_at "ev")
  | ((with_reducible apply ed_lenT) <;> walk_at "ev")
  | ((with_reducible apply ed_lenL) <;> walk_at "ev")
  | ((with_reducible apply ed_tuple) <;> walk_at "ev")
  | ((with_reducible apply ed_tupleT) <;> walk_at "ev")
  | ((with_reducible apply ed_tup) <;> first | walk_at "ea" | (simp; done) | skip)
  | ((with_reducible apply et_t) <;> walk_at "ev")
  | ((with_reducible apply et_v) <;> walk_at "ev"))
local macro_rules | `(tactic| walk_at "ea") => `(tactic| first
  | exact ea0
  | ((with_reducible apply ea1) <;> first | walk_at "ev" | walk_at "ea" | skip))

section
variable {P : Program} {w : World} {K : PySem.W.Frag} {mg : Str → Option Value} {base : Heap}
/-- what a row's volumes are drawn from -/
def tvs : List Tv := [.i 0, .i 0, .i 1, .i 2, .i 3, .i 5, .i 8, .p 1 2, .p 7 3]
theorem tvs_ok {t : Tv} (h : t ∈ tvs) : t.ok ∧ 0 ≤ t.q ∧ t.q.den ∣ 6 ∧ t.q ≤ 8 := by
  have b : (1 : Nat) < 2 ^ 3999 := Nat.one_lt_two_pow (by decide)
  have c : (16 : Nat) ≤ 2 ^ 3999 := by
    rw [show (16 : Nat) = 2 ^ 4 from rfl]
    exact Nat.pow_le_pow_right (by decide) (by decide)
  simp only [tvs, List.mem_cons, List.mem_nil_iff, or_false] at h
  rcases h with rfl | rfl | rfl | rfl | rfl | rfl | rfl | rfl | rfl
  all_goals refine ⟨?_, by decide +kernel, by decide +kernel, by decide +kernel⟩
  all_goals simp only [Tv.ok] <;> omega
def sp_drawn (K : PySem.W.Frag) : Sp := fun vs H Q _ => ∃ d sA sc n most, vs = [.ref d, .int most] ∧ Dr K H d sA sc n ∧ n ≤ 500 ∧ 0 < most ∧ most ≤ 20 ∧
  ∀ (A L : List Int) (ts : List Tv) va vv p t H', H p = none → Mu [d] H H' → Dr K H' d sA sc (n + 100) → 1 ≤ A.length → (A.length : Int) ≤ most → (∀ a ∈ A, 1 ≤ a ∧ a ≤ 4) → ts.length = A.length → (∀ t ∈ ts, t ∈ tvs) → (∀ l ∈ L, 0 < l ∧ l < (A.length : Int)) → L.length ≤ A.length →
    Is K H' va (.tup (iL A)) → Is K H' vv (.tup (ts.map Tv.d)) → Is K H' (.ref p) (.lst (iL L)) → SqT K H' t [va, vv, .ref p] → Q (.ref t) H'
theorem frD {H : Hp} {d sA D : Addr} {sc : List Int} {n : Int} (h : Dr K H d sA sc n) (hD : H D = none) : d ∉ [D] ∧ sA ∉ [D] := by
  obtain ⟨⟨o, ho⟩, ⟨u, hu⟩⟩ := h.some
  exact ⟨fun z => by (rw [List.mem_singleton.mp z, hD] at ho; cases ho), fun z => by (rw [List.mem_singleton.mp z, hD] at hu; cases hu)⟩
theorem q_asgM {te : TE} {tz : TS} {En : Ends} {σ : L2.St} {H : Hp} {i : Nat} (h : te σ H fun v H1 => tz En (σ.set i (some v)) H1) : tSeq (tAsg te (gName i)) tz En σ H := h
theorem em_tup1 {te : TE} {Q : VK} {σ : L2.St} {H : Hp} (h : te σ H fun v H1 => rTupS K [v] H1 Q) : tCB (rTupS K) (tCons te tNil) σ H Q := h
theorem ok__law_drawn (T : Txt K mg) : FnG P w K mg base 5 (He.ga K "_law_drawn") ["draw", "most"] (sp_drawn K) := by
  refine fnG (N := ["draw", "most", "many", "even", "areas", "volumes", "locks", "basin", "weir"]) (st := s__law_drawn) T.f__law_drawn sc__law_drawn (fun vs H Q E h => ?_) (fun _ _ _ _ _ _ us hl => match us, hl with | [_, _], _ => rfl) (fun cdv A outer s H vs Q E hr h => ⟨_, (pss_cons (ps_asg (pe_op op_add pe_int (pe_callG (ok__law_take T) (hr.mono (by decide)) (by rfl) T.m__law_take (pa_cons (pv 0) (pa_cons (pv 1) pa_nil)))) (pg_name (i := 2) sc__law_drawn.nd rfl (.inl rfl))) (pss_cons (ps_asg (pe_cmpR op_eq (pe_callG (ok__law_take T) (hr.mono (by decide)) (by rfl) T.m__law_take (pa_cons (pv 0) (pa_cons pe_int pa_nil))) pe_int (nomark _)) (pg_name (i := 3) sc__law_drawn.nd rfl (.inr rfl))) (pss_cons (ps_asg (pe_callTy call_tupS (by rfl) T.z_tuple (by decide +kernel) (pa_cons (pe_lc (own := [("basin", 7)]) rfl sc__law_drawn.nd (pi_range1 (by rfl) T.z_range (pa_cons (pv 2) pa_nil)) (blkOk_by (own := [("basin", 7)]) (N := ["draw", "most", "many", "even", "areas", "volumes", "locks", "basin", "weir"]) (sc := defScope s__law_drawn) (by decide +kernel)) (fun _ _ _ _ _ => (pg_name (i := 7) sc__law_drawn.nd rfl (.inl rfl))) (fun _ _ _ _ _ => pts_nil) (fun _ _ _ _ _ => (pe_ifExp (pt_val (pv 3)) pe_int (pe_op op_add pe_int (pe_callG (ok__law_take T) (hr.mono (by decide)) (by rfl) T.m__law_take (pa_cons (pv 0) (pa_cons pe_int pa_nil))))))) pa_nil)) (pg_name (i := 4) sc__law_drawn.nd rfl (.inl rfl))) (pss_cons (ps_asg (pe_callTy call_tupS (by rfl) T.z_tuple (by decide +kernel) (pa_cons (pe_lc (own := [("basin", 7)]) rfl sc__law_drawn.nd (pi_range1 (by rfl) T.z_range (pa_cons (pv 2) pa_nil)) (blkOk_by (own := [("basin", 7)]) (N := ["draw", "most", "many", "even", "areas", "volumes", "locks", "basin", "weir"]) (sc := defScope s__law_drawn) (by decide +kernel)) (fun _ _ _ _ _ => (pg_name (i := 7) sc__law_drawn.nd rfl (.inl rfl))) (fun _ _ _ _ _ => pts_nil) (fun _ _ _ _ _ => (pe_callG (ok__law_pick T) (hr.mono (by decide)) (by rfl) T.m__law_pick (pa_cons (pv 0) (pa_cons (pe_lst (pa_cons pe_int (pa_cons pe_int (pa_cons pe_int (pa_cons pe_int (pa_cons pe_int (pa_cons pe_int (pa_cons pe_int (pa_cons (pe_tup (pa_cons pe_int (pa_cons pe_int pa_nil))) (pa_cons (pe_tup (pa_cons pe_int (pa_cons pe_int pa_nil))) pa_nil)))))))))) pa_nil))))) pa_nil)) (pg_name (i := 5) sc__law_drawn.nd rfl (.inl rfl))) (pss_cons (ps_setLc (i := 6) (own := [("weir", 8)]) rfl sc__law_drawn.nd rfl rfl (sw_true rfl rfl rfl (by decide +kernel)) (pi_range2 (by rfl) T.z_range (pa_cons pe_int (pa_cons (pv 2) pa_nil))) (blkOk_by (own := [("weir", 8)]) (N := ["draw", "most", "many", "even", "areas", "volumes", "locks", "basin", "weir"]) (sc := defScope s__law_drawn) (by decide +kernel)) (fun _ _ _ _ _ => (pg_name (i := 8) sc__law_drawn.nd rfl (.inl rfl))) (fun _ _ _ _ _ => (pts_one (pt_cmpR op_eq (pe_callG (ok__law_take T) (hr.mono (by decide)) (by rfl) T.m__law_take (pa_cons (pv 0) (pa_cons pe_int pa_nil))) pe_int (nomark _)))) (fun _ _ _ _ _ => (pv 8))) (pss_one (ps_ret (pe_tup (pa_cons (pv 4) (pa_cons (pv 5) (pa_cons (pv 6) pa_nil))))))))))), ?_⟩)
  · obtain ⟨d, sA, sc, n, most, rfl, _⟩ := h
    rfl
  · obtain ⟨d, sA, sc, n, most, rfl, h, hn, m0, m1, q⟩ := h
    try dsimp only [cxOf, Cx.nox, Cx.wish]
    have hdL : ∀ {H : Hp} {n : Int}, Dr K H d sA sc n → ∀ l ∈ [d], ∃ o, H l = some o := fun h l hl => by
      rw [List.mem_singleton.mp hl]
      exact h.some.1
    -- many
    refine em_take h (by omega) m0 (ev_ref rfl) (ed_var rfl (.int _)) fun t1 H1 mu1 h1 t10 t11 => ?_
    refine ⟨1, t1, rfl, rfl, ?_⟩
    obtain ⟨m, hm⟩ : ∃ m : Nat, 1 + t1 = (m : Int) := ⟨(1 + t1).toNat, by omega⟩
    dsimp only
    rw [hm]
    have hm1 : 1 ≤ m := by omega
    have hm2 : (m : Int) ≤ most := by omega
    -- even
    refine em_take h1 (by omega) (many := 2) (by decide) (ev_ref rfl) ed_int fun t2 H2 mu2 h2 t20 t21 => ?_
    refine ⟨rfl, ?_⟩
    generalize decide (V.int t2 = V.int 0) = b
    -- areas
    refine g_name ?_
    dsimp only
    refine q_asgM (em_tup1 (K := K) ?_)
    refine en_lcP (K := K) (L := [d]) (n := m) (item := fun i => .int (i : Int)) (fun i ds H' => Dr K H' d sA sc (n + 2 + (i : Int)) ∧ ∃ A : List Int, ds = iL A ∧ A.length = i ∧ ∀ a ∈ A, 1 ≤ a ∧ a ≤ 4) (by exact EvI.is (ei_r1 (n := (m : Int)) (ea1 (ed_var rfl (.int _)) ea0) (by omega)) (by omega)) (hdL h2) (by omega) (fun i ds D Ha Hb hD ⟨ha, hb⟩ mu => ⟨ha.mu mu (frD h2 hD).1 (frD h2 hD).2, hb⟩) ⟨h2.le (by omega), [], rfl, rfl, fun a ha => nomatch ha⟩ ?_ ?_
    · rintro i ds x H3 hi ⟨h3, A, rfl, hA, hAb⟩ mu3 ax Y N hY hN
      refine ⟨rfl, _, rfl, b, rfl, ?_⟩
      cases b with
      | true =>
        refine hY _ _ (.int 1) rfl (.int 1) ⟨h3.le (by omega), A ++ [1], by unfold iL; rw [List.map_append]; rfl, by rw [List.length_append, hA]; rfl, fun a ha => ?_⟩ (Mu.refl _ _)
        rcases List.mem_append.mp ha with ha | ha
        · exact hAb a ha
        · rw [List.mem_singleton.mp ha]
          decide
      | false =>
        refine em_take h3 (by omega) (many := 4) (by decide) (ev_ref rfl) ed_int fun t4 H4 mu4 h4 t40 t41 => ?_
        refine ⟨1, t4, rfl, rfl, ?_⟩
        refine hY _ _ (.int (1 + t4)) rfl (.int _) ⟨h4.le (by omega), A ++ [1 + t4], by unfold iL; rw [List.map_append]; rfl, by rw [List.length_append, hA]; rfl, fun a ha => ?_⟩ mu4
        rcases List.mem_append.mp ha with ha | ha
        · exact hAb a ha
        · rw [List.mem_singleton.mp ha]
          omega
    rintro pa xa ds H3 hpa mu3 ⟨h3, A, rfl, hA, hAb⟩ hxa aa
    refine ⟨pa, xa, rfl, .inl ⟨sq_of hxa, fun la hla => ?_⟩⟩
    have e3 : Ex H3 (upd H3 la (.tup xa)) := Ex.new hla
    have va : Is K (upd H3 la (.tup xa)) (.ref la) (.tup (iL A)) := .tup (st_of upd_same) (aa.ex e3)
    have h3' := h3.ex e3
    have mu3' := (((mu1.trans mu2).trans mu3).trans (Mu.ex e3))
    revert va h3' mu3'
    generalize (upd H3 la (.tup xa)) = H4
    intro va h4 mu4
    -- volumes
    dsimp only
    refine q_asgM (em_tup1 (K := K) ?_)
    refine en_lcP (K := K) (L := [d]) (n := m) (item := fun i => .int (i : Int)) (fun i ds H' => Dr K H' d sA sc (n + 2 + (m : Int) + (i : Int)) ∧ ∃ ts : List Tv, ds = ts.map Tv.d ∧ ts.length = i ∧ ∀ t ∈ ts, t ∈ tvs) (by exact EvI.is (ei_r1 (n := (m : Int)) (ea1 (ed_var rfl (.int _)) ea0) (by omega)) (by omega)) (hdL h4) (by omega) (fun i ds D Ha Hb hD ⟨ha, hb⟩ mu => ⟨ha.mu mu (frD h4 hD).1 (frD h4 hD).2, hb⟩) ⟨h4.le (by omega), [], rfl, rfl, fun a ha => nomatch ha⟩ ?_ ?_
    · rintro i ds x H5 hi ⟨h5, ts, rfl, hts, htb⟩ mu5 ax Y N hY hN
      refine ⟨rfl, ?_⟩
      refine em_pickN (K := K) (ds := tvs.map Tv.d) h5 (by omega) (by decide) rfl (ev_ref rfl) (en_lst (ea1 ed_int (ea1 ed_int (ea1 ed_int (ea1 ed_int (ea1 ed_int (ea1 ed_int (ea1 ed_int (ea1 (ed_tup (ea1 ed_int (ea1 ed_int ea0)) (by show 2 ≤ 100000; decide)) (ea1 (ed_tup (ea1 ed_int (ea1 ed_int ea0)) (by show 2 ≤ 100000; decide)) ea0))))))))) (by show 9 ≤ 100000; decide)) fun v H6 e mu6 h6 he av => ?_
      obtain ⟨tv, htv, rfl⟩ := List.mem_map.mp he
      refine hY _ _ _ tv.lf av ⟨h6.le (by omega), ts ++ [tv], by rw [List.map_append]; rfl, by rw [List.length_append, hts]; rfl, fun t ht => ?_⟩ mu6
      rcases List.mem_append.mp ht with ht | ht
      · exact htb t ht
      · rw [List.mem_singleton.mp ht]
        exact htv
    rintro pv xv ds H5 hpv mu5 ⟨h5, ts, rfl, hts, htb⟩ hxv av
    refine ⟨pv, xv, rfl, .inl ⟨sq_of hxv, fun lv hlv => ?_⟩⟩
    have e5 : Ex H5 (upd H5 lv (.tup xv)) := Ex.new hlv
    have vv : Is K (upd H5 lv (.tup xv)) (.ref lv) (.tup (ts.map Tv.d)) := .tup (st_of upd_same) (av.ex e5)
    have h5' := h5.ex e5
    have mu5' := mu5.trans (Mu.ex e5)
    revert vv h5' mu5'
    generalize (upd H5 lv (.tup xv)) = H6
    intro vv h6 mu6
    have va6 := va.gt mu6.2 (iLlf A)
    have mu06 := mu4.trans mu6
    -- locks
    dsimp only
    refine q_asgM ?_
    refine en_lcP (K := K) (L := [d]) (n := ((m : Int) - 1).toNat) (item := fun i => .int (1 + (i : Int))) (fun i ds H' => Dr K H' d sA sc (n + 2 + (m : Int) + (m : Int) + (i : Int)) ∧ ∃ L : List Int, ds = iL L ∧ L.length ≤ i ∧ ∀ l ∈ L, 0 < l ∧ l < (m : Int)) (by exact ei_r2 (lo := 1) (n := (m : Int)) (ea1 ed_int (ea1 (ed_var rfl (.int _)) ea0)) (by omega)) (hdL h6) (by omega) (fun i ds D Ha Hb hD ⟨ha, hb⟩ mu => ⟨ha.mu mu (frD h6 hD).1 (frD h6 hD).2, hb⟩) ⟨h6.le (by omega), [], rfl, Nat.le_refl _, fun a ha => nomatch ha⟩ ?_ ?_
    · rintro i ds x H7 hi ⟨h7, L, rfl, hL, hLb⟩ mu7 ax Y N hY hN
      cases ax
      refine ⟨rfl, ?_⟩
      refine em_take h7 (by omega) (many := 7) (by decide) (ev_ref rfl) ed_int fun t8 H8 mu8 h8 t80 t81 => ?_
      refine ⟨rfl, _, rfl, ?_⟩
      cases decide (V.int t8 = V.int 0) with
      | true =>
        refine ⟨_, rfl, hY _ _ (.int (1 + (i : Int))) rfl (.int _) ⟨h8.le (by omega), L ++ [1 + (i : Int)], by unfold iL; rw [List.map_append]; rfl, by rw [List.length_append]; show L.length + 1 ≤ i + 1; omega, fun l hl => ?_⟩ mu8⟩
        rcases List.mem_append.mp hl with hl | hl
        · exact hLb l hl
        · rw [List.mem_singleton.mp hl]
          omega
      | false => exact hN _ ⟨h8.le (by omega), L, rfl, by omega, hLb⟩ mu8
    rintro pl xl ds H7 hpl mu7 ⟨h7, L, rfl, hL, hLb⟩ hxl al
    have va7 := va6.gt mu7.2 (iLlf A)
    have vv7 := vv.gt mu7.2 (lfs_map _ Tv.lf ts)
    refine ⟨_, rfl, _, rfl, _, rfl, sz_lt (by simp), fun t ht => ?_⟩
    have e7 : Ex H7 (upd H7 t (.tup [.ref la, .ref lv, .ref pl])) := Ex.new ht
    refine q A L ts _ _ pl t _ ?_ ((mu06.trans mu7).trans (Mu.ex e7)) ((h7.ex e7).le (by omega)) (by omega) (by omega) hAb (by omega) htb (fun l hl => by rw [hA]; exact hLb l hl) (by omega) (va7.ex e7) (vv7.ex e7) (.lst (.inl (e7 _ _ hxl)) (al.ex e7)) (st_of upd_same)
    cases hH : H pl with
    | none => rfl
    | some o =>
      exfalso
      by_cases z : pl = d
      · obtain ⟨⟨u, hu⟩, _⟩ := h6.some
        rw [z, hu] at hpl
        cases hpl
      · rw [mu06.keep (by simpa using z) hH] at hpl
        cases hpl

end
end My
end
section
set_option Elab.async false
set_option linter.all false
set_option maxRecDepth 100000
set_option maxHeartbeats 4000000
namespace My
open PySem PySem.Spec PyProof.Rows L2 Evl WD
local macro_rules | `(tactic| walk_at "exgo") => `(tactic| first | exact Ex.refl _ | assumption | (refine' Ex.trans ?ea ?eb; (case eb => assumption); (case ea => walk_at "exgo")))
local macro_rules | `(tactic| walk_at "is") => `(tactic| first | assumption | (refine' Is.ex ?e ?h; (case h => assumption); (case e => walk_at "exgo")) | exact Is.int _ | exact Is.bl _ | exact Is.non)
local macro_rules | `(tactic| walk_at "ev") => `(tactic| first
  | exact ed_int | exact ed_bl | exact ed_non | exact ed_str
  | ((with_reducible apply ed_var) <;> first | exact rfl | walk_at "is")
  | ((with_reducible apply ed_add) <;> walk_at "ev")
  | ((with_reducible apply ed_sub) <;> walk_at "ev")
  | ((with_reducible apply ed_neg) <;> walk_at "ev")
  | ((with_reducible apply ed_mulW) <;> try walk_at "ev")
  | ((with_reducible apply ed_divW) <;> try walk_at "ev")
  | ((with_reducible apply ed_mod) <;> try walk_at "ev")
  | ((with_reducible apply ed_ixT) <;> first | exact rfl | walk_at "ev" | skip)
  | ((with_reducible apply ed_ixL) <;> first | exact rfl | walk_at "ev" | skip)
  | ((with_reducible apply ed_lt) <;> walk_at "ev")
  | ((with_reducible apply ed_le) <;> walk_at "ev")
  | ((with_reducible apply ed_gt) <;> walk_at "ev")
  | ((with_reducible apply ed_ge) <;> walk_at "ev")
  | ((with_reducible apply ed_eqI) <;> walk_at "ev")
  | ((with_reducible apply ed_neI) <;> walk_at "ev")
  | ((with_reducible apply ed_gcd) <;> walk_at "ev")
  | ((with_reducible apply ed_abs) <;> walk_at "ev")
  | ((with_reducible apply ed_intI) <;> walk_at "ev")
  | ((with_reducible apply ed_intB) <;> walk_at "ev")
  | ((with_reducible apply ed_max2) <;> walk_at "ev")
  | ((with_reducible apply ed_min2) <;> walk_at "ev")
  | ((with_reducible apply ed_lenT) <;> walk_at "ev")
  | ((with_reducible apply ed_lenL) <;> walk_at "ev")
  | ((with_reducible apply ed_tuple) <;> walk_at "ev")
  | ((with_reducible apply ed_tupleT) <;> walk_at "ev")
  | ((with_reducible apply ed_tup) <;> first | walk_at "ea" | (simp; done) | skip)
  | ((with_reducible apply et_t) <;> walk_at "ev")
  | ((with_reducible apply et_v) <;> walk_at "ev"))
local macro_rules | `(tactic| walk_at "ea") => `(tactic| first
  | exact ea0
  | ((with_reducible apply ea1) <;> first | walk_at "ev" | walk_at "ea" | skip))

section
variable {P : Program} {w : World} {K : PySem.W.Frag} {mg : Str → Option Value} {base : Heap}
theorem mul_mk2 (p : Rat) (a : Int) {n : Nat} (hn : n ≠ 0) : mkRat (p.num * a) (p.den * n) = p * mkRat a n := by
  conv => rhs; rw [← Rat.mkRat_self p]
  rw [Rat.mkRat_mul_mkRat]
def R_timesR (ds : List D) (d : D) : Prop := ∃ (p : Rat) (a : Int) (n : Nat), ds = [fr p, .tup [.int a, .int (n : Int)]] ∧ Sm 4000 p ∧ a.natAbs < 2 ^ 4000 ∧ 0 < n ∧ n < 2 ^ 4000 ∧ d = fr (p * mkRat a n)
theorem ok__law_times_R (T : Txt K mg) : FnG P w K mg base 3 (He.ga K "_law_times") ["one", "other"] (spD K R_timesR) := by
  refine fnG (N := ["one", "other"]) (st := s__law_times) T.f__law_times sc__law_times (fun vs H Q E h => ?_) (fun _ _ _ _ _ _ us hl => match us, hl with | [_, _], _ => rfl) (fun cdv A outer s H vs Q E hr h => ⟨_, (pss_one (ps_ret (pe_callG (ok__law_part T) (hr.mono (by decide)) (by rfl) T.m__law_part (pa_cons (pe_op op_mulW (pe_ix ix_tup (pv 0) pe_int (fun _ _ => rfl)) (pe_ix ix_tup (pv 1) pe_int (fun _ _ => rfl))) (pa_cons (pe_op op_mulW (pe_ix ix_tup (pv 0) pe_int (fun _ _ => rfl)) (pe_ix ix_tup (pv 1) pe_int (fun _ _ => rfl))) pa_nil))))), ?_⟩)
  · obtain ⟨ds, d, a, ⟨p, r, n, rfl, _⟩, _⟩ := h
    exact a.len
  · obtain ⟨ds, d, a, ⟨p, r, n, rfl, sp, sr, n0, n1, rfl⟩, q⟩ := h
    obtain ⟨v, v', rfl, a1, a2⟩ := All.inv2 a
    unfold fr at a1
    try dsimp only [cxOf, Cx.nox, Cx.wish]
    refine s_retD (K := K) (d := fr (p * mkRat r n)) ?_ fun v2 H2 x2 i2 => q _ _ x2 i2
    refine ed_call (ds := [.int (p.num * r), .int ((p.den * n : Nat) : Int)]) (ea1 ?_ (ea1 ?_ ea0)) ⟨_, p.den * n, rfl, Nat.mul_pos p.den_pos n0, ?_, by rw [mul_mk2 p r (by omega)]⟩
    · walk_at "ev"
      exact mulW (a := 4000) (b := 4000) sp.num sr
    · rw [Int.natCast_mul]
      walk_at "ev"
      exact mulW (a := 4000) (b := 4000) sp.den n1
    · exact Nat.lt_of_lt_of_le (Nat.mul_lt_mul'' sp.den n1) (by rw [← Nat.pow_add]; exact Nat.pow_le_pow_right (by decide) (by decide))
def Tv.red : Tv → Prop
  | .i _ => True
  | .p n b => fr (mkRat n b) = .tup [.int n, .int (b : Int)]
theorem tvs_red {t : Tv} (h : t ∈ tvs) : t.red := by
  simp only [tvs, List.mem_cons, List.mem_nil_iff, or_false] at h
  rcases h with rfl | rfl | rfl | rfl | rfl | rfl | rfl | rfl | rfl
  all_goals first | exact trivial | (show fr (mkRat _ _) = _; unfold fr; rfl)
def R_parts_of (ds : List D) (d : D) : Prop := ∃ ts : List Tv, ds = [.tup (ts.map Tv.d)] ∧ (∀ t ∈ ts, t.red) ∧ ts.length ≤ 100 ∧ d = .tup (frs (ts.map Tv.q))
theorem ok__law_parts_of (T : Txt K mg) : FnG P w K mg base 1 (He.ga K "_law_parts_of") ["volumes"] (spD K R_parts_of) := by
  refine fnG (N := ["volumes", "volume"]) (st := s__law_parts_of) T.f__law_parts_of sc__law_parts_of (fun vs H Q E h => ?_) (fun _ _ _ _ _ _ us hl => match us, hl with | [_], _ => rfl) (fun cdv A outer s H vs Q E hr h => ⟨_, (pss_one (ps_ret (pe_callTy call_tupS (by rfl) T.z_tuple (by decide +kernel) (pa_cons (pe_lc (own := [("volume", 1)]) rfl sc__law_parts_of.nd (pi_tup (pv 0)) (blkOk_by (own := [("volume", 1)]) (N := ["volumes", "volume"]) (sc := defScope s__law_parts_of) (by decide +kernel)) (fun _ _ _ _ _ => (pg_name (i := 1) sc__law_parts_of.nd rfl (.inl rfl))) (fun _ _ _ _ _ => pts_nil) (fun _ _ _ _ _ => (pe_ifExp (pt_val (pe_callB (isiK (K := K) rfl) (by rfl) T.z_isinstance (by decide +kernel) (pa_cons (pv 1) (pa_cons (pe_tyN (n := "tuple") (by rfl) T.z_tuple (by decide +kernel)) pa_nil)))) (pv 1) (pe_tup (pa_cons (pv 1) (pa_cons pe_int pa_nil)))))) pa_nil)))), ?_⟩)
  · obtain ⟨ds, d, a, ⟨ts, rfl, _⟩, _⟩ := h
    exact a.len
  · obtain ⟨ds, d, a, ⟨ts, rfl, red, hl, rfl⟩, q⟩ := h
    obtain ⟨u, rfl, a1⟩ := All.inv1 a
    try dsimp only [cxOf, Cx.nox, Cx.wish]
    refine s_retD (K := K) (d := .tup (WD.frs (ts.map Tv.q))) (ed_tuple (EvN.is (en_lc1 (n := (ts.map Tv.d).length) (item := fun i => (ts.map Tv.d).getD i .non) (fun _ => true) (fun i => ((ts.map Tv.q).map fr).getD i .non) (fun H2 e2 => ei_tup (ed_var rfl (a1.ex e2)) (lfs_map _ Tv.lf ts)) ?_ ?_ (fun x => rfl) (fun i x H2 _ _ _ => et_yes) ?_) ?_).toD) fun v H2 e2 i2 => q _ _ e2 i2
    · rw [List.length_map]
      omega
    · intro i hi _
      rw [List.length_map] at hi
      rw [getD_map _ _ _ (by rw [List.length_map]; exact hi)]
      rfl
    · intro i x H2 hi e2 ax _
      rw [List.length_map] at hi
      rw [getD_map _ _ _ hi] at ax
      rw [getD_map _ _ _ (by rw [List.length_map]; exact hi), List.getElem_map]
      have rd := red _ (List.getElem_mem hi)
      revert ax rd
      generalize ts[i] = t
      intro ax rd
      cases t with
      | i n =>
        refine EvD.is (ed_if (K := K) (b := false) (d1 := .non) (et_v (K := K) (ed_isi (n := "tuple") (b := false) (ed_var rfl ax) rfl (by decide +kernel))) (fun z => nomatch z) fun _ => ed_tup (ea1 (ed_var rfl ax) (ea1 ed_int ea0)) (by show 2 ≤ 100000; decide)) rfl
      | p n b =>
        refine EvD.is (ed_if (K := K) (b := true) (d2 := .non) (et_v (K := K) (ed_isi (n := "tuple") (b := true) (ed_var rfl ax) rfl (by decide +kernel))) (fun _ => ed_var rfl ax) fun z => nomatch z) rd.symm
    · rw [List.length_map]
      have z := map_gives fr (ts.map Tv.q) (fun i => ((ts.map Tv.q).map fr).getD i .non) (fun i hi => getD_map _ _ _ hi)
      rw [List.length_map] at z
      exact z
def R_law_open (ds : List D) (d : D) : Prop := ∃ (A : List Int) (v : List Rat) (w : Nat), ds = [.tup (iL A), .tup (frs v), .int (w : Int)] ∧ v.length = A.length ∧ 1 ≤ w ∧ w < A.length ∧ A.length ≤ 24 ∧ (∀ a ∈ A, 1 ≤ a ∧ a ≤ 1000) ∧ (∀ q ∈ v, Sm 900 q) ∧ d = .tup (frs (opn A v w 1))
theorem mk_over {a : Int} {n : Nat} (hn : n ≠ 0) : mkRat a n = mkRat 1 n * (a : Rat) := by
  rw [Rat.mkRat_eq_div, Rat.mkRat_eq_div]
  have h3 : ((1 : Int) : Rat) = 1 := rfl
  grind
theorem ok__law_open (T : Txt K mg) : FnG P w K mg base 5 (He.ga K "_law_open") ["areas", "volumes", "weir"] (spD K R_law_open) := by
  refine fnG (N := ["areas", "volumes", "weir", "both", "one", "other", "first"]) (st := s__law_open) T.f__law_open sc__law_open (fun vs H Q E h => ?_) (fun _ _ _ _ _ _ us hl => match us, hl with | [_, _, _], _ => rfl) (fun cdv A outer s H vs Q E hr h => ⟨_, (pss_cons (ps_asg (pe_callG (ok__law_plus T) (hr.mono (by decide)) (by rfl) T.m__law_plus (pa_cons (pe_ix ix_tup (pv 1) (pe_op op_sub (pv 2) pe_int) (fun _ _ => rfl)) (pa_cons (pe_ix ix_tup (pv 1) (pv 2) (fun _ _ => rfl)) pa_nil))) (pg_name (i := 3) sc__law_open.nd rfl (.inl rfl))) (pss_cons (ps_par (i := 4) (j := 5) (by rfl) sc__law_open.nd rfl rfl (by decide) rfl rfl (pa_cons (pe_ix ix_tup (pv 0) (pe_op op_sub (pv 2) pe_int) (fun _ _ => rfl)) (pa_cons (pe_ix ix_tup (pv 0) (pv 2) (fun _ _ => rfl)) pa_nil)) (by rfl)) (pss_cons (ps_asg (pe_callG (ok__law_times_R T) (hr.mono (by decide)) (by rfl) T.m__law_times (pa_cons (pv 3) (pa_cons (pe_tup (pa_cons (pv 4) (pa_cons (pe_op op_add (pv 4) (pv 5)) pa_nil))) pa_nil))) (pg_name (i := 6) sc__law_open.nd rfl (.inl rfl))) (pss_one (ps_ret (pe_op op_catA (pe_op op_catA (pe_slice sl_tupA (pv 1) po_none (po_some (pe_op op_sub (pv 2) pe_int))) (pe_tup (pa_cons (pe_callG (ok__law_part T) (hr.mono (by decide)) (by rfl) T.m__law_part (pa_cons (pe_ix ix_tup (pv 6) pe_int (fun _ _ => rfl)) (pa_cons (pe_ix ix_tup (pv 6) pe_int (fun _ _ => rfl)) pa_nil))) (pa_cons (pe_callG (ok__law_times_R T) (hr.mono (by decide)) (by rfl) T.m__law_times (pa_cons (pv 3) (pa_cons (pe_tup (pa_cons (pv 5) (pa_cons (pe_op op_add (pv 4) (pv 5)) pa_nil))) pa_nil))) pa_nil)))) (pe_slice sl_tupA (pv 1) (po_some (pe_op op_add (pv 2) pe_int)) po_none))))))), ?_⟩)
  · obtain ⟨ds, d, a, ⟨A, v, w, rfl, _⟩, _⟩ := h
    exact a.len
  · obtain ⟨ds, d, a, ⟨A, v, w, rfl, lv, w1, w2, al, ar, sm, rfl⟩, q⟩ := h
    obtain ⟨u, u2, u3, rfl, a1, a2, a3⟩ := All.inv3 a
    try dsimp only [cxOf, Cx.nox, Cx.wish]
    have l1 : w - 1 < A.length := by omega
    have l2 : w - 1 < v.length := by omega
    have l3 : w < v.length := by omega
    have ew : ((w : Int) - 1) = ((w - 1 : Nat) : Int) := by omega
    have A1 := ar _ (gd_mem (z := 1) l1)
    have A2 := ar _ (gd_mem (z := 1) w2)
    have s1 := sm _ (gd_mem (z := 0) l2)
    have s2 := sm _ (gd_mem (z := 0) l3)
    revert A1 A2 s1 s2
    generalize ha : A.getD (w - 1) 1 = a
    generalize hb : A.getD w 1 = b
    generalize hx : v.getD (w - 1) 0 = x
    generalize hy : v.getD w 0 = y
    intro A1 A2 s1 s2
    have hn : ((a + b : Int)) = (((a + b).toNat : Nat) : Int) := by omega
    have b9 : (2001 : Nat) < 2 ^ 4000 := Nat.lt_of_lt_of_le (show 2001 < 2 ^ 11 by decide) (Nat.pow_le_pow_right (by decide) (by decide))
    have sxy := s1.add s2
    refine q_asgD (K := K) (d := fr (x + y)) (ed_call (R := R_plus) (ea1 (ed_ixT (ed_var rfl a2) (ed_sub (ed_var rfl a3) ed_int) (by rw [ew, at_frs l2, hx])) (ea1 (ed_ixT (ed_var rfl a2) (ed_var rfl a3) (by rw [at_frs l3, hy])) ea0)) ⟨x, y, rfl, s1.mono (by decide), s2.mono (by decide), rfl⟩) fun v3 H1 e1 i3 => ?_
    refine q_parD (K := K) (d1 := .int a) (d2 := .int b) (ed_ixT (ed_var rfl (a1.ex e1)) (ed_sub (ed_var rfl (a3.ex e1)) ed_int) (by rw [ew, at_iL l1, ha])) (ed_ixT (ed_var rfl (a1.ex e1)) (ed_var rfl (a3.ex e1)) (by rw [at_iL w2, hb])) fun v4 v5 H2 e2 i4 i5 => ?_
    have E2 := e1.trans e2
    have tm : ∀ (c : Int) (j : Nat) (H' : Hp) (σ : L2.St), 1 ≤ c → c ≤ 1000 → Is K H' v3 (fr (x + y)) → σ[3]? = some (some v3) → σ[4]? = some (some (V.int a)) → σ[5]? = some (some (V.int b)) → σ[j]? = some (some (V.int c)) →
        EvD K (tCall (spD K R_timesR) [] E0 (tCons (tVar 3) (tCons (tTup (tCons (tVar j) (tCons (tOp (rI0 fun i j => .int (i + j)) (tVar 4) (tVar 5)) tNil))) tNil))) σ H' (fr ((x + y) * mkRat c (a + b).toNat)) := fun c j H' σ c1 c2 h3 g3 g4 g5 gj => by
      refine ed_call (R := R_timesR) (ea1 (d := fr (x + y)) (ed_var g3 h3) (ea1 (d := .tup [.int c, .int (((a + b).toNat : Nat) : Int)]) (EvD.is (ed_tup (K := K) (ea1 (ed_var gj (.int _)) (ea1 (ed_add (ed_var g4 (.int _)) (ed_var g5 (.int _))) ea0)) (by show 2 ≤ 100000; decide)) (by rw [← hn])) ea0)) ⟨x + y, c, (a + b).toNat, rfl, sxy.mono (by decide), ?_, by omega, by omega, rfl⟩
      exact Nat.lt_of_le_of_lt (show c.natAbs ≤ 2001 by omega) b9
    cases i4
    cases i5
    refine q_asgD (K := K) (d := fr ((x + y) * mkRat a (a + b).toNat)) (tm a 4 H2 _ A1.1 A1.2 (i3.ex e2) rfl rfl rfl rfl) fun v6 H3 e3 i6 => ?_
    have E3 := E2.trans e3
    generalize hf : (x + y) * mkRat a (a + b).toNat = f at i6
    have smf : f.den < 2 ^ 9000 := by
      rw [← hf]
      have : Sm 11 (mkRat a (a + b).toNat) := smMk (by omega) (by omega) (by omega)
      have := sxy.mul this
      exact Nat.lt_of_lt_of_le this.den (Nat.pow_le_pow_right (by decide) (by decide))
    unfold fr at i6
    refine s_retD (K := K) (d := .tup (WD.frs (opn A v w 1))) (EvD.is (ed_catA (K := K) (ed_catA (ed_slA (lo := none) (hi := some ((w - 1 : Nat) : Int)) (ed_var rfl (a2.ex E3)) eo_none (eo_s (EvD.is (ed_sub (ed_var rfl (a3.ex E3)) ed_int) (by rw [ew])))) (ed_tup (ds := WD.frs [f, (x + y) * mkRat b (a + b).toNat]) (ea1 (ed_call (R := R_part) (d := fr f) (ea1 (ed_ixT (ed_var rfl i6) ed_int rfl) (ea1 (ed_ixT (ed_var rfl i6) ed_int rfl) ea0)) ⟨f.num, f.den, rfl, f.den_pos, smf, by rw [Rat.mkRat_self]⟩) (ea1 (tm b 5 H3 _ A2.1 A2.2 (i3.ex (e2.trans e3)) rfl rfl rfl rfl) ea0)) (by show 2 ≤ 100000; decide)) ?_) (ed_slA (lo := some ((w + 1 : Nat) : Int)) (hi := none) (ed_var rfl (a2.ex E3)) (eo_s (EvD.is (ed_add (ed_var rfl (a3.ex E3)) ed_int) (by rw [Int.natCast_add]; rfl))) eo_none) ?_) ?_) fun v7 H4 e4 i7 => q _ _ (E3.trans e4) i7
    · rw [cut_to, List.length_take, frs_len, frs_len]
      show _ + 2 ≤ _
      omega
    · rw [cut_to, cut_from, List.length_append, List.length_take, List.length_drop, frs_len, frs_len]
      show _ + 2 + _ ≤ _
      omega
    · rw [cut_to, cut_from]
      unfold opn lateOf WD.frs
      rw [ha, hb, hx, hy, if_pos rfl, ← hf, mk_over (a := a) (by omega), mk_over (a := b) (by omega), List.map_append, List.map_append, List.map_take, List.map_drop, List.append_assoc, ← Rat.mul_assoc, ← Rat.mul_assoc]

end
end My
end
section
set_option Elab.async false
set_option linter.all false
set_option maxRecDepth 100000
set_option maxHeartbeats 4000000
namespace My
open PySem PySem.Spec PyProof.Rows L2 Evl WD
local macro_rules | `(tactic| walk_at "exgo") => `(tactic| first | exact Ex.refl _ | assumption | (refine' Ex.trans ?ea ?eb; (case eb => assumption); (case ea => walk_at "exgo")))
local macro_rules | `(tactic| walk_at "is") => `(tactic| first | assumption | (refine' Is.ex ?e ?h; (case h => assumption); (case e => walk_at "exgo")) | exact Is.int _ | exact Is.bl _ | exact Is.non)
local macro_rules | `(tactic| walk_at "ev") => `(tactic| first
  | exact ed_int | exact ed_bl | exact ed_non | exact ed_str
  | ((with_reducible apply ed_var) <;> first | exact rfl | walk_at "is")
  | ((with_reducible apply ed_add) <;> walk_at "ev")
  | ((with_reducible apply ed_sub) <;> walk_at "ev")
  | ((with_reducible apply ed_neg) <;> walk_at "ev")
  | ((with_reducible apply ed_mulW) <;> try walk_at "ev")
  | ((with_reducible apply ed_divW) <;> try walk_at "ev")
  | ((with_reducible apply ed_mod) <;> try walk_at "ev")
  | ((with_reducible apply ed_ixT) <;> first | exact rfl | walk_at "ev" | skip)
  | ((with_reducible apply ed_ixL) <;> first | exact rfl | walk_at "ev" | skip)
  | ((with_reducible apply ed_lt) <;> walk_at "ev")
  | ((with_reducible apply ed_le) <;> walk_at "ev")
  | ((with_reducible apply ed_gt) <;> walk_at "ev")
  | ((with_reducible apply ed_ge) <;> walk_at "ev")
  | ((with_reducible apply ed_eqI) <;> walk_at "ev")
  | ((with_reducible apply ed_neI) <;> walk_at "ev")
  | ((with_reducible apply ed_gcd) <;> walk_at "ev")
  | ((with_reducible apply ed_abs) <;> walk_at "ev")
  | ((with_reducible apply ed_intI) <;> walk_at "ev")
  | ((with_reducible apply ed_intB) <;> walk_at "ev")
  | ((with_reducible apply ed_max2) <;> walk_at "ev")
  | ((with_reducible apply ed_min2) <;> walk_at "ev")
  | ((with_reducible apply ed_lenT) <;> walk_at "ev")
  | ((with_reducible apply ed_lenL) <;> walk_at "ev")
  | ((with_reducible apply ed_tuple) <;> walk_at "ev")
  | ((with_reducible apply ed_tupleT) <;> walk_at "ev")
  | ((with_reducible apply ed_tup) <;> first | walk_at "ea" | (simp; done) | skip)
  | ((with_reducible apply et_t) <;> walk_at "ev")
  | ((with_reducible apply et_v) <;> walk_at "ev"))
local macro_rules | `(tactic| walk_at "ea") => `(tactic| first
  | exact ea0
  | ((with_reducible apply ea1) <;> first | walk_at "ev" | walk_at "ea" | skip))

section
variable {P : Program} {w : World} {K : PySem.W.Frag} {mg : Str → Option Value} {base : Heap}
/-- the heights -/
def hts (A : List Int) (v : List Rat) : List Rat := (List.range v.length).map fun i => v.getD i 0 * mkRat 1 (A.getD i 1).toNat
theorem hts_len (A : List Int) (v : List Rat) : (hts A v).length = v.length := by
  unfold hts
  rw [List.length_map, List.length_range]
theorem hts_get {A : List Int} {v : List Rat} {i : Nat} (h : i < v.length) : (hts A v).getD i 0 = v.getD i 0 * mkRat 1 (A.getD i 1).toNat := by
  rw [getD_in (by rw [hts_len]; exact h)]
  simp only [hts, List.getElem_map, List.getElem_range]
def R_law_heights (ds es : List D) : Prop := ∃ (A : List Int) (v : List Rat), ds = [.tup (iL A), .tup (frs v)] ∧ v.length = A.length ∧ A.length ≤ 24 ∧ (∀ a ∈ A, 1 ≤ a ∧ a ≤ 1000) ∧ (∀ q ∈ v, Sm 900 q) ∧ es = frs (hts A v)
theorem ok__law_heights (T : Txt K mg) : FnG P w K mg base 5 (He.ga K "_law_heights") ["areas", "volumes"] (spN K R_law_heights) := by
  refine fnG (N := ["areas", "volumes", "area", "volume"]) (st := s__law_heights) T.f__law_heights sc__law_heights (fun vs H Q E h => ?_) (fun _ _ _ _ _ _ us hl => match us, hl with | [_, _], _ => rfl) (fun cdv A outer s H vs Q E hr h => ⟨_, (pss_one (ps_ret (pe_lc (own := [("area", 2), ("volume", 3)]) rfl sc__law_heights.nd (RZ.pi_zipA (by rfl) T.z_zip (pa_cons (pv 0) (pa_cons (pv 1) pa_nil))) (blkOk_by (own := [("area", 2), ("volume", 3)]) (N := ["areas", "volumes", "area", "volume"]) (sc := defScope s__law_heights) (by decide +kernel)) (fun _ _ _ _ _ => (tupK (K := K) (n := 2) rfl rfl (pgs_cons (pg_name (i := 2) sc__law_heights.nd rfl (.inl rfl)) (pgs_cons (pg_name (i := 3) sc__law_heights.nd rfl (.inl rfl)) pgs_nil)))) (fun _ _ _ _ _ => pts_nil) (fun _ _ _ _ _ => (pe_callG (ok__law_times T) (hr.mono (by decide)) (by rfl) T.m__law_times (pa_cons (pv 3) (pa_cons (pe_tup (pa_cons pe_int (pa_cons (pv 2) pa_nil))) pa_nil))))))), ?_⟩)
  · obtain ⟨ds, d, a, ⟨A, v, rfl, _⟩, _⟩ := h
    exact a.len
  · obtain ⟨ds, d, a, ⟨A, v, rfl, lv, al, ar, sm, rfl⟩, q⟩ := h
    obtain ⟨u, u2, rfl, a1, a2⟩ := All.inv2 a
    try dsimp only [cxOf, Cx.nox, Cx.wish]
    refine s_retN (K := K) (EvN.is (en_lc2 (n := v.length) (c1 := fun i => (iL A).getD i .non) (c2 := fun i => (WD.frs v).getD i .non) (fun _ => true) (fun i => fr ((hts A v).getD i 0)) (fun H2 e2 => EvI.is (ei_zipT (ed_var rfl (a1.ex e2)) (ed_var rfl (a2.ex e2)) (by rw [frs_len, iLlen]; omega) (iLlf A) (frs_lf v)) (frs_len v)) (by omega) (fun _ _ _ => rfl) (fun x y => rfl) (fun i x y H2 _ _ _ _ => et_yes) (fun i x y H2 hi e2 ax ay _ => ?_)) ?_) fun p xs H' hp e hx ax => q p xs H' hp e hx ax
    · have la : i < A.length := by omega
      rw [show (iL A).getD i .non = D.int A[i] from getD_map _ _ _ la] at ax
      rw [getD_frs v i hi] at ay
      have hA := ar _ (List.getElem_mem la)
      rw [hts_get hi, getD_in hi, getD_in la]
      generalize A[i] = c at ax hA
      have hv := sm _ (List.getElem_mem hi)
      refine ed_call (R := R_times) (ea1 (ed_var rfl ay) (ea1 (d := fr (mkRat 1 c.toNat)) (EvD.is (ed_tup (K := K) (ea1 ed_int (ea1 (ed_var rfl ax) ea0)) (by show 2 ≤ 100000; decide)) (by rw [fr_over (by omega), Int.toNat_of_nonneg (by omega)])) ea0)) ⟨_, _, rfl, hv.mono (by decide), (smMk (k := 10) (by omega) (by decide) (by omega)).mono (by decide), rfl⟩
    · rw [gives_all]
      unfold WD.frs
      refine List.ext_getElem (by simp [hts_len]) fun i h1 h2 => ?_
      rw [List.getElem_map, List.getElem_map, List.getElem_range]
      rw [List.length_map] at h2
      rw [getD_in h2]
/-- the signs that the law sees -/
def lsg (hs : List Rat) : List Int := nz ((List.range (hs.length - 1)).map fun i => sg (hs.getD (i + 1) 0 - hs.getD i 0))
def lsgT (hs : List Rat) (k : Nat) : List Int := nz ((List.range k).map fun i => sg (hs.getD (i + 1) 0 - hs.getD i 0))
theorem lsgT_succ (hs : List Rat) (k : Nat) : lsgT hs (k + 1) = lsgT hs k ++ nz [sg (hs.getD (k + 1) 0 - hs.getD k 0)] := by
  unfold lsgT
  rw [List.range_succ, List.map_append, nz_app]
  rfl
theorem lsgT_len (hs : List Rat) (k : Nat) : (lsgT hs k).length ≤ k := by
  unfold lsgT nz
  refine Nat.le_trans (List.length_filter_le _ _) ?_
  rw [List.length_map, List.length_range]
  exact Nat.le_refl _
def R_law_signs (ds es : List D) : Prop := ∃ hs : List Rat, ds = [.lst (frs hs)] ∧ hs.length ≤ 24 ∧ (∀ q ∈ hs, Sm 4000 q) ∧ es = iL (lsg hs)
theorem sg_cases (p q : Rat) : nz [sg (q - p)] = if p < q then [1] else if q < p then [-1] else [] := by
  unfold sg
  by_cases h1 : p < q
  · rw [if_pos h1, if_pos (by grind)]
    rfl
  · by_cases h2 : q < p
    · rw [if_neg h1, if_pos h2, if_neg (by grind), if_pos (by grind)]
      rfl
    · rw [if_neg h1, if_neg h2, if_neg (by grind), if_neg (by grind)]
      rfl
theorem ok__law_signs (T : Txt K mg) : FnG P w K mg base 2 (He.ga K "_law_signs") ["heights"] (spN K R_law_signs) := by
  refine fnG (N := ["heights", "found", "one", "late"]) (st := s__law_signs) T.f__law_signs sc__law_signs (fun vs H Q E h => ?_) (fun _ _ _ _ _ _ us hl => match us, hl with | [_], _ => rfl) (fun cdv A outer s H vs Q E hr h => ⟨_, (pss_cons (ps_asg (pe_lst pa_nil) (pg_name (i := 1) sc__law_signs.nd rfl (.inl rfl))) (pss_cons (ps_for PassesOwn.never rfl (pi_zip (by rfl) T.z_zip (pa_cons (pv 0) (pa_cons (pe_slice sl_list (pv 0) (po_some pe_int) po_none) pa_nil))) (pg_tup rfl (pgs_cons (pg_name (i := 2) sc__law_signs.nd rfl (.inl rfl)) (pgs_cons (pg_name (i := 3) sc__law_signs.nd rfl (.inl rfl)) pgs_nil))) (pss_one (ps_if (pt_val (pe_callG (ok__law_less T) (hr.mono (by decide)) (by rfl) T.m__law_less (pa_cons (pv 2) (pa_cons (pv 3) pa_nil)))) (pss_one (ps_expr (pe_bm PySem.F.plainAttrs_list PySem.F.slot_list_append PySem.F.type_list_append mt_append (pv 1) (pa_cons pe_int pa_nil)))) (pss_one (ps_if (pt_val (pe_callG (ok__law_less T) (hr.mono (by decide)) (by rfl) T.m__law_less (pa_cons (pv 3) (pa_cons (pv 2) pa_nil)))) (pss_one (ps_expr (pe_bm PySem.F.plainAttrs_list PySem.F.slot_list_append PySem.F.type_list_append mt_append (pv 1) (pa_cons (pe_un un_neg pe_int) pa_nil)))) pss_nil))))) (pss_one (ps_ret (pv 1))))), ?_⟩)
  · obtain ⟨ds, d, a, ⟨hs, rfl, _⟩, _⟩ := h
    exact a.len
  · obtain ⟨ds, d, a, ⟨hs, rfl, hl, sm, rfl⟩, q⟩ := h
    obtain ⟨u, rfl, a1⟩ := All.inv1 a
    try dsimp only [cxOf, Cx.nox, Cx.wish]
    refine q_asgN (K := K) (ds := []) (en_lst ea0) fun p xs H1 hp e1 hx ax => ?_
    have xs1 : xs = [] := by
      cases ax
      rfl
    subst xs1
    have cutl : cutD (frs hs) (some 1) none = (frs hs).drop 1 := cut_from _ 1
    refine q_for (K := K) (L := [p]) (n := hs.length - 1) (item := fun i => .tup [fr (hs.getD i 0), fr (hs.getD (i + 1) 0)]) (EvI.item (EvI.is (ei_zip (ds := frs hs) (es := (frs hs).drop 1) (es_var rfl a1 e1 (fun l hl => by rw [List.mem_singleton.mp hl]; exact hp)) (fun H2 e2 => es_new (EvN.is (en_sl (ed_var rfl (a1.ex (e1.trans e2))) (eo_s (K := K) ed_int) eo_none) cutl) (fun l hl => by rw [List.mem_singleton.mp hl]; exact ⟨_, e2 _ _ hx⟩)) (by rw [List.length_drop]; omega) (frs_lf hs) (by unfold WD.frs; rw [← List.map_drop]; exact lfs_map _ fr_lf _)) (by rw [List.length_drop, frs_len])) ?_)
      (fun i σ' H' => ∃ y2 y3, σ' = [some u, some (.ref p), y2, y3] ∧ Ex H H' ∧ H' p = some (.lst ((lsgT hs i).map V.int))) (fun H2 e2 => ⟨none, none, rfl, e1.trans e2, e2 _ _ hx⟩) ?_ ?_
    · intro i hi
      rw [getD_frs hs i (by omega), getD_in (show i < hs.length by omega), getD_in (show i + 1 < hs.length by omega)]
      congr 1
      congr 1
      congr 1
      unfold WD.frs
      rw [← List.map_drop, getD_map _ _ _ (by rw [List.length_drop]; omega), List.getElem_drop]
      congr 2
      omega
    · rintro i z σ' H2 H3 hi ⟨y2, y3, rfl, E2, hx2⟩ e3 az
      refine g_two az fun z1 z2 az1 az2 => ?_
      have g1 : hs.getD i 0 ∈ hs := gd_mem (by omega)
      have g2 : hs.getD (i + 1) 0 ∈ hs := gd_mem (by omega)
      rw [lsgT_succ, sg_cases]
      have s1 := sm _ g1
      have s2 := sm _ g2
      revert az1 az2 s1 s2
      generalize hs.getD i 0 = a
      generalize hs.getD (i + 1) 0 = b
      intro az1 az2 s1 s2
      have hx3 := e3 _ _ hx2
      have lt := lsgT_len hs i
      generalize lsgT hs i = ls at hx2 hx3 lt
      have put : ∀ (c : Int) (H4 : Hp), Ex H3 H4 → Ex H (upd H4 p (.lst (ls.map V.int ++ [.int c]))) ∧ Mu [p] H2 (upd H4 p (.lst (ls.map V.int ++ [.int c]))) := fun c H4 e4 => ⟨Ex.updN ((E2.trans e3).trans e4) hp, (Mu.ex (e3.trans e4)).trans (Mu.upd (List.mem_singleton.mpr rfl) (e4 _ _ hx3))⟩
      by_cases c1 : a < b
      · rw [if_pos c1]
        refine s_if (b := true) (et_v (EvD.is (ed_call (R := R_is_less) (ea1 (ed_var rfl az1) (ea1 (ed_var rfl az2) ea0)) ⟨a, b, rfl, s1, s2, rfl⟩) (by rw [decide_eq_true c1]))) (fun _ H4 e4 => ?_) (fun z => nomatch z)
        refine s_appD (K := K) (d := .int 1) (e4 _ _ hx3) (ev_ref rfl) ed_int (by rw [List.length_map]; omega) fun y H5 e5 ay => ?_
        cases ay
        exact ⟨⟨_, _, rfl, (put 1 H5 (e4.trans e5)).1, by rw [List.map_append]; exact upd_same⟩, (put 1 H5 (e4.trans e5)).2⟩
      · rw [if_neg c1]
        refine s_if (b := false) (et_v (EvD.is (ed_call (R := R_is_less) (ea1 (ed_var rfl az1) (ea1 (ed_var rfl az2) ea0)) ⟨a, b, rfl, s1, s2, rfl⟩) (by rw [decide_eq_false c1]))) (fun z => nomatch z) (fun _ H4 e4 => ?_)
        by_cases c2 : b < a
        · rw [if_pos c2]
          refine s_when (b := true) (et_v (EvD.is (ed_call (R := R_is_less) (ea1 (ed_var rfl (az2.ex e4)) (ea1 (ed_var rfl (az1.ex e4)) ea0)) ⟨b, a, rfl, s2, s1, rfl⟩) (by rw [decide_eq_true c2]))) (fun _ H5 e5 => ?_) (fun z => nomatch z)
          refine s_appD (K := K) (d := .int (-1)) ((e4.trans e5) _ _ hx3) (ev_ref rfl) (ed_neg ed_int) (by rw [List.length_map]; omega) fun y H6 e6 ay => ?_
          cases ay
          exact ⟨⟨_, _, rfl, (put (-1) H6 ((e4.trans e5).trans e6)).1, by rw [List.map_append]; exact upd_same⟩, (put (-1) H6 ((e4.trans e5).trans e6)).2⟩
        · rw [if_neg c2, List.append_nil]
          refine s_when (b := false) (et_v (EvD.is (ed_call (R := R_is_less) (ea1 (ed_var rfl (az2.ex e4)) (ea1 (ed_var rfl (az1.ex e4)) ea0)) ⟨b, a, rfl, s2, s1, rfl⟩) (by rw [decide_eq_false c2]))) (fun z => nomatch z) (fun _ H5 e5 => ?_)
          exact ⟨⟨_, _, rfl, (E2.trans e3).trans (e4.trans e5), (e4.trans e5) _ _ hx3⟩, Mu.ex (e3.trans (e4.trans e5))⟩
    · rintro σ' H2 ⟨y2, y3, rfl, E2, hx2⟩
      exact ⟨_, rfl, q p _ H2 hp E2 hx2 (all_ints _ _)⟩

end
end My
end
section
set_option Elab.async false
set_option linter.all false
set_option maxRecDepth 100000
set_option maxHeartbeats 4000000
namespace My
open PySem PySem.Spec PyProof.Rows L2 Evl WD
local macro_rules | `(tactic| walk_at "exgo") => `(tactic| first | exact Ex.refl _ | assumption | (refine' Ex.trans ?ea ?eb; (case eb => assumption); (case ea => walk_at "exgo")))
local macro_rules | `(tactic| walk_at "is") => `(tactic| first | assumption | (refine' Is.ex ?e ?h; (case h => assumption); (case e => walk_at "exgo")) | exact Is.int _ | exact Is.bl _ | exact Is.non)
local macro_rules | `(tactic| walk_at "ev") => `(tactic| first
  | exact ed_int | exact ed_bl | exact ed_non | exact ed_str
  | ((with_reducible apply ed_var) <;> first | exact rfl | walk_at "is")
  | ((with_reducible apply ed_add) <;> walk_at "ev")
  | ((with_reducible apply ed_sub) <;> walk_at "ev")
  | ((with_reducible apply ed_neg) <;> walk_at "ev")
  | ((with_reducible apply ed_mulW) <;> try walk_at "ev")
  | ((with_reducible apply ed_divW) <;> try walk_at "ev")
  | ((with_reducible apply ed_mod) <;> try walk_at "ev")
  | ((with_reducible apply ed_ixT) <;> first | exact rfl | walk_at "ev" | skip)
  | ((with_reducible apply ed_ixL) <;> first | exact rfl | walk_at "ev" | skip)
  | ((with_reducible apply ed_lt) <;> walk_at "ev")
  | ((with_reducible apply ed_le) <;> walk_at "ev")
  | ((with_reducible apply ed_gt) <;> walk_at "ev")
  | ((with_reducible apply ed_ge) <;> walk_at "ev")
  | ((with_reducible apply ed_eqI) <;> walk_at "ev")
  | ((with_reducible apply ed_neI) <;> walk_at "ev")
  | ((with_reducible apply ed_gcd) <;> walk_at "ev")
  | ((with_reducible apply ed_abs) <;> walk_at "ev")
  | ((with_reducible apply ed_intI) <;> walk_at "ev")
  | ((with_reducible apply ed_intB) <;> walk_at "ev")
  | ((with_reducible apply ed_max2) <;> walk_at "ev")
  | ((with_reducible apply ed_min2) <;> walk_at "ev")
  | ((with_reducible apply ed_lenT) <;> walk_at "ev")
  | ((with_reducible apply ed_lenL) <;> walk_at "ev")
  | ((with_reducible apply ed_tuple) <;> walk_at "ev")
  | ((with_reducible apply ed_tupleT) <;> walk_at "ev")
  | ((with_reducible apply ed_tup) <;> first | walk_at "ea" | (simp; done) | skip)
  | ((with_reducible apply et_t) <;> walk_at "ev")
  | ((with_reducible apply et_v) <;> walk_at "ev"))
local macro_rules | `(tactic| walk_at "ea") => `(tactic| first
  | exact ea0
  | ((with_reducible apply ea1) <;> first | walk_at "ev" | walk_at "ea" | skip))

section
variable {P : Program} {w : World} {K : PySem.W.Frag} {mg : Str → Option Value} {base : Heap}
theorem sg_pos {c q : Rat} (hc : 0 < c) : sg (c * q) = sg q := by
  have h1 : 0 < c * q ↔ 0 < q := by
    constructor
    · intro h
      apply Decidable.byContradiction
      intro n
      have := Rat.mul_nonneg (Rat.le_of_lt hc) (show 0 ≤ -q by have := Rat.not_lt.mp n; grind)
      grind
    · exact Rat.mul_pos hc
  have h2 : c * q < 0 ↔ q < 0 := by
    constructor
    · intro h
      apply Decidable.byContradiction
      intro n
      have := Rat.mul_nonneg (Rat.le_of_lt hc) (Rat.not_lt.mp n)
      grind
    · intro h
      have := Rat.mul_pos hc (show 0 < -q by grind)
      grind
  unfold sg
  by_cases a : 0 < q <;> by_cases b : q < 0 <;> simp [a, b, h1, h2]
theorem rise_hts {A : List Int} {v : List Rat} {i : Nat} (lv : v.length = A.length) (ar : ∀ a ∈ A, 1 ≤ a ∧ a ≤ 1000) (hi : i + 1 < v.length) : sg ((hts A v).getD (i + 1) 0 - (hts A v).getD i 0) = sg (rise A (sms v) (i + 1)) := by
  have A1 := ar _ (gd_mem (z := 1) (show i < A.length by omega))
  have A2 := ar _ (gd_mem (z := 1) (show i + 1 < A.length by omega))
  rw [hts_get hi, hts_get (show i < v.length by omega)]
  unfold rise
  rw [sms_get (show i + 1 + 1 ≤ v.length by omega), sms_get (show i + 1 ≤ v.length by omega), sms_get (show i + 1 - 1 ≤ v.length by omega), show i + 1 - 1 = i from by omega]
  have x1 := S_succ v i (by omega)
  have x2 := S_succ v (i + 1) hi
  rw [← getD_in (z := (0 : Rat)) (show i < v.length by omega)] at x1
  rw [← getD_in (z := (0 : Rat)) hi] at x2
  rw [x2, x1]
  revert A1 A2
  generalize A.getD i 1 = a
  generalize A.getD (i + 1) 1 = b
  intro A1 A2
  have inv : ∀ c : Int, 1 ≤ c → mkRat 1 c.toNat * (c : Rat) = 1 := fun c hc => by
    rw [Rat.mkRat_eq_div]
    have h1 : ((c.toNat : Nat) : Rat) = ((c : Int) : Rat) := by
      have h2 : ((c.toNat : Nat) : Rat) = (((c.toNat : Nat) : Int) : Rat) := rfl
      rw [h2, Int.toNat_of_nonneg (by omega)]
    have c1 : ((c : Int) : Rat) ≠ 0 := by exact_mod_cast (show (c : Int) ≠ 0 by omega)
    rw [h1]
    have h3 : ((1 : Int) : Rat) = 1 := rfl
    grind
  have i1 := inv a A1.1
  have i2 := inv b A2.1
  have a0 : (0 : Rat) < (a : Rat) := by exact_mod_cast (show (0 : Int) < a by omega)
  have b0 : (0 : Rat) < (b : Rat) := by exact_mod_cast (show (0 : Int) < b by omega)
  rw [← sg_pos (Rat.mul_pos a0 b0)]
  congr 1
  generalize mkRat 1 a.toNat = ma at i1
  generalize mkRat 1 b.toNat = mb at i2
  grind
theorem lsg_eq {A : List Int} {v : List Rat} (lv : v.length = A.length) (ar : ∀ a ∈ A, 1 ≤ a ∧ a ≤ 1000) : lsg (hts A v) = nz (sgs A (sms v)) := by
  unfold lsg sgs
  rw [hts_len, lv]
  congr 1
  refine List.map_congr_left fun i hi => ?_
  have hi := List.mem_range.mp hi
  exact rise_hts lv ar (by omega)
/-- how often the law sees a row turn -/
def R_law_turns (ds : List D) (d : D) : Prop := ∃ hs : List Rat, ds = [.lst (frs hs)] ∧ hs.length ≤ 24 ∧ (∀ q ∈ hs, Sm 4000 q) ∧ d = .int ((cc (lsg hs) : Nat) : Int)
theorem ok__law_turns (T : Txt K mg) : FnG P w K mg base 3 (He.ga K "_law_turns") ["heights"] (spD K R_law_turns) := by
  refine fnG (N := ["heights", "told", "one", "late"]) (st := s__law_turns) T.f__law_turns sc__law_turns (fun vs H Q E h => ?_) (fun _ _ _ _ _ _ us hl => match us, hl with | [_], _ => rfl) (fun cdv A outer s H vs Q E hr h => ⟨_, (pss_cons (ps_asg (pe_callG (ok__law_signs T) (hr.mono (by decide)) (by rfl) T.m__law_signs (pa_cons (pv 0) pa_nil)) (pg_name (i := 1) sc__law_turns.nd rfl (.inl rfl))) (pss_one (ps_ret (pe_callB call_lenS (by rfl) T.z_len PySem.boot_len (pa_cons (pe_lc (own := [("one", 2), ("late", 3)]) rfl sc__law_turns.nd (pi_zip (by rfl) T.z_zip (pa_cons (pv 1) (pa_cons (pe_slice sl_list (pv 1) (po_some pe_int) po_none) pa_nil))) (blkOk_by (own := [("one", 2), ("late", 3)]) (N := ["heights", "told", "one", "late"]) (sc := defScope s__law_turns) (by decide +kernel)) (fun _ _ _ _ _ => (tupK (K := K) (n := 2) rfl rfl (pgs_cons (pg_name (i := 2) sc__law_turns.nd rfl (.inl rfl)) (pgs_cons (pg_name (i := 3) sc__law_turns.nd rfl (.inl rfl)) pgs_nil)))) (fun _ _ _ _ _ => (pts_one (pt_cmpR op_ne (pv 2) (pv 3) (nomark _)))) (fun _ _ _ _ _ => pe_int)) pa_nil))))), ?_⟩)
  · obtain ⟨ds, d, a, ⟨hs, rfl, _⟩, _⟩ := h
    exact a.len
  · obtain ⟨ds, d, a, ⟨hs, rfl, hl, sm, rfl⟩, q⟩ := h
    obtain ⟨u, rfl, a1⟩ := All.inv1 a
    try dsimp only [cxOf, Cx.nox, Cx.wish]
    refine q_asgN (K := K) (en_call (R := R_law_signs) (ea1 (ed_var rfl a1) ea0) ⟨hs, rfl, hl, sm, rfl⟩) fun p xs H1 hp e1 hx ax => ?_
    have Ll : (lsg hs).length ≤ 24 := by
      have := lsgT_len hs (hs.length - 1)
      show (lsgT hs (hs.length - 1)).length ≤ 24
      omega
    generalize lsg hs = L at ax Ll q
    have hv : ∀ H2, Ex H1 H2 → Is K H2 (.ref p) (.lst (iL L)) := fun H2 e2 => .lst (.inl (e2 _ _ hx)) (ax.ex e2)
    have cutl : cutD (iL L) (some 1) none = (iL L).drop 1 := cut_from _ 1
    refine s_retD (K := K) (d := .int ((cc L : Nat) : Int)) (EvD.is (ed_lenL (K := K) (EvN.toD (en_lc2 (n := L.length - 1) (c1 := fun i => .int (L.getD i 0)) (c2 := fun i => .int (L.getD (i + 1) 0)) (fun i => !decide (L.getD i 0 = L.getD (i + 1) 0)) (fun i => .int 1)
      (fun H2 e2 => EvI.item (EvI.is (ei_zip (ds := iL L) (es := (iL L).drop 1) (es_any (ed_var rfl (hv H2 e2))) (fun H3 e3 => es_new (EvN.is (en_sl (ed_var rfl (hv H3 (e2.trans e3))) (eo_s (K := K) ed_int) eo_none) cutl) (fun l hl => nomatch hl)) (by rw [List.length_drop]; omega) (iLlf L) (by unfold iL; rw [← List.map_drop]; exact lfs_map _ (fun _ => rfl) _)) (by rw [List.length_drop, iLlen])) ?_) (by omega) (fun _ _ _ => rfl) (fun x y => rfl) (fun i x y H2 hi e2 ax ay => et_t (K := K) (ed_neI (ed_var rfl ax) (ed_var rfl ay))) (fun i x y H2 hi e2 ax ay _ => ed_int)))) ?_) fun v H2 e2 i2 => q _ _ (e1.trans e2) i2
    · intro i hi
      unfold iL
      rw [← List.map_drop, getD_map _ _ _ (show i < L.length by omega), getD_map _ _ _ (by rw [List.length_drop]; omega), List.getElem_drop, getD_in (show i < L.length by omega), getD_in (show i + 1 < L.length by omega)]
      simp only [Nat.add_comm 1 i]
    · unfold gives
      rw [List.length_map]
      rw [cc_range]

end
end My
end
section
set_option Elab.async false
set_option linter.all false
set_option maxRecDepth 100000
set_option maxHeartbeats 4000000
namespace My
open PySem PySem.Spec PyProof.Rows L2 Evl WD
local macro_rules | `(tactic| walk_at "exgo") => `(tactic| first | exact Ex.refl _ | assumption | (refine' Ex.trans ?ea ?eb; (case eb => assumption); (case ea => walk_at "exgo")))
local macro_rules | `(tactic| walk_at "is") => `(tactic| first | assumption | (refine' Is.ex ?e ?h; (case h => assumption); (case e => walk_at "exgo")) | exact Is.int _ | exact Is.bl _ | exact Is.non)
local macro_rules | `(tactic| walk_at "ev") => `(tactic| first
  | exact ed_int | exact ed_bl | exact ed_non | exact ed_str
  | ((with_reducible apply ed_var) <;> first | exact rfl | walk_at "is")
  | ((with_reducible apply ed_add) <;> walk_at "ev")
  | ((with_reducible apply ed_sub) <;> walk_at "ev")
  | ((with_reducible apply ed_neg) <;> walk_at "ev")
  | ((with_reducible apply ed_mulW) <;> try walk_at "ev")
  | ((with_reducible apply ed_divW) <;> try walk_at "ev")
  | ((with_reducible apply ed_mod) <;> try walk_at "ev")
  | ((with_reducible apply ed_ixT) <;> first | exact rfl | walk_at "ev" | skip)
  | ((with_reducible apply ed_ixL) <;> first | exact rfl | walk_at "ev" | skip)
  | ((with_reducible apply ed_lt) <;> walk_at "ev")
  | ((with_reducible apply ed_le) <;> walk_at "ev")
  | ((with_reducible apply ed_gt) <;> walk_at "ev")
  | ((with_reducible apply ed_ge) <;> walk_at "ev")
  | ((with_reducible apply ed_eqI) <;> walk_at "ev")
  | ((with_reducible apply ed_neI) <;> walk_at "ev")
  | ((with_reducible apply ed_gcd) <;> walk_at "ev")
  | ((with_reducible apply ed_abs) <;> walk_at "ev")
  | ((with_reducible apply ed_intI) <;> walk_at "ev")
  | ((with_reducible apply ed_intB) <;> walk_at "ev")
  | ((with_reducible apply ed_max2) <;> walk_at "ev")
  | ((with_reducible apply ed_min2) <;> walk_at "ev")
  | ((with_reducible apply ed_lenT) <;> walk_at "ev")
  | ((with_reducible apply ed_lenL) <;> walk_at "ev")
  | ((with_reducible apply ed_tuple) <;> walk_at "ev")
  | ((with_reducible apply ed_tupleT) <;> walk_at "ev")
  | ((with_reducible apply ed_tup) <;> first | walk_at "ea" | (simp; done) | skip)
  | ((with_reducible apply et_t) <;> walk_at "ev")
  | ((with_reducible apply et_v) <;> walk_at "ev"))
local macro_rules | `(tactic| walk_at "ea") => `(tactic| first
  | exact ea0
  | ((with_reducible apply ea1) <;> first | walk_at "ev" | walk_at "ea" | skip))

section
variable {P : Program} {w : World} {K : PySem.W.Frag} {mg : Str → Option Value} {base : Heap}
def sp_order (K : PySem.W.Frag) : Sp := fun vs H Q _ => ∃ d sA sc n p ws, ∃ m : Nat, vs = [.ref d, .ref p, .int (m : Int)] ∧ Dr K H d sA sc n ∧ n ≤ 500 ∧ Is K H (.ref p) (.lst (iL ws)) ∧ p ≠ d ∧ m ≤ 100 ∧ ∀ (O : List Int) l H', H l = none → Mu [d] H H' → Dr K H' d sA sc (n + m) → O.length ≤ m → (∀ o ∈ O, o ∈ ws) → H' l = some (.lst (O.map V.int)) → Q (.ref l) H'
theorem ok__law_order (T : Txt K mg) : FnG P w K mg base 5 (He.ga K "_law_order") ["draw", "weirs", "many"] (sp_order K) := by
  refine fnG (N := ["draw", "weirs", "many", "turn"]) (st := s__law_order) T.f__law_order sc__law_order (fun vs H Q E h => ?_) (fun _ _ _ _ _ _ us hl => match us, hl with | [_, _, _], _ => rfl) (fun cdv A outer s H vs Q E hr h => ⟨_, (pss_one (ps_ret (pe_ifExp (pt_cmpR (op_neD (hr.units)) (pv 1) (pe_lst pa_nil) (nomark _)) (pe_lc (own := [("turn", 3)]) rfl sc__law_order.nd (pi_range1 (by rfl) T.z_range (pa_cons (pv 2) pa_nil)) (blkOk_by (own := [("turn", 3)]) (N := ["draw", "weirs", "many", "turn"]) (sc := defScope s__law_order) (by decide +kernel)) (fun _ _ _ _ _ => (pg_name (i := 3) sc__law_order.nd rfl (.inl rfl))) (fun _ _ _ _ _ => pts_nil) (fun _ _ _ _ _ => (pe_callG (ok__law_pick T) (hr.mono (by decide)) (by rfl) T.m__law_pick (pa_cons (pv 0) (pa_cons (pv 1) pa_nil))))) (pe_lst pa_nil)))), ?_⟩)
  · obtain ⟨d, sA, sc, n, p, ws, m, rfl, _⟩ := h
    rfl
  · obtain ⟨d, sA, sc, n, p, ws, m, rfl, h, hn, hp, ne, hm, q⟩ := h
    try dsimp only [cxOf, Cx.nox, Cx.wish]
    have et : EvT (tTest (tOp (rNeD K) (tVar 1) (tLst tNil))) (L2.start ["draw", "weirs", "many", "turn"] [V.ref d, V.ref p, V.int (m : Int)]) H (!decide (ws = [])) := et_t (EvD.is (ed_neD (K := K) (ed_var rfl hp) (EvN.toD (en_lst ea0)) (sh_iL ws) (sh_iL [])) (by rw [show D.lst [] = D.lst (iL []) from rfl, eqv_iL]))
    refine et H (Ex.refl H) _ fun H1 e1 => ?_
    by_cases hw : ws = []
    · rw [decide_eq_true hw]
      rw [if_neg (by decide)]
      refine en_lst (K := K) ea0 (by decide) H1 (Ex.refl H1) _ fun l xs H2 hl e2 hx ax => ?_
      cases ax
      exact q [] l H2 (fresh_back e1 hl) (Mu.ex (e1.trans e2)) ((h.ex (e1.trans e2)).le (by omega)) (Nat.zero_le _) (fun o ho => nomatch ho) hx
    · rw [decide_eq_false hw]
      have h1 := h.ex e1
      have hp1 := hp.ex e1
      obtain ⟨po, hpo⟩ : ∃ o, H1 p = some o := by
        obtain ⟨xs, r, a⟩ := Is.lst_inv hp1
        exact rd_some r
      rw [if_pos (show (!false) = true from rfl)]
      refine en_lcP (K := K) (L := [d]) (n := m) (item := fun i => .int (i : Int)) (fun i ds H' => Dr K H' d sA sc (n + (i : Int)) ∧ Is K H' (.ref p) (.lst (iL ws)) ∧ ∃ O : List Int, ds = iL O ∧ O.length = i ∧ ∀ o ∈ O, o ∈ ws) (by exact EvI.is (ei_r1 (n := (m : Int)) (ea1 (ed_var rfl (.int _)) ea0) (by omega)) (by omega)) (fun l hl => by rw [List.mem_singleton.mp hl]; exact h1.some.1) (by omega) (fun i ds D Ha Hb hD ⟨ha, hb, hc⟩ mu => ⟨ha.mu mu (frD h1 hD).1 (frD h1 hD).2, Is.mul hb mu (fun z => by (rw [List.mem_singleton.mp z, hD] at hpo; cases hpo)) (iLlf ws), hc⟩) ⟨h1.le (by omega), hp1, [], rfl, rfl, fun a ha => nomatch ha⟩ ?_ ?_
      · rintro i ds x H3 hi ⟨h3, hp3, O, rfl, hO, hOb⟩ mu3 ax Y N hY hN
        refine ⟨rfl, ?_⟩
        refine em_pick (K := K) (ds := iL ws) h3 (by omega) hp3 ne (by unfold iL; simpa using hw) (iLlf ws) (ev_ref rfl) (ev_ref rfl) fun v H4 e mu4 h4 he av => ?_
        obtain ⟨o, ho, rfl⟩ := List.mem_map.mp he
        refine hY _ _ _ rfl av ⟨h4.le (by omega), Is.mul hp3 mu4 (by simpa using ne) (iLlf ws), O ++ [o], by unfold iL; rw [List.map_append]; rfl, by rw [List.length_append, hO]; rfl, fun z hz => ?_⟩ mu4
        rcases List.mem_append.mp hz with hz | hz
        · exact hOb z hz
        · rw [List.mem_singleton.mp hz]
          exact ho
      · rintro l xs ds H3 hl mu3 ⟨h3, hp3, O, rfl, hO, hOb⟩ hx ax
        have xs1 := allIL ax
        subst xs1
        exact q O l H3 (fresh_back e1 hl) ((Mu.ex e1).trans mu3) h3 (by omega) hOb hx

end
end My
end
section
set_option Elab.async false
set_option linter.all false
set_option maxRecDepth 100000
set_option maxHeartbeats 4000000
namespace My
open PySem PySem.Spec PyProof.Rows L2 Evl WD
local macro_rules | `(tactic| walk_at "exgo") => `(tactic| first | exact Ex.refl _ | assumption | (refine' Ex.trans ?ea ?eb; (case eb => assumption); (case ea => walk_at "exgo")))
local macro_rules | `(tactic| walk_at "is") => `(tactic| first | assumption | (refine' Is.ex ?e ?h; (case h => assumption); (case e => walk_at "exgo")) | exact Is.int _ | exact Is.bl _ | exact Is.non)
local macro_rules | `(tactic| walk_at "ev") => `(tactic| first
  | exact ed_int | exact ed_bl | exact ed_non | exact ed_str
  | ((with_reducible apply ed_var) <;> first | exact rfl | walk_at "is")
  | ((with_reducible apply ed_add) <;> walk_at "ev")
  | ((with_reducible apply ed_sub) <;> walk_at "ev")
  | ((with_reducible apply ed_neg) <;> walk_at "ev")
  | ((with_reducible apply ed_mulW) <;> try walk_at "ev")
  | ((with_reducible apply ed_divW) <;> try walk_at "ev")
  | ((with_reducible apply ed_mod) <;> try walk_at "ev")
  | ((with_reducible apply ed_ixT) <;> first | exact rfl | walk_at "ev" | skip)
  | ((with_reducible apply ed_ixL) <;> first | exact rfl | walk_at "ev" | skip)
  | ((with_reducible apply ed_lt) <;> walk_at "ev")
  | ((with_reducible apply ed_le) <;> walk_at "ev")
  | ((with_reducible apply ed_gt) <;> walk_at "ev")
  | ((with_reducible apply ed_ge) <;> walk_at "ev")
  | ((with_reducible apply ed_eqI) <;> walk_at "ev")
  | ((with_reducible apply ed_neI) <;> walk_at "ev")
  | ((with_reducible apply ed_gcd) <;> walk_at "ev")
  | ((with_reducible apply ed_abs) <;> walk_at "ev")
  | ((with_reducible apply ed_intI) <;> walk_at "ev")
  | ((with_reducible apply ed_intB) <;> walk_at "ev")
  | ((with_reducible apply ed_max2) <;> walk_at "ev")
  | ((with_reducible apply ed_min2) <;> walk_at "ev")
  | ((with_reducible apply ed_lenT) <;> walk_at "ev")
  | ((with_reducible apply ed_lenL) <;> walk_at "ev")
  | ((with_reducible apply ed_tuple) <;> walk_at "ev")
  | ((with_reducible apply ed_tupleT) <;> walk_at "ev")
  | ((with_reducible apply ed_tup) <;> first | walk_at "ea" | (simp; done) | skip)
  | ((with_reducible apply et_t) <;> walk_at "ev")
  | ((with_reducible apply et_v) <;> walk_at "ev"))
local macro_rules | `(tactic| walk_at "ea") => `(tactic| first
  | exact ea0
  | ((with_reducible apply ea1) <;> first | walk_at "ev" | walk_at "ea" | skip))

section
variable {P : Program} {w : World} {K : PySem.W.Frag} {mg : Str → Option Value} {base : Heap}
theorem mean_of {a b : Int} (ha : 1 ≤ a) (hb : 1 ≤ b) (s0 x y : Rat) : ((b : Rat) * s0 + (a : Rat) * (s0 + x + y)) / ((a + b : Int) : Rat) = s0 + x + ((x + y) * mkRat 1 (a + b).toNat * (a : Rat) - x) * 1 := by
  have c1 : ((a + b : Int) : Rat) ≠ 0 := by exact_mod_cast (show (a + b : Int) ≠ 0 by omega)
  have h1 : (((a + b).toNat : Nat) : Rat) = ((a + b : Int) : Rat) := by
    have h2 : (((a + b).toNat : Nat) : Rat) = ((((a + b).toNat : Nat) : Int) : Rat) := rfl
    rw [h2, Int.toNat_of_nonneg (by omega)]
  rw [Rat.mkRat_eq_div, h1]
  have h3 : ((1 : Int) : Rat) = 1 := rfl
  rw [h3]
  rw [Rat.intCast_add] at c1 ⊢
  grind
/-- an opening of the row is the evening of the line -/
theorem sms_opn {A : List Int} {v : List Rat} {w : Nat} (h1 : 1 ≤ w) (h2 : w < A.length) (hv : v.length = A.length) (ar : ∀ a ∈ A, 1 ≤ a ∧ a ≤ 1000) : sms (opn A v w 1) = evn A (sms v) w := by
  have ln := opn_len (L := []) h1 h2 hv ar 1
  have ha := ar _ (gd_mem (z := 1) (show w - 1 < A.length by omega))
  have hb := ar _ (gd_mem (z := 1) h2)
  refine List.ext_getElem (by rw [evn_len, sms_len, sms_len, ln]) fun j j1 j2 => ?_
  rw [sms_len, ln] at j1
  rw [← getD_in (z := (0 : Rat)), ← getD_in (z := (0 : Rat)), sms_get (by rw [ln]; omega), S_opn h1 h2 hv ar 1 j]
  by_cases e : j = w
  · subst e
    rw [if_pos rfl]
    have x1 := S_succ v (j - 1) (by omega)
    have x2 := S_succ v j (by omega)
    rw [show j - 1 + 1 = j from by omega, ← getD_in (z := (0 : Rat)) (show j - 1 < v.length by omega)] at x1
    rw [← getD_in (z := (0 : Rat)) (show j < v.length by omega)] at x2
    have ev : (evn A (sms v) j).getD j 0 = (((A.getD j 1 : Int) : Rat) * (sms v).getD (j - 1) 0 + ((A.getD (j - 1) 1 : Int) : Rat) * (sms v).getD (j + 1) 0) / ((A.getD (j - 1) 1 + A.getD j 1 : Int) : Rat) := by
      unfold evn
      rw [List.getD_eq_getElem?_getD, List.getElem?_set_self (by rw [sms_len]; omega)]
      rfl
    rw [ev, sms_get (show j - 1 ≤ v.length by omega), sms_get (show j + 1 ≤ v.length by omega), x2, x1]
    exact (mean_of ha.1 hb.1 _ _ _).symm
  · rw [if_neg e, evn_ne e, sms_get (by omega)]
/-- the volumes behind the first openings -/
def rws (A : List Int) (v : List Rat) (O : List Int) (k : Nat) : List Rat := (O.take k).foldl (fun v o => opn A v o.toNat 1) v
theorem rws_succ (A : List Int) (v : List Rat) (O : List Int) (k : Nat) (h : k < O.length) : rws A v O (k + 1) = opn A (rws A v O k) O[k].toNat 1 := by
  unfold rws
  rw [List.take_succ_eq_append_getElem h, List.foldl_append]
  rfl
/-- openings of a row that can be done -/
def canO (A : List Int) (O : List Int) : Prop := ∀ o ∈ O, ∃ w : Nat, o = (w : Int) ∧ 1 ≤ w ∧ w < A.length
theorem rws_ok {A : List Int} {v : List Rat} {O : List Int} {M W : Nat} (h : RowOk A v M W) (a4 : ∀ a ∈ A, a ≤ 4) (hO : canO A O) (hM : M * 8 ^ O.length < 2 ^ 400) : ∀ k, k ≤ O.length → ∃ M', M' ≤ M * 8 ^ k ∧ RowOk A (rws A v O k) M' W
  | 0, _ => ⟨M, by simp, h⟩
  | k + 1, hk => by
    obtain ⟨M', l, r⟩ := rws_ok h a4 hO hM k (by omega)
    obtain ⟨w, hw, w1, w2⟩ := hO O[k] (List.getElem_mem (by omega))
    rw [rws_succ A v O k (by omega), hw, Int.toNat_natCast]
    have m1 := a4 _ (gd_mem (z := 1) (show w - 1 < A.length by omega))
    have m2 := a4 _ (gd_mem (z := 1) w2)
    have e : M' * (A.getD (w - 1) 1 + A.getD w 1).toNat * 1 ≤ M * 8 ^ (k + 1) := by
      rw [Nat.mul_one, Nat.pow_succ, ← Nat.mul_assoc]
      exact Nat.mul_le_mul l (by omega)
    have e2 : M * 8 ^ (k + 1) ≤ M * 8 ^ O.length := Nat.mul_le_mul_left _ (Nat.pow_le_pow_right (by decide) hk)
    exact ⟨_, e, r.opn (s := 1) (Ds := 1) w1 w2 (by decide) (by decide) (by decide) ⟨1, rfl⟩ (Nat.lt_of_le_of_lt (Nat.le_trans e e2) hM)⟩
theorem rws_len {A : List Int} {v : List Rat} {O : List Int} (lv : v.length = A.length) (ar : ∀ a ∈ A, 1 ≤ a ∧ a ≤ 1000) (hO : canO A O) : ∀ k, k ≤ O.length → (rws A v O k).length = A.length
  | 0, _ => lv
  | k + 1, hk => by
    have l := rws_len lv ar hO k (by omega)
    obtain ⟨w, hw, w1, w2⟩ := hO O[k] (List.getElem_mem (by omega))
    rw [rws_succ A v O k (by omega), hw, Int.toNat_natCast, opn_len (L := []) w1 w2 l ar 1, l]
theorem lns_rws {A : List Int} {v : List Rat} {O : List Int} (lv : v.length = A.length) (ar : ∀ a ∈ A, 1 ≤ a ∧ a ≤ 1000) (hO : canO A O) : ∀ k, k ≤ O.length → lns A v O k = sms (rws A v O k)
  | 0, _ => rfl
  | k + 1, hk => by
    have l := rws_len lv ar hO k (by omega)
    obtain ⟨w, hw, w1, w2⟩ := hO O[k] (List.getElem_mem (by omega))
    rw [lns_succ A v O k (by omega), rws_succ A v O k (by omega), lns_rws lv ar hO k (by omega), hw, Int.toNat_natCast, sms_opn w1 w2 l ar]
theorem nms_eq {A : List Int} {v : List Rat} {O : List Int} (lv : v.length = A.length) (ar : ∀ a ∈ A, 1 ≤ a ∧ a ≤ 1000) (hO : canO A O) : nms A v O O.length = (List.range (O.length + 1)).map fun k => ((cc (lsg (hts A (rws A v O k))) : Nat) : Int) := by
  unfold nms
  refine List.map_congr_left fun k hk => ?_
  have hk := List.mem_range.mp hk
  rw [chg_eq, lns_rws lv ar hO k (by omega), lsg_eq (rws_len lv ar hO k (by omega)) ar]
theorem trn_rws {A : List Int} {v : List Rat} {O : List Int} (lv : v.length = A.length) (ar : ∀ a ∈ A, 1 ≤ a ∧ a ≤ 1000) (hO : canO A O) {k : Nat} (hk : k < O.length) : trn A (rws A v O (k + 1)) ≤ trn A (rws A v O k) := by
  obtain ⟨w, hw, w1, w2⟩ := hO O[k] (List.getElem_mem hk)
  rw [rws_succ A v O k hk, hw, Int.toNat_natCast]
  exact trn_opn w1 w2 (rws_len lv ar hO k (by omega)) ar (by decide) (by decide)
/-- the numbers never rise -/
theorem nms_sorted {A : List Int} {v : List Rat} {O : List Int} (lv : v.length = A.length) (ar : ∀ a ∈ A, 1 ≤ a ∧ a ≤ 1000) (hO : canO A O) : (nms A v O O.length).Pairwise (fun a b => b ≤ a) := by
  have mono : ∀ i j, i ≤ j → j ≤ O.length → trn A (rws A v O j) ≤ trn A (rws A v O i) := by
    intro i j
    induction j with
    | zero =>
      intro h _
      have : i = 0 := by omega
      subst this
      exact Nat.le_refl _
    | succ j ih =>
      intro h1 h2
      by_cases e : i = j + 1
      · subst e
        exact Nat.le_refl _
      · exact Nat.le_trans (trn_rws lv ar hO (by omega)) (ih (by omega) (by omega))
  rw [List.pairwise_iff_getElem]
  intro i j hi hj hij
  unfold nms at hi hj ⊢
  rw [List.length_map, List.length_range] at hi hj
  rw [List.getElem_map, List.getElem_map, List.getElem_range, List.getElem_range, lns_rws lv ar hO i (by omega), lns_rws lv ar hO j (by omega)]
  have := mono i j (by omega) (by omega)
  unfold trn at this
  exact Int.ofNat_le.mpr this
/-- a row that rises at no weir -/
def fal (A : List Int) (v : List Rat) : Prop := ∀ w, 1 ≤ w → w < A.length → rise A (sms v) w ≤ 0
theorem fal_opn {A : List Int} {v : List Rat} {w : Nat} (h1 : 1 ≤ w) (h2 : w < A.length) (hv : v.length = A.length) (ar : ∀ a ∈ A, 1 ≤ a ∧ a ≤ 1000) {s : Rat} (s0 : 0 ≤ s) (s1 : s ≤ 1) (h : fal A v) : fal A (opn A v w s) := by
  obtain ⟨c, c0, r0, r1, r2, r3⟩ := rise_opn h1 h2 hv ar s
  have sc : 0 ≤ s * c := Rat.mul_nonneg s0 (Rat.le_of_lt c0)
  have rw0 := h w h1 h2
  have pos : ∀ j, j < A.length → 0 ≤ s * c * ((A.getD j 1 : Int) : Rat) * (-rise A (sms v) w) := fun j hj => by
    have := ar _ (gd_mem (z := 1) hj)
    refine Rat.mul_nonneg (Rat.mul_nonneg sc ?_) (by grind)
    exact_mod_cast (show (0 : Int) ≤ A.getD j 1 by omega)
  intro k k1 k2
  by_cases e : k = w
  · subst e
    rw [r3]
    have := Rat.mul_nonneg (show 0 ≤ 1 - s by grind) (show 0 ≤ -rise A (sms v) k by grind)
    grind
  · by_cases e1 : k = w - 1
    · rw [e1, r1 (by omega)]
      have a := h (w - 1) (by omega) (by omega)
      have b := pos (w - 2) (by omega)
      grind
    · by_cases e2 : k = w + 1
      · rw [e2, r2 (by omega)]
        have a := h (w + 1) (by omega) (by omega)
        have b := pos (w + 1) (by omega)
        grind
      · rw [r0 k (by omega) e1 e e2]
        exact h k k1 k2
theorem fal_signs {A : List Int} {v : List Rat} (h : fal A v) : (1 : Int) ∉ (sgs A (sms v)).filter fun x => !decide (x = 0) := by
  intro hm
  have hm := (List.mem_filter.mp hm).1
  unfold sgs at hm
  obtain ⟨i, hi, e⟩ := List.mem_map.mp hm
  have hi := List.mem_range.mp hi
  have := h (i + 1) (by omega) (by omega)
  unfold sg at e
  rw [if_neg (by grind)] at e
  split at e <;> omega

end
end My
end
section
set_option Elab.async false
set_option linter.all false
set_option maxRecDepth 100000
set_option maxHeartbeats 4000000
namespace My
open PySem PySem.Spec PyProof.Rows L2 Evl WD
local macro_rules | `(tactic| walk_at "exgo") => `(tactic| first | exact Ex.refl _ | assumption | (refine' Ex.trans ?ea ?eb; (case eb => assumption); (case ea => walk_at "exgo")))
local macro_rules | `(tactic| walk_at "is") => `(tactic| first | assumption | (refine' Is.ex ?e ?h; (case h => assumption); (case e => walk_at "exgo")) | exact Is.int _ | exact Is.bl _ | exact Is.non)
local macro_rules | `(tactic| walk_at "ev") => `(tactic| first
  | exact ed_int | exact ed_bl | exact ed_non | exact ed_str
  | ((with_reducible apply ed_var) <;> first | exact rfl | walk_at "is")
  | ((with_reducible apply ed_add) <;> walk_at "ev")
  | ((with_reducible apply ed_sub) <;> walk_at "ev")
  | ((with_reducible apply ed_neg) <;> walk_at "ev")
  | ((with_reducible apply ed_mulW) <;> try walk_at "ev")
  | ((with_reducible apply ed_divW) <;> try walk_at "ev")
  | ((with_reducible apply ed_mod) <;> try walk_at "ev")
  | ((with_reducible apply ed_ixT) <;> first | exact rfl | walk_at "ev" | skip)
  | ((with_reducible apply ed_ixL) <;> first | exact rfl | walk_at "ev" | skip)
  | ((with_reducible apply ed_lt) <;> walk_at "ev")
  | ((with_reducible apply ed_le) <;> walk_at "ev")
  | ((with_reducible apply ed_gt) <;> walk_at "ev")
  | ((with_reducible apply ed_ge) <;> walk_at "ev")
  | ((with_reducible apply ed_eqI) <;> walk_at "ev")
  | ((with_reducible apply ed_neI) <;> walk_at "ev")
  | ((with_reducible apply ed_gcd) <;> walk_at "ev")
  | ((with_reducible apply ed_abs) <;> walk_at "ev")
  | ((with_reducible apply ed_intI) <;> walk_at "ev")
  | ((with_reducible apply ed_intB) <;> walk_at "ev")
  | ((with_reducible apply ed_max2) <;> walk_at "ev")
  | ((with_reducible apply ed_min2) <;> walk_at "ev")
  | ((with_reducible apply ed_lenT) <;> walk_at "ev")
  | ((with_reducible apply ed_lenL) <;> walk_at "ev")
  | ((with_reducible apply ed_tuple) <;> walk_at "ev")
  | ((with_reducible apply ed_tupleT) <;> walk_at "ev")
  | ((with_reducible apply ed_tup) <;> first | walk_at "ea" | (simp; done) | skip)
  | ((with_reducible apply et_t) <;> walk_at "ev")
  | ((with_reducible apply et_v) <;> walk_at "ev"))
local macro_rules | `(tactic| walk_at "ea") => `(tactic| first
  | exact ea0
  | ((with_reducible apply ea1) <;> first | walk_at "ev" | walk_at "ea" | skip))

section
variable {P : Program} {w : World} {K : PySem.W.Frag} {mg : Str → Option Value} {base : Heap}
/-- the weirs that are not even -/
def edg (A : List Int) (s : List Rat) : List Int := ((List.range (A.length - 1)).filter fun i => !decide ((sgs A s).getD i 0 = 0)).map fun i : Nat => 1 + (i : Int)
def flt (A : List Int) (s : List Rat) : List (Int × Int) := (0 :: edg A s).zip (edg A s ++ [(A.length : Int)])
def R_flats (ds es : List D) : Prop := ∃ A v L M W, ds = [rowD A v L] ∧ RowOk A v M W ∧ es = (flt A (sms v)).map fun p => .tup [.int p.1, .int p.2]
theorem edg_len (A : List Int) (s : List Rat) : (edg A s).length ≤ A.length - 1 := by
  unfold edg
  rw [List.length_map]
  refine Nat.le_trans (List.length_filter_le _ _) ?_
  rw [List.length_range]
  exact Nat.le_refl _
theorem ok_flats (T : Txt K mg) : FnG P w K mg base 6 (He.ga K "flats") ["row"] (spN K R_flats) := by
  refine fnG (N := ["row", "told", "ends", "weir"]) (st := s_flats) T.f_flats sc_flats (fun vs H Q E h => ?_) (fun _ _ _ _ _ _ us hl => match us, hl with | [_], _ => rfl) (fun cdv A outer s H vs Q E hr h => ⟨_, (pss_cons (ps_expr (pe_callG (ok_check_row T) (hr.mono (by decide)) (by rfl) T.m_check_row (pa_cons (pv 0) pa_nil))) (pss_cons (ps_asg (pe_callG (ok_all_signs T) (hr.mono (by decide)) (by rfl) T.m_all_signs (pa_cons (pe_callG (ok_line_of T) (hr.mono (by decide)) (by rfl) T.m_line_of (pa_cons (pv 0) pa_nil)) pa_nil)) (pg_name (i := 1) sc_flats.nd rfl (.inr rfl))) (pss_cons (ps_setLc (i := 2) (own := [("weir", 3)]) rfl sc_flats.nd rfl rfl (sw_true rfl rfl rfl (by decide +kernel)) (pi_range2 (by rfl) T.z_range (pa_cons pe_int (pa_cons (pe_callB (lenO_of (ok_Row___len__ T) T.x_Row___len__ (hr.mono (by decide))) (by rfl) T.z_len PySem.boot_len (pa_cons (pv 0) pa_nil)) pa_nil))) (blkOk_by (own := [("weir", 3)]) (N := ["row", "told", "ends", "weir"]) (sc := defScope s_flats) (by decide +kernel)) (fun _ _ _ _ _ => (pg_name (i := 3) sc_flats.nd rfl (.inl rfl))) (fun _ _ _ _ _ => (pts_one (pt_cmpR op_ne (pe_ix (ixLK (K := K) rfl) (pv 1) (pe_op op_sub (pv 3) pe_int) (fun _ _ => rfl)) pe_int (nomark _)))) (fun _ _ _ _ _ => (pv 3))) (pss_one (ps_ret (ZL.pe_listZip rfl (pa_cons (pe_lst (pa_cons pe_int (StX.pa_star (pv 2) pa_nil))) (pa_cons (pe_lst (StX.pa_star (pv 2) (pa_cons (pe_callB (lenO_of (ok_Row___len__ T) T.x_Row___len__ (hr.mono (by decide))) (by rfl) T.z_len PySem.boot_len (pa_cons (pv 0) pa_nil)) pa_nil))) pa_nil)) (by rfl) T.z_list (by rfl) T.z_zip)))))), ?_⟩)
  · obtain ⟨ds, d, a, ⟨A, v, L, M, W, rfl, _⟩, _⟩ := h
    exact a.len
  · obtain ⟨ds, d, a, ⟨A, v, L, M, W, rfl, ok, rfl⟩, q⟩ := h
    obtain ⟨u, rfl, a1⟩ := All.inv1 a
    try dsimp only [cxOf, Cx.nox, Cx.wish]
    have al := ok.al
    refine q_do (ed_call (d := .non) (ea1 (ed_var rfl a1) ea0) ⟨_, rfl, rfl⟩) fun H1 e1 => ?_
    refine q_asgN (K := K) (en_signs (ed_var rfl (a1.ex e1)) ok) fun pt xt H2 hpt e2 hxt axt => ?_
    have E2 := e1.trans e2
    have sl := sgs_len A (sms v)
    have hv : ∀ H3, Ex H2 H3 → Is K H3 (.ref pt) (.lst (iL (sgs A (sms v)))) := fun H3 e3 => .lst (.inl (e3 _ _ hxt)) (axt.ex e3)
    have hn : ∀ (y1 y2 : Option V) H3, Ex H2 H3 → EvD K (tCB (rLenO (He.ga K "Row") (spD K R_Row___len__) E0) (tCons (tVar 0) tNil)) [some u, some (.ref pt), y1, y2] H3 (.int (A.length : Int)) := fun y1 y2 H3 e3 => ed_lenO (ed_var rfl (a1.ex (E2.trans e3))) ⟨A, v, L, rfl, rfl⟩ (by omega)
    refine q_asgN (K := K) (ds := iL (edg A (sms v))) (EvN.is (en_lc1 (n := ((A.length : Int) - 1).toNat) (item := fun i => .int (1 + (i : Int))) (fun i => !decide ((sgs A (sms v)).getD i 0 = 0)) (fun i => .int (1 + (i : Int))) (fun H3 e3 => ei_r2 (ea1 ed_int (ea1 (hn _ _ H3 e3) ea0)) (by omega)) (by omega) (fun _ _ _ => rfl) (fun x => rfl) (fun i x H3 hi e3 ax => et_t (K := K) (ed_neI (K := K) (ed_ixL (d := .int ((sgs A (sms v)).getD i 0)) (ed_var rfl (hv H3 e3)) (ed_sub (ed_var rfl ax) ed_int) (by rw [show (1 + (i : Int) - 1) = ((i : Nat) : Int) from by omega]; exact at_iL0 (by rw [sl]; omega))) ed_int)) (fun i x H3 hi e3 ax _ => ed_var rfl ax)) ?_) fun pe xe H3 hpe e3 hxe axe => ?_
    · unfold gives edg iL
      rw [List.map_map, show ((A.length : Int) - 1).toNat = A.length - 1 from by omega]
      rfl
    · have hE : ∀ H4, Ex H3 H4 → Is K H4 (.ref pe) (.lst (iL (edg A (sms v)))) := fun H4 e4 => .lst (.inl (e4 _ _ hxe)) (axe.ex e4)
      have el := edg_len A (sms v)
      refine s_retN (K := K) (en_listZip (K := K) (xs := 0 :: edg A (sms v)) (ys := edg A (sms v) ++ [(A.length : Int)]) (EvN.toD (EvN.is (en_lst (ea1 ed_int (ea_star (ed_var rfl (hE H3 (Ex.refl H3))) ea0)) ?_) ?_)) (EvN.toD (EvN.is (en_lst (ea_star (ed_var rfl (hE H3 (Ex.refl H3))) (ea1 (hn _ _ H3 e3) ea0)) ?_) ?_)) (by simp)) fun p xs H4 hp e4 hx ax => q p xs H4 (fresh_back (E2.trans e3) hp) ((E2.trans e3).trans e4) hx ax
      · simp [iLlen]
        omega
      · simp [iL]
      · simp [iLlen]
        omega
      · simp [iL]

end
end My
end
section
set_option Elab.async false
set_option linter.all false
set_option maxRecDepth 100000
set_option maxHeartbeats 4000000
namespace My
open PySem PySem.Spec PyProof.Rows L2 Evl WD
local macro_rules | `(tactic| walk_at "exgo") => `(tactic| first | exact Ex.refl _ | assumption | (refine' Ex.trans ?ea ?eb; (case eb => assumption); (case ea => walk_at "exgo")))
local macro_rules | `(tactic| walk_at "is") => `(tactic| first | assumption | (refine' Is.ex ?e ?h; (case h => assumption); (case e => walk_at "exgo")) | exact Is.int _ | exact Is.bl _ | exact Is.non)
local macro_rules | `(tactic| walk_at "ev") => `(tactic| first
  | exact ed_int | exact ed_bl | exact ed_non | exact ed_str
  | ((with_reducible apply ed_var) <;> first | exact rfl | walk_at "is")
  | ((with_reducible apply ed_add) <;> walk_at "ev")
  | ((with_reducible apply ed_sub) <;> walk_at "ev")
  | ((with_reducible apply ed_neg) <;> walk_at "ev")
  | ((with_reducible apply ed_mulW) <;> try walk_at "ev")
  | ((with_reducible apply ed_divW) <;> try walk_at "ev")
  | ((with_reducible apply ed_mod) <;> try walk_at "ev")
  | ((with_reducible apply ed_ixT) <;> first | exact rfl | walk_at "ev" | skip)
  | ((with_reducible apply ed_ixL) <;> first | exact rfl | walk_at "ev" | skip)
  | ((with_reducible apply ed_lt) <;> walk_at "ev")
  | ((with_reducible apply ed_le) <;> walk_at "ev")
  | ((with_reducible apply ed_gt) <;> walk_at "ev")
  | ((with_reducible apply ed_ge) <;> walk_at "ev")
  | ((with_reducible apply ed_eqI) <;> walk_at "ev")
  | ((with_reducible apply ed_neI) <;> walk_at "ev")
  | ((with_reducible apply ed_gcd) <;> walk_at "ev")
  | ((with_reducible apply ed_abs) <;> walk_at "ev")
  | ((with_reducible apply ed_intI) <;> walk_at "ev")
  | ((with_reducible apply ed_intB) <;> walk_at "ev")
  | ((with_reducible apply ed_max2) <;> walk_at "ev")
  | ((with_reducible apply ed_min2) <;> walk_at "ev")
  | ((with_reducible apply ed_lenT) <;> walk_at "ev")
  | ((with_reducible apply ed_lenL) <;> walk_at "ev")
  | ((with_reducible apply ed_tuple) <;> walk_at "ev")
  | ((with_reducible apply ed_tupleT) <;> walk_at "ev")
  | ((with_reducible apply ed_tup) <;> first | walk_at "ea" | (simp; done) | skip)
  | ((with_reducible apply et_t) <;> walk_at "ev")
  | ((with_reducible apply et_v) <;> walk_at "ev"))
local macro_rules | `(tactic| walk_at "ea") => `(tactic| first
  | exact ea0
  | ((with_reducible apply ea1) <;> first | walk_at "ev" | walk_at "ea" | skip))

section
variable {P : Program} {w : World} {K : PySem.W.Frag} {mg : Str → Option Value} {base : Heap}
theorem edg_mem {A : List Int} {s : List Rat} {o : Int} (h : o ∈ edg A s) : ∃ j : Nat, o = 1 + (j : Int) ∧ j < A.length - 1 := by
  unfold edg at h
  obtain ⟨j, hj, rfl⟩ := List.mem_map.mp h
  exact ⟨j, rfl, List.mem_range.mp (List.mem_filter.mp hj).1⟩
theorem flt_mem {A : List Int} {s : List Rat} {p : Int × Int} (h : p ∈ flt A s) : (p.1 = 0 ∨ ∃ j : Nat, p.1 = 1 + (j : Int) ∧ j < A.length - 1) ∧ (p.2 = (A.length : Int) ∨ ∃ j : Nat, p.2 = 1 + (j : Int) ∧ j < A.length - 1) := by
  obtain ⟨p1, p2⟩ := p
  obtain ⟨h1, h2⟩ := List.of_mem_zip h
  refine ⟨?_, ?_⟩
  · rcases List.mem_cons.mp h1 with h1 | h1
    · exact .inl h1
    · exact .inr (edg_mem h1)
  · rcases List.mem_append.mp h2 with h2 | h2
    · exact .inr (edg_mem h2)
    · exact .inl (List.mem_singleton.mp h2)
def isPk (n : Nat) (S : List Int) (p : Int × Int) : Bool := (decide (p.1 = 0) || decide (S.getD (p.1 - 1).toNat 0 = 1)) && (decide (p.2 = (n : Int)) || decide (S.getD (p.2 - 1).toNat 0 = -1))
def pks (A : List Int) (s : List Rat) : List (Int × Int) := (flt A s).filter (isPk A.length (sgs A s))
def R_peaks (ds es : List D) : Prop := ∃ A v L M W, ds = [rowD A v L] ∧ RowOk A v M W ∧ es = (pks A (sms v)).map fun p => .tup [.int p.1, .int p.2]
theorem flt_len (A : List Int) (s : List Rat) (h : 1 ≤ A.length) : (flt A s).length ≤ A.length := by
  unfold flt
  rw [List.length_zip, List.length_cons, List.length_append]
  have := edg_len A s
  show min _ (_ + 1) ≤ _
  omega
theorem ok_peaks (T : Txt K mg) : FnG P w K mg base 7 (He.ga K "peaks") ["row"] (spN K R_peaks) := by
  refine fnG (N := ["row", "told", "first", "end"]) (st := s_peaks) T.f_peaks sc_peaks (fun vs H Q E h => ?_) (fun _ _ _ _ _ _ us hl => match us, hl with | [_], _ => rfl) (fun cdv A outer s H vs Q E hr h => ⟨_, (pss_cons (ps_expr (pe_callG (ok_check_row T) (hr.mono (by decide)) (by rfl) T.m_check_row (pa_cons (pv 0) pa_nil))) (pss_cons (ps_asg (pe_callG (ok_all_signs T) (hr.mono (by decide)) (by rfl) T.m_all_signs (pa_cons (pe_callG (ok_line_of T) (hr.mono (by decide)) (by rfl) T.m_line_of (pa_cons (pv 0) pa_nil)) pa_nil)) (pg_name (i := 1) sc_peaks.nd rfl (.inr rfl))) (pss_one (ps_ret (pe_lc (own := [("first", 2), ("end", 3)]) rfl sc_peaks.nd (pi_list (pe_callG (ok_flats T) (hr.mono (by decide)) (by rfl) T.m_flats (pa_cons (pv 0) pa_nil))) (blkOk_by (own := [("first", 2), ("end", 3)]) (N := ["row", "told", "first", "end"]) (sc := defScope s_peaks) (by decide +kernel)) (fun _ _ _ _ _ => (tupK (K := K) (n := 2) rfl rfl (pgs_cons (pg_name (i := 2) sc_peaks.nd rfl (.inl rfl)) (pgs_cons (pg_name (i := 3) sc_peaks.nd rfl (.inl rfl)) pgs_nil)))) (fun _ _ _ _ _ => (pts_one (PW.pt (pw_and (PW.pt (pw_or (pt_cmpR op_eq (pv 2) pe_int (nomark _)) (pw_or1 (pt_cmpR op_eq (pe_ix (ixLK (K := K) rfl) (pv 1) (pe_op op_sub (pv 2) pe_int) (fun _ _ => rfl)) pe_int (nomark _))))) (pw_and1 (PW.pt (pw_or (pt_cmpR op_eq (pv 3) (pe_callB (lenO_of (ok_Row___len__ T) T.x_Row___len__ (hr.mono (by decide))) (by rfl) T.z_len PySem.boot_len (pa_cons (pv 0) pa_nil)) (nomark _)) (pw_or1 (pt_cmpR op_eq (pe_ix (ixLK (K := K) rfl) (pv 1) (pe_op op_sub (pv 3) pe_int) (fun _ _ => rfl)) (pe_un un_neg pe_int) (nomark _)))))))))) (fun _ _ _ _ _ => (pe_tup (pa_cons (pv 2) (pa_cons (pv 3) pa_nil))))))))), ?_⟩)
  · obtain ⟨ds, d, a, ⟨A, v, L, M, W, rfl, _⟩, _⟩ := h
    exact a.len
  · obtain ⟨ds, d, a, ⟨A, v, L, M, W, rfl, ok, rfl⟩, q⟩ := h
    obtain ⟨u, rfl, a1⟩ := All.inv1 a
    try dsimp only [cxOf, Cx.nox, Cx.wish]
    have al := ok.al
    have fl := flt_len A (sms v) ok.a1
    refine q_do (ed_call (d := .non) (ea1 (ed_var rfl a1) ea0) ⟨_, rfl, rfl⟩) fun H1 e1 => ?_
    refine q_asgN (K := K) (en_signs (ed_var rfl (a1.ex e1)) ok) fun pt xt H2 hpt e2 hxt axt => ?_
    have E2 := e1.trans e2
    have sl := sgs_len A (sms v)
    have hv : ∀ H3, Ex H2 H3 → Is K H3 (.ref pt) (.lst (iL (sgs A (sms v)))) := fun H3 e3 => .lst (.inl (e3 _ _ hxt)) (axt.ex e3)
    have it : ∀ i, i < (flt A (sms v)).length → ((flt A (sms v)).map fun p => D.tup [.int p.1, .int p.2]).getD i .non = .tup [.int ((flt A (sms v)).getD i (0, 0)).1, .int ((flt A (sms v)).getD i (0, 0)).2] := fun i hi => by
      rw [getD_map _ _ _ hi, getD_in hi]
    refine s_retN (K := K) (EvN.is (en_lc2 (n := (flt A (sms v)).length) (c1 := fun i => .int ((flt A (sms v)).getD i (0, 0)).1) (c2 := fun i => .int ((flt A (sms v)).getD i (0, 0)).2) (fun i => isPk A.length (sgs A (sms v)) ((flt A (sms v)).getD i (0, 0))) (fun i => .tup [.int ((flt A (sms v)).getD i (0, 0)).1, .int ((flt A (sms v)).getD i (0, 0)).2])
      (fun H3 e3 => EvI.item (EvI.is (ei_list (es_new (en_call (K := K) (R := R_flats) (ea1 (ed_var rfl (a1.ex (E2.trans e3))) ea0) ⟨A, v, L, M, W, rfl, ok, rfl⟩) (fun l hl => nomatch hl)) (lfs_map _ (fun _ => rfl) _)) (List.length_map ..)) it) (by omega) (fun _ _ _ => rfl) (fun x y => rfl) (fun i x y H3 hi e3 ax ay => ?_) (fun i x y H3 hi e3 ax ay _ => ed_tup (ea1 (ed_var rfl ax) (ea1 (ed_var rfl ay) ea0)) (by show 2 ≤ 100000; decide))) ?_) fun p xs H' hp e hx ax => q p xs H' (fresh_back E2 hp) (E2.trans e) hx ax
    · have mem : (flt A (sms v)).getD i (0, 0) ∈ flt A (sms v) := gd_mem hi
      have fm := flt_mem mem
      revert ax ay fm
      generalize (flt A (sms v)).getD i (0, 0) = pr
      intro ax ay fm
      unfold isPk
      refine et_and (et_or (et_t (K := K) (ed_eqI (ed_var rfl ax) ed_int)) fun z => et_t (K := K) (ed_eqI (K := K) (ed_ixL (ed_var rfl (hv H3 e3)) (ed_sub (ed_var rfl ax) ed_int) ?_) ed_int)) fun _ => et_or (et_t (K := K) (ed_eqI (ed_var rfl ay) (ed_lenO (ed_var rfl (a1.ex (E2.trans e3))) ⟨A, v, L, rfl, rfl⟩ (by omega)))) fun z => et_t (K := K) (ed_eqI (K := K) (ed_ixL (ed_var rfl (hv H3 e3)) (ed_sub (ed_var rfl ay) ed_int) ?_) (ed_neg ed_int))
      · have z := of_decide_eq_false z
        rcases fm.1 with h | ⟨j, h, hj⟩
        · exact absurd h z
        · rw [h, show (1 + (j : Int) - 1) = ((j : Nat) : Int) from by omega, Int.toNat_natCast]
          exact at_iL0 (by rw [sl]; exact hj)
      · have z := of_decide_eq_false z
        rcases fm.2 with h | ⟨j, h, hj⟩
        · exact absurd h z
        · rw [h, show (1 + (j : Int) - 1) = ((j : Nat) : Int) from by omega, Int.toNat_natCast]
          exact at_iL0 (by rw [sl]; exact hj)
    · unfold gives pks
      have e : flt A (sms v) = (List.range (flt A (sms v)).length).map fun i => (flt A (sms v)).getD i (0, 0) := by
        refine List.ext_getElem (by simp) fun i h1 h2 => ?_
        rw [List.getElem_map, List.getElem_range, getD_in h1]
      conv => rhs; rw [e]
      rw [List.filter_map, List.map_map]
      rfl

end
end My
end
section
set_option Elab.async false
set_option linter.all false
set_option maxRecDepth 100000
set_option maxHeartbeats 4000000
namespace My
open PySem PySem.Spec PyProof.Rows L2 Evl WD
local macro_rules | `(tactic| walk_at "exgo") => `(tactic| first | exact Ex.refl _ | assumption | (refine' Ex.trans ?ea ?eb; (case eb => assumption); (case ea => walk_at "exgo")))
local macro_rules | `(tactic| walk_at "is") => `(tactic| first | assumption | (refine' Is.ex ?e ?h; (case h => assumption); (case e => walk_at "exgo")) | exact Is.int _ | exact Is.bl _ | exact Is.non)
local macro_rules | `(tactic| walk_at "ev") => `(tactic| first
  | exact ed_int | exact ed_bl | exact ed_non | exact ed_str
  | ((with_reducible apply ed_var) <;> first | exact rfl | walk_at "is")
  | ((with_reducible apply ed_add) <;> walk_at "ev")
  | ((with_reducible apply ed_sub) <;> walk_at "ev")
  | ((with_reducible apply ed_neg) <;> walk_at "ev")
  | ((with_reducible apply ed_mulW) <;> try walk_at "ev")
  | ((with_reducible apply ed_divW) <;> try walk_at "ev")
  | ((with_reducible apply ed_mod) <;> try walk_at "ev")
  | ((with_reducible apply ed_ixT) <;> first | exact rfl | walk_at "ev" | skip)
  | ((with_reducible apply ed_ixL) <;> first | exact rfl | walk_at "ev" | skip)
  | ((with_reducible apply ed_lt) <;> walk_at "ev")
  | ((with_reducible apply ed_le) <;> walk_at "ev")
  | ((with_reducible apply ed_gt) <;> walk_at "ev")
  | ((with_reducible apply ed_ge) <;> walk_at "ev")
  | ((with_reducible apply ed_eqI) <;> walk_at "ev")
  | ((with_reducible apply ed_neI) <;> walk_at "ev")
  | ((with_reducible apply ed_gcd) <;> walk_at "ev")
  | ((with_reducible apply ed_abs) <;> walk_at "ev")
  | ((with_reducible apply ed_intI) <;> walk_at "ev")
  | ((with_reducible apply ed_intB) <;> walk_at "ev")
  | ((with_reducible apply ed_max2) <;> walk_at "ev")
  | ((with_reducible apply ed_min2) <;> walk_at "ev")
  | ((with_reducible apply ed_lenT) <;> walk_at "ev")
  | ((with_reducible apply ed_lenL) <;> walk_at "ev")
  | ((with_reducible apply ed_tuple) <;> walk_at "ev")
  | ((with_reducible apply ed_tupleT) <;> walk_at "ev")
  | ((with_reducible apply ed_tup) <;> first | walk_at "ea" | (simp; done) | skip)
  | ((with_reducible apply et_t) <;> walk_at "ev")
  | ((with_reducible apply et_v) <;> walk_at "ev"))
local macro_rules | `(tactic| walk_at "ea") => `(tactic| first
  | exact ea0
  | ((with_reducible apply ea1) <;> first | walk_at "ev" | walk_at "ea" | skip))

section
variable {P : Program} {w : World} {K : PySem.W.Frag} {mg : Str → Option Value} {base : Heap}
/-- the law's flats behind k + 1 heights: those that are over, and where the last one begins -/
def fst' (hs : List Rat) : Nat → List (Int × Int) × Nat
  | 0 => ([], 0)
  | k + 1 => if hs.getD (fst' hs k).2 0 = hs.getD (k + 1) 0 then fst' hs k else ((fst' hs k).1 ++ [(((fst' hs k).2 : Int), ((k + 1 : Nat) : Int))], k + 1)
def lfl (hs : List Rat) : Nat → List (Int × Int)
  | 0 => []
  | k + 1 => (fst' hs k).1 ++ [(((fst' hs k).2 : Int), ((k + 1 : Nat) : Int))]
theorem fst_succ (hs : List Rat) (k : Nat) : fst' hs (k + 1) = if hs.getD (fst' hs k).2 0 = hs.getD (k + 1) 0 then fst' hs k else ((fst' hs k).1 ++ [(((fst' hs k).2 : Int), ((k + 1 : Nat) : Int))], k + 1) := rfl
theorem fst_le (hs : List Rat) : ∀ k, (fst' hs k).2 ≤ k
  | 0 => Nat.le_refl _
  | k + 1 => by
    unfold fst'
    split
    · exact Nat.le_succ_of_le (fst_le hs k)
    · exact Nat.le_refl _
theorem lfl_len (hs : List Rat) : ∀ k, (lfl hs k).length ≤ k
  | 0 => Nat.le_refl _
  | k + 1 => by
    have h : ∀ k, (fst' hs k).1.length ≤ k := by
      intro k
      induction k with
      | zero => exact Nat.le_refl _
      | succ k ih =>
        unfold fst'
        split
        · omega
        · rw [List.length_append]
          show _ + 1 ≤ _
          omega
    unfold lfl
    rw [List.length_append]
    have := h k
    show _ + 1 ≤ _
    omega
def prs (l : List (Int × Int)) : List D := l.map fun p => .tup [.int p.1, .int p.2]
theorem prs_lf (l : List (Int × Int)) : D.lfs (prs l) = true := lfs_map _ (fun _ => rfl) l
theorem prs_pys : ∀ l : List (Int × Int), D.pys (prs l) = l.map fun p => .tuple [.int p.1, .int p.2]
  | [] => rfl
  | p :: l => congrArg _ (prs_pys l)
theorem prs_fls : ∀ l : List (Int × Int), D.fls (prs l) = true
  | [] => rfl
  | p :: l => prs_fls l
theorem prs_lay : ∀ l : List (Int × Int), PyData.canLayAll0 (l.map fun p => PyData.tuple [.int p.1, .int p.2]) = true
  | [] => by simp [PyData.canLayAll0]
  | p :: l => by
    have := prs_lay l
    simp [PyData.canLayAll0, PyData.canLay0] at this ⊢
    exact this
theorem prs_dep : ∀ l : List (Int × Int), PyData.depthAll (l.map fun p => PyData.tuple [.int p.1, .int p.2]) ≤ 3
  | [] => by simp [PyData.depthAll]
  | p :: l => by
    have := prs_dep l
    simp [PyData.depthAll, PyData.depth] at this ⊢
    omega
theorem sh_prs (l : List (Int × Int)) : Sh (.lst (prs l)) := ⟨prs_fls l, by
  show SeqAt.shaped (.list (D.pys (prs l))) = true
  rw [prs_pys]
  unfold SeqAt.shaped
  have h1 := prs_lay l
  have h2 := prs_dep l
  simp [PyData.canLay0, PyData.depth, h1]
  omega⟩
theorem eqv_prs_nil (l : List (Int × Int)) : PyData.eqv (D.lst (prs l)).py (D.lst []).py = decide (l = []) := by
  show PyData.eqv (.list (D.pys (prs l))) (.list []) = _
  rw [prs_pys]
  cases l with
  | nil => simp [PyData.eqv, PyData.eqvAll]
  | cons p l => simp [PyData.eqv, PyData.eqvAll]
def R_law_flats (ds es : List D) : Prop := ∃ hs : List Rat, ds = [.lst (frs hs)] ∧ hs.length ≤ 24 ∧ es = prs (lfl hs hs.length)
theorem ok__law_flats (T : Txt K mg) : FnG P w K mg base 1 (He.ga K "_law_flats") ["heights"] (spN K R_law_flats) := by
  refine fnG (N := ["heights", "found", "basin", "height"]) (st := s__law_flats) T.f__law_flats sc__law_flats (fun vs H Q E h => ?_) (fun _ _ _ _ _ _ us hl => match us, hl with | [_], _ => rfl) (fun cdv A outer s H vs Q E hr h => ⟨_, (pss_cons (ps_asg (pe_lst pa_nil) (pg_name (i := 1) sc__law_flats.nd rfl (.inl rfl))) (pss_cons (ps_for PassesOwn.never rfl (pi_enum (by rfl) T.z_enumerate (pa_cons (pv 0) pa_nil)) (pg_tup rfl (pgs_cons (pg_name (i := 2) sc__law_flats.nd rfl (.inl rfl)) (pgs_cons (pg_name (i := 3) sc__law_flats.nd rfl (.inl rfl)) pgs_nil))) (pss_one (ps_if (PW.pt (pw_and (pt_cmpR (op_neD (hr.units)) (pv 1) (pe_lst pa_nil) (nomark _)) (pw_and1 (pt_cmpR (op_eqD (hr.units)) (pe_ix ix_list (pv 0) (pe_ix ix_tup (pe_ix ix_list (pv 1) (pe_un un_neg pe_int) (fun _ _ => rfl)) pe_int (fun _ _ => rfl)) (fun _ _ => rfl)) (pv 3) (nomark _))))) (pss_one (ps_asg (pe_tup (pa_cons (pe_ix ix_tup (pe_ix ix_list (pv 1) (pe_un un_neg pe_int) (fun _ _ => rfl)) pe_int (fun _ _ => rfl)) (pa_cons (pe_op op_add (pv 2) pe_int) pa_nil))) (pg_sub (pv 1) (pe_un un_neg pe_int) set_list))) (pss_one (ps_expr (pe_bm PySem.F.plainAttrs_list PySem.F.slot_list_append PySem.F.type_list_append mt_append (pv 1) (pa_cons (pe_tup (pa_cons (pv 2) (pa_cons (pe_op op_add (pv 2) pe_int) pa_nil))) pa_nil))))))) (pss_one (ps_ret (pv 1))))), ?_⟩)
  · obtain ⟨ds, d, a, ⟨hs, rfl, _⟩, _⟩ := h
    exact a.len
  · obtain ⟨ds, d, a, ⟨hs, rfl, hl, rfl⟩, q⟩ := h
    obtain ⟨u, rfl, a1⟩ := All.inv1 a
    try dsimp only [cxOf, Cx.nox, Cx.wish]
    refine q_asgN (K := K) (ds := []) (en_lst ea0) fun p xs H1 hp e1 hx ax => ?_
    refine q_for (K := K) (L := [p]) (n := hs.length) (item := fun i => .tup [.int (i : Int), (frs hs).getD i .non]) (EvI.is (ei_enum (es_var rfl a1 e1 (fun l hl => by rw [List.mem_singleton.mp hl]; exact hp)) (frs_lf hs)) (frs_len hs))
      (fun i σ' H' => ∃ y2 y3 ys, σ' = [some u, some (.ref p), y2, y3] ∧ Ex H H' ∧ H' p = some (.lst ys) ∧ All K H' ys (prs (lfl hs i))) (fun H2 e2 => ⟨none, none, xs, rfl, e1.trans e2, e2 _ _ hx, ax.ex e2⟩) ?_ ?_
    · rintro i z σ' H2 H3 hi ⟨y2, y3, ys, rfl, E2, hy, ay⟩ e3 az
      refine g_two az fun z1 z2 az1 az2 => ?_
      rw [getD_frs hs i hi] at az2
      have hy3 := e3 _ _ hy
      have ay3 := ay.ex e3
      have fv : ∀ H4, Ex H3 H4 → Is K H4 (.ref p) (.lst (prs (lfl hs i))) := fun H4 e4 => .lst (.inl (e4 _ _ hy3)) (ay3.ex e4)
      have hv : ∀ H4, Ex H3 H4 → Is K H4 u (.lst (frs hs)) := fun H4 e4 => a1.ex (((E2).trans e3).trans e4)
      have t1 : EvT (tTest (tOp (rNeD K) (tVar 1) (tLst tNil))) [some u, some (.ref p), some z1, some z2] H3 (!decide (lfl hs i = [])) := et_t (EvD.is (ed_neD (K := K) (ed_var rfl (fv H3 (Ex.refl H3))) (EvN.toD (en_lst ea0)) (sh_prs _) (sh_iL [])) (by rw [eqv_prs_nil]))
      have yl : ys.length = (lfl hs i).length := by
        rw [ay.len]
        exact List.length_map ..
      have ll := lfl_len hs i
      cases i with
      | zero =>
        refine s_if (b := !decide (lfl hs 0 = []) && true) (et_and t1 (fun z => by simp [lfl] at z)) (fun z => by simp [lfl] at z) (fun _ H4 e4 => ?_)
        refine s_appD (K := K) (d := .tup [.int 0, .int 1]) (e4 _ _ hy3) (ev_ref rfl) (EvD.is (ed_tup (K := K) (ea1 (ed_var rfl (az1.ex e4)) (ea1 (ed_add (ed_var rfl (az1.ex e4)) ed_int) ea0)) (by show 2 ≤ 100000; decide)) rfl) (by rw [yl]; omega) fun v H5 e5 av => ?_
        have h5 := (e4.trans e5) _ _ hy3
        refine ⟨⟨_, _, _, rfl, Ex.updN (((E2.trans e3).trans e4).trans e5) hp, upd_same, ?_⟩, (Mu.ex ((e3.trans e4).trans e5)).trans (Mu.upd (List.mem_singleton.mpr rfl) h5)⟩
        exact ((ay3.ex (e4.trans e5)).updL h5 (prs_lf _)).app (.cons (av.updL h5 rfl) .nil)
      | succ k =>
        have bl := fst_le hs k
        have hlf : lfl hs (k + 1) = (fst' hs k).1 ++ [(((fst' hs k).2 : Int), ((k + 1 : Nat) : Int))] := rfl
        have hne : decide (lfl hs (k + 1) = []) = false := decide_eq_false (by rw [hlf]; simp)
        have nx : lfl hs (k + 1 + 1) = if hs.getD (fst' hs k).2 0 = hs.getD (k + 1) 0 then (fst' hs k).1 ++ [(((fst' hs k).2 : Int), ((k + 1 + 1 : Nat) : Int))] else lfl hs (k + 1) ++ [(((k + 1 : Nat) : Int), ((k + 1 + 1 : Nat) : Int))] := by
          rw [hlf]
          show (fst' hs (k + 1)).1 ++ [(((fst' hs (k + 1)).2 : Int), ((k + 1 + 1 : Nat) : Int))] = _
          rw [fst_succ]
          by_cases c : hs.getD (fst' hs k).2 0 = hs.getD (k + 1) 0
          · rw [if_pos c, if_pos c]
          · rw [if_neg c, if_neg c]
        rw [nx]
        have pp : prs (lfl hs (k + 1)) = prs (fst' hs k).1 ++ [.tup [.int ((fst' hs k).2 : Int), .int ((k + 1 : Nat) : Int)]] := by
          rw [hlf]
          unfold prs
          rw [List.map_append]
          rfl
        have pl : (prs (lfl hs (k + 1))).length = (fst' hs k).1.length + 1 := by
          rw [pp, List.length_append]
          unfold prs
          rw [List.length_map]
          rfl
        generalize (fst' hs k).2 = b at pp nx bl
        generalize (fst' hs k).1 = pre at pp nx pl
        have fb : ∀ H4, Ex H3 H4 → EvD K (tOp (rIxT K) (tOp (rIxL K) (tVar 1) (tUn (rU fun i => .int (-i)) (tC (.int 1)))) (tC (.int 0))) [some u, some (.ref p), some z1, some z2] H4 (.int (b : Int)) := fun H4 e4 => ed_ixT (ed_ixL (ed_var rfl (fv H4 e4)) (ed_neg ed_int) (by rw [pp]; exact ix_last _ _)) ed_int rfl
        have t2 : EvT (tTest (tOp (rEqD K) (tOp (rIxL K) (tVar 0) (tOp (rIxT K) (tOp (rIxL K) (tVar 1) (tUn (rU fun i => .int (-i)) (tC (.int 1)))) (tC (.int 0)))) (tVar 3))) [some u, some (.ref p), some z1, some z2] H3 (decide (hs.getD b 0 = hs.getD (k + 1) 0)) := et_t (EvD.is (ed_eqD (K := K) (ed_ixL (d := fr (hs.getD b 0)) (ed_var rfl (hv H3 (Ex.refl H3))) (fb H3 (Ex.refl H3)) (at_frs (by omega))) (ed_var rfl az2) (sh_fr _) (sh_fr _)) (by rw [eqv_fr, getD_in hi]))
        rw [hne] at t1
        by_cases c : hs.getD b 0 = hs.getD (k + 1) 0
        · rw [decide_eq_true c] at t2
          rw [if_pos c]
          refine s_if (b := !false && true) (et_and t1 fun _ => t2) (fun _ H4 e4 => ?_) (fun z => nomatch z)
          refine s_setD (K := K) (d := .tup [.int (b : Int), .int ((k + 1 + 1 : Nat) : Int)]) (j := pre.length) (e4 _ _ hy3) (EvD.is (ed_tup (K := K) (ea1 (fb H4 e4) (ea1 (ed_add (ed_var rfl (az1.ex e4)) ed_int) ea0)) (by show 2 ≤ 100000; decide)) rfl) (ev_ref rfl) (EvD.is (ed_neg (K := K) ed_int) rfl) ?_ fun v H5 e5 av => ?_
          · rw [ay.len, pl]
            unfold ixN
            rw [if_neg (by decide), if_pos (by omega)]
            congr 1
            omega
          · have h5 := (e4.trans e5) _ _ hy3
            refine ⟨⟨_, _, _, rfl, Ex.updN (((E2.trans e3).trans e4).trans e5) hp, upd_same, ?_⟩, (Mu.ex ((e3.trans e4).trans e5)).trans (Mu.upd (List.mem_singleton.mpr rfl) h5)⟩
            have a5 := All.set (av.updL (o := .lst (ys.set pre.length v)) h5 rfl) pre.length ((ay3.ex (e4.trans e5)).updL (o := .lst (ys.set pre.length v)) h5 (prs_lf _))
            rw [pp] at a5
            have e6 : (prs pre ++ [D.tup [.int (b : Int), .int ((k + 1 : Nat) : Int)]]).set pre.length (.tup [.int (b : Int), .int ((k + 1 + 1 : Nat) : Int)]) = prs (pre ++ [((b : Int), ((k + 1 + 1 : Nat) : Int))]) := by
              unfold prs
              rw [List.map_append, List.set_append_right _ _ (by rw [List.length_map]; exact Nat.le_refl _), List.length_map, Nat.sub_self]
              rfl
            rw [e6] at a5
            exact a5
        · rw [decide_eq_false c] at t2
          rw [if_neg c]
          refine s_if (b := !false && false) (et_and t1 fun _ => t2) (fun z => nomatch z) (fun _ H4 e4 => ?_)
          refine s_appD (K := K) (d := .tup [.int ((k + 1 : Nat) : Int), .int ((k + 1 + 1 : Nat) : Int)]) (e4 _ _ hy3) (ev_ref rfl) (EvD.is (ed_tup (K := K) (ea1 (ed_var rfl (az1.ex e4)) (ea1 (ed_add (ed_var rfl (az1.ex e4)) ed_int) ea0)) (by show 2 ≤ 100000; decide)) rfl) (by rw [yl]; omega) fun v H5 e5 av => ?_
          have h5 := (e4.trans e5) _ _ hy3
          refine ⟨⟨_, _, _, rfl, Ex.updN (((E2.trans e3).trans e4).trans e5) hp, upd_same, ?_⟩, (Mu.ex ((e3.trans e4).trans e5)).trans (Mu.upd (List.mem_singleton.mpr rfl) h5)⟩
          have a5 := ((ay3.ex (e4.trans e5)).updL (o := .lst (ys ++ [v])) h5 (prs_lf _)).app (.cons (av.updL (o := .lst (ys ++ [v])) h5 rfl) .nil)
          have e6 : prs (lfl hs (k + 1) ++ [(((k + 1 : Nat) : Int), ((k + 1 + 1 : Nat) : Int))]) = prs (lfl hs (k + 1)) ++ [D.tup [.int ((k + 1 : Nat) : Int), .int ((k + 1 + 1 : Nat) : Int)]] := by
            unfold prs
            rw [List.map_append]
            rfl
          rw [e6]
          exact a5
    · rintro σ' H2 ⟨y2, y3, ys, rfl, E2, hy, ay⟩
      exact ⟨_, rfl, q p ys H2 hp E2 hy ay⟩

end
end My
end
section
set_option Elab.async false
set_option linter.all false
set_option maxRecDepth 100000
set_option maxHeartbeats 4000000
namespace My
open PySem PySem.Spec PyProof.Rows L2 Evl WD
local macro_rules | `(tactic| walk_at "exgo") => `(tactic| first | exact Ex.refl _ | assumption | (refine' Ex.trans ?ea ?eb; (case eb => assumption); (case ea => walk_at "exgo")))
local macro_rules | `(tactic| walk_at "is") => `(tactic| first | assumption | (refine' Is.ex ?e ?h; (case h => assumption); (case e => walk_at "exgo")) | exact Is.int _ | exact Is.bl _ | exact Is.non)
local macro_rules | `(tactic| walk_at "ev") => `(tactic| first
  | exact ed_int | exact ed_bl | exact ed_non | exact ed_str
  | ((with_reducible apply ed_var) <;> first | exact rfl | walk_at "is")
  | ((with_reducible apply ed_add) <;> walk_at "ev")
  | ((with_reducible apply ed_sub) <;> walk_at "ev")
  | ((with_reducible apply ed_neg) <;> walk_at "ev")
  | ((with_reducible apply ed_mulW) <;> try walk_at "ev")
  | ((with_reducible apply ed_divW) <;> try walk_at "ev")
  | ((with_reducible apply ed_mod) <;> try walk_at "ev")
  | ((with_reducible apply ed_ixT) <;> first | exact rfl | walk_at "ev" | skip)
  | ((with_reducible apply ed_ixL) <;> first | exact rfl | walk_at "ev" | skip)
  | ((with_reducible apply ed_lt) <;> walk_at "ev")
  | ((with_reducible apply ed_le) <;> walk_at "ev")
  | ((with_reducible apply ed_gt) <;> walk_at "ev")
  | ((with_reducible apply ed_ge) <;> walk_at "ev")
  | ((with_reducible apply ed_eqI) <;> walk_at "ev")
  | ((with_reducible apply ed_neI) <;> walk_at "ev")
  | ((with_reducible apply ed_gcd) <;> walk_at "ev")
  | ((with_reducible apply ed_abs) <;> walk_at "ev")
  | ((with_reducible apply ed_intI) <;> walk_at "ev")
  | ((with_reducible apply ed_intB) <;> walk_at "ev")
  | ((with_reducible apply ed_max2) <;> walk_at "ev")
  | ((with_reducible apply ed_min2) <;> walk_at "ev")
  | ((with_reducible apply ed_lenT) <;> walk_at "ev")
  | ((with_reducible apply ed_lenL) <;> walk_at "ev")
  | ((with_reducible apply ed_tuple) <;> walk_at "ev")
  | ((with_reducible apply ed_tupleT) <;> walk_at "ev")
  | ((with_reducible apply ed_tup) <;> first | walk_at "ea" | (simp; done) | skip)
  | ((with_reducible apply et_t) <;> walk_at "ev")
  | ((with_reducible apply et_v) <;> walk_at "ev"))
local macro_rules | `(tactic| walk_at "ea") => `(tactic| first
  | exact ea0
  | ((with_reducible apply ea1) <;> first | walk_at "ev" | walk_at "ea" | skip))

section
variable {P : Program} {w : World} {K : PySem.W.Frag} {mg : Str → Option Value} {base : Heap}
/-! ### both tell the same flats -/
def edk (hs : List Rat) (k : Nat) : List Int := ((List.range k).filter fun i => !decide (hs.getD i 0 = hs.getD (i + 1) 0)).map fun i : Nat => 1 + (i : Int)
theorem edk_succ (hs : List Rat) (k : Nat) : edk hs (k + 1) = if hs.getD k 0 = hs.getD (k + 1) 0 then edk hs k else edk hs k ++ [1 + (k : Int)] := by
  unfold edk
  rw [List.range_succ, List.filter_append, List.map_append]
  by_cases c : hs.getD k 0 = hs.getD (k + 1) 0
  · rw [if_pos c, List.filter_cons, if_neg (by rw [decide_eq_true c]; decide)]
    simp
  · rw [if_neg c, List.filter_cons, if_pos (by rw [decide_eq_false c]; rfl)]
    simp
theorem fst_edk (hs : List Rat) : ∀ k, ∃ pre : List Int, 0 :: edk hs k = pre ++ [((fst' hs k).2 : Int)] ∧ pre.length = (edk hs k).length ∧ (fst' hs k).1 = pre.zip (edk hs k) ∧ hs.getD (fst' hs k).2 0 = hs.getD k 0
  | 0 => ⟨[], rfl, rfl, rfl, rfl⟩
  | k + 1 => by
    obtain ⟨pre, h1, h2, h3, h4⟩ := fst_edk hs k
    rw [edk_succ, fst_succ, h4]
    by_cases c : hs.getD k 0 = hs.getD (k + 1) 0
    · rw [if_pos c, if_pos c]
      exact ⟨pre, h1, h2, h3, h4.trans c⟩
    · rw [if_neg c, if_neg c]
      have e : ((k + 1 : Nat) : Int) = 1 + (k : Int) := by omega
      refine ⟨pre ++ [((fst' hs k).2 : Int)], ?_, ?_, ?_, rfl⟩
      · rw [← List.cons_append, h1]
        show _ = _ ++ [((k + 1 : Nat) : Int)]
        rw [e]
      · rw [List.length_append, List.length_append, h2]
        rfl
      · show (fst' hs k).1 ++ [(((fst' hs k).2 : Int), ((k + 1 : Nat) : Int))] = _
        rw [List.zip_append h2, h3, e]
        rfl
theorem lfl_eq (hs : List Rat) (k : Nat) : lfl hs (k + 1) = (0 :: edk hs k).zip (edk hs k ++ [((k + 1 : Nat) : Int)]) := by
  obtain ⟨pre, h1, h2, h3, h4⟩ := fst_edk hs k
  rw [h1, List.zip_append h2, ← h3]
  rfl
theorem sg_zero {q : Rat} : sg q = 0 ↔ q = 0 := by
  unfold sg
  constructor
  · intro h
    by_cases a : 0 < q
    · rw [if_pos a] at h
      cases h
    · rw [if_neg a] at h
      by_cases b : q < 0
      · rw [if_pos b] at h
        cases h
      · exact Rat.le_antisymm (Rat.not_lt.mp a) (Rat.not_lt.mp b)
  · rintro rfl
    rfl
theorem edk_edg {A : List Int} {v : List Rat} (lv : v.length = A.length) (ar : ∀ a ∈ A, 1 ≤ a ∧ a ≤ 1000) : edk (hts A v) (A.length - 1) = edg A (sms v) := by
  unfold edk edg
  congr 1
  refine List.filter_congr fun i hi => ?_
  have hi := List.mem_range.mp hi
  congr 1
  have e : (sgs A (sms v)).getD i 0 = sg ((hts A v).getD (i + 1) 0 - (hts A v).getD i 0) := by
    rw [rise_hts lv ar (by omega), getD_in (by rw [sgs_len]; exact hi)]
    simp only [sgs, List.getElem_map, List.getElem_range]
  rw [e]
  refine decide_eq_decide.mpr ⟨fun h => ?_, fun h => ?_⟩
  · rw [h, Rat.sub_self]
    rfl
  · have := sg_zero.mp h
    grind
/-- the law's flats are the program's -/
theorem flt_lfl {A : List Int} {v : List Rat} (lv : v.length = A.length) (a1 : 1 ≤ A.length) (ar : ∀ a ∈ A, 1 ≤ a ∧ a ≤ 1000) : lfl (hts A v) (hts A v).length = flt A (sms v) := by
  rw [hts_len, lv]
  obtain ⟨n, hn⟩ : ∃ n, A.length = n + 1 := ⟨A.length - 1, by omega⟩
  rw [hn, lfl_eq]
  unfold flt
  have := edk_edg lv ar
  rw [hn, Nat.add_sub_cancel] at this
  rw [this, hn]

end
end My
end
section
set_option Elab.async false
set_option linter.all false
set_option maxRecDepth 100000
set_option maxHeartbeats 4000000
namespace My
open PySem PySem.Spec PyProof.Rows L2 Evl WD
local macro_rules | `(tactic| walk_at "exgo") => `(tactic| first | exact Ex.refl _ | assumption | (refine' Ex.trans ?ea ?eb; (case eb => assumption); (case ea => walk_at "exgo")))
local macro_rules | `(tactic| walk_at "is") => `(tactic| first | assumption | (refine' Is.ex ?e ?h; (case h => assumption); (case e => walk_at "exgo")) | exact Is.int _ | exact Is.bl _ | exact Is.non)
local macro_rules | `(tactic| walk_at "ev") => `(tactic| first
  | exact ed_int | exact ed_bl | exact ed_non | exact ed_str
  | ((with_reducible apply ed_var) <;> first | exact rfl | walk_at "is")
  | ((with_reducible apply ed_add) <;> walk_at "ev")
  | ((with_reducible apply ed_sub) <;> walk_at "ev")
  | ((with_reducible apply ed_neg) <;> walk_at "ev")
  | ((with_reducible apply ed_mulW) <;> try walk_at "ev")
  | ((with_reducible apply ed_divW) <;> try walk_at "ev")
  | ((with_reducible apply ed_mod) <;> try walk_at "ev")
  | ((with_reducible apply ed_ixT) <;> first | exact rfl | walk_at "ev" | skip)
  | ((with_reducible apply ed_ixL) <;> first | exact rfl | walk_at "ev" | skip)
  | ((with_reducible apply ed_lt) <;> walk_at "ev")
  | ((with_reducible apply ed_le) <;> walk_at "ev")
  | ((with_reducible apply ed_gt) <;> walk_at "ev")
  | ((with_reducible apply ed_ge) <;> walk_at "ev")
  | ((with_reducible apply ed_eqI) <;> walk_at "ev")
  | ((with_reducible apply ed_neI) <;> walk_at "ev")
  | ((with_reducible apply ed_gcd) <;> walk_at "ev")
  | ((with_reducible apply ed_abs) <;> walk_at "ev")
  | ((with_reducible apply ed_intI) <;> walk_at "ev")
  | ((with_reducible apply ed_intB) <;> walk_at "ev")
  | ((with_reducible apply ed_max2) <;> walk_at "ev")
  | ((with_reducible apply ed_min2) <;> walk_at "ev")
  | ((with_reducible apply ed_lenT) <;> walk_at "ev")
  | ((with_reducible apply ed_lenL) <;> walk_at "ev")
  | ((with_reducible apply ed_tuple) <;> walk_at "ev")
  | ((with_reducible apply ed_tupleT) <;> walk_at "ev")
  | ((with_reducible apply ed_tup) <;> first | walk_at "ea" | (simp; done) | skip)
  | ((with_reducible apply et_t) <;> walk_at "ev")
  | ((with_reducible apply et_v) <;> walk_at "ev"))
local macro_rules | `(tactic| walk_at "ea") => `(tactic| first
  | exact ea0
  | ((with_reducible apply ea1) <;> first | walk_at "ev" | walk_at "ea" | skip))

section
variable {P : Program} {w : World} {K : PySem.W.Frag} {mg : Str → Option Value} {base : Heap}
def lowOf (n : Nat) (p : Int × Int) : List Int := [p.1 - 1, p.2].filter fun b => decide (0 ≤ b) && decide (b < (n : Int))
def lpk (hs : List Rat) (p : Int × Int) : Bool := (lowOf hs.length p).all fun b => decide (hs.getD b.toNat 0 < hs.getD p.1.toNat 0)
def lpks (hs : List Rat) : List (Int × Int) := (lfl hs hs.length).filter (lpk hs)
theorem lfl_mem {hs : List Rat} : ∀ {k : Nat} {p : Int × Int}, p ∈ lfl hs k → 0 ≤ p.1 ∧ p.1 < (k : Int)
  | 0, p, h => nomatch h
  | k + 1, p, h => by
    have g : ∀ k, ∀ p ∈ (fst' hs k).1, 0 ≤ p.1 ∧ p.1 ≤ (k : Int) := by
      intro k
      induction k with
      | zero => intro p h; exact nomatch h
      | succ k ih =>
        intro p h
        rw [fst_succ] at h
        split at h
        · have := ih p h
          exact ⟨this.1, by omega⟩
        · rcases List.mem_append.mp h with h | h
          · have := ih p h
            exact ⟨this.1, by omega⟩
          · rw [List.mem_singleton.mp h]
            have := fst_le hs k
            exact ⟨Int.natCast_nonneg _, by show ((fst' hs k).2 : Int) ≤ ((k + 1 : Nat) : Int); omega⟩
    rcases List.mem_append.mp h with h | h
    · have := g k p h
      exact ⟨this.1, by omega⟩
    · rw [List.mem_singleton.mp h]
      have := fst_le hs k
      exact ⟨Int.natCast_nonneg _, by show ((fst' hs k).2 : Int) < ((k + 1 : Nat) : Int); omega⟩
def R_law_peaks (ds es : List D) : Prop := ∃ hs : List Rat, ds = [.lst (frs hs)] ∧ hs.length ≤ 24 ∧ (∀ q ∈ hs, Sm 4000 q) ∧ es = prs (lpks hs)
theorem q_parN {En : Ends} {tz : TS} {ta tb : TE} {σ : L2.St} {H : Hp} {i j : Nat} {ds es : List D} (ha : EvN K ta σ H ds) (hb : ∀ H1, Ex H H1 → EvN K tb σ H1 es) (k : ∀ p xs r ys H1, H p = none → H r = none → p ≠ r → Ex H H1 → H1 p = some (.lst xs) → All K H1 xs ds → H1 r = some (.lst ys) → All K H1 ys es → tz En ((σ.set i (some (.ref p))).set j (some (.ref r))) H1) : tSeq (tPar i j (tCons ta (tCons tb tNil))) tz En σ H :=
  ha H (Ex.refl H) _ fun p xs H1 hp e1 hx a => hb H1 e1 H1 (Ex.refl H1) _ fun r ys H2 hr e2 hy b => ⟨_, _, rfl, k p xs r ys H2 hp (fresh_back e1 hr) (fun z => by rw [← z, hx] at hr; cases hr) (e1.trans e2) (e2 _ _ hx) (a.ex e2) hy b⟩
theorem ed_all {te : TE} {σ : L2.St} {H : Hp} {bs : List Bool} (h : EvD K te σ H (.lst (bs.map D.bl))) : EvD K (tCB (rAll K) (tCons te tNil)) σ H (.bl (bs.all id)) := fun H1 e Q q =>
  h H1 e _ fun v H2 e2 a => by
    cases a with
    | lst r a =>
      have gen : ∀ (bs : List Bool) (vs : List V), All K H2 vs (bs.map D.bl) → vs = bs.map V.bl := by
        intro bs
        induction bs with
        | nil => intro vs h; cases h; rfl
        | cons b bs ih =>
          intro vs h
          cases h with
          | cons h1 h2 =>
            cases h1
            rw [ih _ h2]
            rfl
      rw [gen bs _ a] at r
      exact ⟨_, bs, rfl, .inl r, q _ H2 e2 (.bl _)⟩
theorem ok__law_peaks (T : Txt K mg) : FnG P w K mg base 2 (He.ga K "_law_peaks") ["heights"] (spN K R_law_peaks) := by
  refine fnG (N := ["heights", "told", "found", "first", "last", "low", "basin"]) (st := s__law_peaks) T.f__law_peaks sc__law_peaks (fun vs H Q E h => ?_) (fun _ _ _ _ _ _ us hl => match us, hl with | [_], _ => rfl) (fun cdv A outer s H vs Q E hr h => ⟨_, (pss_cons (ps_par (i := 1) (j := 2) (by rfl) sc__law_peaks.nd rfl rfl (by decide) rfl rfl (pa_cons (pe_callG (ok__law_flats T) (hr.mono (by decide)) (by rfl) T.m__law_flats (pa_cons (pv 0) pa_nil)) (pa_cons (pe_lst pa_nil) pa_nil)) (by rfl)) (pss_cons (ps_for PassesOwn.never rfl (pi_list (pv 1)) (pg_tup rfl (pgs_cons (pg_name (i := 3) sc__law_peaks.nd rfl (.inr rfl)) (pgs_cons (pg_name (i := 4) sc__law_peaks.nd rfl (.inl rfl)) pgs_nil))) (pss_cons (ps_setLc (i := 5) (own := [("basin", 6)]) rfl sc__law_peaks.nd rfl rfl (sw_true rfl rfl rfl (by decide +kernel)) (pi_tup (pe_tup (pa_cons (pe_op op_sub (pv 3) pe_int) (pa_cons (pv 4) pa_nil)))) (blkOk_by (own := [("basin", 6)]) (N := ["heights", "told", "found", "first", "last", "low", "basin"]) (sc := defScope s__law_peaks) (by decide +kernel)) (fun _ _ _ _ _ => (pg_name (i := 6) sc__law_peaks.nd rfl (.inl rfl))) (fun _ _ _ _ _ => (pts_one (pt_chain op_le op_lt pe_int (pv 6) (pe_callB (lenK (K := K) rfl) (by rfl) T.z_len PySem.boot_len (pa_cons (pv 0) pa_nil))))) (fun _ _ _ _ _ => (pv 6))) (pss_one (ps_if (pt_val (pe_callB (cr_all rfl) (by rfl) T.z_all (by decide +kernel) (pa_cons (pe_lc (own := [("basin", 6)]) rfl sc__law_peaks.nd (pi_list (pv 5)) (blkOk_by (own := [("basin", 6)]) (N := ["heights", "told", "found", "first", "last", "low", "basin"]) (sc := defScope s__law_peaks) (by decide +kernel)) (fun _ _ _ _ _ => (pg_name (i := 6) sc__law_peaks.nd rfl (.inl rfl))) (fun _ _ _ _ _ => pts_nil) (fun _ _ _ _ _ => (pe_callG (ok__law_less T) (hr.mono (by decide)) (by rfl) T.m__law_less (pa_cons (pe_ix (ixLK (K := K) rfl) (pv 0) (pv 6) (fun _ _ => rfl)) (pa_cons (pe_ix (ixLK (K := K) rfl) (pv 0) (pv 3) (fun _ _ => rfl)) pa_nil))))) pa_nil))) (pss_one (ps_expr (pe_bm PySem.F.plainAttrs_list PySem.F.slot_list_append PySem.F.type_list_append mt_append (pv 2) (pa_cons (pe_tup (pa_cons (pv 3) (pa_cons (pv 4) pa_nil))) pa_nil)))) pss_nil)))) (pss_one (ps_ret (pv 2))))), ?_⟩)
  · obtain ⟨ds, d, a, ⟨hs, rfl, _⟩, _⟩ := h
    exact a.len
  · obtain ⟨ds, d, a, ⟨hs, rfl, hl, sm, rfl⟩, q⟩ := h
    obtain ⟨u, rfl, a1⟩ := All.inv1 a
    try dsimp only [cxOf, Cx.nox, Cx.wish]
    have fll := lfl_len hs hs.length
    refine q_parN (K := K) (es := []) (en_call (R := R_law_flats) (ea1 (ed_var rfl a1) ea0) ⟨hs, rfl, hl, rfl⟩) (fun H1 e1 => en_lst ea0) fun pt xt p xs H1 hpt hp npt e1 hxt axt hx ax => ?_
    have it : ∀ i, i < (lfl hs hs.length).length → (prs (lfl hs hs.length)).getD i .non = .tup [.int ((lfl hs hs.length).getD i (0, 0)).1, .int ((lfl hs hs.length).getD i (0, 0)).2] := fun i hi => by
      unfold prs
      rw [getD_map _ _ _ hi, getD_in hi]
    refine q_for (K := K) (L := [p]) (n := (lfl hs hs.length).length) (item := fun i => .tup [.int ((lfl hs hs.length).getD i (0, 0)).1, .int ((lfl hs hs.length).getD i (0, 0)).2]) (EvI.item (EvI.is (ei_list (fun H2 e2 Q q => ⟨_, rfl, q pt xt H2 (Ex.refl H2) (.inl (e2 _ _ hxt)) (by simpa using npt) (axt.ex e2)⟩) (prs_lf _)) (List.length_map ..)) it)
      (fun i σ' H' => ∃ y3 y4 y5 ys, σ' = [some u, some (.ref pt), some (.ref p), y3, y4, y5, none] ∧ Ex H H' ∧ H' p = some (.lst ys) ∧ All K H' ys (prs (((lfl hs hs.length).take i).filter (lpk hs)))) (fun H2 e2 => ⟨none, none, none, xs, rfl, e1.trans e2, e2 _ _ hx, ax.ex e2⟩) ?_ ?_
    · rintro i z σ' H2 H3 hi ⟨y3, y4, y5, ys, rfl, E2, hy, ay⟩ e3 az
      refine g_two az fun z1 z2 az1 az2 => ?_
      have hy3 := e3 _ _ hy
      have ay3 := ay.ex e3
      have yl : ys.length ≤ 24 := by
        rw [ay.len]
        unfold prs
        rw [List.length_map]
        refine Nat.le_trans (List.length_filter_le _ _) ?_
        rw [List.length_take]
        omega
      have tk : (lfl hs hs.length).take (i + 1) = (lfl hs hs.length).take i ++ [(lfl hs hs.length).getD i (0, 0)] := by
        rw [List.take_succ_eq_append_getElem hi, getD_in hi]
      rw [tk, List.filter_append]
      have mem : (lfl hs hs.length).getD i (0, 0) ∈ lfl hs hs.length := gd_mem hi
      have lm := lfl_mem mem
      revert az1 az2 lm
      generalize (lfl hs hs.length).getD i (0, 0) = pr
      generalize ((lfl hs hs.length).take i).filter (lpk hs) = old at ay ay3 ⊢
      intro az1 az2 lm
      have hv : ∀ H4, Ex H3 H4 → Is K H4 u (.lst (frs hs)) := fun H4 e4 => a1.ex ((E2.trans e3).trans e4)
      refine q_asgN (K := K) (ds := iL (lowOf hs.length pr)) (EvN.is (en_lc1 (n := [pr.1 - 1, pr.2].length) (item := fun i => (iL [pr.1 - 1, pr.2]).getD i .non) (fun i => decide (0 ≤ [pr.1 - 1, pr.2].getD i 0) && decide ([pr.1 - 1, pr.2].getD i 0 < (hs.length : Int))) (fun i => .int ([pr.1 - 1, pr.2].getD i 0)) (fun H4 e4 => EvI.is (ei_tup (EvD.is (ed_tup (K := K) (ea1 (ed_sub (ed_var rfl (az1.ex e4)) ed_int) (ea1 (ed_var rfl (az2.ex e4)) ea0)) (by show 2 ≤ 100000; decide)) (show _ = D.tup (iL [pr.1 - 1, pr.2]) from rfl)) (iLlf _)) (iLlen _)) (by show 2 ≤ 50000; decide) (fun _ _ _ => rfl) (fun x => rfl) (fun i x H4 hi e4 bx => ?_) (fun i x H4 hi e4 bx _ => ?_)) (gives_iL fun b => decide (0 ≤ b) && decide (b < (hs.length : Int)))) fun pl xl H4 hpl e4 hxl al => ?_
      · rw [show (iL [pr.1 - 1, pr.2]).getD i .non = .int ([pr.1 - 1, pr.2].getD i 0) from by rw [show (iL [pr.1 - 1, pr.2]).getD i .non = D.int [pr.1 - 1, pr.2][i] from getD_map _ _ _ hi, getD_in hi]] at bx
        exact et_t (K := K) (ed_chain ed_int (ed_var rfl bx) rd_le (fun _ => EvD.is (ed_lenL (K := K) (ed_var rfl (hv H4 e4))) (by rw [frs_len])) (fun _ => rd_lt))
      · rw [show (iL [pr.1 - 1, pr.2]).getD i .non = .int ([pr.1 - 1, pr.2].getD i 0) from by rw [show (iL [pr.1 - 1, pr.2]).getD i .non = D.int [pr.1 - 1, pr.2][i] from getD_map _ _ _ hi, getD_in hi]] at bx
        exact ed_var rfl bx
      · have lw : ∀ b ∈ lowOf hs.length pr, 0 ≤ b ∧ b < (hs.length : Int) := fun b hb => by
          have := (List.mem_filter.mp hb).2
          rw [Bool.and_eq_true, decide_eq_true_iff, decide_eq_true_iff] at this
          exact this
        have lll : (lowOf hs.length pr).length ≤ 2 := List.length_filter_le _ _
        have et : EvT (tB (tCB (rAll K) (tCons (tLc (iList K (tVar 5)) (gName 6) tYes (tCall (spD K R_is_less) [] E0 (tCons (tOp (rIxL K) (tVar 0) (tVar 6)) (tCons (tOp (rIxL K) (tVar 0) (tVar 3)) tNil))) [6]) tNil))) [some u, some (.ref pt), some (.ref p), some z1, some z2, some (.ref pl), none] H4 (lpk hs pr) := by
          refine et_v (EvD.is (ed_all (bs := (lowOf hs.length pr).map fun b => decide (hs.getD b.toNat 0 < hs.getD pr.1.toNat 0)) (EvN.toD (EvN.is (en_lc1 (n := (lowOf hs.length pr).length) (item := fun i => (iL (lowOf hs.length pr)).getD i .non) (fun _ => true) (fun i => .bl (decide (hs.getD ((lowOf hs.length pr).getD i 0).toNat 0 < hs.getD pr.1.toNat 0))) (fun H5 e5 => EvI.is (ei_list (es_any (ed_var rfl (.lst (.inl (e5 _ _ hxl)) (al.ex e5)))) (iLlf _)) (iLlen _)) (by omega) (fun _ _ _ => rfl) (fun x => rfl) (fun i x H5 _ _ _ => et_yes) (fun i x H5 hi5 e5 bx _ => ?_)) ?_))) ?_)
          · rw [show (iL (lowOf hs.length pr)).getD i .non = .int ((lowOf hs.length pr).getD i 0) from by rw [show (iL (lowOf hs.length pr)).getD i .non = D.int (lowOf hs.length pr)[i] from getD_map _ _ _ hi5, getD_in hi5]] at bx
            have bm := lw _ (gd_mem (z := 0) hi5)
            generalize (lowOf hs.length pr).getD i 0 = b at bx bm
            obtain ⟨bn, rfl⟩ : ∃ bn : Nat, b = (bn : Int) := ⟨b.toNat, by omega⟩
            obtain ⟨fn, hfn⟩ : ∃ fn : Nat, pr.1 = (fn : Int) := ⟨pr.1.toNat, by omega⟩
            rw [hfn] at az1 lm ⊢
            rw [Int.toNat_natCast, Int.toNat_natCast]
            have g1 : bn < hs.length := by omega
            have g2 : fn < hs.length := by omega
            exact ed_call (R := R_is_less) (ea1 (ed_ixL (ed_var rfl (hv H5 (e4.trans e5))) (ed_var rfl bx) (at_frs g1)) (ea1 (ed_ixL (ed_var rfl (hv H5 (e4.trans e5))) (ed_var rfl (az1.ex (e4.trans e5))) (at_frs g2)) ea0)) ⟨_, _, rfl, sm _ (gd_mem g1), sm _ (gd_mem g2), rfl⟩
          · rw [gives_all, List.map_map]
            refine List.ext_getElem (by simp) fun i h1 h2 => ?_
            rw [List.length_map, List.length_range] at h1
            rw [List.getElem_map, List.getElem_range, List.getElem_map, getD_in h1]
            rfl
          · unfold lpk
            rw [List.all_map]
            rfl
        have hy4 := e4 _ _ hy3
        cases hc : lpk hs pr with
        | true =>
          rw [hc] at et
          refine s_when (b := true) et (fun _ H5 e5 => ?_) (fun z => nomatch z)
          refine s_appD (K := K) (d := .tup [.int pr.1, .int pr.2]) (e5 _ _ hy4) (ev_ref rfl) (ed_tup (ea1 (ed_var rfl (az1.ex (e4.trans e5))) (ea1 (ed_var rfl (az2.ex (e4.trans e5))) ea0)) (by show 2 ≤ 100000; decide)) (by omega) fun v H6 e6 av => ?_
          have h6 := (e5.trans e6) _ _ hy4
          refine ⟨⟨_, _, _, _, rfl, Ex.updN (((E2.trans e3).trans e4).trans (e5.trans e6)) hp, upd_same, ?_⟩, (Mu.ex ((e3.trans e4).trans (e5.trans e6))).trans (Mu.upd (List.mem_singleton.mpr rfl) h6)⟩
          have e7 : prs (old ++ List.filter (lpk hs) [pr]) = prs old ++ [.tup [.int pr.1, .int pr.2]] := by
            rw [List.filter_cons, if_pos hc]
            unfold prs
            rw [List.map_append]
            rfl
          rw [e7]
          exact ((ay3.ex (e4.trans (e5.trans e6))).updL h6 (prs_lf _)).app (.cons (av.updL h6 rfl) .nil)
        | false =>
          rw [hc] at et
          refine s_when (b := false) et (fun z => nomatch z) (fun _ H5 e5 => ?_)
          have e7 : old ++ List.filter (lpk hs) [pr] = old := by
            rw [List.filter_cons, if_neg (by rw [hc]; decide)]
            simp
          rw [e7]
          exact ⟨⟨_, _, _, _, rfl, ((E2.trans e3).trans e4).trans e5, e5 _ _ hy4, ay3.ex (e4.trans e5)⟩, Mu.ex ((e3.trans e4).trans e5)⟩
    · rintro σ' H2 ⟨y3, y4, y5, ys, rfl, E2, hy, ay⟩
      refine ⟨_, rfl, q p ys H2 hp E2 hy ?_⟩
      rw [List.take_of_length_le (Nat.le_refl _)] at ay
      exact ay

end
end My
end
section
set_option Elab.async false
set_option linter.all false
set_option maxRecDepth 100000
set_option maxHeartbeats 4000000
namespace My
open PySem PySem.Spec PyProof.Rows L2 Evl WD
local macro_rules | `(tactic| walk_at "exgo") => `(tactic| first | exact Ex.refl _ | assumption | (refine' Ex.trans ?ea ?eb; (case eb => assumption); (case ea => walk_at "exgo")))
local macro_rules | `(tactic| walk_at "is") => `(tactic| first | assumption | (refine' Is.ex ?e ?h; (case h => assumption); (case e => walk_at "exgo")) | exact Is.int _ | exact Is.bl _ | exact Is.non)
local macro_rules | `(tactic| walk_at "ev") => `(tactic| first
  | exact ed_int | exact ed_bl | exact ed_non | exact ed_str
  | ((with_reducible apply ed_var) <;> first | exact rfl | walk_at "is")
  | ((with_reducible apply ed_add) <;> walk_at "ev")
  | ((with_reducible apply ed_sub) <;> walk_at "ev")
  | ((with_reducible apply ed_neg) <;> walk_at "ev")
  | ((with_reducible apply ed_mulW) <;> try walk_at "ev")
  | ((with_reducible apply ed_divW) <;> try walk_at "ev")
  | ((with_reducible apply ed_mod) <;> try walk_at "ev")
  | ((with_reducible apply ed_ixT) <;> first | exact rfl | walk_at "ev" | skip)
  | ((with_reducible apply ed_ixL) <;> first | exact rfl | walk_at "ev" | skip)
  | ((with_reducible apply ed_lt) <;> walk_at "ev")
  | ((with_reducible apply ed_le) <;> walk_at "ev")
  | ((with_reducible apply ed_gt) <;> walk_at "ev")
  | ((with_reducible apply ed_ge) <;> walk_at "ev")
  | ((with_reducible apply ed_eqI) <;> walk_at "ev")
  | ((with_reducible apply ed_neI) <;> walk_at "ev")
  | ((with_reducible apply ed_gcd) <;> walk_at "ev")
  | ((with_reducible apply ed_abs) <;> walk_at "ev")
  | ((with_reducible apply ed_intI) <;> walk_at "ev")
  | ((with_reducible apply ed_intB) <;> walk_at "ev")
  | ((with_reducible apply ed_max2) <;> walk_at "ev")
  | ((with_reducible apply ed_min2) <;> walk_at "ev")
  | ((with_reducible apply ed_lenT) <;> walk_at "ev")
  | ((with_reducible apply ed_lenL) <;> walk_at "ev")
  | ((with_reducible apply ed_tuple) <;> walk_at "ev")
  | ((with_reducible apply ed_tupleT) <;> walk_at "ev")
  | ((with_reducible apply ed_tup) <;> first | walk_at "ea" | (simp; done) | skip)
  | ((with_reducible apply et_t) <;> walk_at "ev")
  | ((with_reducible apply et_v) <;> walk_at "ev"))
local macro_rules | `(tactic| walk_at "ea") => `(tactic| first
  | exact ea0
  | ((with_reducible apply ea1) <;> first | walk_at "ev" | walk_at "ea" | skip))

section
variable {P : Program} {w : World} {K : PySem.W.Frag} {mg : Str → Option Value} {base : Heap}
theorem lfl_run (hs : List Rat) : ∀ k, ∀ p ∈ lfl hs (k + 1), ∃ a b : Nat, p = ((a : Int), (b : Int)) ∧ a < b ∧ b ≤ k + 1 ∧ hs.getD a 0 = hs.getD (b - 1) 0 := by
  have last : ∀ k, hs.getD (fst' hs k).2 0 = hs.getD k 0 := fun k => by
    obtain ⟨_, _, _, _, h⟩ := fst_edk hs k
    exact h
  have g : ∀ k, ∀ p ∈ (fst' hs k).1, ∃ a b : Nat, p = ((a : Int), (b : Int)) ∧ a < b ∧ b ≤ k ∧ hs.getD a 0 = hs.getD (b - 1) 0 := by
    intro k
    induction k with
    | zero => intro p h; exact nomatch h
    | succ k ih =>
      intro p h
      rw [fst_succ] at h
      split at h
      · obtain ⟨a, b, e, h1, h2, h3⟩ := ih p h
        exact ⟨a, b, e, h1, by omega, h3⟩
      · rcases List.mem_append.mp h with h | h
        · obtain ⟨a, b, e, h1, h2, h3⟩ := ih p h
          exact ⟨a, b, e, h1, by omega, h3⟩
        · have := fst_le hs k
          exact ⟨(fst' hs k).2, k + 1, List.mem_singleton.mp h, by omega, Nat.le_refl _, by rw [last k, Nat.add_sub_cancel]⟩
  intro k p h
  rcases List.mem_append.mp h with h | h
  · obtain ⟨a, b, e, h1, h2, h3⟩ := g k p h
    exact ⟨a, b, e, h1, by omega, h3⟩
  · have := fst_le hs k
    exact ⟨(fst' hs k).2, k + 1, List.mem_singleton.mp h, by omega, Nat.le_refl _, by rw [last k, Nat.add_sub_cancel]⟩
theorem sg_one {q : Rat} : sg q = 1 ↔ 0 < q := by
  unfold sg
  by_cases a : 0 < q
  · simp [a]
  · rw [if_neg a]
    by_cases b : q < 0 <;> simp [a, b]
theorem sg_neg {q : Rat} : sg q = -1 ↔ q < 0 := by
  unfold sg
  by_cases a : 0 < q
  · rw [if_pos a]
    constructor
    · intro h; cases h
    · intro h; exfalso; grind
  · rw [if_neg a]
    by_cases b : q < 0 <;> simp [b]
/-- the law's peaks are the program's -/
theorem pks_eq {A : List Int} {v : List Rat} (lv : v.length = A.length) (a1 : 1 ≤ A.length) (ar : ∀ a ∈ A, 1 ≤ a ∧ a ≤ 1000) : lpks (hts A v) = pks A (sms v) := by
  unfold lpks pks
  have hl : (hts A v).length = A.length := (hts_len A v).trans lv
  rw [← flt_lfl lv a1 ar]
  refine List.filter_congr fun p hp => ?_
  rw [hl] at hp
  obtain ⟨n, hn⟩ : ∃ n, A.length = n + 1 := ⟨A.length - 1, by omega⟩
  rw [hn] at hp
  obtain ⟨a, b, rfl, hab, hb, he⟩ := lfl_run _ n p hp
  have sgn : ∀ i, i + 1 < A.length → (sgs A (sms v)).getD i 0 = sg ((hts A v).getD (i + 1) 0 - (hts A v).getD i 0) := fun i hi => by
    rw [rise_hts lv ar (by omega), getD_in (by rw [sgs_len]; omega)]
    simp only [sgs, List.getElem_map, List.getElem_range]
  have L1 : (a ≠ 0 → (decide ((sgs A (sms v)).getD ((a : Int) - 1).toNat 0 = 1) = decide ((hts A v).getD (a - 1) 0 < (hts A v).getD a 0))) := fun h0 => by
    rw [show ((a : Int) - 1).toNat = a - 1 from by omega, sgn (a - 1) (by omega), show a - 1 + 1 = a from by omega]
    refine decide_eq_decide.mpr (sg_one.trans ?_)
    constructor <;> intro h <;> grind
  have L2 : (b ≠ A.length → (decide ((sgs A (sms v)).getD ((b : Int) - 1).toNat 0 = -1) = decide ((hts A v).getD b 0 < (hts A v).getD a 0))) := fun h0 => by
    rw [show ((b : Int) - 1).toNat = b - 1 from by omega, sgn (b - 1) (by omega), show b - 1 + 1 = b from by omega, he]
    refine decide_eq_decide.mpr (sg_neg.trans ?_)
    constructor <;> intro h <;> grind
  unfold lpk isPk lowOf
  rw [hl]
  simp only [List.filter_cons, List.filter_nil, Int.toNat_natCast]
  by_cases h0 : a = 0
  · by_cases h1 : b = A.length
    · subst h0
      rw [if_neg (by simp), if_neg (by simp [h1])]
      simp [h1]
    · subst h0
      have k2 := L2 h1
      rw [if_neg (by simp), if_pos (by simp; omega)]
      simp only [List.all_cons, List.all_nil, Int.toNat_natCast, Bool.and_true]
      rw [← k2]
      simp
      intro hh
      omega
  · have k1 := L1 h0
    by_cases h1 : b = A.length
    · rw [if_pos (by simp; omega), if_neg (by simp [h1])]
      simp only [List.all_cons, List.all_nil, Bool.and_true]
      rw [show ((a : Int) - 1).toNat = a - 1 from by omega] at k1 ⊢
      rw [← k1]
      simp [h1, h0]
    · have k2 := L2 h1
      rw [if_pos (by simp; omega), if_pos (by simp; omega)]
      simp only [List.all_cons, List.all_nil, Int.toNat_natCast, Bool.and_true]
      rw [show ((a : Int) - 1).toNat = a - 1 from by omega] at k1 ⊢
      rw [← k1, ← k2]
      have z1 : decide ((a : Int) = 0) = false := decide_eq_false (by omega)
      have z2 : decide ((b : Int) = (A.length : Int)) = false := decide_eq_false (by omega)
      rw [z1, z2, Bool.false_or, Bool.false_or]

end
end My
end
section
set_option Elab.async false
set_option linter.all false
set_option maxRecDepth 100000
namespace WD
open PySem PySem.Spec PyProof.Rows L2 Evl
section
variable {P : Program} {w : World} {K : PySem.W.Frag} {mg : Str → Option Value} {base : Heap}
/-- a def that may raise, its body's reading -/
theorem fnX {x qual : Str} {st : Stmt} {f : Addr} {N ps : List Str} {k : Nat} {sp : Sp} (F : ∃ fd, FunD K x qual (defArgs st) (defBody st) (defScope st) [] [] f fd) (S : FnScope N ps (defScope st)) (len : ∀ vs H Q E, sp vs H Q E → vs.length = ps.length)
    (hb : ∀ (kV doc pm : Value) (an : Option Addr) (cdv ct : Value) (us : List Value), us.length = ps.length → bindArgs (PySem.W.fnOf x qual (defArgs st) (defBody st) (defScope st) .none kV doc pm an cdv ct) ⟨us, []⟩ = pure (ps.zip us))
    (hbody : ∀ (cdv : Value) (A : Around) (outer : List Env) (s : Shared) (H : Hp) (vs : List V) (Q : VK) (E : XK), Room k (A.deeper (envOfC qual (defScope st) s.heap.objs.size f cdv)) → sp vs H Q E →
      ∃ t, PSs (cxOf (L2.CX P w) P w K mg base N qual (defScope st) f cdv A outer s H E) (defBody st) t ∧ t { nx := fun _ H' => Q .non H', rt := Q } (start N vs) H) : FnG P w K mg base (k + 1) f ps sp := by
  obtain ⟨fd, F⟩ := F
  exact ⟨⟨fd, F.ok S len (fun cdv A outer s H vs Q E hr h => hbody cdv A outer s H vs Q E hr h), F.bindsN hb⟩, F.kp⟩
end
section
variable {X : Cx} {k : Nat} {f : Addr} {ps : List Str} {sp : Sp} {x : Str} {p pos : Pos} {e : Expr} {es : List Expr} {t : TA} {W : WX}
/-- a call that may raise -/
theorem pe_callSG (F : FnG X.prog X.w X.K X.mg X.base k f ps sp) (hr : Room k X.A) (hg : Gl X x) (hm : X.mg x = some (.ref f)) (tk : Takes X W) (ha : PA X (e :: es) t)
    (hdb : (x == ("__debug__" : Str)) = false := by decide) (hst : starEach (e :: es) X.env = (false, eval e X.env) :: starEach es X.env := by rfl) (hpl : (backTo pos (starEach es X.env)).any (·.1) = false := by rfl) :
    PE X (.Call (.Name x p) (e :: es) [] pos) (tCallS sp (WE W) t) := by
  obtain ⟨⟨fd, F, B⟩, kp⟩ := F
  exact pe_callS F hr hg hm kp B (fun σ => passAt tk σ) ha hdb hst hpl
end
section
variable {K : PySem.W.Frag} {σ : L2.St} {H : Hp} {ta : TA} {d : D} {ds : List D} {W : WX} {C : Addr} {f : Str} {En : Ends}
theorem s_raiseSup (h : EvDA K ta σ H [d]) (k : ∀ v dd H1, H dd = none → Ex H H1 → H1 dd = some (.xd [(f, v)]) → Is K H1 v d → D.lf d = true → W (.ref C) (some dd) σ H1) (hl : D.lf d = true) : tRaiseSup C f W ta En σ H :=
  h H (Ex.refl H) _ fun vs H1 e a => by
    cases a with
    | @cons v _ _ _ av a =>
    cases a
    exact ⟨v, rfl, fun dd hd => k v dd _ (fresh_back e hd) (e.trans (Ex.new hd)) upd_same (av.ex (Ex.new hd)) hl⟩
/-- a call that raises -/
theorem q_callS {sp : Sp} {tz : TS} {tg : TG} (h : EvDA K ta σ H ds) (k : ∀ vs H1 Q, Ex H H1 → All K H1 vs ds → sp vs H1 Q (WE W σ)) : tSeq (tAsg (tCallS sp (WE W) ta) tg) tz En σ H := h H (Ex.refl H) _ fun vs H1 e a => k vs H1 _ e a
theorem s_callS {sp : Sp} (h : EvDA K ta σ H ds) (k : ∀ vs H1 Q, Ex H H1 → All K H1 vs ds → sp vs H1 Q (WE W σ)) : tDrop (tCallS sp (WE W) ta) En σ H := h H (Ex.refl H) _ fun vs H1 e a => k vs H1 _ e a
end
end WD
end
section
set_option Elab.async false
set_option linter.all false
set_option maxRecDepth 100000
set_option maxHeartbeats 4000000
namespace My
open PySem PySem.Spec PyProof.Rows L2 Evl WD
local macro_rules | `(tactic| walk_at "exgo") => `(tactic| first | exact Ex.refl _ | assumption | (refine' Ex.trans ?ea ?eb; (case eb => assumption); (case ea => walk_at "exgo")))
local macro_rules | `(tactic| walk_at "is") => `(tactic| first | assumption | (refine' Is.ex ?e ?h; (case h => assumption); (case e => walk_at "exgo")) | exact Is.int _ | exact Is.bl _ | exact Is.non)
local macro_rules | `(tactic| walk_at "ev") => `(tactic| first
  | exact ed_int | exact ed_bl | exact ed_non | exact ed_str
  | ((with_reducible apply ed_var) <;> first | exact rfl | walk_at "is")
  | ((with_reducible apply ed_add) <;> walk_at "ev")
  | ((with_reducible apply ed_sub) <;> walk_at "ev")
  | ((with_reducible apply ed_neg) <;> walk_at "ev")
  | ((with_reducible apply ed_mulW) <;> try walk_at "ev")
  | ((with_reducible apply ed_divW) <;> try walk_at "ev")
  | ((with_reducible apply ed_mod) <;> try walk_at "ev")
  | ((with_reducible apply ed_ixT) <;> first | exact rfl | walk_at "ev" | skip)
  | ((with_reducible apply ed_ixL) <;> first | exact rfl | walk_at "ev" | skip)
  | ((with_reducible apply ed_lt) <;> walk_at "ev")
  | ((with_reducible apply ed_le) <;> walk_at "ev")
  | ((with_reducible apply ed_gt) <;> walk_at "ev")
  | ((with_reducible apply ed_ge) <;> walk_at "ev")
  | ((with_reducible apply ed_eqI) <;> walk_at "ev")
  | ((with_reducible apply ed_neI) <;> walk_at "ev")
  | ((with_reducible apply ed_gcd) <;> walk_at "ev")
  | ((with_reducible apply ed_abs) <;> walk_at "ev")
  | ((with_reducible apply ed_intI) <;> walk_at "ev")
  | ((with_reducible apply ed_intB) <;> walk_at "ev")
  | ((with_reducible apply ed_max2) <;> walk_at "ev")
  | ((with_reducible apply ed_min2) <;> walk_at "ev")
  | ((with_reducible apply ed_lenT) <;> walk_at "ev")
  | ((with_reducible apply ed_lenL) <;> walk_at "ev")
  | ((with_reducible apply ed_tuple) <;> walk_at "ev")
  | ((with_reducible apply ed_tupleT) <;> walk_at "ev")
  | ((with_reducible apply ed_tup) <;> first | walk_at "ea" | (simp; done) | skip)
  | ((with_reducible apply et_t) <;> walk_at "ev")
  | ((with_reducible apply et_v) <;> walk_at "ev"))
local macro_rules | `(tactic| walk_at "ea") => `(tactic| first
  | exact ea0
  | ((with_reducible apply ea1) <;> first | walk_at "ev" | walk_at "ea" | skip))

section
variable {P : Program} {w : World} {K : PySem.W.Frag} {mg : Str → Option Value} {base : Heap}
/-- an order that is none: its first opening that is none is told -/
def sp_bad_order (K : PySem.W.Frag) : Sp := fun vs H _ E => ∃ A v L O, ∃ i : Nat, ∃ hi : i < O.length, ∃ u u', vs = [u, u'] ∧ Is K H u (rowD A v L) ∧ Is K H u' (.lst (iL O)) ∧ O.length ≤ 100 ∧ (∀ j (hj : j < i), inR A L (O[j]'(Nat.lt_trans hj hi)) = true) ∧ inR A L O[i] = false ∧
  ∀ dd H', H dd = none → Ex H H' → H' dd = some (.xd [("place", .int (i : Int))]) → E (.ref (He.ga K "BadOrder")) (some dd) H'
theorem ok_check_order_X (T : Txt K mg) (hp : P.main.file = fileS) (ht : (P.main.scope.names.lookup ("super" : Str)).isSome = false) : FnG P w K mg base 3 (He.ga K "check_order") ["row", "order"] (sp_bad_order K) := by
  refine fnX (N := ["row", "order", "place", "weir"]) (st := s_check_order) T.f_check_order sc_check_order (fun vs H Q E h => ?_) (fun _ _ _ _ _ _ us hl => match us, hl with | [_, _], _ => rfl) (fun cdv A outer s H vs Q E hr h => ⟨_, (pss_cons (ps_if (PW.pt (pw_or (pt_not (pt_val (pe_callB call_isiT (by rfl) T.z_isinstance (by decide +kernel) (pa_cons (pv 1) (pa_cons (pe_tup (pa_cons (pe_tyN (n := "list") (by rfl) T.z_list (by decide +kernel)) (pa_cons (pe_tyN (n := "tuple") (by rfl) T.z_tuple (by decide +kernel)) pa_nil))) pa_nil))))) (pw_or1 (pt_cmpR op_gt (pe_callB call_lenS (by rfl) T.z_len PySem.boot_len (pa_cons (pv 1) pa_nil)) (pe_globI (by rfl) T.i_MOST_OPENINGS) (nomark _))))) (pss_one (ps_raiseSup rfl (T.s_BadOrder hp ht) hr (takes_of rfl rfl rfl rfl) (pa_cons pe_non pa_nil) (by rfl))) pss_nil) (pss_cons (ps_for (passes_of rfl) rfl (pi_enum (by rfl) T.z_enumerate (pa_cons (pv 1) pa_nil)) (pg_tup rfl (pgs_cons (pg_name (i := 2) sc_check_order.nd rfl (.inl rfl)) (pgs_cons (pg_name (i := 3) sc_check_order.nd rfl (.inl rfl)) pgs_nil))) (pss_one (ps_if (pt_cmpR (notInO_of (ok_Row___contains__ T) T.x_Row___contains__ (hr.mono (by decide))) (pv 3) (pv 0) (by rfl)) (pss_one (ps_raiseSup rfl (T.s_BadOrder hp ht) hr (takes_of rfl rfl rfl rfl) (pa_cons (pv 2) pa_nil) (by rfl))) pss_nil))) (pss_one (ps_ret (pe_callTy call_listS (by rfl) T.z_list (by decide +kernel) (pa_cons (pv 1) pa_nil)))))), ?_⟩)
  · obtain ⟨A, v, L, O, i, hi, u, u', rfl, _⟩ := h
    rfl
  · obtain ⟨A, v, L, O, i, hi, u, u', rfl, a1, a2, hO, hj, hb, q⟩ := h
    try dsimp only [cxOf, Cx.nox, Cx.wish]
    refine q_when (b := false || decide ((O.length : Int) > 20000)) (et_or (et_not (a := true || false) (et_v (K := K) (ed_isiT (n1 := "list") (n2 := "tuple") (ed_var rfl a2) rfl (by decide +kernel) (by decide +kernel)))) fun _ => et_t (K := K) (ed_gt (EvD.is (ed_lenL (K := K) (ed_var rfl a2)) (by rw [iLlen])) ed_int)) (fun z => ?_) (fun _ H1 e1 => ?_)
    · exfalso
      rw [decide_eq_false (show ¬ ((O.length : Int) > 20000) by omega)] at z
      cases z
    · refine q_for (K := K) (L := []) (n := O.length) (EvI.is (ei_enum (es_any (ed_var rfl (a2.ex e1))) (iLlf O)) (iLlen O)) (fun j σ' H' => j ≤ i ∧ Ex H H' ∧ ∃ y z, σ' = [some u, some u', y, z]) (fun H2 e2 => ⟨Nat.zero_le _, e1.trans e2, none, none, rfl⟩) ?_ ?_
      · rintro j x σ' H' H'' hjl ⟨ji, E2, y, z, rfl⟩ e3 ax
        refine g_two ax fun z1 z2 az1 az2 => ?_
        rw [show (iL O).getD j .non = .int O[j] from getD_map _ _ _ hjl] at az2
        by_cases c : j < i
        · exact s_when (b := false) (et_t (EvD.is (ed_inO (K := K) (neg := true) (b := true) (ed_var rfl az2) (ed_var rfl (a1.ex (E2.trans e3))) ⟨A, v, L, O[j], rfl, by rw [hj j c]⟩) rfl)) (fun z => nomatch z) (fun _ H4 e4 => ⟨⟨c, (E2.trans e3).trans e4, _, _, rfl⟩, Mu.ex (e3.trans e4)⟩)
        · have ej : j = i := by omega
          subst ej
          refine s_when (b := true) (et_t (EvD.is (ed_inO (K := K) (neg := true) (b := false) (ed_var rfl az2) (ed_var rfl (a1.ex (E2.trans e3))) ⟨A, v, L, O[j], rfl, by rw [hb]⟩) rfl)) (fun _ H4 e4 => ?_) (fun z => nomatch z)
          refine s_raiseSup (K := K) (d := .int (j : Int)) (ea1 (ed_var rfl (az1.ex e4)) ea0) (fun v dd H5 hd e5 hx av _ => ?_) rfl
          cases av
          exact q dd H5 (fresh_back ((E2.trans e3).trans e4) hd) (((E2.trans e3).trans e4).trans e5) hx
      · rintro σ' H' ⟨ji, _⟩
        omega
theorem ok_sinking_X (T : Txt K mg) (hp : P.main.file = fileS) (ht : (P.main.scope.names.lookup ("super" : Str)).isSome = false) : FnG P w K mg base 6 (He.ga K "sinking") ["row", "order"] (sp_bad_order K) := by
  refine fnX (N := ["row", "order", "openings", "line", "told", "numbers", "weir", "near"]) (st := s_sinking) T.f_sinking sc_sinking (fun vs H Q E h => ?_) (fun _ _ _ _ _ _ us hl => match us, hl with | [_, _], _ => rfl) (fun cdv A outer s H vs Q E hr h => ⟨_, (pss_cons (ps_expr (pe_callG (ok_check_row T) (hr.mono (by decide)) (by rfl) T.m_check_row (pa_cons (pv 0) pa_nil))) (pss_cons (ps_asg (pe_callSG (ok_check_order_X T hp ht) (hr.mono (by decide)) (by rfl) T.m_check_order (takes_of rfl rfl rfl rfl) (pa_cons (pv 0) (pa_cons (pv 1) pa_nil))) (pg_name (i := 2) sc_sinking.nd rfl (.inl rfl))) (pss_cons (ps_asg (pe_callG (ok_line_of T) (hr.mono (by decide)) (by rfl) T.m_line_of (pa_cons (pv 0) pa_nil)) (pg_name (i := 3) sc_sinking.nd rfl (.inl rfl))) (pss_cons (ps_asg (pe_callG (ok_all_signs T) (hr.mono (by decide)) (by rfl) T.m_all_signs (pa_cons (pv 3) pa_nil)) (pg_name (i := 4) sc_sinking.nd rfl (.inl rfl))) (pss_cons (ps_asg (pe_lst (pa_cons (pe_callG (ok_changes T) (hr.mono (by decide)) (by rfl) T.m_changes (pa_cons (pv 4) pa_nil)) pa_nil)) (pg_name (i := 5) sc_sinking.nd rfl (.inl rfl))) (pss_cons (ps_for (passes_of rfl) rfl (pi_list (pv 2)) (pg_name (i := 6) sc_sinking.nd rfl (.inl rfl)) (pss_cons (ps_expr (pe_methG (pv 3) T.c_Line T.x_Line_even (ok_Line_even T) (hr.mono (by decide)) (pa_cons (pv 6) pa_nil))) (pss_cons (ps_for (passes_of rfl) rfl (pi_range2 (by rfl) T.z_range (pa_cons (pe_callB (call_maxS rfl) (by rfl) T.z_max (by decide +kernel) (pa_cons (pe_op op_sub (pv 6) pe_int) (pa_cons pe_int pa_nil))) (pa_cons (pe_callB (call_minS rfl) (by rfl) T.z_min (by decide +kernel) (pa_cons (pe_op op_add (pv 6) pe_int) (pa_cons (pe_callB (lenO_of (ok_Row___len__ T) T.x_Row___len__ (hr.mono (by decide))) (by rfl) T.z_len PySem.boot_len (pa_cons (pv 0) pa_nil)) pa_nil))) pa_nil))) (pg_name (i := 7) sc_sinking.nd rfl (.inl rfl)) (pss_one (ps_asg (pe_callG (ok_sign_at T) (hr.mono (by decide)) (by rfl) T.m_sign_at (pa_cons (pv 3) (pa_cons (pv 7) pa_nil))) (pg_sub (pv 4) (pe_op op_sub (pv 7) pe_int) set_list)))) (pss_one (ps_expr (pe_bm PySem.F.plainAttrs_list PySem.F.slot_list_append PySem.F.type_list_append mt_append (pv 5) (pa_cons (pe_callG (ok_changes T) (hr.mono (by decide)) (by rfl) T.m_changes (pa_cons (pv 4) pa_nil)) pa_nil))))))) (pss_one (ps_ret (pe_makeG T.k_Sinking (ok_Sinking___init___L T) (hr.mono (by decide)) (by rfl) T.m_Sinking (pa_cons (pv 5) pa_nil)))))))))), ?_⟩)
  · obtain ⟨A, v, L, O, i, hi, u, u', rfl, _⟩ := h
    rfl
  · obtain ⟨A, v, L, O, i, hi, u, u', rfl, a1, a2, hO, hj, hb, q⟩ := h
    try dsimp only [cxOf, Cx.nox, Cx.wish]
    refine q_do (ed_call (d := .non) (ea1 (ed_var rfl a1) ea0) ⟨_, rfl, rfl⟩) fun H1 e1 => ?_
    refine q_callS (K := K) (ea1 (ed_var rfl (a1.ex e1)) (ea1 (ed_var rfl (a2.ex e1)) ea0)) fun vs H2 Q e2 a => ?_
    obtain ⟨v1, v2, rfl, b1, b2⟩ := All.inv2 a
    exact ⟨A, v, L, O, i, hi, v1, v2, rfl, b1, b2, hO, hj, hb, fun dd H3 hd e3 hx => q dd H3 (fresh_back (e1.trans e2) hd) ((e1.trans e2).trans e3) hx⟩

end
end My
end
section
set_option Elab.async false
set_option linter.all false
set_option maxRecDepth 100000
set_option maxHeartbeats 4000000
namespace My
open PySem PySem.Spec PyProof.Rows L2 Evl WD
local macro_rules | `(tactic| walk_at "exgo") => `(tactic| first | exact Ex.refl _ | assumption | (refine' Ex.trans ?ea ?eb; (case eb => assumption); (case ea => walk_at "exgo")))
local macro_rules | `(tactic| walk_at "is") => `(tactic| first | assumption | (refine' Is.ex ?e ?h; (case h => assumption); (case e => walk_at "exgo")) | exact Is.int _ | exact Is.bl _ | exact Is.non)
local macro_rules | `(tactic| walk_at "ev") => `(tactic| first
  | exact ed_int | exact ed_bl | exact ed_non | exact ed_str
  | ((with_reducible apply ed_var) <;> first | exact rfl | walk_at "is")
  | ((with_reducible apply ed_add) <;> walk_at "ev")
  | ((with_reducible apply ed_sub) <;> walk_at "ev")
  | ((with_reducible apply ed_neg) <;> walk_at "ev")
  | ((with_reducible apply ed_mulW) <;> try walk_at "ev")
  | ((with_reducible apply ed_divW) <;> try walk_at "ev")
  | ((with_reducible apply ed_mod) <;> try walk_at "ev")
  | ((with_reducible apply ed_ixT) <;> first | exact rfl | walk_at "ev" | skip)
  | ((with_reducible apply ed_ixL) <;> first | exact rfl | walk_at "ev" | skip)
  | ((with_reducible apply ed_lt) <;> walk_at "ev")
  | ((with_reducible apply ed_le) <;> walk_at "ev")
  | ((with_reducible apply ed_gt) <;> walk_at "ev")
  | ((with_reducible apply ed_ge) <;> walk_at "ev")
  | ((with_reducible apply ed_eqI) <;> walk_at "ev")
  | ((with_reducible apply ed_neI) <;> walk_at "ev")
  | ((with_reducible apply ed_gcd) <;> walk_at "ev")
  | ((with_reducible apply ed_abs) <;> walk_at "ev")
  | ((with_reducible apply ed_intI) <;> walk_at "ev")
  | ((with_reducible apply ed_intB) <;> walk_at "ev")
  | ((with_reducible apply ed_max2) <;> walk_at "ev")
  | ((with_reducible apply ed_min2) <;> walk_at "ev")
  | ((with_reducible apply ed_lenT) <;> walk_at "ev")
  | ((with_reducible apply ed_lenL) <;> walk_at "ev")
  | ((with_reducible apply ed_tuple) <;> walk_at "ev")
  | ((with_reducible apply ed_tupleT) <;> walk_at "ev")
  | ((with_reducible apply ed_tup) <;> first | walk_at "ea" | (simp; done) | skip)
  | ((with_reducible apply et_t) <;> walk_at "ev")
  | ((with_reducible apply et_v) <;> walk_at "ev"))
local macro_rules | `(tactic| walk_at "ea") => `(tactic| first
  | exact ea0
  | ((with_reducible apply ea1) <;> first | walk_at "ev" | walk_at "ea" | skip))

section
variable {P : Program} {w : World} {K : PySem.W.Frag} {mg : Str → Option Value} {base : Heap}
/-- the law's draws begin: a list of the script and 0 -/
theorem sq_rd {H : Hp} {p : Addr} {xs : List V} (h : Rd H p (.lst xs)) : SqL K H p xs := .inl h
theorem dr_new {H : Hp} {d : Addr} {xs : List V} {ns : List Int} (nl : ns.length ≤ 1000) (hx : H d = some (.lst xs)) (a : All K H xs [.lst (iL ns), .int 0]) : ∃ sA, Dr K H d sA ns 0 := by
  obtain ⟨v, w, rfl, a1, a2⟩ := All.inv2 a
  cases a2
  cases a1 with
  | @lst p xs' _ r a' =>
    refine ⟨p, 0, Int.le_refl 0, Int.le_refl 0, hx, .lst r a', fun z => ?_, nl⟩
    subst z
    have e : xs' = [.ref p, .int 0] := by
      rcases r with r | ⟨o, r⟩
      · rw [hx] at r
        exact (HO.lst.inj (Option.some.inj r)).symm
      · rw [hx] at r
        cases r
    subst e
    cases ns with
    | nil => cases a'
    | cons n ns =>
      cases a' with
      | cons a1 _ => cases a1
theorem law_a {tz : TS} {En : Ends} {H : Hp} {a : Addr} {ns : List Int} (nl : ns.length ≤ 63) (hs : Rd H a (.lst (ns.map V.int)))
    (k : ∀ (d sA : Addr) (A L : List Int) (ts : List Tv) va vv p H', Dr K H' d sA ns 110 → 1 ≤ A.length → A.length ≤ 10 → (∀ a ∈ A, 1 ≤ a ∧ a ≤ 4) → ts.length = A.length → (∀ t ∈ ts, t ∈ tvs) → (∀ l ∈ L, 0 < l ∧ l < (A.length : Int)) → L.length ≤ A.length →
      Is K H' va (.tup (iL A)) → Is K H' vv (.tup (ts.map Tv.d)) → Is K H' (.ref p) (.lst (iL L)) → p ≠ d → tz En ([some (.ref a), some (.ref d), some va, some vv, some (.ref p)] ++ List.replicate 15 none) H') :
    tSeq (tAsg (tLst (tCons (tVar 0) (tCons (tC (.int 0)) tNil))) (gName 1)) (tSeq (tAsg (tCall (sp_drawn K) [] E0 (tCons (tVar 1) (tCons (tC (.int 10)) tNil))) (gTup K 3 (gCons (gName 2) (gCons (gName 3) (gCons (gName 4) gNil))))) tz) En ([some (.ref a)] ++ List.replicate 19 none) H := by
  refine q_asgN (K := K) (ds := [.lst (iL ns), .int 0]) (en_lst (ea1 (ed_var rfl (.lst hs iLall)) (ea1 ed_int ea0)) (by show 2 ≤ 100000; decide)) fun d xs H1 hd e1 hx ax => ?_
  obtain ⟨sA, dr⟩ := dr_new (by omega) hx ax
  refine ⟨_, rfl, d, sA, ns, 0, 10, rfl, dr, by decide, by decide, by decide, fun A L ts va vv p t H2 hp mu d2 a1 a2 a3 t1 t2 l1 l2 iA iv iL st => ?_⟩
  refine ⟨t, [va, vv, .ref p], rfl, st, rfl, va, _, rfl, vv, _, rfl, .ref p, _, rfl, rfl, ?_⟩
  exact k d sA A L ts va vv p H2 (d2.le (by decide)) a1 (by omega) a3 t1 t2 l1 l2 iA iv iL (fun z => by rw [z, hx] at hp; cases hp)
/-- volumes that the law draws -/
def gv (t : Tv) : Prop := t.ok ∧ t.red ∧ 0 ≤ t.q ∧ t.q.den ∣ 6 ∧ t.q ≤ 8
theorem gv_tvs {t : Tv} (h : t ∈ tvs) : gv t := by
  obtain ⟨a, b, c, e⟩ := tvs_ok h
  exact ⟨a, tvs_red h, b, c, e⟩
theorem gv_int {n : Int} (h0 : 0 ≤ n) (h1 : n ≤ 8) : gv (.i n) := by
  have c : (16 : Nat) ≤ 2 ^ 3999 := by
    rw [show (16 : Nat) = 2 ^ 4 from rfl]
    exact Nat.pow_le_pow_right (by decide) (by decide)
  refine ⟨⟨h0, by omega⟩, trivial, ?_, ?_, ?_⟩
  · show (0 : Rat) ≤ (n : Rat)
    exact_mod_cast h0
  · show ((n : Rat)).den ∣ 6
    exact den_int n 6
  · show (n : Rat) ≤ 8
    have : ((n : Int) : Rat) ≤ ((8 : Int) : Rat) := by exact_mod_cast h1
    exact this
theorem law_b {tz : TS} {En : Ends} {H : Hp} {d sA : Addr} {ns A : List Int} {ts : List Tv} {s0 va vv pl : V} (dr : Dr K H d sA ns 110) (al : A.length ≤ 10) (ar : ∀ a ∈ A, 1 ≤ a ∧ a ≤ 4) (tl : ts.length = A.length) (tg : ∀ t ∈ ts, t ∈ tvs) (iA : Is K H va (.tup (iL A))) (iv : Is K H vv (.tup (ts.map Tv.d)))
    (k : ∀ (ts : List Tv) vv' H', Dr K H' d sA ns 130 → ts.length = A.length → (∀ t ∈ ts, gv t) → Mu [d] H H' → Is K H' vv' (.tup (ts.map Tv.d)) → tz En ([some s0, some (.ref d), some va, some vv', some pl] ++ List.replicate 15 none) H') :
    tSeq (tIfS (tTest (tOp rEq (tCall (sp_take K) [] E0 (tCons (tVar 1) (tCons (tC (.int 3)) tNil))) (tC (.int 0)))) (tAsg (tCB (rTupS K) (tCons (tLc (iTup K (tVar 2)) (gName 18) tYes (tOp (rI CMulW fun i j => V.int (i * j)) (tVar 18) (tCall (sp_pick K) [] E0 (tCons (tVar 1) (tCons (tLst (tCons (tC (.int 0)) (tCons (tC (.int 1)) (tCons (tC (.int 1)) (tCons (tC (.int 2)) tNil))))) tNil)))) [18]) tNil)) (gName 3)) tNext) tz En ([some s0, some (.ref d), some va, some vv, some pl] ++ List.replicate 15 none) H := by
  refine em_take dr (by decide) (many := 3) (by decide) (ev_ref rfl) ed_int fun t1 H1 mu1 h1 _ _ => ?_
  refine ⟨rfl, _, rfl, ?_⟩
  have iA1 := iA.gt mu1.2 (iLlf A)
  have hdL : ∀ l ∈ [d], ∃ o, H1 l = some o := fun l hl => by
    rw [List.mem_singleton.mp hl]
    exact h1.some.1
  cases decide (V.int t1 = V.int 0) with
  | false => exact k ts vv H1 (h1.le (by decide)) tl (fun t h => gv_tvs (tg t h)) mu1 (iv.gt mu1.2 (lfs_map _ Tv.lf ts))
  | true =>
    refine em_tup1 (K := K) ?_
    refine en_lcP (K := K) (L := [d]) (n := A.length) (item := fun i => (iL A).getD i .non) (fun i ds H' => Dr K H' d sA ns (111 + (i : Int)) ∧ ∃ ts : List Tv, ds = ts.map Tv.d ∧ ts.length = i ∧ ∀ t ∈ ts, gv t) (EvI.is (ei_tup (ed_var rfl iA1) (iLlf A)) (iLlen A)) hdL (by omega) (fun i ds D Ha Hb hD ⟨ha, hb⟩ mu => ⟨ha.mu mu (frD h1 hD).1 (frD h1 hD).2, hb⟩) ⟨h1.le (by decide), [], rfl, rfl, fun a ha => nomatch ha⟩ ?_ ?_
    · rintro i ds x H2 hi ⟨h2, ts, rfl, hts, htb⟩ mu2 ax Y N hY hN
      rw [show (iL A).getD i .non = .int A[i] from getD_map _ _ _ hi] at ax
      cases ax
      have ha := ar _ (List.getElem_mem hi)
      refine ⟨rfl, _, rfl, ?_⟩
      refine em_pickN (K := K) (ds := iL [0, 1, 1, 2]) h2 (by omega) (by decide) rfl (ev_ref rfl) (en_lst (ea1 ed_int (ea1 ed_int (ea1 ed_int (ea1 ed_int ea0)))) (by show 4 ≤ 100000; decide)) fun v H3 e mu3 h3 he av => ?_
      obtain ⟨z, hz, rfl⟩ := List.mem_map.mp he
      cases av
      have hz2 : 0 ≤ z ∧ z ≤ 2 := by
        simp only [List.mem_cons, List.mem_nil_iff, or_false] at hz
        omega
      generalize A[i] = c at ha ⊢
      have p0 : 0 ≤ c * z := Int.mul_nonneg (by omega) hz2.1
      have p1 : c * z ≤ 4 * 2 := Int.mul_le_mul ha.2 hz2.2 hz2.1 (by decide)
      refine ⟨c, z, rfl, rfl, mulW (a := 10) (b := 10) (by omega) (by omega), ?_⟩
      refine hY _ _ (.int (c * z)) rfl (.int _) ⟨h3.le (by omega), ts ++ [.i (c * z)], by rw [List.map_append]; rfl, by rw [List.length_append, hts]; rfl, fun t ht => ?_⟩ mu3
      rcases List.mem_append.mp ht with ht | ht
      · exact htb t ht
      · rw [List.mem_singleton.mp ht]
        exact gv_int p0 (by omega)
    · rintro pv xv ds H2 hpv mu2 ⟨h2, ts', rfl, hts, htb⟩ hxv av
      refine ⟨pv, xv, rfl, .inl ⟨sq_of hxv, fun lv hlv => ?_⟩⟩
      have e3 : Ex H2 (upd H2 lv (.tup xv)) := Ex.new hlv
      have vv2 : Is K (upd H2 lv (.tup xv)) (.ref lv) (.tup (ts'.map Tv.d)) := .tup (st_of upd_same) (av.ex e3)
      exact k ts' _ _ ((h2.ex e3).le (by omega)) hts htb ((mu1.trans mu2).trans (Mu.ex e3)) vv2

end
end My
end
section
set_option Elab.async false
set_option linter.all false
set_option maxRecDepth 100000
set_option maxHeartbeats 4000000
namespace My
open PySem PySem.Spec PyProof.Rows L2 Evl WD
local macro_rules | `(tactic| walk_at "exgo") => `(tactic| first | exact Ex.refl _ | assumption | (refine' Ex.trans ?ea ?eb; (case eb => assumption); (case ea => walk_at "exgo")))
local macro_rules | `(tactic| walk_at "is") => `(tactic| first | assumption | (refine' Is.ex ?e ?h; (case h => assumption); (case e => walk_at "exgo")) | exact Is.int _ | exact Is.bl _ | exact Is.non)
local macro_rules | `(tactic| walk_at "ev") => `(tactic| first
  | exact ed_int | exact ed_bl | exact ed_non | exact ed_str
  | ((with_reducible apply ed_var) <;> first | exact rfl | walk_at "is")
  | ((with_reducible apply ed_add) <;> walk_at "ev")
  | ((with_reducible apply ed_sub) <;> walk_at "ev")
  | ((with_reducible apply ed_neg) <;> walk_at "ev")
  | ((with_reducible apply ed_mulW) <;> try walk_at "ev")
  | ((with_reducible apply ed_divW) <;> try walk_at "ev")
  | ((with_reducible apply ed_mod) <;> try walk_at "ev")
  | ((with_reducible apply ed_ixT) <;> first | exact rfl | walk_at "ev" | skip)
  | ((with_reducible apply ed_ixL) <;> first | exact rfl | walk_at "ev" | skip)
  | ((with_reducible apply ed_lt) <;> walk_at "ev")
  | ((with_reducible apply ed_le) <;> walk_at "ev")
  | ((with_reducible apply ed_gt) <;> walk_at "ev")
  | ((with_reducible apply ed_ge) <;> walk_at "ev")
  | ((with_reducible apply ed_eqI) <;> walk_at "ev")
  | ((with_reducible apply ed_neI) <;> walk_at "ev")
  | ((with_reducible apply ed_gcd) <;> walk_at "ev")
  | ((with_reducible apply ed_abs) <;> walk_at "ev")
  | ((with_reducible apply ed_intI) <;> walk_at "ev")
  | ((with_reducible apply ed_intB) <;> walk_at "ev")
  | ((with_reducible apply ed_max2) <;> walk_at "ev")
  | ((with_reducible apply ed_min2) <;> walk_at "ev")
  | ((with_reducible apply ed_lenT) <;> walk_at "ev")
  | ((with_reducible apply ed_lenL) <;> walk_at "ev")
  | ((with_reducible apply ed_tuple) <;> walk_at "ev")
  | ((with_reducible apply ed_tupleT) <;> walk_at "ev")
  | ((with_reducible apply ed_tup) <;> first | walk_at "ea" | (simp; done) | skip)
  | ((with_reducible apply et_t) <;> walk_at "ev")
  | ((with_reducible apply et_v) <;> walk_at "ev"))
local macro_rules | `(tactic| walk_at "ea") => `(tactic| first
  | exact ea0
  | ((with_reducible apply ea1) <;> first | walk_at "ev" | walk_at "ea" | skip))

section
variable {P : Program} {w : World} {K : PySem.W.Frag} {mg : Str → Option Value} {base : Heap}
theorem S_le8 {v : List Rat} {c : Nat} (h : ∀ q ∈ v, q ≤ ((c : Int) : Rat)) : ∀ j, j ≤ v.length → S v j ≤ (((c * j : Nat) : Int) : Rat)
  | 0, _ => by rw [S_zero]; exact Rat.le_refl
  | j + 1, hj => by
    rw [S_succ v j (by omega)]
    have a := S_le8 h j (by omega)
    have b := h _ (List.getElem_mem (show j < v.length by omega))
    have e : (((c * (j + 1) : Nat) : Int) : Rat) = (((c * j : Nat) : Int) : Rat) + ((c : Int) : Rat) := by
      rw [← Rat.intCast_add]
      congr 1
    rw [e]
    generalize (((c * j : Nat) : Int) : Rat) = X at a ⊢
    generalize ((c : Int) : Rat) = Y at b ⊢
    generalize v[j] = Z at b ⊢
    grind
theorem hts_sm {A : List Int} {v : List Rat} {n : Nat} (lv : v.length = A.length) (ar : ∀ a ∈ A, 1 ≤ a ∧ a ≤ 1000) (sm : ∀ q ∈ v, Sm n q) : ∀ q ∈ hts A v, Sm (n + 10) q := by
  intro q hq
  unfold hts at hq
  obtain ⟨i, hi, rfl⟩ := List.mem_map.mp hq
  have hi := List.mem_range.mp hi
  have ha := ar _ (gd_mem (z := 1) (show i < A.length by omega))
  exact (sm _ (gd_mem hi)).mul (smMk (k := 10) (by omega) (by decide) (by omega))
theorem gv_row {A : List Int} {ts : List Tv} (a1 : 1 ≤ A.length) (al : A.length ≤ 10) (ar : ∀ a ∈ A, 1 ≤ a ∧ a ≤ 4) (tl : ts.length = A.length) (tg : ∀ t ∈ ts, gv t) : RowOk A (ts.map Tv.q) 6 80 := by
  have lim : (2 : Nat) ^ 7 ≤ 2 ^ 400 := Nat.pow_le_pow_right (by decide) (by decide)
  have lv : (ts.map Tv.q).length = A.length := by rw [List.length_map, tl]
  refine ⟨lv, a1, by omega, fun a ha => ⟨(ar a ha).1, by have := (ar a ha).2; omega⟩, by decide, by omega, by omega, ?_, ?_, ?_⟩
  · intro q hq
    obtain ⟨t, ht, rfl⟩ := List.mem_map.mp hq
    exact (tg t ht).2.2.1
  · intro q hq
    obtain ⟨t, ht, rfl⟩ := List.mem_map.mp hq
    exact (tg t ht).2.2.2.1
  · refine Rat.le_trans (S_le8 (c := 8) (fun q hq => ?_) _ (Nat.le_refl _)) ?_
    · obtain ⟨t, ht, rfl⟩ := List.mem_map.mp hq
      exact (tg t ht).2.2.2.2
    · have : ((8 * (ts.map Tv.q).length : Nat) : Int) ≤ ((80 : Nat) : Int) := by omega
      exact_mod_cast this
theorem wrs_asc (A L : List Int) : wrs A (asc L) = wrs A L := by
  unfold wrs
  refine List.filter_congr fun i _ => ?_
  rw [decide_eq_decide.mpr (mem_asc (k := i) (ns := L))]
theorem law_c {tz : TS} {En : Ends} {H : Hp} {A L : List Int} {ts : List Tv} {s0 sd va vv : V} {pl : Addr} (a1 : 1 ≤ A.length) (al : A.length ≤ 10) (ar : ∀ a ∈ A, 1 ≤ a ∧ a ≤ 4) (tl : ts.length = A.length) (tg : ∀ t ∈ ts, gv t) (lr : ∀ l ∈ L, 0 < l ∧ l < (A.length : Int)) (ll : L.length ≤ A.length)
    (iA : Is K H va (.tup (iL A))) (iv : Is K H vv (.tup (ts.map Tv.d))) (iL' : Is K H (.ref pl) (.lst (iL L)))
    (k : ∀ ur ut pw ph xh H', Ex H H' → Is K H' ur (rowD A (ts.map Tv.q) (asc L)) → Is K H' ut (.tup (frs (ts.map Tv.q))) → H pw = none → H' pw = some (.lst ((wrs A (asc L)).map V.int)) → H ph = none → H' ph = some (.lst xh) → All K H' xh (frs (hts A (ts.map Tv.q))) →
      tz En ([some s0, some sd, some va, some vv, some (.ref pl), some ur, some ut, some (.ref pw), some (.ref ph)] ++ List.replicate 11 none) H') :
    tSeq (tPar 5 6 (tCons (tMake (He.ga K "Row") (spI K "Row" (R_Row .lst)) [] E0 (tCons (tVar 2) (tCons (tVar 3) (tCons (tVar 4) tNil)))) (tCons (tCall (spD K R_parts_of) [] E0 (tCons (tVar 3) tNil)) tNil)))
      (tSeq (tPar 7 8 (tCons (tLc (iRng2 (tCons (tC (.int 1)) (tCons (tCB (rLenS K) (tCons (tVar 2) tNil)) tNil))) (gName 12) (tTest (tOp (rIn K true) (tVar 12) (tVar 4))) (tVar 12) [12]) (tCons (tCall (spN K R_law_heights) [] E0 (tCons (tVar 2) (tCons (tCall (spD K R_parts_of) [] E0 (tCons (tVar 3) tNil)) tNil))) tNil))) tz) En ([some s0, some sd, some va, some vv, some (.ref pl)] ++ List.replicate 15 none) H := by
  have red : ∀ t ∈ ts, t.red := fun t ht => (tg t ht).2.1
  have rk := gv_row a1 al ar tl tg
  refine q_parD (K := K) (d1 := rowD A (ts.map Tv.q) (asc L)) (d2 := .tup (frs (ts.map Tv.q))) (ed_make (R := R_Row .lst) (ea1 (ed_var rfl iA) (ea1 (ed_var rfl iv) (ea1 (ed_var rfl iL') ea0))) ⟨A, L, ts, rfl, a1, by omega, rk.ar, tl, fun t ht => (tg t ht).1, lr, by omega, rfl⟩) (ed_call (R := R_parts_of) (ea1 (ed_var rfl iv) ea0) ⟨ts, rfl, red, by omega, rfl⟩) fun ur ut H1 e1 ir it => ?_
  refine q_parN (K := K) (ds := iL (wrs A (asc L))) (es := frs (hts A (ts.map Tv.q))) (EvN.is (en_lc1 (n := ((A.length : Int) - 1).toNat) (item := fun i => .int (1 + (i : Int))) (fun i => !decide (1 + (i : Int) ∈ L)) (fun i => .int (1 + (i : Int))) (fun H2 e2 => ei_r2 (ea1 ed_int (ea1 (EvD.is (ed_lenT (K := K) (ed_var rfl (iA.ex (e1.trans e2)))) (by rw [iLlen])) ea0)) (by omega)) (by omega) (fun _ _ _ => rfl) (fun x => rfl) (fun i x H2 hi e2 ax => et_t (K := K) (ed_ninL (ed_var rfl ax) (ed_var rfl (iL'.ex (e1.trans e2))))) (fun i x H2 hi e2 ax _ => ed_var rfl ax)) ?_) (fun H2 e2 => en_call (R := R_law_heights) (ea1 (ed_var rfl (iA.ex (e1.trans e2))) (ea1 (d := .tup (frs (ts.map Tv.q))) (ed_call (R := R_parts_of) (ea1 (ed_var rfl (iv.ex (e1.trans e2))) ea0) ⟨ts, rfl, red, by omega, rfl⟩) ea0)) ⟨A, ts.map Tv.q, rfl, rk.len, by omega, rk.ar, fun q hq => (rk.sm hq).mono (by decide), rfl⟩) fun pw xw ph xh H2 hpw hph npw e2 hxw axw hxh axh => ?_
  · rw [wrs_asc]
    unfold gives wrs iL
    rw [List.filter_map, List.map_map, show ((A.length : Int) - 1).toNat = A.length - 1 from by omega]
    rfl
  · have xw1 := allIL axw
    subst xw1
    exact k ur ut pw ph xh H2 (e1.trans e2) (ir.ex e2) (it.ex e2) (fresh_back e1 hpw) hxw (fresh_back e1 hph) hxh axh

end
end My
end
section
set_option Elab.async false
set_option linter.all false
set_option maxRecDepth 100000
set_option maxHeartbeats 4000000
namespace My
open PySem PySem.Spec PyProof.Rows L2 Evl WD
local macro_rules | `(tactic| walk_at "exgo") => `(tactic| first | exact Ex.refl _ | assumption | (refine' Ex.trans ?ea ?eb; (case eb => assumption); (case ea => walk_at "exgo")))
local macro_rules | `(tactic| walk_at "is") => `(tactic| first | assumption | (refine' Is.ex ?e ?h; (case h => assumption); (case e => walk_at "exgo")) | exact Is.int _ | exact Is.bl _ | exact Is.non)
local macro_rules | `(tactic| walk_at "ev") => `(tactic| first
  | exact ed_int | exact ed_bl | exact ed_non | exact ed_str
  | ((with_reducible apply ed_var) <;> first | exact rfl | walk_at "is")
  | ((with_reducible apply ed_add) <;> walk_at "ev")
  | ((with_reducible apply ed_sub) <;> walk_at "ev")
  | ((with_reducible apply ed_neg) <;> walk_at "ev")
  | ((with_reducible apply ed_mulW) <;> try walk_at "ev")
  | ((with_reducible apply ed_divW) <;> try walk_at "ev")
  | ((with_reducible apply ed_mod) <;> try walk_at "ev")
  | ((with_reducible apply ed_ixT) <;> first | exact rfl | walk_at "ev" | skip)
  | ((with_reducible apply ed_ixL) <;> first | exact rfl | walk_at "ev" | skip)
  | ((with_reducible apply ed_lt) <;> walk_at "ev")
  | ((with_reducible apply ed_le) <;> walk_at "ev")
  | ((with_reducible apply ed_gt) <;> walk_at "ev")
  | ((with_reducible apply ed_ge) <;> walk_at "ev")
  | ((with_reducible apply ed_eqI) <;> walk_at "ev")
  | ((with_reducible apply ed_neI) <;> walk_at "ev")
  | ((with_reducible apply ed_gcd) <;> walk_at "ev")
  | ((with_reducible apply ed_abs) <;> walk_at "ev")
  | ((with_reducible apply ed_intI) <;> walk_at "ev")
  | ((with_reducible apply ed_intB) <;> walk_at "ev")
  | ((with_reducible apply ed_max2) <;> walk_at "ev")
  | ((with_reducible apply ed_min2) <;> walk_at "ev")
  | ((with_reducible apply ed_lenT) <;> walk_at "ev")
  | ((with_reducible apply ed_lenL) <;> walk_at "ev")
  | ((with_reducible apply ed_tuple) <;> walk_at "ev")
  | ((with_reducible apply ed_tupleT) <;> walk_at "ev")
  | ((with_reducible apply ed_tup) <;> first | walk_at "ea" | (simp; done) | skip)
  | ((with_reducible apply et_t) <;> walk_at "ev")
  | ((with_reducible apply et_v) <;> walk_at "ev"))
local macro_rules | `(tactic| walk_at "ea") => `(tactic| first
  | exact ea0
  | ((with_reducible apply ea1) <;> first | walk_at "ev" | walk_at "ea" | skip))

section
variable {P : Program} {w : World} {K : PySem.W.Frag} {mg : Str → Option Value} {base : Heap}
theorem eqv_prs_self : ∀ l : List (Int × Int), PyData.eqvAll (l.map fun p => PyData.tuple [.int p.1, .int p.2]) (l.map fun p => PyData.tuple [.int p.1, .int p.2]) = true
  | [] => by simp [PyData.eqvAll]
  | p :: l => by
    have := eqv_prs_self l
    simp [PyData.eqvAll, PyData.eqv] at this ⊢
    exact this
theorem eqv_prs (l : List (Int × Int)) : PyData.eqv (D.lst (prs l)).py (D.lst (prs l)).py = true := by
  show PyData.eqv (.list (D.pys (prs l))) (.list (D.pys (prs l))) = true
  rw [prs_pys]
  simp only [PyData.eqv]
  exact eqv_prs_self l
theorem et_is {t : TT} {σ : L2.St} {H : Hp} {a b : Bool} (h : EvT t σ H a) (e : a = b) : EvT t σ H b := e ▸ h
theorem q_pass {c : TT} {tu tz : TS} {En : Ends} {σ : L2.St} {H : Hp} (h : EvT c σ H false) (k : ∀ H', Ex H H' → tz En σ H') : tSeq (tIfS c tu tNext) tz En σ H := h H (Ex.refl H) _ fun H1 e1 => by
  rw [if_neg (by decide)]
  exact k H1 e1
theorem law_d {tz : TS} {En : Ends} {σ : L2.St} {H : Hp} {A L : List Int} {v : List Rat} {M W : Nat} {ur uh : V} (h5 : σ[5]? = some (some ur)) (h8 : σ[8]? = some (some uh)) (rk : RowOk A v M W) (ir : Is K H ur (rowD A v L)) (ih : Is K H uh (.lst (frs (hts A v))))
    (k : ∀ H', Ex H H' → tz En σ H') :
    tSeq (tIfS (tOr (tTest (tOp (rNeD K) (tCall (spN K R_signs) [] E0 (tCons (tVar 5) tNil)) (tCall (spN K R_law_signs) [] E0 (tCons (tVar 8) tNil)))) (tTest (tOp rNe (tCall (spD K R_turns) [] E0 (tCons (tVar 5) tNil)) (tCall (spD K R_law_turns) [] E0 (tCons (tVar 8) tNil))))) (tRet (tC (.bl false))) tNext)
    (tSeq (tIfS (tOr (tTest (tOp (rNeD K) (tCall (spN K R_flats) [] E0 (tCons (tVar 5) tNil)) (tCall (spN K R_law_flats) [] E0 (tCons (tVar 8) tNil)))) (tTest (tOp (rNeD K) (tCall (spN K R_peaks) [] E0 (tCons (tVar 5) tNil)) (tCall (spN K R_law_peaks) [] E0 (tCons (tVar 8) tNil))))) (tRet (tC (.bl false))) tNext) tz) En σ H := by
  have hl : (hts A v).length = A.length := (hts_len A v).trans rk.len
  have al := rk.al
  have sm : ∀ q ∈ hts A v, Sm 4000 q := fun q hq => (hts_sm rk.len rk.ar (fun p hp => rk.sm hp) q hq).mono (by decide)
  have es := lsg_eq (v := v) rk.len rk.ar
  refine q_pass (et_is (a := false || false) (b := false) (et_or (et_is (b := false) (et_t (K := K) (ed_neD (K := K) (EvN.toD (en_call (R := R_signs) (ea1 (ed_var h5 ir) ea0) ⟨A, v, L, M, W, rfl, rk, rfl⟩)) (EvN.toD (en_call (R := R_law_signs) (ea1 (ed_var h8 ih) ea0) ⟨hts A v, rfl, by omega, sm, rfl⟩)) (sh_iL _) (sh_iL _))) ?_) fun _ => et_is (b := false) (et_t (K := K) (ed_neI (K := K) (ed_call (R := R_turns) (ea1 (ed_var h5 ir) ea0) ⟨A, v, L, M, W, rfl, rk, rfl⟩) (ed_call (R := R_law_turns) (ea1 (ed_var h8 ih) ea0) ⟨hts A v, rfl, by omega, sm, rfl⟩))) ?_) rfl) fun H1 e1 => ?_
  · rw [eqv_iL, es]
    rw [decide_eq_true (show (sgs A (sms v)).filter (fun x => !decide (x = 0)) = nz (sgs A (sms v)) from rfl)]
    rfl
  · rw [es]
    unfold trn
    rw [chg_eq]
    rw [decide_eq_true rfl]
    rfl
  · have ir1 := ir.ex e1
    have ih1 := ih.ex e1
    have ef := flt_lfl (v := v) rk.len rk.a1 rk.ar
    have ep := pks_eq (v := v) rk.len rk.a1 rk.ar
    refine q_pass (et_is (a := false || false) (b := false) (et_or (et_is (b := false) (et_t (K := K) (ed_neD (K := K) (d1 := .lst (prs (flt A (sms v)))) (d2 := .lst (prs (lfl (hts A v) (hts A v).length))) (EvN.toD (en_call (R := R_flats) (ea1 (ed_var h5 ir1) ea0) ⟨A, v, L, M, W, rfl, rk, rfl⟩)) (EvN.toD (en_call (R := R_law_flats) (ea1 (ed_var h8 ih1) ea0) ⟨hts A v, rfl, by omega, rfl⟩)) (sh_prs _) (sh_prs _))) ?_) fun _ => et_is (b := false) (et_t (K := K) (ed_neD (K := K) (d1 := .lst (prs (pks A (sms v)))) (d2 := .lst (prs (lpks (hts A v)))) (EvN.toD (en_call (R := R_peaks) (ea1 (ed_var h5 ir1) ea0) ⟨A, v, L, M, W, rfl, rk, rfl⟩)) (EvN.toD (en_call (R := R_law_peaks) (ea1 (ed_var h8 ih1) ea0) ⟨hts A v, rfl, by omega, sm, rfl⟩)) (sh_prs _) (sh_prs _))) ?_) rfl) fun H2 e2 => k H2 (e1.trans e2)
    · rw [ef, eqv_prs]
      rfl
    · rw [ep, eqv_prs]
      rfl

end
end My
end
section
set_option Elab.async false
set_option linter.all false
set_option maxRecDepth 100000
set_option maxHeartbeats 4000000
namespace My
open PySem PySem.Spec PyProof.Rows L2 Evl WD
local macro_rules | `(tactic| walk_at "exgo") => `(tactic| first | exact Ex.refl _ | assumption | (refine' Ex.trans ?ea ?eb; (case eb => assumption); (case ea => walk_at "exgo")))
local macro_rules | `(tactic| walk_at "is") => `(tactic| first | assumption | (refine' Is.ex ?e ?h; (case h => assumption); (case e => walk_at "exgo")) | exact Is.int _ | exact Is.bl _ | exact Is.non)
local macro_rules | `(tactic| walk_at "ev") => `(tactic| first
  | exact ed_int | exact ed_bl | exact ed_non | exact ed_str
  | ((with_reducible apply ed_var) <;> first | exact rfl | walk_at "is")
  | ((with_reducible apply ed_add) <;> walk_at "ev")
  | ((with_reducible apply ed_sub) <;> walk_at "ev")
  | ((with_reducible apply ed_neg) <;> walk_at "ev")
  | ((with_reducible apply ed_mulW) <;> try walk_at "ev")
  | ((with_reducible apply ed_divW) <;> try walk_at "ev")
  | ((with_reducible apply ed_mod) <;> try walk_at "ev")
  | ((with_reducible apply ed_ixT) <;> first | exact rfl | walk_at "ev" | skip)
  | ((with_reducible apply ed_ixL) <;> first | exact rfl | walk_at "ev" | skip)
  | ((with_reducible apply ed_lt) <;> walk_at "ev")
  | ((with_reducible apply ed_le) <;> walk_at "ev")
  | ((with_reducible apply ed_gt) <;> walk_at "ev")
  | ((with_reducible apply ed_ge) <;> walk_at "ev")
  | ((with_reducible apply ed_eqI) <;> walk_at "ev")
  | ((with_reducible apply ed_neI) <;> walk_at "ev")
  | ((with_reducible apply ed_gcd) <;> walk_at "ev")
  | ((with_reducible apply ed_abs) <;> walk_at "ev")
  | ((with_reducible apply ed_intI) <;> walk_at "ev")
  | ((with_reducible apply ed_intB) <;> walk_at "ev")
  | ((with_reducible apply ed_max2) <;> walk_at "ev")
  | ((with_reducible apply ed_min2) <;> walk_at "ev")
  | ((with_reducible apply ed_lenT) <;> walk_at "ev")
  | ((with_reducible apply ed_lenL) <;> walk_at "ev")
  | ((with_reducible apply ed_tuple) <;> walk_at "ev")
  | ((with_reducible apply ed_tupleT) <;> walk_at "ev")
  | ((with_reducible apply ed_tup) <;> first | walk_at "ea" | (simp; done) | skip)
  | ((with_reducible apply et_t) <;> walk_at "ev")
  | ((with_reducible apply et_v) <;> walk_at "ev"))
local macro_rules | `(tactic| walk_at "ea") => `(tactic| first
  | exact ea0
  | ((with_reducible apply ea1) <;> first | walk_at "ev" | walk_at "ea" | skip))

section
variable {P : Program} {w : World} {K : PySem.W.Frag} {mg : Str → Option Value} {base : Heap}
/-- openings that a row with locks lets be done -/
theorem can_wrs {A L O : List Int} (h : ∀ o ∈ O, o ∈ wrs A L) : canO A O := fun o ho => by
  obtain ⟨w, rfl, h1, h2, _⟩ := wrs_mem.mp (h o ho)
  exact ⟨w, rfl, h1, h2⟩
theorem in_wrs {A L O : List Int} (h : ∀ o ∈ O, o ∈ wrs A L) : ∀ o ∈ O, inR A L o = true := fun o ho => by
  obtain ⟨w, rfl, h1, h2, h3⟩ := wrs_mem.mp (h o ho)
  unfold inR
  rw [decide_eq_true (show 0 < ((w : Nat) : Int) by omega), decide_eq_true (show ((w : Nat) : Int) < (A.length : Int) by omega), decide_eq_false h3]
  rfl
theorem pow8 {n : Nat} (h : n ≤ 20) : 6 * 8 ^ n < 2 ^ 400 := by
  have a : 8 ^ n ≤ 8 ^ 20 := Nat.pow_le_pow_right (by decide) h
  have b : (6 * 8 ^ 20 : Nat) < 2 ^ 100 := by decide
  have c : (2 : Nat) ^ 100 ≤ 2 ^ 400 := Nat.pow_le_pow_right (by decide) (by decide)
  omega
theorem law_e {tz : TS} {En : Ends} {H : Hp} {d sA pw : Addr} {ns A L : List Int} {s0 va vv pl ur ut ph : V} (dr : Dr K H d sA ns 130) (iw : Is K H (.ref pw) (.lst (iL (wrs A L)))) (nw : pw ≠ d)
    (k : ∀ (O : List Int) po H', Dr K H' d sA ns 160 → Mu [d] H H' → O.length ≤ 20 → (∀ o ∈ O, o ∈ wrs A L) → H po = none → H' po = some (.lst (O.map V.int)) → tz En ([some s0, some (.ref d), some va, some vv, some pl, some ur, some ut, some (.ref pw), some ph, some (.ref po), some ut] ++ List.replicate 9 none) H') :
    tSeq (tPar 9 10 (tCons (tCall (sp_order K) [] E0 (tCons (tVar 1) (tCons (tVar 7) (tCons (tCall (sp_take K) [] E0 (tCons (tVar 1) (tCons (tC (.int 20)) tNil))) tNil)))) (tCons (tVar 6) tNil))) tz En ([some s0, some (.ref d), some va, some vv, some pl, some ur, some ut, some (.ref pw), some ph] ++ List.replicate 11 none) H := by
  refine ⟨_, rfl, _, rfl, ?_⟩
  refine em_take dr (by decide) (many := 20) (by decide) (ev_ref rfl) ed_int fun t H1 mu1 h1 t0 t1 => ?_
  obtain ⟨m, rfl⟩ : ∃ m : Nat, t = (m : Int) := ⟨t.toNat, by omega⟩
  have iw1 := Is.mul iw mu1 (by simpa using nw) (iLlf _)
  refine ⟨d, sA, ns, 131, pw, wrs A L, m, rfl, h1.le (by decide), by decide, iw1, nw, by omega, fun O po H2 hpo mu2 h2 hl hO hx => ?_⟩
  refine ⟨_, rfl, _, _, rfl, ?_⟩
  refine k O po H2 (h2.le (by omega)) (mu1.trans mu2) (by omega) hO ?_ hx
  cases z : H po with
  | none => rfl
  | some o =>
    exfalso
    by_cases y : po = d
    · obtain ⟨⟨u, hu⟩, _⟩ := h1.some
      rw [y, hu] at hpo
      cases hpo
    · rw [mu1.keep (by simpa using y) z] at hpo
      cases hpo
def nmsL (A : List Int) (v : List Rat) (O : List Int) (i : Nat) : List Int := (List.range (i + 1)).map fun k => ((cc (lsg (hts A (rws A v O k))) : Nat) : Int)
theorem nmsL_succ (A : List Int) (v : List Rat) (O : List Int) (i : Nat) : nmsL A v O (i + 1) = nmsL A v O i ++ [((cc (lsg (hts A (rws A v O (i + 1)))) : Nat) : Int)] := by
  unfold nmsL
  rw [List.range_succ, List.map_append]
  rfl
theorem nmsL_len (A : List Int) (v : List Rat) (O : List Int) (i : Nat) : (nmsL A v O i).length = i + 1 := by
  unfold nmsL
  rw [List.length_map, List.length_range]
theorem en_lturns {σ : L2.St} {H : Hp} {A : List Int} {v : List Rat} {M W : Nat} {ta tv : TE} (rk : RowOk A v M W) (ha : EvD K ta σ H (.tup (iL A))) (hv : EvD K tv σ H (.tup (frs v))) :
    EvD K (tCall (spD K R_law_turns) [] E0 (tCons (tCall (spN K R_law_heights) [] E0 (tCons ta (tCons tv tNil))) tNil)) σ H (.int ((cc (lsg (hts A v)) : Nat) : Int)) := by
  have hl : (hts A v).length = A.length := (hts_len A v).trans rk.len
  have al := rk.al
  exact ed_call (R := R_law_turns) (ea1 (EvN.toD (en_call (R := R_law_heights) (ea1 ha (ea1 hv ea0)) ⟨A, v, rfl, rk.len, al, rk.ar, fun q hq => (rk.sm hq).mono (by decide), rfl⟩)) ea0) ⟨hts A v, rfl, by omega, fun q hq => (hts_sm rk.len rk.ar (fun p hp => rk.sm hp) q hq).mono (by decide), rfl⟩
theorem law_f {tz : TS} {En : Ends} {H : Hp} {po : Addr} {A O : List Int} {v : List Rat} {s0 sd va vv pl ur ut pw uh : V} (rk : RowOk A v 6 80) (a4 : ∀ a ∈ A, a ≤ 4) (can : canO A O) (ol : O.length ≤ 20)
    (iA : Is K H va (.tup (iL A))) (it : Is K H ut (.tup (frs v))) (ih : Is K H uh (.lst (frs (hts A v)))) (io : Is K H (.ref po) (.lst (iL O)))
    (k : ∀ pn un y12 H', Ex H H' → H pn = none → H' pn = some (.lst ((nms A v O O.length).map V.int)) → tz En ([some s0, some sd, some va, some vv, some pl, some ur, some ut, some pw, some uh, some (.ref po), some un, some (.ref pn), y12] ++ List.replicate 7 none) H') :
    tSeq (tAsg (tLst (tCons (tCall (spD K R_law_turns) [] E0 (tCons (tVar 8) tNil)) tNil)) (gName 11))
      (tSeq (tFor (iList K (tVar 9)) (gName 12) (tSeq (tAsg (tCall (spD K R_law_open) [] E0 (tCons (tVar 2) (tCons (tVar 10) (tCons (tVar 12) tNil)))) (gName 10)) (tDrop (tBM K "list" rAppend (tVar 11) (tCons (tCall (spD K R_law_turns) [] E0 (tCons (tCall (spN K R_law_heights) [] E0 (tCons (tVar 2) (tCons (tVar 10) tNil))) tNil)) tNil))))) tz) En
      ([some s0, some sd, some va, some vv, some pl, some ur, some ut, some pw, some uh, some (.ref po), some ut] ++ List.replicate 9 none) H := by
  have hl : (hts A v).length = A.length := (hts_len A v).trans rk.len
  have al := rk.al
  refine q_asgN (K := K) (ds := iL (nmsL A v O 0)) (EvN.is (en_lst (ea1 (ed_call (R := R_law_turns) (ea1 (ed_var rfl ih) ea0) ⟨hts A v, rfl, by omega, fun q hq => (hts_sm rk.len rk.ar (fun p hp => rk.sm hp) q hq).mono (by decide), rfl⟩) ea0) (by show 1 ≤ 100000; decide)) rfl) fun pn xn H1 hpn e1 hxn axn => ?_
  have xn1 := allIL axn
  subst xn1
  refine q_for (K := K) (L := [pn]) (n := O.length) (item := fun i => (iL O).getD i .non) (EvI.is (ei_list (es_var rfl io e1 (fun l hl => by rw [List.mem_singleton.mp hl]; exact hpn)) (iLlf O)) (iLlen O))
    (fun i σ' H' => ∃ un y12, σ' = ([some s0, some sd, some va, some vv, some pl, some ur, some ut, some pw, some uh, some (.ref po), some un, some (.ref pn), y12] ++ List.replicate 7 none) ∧ Ex H H' ∧ Is K H' un (.tup (frs (rws A v O i))) ∧ H' pn = some (.lst ((nmsL A v O i).map V.int)))
    (fun H2 e2 => ⟨ut, none, rfl, e1.trans e2, it.ex (e1.trans e2), e2 _ _ hxn⟩) ?_ ?_
  · rintro i x σ' H2 H3 hi ⟨un, y12, rfl, E2, iu, hn⟩ e3 ax
    rw [show (iL O).getD i .non = .int O[i] from getD_map _ _ _ hi] at ax
    obtain ⟨w, hw, w1, w2⟩ := can O[i] (List.getElem_mem hi)
    rw [hw] at ax
    cases ax
    obtain ⟨M1, m1, r1⟩ := rws_ok rk a4 can (pow8 ol) i (by omega)
    obtain ⟨M2, m2, r2⟩ := rws_ok rk a4 can (pow8 ol) (i + 1) (by omega)
    have es := rws_succ A v O i hi
    rw [hw, Int.toNat_natCast] at es
    rw [nmsL_succ]
    refine g_name ?_
    refine q_asgD (K := K) (d := .tup (frs (rws A v O (i + 1)))) (ed_call (R := R_law_open) (ea1 (ed_var rfl (iA.ex (E2.trans e3))) (ea1 (ed_var rfl (iu.ex e3)) (ea1 (ed_var rfl (.int _)) ea0))) ⟨A, rws A v O i, w, rfl, r1.len, w1, w2, al, rk.ar, fun q hq => (r1.sm hq).mono (by decide), by rw [es]⟩) fun u H4 e4 iu4 => ?_
    have hn4 := (e3.trans e4) _ _ hn
    refine s_appD (K := K) (d := .int ((cc (lsg (hts A (rws A v O (i + 1)))) : Nat) : Int)) hn4 (ev_ref rfl) (en_lturns r2 (ed_var rfl (iA.ex ((E2.trans e3).trans e4))) (ed_var rfl iu4)) (by rw [List.length_map, nmsL_len]; omega) fun z H5 e5 az => ?_
    cases az
    have hn5 := e5 _ _ hn4
    refine ⟨⟨u, _, rfl, Ex.updN (((E2.trans e3).trans e4).trans e5) hpn, (iu4.ex e5).updL hn5 (frs_lf _), by rw [List.map_append]; exact upd_same⟩, (Mu.ex ((e3.trans e4).trans e5)).trans (Mu.upd (List.mem_singleton.mpr rfl) hn5)⟩
  · rintro σ' H2 ⟨un, y12, rfl, E2, iu, hn⟩
    refine k pn un y12 H2 E2 hpn ?_
    rw [nms_eq rk.len rk.ar can]
    exact hn

end
end My
end
section
set_option Elab.async false
set_option linter.all false
set_option maxRecDepth 100000
set_option maxHeartbeats 4000000
namespace My
open PySem PySem.Spec PyProof.Rows L2 Evl WD
local macro_rules | `(tactic| walk_at "exgo") => `(tactic| first | exact Ex.refl _ | assumption | (refine' Ex.trans ?ea ?eb; (case eb => assumption); (case ea => walk_at "exgo")))
local macro_rules | `(tactic| walk_at "is") => `(tactic| first | assumption | (refine' Is.ex ?e ?h; (case h => assumption); (case e => walk_at "exgo")) | exact Is.int _ | exact Is.bl _ | exact Is.non)
local macro_rules | `(tactic| walk_at "ev") => `(tactic| first
  | exact ed_int | exact ed_bl | exact ed_non | exact ed_str
  | ((with_reducible apply ed_var) <;> first | exact rfl | walk_at "is")
  | ((with_reducible apply ed_add) <;> walk_at "ev")
  | ((with_reducible apply ed_sub) <;> walk_at "ev")
  | ((with_reducible apply ed_neg) <;> walk_at "ev")
  | ((with_reducible apply ed_mulW) <;> try walk_at "ev")
  | ((with_reducible apply ed_divW) <;> try walk_at "ev")
  | ((with_reducible apply ed_mod) <;> try walk_at "ev")
  | ((with_reducible apply ed_ixT) <;> first | exact rfl | walk_at "ev" | skip)
  | ((with_reducible apply ed_ixL) <;> first | exact rfl | walk_at "ev" | skip)
  | ((with_reducible apply ed_lt) <;> walk_at "ev")
  | ((with_reducible apply ed_le) <;> walk_at "ev")
  | ((with_reducible apply ed_gt) <;> walk_at "ev")
  | ((with_reducible apply ed_ge) <;> walk_at "ev")
  | ((with_reducible apply ed_eqI) <;> walk_at "ev")
  | ((with_reducible apply ed_neI) <;> walk_at "ev")
  | ((with_reducible apply ed_gcd) <;> walk_at "ev")
  | ((with_reducible apply ed_abs) <;> walk_at "ev")
  | ((with_reducible apply ed_intI) <;> walk_at "ev")
  | ((with_reducible apply ed_intB) <;> walk_at "ev")
  | ((with_reducible apply ed_max2) <;> walk_at "ev")
  | ((with_reducible apply ed_min2) <;> walk_at "ev")
  | ((with_reducible apply ed_lenT) <;> walk_at "ev")
  | ((with_reducible apply ed_lenL) <;> walk_at "ev")
  | ((with_reducible apply ed_tuple) <;> walk_at "ev")
  | ((with_reducible apply ed_tupleT) <;> walk_at "ev")
  | ((with_reducible apply ed_tup) <;> first | walk_at "ea" | (simp; done) | skip)
  | ((with_reducible apply et_t) <;> walk_at "ev")
  | ((with_reducible apply et_v) <;> walk_at "ev"))
local macro_rules | `(tactic| walk_at "ea") => `(tactic| first
  | exact ea0
  | ((with_reducible apply ea1) <;> first | walk_at "ev" | walk_at "ea" | skip))

section
variable {P : Program} {w : World} {K : PySem.W.Frag} {mg : Str → Option Value} {base : Heap}
theorem en_cat2 {σ : L2.St} {H : Hp} {ta tb : TE} {ds es : List D} (ha : EvN K ta σ H ds) (hb : ∀ H1, Ex H H1 → EvN K tb σ H1 es) (hl : ds.length + es.length ≤ 100000) : EvN K (tOp rCat ta tb) σ H (ds ++ es) := fun H1 e1 Q q =>
  ha H1 e1 _ fun p xs H2 hp e2 hx ax => hb H2 (e1.trans e2) H2 (Ex.refl H2) _ fun r ys H3 hr e3 hy ay => by
    refine ⟨p, r, xs, ys, rfl, rfl, e3 _ _ hx, hy, ?_, fun z hz => q z _ _ (fresh_back (e2.trans e3) hz) ((e2.trans e3).trans (Ex.new hz)) upd_same (((ax.ex e3).app ay).ex (Ex.new hz))⟩
    rw [ax.len, ay.len, sizeLine_eq]
    omega
theorem en_sortRev {σ : L2.St} {H : Hp} {te : TE} {ns : List Int} (h : EvD K te σ H (.lst (iL ns))) (hs : ns.Pairwise fun a b => b ≤ a) : EvN K (tCKw (rSortedKw K true [.bl true]) (tCons te tNil) (tCons (tC (.bl true)) tNil)) σ H (iL ns) := fun H1 e1 Q q =>
  h H1 e1 _ fun v H2 e2 a => by
    cases a with
    | lst r a =>
      rw [allIL a] at r
      refine ⟨_, ns, rfl, rfl, .inl r, fun ns' p hp ho hn => ?_⟩
      have e : ns' = ns := List.Perm.eq_of_pairwise (le := fun a b : Int => b ≤ a) (fun a b _ _ h1 h2 => Int.le_antisymm h2 h1) (by
        have z : ns'.Pairwise (· ≥ ·) := ho
        exact z) hs hp
      subst e
      exact q p _ _ (fresh_back e2 hn) (e2.trans (Ex.new hn)) upd_same iLall
theorem nms_cons (A : List Int) (v : List Rat) (O : List Int) (k : Nat) : ∃ c cs, nms A v O k = c :: cs := by
  unfold nms
  rw [List.range_succ_eq_map, List.map_cons]
  exact ⟨_, _, rfl⟩
theorem law_g (T : Txt K mg) {tz : TS} {En : Ends} {σ : L2.St} {H : Hp} {A L O : List Int} {v : List Rat} {M W : Nat} {ur uo un : V} (h5 : σ[5]? = some (some ur)) (h9 : σ[9]? = some (some uo)) (h11 : σ[11]? = some (some un)) (l13 : 13 < σ.length) (rk : RowOk A v M W) (ol : O.length ≤ 20) (hO : ∀ o ∈ O, o ∈ wrs A L)
    (ir : Is K H ur (rowD A v L)) (io : Is K H uo (.lst (iL O))) (inn : Is K H un (.lst (iL (nms A v O O.length))))
    (k : ∀ uf H', Ex H H' → tz En (σ.set 13 (some uf)) H') :
    tSeq (tAsg (tCall (spD K R_sinking) [] E0 (tCons (tVar 5) (tCons (tVar 9) tNil))) (gName 13))
     (tSeq (tIfS (tOr (tTest (tOp (rNeD K) (tFld K (tVar 13) "numbers") (tVar 11))) (tOr (tTest (tOp (rNeD K) (tVar 11) (tCKw (rSortedKw K true [.bl true]) (tCons (tVar 11) tNil) (tCons (tC (.bl true)) tNil)))) (tOr (tNot (tB (tMeth (He.ga K "Sinking") "shows" (spD K R_Sinking_shows) [] E0 (tVar 13) (tCons (tVar 5) (tCons (tVar 9) tNil))))) (tNot (tTruO (He.ga K "Sinking") (spD K R_Sinking___bool__) E0 (tVar 13)))))) (tRet (tC (.bl false))) tNext)
     (tSeq (tIfS (tOr (tB (tMeth (He.ga K "Sinking") "shows" (spD K R_Sinking_shows) [] E0 (tMake (He.ga K "Sinking") (spI K "Sinking" (R_Sinking .lst)) [] E0 (tCons (tOp rCat (tLst (tCons (tOp (rI0 fun i j => V.int (i + j)) (tOp (rIxL K) (tVar 11) (tC (.int 0))) (tC (.int 1))) tNil)) (tSl (rSlL K) (tVar 11) (tPart (tC (.int 1))) tNoPart)) tNil)) (tCons (tVar 5) (tCons (tVar 9) tNil))))
       (tTest (tOp (rNeO K (He.ga K "Sinking") (spD K R_Sinking___eq__) E0) (tMake (He.ga K "Sinking") (spI K "Sinking" (R_Sinking .tup)) [] E0 (tCons (tCB (rTupS K) (tCons (tVar 11) tNil)) tNil)) (tVar 13)))) (tRet (tC (.bl false))) tNext) tz)) En σ H := by
  have hin := in_wrs hO
  have can := can_wrs hO
  have srt := nms_sorted (v := v) rk.len rk.ar can
  obtain ⟨c, cs, hc⟩ := nms_cons A v O O.length
  have nl : (nms A v O O.length).length ≤ 21 := by
    unfold nms
    rw [List.length_map, List.length_range]
    omega
  refine q_asgD (K := K) (d := .obj "Sinking" (sinkF (nms A v O O.length))) (ed_call (R := R_sinking) (ea1 (ed_var h5 ir) (ea1 (ed_var h9 io) ea0)) ⟨A, v, L, M, W, O, rfl, rk, by omega, hin, rfl⟩) fun uf H1 e1 jf => ?_
  have g5 : (σ.set 13 (some uf))[5]? = some (some ur) := by rw [List.getElem?_set_ne (by decide)]; exact h5
  have g9 : (σ.set 13 (some uf))[9]? = some (some uo) := by rw [List.getElem?_set_ne (by decide)]; exact h9
  have g11 : (σ.set 13 (some uf))[11]? = some (some un) := by rw [List.getElem?_set_ne (by decide)]; exact h11
  have g13 : (σ.set 13 (some uf))[13]? = some (some uf) := List.getElem?_set_self l13
  have kk := k uf
  revert g5 g9 g11 g13 kk
  generalize σ.set 13 (some uf) = σ'
  intro g5 g9 g11 g13 kk
  have ir1 := ir.ex e1
  have io1 := io.ex e1
  have in1 := inn.ex e1
  generalize hn : nms A v O O.length = nn at srt nl hc jf in1
  refine q_pass (et_is (a := false || (false || (!true || !true))) (b := false) (et_or (et_is (b := false) (et_t (K := K) (ed_neD (K := K) (d1 := .lst (iL nn)) (ed_fld (ed_var g13 jf) T.c_Sinking T.n_Sinking_numbers rfl) (ed_var g11 in1) (sh_iL _) (sh_iL _))) ?_) fun _ => et_or (et_is (b := false) (et_t (K := K) (ed_neD (K := K) (ed_var g11 in1) (EvN.toD (en_sortRev (ed_var g11 in1) srt)) (sh_iL _) (sh_iL _))) ?_) fun _ => et_or (et_not (et_v (K := K) (ed_meth (K := K) (R := R_Sinking_shows) (ed_var g13 jf) rfl (ea1 (ed_var g5 ir1) (ea1 (ed_var g9 io1) ea0)) ⟨A, v, L, M, W, O, nn, rfl, rk, by omega, hin, by rw [hn, decide_eq_true rfl]⟩))) fun _ => et_not (et_truO (K := K) (R := R_Sinking___bool__) (ed_var g13 jf) ⟨nn, rfl, rfl⟩)) rfl) fun H2 e2 => ?_
  · rw [eqv_iL, decide_eq_true rfl]
    rfl
  · rw [eqv_iL, decide_eq_true rfl]
    rfl
  · have ir2 := ir1.ex e2
    have io2 := io1.ex e2
    have in2 := in1.ex e2
    have jf2 := jf.ex e2
    refine q_pass (et_is (a := false || !true) (b := false) (et_or (et_v (K := K) (ed_meth (K := K) (R := R_Sinking_shows) (c := "Sinking") (fs := sinkF ((c + 1) :: cs)) (ed_make (R := R_Sinking .lst) (ea1 (d := .lst (iL ((c + 1) :: cs))) (EvN.toD (EvN.is (en_cat2 (K := K) (ds := [.int (c + 1)]) (es := iL cs) (en_lst (ea1 (ed_add (K := K) (ed_ixL (d := .int c) (ed_var g11 in2) ed_int (by rw [hc]; exact at_iL (A := c :: cs) (j := 0) (by simp))) ed_int) ea0) (by show 1 ≤ 100000; decide)) (fun H3 e3 => EvN.is (en_sl (ed_var g11 (in2.ex e3)) (eo_s (K := K) ed_int) eo_none) (by rw [show ((1 : Int)) = ((1 : Nat) : Int) from rfl, cut_from, hc]; rfl)) ?_) rfl)) ea0) ⟨_, rfl, rfl⟩) rfl (ea1 (ed_var g5 ir2) (ea1 (ed_var g9 io2) ea0)) ⟨A, v, L, M, W, O, (c + 1) :: cs, rfl, rk, by omega, hin, ?_⟩)) fun _ => et_t (K := K) (ed_neO (K := K) (R := R_Sinking___eq__) (b := true) (ed_make (R := R_Sinking .tup) (ea1 (ed_tuple (ed_var g11 in2)) ea0) ⟨nn, rfl, rfl⟩) (ed_var g13 jf2) ⟨nn, nn, rfl, by rw [decide_eq_true rfl]⟩)) rfl) fun H3 e3 => kk H3 ((e1.trans e2).trans e3)
    · rw [iLlen]
      rw [hc] at nl
      simp at nl
      show 1 + cs.length ≤ 100000
      omega
    · rw [hn, hc, decide_eq_false]
      intro z
      have := (List.cons.inj z).1
      omega

end
end My
end
section
set_option Elab.async false
set_option linter.all false
set_option maxRecDepth 100000
set_option maxHeartbeats 4000000
namespace My
open PySem PySem.Spec PyProof.Rows L2 Evl WD
local macro_rules | `(tactic| walk_at "exgo") => `(tactic| first | exact Ex.refl _ | assumption | (refine' Ex.trans ?ea ?eb; (case eb => assumption); (case ea => walk_at "exgo")))
local macro_rules | `(tactic| walk_at "is") => `(tactic| first | assumption | (refine' Is.ex ?e ?h; (case h => assumption); (case e => walk_at "exgo")) | exact Is.int _ | exact Is.bl _ | exact Is.non)
local macro_rules | `(tactic| walk_at "ev") => `(tactic| first
  | exact ed_int | exact ed_bl | exact ed_non | exact ed_str
  | ((with_reducible apply ed_var) <;> first | exact rfl | walk_at "is")
  | ((with_reducible apply ed_add) <;> walk_at "ev")
  | ((with_reducible apply ed_sub) <;> walk_at "ev")
  | ((with_reducible apply ed_neg) <;> walk_at "ev")
  | ((with_reducible apply ed_mulW) <;> try walk_at "ev")
  | ((with_reducible apply ed_divW) <;> try walk_at "ev")
  | ((with_reducible apply ed_mod) <;> try walk_at "ev")
  | ((with_reducible apply ed_ixT) <;> first | exact rfl | walk_at "ev" | skip)
  | ((with_reducible apply ed_ixL) <;> first | exact rfl | walk_at "ev" | skip)
  | ((with_reducible apply ed_lt) <;> walk_at "ev")
  | ((with_reducible apply ed_le) <;> walk_at "ev")
  | ((with_reducible apply ed_gt) <;> walk_at "ev")
  | ((with_reducible apply ed_ge) <;> walk_at "ev")
  | ((with_reducible apply ed_eqI) <;> walk_at "ev")
  | ((with_reducible apply ed_neI) <;> walk_at "ev")
  | ((with_reducible apply ed_gcd) <;> walk_at "ev")
  | ((with_reducible apply ed_abs) <;> walk_at "ev")
  | ((with_reducible apply ed_intI) <;> walk_at "ev")
  | ((with_reducible apply ed_intB) <;> walk_at "ev")
  | ((with_reducible apply ed_max2) <;> walk_at "ev")
  | ((with_reducible apply ed_min2) <;> walk_at "ev")
  | ((with_reducible apply ed_lenT) <;> walk_at "ev")
  | ((with_reducible apply ed_lenL) <;> walk_at "ev")
  | ((with_reducible apply ed_tuple) <;> walk_at "ev")
  | ((with_reducible apply ed_tupleT) <;> walk_at "ev")
  | ((with_reducible apply ed_tup) <;> first | walk_at "ea" | (simp; done) | skip)
  | ((with_reducible apply et_t) <;> walk_at "ev")
  | ((with_reducible apply et_v) <;> walk_at "ev"))
local macro_rules | `(tactic| walk_at "ea") => `(tactic| first
  | exact ea0
  | ((with_reducible apply ea1) <;> first | walk_at "ev" | walk_at "ea" | skip))

section
variable {P : Program} {w : World} {K : PySem.W.Frag} {mg : Str → Option Value} {base : Heap}
theorem mu_dk {L : List Addr} {l : Addr} {H : Hp} {kvs : List (Key × V)} {o : HO} (hl : l ∈ L) (h : H l = some (.dK kvs)) : Mu L H (upd H l o) := ⟨fun b u nb hb => by
  rw [upd_ne (fun z => nb (by rw [z]; exact hl))]
  exact hb, Gt.upd h (fun _ z => by cases z) (fun _ _ z => by cases z)⟩
theorem kvI_succ (kf vi : Nat → Int) (n : Nat) : kvI kf vi (n + 1) = kvI kf vi n ++ [(Sum.inl (kf n), V.int (vi n))] := by
  unfold kvI
  rw [List.range_succ, List.map_append]
  rfl
theorem kvI_len (kf vi : Nat → Int) (n : Nat) : (kvI kf vi n).length = n := by
  unfold kvI
  rw [List.length_map, List.length_range]
theorem kvI_put {kf vi : Nat → Int} {n : Nat} (h : ∀ a, a < n → kf a ≠ kf n) : putK (kvI kf vi n) (Sum.inl (kf n)) (V.int (vi n)) = kvI kf vi (n + 1) := by
  rw [kvI_succ]
  refine putK_end _ _ _ fun p hp z => ?_
  unfold kvI at hp
  obtain ⟨k, hk, rfl⟩ := List.mem_map.mp hp
  exact h k (List.mem_range.mp hk) (Sum.inl.inj z)
theorem kvI_val {kf vi : Nat → Int} {n : Nat} (h : ∀ a b, a < n → b < n → kf a = kf b → a = b) : ∀ p ∈ kvI kf vi n, valV (kvI kf vi n) p.1 = some p.2 ∧ flatB p.2 = true := by
  intro p hp
  obtain ⟨k, hk, rfl⟩ := List.mem_map.mp hp
  have hk := List.mem_range.mp hk
  refine ⟨?_, rfl⟩
  unfold valV
  cases e : (kvI kf vi n).find? fun kv => decide (kv.1 = (Sum.inl (kf k) : Key)) with
  | none =>
    have := List.find?_eq_none.mp e _ hp
    simp at this
  | some q =>
    have m := List.mem_of_find?_eq_some e
    have y := List.find?_some e
    obtain ⟨j, hj, rfl⟩ := List.mem_map.mp m
    have hj := List.mem_range.mp hj
    have z := h j k hj hk (Sum.inl.inj (of_decide_eq_true y))
    rw [z]
    rfl
theorem en_listD {σ : L2.St} {H : Hp} {te : TE} {A L : List Int} {vi : Nat → Int} (h : ∀ H1, Ex H H1 → ∀ Q : VK, (∀ p H2, H1 p = none → Ex H1 H2 → H2 p = some (.dK (kvI (fun i => (wrs A L).getD i 0) vi (wrs A L).length)) → Q (.ref p) H2) → te σ H1 Q) : EvN K (tCB rListD (tCons te tNil)) σ H (iL (wrs A L)) := fun H1 e1 Q q =>
  h H1 e1 _ fun p H2 hp e2 hx => by
    refine ⟨p, _, rfl, hx, fun r hr => ?_⟩
    have e : ((kvI (fun i => (wrs A L).getD i 0) vi (wrs A L).length).map fun kv => kV kv.1) = (wrs A L).map V.int := by
      unfold kvI
      rw [List.map_map]
      refine List.ext_getElem (by simp) fun i a b => ?_
      rw [List.length_map] at b
      simp only [List.getElem_map, List.getElem_range, Function.comp_apply]
      show V.int _ = _
      rw [getD_in b]
    rw [e]
    exact q r _ _ (fresh_back e2 hr) (e2.trans (Ex.new hr)) upd_same iLall
def lefts (A L : List Int) (v : List Rat) (i : Nat) : Int := ((trn A (opn A v ((wrs A L).getD i 0).toNat 1) : Nat) : Int)
theorem law_h {tz : TS} {En : Ends} {H : Hp} {pw : Addr} {A L : List Int} {v : List Rat} {s0 sd va vv pl ur ut uh po un pn uf : V} {y12 : Option V} (rk : RowOk A v 6 80) (iA : Is K H va (.tup (iL A))) (ir : Is K H ur (rowD A v L)) (it : Is K H ut (.tup (frs v))) (iw : Is K H (.ref pw) (.lst (iL (wrs A L))))
    (k : ∀ pd y12 H', Ex H H' → tz En ([some s0, some sd, some va, some vv, some pl, some ur, some ut, some (.ref pw), some uh, some po, some un, some pn, y12, some uf, some (.ref pd)] ++ List.replicate 5 none) H') :
    tSeq (tAsg tDNewK (gName 14)) (tSeq (tFor (iList K (tVar 7)) (gName 12) (sDPut (tVar 14) (tVar 12) (tCall (spD K R_law_turns) [] E0 (tCons (tCall (spN K R_law_heights) [] E0 (tCons (tVar 2) (tCons (tCall (spD K R_law_open) [] E0 (tCons (tVar 2) (tCons (tVar 6) (tCons (tVar 12) tNil)))) tNil))) tNil))))
      (tSeq (tIfS (tOr (tTest (tOp rNeDA (tCall (sp_turns_left K) [] E0 (tCons (tVar 5) tNil)) (tVar 14))) (tTest (tOp (rNeD K) (tCB rListD (tCons (tCall (sp_turns_left K) [] E0 (tCons (tVar 5) tNil)) tNil)) (tVar 7)))) (tRet (tC (.bl false))) tNext) tz)) En
      ([some s0, some sd, some va, some vv, some pl, some ur, some ut, some (.ref pw), some uh, some po, some un, some pn, y12, some uf] ++ List.replicate 6 none) H := by
  have al := rk.al
  have wl : (wrs A L).length ≤ 24 := by
    unfold wrs
    refine Nat.le_trans (List.length_filter_le _ _) ?_
    rw [List.length_map, List.length_range]
    omega
  have inj : ∀ a b, a < (wrs A L).length → b < (wrs A L).length → (wrs A L).getD a 0 = (wrs A L).getD b 0 → a = b := fun a b ha hb h => wrs_inj ha hb h
  have hM : 6 * 2000 < 2 ^ 400 := by
    have c : (2 : Nat) ^ 100 ≤ 2 ^ 400 := Nat.pow_le_pow_right (by decide) (by decide)
    have b : (6 * 2000 : Nat) < 2 ^ 100 := by decide
    omega
  intro pd hpd
  refine q_for (K := K) (L := [pd]) (n := (wrs A L).length) (item := fun i => (iL (wrs A L)).getD i .non) (EvI.is (ei_list (es_var rfl iw (Ex.new hpd) (fun l hl => by rw [List.mem_singleton.mp hl]; exact hpd)) (iLlf _)) (iLlen _))
    (fun i σ' H' => ∃ y12, σ' = ([some s0, some sd, some va, some vv, some pl, some ur, some ut, some (.ref pw), some uh, some po, some un, some pn, y12, some uf, some (.ref pd)] ++ List.replicate 5 none) ∧ Ex H H' ∧ H' pd = some (.dK (kvI (fun i => (wrs A L).getD i 0) (lefts A L v) i)))
    (fun H2 e2 => ⟨y12, rfl, (Ex.new hpd).trans e2, e2 _ _ upd_same⟩) ?_ ?_
  · rintro i x σ' H2 H3 hi ⟨z12, rfl, E2, hd⟩ e3 ax
    rw [show (iL (wrs A L)).getD i .non = .int ((wrs A L).getD i 0) from by rw [show (iL (wrs A L)).getD i .non = D.int (wrs A L)[i] from getD_map _ _ _ hi, getD_in hi]] at ax
    obtain ⟨w, hw, w1, w2, w3⟩ := wrs_mem.mp (show (wrs A L).getD i 0 ∈ wrs A L from gd_mem hi)
    have hv : lefts A L v i = ((trn A (opn A v w 1) : Nat) : Int) := by
      unfold lefts
      rw [hw, Int.toNat_natCast]
    have ha := rk.ar _ (gd_mem (z := 1) (show w - 1 < A.length by omega))
    have hb := rk.ar _ (gd_mem (z := 1) w2)
    have r2 := rk.opn (s := 1) (Ds := 1) w1 w2 (by decide) (by decide) (by decide) ⟨1, rfl⟩ (Nat.lt_of_le_of_lt (by rw [Nat.mul_one]; exact Nat.mul_le_mul_left _ (by omega)) hM)
    have ev : ((cc (lsg (hts A (opn A v w 1))) : Nat) : Int) = lefts A L v i := by
      rw [hv, lsg_eq r2.len rk.ar]
      unfold trn
      rw [chg_eq]
    rw [hw] at ax
    cases ax
    refine g_name ?_
    refine en_lturns (K := K) (v := opn A v w 1) r2 (ed_var rfl (iA.ex (E2.trans e3))) (ed_call (R := R_law_open) (ea1 (ed_var rfl (iA.ex (E2.trans e3))) (ea1 (ed_var rfl (it.ex (E2.trans e3))) (ea1 (ed_var rfl (.int _)) ea0))) ⟨A, v, w, rfl, rk.len, w1, w2, al, rk.ar, fun q hq => (rk.sm hq).mono (by decide), rfl⟩) H3 (Ex.refl H3) _ fun z H4 e4 az => ?_
    rw [ev] at az
    cases az
    have hd4 := (e3.trans e4) _ _ hd
    refine ⟨_, rfl, _, rfl, pd, _, rfl, .inl ⟨_, .inl ((w : Nat) : Int), hd4, rfl, sz_lt (by rw [kvI_len]; omega), rfl⟩, ?_⟩
    have pk := kvI_put (kf := fun i => (wrs A L).getD i 0) (vi := lefts A L v) (n := i) (fun a ha h => by have := inj a i (by omega) hi h; omega)
    rw [hw] at pk
    rw [pk]
    exact ⟨⟨_, rfl, Ex.updN ((E2.trans e3).trans e4) hpd, upd_same⟩, (Mu.ex (e3.trans e4)).trans (mu_dk (List.mem_singleton.mpr rfl) hd4)⟩
  · rintro σ' H2 ⟨z12, rfl, E2, hd⟩
    have tl : ∀ H3, Ex H2 H3 → ∀ H4, Ex H3 H4 → ∀ Q : VK, (∀ p H5, H4 p = none → Ex H4 H5 → H5 p = some (.dK (kvI (fun i => (wrs A L).getD i 0) (lefts A L v) (wrs A L).length)) → Q (.ref p) H5) → tCall (sp_turns_left K) [] E0 (tCons (tVar 5) tNil) ([some s0, some sd, some va, some vv, some pl, some ur, some ut, some (.ref pw), some uh, some po, some un, some pn, z12, some uf, some (.ref pd)] ++ List.replicate 5 none) H4 Q := fun H3 e3 H4 e4 Q q =>
      ⟨_, rfl, A, v, L, 6, 80, ur, rfl, ir.ex ((E2.trans e3).trans e4), rk, hM, fun p H5 hp e5 hx => q p H5 hp e5 hx⟩
    refine q_pass (et_is (a := false || false) (b := false) (et_or (fun H3 e3 Q q => ?_) fun _ => et_is (b := false) (et_t (K := K) (ed_neD (K := K) (d1 := .lst (iL (wrs A L))) (EvN.toD (en_listD (vi := lefts A L v) (fun H4 e4 Q q => tl H2 (Ex.refl H2) H4 e4 Q q))) (ed_var rfl (iw.ex E2)) (sh_iL _) (sh_iL _))) ?_) rfl) fun H3 e3 => k pd z12 H3 (E2.trans e3)
    · refine tl H2 (Ex.refl H2) H3 e3 _ fun p H4 hp e4 hx => ?_
      exact ⟨_, rfl, p, pd, _, _, rfl, rfl, hx, (e3.trans e4) _ _ hd, rfl, kvI_val inj, _, rfl, q H4 e4⟩
    · rw [eqv_iL, decide_eq_true rfl]
      rfl

end
end My
end
section
set_option Elab.async false
set_option linter.all false
set_option maxRecDepth 100000
set_option maxHeartbeats 4000000
namespace My
open PySem PySem.Spec PyProof.Rows L2 Evl WD
local macro_rules | `(tactic| walk_at "exgo") => `(tactic| first | exact Ex.refl _ | assumption | (refine' Ex.trans ?ea ?eb; (case eb => assumption); (case ea => walk_at "exgo")))
local macro_rules | `(tactic| walk_at "is") => `(tactic| first | assumption | (refine' Is.ex ?e ?h; (case h => assumption); (case e => walk_at "exgo")) | exact Is.int _ | exact Is.bl _ | exact Is.non)
local macro_rules | `(tactic| walk_at "ev") => `(tactic| first
  | exact ed_int | exact ed_bl | exact ed_non | exact ed_str
  | ((with_reducible apply ed_var) <;> first | exact rfl | walk_at "is")
  | ((with_reducible apply ed_add) <;> walk_at "ev")
  | ((with_reducible apply ed_sub) <;> walk_at "ev")
  | ((with_reducible apply ed_neg) <;> walk_at "ev")
  | ((with_reducible apply ed_mulW) <;> try walk_at "ev")
  | ((with_reducible apply ed_divW) <;> try walk_at "ev")
  | ((with_reducible apply ed_mod) <;> try walk_at "ev")
  | ((with_reducible apply ed_ixT) <;> first | exact rfl | walk_at "ev" | skip)
  | ((with_reducible apply ed_ixL) <;> first | exact rfl | walk_at "ev" | skip)
  | ((with_reducible apply ed_lt) <;> walk_at "ev")
  | ((with_reducible apply ed_le) <;> walk_at "ev")
  | ((with_reducible apply ed_gt) <;> walk_at "ev")
  | ((with_reducible apply ed_ge) <;> walk_at "ev")
  | ((with_reducible apply ed_eqI) <;> walk_at "ev")
  | ((with_reducible apply ed_neI) <;> walk_at "ev")
  | ((with_reducible apply ed_gcd) <;> walk_at "ev")
  | ((with_reducible apply ed_abs) <;> walk_at "ev")
  | ((with_reducible apply ed_intI) <;> walk_at "ev")
  | ((with_reducible apply ed_intB) <;> walk_at "ev")
  | ((with_reducible apply ed_max2) <;> walk_at "ev")
  | ((with_reducible apply ed_min2) <;> walk_at "ev")
  | ((with_reducible apply ed_lenT) <;> walk_at "ev")
  | ((with_reducible apply ed_lenL) <;> walk_at "ev")
  | ((with_reducible apply ed_tuple) <;> walk_at "ev")
  | ((with_reducible apply ed_tupleT) <;> walk_at "ev")
  | ((with_reducible apply ed_tup) <;> first | walk_at "ea" | (simp; done) | skip)
  | ((with_reducible apply et_t) <;> walk_at "ev")
  | ((with_reducible apply et_v) <;> walk_at "ev"))
local macro_rules | `(tactic| walk_at "ea") => `(tactic| first
  | exact ea0
  | ((with_reducible apply ea1) <;> first | walk_at "ev" | walk_at "ea" | skip))

section
variable {P : Program} {w : World} {K : PySem.W.Frag} {mg : Str → Option Value} {base : Heap}
theorem allF_gt {H H' : Hp} (e : Gt H H') : ∀ {vs : List (Str × V)} {fs : List (Str × D)}, AllF K H vs fs → (∀ p ∈ fs, p.2.lf = true) → AllF K H' vs fs
  | _, _, .nil, _ => .nil
  | _, _, .cons h a, l => .cons (h.gt e (l _ List.mem_cons_self)) (allF_gt e a fun p hp => l p (List.mem_cons_of_mem _ hp))
theorem row_lf (A : List Int) (v : List Rat) (L : List Int) : ∀ p ∈ rowF A v L, p.2.lf = true := by
  intro p hp
  unfold rowF at hp
  simp only [List.mem_cons, List.mem_nil_iff, or_false] at hp
  rcases hp with rfl | rfl | rfl
  · exact iLlf A
  · exact frs_lf v
  · exact iLlf L
/-- a row stands while draws go on -/
theorem mvR {H H' : Hp} {d : Addr} {xs : List V} {u : V} {A L : List Int} {v : List Rat} (h : Is K H u (rowD A v L)) (m : Mu [d] H H') (hd : H d = some (.lst xs)) : Is K H' u (rowD A v L) := by
  cases h with
  | @obj a dx c fvs fs ho af =>
    exact .obj (m.keep (fun z => by
      rw [List.mem_singleton.mp z, hd] at ho
      cases ho) ho) (allF_gt m.2 af (row_lf A v L))
theorem Dr.lst {H : Hp} {d sA : Addr} {sc : List Int} {n : Int} (h : Dr K H d sA sc n) : ∃ xs, H d = .some (.lst xs) := by
  obtain ⟨k, k0, k1, hd, _⟩ := h
  exact ⟨_, hd⟩
/-- shares that the law draws -/
def shs : List Tv := [.p 0 1, .p 1 3, .p 1 2, .p 9 10]
theorem shs_ok {t : Tv} (h : t ∈ shs) : t.ok ∧ 0 ≤ t.q ∧ t.q ≤ 1 ∧ t.q.den ∣ 30 ∧ Sm 100 t.q := by
  have c : (16 : Nat) ≤ 2 ^ 3999 := by
    rw [show (16 : Nat) = 2 ^ 4 from rfl]
    exact Nat.pow_le_pow_right (by decide) (by decide)
  simp only [shs, List.mem_cons, List.mem_nil_iff, or_false] at h
  rcases h with rfl | rfl | rfl | rfl
  all_goals refine ⟨?_, by decide +kernel, by decide +kernel, by decide +kernel, ⟨by decide +kernel, by decide +kernel⟩⟩
  all_goals simp only [Tv.ok] <;> omega
theorem pow240 {i : Nat} (h : i ≤ 6) : 6 * 240 ^ i < 2 ^ 400 := by
  have a : 240 ^ i ≤ 240 ^ 6 := Nat.pow_le_pow_right (by decide) h
  have b : (6 * 240 ^ 6 : Nat) < 2 ^ 100 := by decide
  have c : (2 : Nat) ^ 100 ≤ 2 ^ 400 := Nat.pow_le_pow_right (by decide) (by decide)
  omega
theorem nms_zero (A : List Int) (v : List Rat) (O : List Int) (k : Nat) : (nms A v O k).getD 0 1 = ((trn A v : Nat) : Int) := by
  unfold nms
  rw [List.range_succ_eq_map, List.map_cons]
  rfl
theorem law_i {tz : TS} {En : Ends} {H : Hp} {d sA pn : Addr} {ns A L O : List Int} {v : List Rat} {s0 va vv pl ur ut pw uh uo un uf pd : V} {y12 : Option V} (dr : Dr K H d sA ns 160) (rk : RowOk A v 6 80) (a4 : ∀ a ∈ A, a ≤ 4) (ol : O.length ≤ 20) (hO : ∀ o ∈ O, o ∈ wrs A L)
    (ir : Is K H ur (rowD A v L)) (io : Is K H uo (.lst (iL O))) (inn : Is K H (.ref pn) (.lst (iL (nms A v O O.length)))) (nd : pn ≠ d)
    (k : ∀ y12 u15 H', Mu [d] H H' → tz En ([some s0, some (.ref d), some va, some vv, some pl, some ur, some ut, some pw, some uh, some uo, some un, some (.ref pn), y12, some uf, some pd, some u15] ++ List.replicate 4 none) H') :
    tSeq (tAsg (tVar 5) (gName 15)) (tSeq (tFor (iList K (tSl (rSlL K) (tVar 9) tNoPart (tPart (tC (.int 6))))) (gName 12) (tSeq (tAsg (tMeth (He.ga K "Row") "opened" (spD K R_Row_opened) [] E0 (tVar 15) (tCons (tVar 12) (tCons (tCall (sp_pick K) [] E0 (tCons (tVar 1) (tCons (tLst (tCons (tTup (tCons (tC (.int 0)) (tCons (tC (.int 1)) tNil))) (tCons (tTup (tCons (tC (.int 1)) (tCons (tC (.int 3)) tNil))) (tCons (tTup (tCons (tC (.int 1)) (tCons (tC (.int 2)) tNil))) (tCons (tTup (tCons (tC (.int 9)) (tCons (tC (.int 10)) tNil))) tNil))))) tNil))) tNil))) (gName 15)) (tIfS (tTest (tOp (rI0 fun i j => V.bl (decide (j < i))) (tCall (spD K R_turns) [] E0 (tCons (tVar 15) tNil)) (tOp (rIxL K) (tVar 11) (tC (.int 0))))) (tRet (tC (.bl false))) tNext))) tz) En
      ([some s0, some (.ref d), some va, some vv, some pl, some ur, some ut, some pw, some uh, some uo, some un, some (.ref pn), y12, some uf, some pd] ++ List.replicate 5 none) H := by
  have al := rk.al
  refine ⟨ur, rfl, ?_⟩
  have hdL : ∀ l ∈ [d], ∃ o, H l = some o := fun l hl => by
    rw [List.mem_singleton.mp hl]
    exact dr.some.1
  obtain ⟨nc, ncs, hnc⟩ := nms_cons A v O O.length
  have t6 : (O.take 6).length ≤ 6 := by rw [List.length_take]; omega
  refine q_for (K := K) (L := [d]) (n := (O.take 6).length) (item := fun i => (iL (O.take 6)).getD i .non) (EvI.is (ei_list (es_new (EvN.is (en_sl (ed_var rfl io) eo_none (eo_s (K := K) ed_int)) (show _ = iL (O.take 6) by rw [show ((6 : Int)) = ((6 : Nat) : Int) from rfl, cut_to]; exact List.map_take.symm)) hdL) (iLlf _)) (iLlen _))
    (fun i σ' H' => ∃ y12 u15 vi M, σ' = ([some s0, some (.ref d), some va, some vv, some pl, some ur, some ut, some pw, some uh, some uo, some un, some (.ref pn), y12, some uf, some pd, some u15] ++ List.replicate 4 none) ∧ Mu [d] H H' ∧ Dr K H' d sA ns (160 + (i : Int)) ∧ Is K H' u15 (rowD A vi L) ∧ RowOk A vi M 80 ∧ M ≤ 6 * 240 ^ i ∧ trn A vi ≤ trn A v)
    (fun H2 e2 => ⟨y12, ur, v, 6, rfl, Mu.ex e2, (dr.ex e2).le (by decide), ir.ex e2, rk, by decide, Nat.le_refl _⟩) ?_ ?_
  · rintro i x σ' H2 H3 hi ⟨z12, u15, vi, M, rfl, mu2, d2, iu, ri, hM, ht⟩ e3 ax
    rw [show (iL (O.take 6)).getD i .non = .int (O.take 6)[i] from getD_map _ _ _ hi] at ax
    obtain ⟨w, hw, w1, w2, w3⟩ := wrs_mem.mp (hO _ (List.mem_of_mem_take (List.getElem_mem hi)))
    rw [hw] at ax
    cases ax
    have d3 := d2.ex e3
    have iu3 := iu.ex e3
    refine g_name ?_
    have iu3' := iu3
    cases iu3' with
    | @obj ra rdx rc rfvs rfs ho af =>
    refine ⟨_, rfl, ra, rdx, rfvs, rfl, ho, af.none rfl, ?_⟩
    refine ⟨_, rfl, ?_⟩
    refine em_pickN (K := K) (ds := shs.map Tv.d) d3 (by omega) (by decide) rfl (ev_ref rfl) (en_lst (ea1 (ed_tup (ea1 ed_int (ea1 ed_int ea0)) (by show 2 ≤ 100000; decide)) (ea1 (ed_tup (ea1 ed_int (ea1 ed_int ea0)) (by show 2 ≤ 100000; decide)) (ea1 (ed_tup (ea1 ed_int (ea1 ed_int ea0)) (by show 2 ≤ 100000; decide)) (ea1 (ed_tup (ea1 ed_int (ea1 ed_int ea0)) (by show 2 ≤ 100000; decide)) ea0)))) (by show 4 ≤ 100000; decide)) fun sv H4 e mu4 h4 he av => ?_
    obtain ⟨s, hs, rfl⟩ := List.mem_map.mp he
    obtain ⟨s1, s2, s3, s4, s5⟩ := shs_ok hs
    obtain ⟨xs3, hd3⟩ := d3.lst
    have iu4 := mvR iu3 mu4 hd3
    have ha := a4 _ (gd_mem (z := 1) (show w - 1 < A.length by omega))
    have hb := a4 _ (gd_mem (z := 1) w2)
    have bd : M * (A.getD (w - 1) 1 + A.getD w 1).toNat * 30 ≤ 6 * 240 ^ (i + 1) := by
      have h1 : M * (A.getD (w - 1) 1 + A.getD w 1).toNat ≤ (6 * 240 ^ i) * 8 := Nat.mul_le_mul hM (by omega)
      have h2 := Nat.mul_le_mul_right 30 h1
      rw [Nat.pow_succ]
      omega
    have r5 := ri.opn w1 w2 s2 s3 (by decide : 0 < 30) s4 (Nat.lt_of_le_of_lt bd (pow240 (by omega)))
    refine ⟨[rowD A vi L, .int ((w : Nat) : Int), s.d], rowD A (opn A vi w s.q) L, .cons iu4 (.cons (.int _) (.cons av .nil)), ⟨A, vi, L, w, s, rfl, ⟨ri.len, w1, w2, w3, rk.ar, al, fun q hq => (ri.sm hq).mono (by decide), s1, s5⟩, rfl⟩, fun u5 H5 e5 iu5 => ?_⟩
    have t5 := trn_opn w1 w2 ri.len rk.ar s2 s3
    have mu5 : Mu [d] H2 H5 := ((Mu.ex e3).trans mu4).trans (Mu.ex e5)
    have in5 := Is.mul inn (mu2.trans mu5) (by simpa using nd) (iLlf _)
    refine s_when (b := false) (et_is (et_t (K := K) (ed_gt (K := K) (ed_call (R := R_turns) (ea1 (ed_var rfl iu5) ea0) ⟨A, _, L, _, 80, rfl, r5, rfl⟩) (ed_ixL (d := .int ((trn A v : Nat) : Int)) (ed_var rfl in5) ed_int ?_))) ?_) (fun z => nomatch z) (fun _ H6 e6 => ?_)
    · have z := at_iL (A := nms A v O O.length) (j := 0) (by rw [hnc]; simp)
      rw [nms_zero] at z
      exact z
    · exact decide_eq_false (by omega)
    · exact ⟨⟨_, u5, _, _, rfl, (mu2.trans mu5).trans (Mu.ex e6), ((h4.ex e5).ex e6).le (by omega), iu5.ex e6, r5, bd, Nat.le_trans t5 ht⟩, mu5.trans (Mu.ex e6)⟩
  · rintro σ' H2 ⟨z12, u15, vi, M, rfl, mu2, d2, iu, ri, hM, ht⟩
    exact k z12 u15 H2 mu2

end
end My
end
section
set_option Elab.async false
set_option linter.all false
set_option maxRecDepth 100000
set_option maxHeartbeats 4000000
/-! enumerate(t) of a tuple -/
namespace EnT
open PySem PySem.Spec PyProof.Rows L2
/-- what enumerate makes of anything that can be begun -/
theorem new_enum {v : Value} {o : Obj} {B : Heap → Prop} (b : Begins v o B) : Meets (Builtin.«enumerate.__new__» ⟨[.type "enumerate", v], []⟩) (fun _ R s => B s.heap ∧
    R (.ok (.ret (.ref (s.heap.push o).objs.size))) { s with heap := (s.heap.push o).push { cls := .type "enumerate", data := .fields #[.none, .bool false, .ref s.heap.objs.size, rawInt 0, .none, .none] } }) := by
  refine .of_wp fun prog w A R s h => ?_
  rcases s with ⟨hp, g, d, tk, os⟩
  obtain ⟨hb, hr⟩ := h
  have isub := sub_enumerate
  have it : ∀ {A' : Around} {E : Value → Shared → Prop} {Q : Value → Shared → Prop}, Q (.ref hp.objs.size) ⟨hp.push o, g, d, tk, os⟩ → wpAny (model prog w) A' (pyIter v) Q E ⟨hp, g, d, tk, os⟩ := fun q => b.iter prog w _ _ ⟨hp, g, d, tk, os⟩ _ hb q
  wp_walk using it
  refine wpAny_stack_any fun st => wpAny_pure ?_
  split
  · rename_i c _ _ _ _ _
    cases (c == Value.type "enumerate") <;> (wp_walk using it; exact ⟨_, rfl, hr⟩)
  · wp_walk using it
    exact ⟨_, rfl, hr⟩
section
variable {prog : Program} {w : World} {A : Around} {E : Value → Shared → Prop} {s : Shared}
/-- enumerate(t) called: two new objects -/
theorem call_enum {l : Addr} {us : Array Value} {Q : Value → Shared → Prop} (hl : s.heap.IsTuple l us)
    (h : ∀ h', IsEnum h' (s.heap.objs.size + 1) s.heap.objs.size 0 .none → h'.IsTupleIter s.heap.objs.size l 0 → (∀ b o, s.heap.get? b = some o → h'.get? b = some o) → Q (.ref (s.heap.objs.size + 1)) { s with heap := h' }) :
    wpAny (model prog w) A (call (.type "enumerate") [.ref l]) Q E s := by
  have b := begins_tuple l us
  refine callType_new F.called_enumerate (by decide) (F.typeCall_enumerate_1 _) (F.newCall_enumerate_1 _) (fun obj => F.args_object_init_2 obj _) F.entry_enumerate_new (new_enum b) ⟨hl, ?_⟩
  generalize ho : ({ cls := .type "tuple_iterator", data := .fields #[.ref l, .int 0 0] } : Obj) = io
  have fr : io.isFreed = false := by rw [← ho]; rfl
  have z1 : (s.heap.push io).objs.size = s.heap.objs.size + 1 := Heap.size_push ..
  generalize hen : ({ cls := .type "enumerate", data := .fields #[.none, .bool false, .ref s.heap.objs.size, rawInt 0, .none, .none] } : Obj) = eo
  have fe : eo.isFreed = false := by rw [← hen]; rfl
  have ge : ((s.heap.push io).push eo).get? (s.heap.objs.size + 1) = some eo := by rw [← z1]; exact Heap.get?_push_size _ fe
  have gi : ((s.heap.push io).push eo).get? s.heap.objs.size = some io := Heap.get?_push_of_some _ (Heap.get?_push_size _ fr)
  show _ ∧ _
  rw [z1]
  refine ⟨⟨_, ge, by rw [← hen]⟩, h _ (by rw [← hen] at ge ⊢; exact ge) ⟨io, gi, by rw [← ho], by rw [← ho]; rfl⟩ fun b o e => Heap.get?_push_of_some _ (Heap.get?_push_of_some _ e)⟩
end
/-- the tuple at a, its items with their places in new pairs -/
def IteT (K : PySem.W.Frag) (a : Addr) : It :=
  ⟨fun i H => ∃ (xs : List V) (x : V), SqT K H a xs ∧ xs[i]? = some x, fun i H v H' => ∃ p x, v = .ref p ∧ H p = none ∧ H' = upd H p (.tup [.int (i : Nat), x]) ∧ ∀ xs, SqT K H a xs → xs[i]? = some x, fun i H => ∃ xs : List V, SqT K H a xs ∧ xs.length ≤ i⟩
/-- behind the last item nothing comes -/
theorem over {prog : Program} {w : World} {A : Around} {it a : Addr} {us : Array Value} {n : Nat} (hh : A.handled = none) (hn : us[n]? = none) :
    Draws prog w A it [it, a] n (fun _ _ => False) (fun i h => i = n ∧ h.IsTupleIter it a n ∧ h.IsTuple a us) where
  live := fun i h st => by
    obtain ⟨_, ⟨o, ho, _⟩, _⟩ := st
    exact ⟨o, ho⟩
  frame := fun i h h' st k => ⟨st.1, st.2.1.at fun o e => k it (by simp) o e, st.2.2.at fun o e => k a (by simp) o e⟩
  item := fun i s Q E hi st _ => by
    have := st.1
    omega
  done := fun s Q E st hE => wpAny_nextOf_tuple_end hh st.2.1 st.2.2 hn hE
theorem turn_enumT {P : Program} {w : World} {K : PySem.W.Frag} {elts : List Expr} {kk : Nat} {tpos : Pos} {a e it : Addr} (hae : a ≠ e) (hai : a ≠ it) (hne : e ≠ it) :
    Turn P w K (.Tuple elts kk tpos) (IteT K a) [e, it] e (fun i h => (∃ old, IsEnum h e it ((i : Nat) : Int) old) ∧ h.IsTupleIter it a i) where
  mem := List.mem_cons_self
  obj := by
    rintro i h ⟨⟨old, he⟩, ⟨o, ho, hc, hd⟩⟩ b hb
    rcases List.mem_cons.mp hb with rfl | hb
    · exact ⟨_, he, fun v q => nomatch q⟩
    · exact ⟨o, by rw [List.mem_singleton.mp hb]; exact ho, fun v q => by rw [hd] at q; cases q⟩
  keep := by
    rintro i h h' ⟨⟨old, he⟩, hi⟩ k
    exact ⟨⟨old, k e (by simp) _ he⟩, hi.at fun o q => k it (by simp) o q⟩
  item := by
    rintro X rfl rfl rfl hc i pins s σ H E I hf ⟨⟨old, he⟩, hit⟩ ⟨xs, x, hq, hx⟩
    obtain ⟨its, rv, p, hz⟩ := I.tuple hq
    obtain ⟨u, hu, ru⟩ := rv.get hx
    have le : e < s.heap.objs.size := Heap.lt_size he
    have li : it < s.heap.objs.size := by obtain ⟨_, q, _⟩ := hit; exact Heap.lt_size q
    have hh : X.A.in1.handled = none := by simp [I.ok.hd hc]
    have il : i < its.toArray.size := by
      have := (List.getElem?_eq_some_iff.mp hu).1
      simpa using this
    refine wpAny_pyNext_enum_itemD (Draws.tuple hh it a hai its.toArray) he ⟨hit, p⟩ il hne (fun z => by
      rcases List.mem_cons.mp z with z | z
      · exact hne z
      · exact hae (List.mem_singleton.mp z).symm) fun x' h' tk hx' ho st' hT hsz hk => ?_
    have ex : x' = u := by
      have hx2 : its.toArray[i]? = some x' := hx'
      rw [List.getElem?_toArray, hu] at hx2
      exact (Option.some.inj hx2).symm
    subst ex
    refine ⟨_, rfl, wpAny_letOwnedTupleGo_enum (s := { s with heap := h', toks := tk + 1 }) ho fun h2 he2 sb => ?_⟩
    have nT : s.heap.objs.size ≠ e := Nat.ne_of_gt le
    have nI : s.heap.objs.size ≠ it := Nat.ne_of_gt li
    have hT2 : h2.get? s.heap.objs.size = some { cls := .type "tuple", data := .seq #[.int i tk, x'] } := (sb.2 _ nT).trans hT
    have new : ObjOk X.prog X.w (upd H s.heap.objs.size (.tup [.int (i : Nat), x])) h2 s.heap.objs.size (.tup [.int (i : Nat), x]) := ⟨by show 2 ≤ sizeLine; rw [sizeLine_eq]; decide, [.int i tk, x'], .cons ⟨_, rfl⟩ (.cons ru .nil), ⟨_, hT2, rfl, _, rfl⟩⟩
    have J : Inv X pins σ (upd H s.heap.objs.size (.tup [.int (i : Nat), x])) { s with heap := h2, toks := tk + 1 } :=
      I.turnedNew (ch := [e, it]) (fun b ob hb q => (sb.2 b (fun z => hb (by simp [z]))).trans (hk b ob (fun z => hb (by simp [z])) (fun z => hb (by simp [z])) q)) hf (Nat.le_refl _) new
    refine ⟨.ref s.heap.objs.size, _, J, rfl, ⟨_, x, rfl, I.hok.fresh (Nat.le_refl _), rfl, fun ys hy => by rw [I.tuple_inj hy hq]; exact hx⟩, ⟨⟨x', by rw [show ((i + 1 : Nat) : Int) = (i : Int) + 1 by omega]; exact he2⟩, st'.1.at fun o q => (sb.2 it hne.symm).trans q⟩, fun b hb => ?_⟩
    have lb : b < s.heap.objs.size := by
      rcases List.mem_cons.mp hb with z | z
      · rw [z]; exact le
      · rw [List.mem_singleton.mp z]; exact li
    rw [upd_ne (Nat.ne_of_lt lb)]
    exact (hf b hb).1
  done := by
    rintro X rfl rfl rfl hc i pins s σ H E I hf ⟨⟨old, he⟩, hit⟩ ⟨xs, hq, hx⟩
    obtain ⟨its, rv, p, hz⟩ := I.tuple hq
    have hh : X.A.in1.handled = none := by simp [I.ok.hd hc]
    have il : its.toArray[i]? = none := by
      have y := rv.length
      rw [Array.getElem?_eq_none]
      simpa using (show its.length ≤ i by omega)
    obtain ⟨f0, f1, f2, f3, f4, f5⟩ := hf it (by simp)
    exact wpAny_pyNext_enum_endD (over hh il) he ⟨rfl, hit, p⟩ fun h' eb => ⟨rfl, I.turned (t' := s.toks) (fun b o hb q => eb b o hb q) f0 f1 f3 f4 f5⟩
  self := fun A i s Q E st h => by
    obtain ⟨⟨_, he⟩, _⟩ := st
    exact wpAny_pyIter_enum he h
def iEnumT (K : PySem.W.Frag) (ta : TA) : TI := fun σ H R => ta σ H fun vs H1 => ∃ a xs, vs = [.ref a] ∧ SqT K H1 a xs ∧ R (IteT K a) H1
theorem pi_enumT {X : Cx} {e : Expr} {ta : TA} {p pos tpos : Pos} {elts : List Expr} {kk : Nat} (hg : Gl X "enumerate") (hm : X.mg "enumerate" = none) (ha : PA X [e] ta) (hst : starEach [e] X.env = [(false, eval e X.env)] := by rfl) :
    PI X (.Tuple elts kk tpos) (.Call (.Name "enumerate" p) [e] [] pos) (iEnumT X.K ta) := by
  refine ⟨fun pins s σ H R I h => Call_ (ld_blt I hg hm boot_enumerate (PyProof.Rows.callWith_type1 (thn (ha.run pos pins s σ H _ I h) fun us s1 ⟨vs, H1, I1, r1, q1⟩ => ?_) hst rfl))⟩
  obtain ⟨a, xs, rfl, hq, q⟩ := q1
  obtain ⟨u, rfl, ru⟩ := r1.one
  obtain rfl : u = Value.ref a := ru
  obtain ⟨its, rv, pt, hz⟩ := I1.tuple hq
  have la : a < s1.heap.objs.size := by
    obtain ⟨o, ho, _⟩ := id pt
    exact Heap.lt_size ho
  refine call_enum pt fun h' he hit hk => wpAny_pyIter_enum he ?_
  have I2 : Inv X pins σ H1 { s1 with heap := h' } := I1.kept (t' := s1.toks) hk
  refine ⟨s1.heap.objs.size + 1, [s1.heap.objs.size + 1, s1.heap.objs.size], _, _, H1, rfl, I2, turn_enumT (a := a) (Nat.ne_of_lt (Nat.lt_succ_of_lt la)) (Nat.ne_of_lt la) (Nat.succ_ne_self _), ⟨⟨.none, he⟩, hit⟩, fun b hb => ?_, q⟩
  have lb : s1.heap.objs.size ≤ b := by
    rcases List.mem_cons.mp hb with z | z
    · rw [z]; exact Nat.le_succ _
    · rw [List.mem_singleton.mp z]; exact Nat.le_refl _
  exact I1.fpOk lb (I1.hok.fresh lb)
end EnT
namespace WD
open PySem PySem.Spec PyProof.Rows L2 Evl
section
variable {K : PySem.W.Frag} {σ : L2.St} {H : Hp} {ta : TE} {ds : List D}
theorem ei_enumT {L : List Addr} (h : EvD K ta σ H (.tup ds)) (hf : D.lfs ds = true) : EvI K (EnT.iEnumT K (tCons ta tNil)) σ L H ds.length (fun i => .tup [.int (i : Int), ds.getD i .non]) := fun R r =>
  h H (Ex.refl H) _ fun v H2 e2 i2 => by
    obtain ⟨p, xs, rfl, hp, a⟩ := Is.tup_inv i2
    refine ⟨p, xs, rfl, hp, r (EnT.IteT K p) H2 (fun H4 => SqT K H4 p xs ∧ All K H4 xs ds) e2 ⟨⟨hp, a⟩, fun L' _ H4 H5 q m => tup_gt q.1 q.2 m.2 hf, fun H4 q i hi => ?_, fun H4 q => ⟨xs, q.1, by rw [q.2.len]; exact Nat.le_refl _⟩⟩⟩
    obtain ⟨d, hd⟩ : ∃ d, ds[i]? = some d := ⟨_, List.getElem?_eq_getElem hi⟩
    obtain ⟨v, hv, b⟩ := q.2.get hd
    refine ⟨⟨xs, v, q.1, hv⟩, fun x H5 hy => ?_⟩
    obtain ⟨T, x1, rfl, nT, rfl, f1⟩ := hy
    have g1 := f1 xs q.1
    rw [hv] at g1
    cases g1
    rw [getD_some hd]
    exact ⟨Ex.new nT, .tup (st_of upd_same) (.cons (.int _) (.cons (b.ex (Ex.new nT)) .nil))⟩
end
end WD
end
section
set_option Elab.async false
set_option linter.all false
set_option maxRecDepth 100000
set_option maxHeartbeats 4000000
namespace My
open PySem PySem.Spec PyProof.Rows L2 Evl WD
local macro_rules | `(tactic| walk_at "exgo") => `(tactic| first | exact Ex.refl _ | assumption | (refine' Ex.trans ?ea ?eb; (case eb => assumption); (case ea => walk_at "exgo")))
local macro_rules | `(tactic| walk_at "is") => `(tactic| first | assumption | (refine' Is.ex ?e ?h; (case h => assumption); (case e => walk_at "exgo")) | exact Is.int _ | exact Is.bl _ | exact Is.non)
local macro_rules | `(tactic| walk_at "ev") => `(tactic| first
  | exact ed_int | exact ed_bl | exact ed_non | exact ed_str
  | ((with_reducible apply ed_var) <;> first | exact rfl | walk_at "is")
  | ((with_reducible apply ed_add) <;> walk_at "ev")
  | ((with_reducible apply ed_sub) <;> walk_at "ev")
  | ((with_reducible apply ed_neg) <;> walk_at "ev")
  | ((with_reducible apply ed_mulW) <;> try walk_at "ev")
  | ((with_reducible apply ed_divW) <;> try walk_at "ev")
  | ((with_reducible apply ed_mod) <;> try walk_at "ev")
  | ((with_reducible apply ed_ixT) <;> first | exact rfl | walk_at "ev" | skip)
  | ((with_reducible apply ed_ixL) <;> first | exact rfl | walk_at "ev" | skip)
  | ((with_reducible apply ed_lt) <;> walk_at "ev")
  | ((with_reducible apply ed_le) <;> walk_at "ev")
  | ((with_reducible apply ed_gt) <;> walk_at "ev")
  | ((with_reducible apply ed_ge) <;> walk_at "ev")
  | ((with_reducible apply ed_eqI) <;> walk_at "ev")
  | ((with_reducible apply ed_neI) <;> walk_at "ev")
  | ((with_reducible apply ed_gcd) <;> walk_at "ev")
  | ((with_reducible apply ed_abs) <;> walk_at "ev")
  | ((with_reducible apply ed_intI) <;> walk_at "ev")
  | ((with_reducible apply ed_intB) <;> walk_at "ev")
  | ((with_reducible apply ed_max2) <;> walk_at "ev")
  | ((with_reducible apply ed_min2) <;> walk_at "ev")
  | ((with_reducible apply ed_lenT) <;> walk_at "ev")
  | ((with_reducible apply ed_lenL) <;> walk_at "ev")
  | ((with_reducible apply ed_tuple) <;> walk_at "ev")
  | ((with_reducible apply ed_tupleT) <;> walk_at "ev")
  | ((with_reducible apply ed_tup) <;> first | walk_at "ea" | (simp; done) | skip)
  | ((with_reducible apply et_t) <;> walk_at "ev")
  | ((with_reducible apply et_v) <;> walk_at "ev"))
local macro_rules | `(tactic| walk_at "ea") => `(tactic| first
  | exact ea0
  | ((with_reducible apply ea1) <;> first | walk_at "ev" | walk_at "ea" | skip))

section
variable {P : Program} {w : World} {K : PySem.W.Frag} {mg : Str → Option Value} {base : Heap}
/-- a row that falls -/
def fallT (A : List Int) : List Tv := (List.range A.length).map fun i : Nat => .i (A.getD i 1 * (20 - (i : Int)))
theorem fallT_len (A : List Int) : (fallT A).length = A.length := by
  unfold fallT
  rw [List.length_map, List.length_range]
theorem fallT_get {A : List Int} {i : Nat} (h : i < A.length) : ((fallT A).map Tv.q).getD i 0 = ((A.getD i 1 * (20 - (i : Int)) : Int) : Rat) := by
  rw [getD_in (by rw [List.length_map, fallT_len]; exact h)]
  simp only [fallT, List.getElem_map, List.getElem_range]
  rfl
theorem fall_row {A : List Int} (a1 : 1 ≤ A.length) (al : A.length ≤ 10) (ar : ∀ a ∈ A, 1 ≤ a ∧ a ≤ 4) : RowOk A ((fallT A).map Tv.q) 6 800 := by
  have lim : (2 : Nat) ^ 10 ≤ 2 ^ 400 := Nat.pow_le_pow_right (by decide) (by decide)
  have lv : ((fallT A).map Tv.q).length = A.length := by rw [List.length_map, fallT_len]
  have bnd : ∀ i, i < A.length → 0 ≤ A.getD i 1 * (20 - (i : Int)) ∧ A.getD i 1 * (20 - (i : Int)) ≤ 80 := fun i hi => by
    have ha := ar _ (gd_mem (z := 1) hi)
    generalize A.getD i 1 = a at ha ⊢
    refine ⟨Int.mul_nonneg (by omega) (by omega), ?_⟩
    have := Int.mul_le_mul ha.2 (show 20 - (i : Int) ≤ 20 by omega) (by omega) (by decide)
    omega
  have all : ∀ q ∈ (fallT A).map Tv.q, ∃ i, i < A.length ∧ q = ((A.getD i 1 * (20 - (i : Int)) : Int) : Rat) := fun q hq => by
    obtain ⟨t, ht, rfl⟩ := List.mem_map.mp hq
    unfold fallT at ht
    obtain ⟨i, hi, rfl⟩ := List.mem_map.mp ht
    exact ⟨i, List.mem_range.mp hi, rfl⟩
  refine ⟨lv, a1, by omega, fun a ha => ⟨(ar a ha).1, by have := (ar a ha).2; omega⟩, by decide, by omega, by omega, ?_, ?_, ?_⟩
  · intro q hq
    obtain ⟨i, hi, rfl⟩ := all q hq
    exact_mod_cast (bnd i hi).1
  · intro q hq
    obtain ⟨i, hi, rfl⟩ := all q hq
    exact den_int _ 6
  · refine Rat.le_trans (S_le8 (c := 80) (fun q hq => ?_) _ (Nat.le_refl _)) ?_
    · obtain ⟨i, hi, rfl⟩ := all q hq
      have := (bnd i hi).2
      have z : (((A.getD i 1 * (20 - (i : Int))) : Int) : Rat) ≤ (((80 : Nat) : Int) : Rat) := by exact_mod_cast this
      exact z
    · have : ((80 * ((fallT A).map Tv.q).length : Nat) : Int) ≤ ((800 : Nat) : Int) := by omega
      exact_mod_cast this
theorem fall_fal {A : List Int} (ar : ∀ a ∈ A, 1 ≤ a ∧ a ≤ 4) : fal A ((fallT A).map Tv.q) := by
  intro w w1 w2
  have lv : ((fallT A).map Tv.q).length = A.length := by rw [List.length_map, fallT_len]
  have ha := ar _ (gd_mem (z := 1) (show w - 1 < A.length by omega))
  have hb := ar _ (gd_mem (z := 1) w2)
  unfold rise
  rw [sms_get (by omega), sms_get (by omega), sms_get (by omega)]
  have x1 := S_succ ((fallT A).map Tv.q) (w - 1) (by omega)
  have x2 := S_succ ((fallT A).map Tv.q) w (by omega)
  rw [show w - 1 + 1 = w by omega] at x1
  rw [← getD_in (z := (0 : Rat)) (by omega), fallT_get (by omega)] at x1 x2
  rw [x2, x1, show ((w - 1 : Nat) : Int) = (w : Int) - 1 by omega]
  generalize A.getD (w - 1) 1 = a at ha ⊢
  generalize A.getD w 1 = b at hb ⊢
  generalize S ((fallT A).map Tv.q) (w - 1) = s
  have p : 0 ≤ a * b := Int.mul_nonneg (by omega) (by omega)
  have pq : (0 : Rat) ≤ ((a * b : Int) : Rat) := by exact_mod_cast p
  have e1 : ((a * (20 - ((w : Int) - 1)) : Int) : Rat) = (a : Rat) * (21 - (w : Rat)) := by
    rw [show (20 - ((w : Int) - 1)) = 21 - (w : Int) by omega, Rat.intCast_mul, Rat.intCast_sub]
    rfl
  have e2 : ((b * (20 - (w : Int)) : Int) : Rat) = (b : Rat) * (20 - (w : Rat)) := by
    rw [Rat.intCast_mul, Rat.intCast_sub]
    rfl
  rw [e1, e2]
  rw [Rat.intCast_mul] at pq
  grind
theorem in_signs {σ : L2.St} {H : Hp} {te : TE} {A L : List Int} {v : List Rat} {M W : Nat} (rk : RowOk A v M W) (fl : fal A v) (h : EvD K te σ H (rowD A v L)) : EvT (tTest (tOp (rIn K false) (tC (.int 1)) (tCall (spN K R_signs) [] E0 (tCons te tNil)))) σ H false :=
  et_is (et_t (K := K) (ed_inL (K := K) ed_int (EvN.toD (en_call (R := R_signs) (ea1 h ea0) ⟨A, v, L, M, W, rfl, rk, rfl⟩)))) (decide_eq_false (fal_signs fl))
theorem law_j (T : Txt K mg) {tz : TS} {En : Ends} {H : Hp} {A L O : List Int} {s0 sd va vv pl ur ut pw uh uo un pn uf pd u15 : V} {y12 : Option V} (a1 : 1 ≤ A.length) (al : A.length ≤ 10) (ar : ∀ a ∈ A, 1 ≤ a ∧ a ≤ 4) (lr : ∀ l ∈ L, 0 < l ∧ l < (A.length : Int)) (ll : L.length ≤ A.length) (ol : O.length ≤ 20) (hO : ∀ o ∈ O, o ∈ wrs A (asc L))
    (iA : Is K H va (.tup (iL A))) (il : Is K H pl (.lst (iL L))) (io : Is K H uo (.lst (iL O)))
    (k : ∀ y12 u16 H', Ex H H' → tz En ([some s0, some sd, some va, some vv, some pl, some ur, some ut, some pw, some uh, some uo, some un, some pn, y12, some uf, some pd, some u15, some u16] ++ List.replicate 3 none) H') :
    tSeq (tAsg (tMake (He.ga K "Row") (spI K "Row" (R_Row .lst)) [] E0 (tCons (tVar 2) (tCons (tCB (rTupS K) (tCons (tLc (EnT.iEnumT K (tCons (tVar 2) tNil)) (gTup K 2 (gCons (gName 19) (gCons (gName 18) gNil))) tYes (tOp (rI CMulW fun i j => V.int (i * j)) (tVar 18) (tOp (rI0 fun i j => V.int (i - j)) (tC (.int 20)) (tVar 19))) [19, 18]) tNil)) (tCons (tVar 4) tNil)))) (gName 16))
      (tSeq (tFor (iList K (tVar 9)) (gName 12) (tSeq (tAsg (tMeth (He.ga K "Row") "opened" (spD K R_Row_opened) [V.ref (He.dflAt ("Row", some "opened") 0 K)] E0 (tVar 16) (tCons (tVar 12) tNil)) (gName 16)) (tIfS (tTest (tOp (rIn K false) (tC (.int 1)) (tCall (spN K R_signs) [] E0 (tCons (tVar 16) tNil)))) (tRet (tC (.bl false))) tNext))) tz) En
      ([some s0, some sd, some va, some vv, some pl, some ur, some ut, some pw, some uh, some uo, some un, some pn, y12, some uf, some pd, some u15] ++ List.replicate 4 none) H := by
  have rk := fall_row a1 al ar
  have a4 : ∀ a ∈ A, a ≤ 4 := fun a ha => (ar a ha).2
  have can := can_wrs hO
  have tok : ∀ t ∈ fallT A, t.ok := fun t ht => by
    have c : (2 : Nat) ^ 10 ≤ 2 ^ 3999 := Nat.pow_le_pow_right (by decide) (by decide)
    unfold fallT at ht
    obtain ⟨i, hi, rfl⟩ := List.mem_map.mp ht
    have hi := List.mem_range.mp hi
    have ha := ar _ (gd_mem (z := 1) hi)
    show 0 ≤ A.getD i 1 * (20 - (i : Int)) ∧ (A.getD i 1 * (20 - (i : Int))).natAbs < 2 ^ 3999
    generalize A.getD i 1 = a at ha ⊢
    have p0 : 0 ≤ a * (20 - (i : Int)) := Int.mul_nonneg (by omega) (by omega)
    have p1 := Int.mul_le_mul ha.2 (show 20 - (i : Int) ≤ 20 by omega) (by omega) (by decide)
    exact ⟨p0, by omega⟩
  refine q_asgD (K := K) (d := rowD A ((fallT A).map Tv.q) (asc L)) (ed_make (R := R_Row .lst) (ea1 (ed_var rfl iA) (ea1 (d := .tup ((fallT A).map Tv.d)) (ed_tuple (EvN.toD (EvN.is (en_lc2 (n := (iL A).length) (c1 := fun i => .int (i : Int)) (c2 := fun i => (iL A).getD i .non) (fun _ => true) (fun i => .int (A.getD i 1 * (20 - (i : Int)))) (fun H2 e2 => ei_enumT (ed_var rfl (iA.ex e2)) (iLlf A)) (by rw [iLlen]; omega) (fun _ _ _ => rfl) (fun x y => rfl) (fun i x y H2 _ _ _ _ => et_yes) (fun i x y H2 hi e2 ax ay _ => ?_)) ?_))) (ea1 (ed_var rfl il) ea0))) ⟨A, L, fallT A, rfl, a1, by omega, rk.ar, fallT_len A, tok, lr, by omega, rfl⟩) fun u16 H1 e1 j16 => ?_
  · rw [iLlen] at hi
    rw [show (iL A).getD i .non = .int A[i] from getD_map _ _ _ hi] at ay
    rw [getD_in hi]
    have ha := ar _ (List.getElem_mem hi)
    refine ed_mulW (K := K) (ed_var rfl ay) (ed_sub (K := K) ed_int (ed_var rfl ax)) ?_
    generalize A[i] = a at ha ⊢
    exact mulW (a := 10) (b := 10) (by omega) (by omega)
  · rw [gives_all, iLlen]
    unfold fallT
    rw [List.map_map]
    rfl
  · refine q_for (K := K) (L := []) (n := O.length) (item := fun i => (iL O).getD i .non) (EvI.is (ei_list (es_any (ed_var rfl (io.ex e1))) (iLlf O)) (iLlen O))
      (fun i σ' H' => ∃ y12 u16 vi M, σ' = ([some s0, some sd, some va, some vv, some pl, some ur, some ut, some pw, some uh, some uo, some un, some pn, y12, some uf, some pd, some u15, some u16] ++ List.replicate 3 none) ∧ Ex H H' ∧ Is K H' u16 (rowD A vi (asc L)) ∧ RowOk A vi M 800 ∧ M ≤ 6 * 8 ^ i ∧ fal A vi)
      (fun H2 e2 => ⟨y12, u16, _, 6, rfl, e1.trans e2, j16.ex e2, rk, by decide, fall_fal ar⟩) ?_ ?_
    · rintro i x σ' H2 H3 hi ⟨z12, u, vi, M, rfl, E2, iu, ri, hM, fl⟩ e3 ax
      rw [show (iL O).getD i .non = .int O[i] from getD_map _ _ _ hi] at ax
      obtain ⟨w, hw, w1, w2, w3⟩ := wrs_mem.mp (hO _ (List.getElem_mem hi))
      rw [hw] at ax
      cases ax
      have ha := a4 _ (gd_mem (z := 1) (show w - 1 < A.length by omega))
      have hb := a4 _ (gd_mem (z := 1) w2)
      have bd : M * (A.getD (w - 1) 1 + A.getD w 1).toNat * 1 ≤ 6 * 8 ^ (i + 1) := by
        have h1 : M * (A.getD (w - 1) 1 + A.getD w 1).toNat ≤ (6 * 8 ^ i) * 8 := Nat.mul_le_mul hM (by omega)
        rw [Nat.pow_succ]
        omega
      have r5 := ri.opn (s := 1) (Ds := 1) w1 w2 (by decide) (by decide) (by decide) ⟨1, rfl⟩ (Nat.lt_of_le_of_lt bd (pow8 (by omega)))
      have f5 := fal_opn (s := 1) w1 w2 ri.len rk.ar (by decide) (by decide) fl
      refine g_name ?_
      refine q_asgD (K := K) (d := rowD A (opn A vi w 1) (asc L)) (ed_methH (K := K) (R := R_Row_opened) (es := [(Tv.p 1 1).d]) (ed_var rfl (iu.ex e3)) rfl (ea1 (ed_var rfl (.int _)) ea0) (fun H => .cons (.tup (tupA_ok T.t_Row_opened_0 H) (.cons (.int 1) (.cons (.int 1) .nil))) .nil) ⟨A, vi, asc L, w, Tv.p 1 1, rfl, ⟨ri.len, w1, w2, w3, rk.ar, rk.al, fun q hq => (ri.sm hq).mono (by decide), ?_, ?_⟩, rfl⟩) fun u5 H5 e5 iu5 => ?_
      · exact ⟨by decide, Nat.one_lt_two_pow (by decide), by decide, Nat.one_lt_two_pow (by decide)⟩
      · exact ⟨Nat.one_lt_two_pow (by decide), Nat.one_lt_two_pow (by decide)⟩
      · refine s_when (b := false) (in_signs r5 f5 (ed_var rfl iu5)) (fun z => nomatch z) (fun _ H6 e6 => ?_)
        exact ⟨⟨_, u5, _, _, rfl, ((E2.trans e3).trans e5).trans e6, iu5.ex e6, r5, by rw [Nat.mul_one] at bd ⊢; exact bd, f5⟩, Mu.ex ((e3.trans e5).trans e6)⟩
    · rintro σ' H2 ⟨z12, u, vi, M, rfl, E2, iu, ri, hM, fl⟩
      exact k z12 u H2 E2

end
end My
end
section
set_option Elab.async false
set_option linter.all false
set_option maxRecDepth 100000
set_option maxHeartbeats 4000000
namespace My
open PySem PySem.Spec PyProof.Rows L2 Evl WD
local macro_rules | `(tactic| walk_at "exgo") => `(tactic| first | exact Ex.refl _ | assumption | (refine' Ex.trans ?ea ?eb; (case eb => assumption); (case ea => walk_at "exgo")))
local macro_rules | `(tactic| walk_at "is") => `(tactic| first | assumption | (refine' Is.ex ?e ?h; (case h => assumption); (case e => walk_at "exgo")) | exact Is.int _ | exact Is.bl _ | exact Is.non)
local macro_rules | `(tactic| walk_at "ev") => `(tactic| first
  | exact ed_int | exact ed_bl | exact ed_non | exact ed_str
  | ((with_reducible apply ed_var) <;> first | exact rfl | walk_at "is")
  | ((with_reducible apply ed_add) <;> walk_at "ev")
  | ((with_reducible apply ed_sub) <;> walk_at "ev")
  | ((with_reducible apply ed_neg) <;> walk_at "ev")
  | ((with_reducible apply ed_mulW) <;> try walk_at "ev")
  | ((with_reducible apply ed_divW) <;> try walk_at "ev")
  | ((with_reducible apply ed_mod) <;> try walk_at "ev")
  | ((with_reducible apply ed_ixT) <;> first | exact rfl | walk_at "ev" | skip)
  | ((with_reducible apply ed_ixL) <;> first | exact rfl | walk_at "ev" | skip)
  | ((with_reducible apply ed_lt) <;> walk_at "ev")
  | ((with_reducible apply ed_le) <;> walk_at "ev")
  | ((with_reducible apply ed_gt) <;> walk_at "ev")
  | ((with_reducible apply ed_ge) <;> walk_at "ev")
  | ((with_reducible apply ed_eqI) <;> walk_at "ev")
  | ((with_reducible apply ed_neI) <;> walk_at "ev")
  | ((with_reducible apply ed_gcd) <;> walk_at "ev")
  | ((with_reducible apply ed_abs) <;> walk_at "ev")
  | ((with_reducible apply ed_intI) <;> walk_at "ev")
  | ((with_reducible apply ed_intB) <;> walk_at "ev")
  | ((with_reducible apply ed_max2) <;> walk_at "ev")
  | ((with_reducible apply ed_min2) <;> walk_at "ev")
  | ((with_reducible apply ed_lenT) <;> walk_at "ev")
  | ((with_reducible apply ed_lenL) <;> walk_at "ev")
  | ((with_reducible apply ed_tuple) <;> walk_at "ev")
  | ((with_reducible apply ed_tupleT) <;> walk_at "ev")
  | ((with_reducible apply ed_tup) <;> first | walk_at "ea" | (simp; done) | skip)
  | ((with_reducible apply et_t) <;> walk_at "ev")
  | ((with_reducible apply et_v) <;> walk_at "ev"))
local macro_rules | `(tactic| walk_at "ea") => `(tactic| first
  | exact ea0
  | ((with_reducible apply ea1) <;> first | walk_at "ev" | walk_at "ea" | skip))

section
variable {P : Program} {w : World} {K : PySem.W.Frag} {mg : Str → Option Value} {base : Heap}
theorem ne_new {H : Hp} {p d : Addr} {o : HO} (hp : H p = none) (hd : H d = some o) : p ≠ d := fun z => by
  rw [z, hd] at hp
  cases hp
def sp_law (K : PySem.W.Frag) : Sp := fun vs H Q _ => ∃ (a : Addr) (ns : List Int), vs = [.ref a] ∧ ns.length ≤ 63 ∧ Rd H a (.lst (ns.map V.int)) ∧ ∀ H', Q (.bl true) H'
/-- a def of no defaults, its function object given -/
theorem fnF {x qual : Str} {st : Stmt} {f : Addr} {N ps : List Str} {k : Nat} {sp : Sp} {fd : FuncData} (F : FunD K x qual (defArgs st) (defBody st) (defScope st) [] [] f fd) (S : FnScope N ps (defScope st)) (len : ∀ vs H Q E, sp vs H Q E → vs.length = ps.length)
    (hbody : ∀ (cdv : Value) (A : Around) (outer : List Env) (s : Shared) (H : Hp) (vs : List V) (Q : VK) (E : XK), Room k (A.deeper (envOfC qual (defScope st) s.heap.objs.size f cdv)) → sp vs H Q E →
      ∃ t, PSs (cxOf (L2.CX P w) P w K mg base N qual (defScope st) f cdv A outer s H E).nox (defBody st) t ∧ t { nx := fun _ H' => Q .non H', rt := Q } (start N vs) H) : FnOk P w K mg base (L2.CX P w) (k + 1) f fd ps sp :=
  F.ok S len (fun cdv A outer s H vs Q E hr h => let ⟨t, h1, h2⟩ := hbody cdv A outer s H vs Q E hr h; ⟨t, h1.nox, h2⟩)
theorem ok_law {fd : FuncData} (T : Txt K mg) (hp : P.main.file = fileS) (ht : (P.main.scope.names.lookup ("super" : Str)).isSome = false) (F : FunD K "law" "law" (defArgs s_law) (defBody s_law) (defScope s_law) [] [] (He.ga K "law") fd) : FnOk P w K mg base (L2.CX P w) 10 (He.ga K "law") fd ["script"] (sp_law K) := by
  refine fnF (N := ["script", "draw", "areas", "volumes", "locks", "row", "told", "weirs", "heights", "order", "now", "numbers", "weir", "found", "due", "late", "falling", "error", "area", "at"]) (st := s_law) F sc_law (fun vs H Q E h => ?_) (fun cdv A outer s H vs Q E hr h => ⟨_, (pss_cons (ps_asg (pe_lst (pa_cons (pv 0) (pa_cons pe_int pa_nil))) (pg_name (i := 1) sc_law.nd rfl (.inr rfl))) (pss_cons (ps_asg (pe_callG (ok__law_drawn T) (hr.mono (by decide)) (by rfl) T.m__law_drawn (pa_cons (pv 1) (pa_cons pe_int pa_nil))) (pg_tup rfl (pgs_cons (pg_name (i := 2) sc_law.nd rfl (.inl rfl)) (pgs_cons (pg_name (i := 3) sc_law.nd rfl (.inl rfl)) (pgs_cons (pg_name (i := 4) sc_law.nd rfl (.inr rfl)) pgs_nil))))) (pss_cons (ps_if (pt_cmpR op_eq (pe_callG (ok__law_take T) (hr.mono (by decide)) (by rfl) T.m__law_take (pa_cons (pv 1) (pa_cons pe_int pa_nil))) pe_int (nomark _)) (pss_one (ps_asg (pe_callTy call_tupS (by rfl) T.z_tuple (by decide +kernel) (pa_cons (pe_lc (own := [("area", 18)]) rfl sc_law.nd (pi_tup (pv 2)) (blkOk_by (own := [("area", 18)]) (N := ["script", "draw", "areas", "volumes", "locks", "row", "told", "weirs", "heights", "order", "now", "numbers", "weir", "found", "due", "late", "falling", "error", "area", "at"]) (sc := defScope s_law) (by decide +kernel)) (fun _ _ _ _ _ => (pg_name (i := 18) sc_law.nd rfl (.inl rfl))) (fun _ _ _ _ _ => pts_nil) (fun _ _ _ _ _ => (pe_op op_mulW (pv 18) (pe_callG (ok__law_pick T) (hr.mono (by decide)) (by rfl) T.m__law_pick (pa_cons (pv 1) (pa_cons (pe_lst (pa_cons pe_int (pa_cons pe_int (pa_cons pe_int (pa_cons pe_int pa_nil))))) pa_nil)))))) pa_nil)) (pg_name (i := 3) sc_law.nd rfl (.inl rfl)))) pss_nil) (pss_cons (ps_par (i := 5) (j := 6) (by rfl) sc_law.nd rfl rfl (by decide) rfl rfl (pa_cons (pe_makeH T.k_Row (ok_Row___init___L T) (hr.mono (by decide)) (by rfl) T.m_Row (pa_cons (pv 2) (pa_cons (pv 3) (pa_cons (pv 4) pa_nil)))) (pa_cons (pe_callG (ok__law_parts_of T) (hr.mono (by decide)) (by rfl) T.m__law_parts_of (pa_cons (pv 3) pa_nil)) pa_nil)) (by rfl)) (pss_cons (ps_par (i := 7) (j := 8) (by rfl) sc_law.nd rfl rfl (by decide) rfl rfl (pa_cons (pe_lc (own := [("weir", 12)]) rfl sc_law.nd (pi_range2 (by rfl) T.z_range (pa_cons pe_int (pa_cons (pe_callB call_lenS (by rfl) T.z_len PySem.boot_len (pa_cons (pv 2) pa_nil)) pa_nil))) (blkOk_by (own := [("weir", 12)]) (N := ["script", "draw", "areas", "volumes", "locks", "row", "told", "weirs", "heights", "order", "now", "numbers", "weir", "found", "due", "late", "falling", "error", "area", "at"]) (sc := defScope s_law) (by decide +kernel)) (fun _ _ _ _ _ => (pg_name (i := 12) sc_law.nd rfl (.inl rfl))) (fun _ _ _ _ _ => (pts_one (pt_cmpR (notInK (K := K) rfl) (pv 12) (pv 4) (by rfl)))) (fun _ _ _ _ _ => (pv 12))) (pa_cons (pe_callG (ok__law_heights T) (hr.mono (by decide)) (by rfl) T.m__law_heights (pa_cons (pv 2) (pa_cons (pe_callG (ok__law_parts_of T) (hr.mono (by decide)) (by rfl) T.m__law_parts_of (pa_cons (pv 3) pa_nil)) pa_nil))) pa_nil)) (by rfl)) (pss_cons (ps_if (PW.pt (pw_or (pt_cmpR (op_neD (hr.units)) (pe_callG (ok_signs T) (hr.mono (by decide)) (by rfl) T.m_signs (pa_cons (pv 5) pa_nil)) (pe_callG (ok__law_signs T) (hr.mono (by decide)) (by rfl) T.m__law_signs (pa_cons (pv 8) pa_nil)) (nomark _)) (pw_or1 (pt_cmpR op_ne (pe_callG (ok_turns T) (hr.mono (by decide)) (by rfl) T.m_turns (pa_cons (pv 5) pa_nil)) (pe_callG (ok__law_turns T) (hr.mono (by decide)) (by rfl) T.m__law_turns (pa_cons (pv 8) pa_nil)) (nomark _))))) (pss_one (ps_ret pe_bl)) pss_nil) (pss_cons (ps_if (PW.pt (pw_or (pt_cmpR (op_neD (hr.units)) (pe_callG (ok_flats T) (hr.mono (by decide)) (by rfl) T.m_flats (pa_cons (pv 5) pa_nil)) (pe_callG (ok__law_flats T) (hr.mono (by decide)) (by rfl) T.m__law_flats (pa_cons (pv 8) pa_nil)) (nomark _)) (pw_or1 (pt_cmpR (op_neD (hr.units)) (pe_callG (ok_peaks T) (hr.mono (by decide)) (by rfl) T.m_peaks (pa_cons (pv 5) pa_nil)) (pe_callG (ok__law_peaks T) (hr.mono (by decide)) (by rfl) T.m__law_peaks (pa_cons (pv 8) pa_nil)) (nomark _))))) (pss_one (ps_ret pe_bl)) pss_nil) (pss_cons (ps_par (i := 9) (j := 10) (by rfl) sc_law.nd rfl rfl (by decide) rfl rfl (pa_cons (pe_callG (ok__law_order T) (hr.mono (by decide)) (by rfl) T.m__law_order (pa_cons (pv 1) (pa_cons (pv 7) (pa_cons (pe_callG (ok__law_take T) (hr.mono (by decide)) (by rfl) T.m__law_take (pa_cons (pv 1) (pa_cons pe_int pa_nil))) pa_nil)))) (pa_cons (pv 6) pa_nil)) (by rfl)) (pss_cons (ps_asg (pe_lst (pa_cons (pe_callG (ok__law_turns T) (hr.mono (by decide)) (by rfl) T.m__law_turns (pa_cons (pv 8) pa_nil)) pa_nil)) (pg_name (i := 11) sc_law.nd rfl (.inl rfl))) (pss_cons (ps_for PassesOwn.never rfl (pi_list (pv 9)) (pg_name (i := 12) sc_law.nd rfl (.inl rfl)) (pss_cons (ps_asg (pe_callG (ok__law_open T) (hr.mono (by decide)) (by rfl) T.m__law_open (pa_cons (pv 2) (pa_cons (pv 10) (pa_cons (pv 12) pa_nil)))) (pg_name (i := 10) sc_law.nd rfl (.inl rfl))) (pss_one (ps_expr (pe_bm PySem.F.plainAttrs_list PySem.F.slot_list_append PySem.F.type_list_append mt_append (pv 11) (pa_cons (pe_callG (ok__law_turns T) (hr.mono (by decide)) (by rfl) T.m__law_turns (pa_cons (pe_callG (ok__law_heights T) (hr.mono (by decide)) (by rfl) T.m__law_heights (pa_cons (pv 2) (pa_cons (pv 10) pa_nil))) pa_nil)) pa_nil)))))) (pss_cons (ps_asg (pe_callG (ok_sinking T) (hr.mono (by decide)) (by rfl) T.m_sinking (pa_cons (pv 5) (pa_cons (pv 9) pa_nil))) (pg_name (i := 13) sc_law.nd rfl (.inl rfl))) (pss_cons (ps_if (PW.pt (pw_or (pt_cmpR (op_neD (hr.units)) (pe_fld (pv 13) rfl) (pv 11) (nomark _)) (pw_or (pt_cmpR (op_neD (hr.units)) (pv 11) (pe_callBK (cr_sortedRev (b := true)) (by rfl) T.z_sorted (by decide +kernel) (pa_cons (pv 11) pa_nil) (pk_cons pe_bl pk_nil)) (nomark _)) (pw_or (pt_not (pt_val (pe_methG (pv 13) T.c_Sinking T.x_Sinking_shows (ok_Sinking_shows T) (hr.mono (by decide)) (pa_cons (pv 5) (pa_cons (pv 9) pa_nil))))) (pw_or1 (pt_not (truO_of (ok_Sinking___bool__ T) T.x_Sinking___bool__ (hr.mono (by decide)) (pv 13)))))))) (pss_one (ps_ret pe_bl)) pss_nil) (pss_cons (ps_if (PW.pt (pw_or (pt_val (pe_methG (pe_makeG T.k_Sinking (ok_Sinking___init___L T) (hr.mono (by decide)) (by rfl) T.m_Sinking (pa_cons (pe_op op_cat (pe_lst (pa_cons (pe_op op_add (pe_ix ix_list (pv 11) pe_int (fun _ _ => rfl)) pe_int) pa_nil)) (pe_slice sl_list (pv 11) (po_some pe_int) po_none)) pa_nil)) T.c_Sinking T.x_Sinking_shows (ok_Sinking_shows T) (hr.mono (by decide)) (pa_cons (pv 5) (pa_cons (pv 9) pa_nil)))) (pw_or1 (pt_cmpR (neO_of (ok_Sinking___eq__ T) T.x_Sinking___eq__ T.ne_Sinking T.ob_Sinking (hr.mono (by decide))) (pe_makeG T.k_Sinking (ok_Sinking___init___T T) (hr.mono (by decide)) (by rfl) T.m_Sinking (pa_cons (pe_callTy call_tupS (by rfl) T.z_tuple (by decide +kernel) (pa_cons (pv 11) pa_nil)) pa_nil)) (pv 13) (nomark _))))) (pss_one (ps_ret pe_bl)) pss_nil) (pss_cons (ps_asg pe_dnewK (pg_name (i := 14) sc_law.nd rfl (.inl rfl))) (pss_cons (ps_for PassesOwn.never rfl (pi_list (pv 7)) (pg_name (i := 12) sc_law.nd rfl (.inl rfl)) (pss_one (ps_dput (hu_of hr) (pv 14) (pv 12) (pe_callG (ok__law_turns T) (hr.mono (by decide)) (by rfl) T.m__law_turns (pa_cons (pe_callG (ok__law_heights T) (hr.mono (by decide)) (by rfl) T.m__law_heights (pa_cons (pv 2) (pa_cons (pe_callG (ok__law_open T) (hr.mono (by decide)) (by rfl) T.m__law_open (pa_cons (pv 2) (pa_cons (pv 6) (pa_cons (pv 12) pa_nil)))) pa_nil))) pa_nil)) rfl))) (pss_cons (ps_if (PW.pt (pw_or (pt_cmpR (op_ne_dictA (Nat.lt_of_succ_lt (hu_of hr))) (pe_callG (ok_turns_left T) (hr.mono (by decide)) (by rfl) T.m_turns_left (pa_cons (pv 5) pa_nil)) (pv 14) (nomark _)) (pw_or1 (pt_cmpR (op_neD (hr.units)) (pe_callTy (call_list_dK rfl) (by rfl) T.z_list (by decide +kernel) (pa_cons (pe_callG (ok_turns_left T) (hr.mono (by decide)) (by rfl) T.m_turns_left (pa_cons (pv 5) pa_nil)) pa_nil)) (pv 7) (nomark _))))) (pss_one (ps_ret pe_bl)) pss_nil) (pss_cons (ps_asg (pv 5) (pg_name (i := 15) sc_law.nd rfl (.inl rfl))) (pss_cons (ps_for PassesOwn.never rfl (pi_list (pe_slice sl_list (pv 9) po_none (po_some pe_int))) (pg_name (i := 12) sc_law.nd rfl (.inl rfl)) (pss_cons (ps_asg (pe_methH (pv 15) T.c_Row T.x_Row_opened (ok_Row_opened3 T) (hr.mono (by decide)) (pa_cons (pv 12) (pa_cons (pe_callG (ok__law_pick T) (hr.mono (by decide)) (by rfl) T.m__law_pick (pa_cons (pv 1) (pa_cons (pe_lst (pa_cons (pe_tup (pa_cons pe_int (pa_cons pe_int pa_nil))) (pa_cons (pe_tup (pa_cons pe_int (pa_cons pe_int pa_nil))) (pa_cons (pe_tup (pa_cons pe_int (pa_cons pe_int pa_nil))) (pa_cons (pe_tup (pa_cons pe_int (pa_cons pe_int pa_nil))) pa_nil))))) pa_nil))) pa_nil))) (pg_name (i := 15) sc_law.nd rfl (.inl rfl))) (pss_one (ps_if (pt_cmpR op_gt (pe_callG (ok_turns T) (hr.mono (by decide)) (by rfl) T.m_turns (pa_cons (pv 15) pa_nil)) (pe_ix ix_list (pv 11) pe_int (fun _ _ => rfl)) (nomark _)) (pss_one (ps_ret pe_bl)) pss_nil)))) (pss_cons (ps_asg (pe_makeH T.k_Row (ok_Row___init___L T) (hr.mono (by decide)) (by rfl) T.m_Row (pa_cons (pv 2) (pa_cons (pe_callTy call_tupS (by rfl) T.z_tuple (by decide +kernel) (pa_cons (pe_lc (own := [("at", 19), ("area", 18)]) rfl sc_law.nd (EnT.pi_enumT (by rfl) T.z_enumerate (pa_cons (pv 2) pa_nil)) (blkOk_by (own := [("at", 19), ("area", 18)]) (N := ["script", "draw", "areas", "volumes", "locks", "row", "told", "weirs", "heights", "order", "now", "numbers", "weir", "found", "due", "late", "falling", "error", "area", "at"]) (sc := defScope s_law) (by decide +kernel)) (fun _ _ _ _ _ => (tupK (K := K) (n := 2) rfl rfl (pgs_cons (pg_name (i := 19) sc_law.nd rfl (.inl rfl)) (pgs_cons (pg_name (i := 18) sc_law.nd rfl (.inl rfl)) pgs_nil)))) (fun _ _ _ _ _ => pts_nil) (fun _ _ _ _ _ => (pe_op op_mulW (pv 18) (pe_op op_sub pe_int (pv 19))))) pa_nil)) (pa_cons (pv 4) pa_nil)))) (pg_name (i := 16) sc_law.nd rfl (.inl rfl))) (pss_cons (ps_for PassesOwn.never rfl (pi_list (pv 9)) (pg_name (i := 12) sc_law.nd rfl (.inl rfl)) (pss_cons (ps_asg (pe_methH (pv 16) T.c_Row T.x_Row_opened (ok_Row_opened2 T) (hr.mono (by decide)) (pa_cons (pv 12) pa_nil)) (pg_name (i := 16) sc_law.nd rfl (.inl rfl))) (pss_one (ps_if (pt_cmpR op_in_seq pe_int (pe_callG (ok_signs T) (hr.mono (by decide)) (by rfl) T.m_signs (pa_cons (pv 16) pa_nil)) (by rfl)) (pss_one (ps_ret pe_bl)) pss_nil)))) (pss_cons (ps_try_as (i := 17) rfl rfl sc_law.nd rfl rfl ⟨rfl, by decide, .inl T.m_BadOrder⟩ takes0 (fun W pn xe tk _ => (pss_one (ps_expr (pe_callSG (ok_sinking_X T hp ht) (hr.mono (by decide)) (by rfl) T.m_sinking tk (pa_cons (pv 5) (pa_cons (pe_lst (pa_cons pe_int pa_nil)) pa_nil)))))) (fun a oe cls d pn hz hf => (pss_one (ps_ret (pe_cmpR op_eq (pe_bySup (T.s_BadOrder hp ht) hz hf (pv 17)) pe_int (nomark _)))))) (pss_one (ps_ret pe_bl))))))))))))))))))))))), ?_⟩)
  · obtain ⟨a, ns, rfl, _⟩ := h
    rfl
  · obtain ⟨a, ns, rfl, nl, hs, q⟩ := h
    try dsimp only [cxOf, Cx.nox, Cx.wish]
    refine law_a (K := K) nl hs fun d sA A L ts va vv pl H1 dr1 a1 al ar tl tg lr ll iA iv il nd => ?_
    refine law_b (K := K) dr1 al ar tl tg iA iv fun ts' vv' H2 dr2 tl2 tg2 mu2 iv2 => ?_
    have iA2 := iA.gt mu2.2 (iLlf A)
    have il2 := Is.mul il mu2 (by simpa using nd) (iLlf L)
    refine law_c (K := K) a1 al ar tl2 tg2 lr ll iA2 iv2 il2 fun ur ut pw ph xh H3 e3 ir it hpw hxw hph hxh axh => ?_
    have rk := gv_row a1 al ar tl2 tg2
    clear iv2 tg2 tl2 iv tg tl mu2
    generalize ts'.map Tv.q = v at ir it axh rk
    have a4 : ∀ a ∈ A, a ≤ 4 := fun a ha => (ar a ha).2
    have ih : Is K H3 (.ref ph) (.lst (frs (hts A v))) := .lst (.inl hxh) axh
    have iw : Is K H3 (.ref pw) (.lst (iL (wrs A (asc L)))) := .lst (.inl hxw) iLall
    refine law_d (K := K) rfl rfl rk ir ih fun H4 e4 => ?_
    have E4 := e3.trans e4
    have dr4 := dr2.ex E4
    obtain ⟨⟨od, hod⟩, _⟩ := dr2.some
    have nwd := ne_new hpw hod
    have nhd := ne_new hph hod
    refine law_e (K := K) (L := asc L) dr4 (iw.ex e4) nwd fun O po H5 dr5 mu5 ol hO hpo hxo => ?_
    obtain ⟨xs4, hd4⟩ := dr4.lst
    have npd := ne_new hpo hd4
    have iA5 := (iA2.ex E4).gt mu5.2 (iLlf A)
    have il5 := Is.mul (il2.ex E4) mu5 (by simpa using nd) (iLlf L)
    have ir5 := mvR (ir.ex e4) mu5 hd4
    have it5 := (it.ex e4).gt mu5.2 (frs_lf v)
    have ih5 := Is.mul (ih.ex e4) mu5 (by simpa using nhd) (frs_lf _)
    have iw5 := Is.mul (iw.ex e4) mu5 (by simpa using nwd) (iLlf _)
    have io5 : Is K H5 (.ref po) (.lst (iL O)) := .lst (.inl hxo) iLall
    refine law_f (K := K) rk a4 (can_wrs hO) ol iA5 it5 ih5 io5 fun pn un y12 H6 e6 hpn hxn => ?_
    obtain ⟨xs5, hd5⟩ := dr5.lst
    have nnd := ne_new hpn hd5
    have in6 : Is K H6 (.ref pn) (.lst (iL (nms A v O O.length))) := .lst (.inl hxn) iLall
    refine law_g T rfl rfl rfl (by show 13 < 20; decide) rk ol hO (ir5.ex e6) (io5.ex e6) in6 fun uf H7 e7 => ?_
    have E7 := e6.trans e7
    refine law_h (K := K) rk (iA5.ex E7) (ir5.ex E7) (it5.ex E7) (iw5.ex E7) fun pd z12 H8 e8 => ?_
    have E8 := E7.trans e8
    refine law_i (K := K) (dr5.ex E8) rk a4 ol hO (ir5.ex E8) (io5.ex E8) (in6.ex (e7.trans e8)) nnd fun x12 u15 H9 mu9 => ?_
    have hd8 := E8 _ _ hd5
    have iA9 := (iA5.ex E8).gt mu9.2 (iLlf A)
    have il9 := Is.mul (il5.ex E8) mu9 (by simpa using nd) (iLlf L)
    have io9 := Is.mul (io5.ex E8) mu9 (by simpa using npd) (iLlf O)
    have ir9 := mvR (ir5.ex E8) mu9 hd8
    refine law_j T a1 al ar lr ll ol hO iA9 il9 io9 fun w12 u16 H10 e10 => ?_
    refine s_callS (K := K) (ea1 (ed_var rfl (ir9.ex e10)) (ea1 (EvN.toD (en_lst (ea1 ed_int ea0) (by show 1 ≤ 100000; decide))) ea0)) fun vs H11 Q' e11 ax => ?_
    obtain ⟨w1, w2, rfl, b1, b2⟩ := All.inv2 ax
    refine ⟨A, v, asc L, [0], 0, by decide, w1, w2, rfl, b1, b2, by decide, fun j hj => absurd hj (Nat.not_lt_zero j), rfl, fun dd H12 hdd e12 hx => ?_⟩
    refine ⟨true, (T.s_BadOrder hp ht).te, fun _ ae hae => ?_, fun z => nomatch z⟩
    refine ⟨_, rfl, rfl, rfl, dd, _, rfl, hx, rfl, ?_⟩
    exact q H12

end
end My
end
section
set_option Elab.async false
set_option linter.all false
set_option maxRecDepth 100000
set_option maxHeartbeats 0
namespace My
open PySem PySem.Spec PyProof.Rows L2
theorem facts {P : Program} {w : World} {K : PySem.W.Frag} {h : Heap} {mg : Str → Option Value} {f : Addr} (hp : P.main.file = fileS) (ht : (P.main.scope.names.lookup ("super" : Str)).isSome = false) (X : K.In h) (G : h.Ns mainGlobals mg) (hfa : mg ("law" : Str) = some (.ref f)) (c : SupX.SaysS fa fn xs fileS exB K) :
    ∃ fd : FuncData, (∀ (s : Shared) (v : Value), BindsTo s fd ⟨[v], []⟩ [("script", v)]) ∧ (∀ (H : Hp) (a : Addr) (ns : List Int), ns.length ≤ 63 → SqL K H a (ns.map V.int) → sp_law K [.ref a] H (fun v _ => v = .bl true) fun _ _ _ => False) ∧ ∀ base : Heap, K.In base → base.Ns mainGlobals mg → FnOk P w K mg base (L2.CX P w) 10 f fd ["script"] (sp_law K) := by
  have T : Txt K mg := ⟨⟨_, X, G⟩, c⟩
  obtain ⟨fd, F⟩ := T.f_law
  have F' : FunD K "law" "law" (defArgs s_law) (defBody s_law) (defScope s_law) [] [] (He.ga K "law") fd := F
  have e := hfa.symm.trans T.m_law
  cases e
  have b := FunD.bindsA (ps := ["script"]) F' fun _ _ _ _ _ _ us hl => match us, hl with | [_], _ => rfl
  exact ⟨fd, fun s v => b s [v] rfl, fun H a ns hl hS => ⟨a, ns, rfl, hl, WD.rd_of (T.ex 22) hS, fun _ => rfl⟩, fun base _ _ => ok_law T hp ht F'⟩
end My
open PySem PySem.W PySem.Calls PyProof.Rows
theorem PySem.Challenge.cw_weirlines_k45_whole_turns_holds : PySem.Challenge.rw_weirlines_k45_whole_turns.Holds := by
  w_on; o_law
  refine HandSHeadRun.head_imp (r := OpenLaw.row PySem.Challenge.rw_weirlines_k45_whole_turns) (q := view (OpenLaw.row PySem.Challenge.rw_weirlines_k45_whole_turns).prog [0, 59]) (H := My.hk) (ob := My.ob) (M := 6000) (loose := My.loose) (d := HandSHeadRun.topDef (OpenLaw.row PySem.Challenge.rw_weirlines_k45_whole_turns).prog 59) (kwd := []) My.ob_eq
    My.run (by kernel_rfl) (by kernel_rfl) (by kernel_rfl) (by rfl) (by first | assumption | decide +kernel) (by decide +kernel) ⟨rfl, rfl, rfl, rfl, rfl, by decide +kernel⟩ ?hw ?hc
  case hw => w_witness2
  case hc =>
    refine LamX.walk_ofTsE (l := PySem.Challenge.rw_weirlines_k45_whole_turns) (n := 63) (k := 10) (x := "script") (CX := fun w => L2.CX PySem.Challenge.rw_weirlines_k45_whole_turns.prog w) rfl (by decide) (by kernel_rfl) ⟨rfl, by decide, by decide⟩ ?F ?CX
    case CX =>
      intro w H s e s' z
      obtain ⟨_, _, _, _, _, _, _, _, _, _, _, _, z⟩ := z
      exact z
    case F =>
      intro w mg fa h Y G hmg0
      obtain ⟨K, KX, c⟩ := Y
      have hmg : mg ("law" : PySem.Str) = some (.ref fa) := by
        have e : (HandSHeadRun.topDef (OpenLaw.row PySem.Challenge.rw_weirlines_k45_whole_turns).prog 59).name = ("law" : PySem.Str) := by kernel_rfl
        rw [← e]
        exact hmg0
      obtain ⟨fd, hb, hS, hF⟩ := My.facts (P := PySem.Challenge.rw_weirlines_k45_whole_turns.prog) (w := w) (by rfl) (by rfl) KX G hmg c
      exact ⟨K, KX, fd, [], My.sp_law K, (fun p hp => nomatch hp), (fun p hp => nomatch hp), (fun p hp => nomatch hp), hb, fun H a ns hl _ _ hq => hS H a ns hl hq, fun base hK hN _ => hF base hK hN⟩
end
