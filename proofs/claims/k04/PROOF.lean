import PyProof.Rows.All
import Wide.All
import OpenK.AllK
import Wide.FinOn
import HandS.Evl
import HandS.Words
import HandS.WordsExc
import HandS.Gcd
import HandS.Wide
import HandS.IsInst
import HandS.Defaults
import HandS.Zip
import HandS.HeadHook1
import HandS.HeadHook2
import HandS.OwnEq
import OpenK.KOps
import OpenK.KMeth
import KE.KMathGC
import PyProof.InstNe
import PyProof.FactsAll.tuple_iterator_1
import HandS.SetFor
import PyProof.ListNew
import HandS.TupAny
import KE.KMathG
import HandS.DictComp
import PyProof.ZipIter
import PyProof.CollectWalk
import KE.KItemsList
import HandS.Base
import HandS.Call
import HandS.List
import HandS.Iter
import HandS.ListItems
import HandS.Star
import KE.KExcSuper
import HandS.ExcOwn
import HandS.ExcInit
import KE.KStateDown
import HandS.Head3
import HandS.HeadEnd
import HandS.Rev
import HandS.RevTup
import HandS.Conv
import HandS.Deep
import HandS.WideBits
import HandS.Flow
import HandS.TupMul
import HandS.TryOnly
import KE.GoesMore
import HandS.TryMany
import HandS.Style
import HandS.Small
import PyProof.Rows.Range3
import HandS.SortInts
import HandS.HeadHook3
import HandS.RevRange
import HandS.Dict
import KE.DataEq
import HandS.WordsDict
import KE.KTupSum
import HandS.HeadWalk
import PySem.Challenge.RW_weirlines_k04_whole_amounts
section
set_option Elab.async false
set_option linter.all false
set_option maxRecDepth 100000
namespace WD
open PySem L2 Evl
inductive D where
  | non | bl (b : Bool) | int (i : Int) | str (x : Str)
  | tup (ds : List D) | lst (ds : List D) | obj (c : Str) (fs : List (Str × D))
mutual
inductive Is (K : PySem.W.Frag) (H : Hp) : V → D → Prop
  | non : Is K H .non .non
  | bl (b : Bool) : Is K H (.bl b) (.bl b)
  | int (i : Int) : Is K H (.int i) (.int i)
  | str (x : Str) : Is K H (.str x) (.str x)
  | tup {a : Addr} {xs : List V} {ds : List D} : SqT K H a xs → All K H xs ds → Is K H (.ref a) (.tup ds)
  | lst {a : Addr} {xs : List V} {ds : List D} : Rd H a (.lst xs) → All K H xs ds → Is K H (.ref a) (.lst ds)
  | obj {a dx : Addr} {c : Str} {fvs : List (Str × V)} {fs : List (Str × D)} : H a = some (.ins (He.ga K c) dx fvs) → AllF K H fvs fs → Is K H (.ref a) (.obj c fs)
inductive All (K : PySem.W.Frag) (H : Hp) : List V → List D → Prop
  | nil : All K H [] []
  | cons {v : V} {vs : List V} {d : D} {ds : List D} : Is K H v d → All K H vs ds → All K H (v :: vs) (d :: ds)
inductive AllF (K : PySem.W.Frag) (H : Hp) : List (Str × V) → List (Str × D) → Prop
  | nil : AllF K H [] []
  | cons {n : Str} {v : V} {vs : List (Str × V)} {d : D} {ds : List (Str × D)} : Is K H v d → AllF K H vs ds → AllF K H ((n, v) :: vs) ((n, d) :: ds)
end
section
variable {K : PySem.W.Frag} {H H' : Hp}
mutual
theorem Is.ex (e : Ex H H') : ∀ {v : V} {d : D}, Is K H v d → Is K H' v d
  | _, _, .non => .non
  | _, _, .bl b => .bl b
  | _, _, .int i => .int i
  | _, _, .str x => .str x
  | _, _, .tup h a => .tup (ex_t e h) (All.ex e a)
  | _, _, .lst h a => .lst (ex_rd e h) (All.ex e a)
  | _, _, .obj h a => .obj (e _ _ h) (AllF.ex e a)
theorem All.ex (e : Ex H H') : ∀ {vs : List V} {ds : List D}, All K H vs ds → All K H' vs ds
  | _, _, .nil => .nil
  | _, _, .cons h a => .cons (Is.ex e h) (All.ex e a)
theorem AllF.ex (e : Ex H H') : ∀ {vs : List (Str × V)} {ds : List (Str × D)}, AllF K H vs ds → AllF K H' vs ds
  | _, _, .nil => .nil
  | _, _, .cons h a => .cons (Is.ex e h) (AllF.ex e a)
end
theorem All.len : ∀ {vs : List V} {ds : List D}, All K H vs ds → vs.length = ds.length
  | _, _, .nil => rfl
  | _, _, .cons _ a => congrArg Nat.succ (All.len a)
theorem All.get : ∀ {vs : List V} {ds : List D} {i : Nat} {d : D}, All K H vs ds → ds[i]? = some d → ∃ v, vs[i]? = some v ∧ Is K H v d
  | _, _, _, _, .nil, h => by simp at h
  | _, _, 0, _, .cons h _, e => by
    simp at e
    subst e
    exact ⟨_, rfl, h⟩
  | _, _, i + 1, _, .cons _ a, e => by
    obtain ⟨v, h1, h2⟩ := All.get (i := i) a (by simpa using e)
    exact ⟨v, by simpa using h1, h2⟩
theorem All.app : ∀ {vs ws : List V} {ds es : List D}, All K H vs ds → All K H ws es → All K H (vs ++ ws) (ds ++ es)
  | _, _, _, _, .nil, b => b
  | _, _, _, _, .cons h a, b => .cons h (All.app a b)
theorem All.one {v : V} {d : D} (h : Is K H v d) : All K H [v] [d] := .cons h .nil
theorem All.drop : ∀ {vs : List V} {ds : List D} (n : Nat), All K H vs ds → All K H (vs.drop n) (ds.drop n)
  | _, _, 0, h => h
  | _, _, _ + 1, .nil => .nil
  | _, _, n + 1, .cons _ a => All.drop n a
theorem All.take : ∀ {vs : List V} {ds : List D} (n : Nat), All K H vs ds → All K H (vs.take n) (ds.take n)
  | _, _, 0, _ => .nil
  | _, _, _ + 1, .nil => .nil
  | _, _, n + 1, .cons h a => .cons h (All.take n a)
theorem All.set {v : V} {d : D} (h : Is K H v d) : ∀ {vs : List V} {ds : List D} (n : Nat), All K H vs ds → All K H (vs.set n v) (ds.set n d)
  | _, _, _, .nil => .nil
  | _, _, 0, .cons _ a => .cons h a
  | _, _, n + 1, .cons g a => .cons g (All.set h n a)
theorem AllF.look {f : Str} {d : D} : ∀ {vs : List (Str × V)} {ds : List (Str × D)}, AllF K H vs ds → ds.lookup f = some d → ∃ v, vs.lookup f = some v ∧ Is K H v d
  | _, _, .nil, h => by simp at h
  | _, _, .cons (n := n) h a, e => by
    rw [List.lookup_cons] at e ⊢
    cases q : (f == n) with
    | true =>
      rw [q] at e
      cases e
      exact ⟨_, rfl, h⟩
    | false =>
      rw [q] at e
      exact AllF.look a e
/-- tuples stay -/
def Gt (H H' : Hp) : Prop := ∀ a xs, Rd H a (.tup xs) → Rd H' a (.tup xs)
theorem Gt.refl (H : Hp) : Gt H H := fun _ _ h => h
theorem Gt.trans {H H1 H2 : Hp} (a : Gt H H1) (b : Gt H1 H2) : Gt H H2 := fun x y h => b x y (a x y h)
theorem Gt.of (e : Ex H H') : Gt H H' := fun _ _ h => ex_rd e h
theorem Gt.upd {p : Addr} {o : HO} {u : HO} (h : H p = some u) (hu : ∀ xs, u ≠ .tup xs) (hf : ∀ ob z, u ≠ .frz ob z) : Gt H (upd H p o) := fun a xs r => by
  rcases r with r | ⟨ob, r⟩
  · exact .inl (by
      rw [upd_ne (ne_of r h (fun z => hu xs z.symm))]
      exact r)
  · exact .inr ⟨ob, by
      rw [upd_ne (ne_of r h (fun z => hf ob _ z.symm))]
      exact r⟩
theorem Gt.lst {p : Addr} {o : HO} {xs : List V} (h : H p = some (.lst xs)) : Gt H (L2.upd H p o) := Gt.upd h (fun _ z => by cases z) (fun _ _ z => by cases z)
end
end WD
end
section
set_option Elab.async false
set_option linter.all false
set_option maxRecDepth 100000
namespace WD
open PySem L2 Evl
variable {K : PySem.W.Frag} {σ : L2.St} {H H' : Hp} {ta tb te tx : TE} {t u : TT} {d d1 d2 : D} {ds es : List D}
def EvD (K : PySem.W.Frag) (te : TE) (σ : L2.St) (H : Hp) (d : D) : Prop := ∀ H1, Ex H H1 → ∀ Q : VK, (∀ v H2, Ex H1 H2 → Is K H2 v d → Q v H2) → te σ H1 Q
/-- a new list -/
def EvN (K : PySem.W.Frag) (te : TE) (σ : L2.St) (H : Hp) (ds : List D) : Prop := ∀ H1, Ex H H1 → ∀ Q : VK, (∀ p xs H2, H1 p = none → Ex H1 H2 → H2 p = some (.lst xs) → All K H2 xs ds → Q (.ref p) H2) → te σ H1 Q
theorem EvD.mono (e : Ex H H') (h : EvD K te σ H d) : EvD K te σ H' d := fun H1 a Q q => h H1 (e.trans a) Q q
theorem EvN.mono (e : Ex H H') (h : EvN K te σ H ds) : EvN K te σ H' ds := fun H1 a Q q => h H1 (e.trans a) Q q
mutual
def D.py : D → PyData
  | .non => .none
  | .bl b => .bool b
  | .int i => .int i
  | .str x => .str x
  | .tup ds => .tuple (D.pys ds)
  | .lst ds => .list (D.pys ds)
  | .obj _ _ => .none
def D.pys : List D → List PyData
  | [] => []
  | d :: ds => D.py d :: D.pys ds
end
mutual
/-- no object in it -/
def D.fl : D → Bool
  | .tup ds => D.fls ds
  | .lst ds => D.fls ds
  | .obj _ _ => false
  | _ => true
def D.fls : List D → Bool
  | [] => true
  | d :: ds => D.fl d && D.fls ds
end
mutual
theorem Is.dp : ∀ {v : V} {d : D}, Is K H v d → d.fl = true → Dp K H v d.py
  | _, _, .non, _ => .non
  | _, _, .bl b, _ => .bl b
  | _, _, .int i, _ => .int i
  | _, _, .str x, _ => .str x
  | _, _, .tup h a, q => .tup h (All.dp a q)
  | _, _, .lst h a, q => .lst (.inl h) (All.dp a q)
theorem All.dp : ∀ {vs : List V} {ds : List D}, All K H vs ds → D.fls ds = true → DpAll K H vs (D.pys ds)
  | _, _, .nil, _ => .nil
  | _, _, .cons h a, q => .cons (Is.dp h (Bool.and_eq_true_iff.mp q).1) (All.dp a (Bool.and_eq_true_iff.mp q).2)
end
theorem atI_len {α β : Type} {xs : List α} {ys : List β} {i : Int} (h : xs.length = ys.length) {d : β} (e : atI ys i = some d) : ∃ j : Nat, ys[j]? = some d ∧ ∀ v, xs[j]? = some v → atI xs i = some v := by
  unfold atI at e ⊢
  rw [h]
  cases q : ixN ys.length i with
  | none =>
    rw [q] at e
    cases e
  | some j =>
    rw [q] at e
    exact ⟨j, e, fun v hv => hv⟩
def cutD (xs : List D) (lo hi : Option Int) : List D := (xs.drop (HT.sIx xs.length 0 lo)).take (HT.sIx xs.length xs.length hi - HT.sIx xs.length 0 lo)
def rTupS (K : PySem.W.Frag) : List V → Hp → VK → Prop := fun xs H Q => ∃ p ys, xs = [.ref p] ∧ ((SqL K H p ys ∧ ∀ l, H l = none → Q (.ref l) (upd H l (.tup ys))) ∨ (SqT K H p ys ∧ Q (.ref p) H))
def rAbs : List V → Hp → VK → Prop := fun xs H Q => ∃ i, xs = [.int i] ∧ Q (.int (if i < 0 then -i else i)) H
def rInt1 : List V → Hp → VK → Prop := fun xs H Q => (∃ i, xs = [.int i] ∧ Q (.int i) H) ∨ ∃ k, xs = [.bl k] ∧ Q (.int (if k then 1 else 0)) H
def rMin2 : List V → Hp → VK → Prop := fun xs H Q => ∃ i j, xs = [.int i, .int j] ∧ Q (.int (if j < i then j else i)) H
theorem AllF.none {f : Str} : ∀ {vs : List (Str × V)} {ds : List (Str × D)}, AllF K H vs ds → ds.lookup f = none → vs.lookup f = none
  | _, _, .nil, _ => rfl
  | _, _, .cons (n := n) h a, e => by
    rw [List.lookup_cons] at e ⊢
    cases q : (f == n) with
    | true =>
      rw [q] at e
      cases e
    | false =>
      rw [q] at e
      exact AllF.none a e
end WD
end
section
set_option Elab.async false
set_option linter.all false
set_option maxRecDepth 100000
namespace WD
open PySem L2 Evl
variable {K : PySem.W.Frag} {σ : L2.St} {H H' : Hp} {ta tb te tx : TE} {t u : TT} {d d1 d2 : D} {ds es : List D} {wi : TI} {g : TG}
def Mu (L : List Addr) (H H' : Hp) : Prop := (∀ a o, a ∉ L → H a = some o → H' a = some o) ∧ Gt H H'
theorem Mu.refl (L : List Addr) (H : Hp) : Mu L H H := ⟨fun _ _ _ h => h, Gt.refl H⟩
theorem Mu.trans {L : List Addr} {H H1 H2 : Hp} (a : Mu L H H1) (b : Mu L H1 H2) : Mu L H H2 := ⟨fun x o n h => b.1 x o n (a.1 x o n h), a.2.trans b.2⟩
theorem Mu.ex {L : List Addr} (e : Ex H H') : Mu L H H' := ⟨fun a o _ h => e a o h, Gt.of e⟩
theorem Mu.upd {L : List Addr} {l : Addr} {xs : List V} {o : HO} (hl : l ∈ L) (h : H l = some (.lst xs)) : Mu L H (L2.upd H l o) := ⟨fun a u n r => by
  rw [upd_ne (fun z => n (by rw [z]; exact hl))]
  exact r, Gt.lst h⟩
structure Walks (K : PySem.W.Frag) (J : It) (H2 : Hp) (L : List Addr) (Ps : Hp → Prop) (n : Nat) (item : Nat → D) : Prop where
  here : Ps H2
  stays : ∀ L' : List Addr, (∀ l ∈ L', l ∈ L ∨ H2 l = none) → ∀ H3 H4, Ps H3 → Mu L' H3 H4 → Ps H4
  go : ∀ H3, Ps H3 → ∀ i, i < n → J.go i H3 ∧ ∀ x H4, J.yld i H3 x H4 → Ex H3 H4 ∧ Is K H4 x (item i)
  stop : ∀ H3, Ps H3 → J.stop n H3
theorem getD_some {ds : List D} {i : Nat} {d : D} (h : ds[i]? = some d) : ds.getD i .non = d := by rw [List.getD_eq_getElem?_getD, h]; rfl
end WD
end
section
set_option Elab.async false
set_option linter.all false
set_option maxRecDepth 100000
namespace L2
open PySem PySem.Spec PyProof.Rows
section
variable {X : Cx} {n : Nat}
/-- a def of one's own called by the machine (a special method) -/
theorem own_call {CX : CXT} {f : Addr} {fd : FuncData} {ps : List Str} {sp : Sp} {E : XK} {A : Around} (sb : Sub X n A) (F : FnOk X.prog X.w X.K X.mg X.base CX n f fd ps sp) (hb : Binds X.K fd ps []) (hx : Passes CX X E)
    {pins : List (Addr × Obj)} {s : Shared} {σ : St} {H : Hp} {vs : List V} {us : List Value} {Q : VK} (I : Inv X pins σ H s) (rv : Vals vs us) (hsp : sp vs H Q E) :
    wpAny (model X.prog X.w) A (call (.ref f) us) (EP X pins σ Q) X.xe s := by
  have e0 : Env0 X.prog X.w X.K X.mg X.base A X.stack s H := by
    have e := I.env0
    exact ⟨by rw [sb.fr]; exact e.frames, e.mod, e.bs, e.bsz, e.funs, e.frf, e.hok, e.bare⟩
  have hl := F.len _ _ _ _ hsp
  have hlu : us.length = ps.length := by rw [← rv.length]; exact hl
  refine wpAny_call (codeAny_mono (F.run A X.stack s H ⟨us, []⟩ us vs _ E sb.room e0 (by
    have := hb s us I.kIn (by simpa using hlu)
    simpa using this) rv hsp) fun r s' hq => ?_)
  cases r with
  | error e => exact hx pins σ H s e s' I hq
  | ok fl =>
    cases fl with
    | ret w => exact I.after hq
    | next => exact False.elim hq
    | brk => exact False.elim hq
    | cont => exact False.elim hq
/-- len(o), o an instance with a __len__ of the text -/
def rLenO (C : Addr) (sp : Sp) (E : XK) : List V → Hp → VK → Prop := fun xs H Q => ∃ a dx fs, xs = [.ref a] ∧ H a = some (.ins C dx fs) ∧ sp [.ref a] H (fun v H' => ∃ i : Int, v = .int i ∧ (0 ≤ i ∧ i < 2 ^ 63) ∧ Q (.int i) H') E
theorem call_lenO {CX : CXT} {C f : Addr} {fd : FuncData} {ps : List Str} {sp : Sp} {E : XK} (F : FnOk X.prog X.w X.K X.mg X.base CX n f fd ps sp) (hs : PySem.W.findIn X.K (.ref C) "__len__" = some (some (.ref f))) (hf : PySem.W.isFn X.K (.ref f) = true)
    (hb : Binds X.K fd ps []) (hx : Passes CX X E) (hr : Room (n + 1) X.A) : CallR X (.builtin "len") (rLenO C sp E) := by
  intro pins s σ H xs us Q I r h
  obtain ⟨a, dx, fs, rfl, ha, hsp⟩ := h
  obtain ⟨u, rfl, ru⟩ := vals1 r
  cases ru
  obtain ⟨mA, J, _⟩ := ins_get I.hok ha
  obtain ⟨od, J, _⟩ := J.look
  obtain ⟨m, hF⟩ := I.fr
  refine PySem.W.len_K hF I.ok.mod.kin J hs hf ?_
  refine wpAny_mono (own_call (A := X.A.in1) (Sub.in1 ⟨hr, rfl⟩) F hb hx I (.cons (show RelV (.ref a) (.ref a) from rfl) .nil) hsp) (fun v s' z => ?_) fun _ _ x => x
  obtain ⟨w, H', I', rw', i, rfl, hi, q⟩ := z
  obtain ⟨t, rfl⟩ := rw'
  exact ⟨hi, .int i, H', I'.tok _, ⟨_, rfl⟩, q⟩
end
end L2
end
section
set_option Elab.async false
set_option linter.all false
set_option maxRecDepth 100000
namespace PySem.W
open PySem PySem.Calls PyProof.Rows Builtin
section
variable {prog : Program} {w : World} {A : Around} {E : Value → Shared → Prop} {s : Shared} {K : Frag} {x C L f : Addr} {h₀ : Heap} {m : Str → Option Value} {ox : Obj} {od : Option Obj} {name : Str} {b tb : Value}
theorem my_ifBound {M : Model} {id : String} {args : List Value} {Q : Option Value → Shared → Prop} (X : K.In s.heap) (I : InstAt s.heap x ox C od) (hs : findIn K (.ref C) name = some (some (.builtin id))) (hb : ∀ self, bindSpecial (.builtin id) self = pure (.builtin id, [self]))
    (h : wpAny M A (call (.builtin id) (.ref x :: args)) (fun v => Q (some v)) E s) : wpAny M A (callSpecialIfBound? (.ref x) name args) Q E s := by
  simp only [callSpecialIfBound?, bindSpecialIfBound?]
  refine wpAny_holding (wpAny_bind (wpAny_bind (wpAny_bind (I.type.here ((looks_findIn X hs).here ?_)))))
  refine wpAny_bind (wpAny_askSetting (wpAny_ite ?_))
  have fin : wpAny M A (call (.builtin id) ([.ref x] ++ args) >>= fun v => pure (some v)) Q E s := wpAny_bind (wpAny_mono h (fun v s' h' => wpAny_pure h') fun _ _ h' => h')
  split
  · exact wpAny_bind ((Looks.of_pure (hb _)).here (wpAny_pure (by exact fin)))
  · exact wpAny_tryCatch (wpAny_bind ((Looks.of_pure (hb _)).here (wpAny_pure (by exact fin))))
theorem my_ne {Q : Value → Shared → Prop} (hu : A.units + 1 < cLine) (F : Fr h₀ L s.heap m) (X₀ : K.In h₀) (I : InstAt s.heap x ox C od) (hb : Looks (model prog w) s.heap (typeOf b) (.ref C))
    (hn : findIn K (.ref C) "__ne__" = some (some (.builtin "object.__ne__"))) (hm : mroIn K C (.type "object") = some true) (hs : findIn K (.ref C) "__eq__" = some (some (.ref f))) (hf : isFn K (.ref f) = true)
    (h : wpAny (model prog w) A.in1 (call (.ref f) [.ref x, b]) (fun v s' => ∃ k, v = .bool k ∧ Q (.bool (!k)) s') E s) : wpAny (model prog w) A (compareOp .NotEq (.ref x) b) Q E s := by
  have X := X₀.keeps F.keep
  have one : wpAny (model prog w) A (tryCompare (.ref x) "__ne__" b) (fun r s' => ∃ v, r = some v ∧ Q v s') E s := by
    unfold tryCompare
    refine wpAny_bind (my_ifBound X I hn PySem.F.slot_tuple_iterator_ne.bind (wpAny_call (codeAny_call_builtin PySem.F.slot_tuple_iterator_ne.plain PySem.F.cmpEntry_ne (check_slot (i := "object.__ne__") (owner := "object") (n := "__ne__") PySem.F.cmpKind_ne PySem.F.cmpSplit_ne (I.type.andThen (looks_mroIn X hm)) (PySem.F.cmpArgs_ne _ _) ?_))))
    unfold Builtin.«object.__ne__»
    refine wpAny_bind (m := slotArgs "__ne__" 1 _) (wpAny_pure ?_)
    refine wpAny_bind (m := cRoomFor _ _) (wpAny_cRoomFor (A := A.in1) hu ?_)
    refine wpAny_bind (m := callSpecialIfBound? (.ref x) (Str.ofString "__eq__") _) (ifBound_K X I hs hf (wpAny_mono h (fun r s' hq => ?_) fun _ _ y => y))
    obtain ⟨k, rfl, q⟩ := hq
    refine wpAny_bind (wpAny_truthy_bool (wpAny_pure ?_))
    exact wpAny_pure ⟨_, rfl, q⟩
  show wpAny (model prog w) A (richCompare .NotEq (.ref x) b) Q E s
  unfold richCompare
  simp only [oneThing_ref]
  refine wpAny_holding (wpAny_bind (wpAny_cRoomFor (by omega) ?_))
  refine wpAny_bind (I.type.here (wpAny_bind (hb.here ?_)))
  rw [show (Value.ref C != Value.ref C) = false from by simp]
  simp only [Bool.false_eq_true, if_false]
  refine wpAny_bind (wpAny_pure ?_)
  simp only [Bool.false_eq_true, if_false]
  refine wpAny_bind (wpAny_mono one (fun r s' z => ?_) fun _ _ e => e)
  obtain ⟨v, rfl, hq⟩ := z
  exact wpAny_pure hq
end
end PySem.W
namespace L2
open PySem PySem.Spec PyProof.Rows
section
variable {X : Cx} {n : Nat}
/-- x != y by an __eq__ of the text -/
def rNeO (K : PySem.W.Frag) (C : Addr) (sp : Sp) (E : XK) : R2 := fun x y H Q => ∃ a b dx dy fs gs, x = .ref a ∧ y = .ref b ∧ H a = some (.ins C dx fs) ∧ H b = some (.ins C dy gs) ∧ sp [.ref a, .ref b] H (fun v H' => ∃ k : Bool, v = .bl k ∧ Q (.bl (!k)) H') E
theorem op_neO {CX : CXT} {C f : Addr} {fd : FuncData} {ps : List Str} {sp : Sp} {E : XK} (F : FnOk X.prog X.w X.K X.mg X.base CX n f fd ps sp) (hs : PySem.W.findIn X.K (.ref C) "__eq__" = some (some (.ref f))) (hf : PySem.W.isFn X.K (.ref f) = true)
    (hn : PySem.W.findIn X.K (.ref C) "__ne__" = some (some (.builtin "object.__ne__"))) (hm : PySem.W.mroIn X.K C (.type "object") = some true)
    (hb : Binds X.K fd ps []) (hx : Passes CX X E) (hr : Room (n + 1) X.A) : OpR X (compareOp .NotEq) (rNeO X.K C sp E) := by
  intro pins s σ H x y v u Q I rx ry h
  obtain ⟨a, b, dx, dy, fs, gs, rfl, rfl, ha, hb', hsp⟩ := h
  cases rx
  cases ry
  obtain ⟨mA, J, _⟩ := ins_get I.hok ha
  obtain ⟨mB, J', _⟩ := ins_get I.hok hb'
  obtain ⟨od, J, _⟩ := J.look
  obtain ⟨od', J', _⟩ := J'.look
  obtain ⟨m, hF⟩ := I.fr
  have hu : X.A.units + 1 < cLine := by
    have := hr.units
    omega
  refine PySem.W.my_ne hu hF I.ok.mod.kin J J'.type hn hm hs hf ?_
  refine wpAny_mono (own_call (A := X.A.in1) (Sub.in1 ⟨hr, rfl⟩) F hb hx I (.cons (show RelV (.ref a) (.ref a) from rfl) (.cons (show RelV (.ref b) (.ref b) from rfl) .nil)) hsp) (fun v s' z => ?_) fun _ _ x => x
  obtain ⟨w, H', I', rw', k, rfl, q⟩ := z
  cases rw'
  exact ⟨k, rfl, .bl (!k), H', I', rfl, q⟩
end
end L2
end
section
set_option Elab.async false
set_option linter.all false
set_option maxRecDepth 100000
namespace WD
open PySem PySem.Spec PyProof.Rows L2 Evl
structure FnG (P : Program) (w : World) (K : PySem.W.Frag) (mg : Str → Option Value) (base : Heap) (k : Nat) (f : Addr) (ps : List Str) (sp : Sp) : Prop where
  ex : ∃ fd, FnOk P w K mg base (L2.CX P w) k f fd ps sp ∧ Binds K fd ps []
  kp : PySem.W.keepIn K (.ref f) = true
section
variable {X : Cx} {k : Nat} {f : Addr} {ps : List Str} {sp : Sp} {x : Str} {p pos apos : Pos} {e o : Expr} {es : List Expr} {t : TA} {ta : TE} {C : Addr} {m : Str}
theorem pe_globI {i : Int} (hg : Gl X x) (hm : ∃ t, X.mg x = some (.int i t)) (hd : (x == ("__debug__" : Str)) = false := by decide) : PE X (.Name x pos) (tC (.int i)) := by
  obtain ⟨t, hm⟩ := hm
  exact pe_glob hg hm ⟨_, rfl⟩ hd
theorem pe_tyN {n : String} (hg : Gl X x) (hm : X.mg x = none) (hv : bootBuiltins x = some (.type n)) (hn : x ≠ "__name__" := by decide) (hd : (x == ("__debug__" : Str)) = false := by decide) : PE X (.Name x pos) (tC (.ty n)) := pe_bltn hg hm hv rfl hn hd
theorem pe_clsN (hg : Gl X x) (hm : X.mg x = some (.ref C)) (hd : (x == ("__debug__" : Str)) = false := by decide) : PE X (.Name x pos) (tC (.ref C)) := pe_glob hg hm rfl hd
end
def D.ty : D → Option String
  | .non => some "NoneType" | .bl _ => some "bool" | .int _ => some "int" | .str _ => some "str" | .tup _ => some "tuple" | .lst _ => some "list" | .obj _ _ => none
variable {K : PySem.W.Frag} {σ : L2.St} {H H' : Hp} {ta tb te tx : TE} {t u : TT} {d d1 d2 : D} {ds es : List D}
theorem sqT_ty {a : Addr} {xs : List V} (h : SqT K H a xs) : TyX K H (.ref a) (.type "tuple") := by
  rcases h with (h | ⟨o, h⟩) | h
  · exact .base (.tup h)
  · exact .fTuple h
  · obtain ⟨o, its, n, h1, h2, h3, _⟩ := h
    exact .kTuple h1 h2
theorem rdL_ty {a : Addr} {xs : List V} (h : Rd H a (.lst xs)) : TyX K H (.ref a) (.type "list") := by
  rcases h with h | ⟨o, h⟩
  · exact .base (.lst h)
  · exact .base (.frz h)
end WD
end
section
set_option Elab.async false
set_option linter.all false
set_option maxRecDepth 100000
namespace WD
def fr (q : Rat) : D := .tup [.int q.num, .int (q.den : Int)]
/-- short enough for products and divisors -/
structure Sm (n : Nat) (q : Rat) : Prop where
  num : q.num.natAbs < 2 ^ n
  den : q.den < 2 ^ n
theorem Sm.mono {n m : Nat} {q : Rat} (h : Sm n q) (hn : n ≤ m) : Sm m q := ⟨Nat.lt_of_lt_of_le h.num (Nat.pow_le_pow_right (by decide) hn), Nat.lt_of_lt_of_le h.den (Nat.pow_le_pow_right (by decide) hn)⟩
end WD
end
section
set_option Elab.async false
set_option linter.all false
set_option maxRecDepth 100000
namespace WD
open PySem PySem.Spec PyProof.Rows L2 Evl
variable {K : PySem.W.Frag} {σ : L2.St} {H H' : Hp} {ta tb te tx : TE} {t u : TT} {d d1 d2 : D} {ds es : List D}
theorem Is.ty {v : V} {s : String} (h : Is K H v d) (e : d.ty = some s) : TyX K H v (.type s) := by
  cases h with
  | non => cases e; exact .base .non
  | bl b => cases e; exact .base (.bl b)
  | int i => cases e; exact .base (.int i)
  | str x => cases e; exact .base (.str x)
  | tup h a => cases e; exact sqT_ty h
  | lst h a => cases e; exact rdL_ty h
  | obj h a => cases e
/-- of an instance of the text's class C, by the class itself | a built-in class -/
structure OwnTy (K : PySem.W.Frag) (c : Str) : Prop where
  cl : Cls K (He.ga K c)
  ha : PySem.W.findIn K (.ref (He.ga K c)) "__class__" = some (some (.builtin "object.__class__"))
  hn : PySem.W.specialIn K (.builtin "object.__class__") "__get__" = some (some (.builtin "getset_descriptor.__get__"))
  ht : PySem.W.takesIn K (.builtin "object.__class__") = some true
  hm : PySem.W.mroIn K (He.ga K c) (.type "object") = some true
end WD
namespace WD
open PySem PySem.Spec PyProof.Rows L2 Evl
section
variable {X : Cx}
theorem call_lenS : CallR X (.builtin "len") (rLenS X.K) := call_len_seq
theorem call_listS : CallR X (.type "list") (rListS X.K) := call_list_of
theorem call_tupS : CallR X (.type "tuple") (rTupS X.K) := call_tuple_of
theorem call_absS : CallR X (.builtin "abs") rAbs := call_abs
theorem call_intS : CallR X (.type "int") rInt1 := call_int1
theorem call_maxS (hc : X.calm = true) : CallR X (.builtin "max") rMax2 := call_max2 hc
theorem call_minS (hc : X.calm = true) : CallR X (.builtin "min") rMin2 := call_min2 hc
end
end WD
end
section
set_option Elab.async false
set_option linter.all false
set_option maxRecDepth 100000
set_option maxHeartbeats 4000000
namespace L2
open PySem PySem.Spec PyProof.Rows
section
variable {P : Program} {w : World} {A : Around} {E : Value → Shared → Prop} {s : Shared}
/-- the new set's object -/
abbrev newS (w : World) : Obj := { cls := .type "set", dict := none, data := .set #[] 0 (.fresh 0 0 (!w.params.followText "set-order")) }
end
end L2
end
section
set_option Elab.async false
set_option linter.all false
set_option maxRecDepth 100000
set_option maxHeartbeats 4000000
namespace L2
open PySem PySem.Spec PyProof.Rows
end L2
end
section
set_option Elab.async false
set_option linter.all false
set_option maxRecDepth 100000
namespace WD
open PySem PySem.Spec PyProof.Rows L2 Evl
end WD
end
section
set_option Elab.async false
set_option linter.all false
set_option maxRecDepth 100000
namespace WD
open PySem PySem.Spec PyProof.Rows L2 Evl
variable {K : PySem.W.Frag} {σ : L2.St} {H H' : Hp} {ta tb te tx tc : TE} {t u : TT} {d d1 d2 d3 : D} {ds es : List D}
/-- but for the object at x, all stays -/
def Xe (x : Addr) (H H' : Hp) : Prop := ∀ a o, a ≠ x → H a = some o → H' a = some o
theorem Xe.refl (x : Addr) (H : Hp) : Xe x H H := fun _ _ _ h => h
theorem Xe.trans {x : Addr} {H1 H2 : Hp} (a : Xe x H H1) (b : Xe x H1 H2) : Xe x H H2 := fun c o n h => b c o n (a c o n h)
theorem Xe.ex {x : Addr} (e : Ex H H') : Xe x H H' := fun a o _ h => e a o h
theorem Xe.upd {x : Addr} {o : HO} : Xe x H (L2.upd H x o) := fun a u n h => by
  rw [upd_ne n]
  exact h
def frs (qs : List Rat) : List D := qs.map fr
end WD
end
section
set_option Elab.async false
set_option linter.all false
set_option maxRecDepth 100000
namespace WD
open PySem PySem.Spec PyProof.Rows L2 Evl
def tupA (K : PySem.W.Frag) (a : Addr) (vs : List V) : Bool := match K.lookup a with
  | some ⟨.type c, _, .seq its _, _⟩ => decide (c = "tuple") && (decide (its.size ≤ sizeLine) && He.relAll vs its.toList)
  | _ => false
theorem tupA_ok {K : PySem.W.Frag} {a : Addr} {vs : List V} (h : tupA K a vs = true) (H : Hp) : SqT K H a vs := by
  unfold tupA at h
  split at h
  · rename_i c _ its n _ q
    obtain ⟨h1, h2⟩ := Bool.and_eq_true_iff.mp h
    obtain ⟨h3, h4⟩ := Bool.and_eq_true_iff.mp h2
    exact .inr ⟨_, its, n, q, congrArg Value.type (of_decide_eq_true h1), rfl, of_decide_eq_true h3, He.relAll_ok h4⟩
  · cases h
end WD
end
section
set_option Elab.async false
set_option linter.all false
set_option maxRecDepth 100000
namespace WD
open PySem PySem.Spec PyProof.Rows L2 Evl
section
variable {X : Cx} {k : Nat} {f C : Addr} {ps : List Str} {sp : Sp}
theorem lenO_of (F : FnG X.prog X.w X.K X.mg X.base k f ps sp) (hm : Meth X.K C "__len__" f) (hr : Room (k + 1) X.A) : CallR X (.builtin "len") (rLenO C sp E0) := by
  obtain ⟨⟨fd, F, B⟩, kp⟩ := F
  exact call_lenO F hm.at_ hm.fn B passL hr
theorem neO_of (F : FnG X.prog X.w X.K X.mg X.base k f ps sp) (hm : Meth X.K C "__eq__" f) (hn : PySem.W.findIn X.K (.ref C) "__ne__" = some (some (.builtin "object.__ne__"))) (ho : PySem.W.mroIn X.K C (.type "object") = some true) (hr : Room (k + 1) X.A) : OpR X (compareOp .NotEq) (rNeO X.K C sp E0) := by
  obtain ⟨⟨fd, F, B⟩, kp⟩ := F
  exact op_neO F hm.at_ hm.fn hn ho B passL hr
end
variable {K : PySem.W.Frag} {σ : L2.St} {H H' : Hp} {ta tb te tx tc : TE} {t u : TT} {d d1 d2 d3 : D} {ds es : List D}
end WD
end
section
set_option Elab.async false
set_option linter.all false
set_option maxRecDepth 100000
namespace WD
open PySem PySem.Spec PyProof.Rows L2 Evl
variable {K : PySem.W.Frag} {σ : L2.St} {H H' H0 H1 : Hp} {ta tb te tx tc : TE} {d d1 d2 d3 : D} {ds es : List D}
/-- what stands in the first ones -/
def S (v : List Rat) (j : Nat) : Rat := (v.take j).foldl (· + ·) 0
theorem S_succ (v : List Rat) (j : Nat) (h : j < v.length) : S v (j + 1) = S v j + v[j] := by
  unfold S
  rw [List.take_succ_eq_append_getElem h, List.foldl_append]
  rfl
end WD
end
section
set_option Elab.async false
set_option linter.all false
set_option maxRecDepth 100000
namespace WD
open PySem PySem.Spec PyProof.Rows L2 Evl
end WD
end
section
set_option Elab.async false
set_option linter.all false
set_option maxRecDepth 100000
namespace WD
theorem smMk {k : Nat} {n : Int} {b : Nat} (h0 : b ≠ 0) (hn : n.natAbs < 2 ^ k) (hb : b < 2 ^ k) : Sm k (mkRat n b) := by
  rw [Rat.mkRat_def, dif_neg h0]
  refine ⟨?_, ?_⟩
  · rw [Rat.num_normalize]
    rw [Int.natAbs_ediv_of_dvd (Int.ofNat_dvd_left.mpr (Nat.gcd_dvd_left _ _))]
    exact Nat.lt_of_le_of_lt (Nat.div_le_self _ _) hn
  · rw [Rat.den_normalize]
    exact Nat.lt_of_le_of_lt (Nat.div_le_self _ _) hb
theorem Sm.add {n m : Nat} {p q : Rat} (a : Sm n p) (b : Sm m q) : Sm (n + m + 1) (p + q) := by
  rw [Rat.add_def']
  refine smMk (Nat.mul_ne_zero p.den_nz q.den_nz) ?_ ?_
  · refine Nat.lt_of_le_of_lt (Int.natAbs_add_le _ _) ?_
    rw [Int.natAbs_mul, Int.natAbs_mul, Int.natAbs_natCast, Int.natAbs_natCast, Nat.pow_succ, Nat.pow_add, Nat.mul_two]
    have h1 := Nat.mul_lt_mul_of_lt_of_le a.num (Nat.le_of_lt b.den) (Nat.two_pow_pos m)
    have h2 := Nat.mul_lt_mul_of_lt_of_le b.num (Nat.le_of_lt a.den) (Nat.two_pow_pos n)
    rw [Nat.mul_comm (2 ^ m) (2 ^ n)] at h2
    omega
  · have h := Nat.mul_lt_mul_of_lt_of_le a.den (Nat.le_of_lt b.den) (Nat.two_pow_pos m)
    rw [Nat.pow_succ, Nat.pow_add]
    omega
theorem Sm.mul {n m : Nat} {p q : Rat} (a : Sm n p) (b : Sm m q) : Sm (n + m) (p * q) := by
  rw [Rat.mul_def']
  refine smMk (Nat.mul_ne_zero p.den_nz q.den_nz) ?_ ?_
  · rw [Int.natAbs_mul, Nat.pow_add]
    exact Nat.mul_lt_mul_of_lt_of_le a.num (Nat.le_of_lt b.num) (Nat.two_pow_pos m)
  · rw [Nat.pow_add]
    exact Nat.mul_lt_mul_of_lt_of_le a.den (Nat.le_of_lt b.den) (Nat.two_pow_pos m)
theorem Sm.neg {n : Nat} {p : Rat} (a : Sm n p) : Sm n (-p) := ⟨by
  rw [Rat.neg_num, Int.natAbs_neg]
  exact a.num, by
  rw [Rat.neg_den]
  exact a.den⟩
theorem Sm.int {n : Nat} {i : Int} (h : i.natAbs < 2 ^ n) (hn : 1 ≤ n) : Sm n (i : Rat) := ⟨h, Nat.one_lt_two_pow (by omega)⟩
end WD
end
section
set_option Elab.async false
set_option linter.all false
set_option maxRecDepth 100000
namespace WD
open PySem PySem.Spec PyProof.Rows L2 Evl
section
variable {K : PySem.W.Frag} {σ : L2.St} {H H' : Hp} {ta tb te tx tc : TE} {t u : TT} {d d1 d2 d3 : D} {ds es : List D}
theorem Mu.un {L : List Addr} {p : Addr} {H H2 H' : Hp} (hp : H p = none) (e : Ex H H2) (mu : Mu (p :: L) H2 H') : Mu L H H' := ⟨fun a o n h => mu.1 a o (fun z => by
  rcases List.mem_cons.mp z with z | z
  · subst z
    rw [hp] at h
    cases h
  · exact n z) (e a o h), (Gt.of e).trans mu.2⟩
theorem Mu.keep {L : List Addr} {H H' : Hp} {a : Addr} {o : HO} (m : Mu L H H') (n : a ∉ L) (h : H a = some o) : H' a = some o := m.1 a o n h
end
end WD
end
section
set_option Elab.async false
set_option linter.all false
set_option maxRecDepth 100000
namespace WD
open PySem PySem.Spec PyProof.Rows L2 Evl
section
variable {X : Cx} {K : PySem.W.Frag} {σ : L2.St} {H : Hp} {ta tb : TE}
def rLcm : List V → Hp → VK → Prop := fun vs H Q => ∃ a b : Nat, vs = [.int (a : Int), .int (b : Int)] ∧ a < 2 ^ 6000 ∧ b < 2 ^ 6000 ∧ Q (.int ((Nat.lcm a b : Nat) : Int)) H
theorem cr_lcm : CallR X (.builtin "math.lcm") rLcm := by
  intro pins s σ H vs us Q I r h
  obtain ⟨a, b, rfl, ha, hb, q⟩ := h
  obtain ⟨t, u, rfl⟩ := Vals.int2 r
  have e : (((Nat.lcm 1 ((a : Int)).natAbs).lcm ((b : Int)).natAbs : Nat) : Int) = ((Nat.lcm a b : Nat) : Int) := by
    rw [Int.natAbs_natCast, Int.natAbs_natCast, show Nat.lcm 1 a = a from by simp [Nat.lcm]]
  have l1 : (max 1 ((a : Int)).natAbs).log2 ≤ 6000 := PySem.W.mg_log (Nat.lt_of_lt_of_le (by
    rw [Int.natAbs_natCast]
    show max 1 a < 2 ^ 6000
    exact Nat.max_lt.mpr ⟨Nat.one_lt_two_pow (by decide), ha⟩) (Nat.pow_le_pow_right (by decide) (by decide)))
  have l2 : (max ((a : Int)).natAbs ((b : Int)).natAbs).log2 ≤ 6000 := PySem.W.mg_log (Nat.lt_of_lt_of_le (by
    rw [Int.natAbs_natCast, Int.natAbs_natCast]
    show max a b < 2 ^ 6000
    exact Nat.max_lt.mpr ⟨ha, hb⟩) (Nat.pow_le_pow_right (by decide) (by decide)))
  have hs : ((((Nat.lcm 1 ((a : Int)).natAbs).lcm ((b : Int)).natAbs : Nat) : Int)).natAbs.log2 < bitsLine := by
    rw [e, Int.natAbs_natCast]
    refine Nat.lt_of_le_of_lt (PySem.W.mg_log (k := 12000) ?_) (by decide)
    refine Nat.lt_of_lt_of_le (?_ : _ < 2 ^ 12000) (Nat.pow_le_pow_right (by decide) (by decide))
    have h1 : Nat.lcm a b ≤ a * b := by
      unfold Nat.lcm
      exact Nat.div_le_self _ _
    refine Nat.lt_of_le_of_lt h1 ?_
    rw [show (12000 : Nat) = 6000 + 6000 from rfl, Nat.pow_add]
    exact Nat.mul_lt_mul_of_lt_of_le ha (Nat.le_of_lt hb) (Nat.two_pow_pos _)
  refine call_function_meets PySem.W.MGF.kind_lcm PySem.W.MGF.plain_lcm PySem.W.MGF.entry_lcm (PySem.W.MGF.args_lcm _ _) (PySem.W.mg_run_lcm (a : Int) t (b : Int) u (by omega) (by omega) hs).meets ?_
  exact ⟨.int _, H, I.tok _, ⟨_, congrArg (fun z => Value.int z _) e⟩, q⟩
end
end WD
end
section
set_option Elab.async false
set_option linter.all false
set_option maxRecDepth 100000
namespace WD
open PySem PySem.Spec PyProof.Rows L2 Evl
theorem mkRat_den_dvd (n : Int) {d : Nat} (hd : d ≠ 0) : (mkRat n d).den ∣ d := by
  rw [Rat.mkRat_def, dif_neg hd, Rat.den_normalize]
  exact Nat.div_dvd_of_dvd (Nat.gcd_dvd_right _ _)
theorem num_of (q : Rat) : q * ((q.den : Int) : Rat) = (q.num : Rat) := by
  have h := Rat.mkRat_self q
  rw [Rat.mkRat_eq_div] at h
  have h1 : ((q.den : Nat) : Rat) = ((q.den : Int) : Rat) := rfl
  have h2 : ((q.den : Int) : Rat) ≠ 0 := by
    have := q.den_pos
    exact_mod_cast (by omega : (q.den : Int) ≠ 0)
  rw [h1] at h
  grind
theorem over_of_dvd {q : Rat} {M : Nat} (h : q.den ∣ M) : q * ((M : Int) : Rat) = ((q.num * ((M / q.den : Nat) : Int) : Int) : Rat) := by
  obtain ⟨c, rfl⟩ := h
  rw [Nat.mul_div_cancel_left _ q.den_pos, Rat.intCast_mul, Int.natCast_mul, Rat.intCast_mul, ← Rat.mul_assoc]
  rw [num_of]
theorem dvd_of_over {q : Rat} {M : Nat} {n : Int} (h0 : M ≠ 0) (h : q * ((M : Int) : Rat) = (n : Rat)) : q.den ∣ M := by
  have hm : ((M : Int) : Rat) ≠ 0 := by exact_mod_cast (show (M : Int) ≠ 0 by omega)
  have e : q = mkRat n M := by
    rw [Rat.mkRat_eq_div]
    have : ((M : Nat) : Rat) = ((M : Int) : Rat) := rfl
    grind
  rw [e]
  exact mkRat_den_dvd n h0
theorem den_add {p q : Rat} {M : Nat} (h0 : M ≠ 0) (hp : p.den ∣ M) (hq : q.den ∣ M) : (p + q).den ∣ M := by
  refine dvd_of_over (n := p.num * ((M / p.den : Nat) : Int) + q.num * ((M / q.den : Nat) : Int)) h0 ?_
  rw [Rat.add_mul, over_of_dvd hp, over_of_dvd hq, Rat.intCast_add]
theorem S_den {v : List Rat} {M : Nat} (h0 : M ≠ 0) (h : ∀ q ∈ v, q.den ∣ M) : ∀ j, j ≤ v.length → (S v j).den ∣ M
  | 0, _ => ⟨M, (Nat.one_mul M).symm⟩
  | j + 1, hj => by
    rw [S_succ v j hj]
    exact den_add h0 (S_den h0 h j (by omega)) (h _ (List.getElem_mem _))
theorem S_step {v : List Rat} (h : ∀ q ∈ v, 0 ≤ q) {j : Nat} (hj : j < v.length) : S v j ≤ S v (j + 1) := by
  rw [S_succ v j hj]
  have := h _ (List.getElem_mem hj)
  grind
theorem S_mono {v : List Rat} (h : ∀ q ∈ v, 0 ≤ q) {i : Nat} : ∀ {j : Nat}, i ≤ j → j ≤ v.length → S v i ≤ S v j
  | 0, h1, _ => by
    have : i = 0 := by omega
    subst this
    exact Rat.le_refl
  | j + 1, h1, h2 => by
    by_cases e : i = j + 1
    · subst e
      exact Rat.le_refl
    · exact Rat.le_trans (S_mono h (show i ≤ j by omega) (by omega)) (S_step h h2)
theorem S_nn {v : List Rat} (h : ∀ q ∈ v, 0 ≤ q) {j : Nat} (hj : j ≤ v.length) : 0 ≤ S v j := S_mono h (Nat.zero_le j) hj
/-- a row of sizes that are told -/
structure RowOk (A : List Int) (v : List Rat) (M W : Nat) : Prop where
  len : v.length = A.length
  a1 : 1 ≤ A.length
  al : A.length ≤ 24
  ar : ∀ a ∈ A, 1 ≤ a ∧ a ≤ 1000
  m0 : 0 < M
  m1 : M < 2 ^ 400
  w1 : W < 2 ^ 400
  nn : ∀ q ∈ v, 0 ≤ q
  dn : ∀ q ∈ v, q.den ∣ M
  tot : S v v.length ≤ ((W : Int) : Rat)
theorem sm_of {q : Rat} {M W : Nat} (m0 : 0 < M) (m1 : M < 2 ^ 400) (w1 : W < 2 ^ 400) (h0 : 0 ≤ q) (h1 : q ≤ ((W : Int) : Rat)) (hd : q.den ∣ M) : Sm 800 q := by
  have dl := Nat.le_of_dvd m0 hd
  refine ⟨?_, Nat.lt_of_le_of_lt dl (Nat.lt_of_lt_of_le m1 (Nat.pow_le_pow_right (by decide) (by decide)))⟩
  have hden : (0 : Rat) ≤ ((q.den : Int) : Rat) := by exact_mod_cast Int.natCast_nonneg q.den
  have e : ((q.num : Int) : Rat) = q * ((q.den : Int) : Rat) := (num_of q).symm
  have n0 : (0 : Rat) ≤ ((q.num : Int) : Rat) := by
    rw [e]
    exact Rat.mul_nonneg h0 hden
  have n1 : ((q.num : Int) : Rat) ≤ (((W : Int) * (q.den : Int) : Int) : Rat) := by
    rw [e, Rat.intCast_mul]
    exact Rat.mul_le_mul_of_nonneg_right h1 hden
  have z0 : 0 ≤ q.num := by exact_mod_cast n0
  have z1 : q.num ≤ (W : Int) * (q.den : Int) := by exact_mod_cast n1
  have z2 : q.num.natAbs ≤ W * q.den := by
    rw [← Int.natCast_mul] at z1
    omega
  have z3 : W * q.den ≤ W * M := Nat.mul_le_mul_left _ dl
  have z4 : W * M < 2 ^ 400 * 2 ^ 400 := Nat.mul_lt_mul_of_lt_of_le w1 (Nat.le_of_lt m1) (Nat.two_pow_pos _)
  rw [← Nat.pow_add] at z4
  omega
theorem RowOk.sumOk {A : List Int} {v : List Rat} {M W : Nat} (h : RowOk A v M W) {j : Nat} (hj : j ≤ v.length) : 0 ≤ S v j ∧ S v j ≤ ((W : Int) : Rat) ∧ (S v j).den ∣ M ∧ Sm 800 (S v j) := by
  have a := S_nn h.nn hj
  have b := Rat.le_trans (S_mono h.nn hj (Nat.le_refl _)) h.tot
  have c := S_den (by have := h.m0; omega) h.dn j hj
  exact ⟨a, b, c, sm_of h.m0 h.m1 h.w1 a b c⟩
theorem RowOk.le {A : List Int} {v : List Rat} {M W : Nat} (h : RowOk A v M W) {q : Rat} (hq : q ∈ v) : q ≤ ((W : Int) : Rat) := by
  obtain ⟨j, hj, rfl⟩ := List.getElem_of_mem hq
  have a := (h.sumOk (show j ≤ v.length by omega)).1
  have b := (h.sumOk (show j + 1 ≤ v.length by omega)).2.1
  rw [S_succ v j hj] at b
  grind
end WD
end
section
set_option Elab.async false
set_option linter.all false
set_option maxRecDepth 100000
namespace WD
open PySem PySem.Spec PyProof.Rows L2 Evl
end WD
end
section
set_option Elab.async false
set_option linter.all false
set_option maxRecDepth 100000
namespace WD
open PySem PySem.Spec PyProof.Rows L2 Evl
end WD
end
section
set_option Elab.async false
set_option linter.all false
set_option maxRecDepth 100000
namespace WD
open PySem PySem.Spec PyProof.Rows L2 Evl RZ
end WD
end
section
set_option Elab.async false
set_option linter.all false
set_option maxRecDepth 100000
namespace PySem
open Sem (wp)
end PySem
end
section
set_option Elab.async false
set_option linter.all false
set_option maxRecDepth 100000
set_option maxHeartbeats 2000000
namespace ZL
open PySem PySem.Spec PyProof.Rows L2
/-- tuples of two at their addresses -/
def putZ : Hp → List Addr → List V → List V → Hp
  | H, a :: as, x :: xs, y :: ys => putZ (upd H a (.tup [x, y])) as xs ys
  | H, _, _, _ => H
theorem putZ_off {b : Addr} : ∀ (as : List Addr) (xs ys : List V) (H : Hp), b ∉ as → putZ H as xs ys b = H b
  | [], _, _, _, _ => rfl
  | _ :: _, [], _, _, _ => rfl
  | _ :: _, _ :: _, [], _, _ => rfl
  | a :: as, x :: xs, y :: ys, H, h => by
    have h1 := putZ_off as xs ys (upd H a (.tup [x, y])) fun z => h (List.mem_cons_of_mem _ z)
    have h2 : b ≠ a := fun z => h (by rw [z]; exact List.mem_cons_self ..)
    exact h1.trans (upd_ne h2)
theorem putZ_at : ∀ (as : List Addr) (xs ys : List V) (H : Hp), as.length = xs.length → as.length = ys.length → as.Nodup → ∀ (j : Nat) (t : Addr) (x y : V), as[j]? = some t → xs[j]? = some x → ys[j]? = some y → putZ H as xs ys t = some (.tup [x, y])
  | [], _, _, _, _, _, _, j, t, x, y, h, _, _ => by simp at h
  | _ :: _, [], _, _, h, _, _, _, _, _, _, _, _, _ => by cases h
  | _ :: _, _ :: _, [], _, _, h, _, _, _, _, _, _, _, _ => by cases h
  | a :: as, x :: xs, y :: ys, H, h1, h2, nd, j, t, u, v, e1, e2, e3 => by
    have n := List.nodup_cons.mp nd
    cases j with
    | zero =>
      cases e1
      cases e2
      cases e3
      show putZ (upd H a (.tup [x, y])) as xs ys a = _
      rw [putZ_off as xs ys _ n.1]
      exact upd_same
    | succ j => exact putZ_at as xs ys _ (Nat.succ.inj h1) (Nat.succ.inj h2) n.2 j t u v e1 e2 e3
theorem vals_at : ∀ {xs : List V} {us : List Value}, Vals xs us → ∀ {j : Nat} {u : Value}, us[j]? = some u → ∃ x, xs[j]? = some x ∧ RelV x u
  | _, _, .nil, j, u, h => by simp at h
  | _, _, .cons r t, 0, u, h => by
    cases h
    exact ⟨_, rfl, r⟩
  | _, _, .cons r t, j + 1, u, h => vals_at t h
section
variable {X : Cx} {e e2 : Expr} {ta : TA} {p p2 pos pos2 : Pos}
theorem laid {pins : List (Addr × Obj)} {σ : L2.St} {H : Hp} {s : Shared} {h' : Heap} {tk : Nat} {xs ys : List V} {us vs : List Value} {acc : Array Value} {c : Nat} {as : List Addr} {S : Addr} (I : Inv X pins σ H s) (hz : xs.length ≤ sizeLine) (r1 : Vals xs us) (r2 : Vals ys vs) (hxy : xs.length = ys.length)
    (hk : ∀ b o, s.heap.get? b = some o → h'.get? b = some o) (hSl : s.heap.objs.size ≤ S) (hS : h'.get? S = some { cls := .type "list", dict := none, data := .seq acc c, slots := #[] }) (hl : as.length = xs.length) (hacc : acc.toList = as.map Value.ref) (abv : ∀ a ∈ as, S < a) (up : as.Pairwise (· < ·))
    (hp : ∀ (j : Nat) (a : Addr), as[j]? = some a → ∃ x y, us[j]? = some x ∧ vs[j]? = some y ∧ IsPair h' a x y) :
    ∃ H' : Hp, (∀ b o, H b = some o → H' b = some o) ∧ H S = none ∧ (∀ t ∈ as, H t = none) ∧ S ∉ as ∧ H' S = some (.lst (as.map V.ref)) ∧ (∀ (j : Nat) (t : Addr) (x y : V), as[j]? = some t → xs[j]? = some x → ys[j]? = some y → H' t = some (.tup [x, y])) ∧ Inv X pins σ H' { s with heap := h', toks := tk } := by
  have sn : S ∉ as := fun z => Nat.lt_irrefl _ (abv _ z)
  have nd : as.Nodup := List.Pairwise.imp (fun {a b} (h : a < b) => Nat.ne_of_lt h) up
  have new : ∀ t ∈ as, H t = none := fun t ht => I.hok.fresh (Nat.le_of_lt (Nat.lt_of_le_of_lt hSl (abv t ht)))
  have newS : H S = none := I.hok.fresh hSl
  generalize hH0 : upd H S (.lst (as.map V.ref)) = H0
  have a1 : H0 S = some (.lst (as.map V.ref)) := by rw [← hH0]; exact upd_same
  have a2 : ∀ b, b ≠ S → H0 b = H b := fun b n => by rw [← hH0]; exact upd_ne n
  have off : ∀ b, b ∉ as → b ≠ S → putZ H0 as xs ys b = H b := fun b n1 n2 => (putZ_off as xs ys H0 n1).trans (a2 b n2)
  have low : ∀ b o, s.heap.get? b = some o → b ∉ as ∧ b ≠ S := fun b o e => ⟨fun z => absurd (Heap.lt_size e) (Nat.not_lt.mpr (Nat.le_of_lt (Nat.lt_of_le_of_lt hSl (abv b z)))), fun z => absurd (Heap.lt_size e) (Nat.not_lt.mpr (by rw [z]; exact hSl))⟩
  have kp : ∀ b u, H b = some u → putZ H0 as xs ys b = some u := fun b u e => by
    rw [off b (fun z => by rw [new b z] at e; cases e) (fun z => by rw [z, newS] at e; cases e)]
    exact e
  have eS : putZ H0 as xs ys S = some (.lst (as.map V.ref)) := (putZ_off as xs ys H0 sn).trans a1
  have at' := putZ_at as xs ys H0 hl (hl.trans hxy) nd
  refine ⟨putZ H0 as xs ys, kp, newS, new, sn, eS, at', ?_⟩
  refine I.call' (ch := []) rfl ⟨fun b o q _ _ _ => hk b o q, fun b o q _ _ _ => ⟨o.slots, hk b o q⟩, fun b o q n _ => ?_, fun b o q _ => ⟨o, hk b o q⟩, fun b xs q => kp b _ q, fun b o u q => kp b _ q, fun b ps q => ⟨#[], by rw [kp b _ q]; simp⟩⟩ (fun b u q => ?_) I.bare fun b z => by simp at z
  · obtain ⟨z1, z2⟩ := low b o q
    exact (off b z1 z2).trans n
  · by_cases hb : b ∈ as
    · obtain ⟨j, hj⟩ := List.getElem?_of_mem hb
      obtain ⟨x, y, f1, f2, f3⟩ := hp j b hj
      obtain ⟨x', g1, g2⟩ := vals_at r1 f1
      obtain ⟨y', g3, g4⟩ := vals_at r2 f2
      rw [at' j b x' y' hj g1 g3] at q
      cases q
      exact ⟨by show 2 ≤ sizeLine; decide, [x, y], .cons g2 (.cons g4 .nil), ⟨_, f3, rfl, _, rfl⟩⟩
    · by_cases hb2 : b = S
      · rw [hb2] at q ⊢
        rw [eS] at q
        cases q
        refine ⟨by rw [List.length_map]; omega, acc.toList, c, by rw [hacc]; exact LiI.vals_refs as, ?_⟩
        rw [Array.toArray_toList]
        exact hS
      · rw [off b hb hb2] at q
        exact (I.hok b u q).stay (fun d v _ y => hk d v y) (fun d y => kp d _ y) fun d xs y => kp d _ y
end
end ZL
end
section
set_option Elab.async false
set_option linter.all false
set_option maxRecDepth 100000
namespace WD
open PySem PySem.Spec PyProof.Rows L2 Evl StX
end WD
end
section
set_option Elab.async false
set_option linter.all false
set_option maxRecDepth 100000
set_option maxHeartbeats 4000000
namespace SupX
open PySem PySem.W PySem.Calls PyProof.Rows PySem.HandSPX
/-- the body -/
def supBody (txt f a : Str) (sn : Str) (k : Nat) (p0 p1 p2 p3 p4 p5 p6 p7 p8 p9 : Pos) : List Stmt :=
  [.Expr (.Call (.Attribute (.Call (.Name "super" p0) [] [] p1) "__init__" p2) [.Constant (.str txt) k p3] [] p4) p5, .Assign [.Attribute (.Name sn p6) f p7] (.Name a p8) p9]
section
variable {prog : Program} {w : World} {A : Around} {E : Value → Shared → Prop} {h : Heap} {g : Array GenState} {d : Drawn} {t : Nat} {os : OsState}
/-- ValueError.__init__ bound to an exception, called -/
theorem call_bound {B nw ini : String} {bmB : List Value} (fb : ExcBaseFacts B nw ini bmB) {nm q : Str} {C N u e t0 : Addr} {bs bm : List Value} {hdct : Bool} {sn : List Str} {sub : List Value} {ab : Bool} {col : Option Bool} {dd : Option Addr} {k0 k1 k2 k3 k5 : Option Value} {us : List Value} {Q : Value → Shared → Prop}
    (hC : h.get? C = some (excClassObj nm q C N bs bm hdct sn sub ab col dd k0 k1 k2 k3 k5 nw)) (he : h.get? e = some (excO C t0)) (hu : h.get? u = some (kxs_mw ini e)) (hl : us.length ≤ sizeLine)
    (hq : ∀ h' t1, (∀ b o, b ≠ e → h.get? b = some o → h'.get? b = some o) → h'.get? e = some (excO C t1) → Q .none ⟨h', g, d, t, os⟩) : wpAny (model prog w) A (call (.ref u) us) Q E ⟨h, g, d, t, os⟩ := by
  apply wpAny_call; apply codeAny_of_tree
  show wpAny _ A.in1 (callAny (.ref u) ⟨us, []⟩) _ _ _
  unfold callAny; apply wpAny_bind; apply wpAny_load hu
  have mw : (Value.type "method-wrapper" == Value.type "method" || Value.type "method-wrapper" == Value.type "builtin_function_or_method" || Value.type "method-wrapper" == Value.type "method-wrapper") = true := by decide
  simp only [kxs_mw, mw, if_true]
  apply KFB.if_so (by decide); apply wpAny_bind; apply check_bound_init fb.toExcCallFacts hC he rfl
  refine wpAny_bind (wpAny_pure (wpAny_pure ⟨plainId_quiet fb.init.plain _, codeAny_builtin fb.initEntry ?_⟩))
  exact exc_init_tree (cls := .ref C) (t0 := t0) (dv := none) (c2 := .none) (c3 := .none) (b4 := .bool false) he hl fun h' k e2 _ => hq h' _ k e2
end
/-- what the written part says of the class x at C, its __init__ at fI: super().__init__(txt), then self.f = its argument -/
structure Sup (prog : Program) (K : Frag) (mg : Str → Option Value) (C fI : Addr) (x f txt : Str) : Prop where
  gC : mg x = some (.ref C)
  cls : ∃ nm q N bs bm sn sub ab col dd k0 k1 k2 k3 k5, K.lookup C = some (excClassObj nm q C N bs bm true sn sub ab col dd k0 k1 k2 k3 k5 "ValueError.__new__") ∧ refsVE bm = true
  sa : findIn K (.ref C) "__setattr__" = some (some (.builtin "object.__setattr__"))
  ga : findIn K (.ref C) "__getattribute__" = some (some (.builtin "BaseException.__getattribute__"))
  gg : findIn K (.ref C) "__getattr__" = some none
  noN : findIn K (.ref C) f = some none
  iC : findIn K (.ref C) "__init__" = some (some (.ref fI))
  tC : typeIn K (.ref fI) = some (.type "function")
  kC : keepIn K (.ref C) = true
  exC : subIn K (.ref C) (.type "BaseException") = some true
  veC : subIn K (.ref C) (.type "ValueError") = some true
  tyC : typeIn K (.ref C) = some (.type "type")
  hdC : hasDictIn K C = true
  meC : mroIn K C (.ref C) = some true
  te : exmOne K (.ref C) (.ref C) = some true
  sup : ks_superIn K C C "__init__" = some (some (.builtin "ValueError.__init__"))
  opq : nsIn K cStatics "thirdparty.any" = some none
  noS : mg "super" = none
  top : (prog.main.scope.names.lookup ("super" : Str)).isSome = false
  fn : ∃ (oc : Value) (od : Option Addr) (qual a sn : Str) (pr : Arguments) (sc : Scope) (kV doc pm : Value) (an : Option Addr) (cda cc : Addr) (ct : Value) (osl : Array (Option Value)) (ar : Arg) (k : Nat) (p0 p1 p2 p3 p4 p5 p6 p7 p8 p9 : Pos),
    K.lookup fI = some ⟨oc, od, .func (ksFn "__init__" qual pr (supBody txt f a sn k p0 p1 p2 p3 p4 p5 p6 p7 p8 p9) sc .none kV doc pm an (.ref cda) ct cc), osl⟩ ∧ codeIn K (.ref cda) qual = true ∧
    (∃ cl cld csl, K.lookup cc = some ⟨cl, cld, .cell (some (.ref C)), csl⟩) ∧ (∃ ccl cdd vs ccs file tf, K.lookup cda = some ⟨ccl, cdd, .fields vs, ccs⟩ ∧ vs[2]? = some (.str file tf) ∧ ((prog.main.file : Str) == file) = true) ∧
    (∀ u v : Value, bindArgs (ksFn "__init__" qual pr (supBody txt f a sn k p0 p1 p2 p3 p4 p5 p6 p7 p8 p9) sc .none kV doc pm an (.ref cda) ct cc) ⟨[u, v], []⟩ = pure [(sn, u), (a, v)]) ∧
    (pr.posonlyargs ++ pr.args).head? = some ar ∧ ar.arg = sn ∧ a ≠ sn ∧ (sn == ("__debug__" : Str)) = false ∧ (a == ("__debug__" : Str)) = false ∧ (∀ y ∈ sc.names, y.2 ≠ .cell) ∧ sc.names.lookup sn = some .local ∧ sc.names.lookup a = some .local ∧ sc.names.lookup ("super" : Str) = some .globalImplicit ∧
    sc.names.lookup ("__class__" : Str) = some .free ∧ sc.kind = .function ∧ sc.isCoroutine = false ∧ sc.isGenerator = false ∧
    (∀ L : Addr, ∃ pl : Sem Bool, eval (.Call (.Attribute (.Call (.Name "super" p0) [] [] p1) "__init__" p2) [.Constant (.str txt) k p3] [] p4) (ksEnv qual sc L fI (.ref cda) cc) = (do
      let ov ← attributeBase (.Call (.Name "super" p0) [] [] p1) "__init__" (ksEnv qual sc L fI (.ref cda) cc) (eval (.Call (.Name "super" p0) [] [] p1) (ksEnv qual sc L fI (.ref cda) cc))
      standAt p2.atName
      let (f, first) ← holding [ov] (getMethod ov "__init__" pl)
      callWith p4 f first (backTo p4 (starEach [.Constant (.str txt) k p3] (ksEnv qual sc L fI (.ref cda) cc))) [])) ∧
    (∀ L : Addr, interactive (ksEnv qual sc L fI (.ref cda) cc) = false) ∧
    (∀ L : Addr, swapsWith (.Call (.Attribute (.Call (.Name "super" p0) [] [] p1) "__init__" p2) [.Constant (.str txt) k p3] [] p4) none p5.line (ksEnv qual sc L fI (.ref cda) cc) = pure false) ∧
    (∀ L : Addr, swapsWith (.Name a p8) (some (.Attribute (.Name sn p6) f p7)) p9.line (ksEnv qual sc L fI (.ref cda) cc) = pure false) ∧
    (∀ L : Addr, starEach [.Constant (.str txt) k p3] (ksEnv qual sc L fI (.ref cda) cc) = (false, eval (.Constant (.str txt) k p3) (ksEnv qual sc L fI (.ref cda) cc)) :: starEach [] (ksEnv qual sc L fI (.ref cda) cc)) ∧
    (∀ L : Addr, starEach [] (ksEnv qual sc L fI (.ref cda) cc) = [])
/-- what __init__ leaves -/
structure SupEnd (h h' : Heap) (x C dx : Addr) (f : Str) (v : Value) : Prop where
  keep : ∀ b o, b ≠ x → h.get? b = some o → h'.get? b = some o
  obj : ∃ t1 : Addr, h'.get? x = some { cls := .ref C, dict := some dx, data := .fields #[.ref t1, .none, .none, .none, .bool false, .none] }
  dbig : h.objs.size ≤ dx
  dne : dx ≠ x
  ns : h'.Ns1 dx (fun y => if y = f then some v else none)
section
variable {prog : Program} {w : World} {A : Around} {E : Value → Shared → Prop} {R : Result → Shared → Prop} {s : Shared} {K : Frag} {mg mb : Str → Option Value} {C fI : Addr} {x f txt : Str}
theorem sup_init (T : Sup prog K mg C fI x f txt) {e t0 : Addr} {v : Value} (X : K.In s.heap) (G : s.heap.Ns mainGlobals mg) (B : s.heap.Ns builtinsNs mb) (bt : mb "super" = some (.type "super")) (hlim : s.heap.NoLimit) (he : s.heap.get? e = some (excO C t0)) (hnx : K.lookup e = none)
    (hroom : A.depth < recursionLimit) (hq : ∀ h' tk dx, SupEnd s.heap h' e C dx f v → R (.ok (.ret .none)) { s with heap := h', toks := tk }) : codeAny (model prog w) A (.call (.ref fI) ⟨[.ref e, v], []⟩) R s := by
  obtain ⟨oc, od, qual, a, sn, pr, sc, kV, doc, pm, an, cda, cc, ct, osl, ar, k, p0, p1, p2, p3, p4, p5, p6, p7, p8, p9, ho, hcd, ⟨cl, cld, csl, hcc⟩, ⟨ccl, cdd, vs, ccs, file, tf, hcda, hvs, hfile⟩, hbind, hp, rfl, nsn, dsn, da, hcell, l1, l2, l3, l4, kd, hco, hgen, hev, hint, hw1, hw2, hst, hst0⟩ := T.fn
  obtain ⟨nm, q, N, bs, bm, sn, sub, ab, col, dd, k0, k1, k2, k3, k5, hC, hbm⟩ := T.cls
  have hcl : clsIn K C = some { name := nm, bases := bs, mro := .ref C :: bm, ns := N, qualname := q, hasDict := true, slotNames := sn, subclasses := sub, abstract := ab, collection := col, hasDel := false } := by unfold clsIn; rw [hC] <;> rfl
  refine ks_codeAny_call_defAt (binds := [(ar.arg, .ref e), (a, v)]) hroom (X _ _ ho) rfl hlim (codeRec_of X hcd) rfl (BindsTo.of_eq (hbind _ _)) hcell (fun y hy => ?_) (fun h1 hns k1 => ?_) hco hgen kd
  · rcases List.mem_cons.mp hy with rfl | hy
    · exact l1
    · rw [List.mem_singleton.mp hy]; exact l2
  have X1 : K.In h1 := X.keeps k1
  have he1 := k1 _ _ he
  have hC1 : h1.get? C = some (excClassObj nm q C N bs bm true sn sub ab col dd _ _ _ _ _ "ValueError.__new__") := X1 _ _ hC
  have xC : e ≠ C := fun z => by rw [z, hC] at hnx; cases hnx
  have G1 : h1.Ns mainGlobals mg := G.keeps k1
  have B1 : h1.Ns builtinsNs mb := B.keeps k1
  have KF := kxs_ValueError
  show PySem.wpAt (model prog w) (A.deeper (ksEnv qual sc s.heap.objs.size fI (.ref cda) cc)) (.func (supBody txt f a ar.arg k p0 p1 p2 p3 p4 p5 p6 p7 p8 p9) (ksEnv qual sc s.heap.objs.size fI (.ref cda) cc)) (execs (supBody txt f a ar.arg k p0 p1 p2 p3 p4 p5 p6 p7 p8 p9) (ksEnv qual sc s.heap.objs.size fI (.ref cda) cc)) _ _ _
  generalize hA2 : A.deeper (ksEnv qual sc s.heap.objs.size fI (.ref cda) cc) = A2
  unfold supBody
  obtain ⟨pl, hev⟩ := hev s.heap.objs.size
  refine ks_wpAt_execs_cons (ks_wpAt_Expr_any (ks_wpAt_MethodCall (ks_wpAt_super_base (env := ksEnv qual sc s.heap.objs.size fI (.ref cda) cc) l3 l4 (by decide) rfl (X1 _ _ ho) rfl hp rfl (X1 _ _ hcda) rfl hvs hfile T.top ?_) hev) (hint _) (hw1 _))
  refine ks_loadName_global kd l3 (loadGlobal_builtin (env := ksEnv qual sc s.heap.objs.size fI (.ref cda) cc) G1 T.noS B1 bt ⟨rfl, ?_⟩)
  refine wpAny_loadName_free (c := cc) kd l4 (by rfl) ⟨_, X1 _ _ hcc, rfl⟩ (wpAny_loadName_local kd l1 hns (v := .ref e) ?_ ?_)
  · show List.lookup ar.arg [(a, v), (ar.arg, .ref e)] = some (.ref e)
    rw [List.lookup_cons, List.lookup_cons_self]
    have z : (ar.arg == a) = false := by simpa using nsn.symm
    rw [z]
  refine ks_wpAny_isType_cls hC1 rfl ⟨rfl, ?_⟩
  refine ks_wpAny_call_super hC1 rfl he1 rfl (fun c z => by cases z) (looks_mroIn X1 T.meC) fun h2 hso k2 => ?_
  have X2 : K.In h2 := X1.keeps k2
  have he2 := k2 _ _ he1
  have I2 : InstAt h2 e (excO C t0) C none := ⟨he2, rfl, rfl, trivial⟩
  have hf := T.sup
  unfold ks_superIn at hf
  rw [hcl] at hf
  refine kxs_getMethod KF hso (looks_opaque X2 T.opq) (l₀ := .ref C :: bm) (fun A Q E s k q => wpAny_bind ((looks_clsIn X2 hcl) A _ E s k (wpAny_pure q))) rfl X2 hf (I2.type.andThen (looks_subIn X2 T.veC)) xC (by decide) ?_
  have k3 : ∀ b o, h2.get? b = some o → (h2.push (kxs_mw "ValueError.__init__" e)).get? b = some o := fun b o z => Heap.get?_push_of_some _ z
  show wpAny _ _ (callWith p4 (.ref h2.objs.size) [] (backTo p4 (starEach [.Constant (.str txt) k p3] (ksEnv qual sc s.heap.objs.size fI (.ref cda) cc))) []) _ _ _
  rw [hst, hst0]
  refine kxs_callWith (i := "ValueError.__init__") (x := e) (by rfl) (evalArgs_plain ?_)
  refine spliced_cons (wpAny_Constant_str (k := k) (pos := p3) (spliced_nil ?_))
  have hu : (h2.push (kxs_mw "ValueError.__init__" e)).get? h2.objs.size = some (kxs_mw "ValueError.__init__" e) := Heap.get?_push_size _ rfl
  refine ⟨hu, ?_⟩
  refine call_bound PySem.F.excBase_ValueError (k3 _ _ (k2 _ _ hC1)) (k3 _ _ he2) hu (by show 1 ≤ sizeLine; rw [sizeLine_eq]; decide) fun h4 t4 k4 he4 => ?_
  have kk : ∀ b o, b ≠ e → s.heap.get? b = some o → h4.get? b = some o := fun b o hb z => k4 b o hb (k3 b o (k2 b o (k1 b o z)))
  have X4 : K.In h4 := fun b o z => kk b o (fun y => by rw [y, hnx] at z; cases z) (X b o z)
  have eL : s.heap.objs.size ≠ e := Nat.ne_of_gt (Heap.lt_size he)
  have lt4 : s.heap.objs.size < h4.objs.size := by
    obtain ⟨oL, es, ep, hL, r⟩ := hns
    exact Heap.lt_size (k4 _ _ eL (k3 _ _ (k2 _ _ hL)))
  have hns4 : h4.Ns s.heap.objs.size (fun y => List.lookup y [(ar.arg, Value.ref e), (a, v)].reverse) := by
    obtain ⟨oL, es, ep, hL, r⟩ := hns
    exact ⟨oL, es, ep, k4 _ _ eL (k3 _ _ (k2 _ _ hL)), r⟩
  show PySem.wpAt _ _ _ (execs [.Assign [.Attribute (.Name ar.arg p6) f p7] (.Name a p8) p9] (ksEnv qual sc s.heap.objs.size fI (.ref cda) cc)) _ _ _
  refine wpAt_of_wpAny (wpAny_execs_cons (plainObj_wpAny_Assign_Attribute ?_ (hw2 _)))
  refine wpAny_Name (wpAny_loadName_local kd l2 hns4 (v := v) ?_ ?_) da
  · show List.lookup a [(a, v), (ar.arg, .ref e)] = some v
    rw [List.lookup_cons_self]
  refine wpAny_Name (wpAny_loadName_local kd l1 hns4 (v := .ref e) ?_ ?_) dsn
  · show List.lookup ar.arg [(a, v), (ar.arg, .ref e)] = some (.ref e)
    rw [List.lookup_cons, List.lookup_cons_self]
    have z : (ar.arg == a) = false := by simpa using nsn.symm
    rw [z]
  refine set_plain X4 (ox := excO C t4) (od := none) ⟨he4, rfl, rfl, trivial⟩ T.sa ?_
  refine exc_osa X4 he4 hcl (show refsVE (.ref C :: bm) = true from hbm) rfl T.noN (fun h5 tk5 dx k5 dn dne hx5 hn5 => ?_)
  show wpAny _ _ (execs [] _) _ _ _
  exact wpAny_execs_nil (hq h5 tk5 dx ⟨fun b o hb z => k5 b o hb (kk b o hb z), ⟨t4, hx5⟩, Nat.le_of_lt (Nat.lt_of_lt_of_le lt4 dn), dne, hn5⟩)
/-- one that is made -/
structure SupMade (h h' : Heap) (e C d : Addr) (f : Str) (v : Value) : Prop where
  keep : ∀ b o, h.get? b = some o → h'.get? b = some o
  new : h.objs.size ≤ e
  obj : ∃ oe vs, h'.get? e = some oe ∧ oe.cls = .ref C ∧ oe.dict = some d ∧ oe.data = .fields vs ∧ vs[1]? = some .none
  dbig : h.objs.size ≤ d
  dne : d ≠ e
  ns : h'.Ns1 d (fun y => if y = f then some v else none)
theorem sup_made (T : Sup prog K mg C fI x f txt) {v : Value} (X : K.In s.heap) (G : s.heap.Ns mainGlobals mg) (B : s.heap.Ns builtinsNs mb) (bt : mb "super" = some (.type "super")) (hlim : s.heap.NoLimit) (hroom : A.depth + 1 < recursionLimit)
    (hq : ∀ h' tk e d, SupMade s.heap h' e C d f v → R (.ok (.ret (.ref e))) { s with heap := h', toks := tk }) : codeAny (model prog w) A (.call (.ref C) ⟨[v], []⟩) R s := by
  obtain ⟨nm, q, N, bs, bm, sn, sub, ab, col, dd, k0, k1, k2, k3, k5, hC, hbm⟩ := T.cls
  rcases s with ⟨hp, g, dr, tk, os⟩
  have up : ∀ b o, hp.get? b = some o → ((hp.push (kdv_tup [v])).push (excO C hp.objs.size)).get? b = some o := fun b o z => Heap.get?_push_of_some _ (Heap.get?_push_of_some _ z)
  have new : ((hp.push (kdv_tup [v])).push (excO C hp.objs.size)).get? (hp.objs.size + 1) = some (excO C hp.objs.size) := by heap_get
  have out : K.lookup (hp.objs.size + 1) = none := by
    cases z : K.lookup (hp.objs.size + 1) with
    | none => rfl
    | some o =>
      have y : hp.get? (hp.objs.size + 1) = some o := X _ _ z
      exact absurd (Nat.lt_of_succ_lt (Heap.lt_size y)) (Nat.lt_irrefl _)
  have one : [v].length ≤ sizeLine := by show 1 ≤ sizeLine; rw [sizeLine_eq]; decide
  refine call_own PySem.F.excBase_ValueError (fun Y => refsVE_contains Y bm hbm) (X _ _ hC) (looks_findIn X T.iC) (fun self => bind_fn X self T.tC) one ?_
  refine sup_init (s := ⟨(hp.push (kdv_tup [v])).push (excO C hp.objs.size), g, dr, tk, os⟩) T (X.keeps up) (G.keeps up) (B.keeps up) bt (hlim.keeps up) new out ?_ fun h' tk' dx F => ?_
  · show A.depth + 1 < recursionLimit
    exact hroom
  · have old : ∀ b o, hp.get? b = some o → h'.get? b = some o := fun b o z => F.keep b o (Nat.ne_of_lt (Nat.lt_succ_of_lt (Heap.lt_size z))) (up b o z)
    have big : hp.objs.size ≤ dx := by
      have y := F.dbig
      rw [Heap.size_push, Heap.size_push] at y
      exact Nat.le_trans (Nat.le_add_right _ 2) y
    obtain ⟨t1, ob⟩ := F.obj
    exact ⟨rfl, hq h' tk' (hp.objs.size + 1) dx ⟨old, Nat.le_succ _, ⟨_, _, ob, rfl, rfl, rfl, rfl⟩, big, F.dne, F.ns⟩⟩
end
end SupX
namespace L2
open PySem PySem.Spec PyProof.Rows
theorem relO_sup {v : V} {u : Value} (r : RelV v u) (f g : Str) : RelO (List.lookup g [(f, v)]) (if g = f then some u else none) := by
  by_cases z : g = f
  · subst z
    rw [if_pos rfl, List.lookup_cons_self]
    exact r
  · have y : (g == f) = false := by simpa using z
    rw [if_neg z, List.lookup_cons, y]
    exact True.intro
section
variable {X : Cx} {C fI : Addr} {x f txt : Str}
/-- C(e) -/
def tMkSup (C : Addr) (f : Str) (ta : TA) : St → Hp → XK → Prop := fun σ H Q => ta σ H fun vs H1 => ∃ v, vs = [v] ∧ ∀ d, H1 d = none → Q (.ref C) (some d) (upd H1 d (.xd [(f, v)]))
theorem pmk_sup {a : Expr} {ta : TA} {p pos : Pos} {k : Nat} (T : SupX.Sup X.prog X.K X.mg C fI x f txt) (hr : Room k X.A) (ha : PA X [a] ta) (hg : Gl X x) (hd : (x == ("__debug__" : Str)) = false := by decide)
    (hst : starEach (a :: []) X.env = (false, eval a X.env) :: starEach [] X.env := by rfl) (hpl : (backTo pos (starEach [] X.env)).any (·.1) = false := by rfl) :
    PMk X (.Call (.Name x p) [a] [] pos) (tMkSup C f ta) := by
  intro pins s σ H Q I h
  refine wpAny_Call_Name_kw (ld_glob I hg T.gC ?_ hd)
  refine PySem.W.callWith_K (h₀ := X.base) I.ok.mod.kin T.kC (thn (ha.run pos pins s σ H _ I h) fun us s1 ⟨vs, H1, I1, r1, v, ev, q1⟩ => ⟨I1.kIn, ?_⟩) hst hpl
  subst ev
  obtain ⟨u, rfl, ru⟩ := r1.one
  show wpAny _ _ (call (.ref C) [u]) _ _ _
  have lim := I1.nolimit
  obtain ⟨mb, nb, eb⟩ := I1.ok.mod.blt
  have glo : s1.heap.Ns mainGlobals X.mg := I1.ok.mod.glob.keeps I1.bk
  have blt : s1.heap.Ns builtinsNs mb := nb.keeps I1.bk
  obtain ⟨hp, g, dr, tk, os⟩ := s1
  refine wpAny_call (SupX.sup_made (s := ⟨hp, g, dr, tk, os⟩) T I1.kIn glo blt ((eb _ (by decide +kernel)).trans (by decide +kernel)) lim (by have := hr.dp; omega) fun h' tk' e d M => ?_)
  show MkP X pins σ Q (.ref e) ⟨h', g, dr, tk', os⟩
  obtain ⟨oe, fv, hoe, hc, hd2, hdat, h1⟩ := M.obj
  obtain ⟨G', g1, g2⟩ := restrict h' fun b => decide (b ≠ e)
  have gk : ∀ b, b ≠ e → G'.get? b = h'.get? b := fun b hb => g1 b (decide_eq_true hb)
  have ge : G'.get? e = none := g2 e (by simp)
  have old : ∀ b o, hp.get? b = some o → G'.get? b = some o := fun b o q => (gk b (Nat.ne_of_lt (Nat.lt_of_lt_of_le (Heap.lt_size q) M.new))).trans (M.keep b o q)
  have ob : ObjOk X.prog X.w (upd H1 d (.xd [(f, v)])) G' d (.xd [(f, v)]) := ⟨_, M.ns.at (fun o q => (gk d M.dne).trans q), fun g => relO_sup ru f g⟩
  have J : Inv X pins σ (upd H1 d (.xd [(f, v)])) ⟨G', g, dr, tk', os⟩ := I1.laid (t' := tk') old M.dbig ob
  refine ⟨e, oe, fv, ⟨G', g, dr, tk', os⟩, _, .ref C, some d, rfl, J, fun b o q => ?_, ge, hoe, ⟨hc, hd2⟩, hdat, h1, ?_, rfl, I1.bare, raises_own T.exC T.tyC, q1 d (I1.hok.fresh M.dbig)⟩
  · by_cases hb : b = e
    · have q' : G'.get? b = some o := q
      rw [hb, ge] at q'; cases q'
    · exact (gk b hb).symm.trans q
  · rw [upd_ne (Ne.symm M.dne)]
    exact I1.hok.fresh M.new
/-- raise C(e) -/
def tRaiseSup (C : Addr) (f : Str) (W : WX) (ta : TA) : TS := fun _ σ H => tMkSup C f ta σ H fun cls d H' => W cls d σ H'
theorem ps_raiseSup {a : Expr} {ta : TA} {W : WX} {p pos pos2 : Pos} {k : Nat} (hc : X.calm = true) (T : SupX.Sup X.prog X.K X.mg C fI x f txt) (hr : Room k X.A) (tk : Takes X W) (ha : PA X [a] ta) (hg : Gl X x) (hd : (x == ("__debug__" : Str)) = false := by decide)
    (hst : starEach (a :: []) X.env = (false, eval a X.env) :: starEach [] X.env := by rfl) (hpl : (backTo pos (starEach [] X.env)).any (·.1) = false := by rfl) :
    PS X (.Raise (some (.Call (.Name x p) [a] [] pos)) none pos2) (tRaiseSup C f W ta) := ps_raise hc tk (pmk_sup T hr ha hg hd hst hpl)
/-- n.f, n the exception that the suite holds (at a; its class cls, its dict d) -/
def tBySup (C : Addr) (f : Str) (a : Addr) (cls : Value) (d : Option Addr) (te : TE) : TE := fun σ H Q => te σ H fun x H1 => x = .ref a ∧ cls = .ref C ∧ ∃ (dd : Addr) (v : V), d = some dd ∧ H1 dd = some (.xd [(f, v)]) ∧ Q v H1
theorem pe_bySup {a : Addr} {oe : Obj} {cls : Value} {d : Option Addr} {pn : List (Addr × Obj)} {e : Expr} {te : TE} {pos : Pos} (T : SupX.Sup X.prog X.K X.mg C fI x f txt) (hz : Zc cls d oe) (hf : ∃ vs, oe.data = .fields vs) (he : PE (X.suite a ((a, oe) :: pn)) e te)
    (hb : attributeBase e f X.env (eval e X.env) = eval e X.env := by rfl) (hn : PySem.W.copiedNames.contains f = false := by decide) :
    PE (X.suite a ((a, oe) :: pn)) (.Attribute e f pos) (tBySup C f a cls d te) := by
  refine ⟨fun pins s σ H Q I h => ?_⟩
  refine attr_of hb (thn (he.run pins s σ H _ I h) fun u s1 hh => ?_)
  obtain ⟨x, H1, I1, rx, ex, ec, dd, v, ed, ea, q⟩ := hh
  subst ex
  obtain rfl : u = Value.ref a := rx
  subst ec
  subst ed
  obtain ⟨ha, _⟩ := I1.pin (a, oe) (List.mem_append_left _ List.mem_cons_self)
  obtain ⟨vs, hd⟩ := hf
  have hx : ObjOk X.prog X.w H1 s1.heap dd (.xd [(f, v)]) := I1.hok dd _ ea
  obtain ⟨mA, hns, hr⟩ := hx
  obtain ⟨od, ho, hl⟩ := lookIn_ns hns
  have l : List.lookup f [(f, v)] = some v := List.lookup_cons_self
  obtain ⟨u, hu, ru⟩ := RelO.some_of (v := v) (o := mA f) (by rw [← l]; exact hr f)
  have J : PySem.W.InstAt s1.heap a oe C (some od) := ⟨ha, hz.1, by unfold PySem.W.notCls; rw [hd] <;> rfl, by rw [hz.2]; exact ho⟩
  exact HandSPX.exc_get I1.kIn J T.ga T.gg T.exC (PySem.W.findObj_own T.hdC T.noN rfl (by rw [hl, hu])) (handed_of ru) ⟨v, H1, I1.tok _, ru, q⟩
end
end L2
end
section
set_option Elab.async false
set_option linter.all false
set_option maxRecDepth 100000
set_option maxHeartbeats 4000000
namespace SupX
open PySem PySem.W PySem.Calls PyProof.Rows PySem.HandSPX L2
def clsB (K : Frag) (C : Addr) : Bool := match K.lookup C with
  | some ⟨.type t, _, .cls cd, sl⟩ => decide (t = "type") && (decide (cd.mro.head? = some (.ref C)) && (refsVE (cd.mro.drop 1) && (cd.hasDict && (!cd.hasDel && (decide (sl.size = 6) && decide (sl[4]? = some (some (.builtin "ValueError.__new__"))))))))
  | _ => false
theorem clsB_ok {K : Frag} {C : Addr} (h : clsB K C = true) : ∃ nm q N bs bm sn sub ab col dd k0 k1 k2 k3 k5, K.lookup C = some (excClassObj nm q C N bs bm true sn sub ab col dd k0 k1 k2 k3 k5 "ValueError.__new__") ∧ refsVE bm = true := by
  unfold clsB at h
  cases e : K.lookup C with
  | none => rw [e] at h; cases h
  | some o =>
    obtain ⟨oc, od, dt, sl⟩ := o
    rw [e] at h
    cases oc with
    | type t =>
      cases dt with
      | cls cd =>
        obtain ⟨nm, bs, mro, ns, qn, hd, sn, sub, ab, col, del⟩ := cd
        obtain ⟨h1, h⟩ := He.ba h
        obtain ⟨h2, h⟩ := He.ba h
        obtain ⟨h3, h⟩ := He.ba h
        obtain ⟨h4, h⟩ := He.ba h
        obtain ⟨h5, h⟩ := He.ba h
        obtain ⟨h6, h7⟩ := He.ba h
        have h1 := of_decide_eq_true h1
        have h2 := of_decide_eq_true h2
        have h6 := of_decide_eq_true h6
        have h7 := of_decide_eq_true h7
        subst h1
        cases mro with
        | nil => cases h2
        | cons c bm =>
          cases h2
          cases hd with
          | false => cases h4
          | true =>
            cases del with
            | true => cases h5
            | false =>
              obtain ⟨l⟩ := sl
              match l, h6, h7 with
              | [k0, k1, k2, k3, k4, k5], _, h7 =>
                cases h7
                exact ⟨nm, qn, ns, bs, bm, sn, sub, ab, col, od, k0, k1, k2, k3, k5, rfl, h3⟩
      | _ => cases h
    | _ => cases dt <;> cases h
/-- a def that closes over its class: its text -/
abbrev FnC : Type := Option (Str × Str × Arguments × FuncBody × Scope × Addr × List Str × Addr)
def fnC (K : Frag) (f : Addr) : FnC := match K.lookup f with
  | some ⟨_, _, .func fd, _⟩ => some (fd.name, fd.qualname, fd.params, fd.body, fd.scope, fd.globals, fd.closure.map (·.1), fd.builtins)
  | _ => none
/-- an exception's class: its name, its field, its __init__, as the text has them -/
structure XcD where
  x : Str
  f : Str
  txt : Str
  qual : Str
  st : Stmt
def XcD.C (K : Frag) (d : XcD) : Addr := He.ga K d.x
def XcD.i (K : Frag) (d : XcD) : Addr := He.ma K (d.C K) "__init__"
def XcD.val (d : XcD) : FnC := some ("__init__", d.qual, defArgs d.st, .stmts (defBody d.st), defScope d.st, mainGlobals, ["__class__"], builtinsNs)
def cellB (K : Frag) (c C : Addr) : Bool := match K.lookup c with
  | some ⟨_, _, .cell (some (.ref a)), _⟩ => decide (a = C)
  | _ => false
def codeB (K : Frag) (file : Str) (cd : Value) : Bool := match cd with
  | .ref c => (match K.lookup c with
    | some ⟨_, _, .fields vs, _⟩ => (match (vs[2]? : Option Value) with
      | some (Value.str f _) => decide (f = file)
      | _ => false)
    | _ => false)
  | _ => false
def initB (K : Frag) (file : Str) (d : XcD) : Bool := match K.lookup (d.i K) with
  | some ⟨_, _, .func fd, _⟩ => codeIn K fd.code d.qual && (codeB K file fd.code && (fd.closure.all (fun q => cellB K q.2 (d.C K)) && decide (fd.defaults = .none)))
  | _ => false
def XcD.ok (K : Frag) (file : Str) (d : XcD) : Bool := He.eqO (nsIn K mainGlobals d.x) (some (some (.ref (d.C K)))) && (clsB K (d.C K) && (He.eqO (findIn K (.ref (d.C K)) "__setattr__") (some (some (.builtin "object.__setattr__"))) &&
  (He.eqO (findIn K (.ref (d.C K)) "__getattribute__") (some (some (.builtin "BaseException.__getattribute__"))) && (He.eqO (findIn K (.ref (d.C K)) "__getattr__") (some none) && (He.eqO (findIn K (.ref (d.C K)) d.f) (some none) &&
  (He.eqO (findIn K (.ref (d.C K)) "__init__") (some (some (.ref (d.i K)))) && (decide (typeIn K (.ref (d.i K)) = some (.type "function")) && (keepIn K (.ref (d.C K)) && (decide (subIn K (.ref (d.C K)) (.type "BaseException") = some true) &&
  (decide (subIn K (.ref (d.C K)) (.type "ValueError") = some true) && (decide (typeIn K (.ref (d.C K)) = some (.type "type")) && (hasDictIn K (d.C K) && (decide (mroIn K (d.C K) (.ref (d.C K)) = some true) &&
  (decide (exmOne K (.ref (d.C K)) (.ref (d.C K)) = some true) && (He.eqO (ks_superIn K (d.C K) (d.C K) "__init__") (some (some (.builtin "ValueError.__init__"))) && (He.eqO (nsIn K cStatics "thirdparty.any") (some none) && (He.eqO (nsIn K mainGlobals "super") (some none) && initB K file d)))))))))))))))))
/-- what the text of such an __init__ gives, however it stands in the heap -/
def TextOk (d : XcD) : Prop := ∃ (a sn : Str) (ar : Arg) (k : Nat) (p0 p1 p2 p3 p4 p5 p6 p7 p8 p9 : Pos), defBody d.st = supBody d.txt d.f a sn k p0 p1 p2 p3 p4 p5 p6 p7 p8 p9 ∧
  (∀ (kV doc pm : Value) (an : Option Addr) (cda cc : Addr) (ct u v : Value), bindArgs (ksFn "__init__" d.qual (defArgs d.st) (supBody d.txt d.f a sn k p0 p1 p2 p3 p4 p5 p6 p7 p8 p9) (defScope d.st) .none kV doc pm an (.ref cda) ct cc) ⟨[u, v], []⟩ = pure [(sn, u), (a, v)]) ∧
  ((defArgs d.st).posonlyargs ++ (defArgs d.st).args).head? = some ar ∧ ar.arg = sn ∧ a ≠ sn ∧ (sn == ("__debug__" : Str)) = false ∧ (a == ("__debug__" : Str)) = false ∧ (∀ y ∈ (defScope d.st).names, y.2 ≠ .cell) ∧ (defScope d.st).names.lookup sn = some .local ∧ (defScope d.st).names.lookup a = some .local ∧
  (defScope d.st).names.lookup ("super" : Str) = some .globalImplicit ∧ (defScope d.st).names.lookup ("__class__" : Str) = some .free ∧ (defScope d.st).kind = .function ∧ (defScope d.st).isCoroutine = false ∧ (defScope d.st).isGenerator = false ∧
  ∀ (L fI cda cc : Addr),
    (∃ pl : Sem Bool, eval (.Call (.Attribute (.Call (.Name "super" p0) [] [] p1) "__init__" p2) [.Constant (.str d.txt) k p3] [] p4) (ksEnv d.qual (defScope d.st) L fI (.ref cda) cc) = (do
      let ov ← attributeBase (.Call (.Name "super" p0) [] [] p1) "__init__" (ksEnv d.qual (defScope d.st) L fI (.ref cda) cc) (eval (.Call (.Name "super" p0) [] [] p1) (ksEnv d.qual (defScope d.st) L fI (.ref cda) cc))
      standAt p2.atName
      let (f, first) ← holding [ov] (getMethod ov "__init__" pl)
      callWith p4 f first (backTo p4 (starEach [.Constant (.str d.txt) k p3] (ksEnv d.qual (defScope d.st) L fI (.ref cda) cc))) [])) ∧
    interactive (ksEnv d.qual (defScope d.st) L fI (.ref cda) cc) = false ∧
    swapsWith (.Call (.Attribute (.Call (.Name "super" p0) [] [] p1) "__init__" p2) [.Constant (.str d.txt) k p3] [] p4) none p5.line (ksEnv d.qual (defScope d.st) L fI (.ref cda) cc) = pure false ∧
    swapsWith (.Name a p8) (some (.Attribute (.Name sn p6) d.f p7)) p9.line (ksEnv d.qual (defScope d.st) L fI (.ref cda) cc) = pure false ∧
    starEach [.Constant (.str d.txt) k p3] (ksEnv d.qual (defScope d.st) L fI (.ref cda) cc) = (false, eval (.Constant (.str d.txt) k p3) (ksEnv d.qual (defScope d.st) L fI (.ref cda) cc)) :: starEach [] (ksEnv d.qual (defScope d.st) L fI (.ref cda) cc) ∧
    starEach [] (ksEnv d.qual (defScope d.st) L fI (.ref cda) cc) = []
theorem sup_of {prog : Program} {K : Frag} {h : Heap} {mg : Str → Option Value} {file : Str} {d : XcD} (X : K.In h) (G : h.Ns mainGlobals mg) (t : TextOk d) (e : fnC K (d.i K) = d.val) (c : d.ok K file = true) (hp : prog.main.file = file) (ht : (prog.main.scope.names.lookup ("super" : Str)).isSome = false) :
    Sup prog K mg (d.C K) (d.i K) d.x d.f d.txt := by
  obtain ⟨c1, c⟩ := He.ba c
  obtain ⟨c2, c⟩ := He.ba c
  obtain ⟨c3, c⟩ := He.ba c
  obtain ⟨c4, c⟩ := He.ba c
  obtain ⟨c5, c⟩ := He.ba c
  obtain ⟨c6, c⟩ := He.ba c
  obtain ⟨c7, c⟩ := He.ba c
  obtain ⟨c8, c⟩ := He.ba c
  obtain ⟨c9, c⟩ := He.ba c
  obtain ⟨c10, c⟩ := He.ba c
  obtain ⟨c11, c⟩ := He.ba c
  obtain ⟨c12, c⟩ := He.ba c
  obtain ⟨c13, c⟩ := He.ba c
  obtain ⟨c14, c⟩ := He.ba c
  obtain ⟨c15, c⟩ := He.ba c
  obtain ⟨c16, c⟩ := He.ba c
  obtain ⟨c17, c⟩ := He.ba c
  obtain ⟨c18, c⟩ := He.ba c
  refine { gC := mg_of X G (He.eqO_ok c1), cls := clsB_ok c2, sa := He.eqO_ok c3, ga := He.eqO_ok c4, gg := He.eqO_ok c5, noN := He.eqO_ok c6, iC := He.eqO_ok c7, tC := of_decide_eq_true c8, kC := c9, exC := of_decide_eq_true c10, veC := of_decide_eq_true c11, tyC := of_decide_eq_true c12, hdC := c13, meC := of_decide_eq_true c14, te := of_decide_eq_true c15, sup := He.eqO_ok c16, opq := He.eqO_ok c17, noS := mg_none_of X G (He.eqO_ok c18), top := ht, fn := ?_ }
  obtain ⟨a, sn, ar, k, p0, p1, p2, p3, p4, p5, p6, p7, p8, p9, tb, t1, t2, t3, t4, t5, t6, t7, t8, t9, t10, t11, t12, t13, t14, t15⟩ := t
  unfold initB at c
  unfold fnC at e
  cases q : K.lookup (d.i K) with
  | none => rw [q] at c; cases c
  | some o =>
    obtain ⟨oc, od, dt, osl⟩ := o
    rw [q] at c e
    cases dt with
    | func fd =>
      obtain ⟨n1, n2, n3, n4, n5, n6, n7, n8, n9, n10, n11, n12, n13, n14, n15⟩ := fd
      have e2 : (some (n1, n2, n3, n4, n5, n6, n7.map (·.1), n15) : FnC) = d.val := e
      unfold XcD.val at e2
      simp only [Option.some.injEq, Prod.mk.injEq] at e2
      obtain ⟨h1, h2, h3, h4, h5, h6, h7, h8⟩ := e2
      have c' : (codeIn K n13 d.qual && (codeB K file n13 && (n7.all (fun q => cellB K q.2 (d.C K)) && decide (n8 = .none)))) = true := c
      obtain ⟨b1, b⟩ := He.ba c'
      obtain ⟨b2, b⟩ := He.ba b
      obtain ⟨b3, b4⟩ := He.ba b
      have b4 := of_decide_eq_true b4
      subst h1 h2 h3 h4 h5 h6 h8 b4
      rw [tb] at q
      match n7, h7, b3 with
      | [(z, cc)], h7, b3 =>
        have hz : z = "__class__" := by simpa using h7
        subst hz
        have b3 : cellB K cc (d.C K) = true := by simpa using b3
        cases n13 with
        | ref cda =>
          refine ⟨oc, od, d.qual, a, sn, defArgs d.st, defScope d.st, n9, n10, n11, n12, cda, cc, n14, osl, ar, k, p0, p1, p2, p3, p4, p5, p6, p7, p8, p9, by rw [tb], b1, ?_, ?_, t1 _ _ _ _ _ _ _, t2, t3, t4, t5, t6, t7, t8, t9, t10, t11, t12, t13, t14, fun L => (t15 L _ cda cc).1, fun L => (t15 L _ cda cc).2.1, fun L => (t15 L _ cda cc).2.2.1, fun L => (t15 L _ cda cc).2.2.2.1, fun L => (t15 L _ cda cc).2.2.2.2.1, fun L => (t15 L _ cda cc).2.2.2.2.2⟩
          · unfold cellB at b3
            split at b3
            · rename_i c1 c2 a sl ho
              have := of_decide_eq_true b3
              subst this
              exact ⟨_, _, _, ho⟩
            · cases b3
          · have b2 : (match K.lookup cda with
              | some ⟨_, _, .fields vs, _⟩ => (match (vs[2]? : Option Value) with
                | some (Value.str f _) => decide (f = file)
                | _ => false)
              | _ => false) = true := b2
            cases y : K.lookup cda with
            | none => rw [y] at b2; cases b2
            | some o2 =>
              obtain ⟨o2c, o2d, o2t, o2s⟩ := o2
              simp only [y] at b2
              cases o2t with
              | fields vs =>
                simp only at b2
                split at b2
                · rename_i f tf hv
                  exact ⟨_, _, vs, _, f, tf, rfl, hv, by rw [hp, of_decide_eq_true b2]; exact beq_self_eq_true _⟩
                · cases b2
              | _ => cases b2
        | _ => cases b1
    | _ => cases c
abbrev AlS : Type := He.AlD × Bool × List FnC
def obsS (fa : List He.Fa) (fn : List He.DefD) (xs : List XcD) (file : Str) (ex : Frag → Bool) (K : Frag) : AlS := (He.obsD fa fn K, ex K && xs.all (fun d => d.ok K file), xs.map fun d => fnC K (d.i K))
def valS (fn : List He.DefD) (xs : List XcD) : AlS := (He.valD fn, true, xs.map XcD.val)
def SaysS (fa : List He.Fa) (fn : List He.DefD) (xs : List XcD) (file : Str) (ex : Frag → Bool) (K : Frag) : Prop := obsS fa fn xs file ex K = valS fn xs
section
variable {fa : List He.Fa} {fn : List He.DefD} {xs : List XcD} {file : Str} {ex : Frag → Bool} {K : Frag}
theorem SaysS.d (c : SaysS fa fn xs file ex K) : He.SaysD fa fn K := congrArg (fun z : AlS => z.1) c
theorem SaysS.two (c : SaysS fa fn xs file ex K) : (ex K && xs.all (fun d => d.ok K file)) = true := congrArg (fun z : AlS => z.2.1) c
theorem SaysS.exq (c : SaysS fa fn xs file ex K) : ex K = true := (He.ba c.two).1
theorem SaysS.xok (c : SaysS fa fn xs file ex K) (i : Nat) {d : XcD} (h : xs[i]? = some d := by rfl) : d.ok K file = true := List.all_eq_true.mp (He.ba c.two).2 d (List.mem_of_getElem? h)
theorem SaysS.xfn (c : SaysS fa fn xs file ex K) (i : Nat) {d : XcD} (h : xs[i]? = some d := by rfl) : fnC K (d.i K) = d.val := by
  have e : (xs.map fun d => fnC K (d.i K)) = xs.map XcD.val := congrArg (fun z : AlS => z.2.2) c
  have e2 : (xs.map fun d => fnC K (d.i K))[i]? = (xs.map XcD.val)[i]? := by rw [e]
  rw [List.getElem?_map, List.getElem?_map, h] at e2
  exact Option.some.inj e2
end
end SupX
namespace WD
open PySem PySem.Spec PyProof.Rows L2
/-- no list stands in the written part -/
def noLst (K : PySem.W.Frag) : Bool := K.all fun p => match p.2.cls with
  | .type c => decide (c ≠ "list")
  | _ => true
theorem rd_of {K : PySem.W.Frag} {H : Hp} {a : Addr} {xs : List V} (n : noLst K = true) (h : SqL K H a xs) : Rd H a (.lst xs) := by
  rcases h with h | ⟨o, its, k, h1, h2, _⟩
  · exact h
  · have mem : (a, o) ∈ K := by
      have key : ∀ l : List (Addr × Obj), l.lookup a = some o → (a, o) ∈ l := by
        intro l
        induction l with
        | nil => intro h; cases h
        | cons q l ih =>
          obtain ⟨b, u⟩ := q
          intro h
          rw [List.lookup_cons] at h
          cases z : (a == b) with
          | true =>
            rw [z] at h
            cases h
            rw [beq_iff_eq.mp z]
            exact List.mem_cons_self
          | false =>
            rw [z] at h
            exact List.mem_cons_of_mem _ (ih h)
      exact key K h1
    have y := List.all_eq_true.mp n _ mem
    simp only [h2] at y
    exact absurd rfl (of_decide_eq_true y)
end WD
end
section
set_option Elab.async false
set_option linter.all false
set_option maxRecDepth 100000
namespace WD
open PySem PySem.Spec PyProof.Rows L2 Evl
section
variable {P : Program} {w : World} {K : PySem.W.Frag} {mg : Str → Option Value} {base : Heap}
/-- a def that may raise, its body's reading -/
theorem fnX {x qual : Str} {st : Stmt} {f : Addr} {N ps : List Str} {k : Nat} {sp : Sp} (F : ∃ fd, FunD K x qual (defArgs st) (defBody st) (defScope st) [] [] f fd) (S : FnScope N ps (defScope st)) (len : ∀ vs H Q E, sp vs H Q E → vs.length = ps.length)
    (hb : ∀ (kV doc pm : Value) (an : Option Addr) (cdv ct : Value) (us : List Value), us.length = ps.length → bindArgs (PySem.W.fnOf x qual (defArgs st) (defBody st) (defScope st) .none kV doc pm an cdv ct) ⟨us, []⟩ = pure (ps.zip us))
    (hbody : ∀ (cdv : Value) (A : Around) (outer : List Env) (s : Shared) (H : Hp) (vs : List V) (Q : VK) (E : XK), Room k (A.deeper (envOfC qual (defScope st) s.heap.objs.size f cdv)) → sp vs H Q E →
      ∃ t, PSs (cxOf (L2.CX P w) P w K mg base N qual (defScope st) f cdv A outer s H E) (defBody st) t ∧ t { nx := fun _ H' => Q .non H', rt := Q } (start N vs) H) : FnG P w K mg base (k + 1) f ps sp := by
  obtain ⟨fd, F⟩ := F
  exact ⟨⟨fd, F.ok S len (fun cdv A outer s H vs Q E hr h => hbody cdv A outer s H vs Q E hr h), F.bindsN hb⟩, F.kp⟩
end
section
variable {X : Cx} {k : Nat} {f : Addr} {ps : List Str} {sp : Sp} {x : Str} {p pos : Pos} {e : Expr} {es : List Expr} {t : TA} {W : WX}
/-- a call that may raise -/
theorem pe_callSG (F : FnG X.prog X.w X.K X.mg X.base k f ps sp) (hr : Room k X.A) (hg : Gl X x) (hm : X.mg x = some (.ref f)) (tk : Takes X W) (ha : PA X (e :: es) t)
    (hdb : (x == ("__debug__" : Str)) = false := by decide) (hst : starEach (e :: es) X.env = (false, eval e X.env) :: starEach es X.env := by rfl) (hpl : (backTo pos (starEach es X.env)).any (·.1) = false := by rfl) :
    PE X (.Call (.Name x p) (e :: es) [] pos) (tCallS sp (WE W) t) := by
  obtain ⟨⟨fd, F, B⟩, kp⟩ := F
  exact pe_callS F hr hg hm kp B (fun σ => passAt tk σ) ha hdb hst hpl
end
end WD
end
section
set_option Elab.async false
set_option linter.all false
set_option maxRecDepth 100000
set_option maxHeartbeats 4000000
namespace RL
open PySem PySem.Spec PyProof.Rows PySem.F RT
section
variable {prog : Program} {w : World} {A : Around} {E : Value → Shared → Prop} {s : Shared}
/-- list(reversed(l)) -/
theorem call_list_rev {it l : Addr} {items : Array Value} {Q : Value → Shared → Prop} (hh : A.handled = none) (hit : s.heap.IsRevIter it l ((items.size : Int) - 1)) (hl : s.heap.IsList l items) (hne : l ≠ it) (hn : items.size ≤ sizeLine)
    (hQ : ∀ (h' : Heap) (tk : Nat) (acc : Array Value) (c : Nat), (∀ b o, b ≠ it → s.heap.get? b = some o → h'.get? b = some o) → h'.get? s.heap.objs.size = some { cls := .type "list", dict := none, data := .seq acc c, slots := #[] } → ItemsOf (fun i v => items[items.size - 1 - i]? = some v) acc items.size →
      Q (.ref s.heap.objs.size) { s with heap := h', toks := tk }) :
    wpAny (model prog w) A (call (.type "list") [.ref it]) Q E s := by
  have W := (Walks.listRev (prog := prog) (w := w) (A := A.in1.in1) hh it l hne items).toS
  obtain ⟨oi, hoi, _⟩ := id hit
  obtain ⟨ol, hol, _⟩ := id hl
  have hSi : s.heap.objs.size ≠ it := Nat.ne_of_gt (Heap.lt_size hoi)
  have hSl : s.heap.objs.size ≠ l := Nat.ne_of_gt (Heap.lt_size hol)
  have hSf : s.heap.objs.size ∉ [it, l] := by simp only [List.mem_cons, List.not_mem_nil, or_false, not_or]; exact ⟨hSi, hSl⟩
  refine callType_codes (Q₁ := fun obj s₁ => obj = .ref s.heap.objs.size ∧ s₁ = { s with heap := s.heap.push { cls := .type "list", data := .seq #[] } }) called_list (typeCall_list_1 _) entry_list_init (code_list_new _ ⟨rfl, rfl⟩) fun obj s₁ he => ?_
  obtain ⟨rfl, rfl⟩ := he
  have hS : (s.heap.push { cls := .type "list", data := .seq #[] }).get? s.heap.objs.size = some { cls := .type "list", data := .seq #[] } := Heap.get?_push_size _ rfl
  refine ⟨⟨_, hS, rfl⟩, args_list_init_2 _ _, ?_⟩
  show wpAny _ _ (do let old ← Builtin.List.listItems (.ref s.heap.objs.size); Builtin.List.listUpdate (.ref s.heap.objs.size) (fun _ => #[]); letGo old.toList.reverse; Builtin.List.listExtendWith (.ref s.heap.objs.size) (.ref it) .none) _ _ _
  refine wpAny_bind ?_
  unfold Builtin.List.listItems
  refine wpAny_bind (wpAny_seqItems hS rfl (wpAny_pure ?_))
  show wpAny _ _ (updateSeq s.heap.objs.size (fun _ => #[]) >>= fun _ => letGo (#[] : Array Value).toList.reverse >>= fun _ => Builtin.List.listExtendWith (.ref s.heap.objs.size) (.ref it) .none) _ _ _
  refine wpAny_bind (wpAny_updateSeq hS rfl ?_)
  have u1 := Heap.get?_update_self (Obj.mapSeq (fun _ => (#[] : Array Value))) hS rfl
  have oth : ∀ c o, s.heap.get? c = some o → ((s.heap.push { cls := .type "list", data := .seq #[] }).update s.heap.objs.size (Obj.mapSeq (fun _ => (#[] : Array Value)))).get? c = some o := fun c o e =>
    (Heap.get?_update_other _ _ (Nat.ne_of_gt (Heap.lt_size e))).trans (Heap.get?_push_of_some _ e)
  refine wpAny_bind (wpAny_letGo ?_)
  generalize hH : ((s.heap.push { cls := .type "list", data := .seq #[] }).update s.heap.objs.size (Obj.mapSeq (fun _ => (#[] : Array Value)))) = H1 at u1 oth ⊢
  have hit1 : H1.IsRevIter it l ((items.size : Int) - 1) := hit.at fun o e => oth _ o e
  have hl1 : H1.IsList l items := hl.at fun o e => oth _ o e
  have hT : ({ s with heap := H1 } : Shared).TypeIs (.ref it) "list_reverseiterator" := Heap.IsRevIter.typeIs (s := { s with heap := H1 }) hit1
  have h1 : Builtin.List.listSameRef (.ref s.heap.objs.size) (.ref it) = false := by simp [Builtin.List.listSameRef, hSi]
  unfold Builtin.List.listExtendWith
  refine wpAny_bind (wpAny_typeOf hT ?_)
  rw [if_neg (by rw [h1]; decide)]
  refine wpAny_bind (wpAny_pyIter_revIter (s := { s with heap := H1 }) hit1 ?_)
  refine wpAny_bind (wpAny_holding ?_)
  unfold Builtin.List.listLengthHint
  refine wpAny_bind (wpAny_specialOf hT nolen_lri ?_)
  show wpAny _ _ (specialOf (Value.ref it) (Str.ofString "__length_hint__") >>= _) _ _ _
  refine wpAny_bind (wpAny_specialOf hT hint_lri ?_)
  generalize hid : ("list_reverseiterator.__length_hint__" : String) = id0
  wp_delta
  rw [show splitId id0 = some ("list_reverseiterator", "__length_hint__") from by subst hid; decide +kernel]
  subst hid
  refine wpAny_bind (wpAny_isInstance (b := true) hT (by rw [isSubtype_type]; kernel_rfl) ?_)
  refine wpAny_pure ?_
  rw [if_neg (by decide)]
  have e0 : ((items.size : Nat) : Int) - 1 - ((0 : Nat) : Int) = (items.size : Int) - 1 := by omega
  refine wpAny_pure ⟨plainId_quiet plain_extend_loop _, codeAny_extend_loopS W hn _ hSf _ items.size 0 _ _ _ rfl (Nat.zero_le _) ⟨Nat.zero_le _, by rw [e0]; exact hit1, hl1⟩ u1 (ItemsOf.nil _) fun s' acc' c' hm hS' hacc => ?_⟩
  refine ⟨rfl, ?_⟩
  rw [Moved.eq_with hm]
  refine hQ s'.heap s'.toks acc' c' (fun b o hb e => hm.heap b o (fun hmem => ?_) (oth b o e)) hS' hacc
  rcases List.mem_cons.mp hmem with e' | hmem
  · exact absurd (Heap.lt_size e) (by rw [e']; exact Nat.lt_irrefl _)
  · exact hb (List.mem_singleton.mp hmem)
end
end RL
namespace L2
open PySem PySem.Spec PyProof.Rows
section
variable {X : Cx}
def tListRev (K : PySem.W.Frag) (te : TE) : TE := fun σ H Q => te σ H fun v H1 => ∃ (a : Addr) (xs : List V), v = .ref a ∧ SqL K H1 a xs ∧ ∀ q, H1 q = none → Q (.ref q) (upd H1 q (.lst xs.reverse))
theorem pe_listRev {e : Expr} {te : TE} {p p2 pos pos2 : Pos} (hc : X.calm = true) (hg : Gl X "list") (hm : X.mg "list" = none) (hg2 : Gl X "reversed") (hm2 : X.mg "reversed" = none) (he : PE X e te)
    (hs : starEach [e] X.env = (false, eval e X.env) :: starEach [] X.env := by rfl)
    (hs2 : starEach [.Call (.Name "reversed" p2) [e] [] pos2] X.env = (false, eval (.Call (.Name "reversed" p2) [e] [] pos2) X.env) :: starEach [] X.env := by rfl) :
    PE X (.Call (.Name "list" p) [.Call (.Name "reversed" p2) [e] [] pos2] [] pos) (tListRev X.K te) := by
  refine ⟨fun pins s σ H Q I h => ?_⟩
  refine Call_ (ld_blt I hg hm boot_list (PyProof.Rows.callWith_type1 (args_cons (Call_ (ld_blt I hg2 hm2 PyProof.Rows.boot_reversed (PyProof.Rows.callWith_type1 (args_cons (thn (he.run pins s σ H _ I h) fun u s1 ⟨v, H1, I1, r1, q1⟩ => args_nil ?_) hs) hs rfl))) hs2) hs2 rfl))
  obtain ⟨a, xs, ev, hq, q⟩ := q1
  subst ev
  obtain rfl : u = Value.ref a := r1
  obtain ⟨its, rv, p', hz⟩ := I1.list hq
  refine call_reversed_list p'.isList (args_nil ?_)
  have k0 : ∀ b o, s1.heap.get? b = some o → (s1.heap.push (revObj a ((its.toArray.size : Int) - 1))).get? b = some o := fun b o e => Heap.get?_push_of_some _ e
  have hl := p'.isList
  obtain ⟨ol, hol, _⟩ := id hl
  have hne : a ≠ s1.heap.objs.size := Nat.ne_of_lt (Heap.lt_size hol)
  have hn : its.toArray.size ≤ sizeLine := by rw [List.size_toArray, ← rv.length]; exact hz
  refine RL.call_list_rev (s := { s1 with heap := s1.heap.push (revObj a ((its.toArray.size : Int) - 1)) }) (I1.ok.hd hc) ⟨_, Heap.get?_push_size _ rfl, rfl, rfl⟩ (hl.push _) hne hn fun h' tk acc c hk hS hi => ?_
  have k1 : ∀ b o, s1.heap.get? b = some o → h'.get? b = some o := fun b o e => hk b o (Nat.ne_of_lt (Heap.lt_size e)) (k0 b o e)
  refine ⟨.ref _, upd H1 (s1.heap.push (revObj a ((its.toArray.size : Int) - 1))).objs.size (.lst xs.reverse), I1.laid (t' := tk) k1 (by rw [Heap.size_push]; omega) (show ObjOk X.prog X.w _ _ _ (.lst xs.reverse) from ⟨by rw [List.length_reverse]; exact hz, acc.toList, c, RT.vals_rev rv hi, ?_⟩), rfl, q _ (I1.hok.fresh (by rw [Heap.size_push]; omega))⟩
  rw [Array.toArray_toList]
  exact hS
/-- list(range(a, b, c)), c below 0: a, a + c .. -/
def tListRg3 (ta : TA) : TE := fun σ H Q => ta σ H fun vs H1 => ∃ (i j c : Int) (n : Nat), vs = [.int i, .int j, .int c] ∧ RgC i j c n ∧ n ≤ 2 ^ 20 ∧ ∀ q, H1 q = none → Q (.ref q) (upd H1 q (.lst ((List.range n).map fun k => V.int (i + (k : Nat) * c))))
theorem pe_listRg3 {a b c : Expr} {ta : TA} {p p2 pos pos2 : Pos} (hc : X.calm = true) (hg : Gl X "list") (hm : X.mg "list" = none) (hg2 : Gl X "range") (hm2 : X.mg "range" = none) (ha : PA X [a, b, c] ta)
    (hs : starEach [a, b, c] X.env = (false, eval a X.env) :: starEach [b, c] X.env := by rfl) (hpl : (backTo pos2 (starEach [b, c] X.env)).any (·.1) = false := by rfl)
    (hs2 : starEach [.Call (.Name "range" p2) [a, b, c] [] pos2] X.env = (false, eval (.Call (.Name "range" p2) [a, b, c] [] pos2) X.env) :: starEach [] X.env := by rfl) :
    PE X (.Call (.Name "list" p) [.Call (.Name "range" p2) [a, b, c] [] pos2] [] pos) (tListRg3 ta) := by
  refine ⟨fun pins s σ H Q I h => ?_⟩
  refine Call_ (ld_blt I hg hm boot_list (PyProof.Rows.callWith_type1 (args_cons (Call_ (ld_blt I hg2 hm2 boot_range (PyProof.Rows.callWith_type1 (thn (ha.run pos2 pins s σ H _ I h) fun us s1 ⟨vs, H1, I1, r1, q1⟩ => ?_) hs hpl))) hs2) hs2 rfl))
  obtain ⟨i, j, k, n, e, ⟨c0, c1, c2, c3⟩, hn, q⟩ := q1
  subst e
  cases r1 with
  | cons r rr =>
    cases rr with
    | cons r' rr =>
      cases rr with
      | cons r'' rr =>
        cases rr
        obtain ⟨t, rfl⟩ := r
        obtain ⟨t', rfl⟩ := r'
        obtain ⟨t'', rfl⟩ := r''
        refine call_range_3 c0 (args_nil ?_) (.inl (PyProof.noPylong_small c1))
        refine call_list_range (n := n) (I1.ok.hd hc) (IsRange.new ..) c2 c3 (Nat.le_trans hn (by decide)) fun h' tk acc cc hk e' hi => ?_
        have k0 : ∀ b o, s1.heap.get? b = some o → h'.get? b = some o := fun b o e => hk b o (Heap.get?_push_of_some _ e)
        refine ⟨.ref _, upd H1 _ (.lst ((List.range n).map fun m => V.int (i + (m : Nat) * k))), I1.laid (t' := tk) k0 (by rw [Heap.size_push]; omega) (show ObjOk X.prog X.w _ _ _ (.lst _) from ⟨?_, acc.toList, cc, ?_, ?_⟩), rfl, q _ (I1.hok.fresh (by rw [Heap.size_push]; omega))⟩
        · rw [List.length_map, List.length_range, sizeLine_eq]; omega
        · have el : acc.toList.length = n := by rw [Array.length_toList]; exact hi.1
          rw [← el]
          refine vals_of_get acc.toList _ fun m u hm => ?_
          obtain ⟨t, rfl⟩ := hi.2 m u (by rw [← hm, Array.getElem?_toList])
          exact ⟨t, rfl⟩
        · rw [Array.toArray_toList]; exact e'
/-- x in (.., ..), data of any depth in a tuple -/
def rInDT (K : PySem.W.Frag) : R2 := fun x y H Q => ∃ d ds, Dp K H x d ∧ Dp K H y (.tuple ds) ∧ PyData.canLay0 d = true ∧ PyData.canLayAll0 ds = true ∧ PyData.depthAll ds ≤ 60 ∧ Q (.bl (ds.any fun z => PyData.eqv z d)) H
theorem op_inDT (hu : X.A.units + 64 < cLine) : OpR X (compareOp .In) (rInDT X.K) := by
  intro pins s σ H x y v u Q I rx ry h
  obtain ⟨d, ds, hd, he, sd, se, hdp, q⟩ := h
  obtain ⟨as, r1⟩ := Dp.reads I d x v hd rx
  obtain ⟨bs, r2⟩ := Dp.reads I (.tuple ds) y u he ry
  exact SeqAt.in_tuple_reads r2 r1 se sd (by omega) ⟨.bl _, H, I, rfl, q⟩
section
variable {C f : Addr} {ps : List Str} {sp : Sp} {n : Nat} {e1 e2 : Expr} {ta tb : TE} {pos : Pos} {W : WX}
def tMakeX (C : Addr) (sp : Sp) (E : St → XK) (t : TA) : TE := fun σ H Q => t σ H fun vs H1 => ∀ x dx, H1 x = none → H1 dx = none → dx ≠ x → sp (.ref x :: vs) (upd (upd H1 dx (.own x)) x (.ins C dx [])) (fun v H2 => v = .non ∧ Q (.ref x) H2) (E σ)
theorem run_makeS {CX : CXT} {fd : FuncData} {pins : List (Addr × Obj)} {σ : St} {H : Hp} {s : Shared} {Q : VK} {E : XK} {us : List Value} {vs : List V} (M : Mk X.K C f) (F : FnOk X.prog X.w X.K X.mg X.base CX n f fd ps sp) (hr : Room (n + 1) X.A) (hb : Binds X.K fd ps [])
    (hx : PassesAt CX X σ E) (I : Inv X pins σ H s) (r : Vals vs us)
    (h : ∀ x dx, H x = none → H dx = none → dx ≠ x → sp (.ref x :: vs) (upd (upd H dx (.own x)) x (.ins C dx [])) (fun v H2 => v = .non ∧ Q (.ref x) H2) E) :
    wpAny (model X.prog X.w) X.A (call (.ref C) us) (EP X pins σ Q) X.xe s := by
  have hq := h (s.heap.objs.size + 1) s.heap.objs.size (I.hok.fresh (Nat.le_succ _)) (I.hok.fresh (Nat.le_refl _)) (Nat.ne_of_lt (Nat.lt_succ_self _))
  have I2 := Inv.made (C := C) I
  have r2 : Vals (V.ref (s.heap.objs.size + 1) :: vs) (Value.ref (s.heap.objs.size + 1) :: us) := .cons rfl r
  have hl : (Value.ref (s.heap.objs.size + 1) :: us).length = ps.length := by
    have e := r2.length
    rw [F.len _ _ _ _ hq] at e
    exact e.symm
  refine wpAny_call (make_map (f := f) I.kIn M.makes M.init (beq_iff_eq.mp M.fn) (codeAny_mono (F.run _ X.stack _ _ ⟨Value.ref (s.heap.objs.size + 1) :: us, []⟩ (Value.ref (s.heap.objs.size + 1) :: us) _ _ E (hr.make C us [])
    (I2.env0.make C us []) (by
      have b := hb _ (Value.ref (s.heap.objs.size + 1) :: us) I2.kIn (by rw [List.append_nil]; exact hl)
      rw [List.append_nil] at b
      exact b) r2 hq) fun r s' hq' => ?_))
  cases r with
  | error e => exact hx pins _ _ e s' I2 hq'
  | ok fl =>
    cases fl with
    | ret u =>
      obtain ⟨v, H', I3, rv, ev, q3⟩ := I2.after hq'
      subst ev
      exact ⟨rv, ⟨V.ref (s.heap.objs.size + 1), H', I3, rfl, q3⟩⟩
    | next => exact False.elim hq'
    | brk => exact False.elim hq'
    | cont => exact False.elim hq'
theorem pe_makeSG {e : Expr} {es : List Expr} {x : Str} {p : Pos} {t : TA} (M : Mk X.K C f) (F : WD.FnG X.prog X.w X.K X.mg X.base n f ps sp) (hr : Room (n + 1) X.A) (hg : Gl X x) (hm : X.mg x = some (.ref C)) (tk : Takes X W) (ha : PA X (e :: es) t)
    (hdb : (x == ("__debug__" : Str)) = false := by decide) (he : starEach (e :: es) X.env = (false, eval e X.env) :: starEach es X.env := by rfl) (hpl : (backTo pos (starEach es X.env)).any (·.1) = false := by rfl) :
    PE X (.Call (.Name x p) (e :: es) [] pos) (tMakeX C sp (WE W) t) := by
  obtain ⟨⟨fd, F, B⟩, kp⟩ := F
  refine ⟨fun pins s σ H Q I h => ?_⟩
  refine wpAny_Call_Name_kw (ld_glob I hg hm ?_ hdb)
  refine PySem.W.callWith_K (h₀ := X.base) I.ok.mod.kin M.kp (thn (ha.run pos pins s σ H _ I h) fun us s1 ⟨vs, H1, I1, r, q⟩ => ⟨I1.kIn, ?_⟩) he hpl
  exact run_makeS M F hr B (passAt tk σ) I1 r q
def tMethX (C : Addr) (m : Str) (sp : Sp) (E : St → XK) (ta : TE) (t : TA) : TE := fun σ H Q => ta σ H fun x H1 => ∃ a dx fs, x = .ref a ∧ H1 a = some (.ins C dx fs) ∧ fs.lookup m = none ∧ t σ H1 fun vs H2 => sp (.ref a :: vs) H2 Q (E σ)
theorem pe_methSG {o e : Expr} {es : List Expr} {m : Str} {apos : Pos} {t : TA} {pl : Sem Bool} (he : PE X o ta) (c : Cls X.K C) (hm : Meth X.K C m f) (F : WD.FnG X.prog X.w X.K X.mg X.base n f ps sp) (hr : Room n X.A) (tk : Takes X W) (ha : PA X (e :: es) t)
    (hst : starEach (e :: es) X.env = (false, eval e X.env) :: starEach es X.env := by rfl) (hpl : (backTo pos (starEach es X.env)).any (·.1) = false := by rfl)
    (ht : eval (.Call (.Attribute o m apos) (e :: es) [] pos) X.env = (do
      let ov ← eval o X.env
      standAt apos.atName
      let (f, first) ← holding [ov] (getMethod ov m pl)
      callWith pos f first (backTo pos (starEach (e :: es) X.env)) (backToKw pos (keywordEach [] X.env))) := by rfl) :
    PE X (.Call (.Attribute o m apos) (e :: es) [] pos) (tMethX C m sp (WE W) ta t) := by
  obtain ⟨⟨fd, F, B⟩, kp⟩ := F
  refine ⟨fun pins s σ H Q I h => ?_⟩
  refine PySem.W.methodCall_KW (pl := pl) (thn (he.run pins s σ H _ I h) fun u s1 ⟨x, H1, I1, rx, a, dx, fs, ex, ea, l, q⟩ => ?_) ht
  subst ex
  obtain rfl : u = Value.ref a := rx
  refine getmeth_ok I1 ea c hm l ?_
  refine PySem.W.callWith_K (first := [.ref a]) (h₀ := X.base) I.ok.mod.kin hm.kp (thn (ha.run pos pins s1 σ H1 _ I1 q) fun us s2 ⟨vs, H2, I2, r, q2⟩ => ⟨I2.kIn, ?_⟩) hst hpl
  exact run_fnS (E := fun _ => WE W σ) (us := .ref a :: us) (vs := .ref a :: vs) F hr B (passAt tk σ) I2 (.cons rfl r) q2
end
end
end L2
end
section
set_option Elab.async false
set_option linter.all false
set_option maxRecDepth 100000
namespace PM
open PySem L2 Evl
/-- what is known of the module, and the world (for what texts hash to) -/
structure Kw where
  K : PySem.W.Frag
  w : World
instance : CoeOut Kw PySem.W.Frag := ⟨Kw.K⟩
abbrev _root_.L2.Cx.kw (X : L2.Cx) : Kw := ⟨X.K, X.w⟩
inductive D where
  | non | bl (b : Bool) | int (i : Int) | str (x : Str)
  | tup (ds : List D) | lst (ds : List D) | obj (c : Str) (fs : List (Str × D)) | ptr (n : Nat) | scr (ns : List Int)
instance : Inhabited D := ⟨.non⟩
inductive Cell where
  | lst (ds : List D) | obj (c : Str) (fs : List (Str × D)) | dead | dic (kvs : List (Key × D))
abbrev Sto := List Cell
/-- an exception: its class, its one field -/
structure Er where
  cls : Str
  arg : Option (Str × D)
inductive Out (α : Type) where
  | ok (a : α) (s : Sto) | er (x : Er) (s : Sto) | no
abbrev M (α : Type) := Sto → Out α
def ret {α : Type} (a : α) : M α := fun s => .ok a s
def Out.then {α β : Type} (o : Out α) (f : α → M β) : Out β := match o with
  | .ok a s => f a s
  | .er x s => .er x s
  | .no => .no
def bind {α β : Type} (m : M α) (f : α → M β) : M β := fun s => (m s).then f
def stuck {α : Type} : M α := fun _ => .no
structure Env where
  sl : List (Option D)
  ex : Option (Nat × Er)
inductive SO where
  | nx (e : Env) (s : Sto) | rt (d : D) (s : Sto) | bk (e : Env) (s : Sto) | ct (e : Env) (s : Sto) | er (x : Er) (e : Env) (s : Sto) | no
abbrev Stm := Env → Sto → SO
@[simp] theorem ret_ap {α : Type} (a : α) (s : Sto) : ret a s = .ok a s := rfl
@[simp] theorem bind_ap {α β : Type} (m : M α) (f : α → M β) (s : Sto) : bind m f s = (m s).then f := rfl
@[simp] theorem then_ok {α β : Type} (a : α) (s : Sto) (f : α → M β) : (Out.ok a s).then f = f a s := rfl
@[simp] theorem then_er {α β : Type} (x : Er) (s : Sto) (f : α → M β) : (Out.er x s).then f = .er x s := rfl
@[simp] theorem then_no {α β : Type} (f : α → M β) : (Out.no : Out α).then f = .no := rfl
@[simp] theorem stuck_ap {α : Type} (s : Sto) : (stuck : M α) s = .no := rfl
def Out.sat {α : Type} (o : Out α) (P : α → Sto → Prop) (E : Er → Sto → Prop) : Prop := match o with
  | .ok a s => P a s
  | .er x s => E x s
  | .no => False
theorem sat_then {α β : Type} {o : Out α} {f : α → M β} {P : β → Sto → Prop} {E : Er → Sto → Prop} : (o.then f).sat P E ↔ o.sat (fun a s => (f a s).sat P E) E := by
  cases o <;> exact Iff.rfl
theorem Out.sat.imp {α : Type} {o : Out α} {P P' : α → Sto → Prop} {E E' : Er → Sto → Prop} (h : o.sat P E) (hp : ∀ a s, P a s → P' a s) (he : ∀ x s, E x s → E' x s) : o.sat P' E' := by
  cases o with
  | ok a s => exact hp a s h
  | er x s => exact he x s h
  | no => exact h
def SO.sat (o : SO) (N : Env → Sto → Prop) (R : D → Sto → Prop) (B C : Env → Sto → Prop) (E : Er → Env → Sto → Prop) : Prop := match o with
  | .nx e s => N e s
  | .rt d s => R d s
  | .bk e s => B e s
  | .ct e s => C e s
  | .er x e s => E x e s
  | .no => False
theorem SO.sat.imp {o : SO} {N N' B B' C C' : Env → Sto → Prop} {R R' : D → Sto → Prop} {E E' : Er → Env → Sto → Prop} (h : o.sat N R B C E) (hn : ∀ e s, N e s → N' e s) (hr : ∀ d s, R d s → R' d s) (hb : ∀ e s, B e s → B' e s) (hc : ∀ e s, C e s → C' e s) (he : ∀ x e s, E x e s → E' x e s) : o.sat N' R' B' C' E' := by
  cases o with
  | nx e s => exact hn e s h
  | rt d s => exact hr d s h
  | bk e s => exact hb e s h
  | ct e s => exact hc e s h
  | er x e s => exact he x e s h
  | no => exact h
/-- F: what is known and stays; B: where the cells stand; U: what stands there and is nobody's business -/
structure Wd where
  F : Hp
  B : List Addr
  U : Hp
structure Wd.le (w w' : Wd) : Prop where
  f : Ex w.F w'.F
  b : w.B <+: w'.B
  u : w'.U = w.U
theorem Wd.le.refl (w : Wd) : w.le w := ⟨Ex.refl _, List.prefix_rfl, rfl⟩
theorem Wd.le.trans {a b c : Wd} (h : a.le b) (g : b.le c) : a.le c := ⟨h.f.trans g.f, h.b.trans g.b, g.u.trans h.u⟩
mutual
inductive VR (K : Kw) (w : Wd) : V → D → Prop
  | non : VR K w .non .non
  | bl (b : Bool) : VR K w (.bl b) (.bl b)
  | int (i : Int) : VR K w (.int i) (.int i)
  | str (x : Str) : VR K w (.str x) (.str x)
  | tup {a : Addr} {xs : List V} {ds : List D} : SqT K w.F a xs → VRs K w xs ds → VR K w (.ref a) (.tup ds)
  | lst {a : Addr} {xs : List V} {ds : List D} : w.F a = some (.lst xs) → VRs K w xs ds → VR K w (.ref a) (.lst ds)
  | scr {a : Addr} {ns : List Int} : Rd w.F a (.lst (ns.map V.int)) → VR K w (.ref a) (.scr ns)
  | obj {a dx : Addr} {c : Str} {fvs : List (Str × V)} {fs : List (Str × D)} : w.F a = some (.ins (He.ga K c) dx fvs) → VRf K w fvs fs → VR K w (.ref a) (.obj c fs)
  | ptr {a : Addr} {n : Nat} : w.B[n]? = some a → VR K w (.ref a) (.ptr n)
inductive VRs (K : Kw) (w : Wd) : List V → List D → Prop
  | nil : VRs K w [] []
  | cons {v : V} {vs : List V} {d : D} {ds : List D} : VR K w v d → VRs K w vs ds → VRs K w (v :: vs) (d :: ds)
inductive VRf (K : Kw) (w : Wd) : List (Str × V) → List (Str × D) → Prop
  | nil : VRf K w [] []
  | cons {n : Str} {v : V} {vs : List (Str × V)} {d : D} {ds : List (Str × D)} : VR K w v d → VRf K w vs ds → VRf K w ((n, v) :: vs) ((n, d) :: ds)
end
section
variable {K : Kw} {w w' : Wd}
theorem pre_get {α : Type} {l l' : List α} {n : Nat} {a : α} (h : l <+: l') (e : l[n]? = some a) : l'[n]? = some a := by
  obtain ⟨r, rfl⟩ := h
  rw [List.getElem?_append_left (List.getElem?_eq_some_iff.mp e).1]
  exact e
mutual
theorem VR.up (e : w.le w') : ∀ {v : V} {d : D}, VR K w v d → VR K w' v d
  | _, _, .non => .non
  | _, _, .bl b => .bl b
  | _, _, .int i => .int i
  | _, _, .str x => .str x
  | _, _, .tup h a => .tup (ex_t e.f h) (VRs.up e a)
  | _, _, .lst h a => .lst (e.f _ _ h) (VRs.up e a)
  | _, _, .scr h => .scr (ex_rd e.f h)
  | _, _, .obj h a => .obj (e.f _ _ h) (VRf.up e a)
  | _, _, .ptr h => .ptr (pre_get e.b h)
theorem VRs.up (e : w.le w') : ∀ {v : List V} {d : List D}, VRs K w v d → VRs K w' v d
  | _, _, .nil => .nil
  | _, _, .cons h a => .cons (VR.up e h) (VRs.up e a)
theorem VRf.up (e : w.le w') : ∀ {v : List (Str × V)} {d : List (Str × D)}, VRf K w v d → VRf K w' v d
  | _, _, .nil => .nil
  | _, _, .cons h a => .cons (VR.up e h) (VRf.up e a)
end
theorem nd_ix {α : Type} : ∀ {l : List α} {i j : Nat} {a : α}, l.Nodup → l[i]? = some a → l[j]? = some a → i = j
  | [], _, _, _, _, h, _ => by simp at h
  | x :: l, 0, 0, _, _, _, _ => rfl
  | x :: l, 0, j + 1, a, n, h, g => by
    simp at h g
    subst h
    exact absurd (List.mem_of_getElem? g) (List.nodup_cons.mp n).1
  | x :: l, i + 1, 0, a, n, h, g => by
    simp at h g
    subst g
    exact absurd (List.mem_of_getElem? h) (List.nodup_cons.mp n).1
  | x :: l, i + 1, j + 1, a, n, h, g => congrArg Nat.succ (nd_ix (List.nodup_cons.mp n).2 (by simpa using h) (by simpa using g))
theorem VRs.len : ∀ {vs : List V} {ds : List D}, VRs K w vs ds → vs.length = ds.length
  | _, _, .nil => rfl
  | _, _, .cons _ a => congrArg Nat.succ (VRs.len a)
theorem VRs.get : ∀ {vs : List V} {ds : List D} {i : Nat} {d : D}, VRs K w vs ds → ds[i]? = some d → ∃ v, vs[i]? = some v ∧ VR K w v d
  | _, _, _, _, .nil, h => by simp at h
  | _, _, 0, _, .cons h _, e => by
    simp at e
    subst e
    exact ⟨_, rfl, h⟩
  | _, _, i + 1, _, .cons _ a, e => by
    obtain ⟨v, h1, h2⟩ := VRs.get (i := i) a (by simpa using e)
    exact ⟨v, by simpa using h1, h2⟩
theorem VRs.app : ∀ {vs ws : List V} {ds es : List D}, VRs K w vs ds → VRs K w ws es → VRs K w (vs ++ ws) (ds ++ es)
  | _, _, _, _, .nil, b => b
  | _, _, _, _, .cons h a, b => .cons h (VRs.app a b)
theorem VRs.one {v : V} {d : D} (h : VR K w v d) : VRs K w [v] [d] := .cons h .nil
theorem VRs.drop : ∀ {vs : List V} {ds : List D} (n : Nat), VRs K w vs ds → VRs K w (vs.drop n) (ds.drop n)
  | _, _, 0, h => h
  | _, _, _ + 1, .nil => .nil
  | _, _, n + 1, .cons _ a => VRs.drop n a
theorem VRs.take : ∀ {vs : List V} {ds : List D} (n : Nat), VRs K w vs ds → VRs K w (vs.take n) (ds.take n)
  | _, _, 0, _ => .nil
  | _, _, _ + 1, .nil => .nil
  | _, _, n + 1, .cons h a => .cons h (VRs.take n a)
theorem VRs.set {v : V} {d : D} (h : VR K w v d) : ∀ {vs : List V} {ds : List D} (n : Nat), VRs K w vs ds → VRs K w (vs.set n v) (ds.set n d)
  | _, _, _, .nil => .nil
  | _, _, 0, .cons _ a => .cons h a
  | _, _, n + 1, .cons g a => .cons g (VRs.set h n a)
theorem VRs.rep : ∀ {vs : List V} {ds : List D} (n : Nat), VRs K w vs ds → VRs K w (List.replicate n vs).flatten (List.replicate n ds).flatten
  | _, _, 0, _ => .nil
  | _, _, n + 1, h => by
    rw [List.replicate_succ, List.replicate_succ, List.flatten_cons, List.flatten_cons]
    exact h.app (VRs.rep n h)
theorem VRs.rev {vs : List V} {ds : List D} (h : VRs K w vs ds) : VRs K w vs.reverse ds.reverse := by
  induction h using VRs.rec (motive_1 := fun _ _ _ => True) (motive_3 := fun _ _ _ => True) with
  | nil => exact .nil
  | cons h a _ ih =>
    rw [List.reverse_cons, List.reverse_cons]
    exact ih.app (.one h)
  | _ => trivial
theorem VRs.ints : ∀ (ns : List Int), VRs K w (ns.map V.int) (ns.map D.int)
  | [] => .nil
  | n :: ns => .cons (.int n) (VRs.ints ns)
theorem VRf.look {f : Str} {d : D} : ∀ {vs : List (Str × V)} {ds : List (Str × D)}, VRf K w vs ds → ds.lookup f = some d → ∃ v, vs.lookup f = some v ∧ VR K w v d
  | _, _, .nil, h => by simp at h
  | _, _, .cons (n := n) h a, e => by
    rw [List.lookup_cons] at e ⊢
    cases q : (f == n) with
    | true =>
      rw [q] at e
      cases e
      exact ⟨_, rfl, h⟩
    | false =>
      rw [q] at e
      exact VRf.look a e
theorem VRf.none {f : Str} : ∀ {vs : List (Str × V)} {ds : List (Str × D)}, VRf K w vs ds → ds.lookup f = none → vs.lookup f = none
  | _, _, .nil, _ => rfl
  | _, _, .cons (n := n) h a, e => by
    rw [List.lookup_cons] at e ⊢
    cases q : (f == n) with
    | true =>
      rw [q] at e
      cases e
    | false =>
      rw [q] at e
      exact VRf.none a e
theorem VRf.len : ∀ {vs : List (Str × V)} {ds : List (Str × D)}, VRf K w vs ds → vs.length = ds.length
  | _, _, .nil => rfl
  | _, _, .cons _ a => congrArg Nat.succ (VRf.len a)
def putD (f : Str) (v : D) : List (Str × D) → List (Str × D)
  | [] => [(f, v)]
  | (g, x) :: r => if g = f then (g, v) :: r else (g, x) :: putD f v r
theorem VRf.put {f : Str} {v : V} {d : D} (h : VR K w v d) : ∀ {vs : List (Str × V)} {ds : List (Str × D)}, VRf K w vs ds → VRf K w (putF f v vs) (putD f d ds)
  | _, _, .nil => .cons h .nil
  | _, _, .cons (n := n) g a => by
    unfold putF putD
    by_cases e : n = f
    · rw [if_pos e, if_pos e]
      exact .cons h a
    · rw [if_neg e, if_neg e]
      exact .cons g (VRf.put h a)
end
/-- what is hidden does not matter to values -/
structure Wd.eqv (w w' : Wd) : Prop where
  f : w'.F = w.F
  b : w'.B = w.B
section
variable {K : Kw} {w w' : Wd}
mutual
theorem VR.via (e : w.eqv w') : ∀ {v : V} {d : D}, VR K w v d → VR K w' v d
  | _, _, .non => .non
  | _, _, .bl b => .bl b
  | _, _, .int i => .int i
  | _, _, .str x => .str x
  | _, _, .tup h a => .tup (e.f ▸ h) (VRs.via e a)
  | _, _, .lst h a => .lst (e.f ▸ h) (VRs.via e a)
  | _, _, .scr h => .scr (e.f ▸ h)
  | _, _, .obj h a => .obj (e.f ▸ h) (VRf.via e a)
  | _, _, .ptr h => .ptr (e.b ▸ h)
theorem VRs.via (e : w.eqv w') : ∀ {v : List V} {d : List D}, VRs K w v d → VRs K w' v d
  | _, _, .nil => .nil
  | _, _, .cons h a => .cons (VR.via e h) (VRs.via e a)
theorem VRf.via (e : w.eqv w') : ∀ {v : List (Str × V)} {d : List (Str × D)}, VRf K w v d → VRf K w' v d
  | _, _, .nil => .nil
  | _, _, .cons h a => .cons (VR.via e h) (VRf.via e a)
end
end
def Cell.live : Cell → Bool
  | .dead => false
  | _ => true
def CellOk (K : Kw) (w : Wd) (H : Hp) (a : Addr) : Cell → Prop
  | .lst ds => ∃ xs, H a = some (.lst xs) ∧ VRs K w xs ds
  | .obj c fs => ∃ dx fvs, H a = some (.ins (He.ga K c) dx fvs) ∧ VRf K w fvs fs
  | .dead => True
  | .dic kvs => ∃ vs : List (Key × V), H a = some (.dK vs) ∧ vs.map (·.1) = kvs.map (·.1) ∧ VRs K w (vs.map (·.2)) (kvs.map (·.2))
structure Rel (K : Kw) (w : Wd) (S : Sto) (H : Hp) : Prop where
  ex : Ex w.F H
  len : w.B.length = S.length
  nd : w.B.Nodup
  used : ∀ a ∈ w.B, ∃ o, H a = some o
  cell : ∀ (n : Nat) (a : Addr) (c : Cell), w.B[n]? = some a → S[n]? = some c → c.live = true → w.F a = none ∧ CellOk K w H a c
  hid : ∀ (a : Addr) (o : HO), w.U a = some o → H a = some o ∧ w.F a = none ∧ a ∉ w.B
section
variable {K : Kw} {w w' : Wd} {S : Sto} {H H' : Hp}
theorem CellOk.up {a : Addr} {c : Cell} (e : w.le w') (h : CellOk K w H a c) (hh : H' a = H a) : CellOk K w' H' a c := by
  cases c with
  | lst ds =>
    obtain ⟨xs, h1, h2⟩ := h
    exact ⟨xs, hh.trans h1, h2.up e⟩
  | obj c fs =>
    obtain ⟨dx, fvs, h1, h2⟩ := h
    exact ⟨dx, fvs, hh.trans h1, h2.up e⟩
  | dic kvs =>
    obtain ⟨vs, h1, h2, h3⟩ := h
    exact ⟨vs, hh.trans h1, h2, h3.up e⟩
  | dead => trivial
theorem CellOk.via {a : Addr} {c : Cell} (e : w.eqv w') (h : CellOk K w H a c) (hh : H' a = H a) : CellOk K w' H' a c := by
  cases c with
  | lst ds =>
    obtain ⟨xs, h1, h2⟩ := h
    exact ⟨xs, hh.trans h1, h2.via e⟩
  | obj c fs =>
    obtain ⟨dx, fvs, h1, h2⟩ := h
    exact ⟨dx, fvs, hh.trans h1, h2.via e⟩
  | dic kvs =>
    obtain ⟨vs, h1, h2, h3⟩ := h
    exact ⟨vs, hh.trans h1, h2, h3.via e⟩
  | dead => trivial
/-- the known part grows by an object at p, new -/
def Wd.plus (w : Wd) (p : Addr) (o : HO) : Wd := ⟨upd w.F p o, w.B, w.U⟩
theorem Rel.fresh (r : Rel K w S H) {p : Addr} (h : H p = none) : w.F p = none := fresh_back r.ex h
theorem Wd.le_plus {p : Addr} {o : HO} (h : w.F p = none) : w.le (w.plus p o) := ⟨Ex.new h, List.prefix_rfl, rfl⟩
theorem Rel.plus (r : Rel K w S H) {p : Addr} {o : HO} (h : H p = none) : w.le (w.plus p o) ∧ Rel K (w.plus p o) S (upd H p o) := by
  have hF := r.fresh h
  have le : w.le (w.plus p o) := Wd.le_plus hF
  refine ⟨le, ?_, r.len, r.nd, fun a ha => ?_, fun n a c h1 h2 h3 => ?_, fun a u hu => by
    obtain ⟨k1, k2, k3⟩ := r.hid a u hu
    have ne : a ≠ p := ne_of_none k1 h
    exact ⟨by rw [upd_ne ne]; exact k1, show upd w.F p o a = none by rw [upd_ne ne]; exact k2, k3⟩⟩
  · intro a u e
    by_cases q : a = p
    · subst q
      have : upd w.F a o a = some u := e
      rw [upd_same] at this
      rw [upd_same]
      exact this
    · have : upd w.F p o a = some u := e
      rw [upd_ne q] at this
      rw [upd_ne q]
      exact r.ex a u this
  · obtain ⟨u, hu⟩ := r.used a ha
    exact ⟨u, by rw [upd_ne (ne_of_none hu h)]; exact hu⟩
  · obtain ⟨g1, g2⟩ := r.cell n a c h1 h2 h3
    obtain ⟨u, hu⟩ := r.used a (List.mem_of_getElem? h1)
    have ne : a ≠ p := ne_of_none hu h
    exact ⟨show upd w.F p o a = none by rw [upd_ne ne]; exact g1, g2.up le (upd_ne ne)⟩
/-- the heap grows by things that nobody speaks of -/
theorem Rel.grow (r : Rel K w S H) (e : Ex H H') : Rel K w S H' := by
  refine ⟨r.ex.trans e, r.len, r.nd, fun a ha => ?_, fun n a c h1 h2 h3 => ?_, fun a u hu => ⟨e a u (r.hid a u hu).1, (r.hid a u hu).2⟩⟩
  · obtain ⟨u, hu⟩ := r.used a ha
    exact ⟨u, e a u hu⟩
  · obtain ⟨g1, g2⟩ := r.cell n a c h1 h2 h3
    obtain ⟨u, hu⟩ := r.used a (List.mem_of_getElem? h1)
    exact ⟨g1, g2.up (Wd.le.refl w) ((e a u hu).trans hu.symm)⟩
/-- a new cell -/
def Wd.cell (w : Wd) (p : Addr) : Wd := ⟨w.F, w.B ++ [p], w.U⟩
theorem Wd.le_cell {p : Addr} : w.le (w.cell p) := ⟨Ex.refl _, List.prefix_append _ _, rfl⟩
theorem Rel.newcell (r : Rel K w S H) {p : Addr} {o : HO} {c : Cell} (h : H p = none) (hc : CellOk K w (upd H p o) p c) : Rel K (w.cell p) (S ++ [c]) (upd H p o) := by
  have np : p ∉ w.B := fun hp => by
    obtain ⟨u, hu⟩ := r.used p hp
    rw [h] at hu
    cases hu
  refine ⟨fun a u e => ?_, by simp [Wd.cell, r.len], ?_, fun a ha => ?_, fun n a c' h1 h2 h3 => ?_, fun a u hu => by
    obtain ⟨k1, k2, k3⟩ := r.hid a u hu
    have ne : a ≠ p := ne_of_none k1 h
    exact ⟨by rw [upd_ne ne]; exact k1, k2, fun z => by
      rcases List.mem_append.mp (show a ∈ w.B ++ [p] from z) with z | z
      · exact k3 z
      · exact ne (List.mem_singleton.mp z)⟩⟩
  · have := r.ex a u e
    rw [upd_ne (ne_of_none this h)]
    exact this
  · exact List.nodup_append.mpr ⟨r.nd, by simp, fun a ha b hb => by
      rw [List.mem_singleton.mp hb]
      exact fun z => np (z ▸ ha)⟩
  · rcases List.mem_append.mp ha with ha | ha
    · obtain ⟨u, hu⟩ := r.used a ha
      exact ⟨u, by rw [upd_ne (ne_of_none hu h)]; exact hu⟩
    · rw [List.mem_singleton.mp ha]
      exact ⟨o, upd_same⟩
  · have h1' : (w.B ++ [p])[n]? = some a := h1
    by_cases hn : n < w.B.length
    · rw [List.getElem?_append_left hn] at h1'
      rw [List.getElem?_append_left (by rw [← r.len]; exact hn)] at h2
      obtain ⟨g1, g2⟩ := r.cell n a c' h1' h2 h3
      have ne : a ≠ p := fun z => np (z ▸ List.mem_of_getElem? h1')
      exact ⟨g1, g2.up Wd.le_cell (upd_ne ne)⟩
    · have e : n = w.B.length := by
        have := (List.getElem?_eq_some_iff.mp h1').1
        simp at this
        omega
      subst e
      rw [List.getElem?_append_right (Nat.le_refl _), Nat.sub_self] at h1'
      rw [List.getElem?_append_right (by rw [r.len]; exact Nat.le_refl _), r.len, Nat.sub_self] at h2
      cases h1'
      cases h2
      exact ⟨r.fresh h, hc.up Wd.le_cell rfl⟩
theorem cell_at (p : Addr) (r : Rel K w S H) : (w.cell p).B[S.length]? = some p := by
  show (w.B ++ [p])[S.length]? = some p
  rw [← r.len, List.getElem?_append_right (Nat.le_refl _), Nat.sub_self]
  rfl
/-- a cell is written -/
theorem Rel.put (r : Rel K w S H) {n : Nat} {a : Addr} {c0 c : Cell} {o : HO} (h1 : w.B[n]? = some a) (h2 : S[n]? = some c0) (h3 : c0.live = true) (hc : CellOk K w (upd H a o) a c) : Rel K w (S.set n c) (upd H a o) := by
  obtain ⟨f0, _⟩ := r.cell n a c0 h1 h2 h3
  refine ⟨fun b u e => ?_, by rw [r.len, List.length_set], r.nd, fun b hb => ?_, fun m b c' g1 g2 g3 => ?_, fun b u hu => by
    obtain ⟨k1, k2, k3⟩ := r.hid b u hu
    have ne : b ≠ a := fun z => k3 (z ▸ List.mem_of_getElem? h1)
    exact ⟨by rw [upd_ne ne]; exact k1, k2, k3⟩⟩
  · rw [upd_ne (ne_of_none e f0)]
    exact r.ex b u e
  · by_cases q : b = a
    · subst q
      exact ⟨o, upd_same⟩
    · obtain ⟨u, hu⟩ := r.used b hb
      exact ⟨u, by rw [upd_ne q]; exact hu⟩
  · by_cases q : m = n
    · subst q
      rw [h1] at g1
      cases g1
      rw [List.getElem?_set_self (List.getElem?_eq_some_iff.mp h2).1] at g2
      cases g2
      exact ⟨f0, hc⟩
    · rw [List.getElem?_set_ne (fun z => q z.symm)] at g2
      obtain ⟨k1, k2⟩ := r.cell m b c' g1 g2 g3
      have ne : b ≠ a := fun z => by
        subst z
        exact q (nd_ix r.nd g1 h1)
      exact ⟨k1, k2.up (Wd.le.refl w) (upd_ne ne)⟩
/-- a cell becomes known: never to be written again -/
theorem Rel.freeze (r : Rel K w S H) {n : Nat} {a : Addr} {c : Cell} {o : HO} (h1 : w.B[n]? = some a) (h2 : S[n]? = some c) (h3 : c.live = true) (ho : H a = some o) : w.le (w.plus a o) ∧ Rel K (w.plus a o) (S.set n .dead) H := by
  obtain ⟨f0, _⟩ := r.cell n a c h1 h2 h3
  have le : w.le (w.plus a o) := Wd.le_plus f0
  refine ⟨le, fun b u e => ?_, by rw [List.length_set]; exact r.len, r.nd, r.used, fun m b c' g1 g2 g3 => ?_, fun b u hu => by
    obtain ⟨k1, k2, k3⟩ := r.hid b u hu
    have ne : b ≠ a := fun z => k3 (z ▸ List.mem_of_getElem? h1)
    exact ⟨k1, show upd w.F a o b = none by rw [upd_ne ne]; exact k2, k3⟩⟩
  · have e' : upd w.F a o b = some u := e
    by_cases q : b = a
    · subst q
      rw [upd_same] at e'
      cases e'
      exact ho
    · rw [upd_ne q] at e'
      exact r.ex b u e'
  · by_cases q : m = n
    · subst q
      rw [List.getElem?_set_self (List.getElem?_eq_some_iff.mp h2).1] at g2
      cases g2
      cases g3
    · rw [List.getElem?_set_ne (fun z => q z.symm)] at g2
      obtain ⟨k1, k2⟩ := r.cell m b c' g1 g2 g3
      have ne : b ≠ a := fun z => by
        subst z
        exact q (nd_ix r.nd g1 h1)
      exact ⟨show upd w.F a o b = none by rw [upd_ne ne]; exact k1, k2.up le rfl⟩
/-- something hidden: it stands there, unknown -/
def Wd.hide (w : Wd) (p : Addr) (o : HO) : Wd := ⟨w.F, w.B, upd w.U p o⟩
theorem Rel.hide (r : Rel K w S H) {p : Addr} {o : HO} (h : H p = none) : Rel K (w.hide p o) S (upd H p o) := by
  have r2 := r.grow (Ex.new (o := o) h)
  refine ⟨r2.ex, r2.len, r2.nd, r2.used, fun n a c h1 h2 h3 => ⟨(r2.cell n a c h1 h2 h3).1, CellOk.via (w := w) (w' := w.hide p o) ⟨rfl, rfl⟩ (r2.cell n a c h1 h2 h3).2 rfl⟩, fun a u hu => ?_⟩
  by_cases q : a = p
  · subst q
    have : upd w.U a o a = some u := hu
    rw [upd_same] at this
    cases this
    exact ⟨upd_same, r.fresh h, fun z => by
      obtain ⟨v, hv⟩ := r.used a z
      rw [h] at hv
      cases hv⟩
  · have : upd w.U p o a = some u := hu
    rw [upd_ne q] at this
    exact r2.hid a u this
/-- .. it changes -/
theorem Rel.rehide {p : Addr} {o : HO} (r : Rel K (w.hide p o) S H) {o' : HO} : Rel K (w.hide p o') S (upd H p o') := by
  obtain ⟨k1, k2, k3⟩ := r.hid p o upd_same
  have nB : ∀ a ∈ w.B, a ≠ p := fun a ha z => k3 (z ▸ ha)
  refine ⟨fun a u e => ?_, r.len, r.nd, fun a ha => ?_, fun n a c h1 h2 h3 => ?_, fun a u hu => ?_⟩
  · rw [upd_ne (ne_of_none e k2)]
    exact r.ex a u e
  · obtain ⟨v, hv⟩ := r.used a ha
    exact ⟨v, by rw [upd_ne (nB a ha)]; exact hv⟩
  · obtain ⟨g1, g2⟩ := r.cell n a c h1 h2 h3
    exact ⟨g1, CellOk.via (w := w.hide p o) (w' := w.hide p o') ⟨rfl, rfl⟩ g2 (upd_ne (nB a (List.mem_of_getElem? h1)))⟩
  · by_cases q : a = p
    · subst q
      have : upd w.U a o' a = some u := hu
      rw [upd_same] at this
      cases this
      exact ⟨upd_same, k2, k3⟩
    · have e1 : upd w.U p o' a = some u := hu
      rw [upd_ne q] at e1
      obtain ⟨m1, m2, m3⟩ := r.hid a u (by show upd w.U p o a = some u; rw [upd_ne q]; exact e1)
      exact ⟨by rw [upd_ne q]; exact m1, m2, m3⟩
/-- .. it is let go of -/
theorem Rel.unhide {p : Addr} {o : HO} (r : Rel K (w.hide p o) S H) (hu : ∀ a u, w.U a = some u → a ≠ p) : Rel K w S H := 
  ⟨r.ex, r.len, r.nd, r.used, fun n a c h1 h2 h3 => ⟨(r.cell n a c h1 h2 h3).1, CellOk.via (w := w.hide p o) (w' := w) ⟨rfl, rfl⟩ (r.cell n a c h1 h2 h3).2 rfl⟩, fun a u h => r.hid a u (by show upd w.U p o a = some u; rw [upd_ne (hu a u h)]; exact h)⟩
end
end PM
end
section
set_option Elab.async false
set_option linter.all false
set_option maxRecDepth 100000
namespace PM
open PySem L2 Evl
/-- where a text is read: the module's facts, what is wished of an exception, the exception that a suite holds -/
structure Ct where
  K : Kw
  W : WX
  sx : Addr × Value × Option Addr
def ErR (K : Kw) (w : Wd) (x : Er) (c : Value) (dd : Option Addr) : Prop := c = .ref (He.ga K x.cls) ∧ match x.arg with
  | none => True
  | some (f, d) => ∃ a v, dd = some a ∧ w.F a = some (.xd [(f, v)]) ∧ VR K w v d
theorem ErR.up {K : Kw} {w w' : Wd} {x : Er} {c : Value} {dd : Option Addr} (e : w.le w') (h : ErR K w x c dd) : ErR K w' x c dd := by
  refine ⟨h.1, ?_⟩
  have h2 := h.2
  cases q : x.arg with
  | none => trivial
  | some p =>
    rw [q] at h2
    obtain ⟨a, v, h3, h4, h5⟩ := h2
    exact ⟨a, v, h3, e.f _ _ h4, h5.up e⟩
structure EnvR (C : Ct) (w : Wd) (σ : L2.St) (e : Env) : Prop where
  len : σ.length = e.sl.length
  sl : ∀ (i : Nat) (d : D), e.sl[i]? = some (some d) → ∃ v, σ[i]? = some (some v) ∧ VR C.K w v d
  ex : ∀ (i : Nat) (x : Er), e.ex = some (i, x) → σ[i]? = some (some (.ref C.sx.1)) ∧ ErR C.K w x C.sx.2.1 C.sx.2.2
theorem EnvR.up {C : Ct} {w w' : Wd} {σ : L2.St} {e : Env} (l : w.le w') (h : EnvR C w σ e) : EnvR C w' σ e := ⟨h.len, fun i d q => by
  obtain ⟨v, h1, h2⟩ := h.sl i d q
  exact ⟨v, h1, h2.up l⟩, fun i x q => ⟨(h.ex i x q).1, (h.ex i x q).2.up l⟩⟩
def PV (K : Kw) (w : Wd) (Q : VK) (d : D) (S : Sto) : Prop := ∀ (w' : Wd) (H' : Hp) (v : V), w.le w' → Rel K w' S H' → VR K w' v d → Q v H'
def PX (C : Ct) (w : Wd) (σ : L2.St) (x : Er) (S : Sto) : Prop := ∀ (w' : Wd) (H' : Hp) (c : Value) (dd : Option Addr), w.le w' → Rel C.K w' S H' → ErR C.K w' x c dd → C.W c dd σ H'
def PB (K : Kw) (w : Wd) (Q : Bool → Hp → Prop) (b : Bool) (S : Sto) : Prop := ∀ (w' : Wd) (H' : Hp), w.le w' → Rel K w' S H' → Q b H'
def PL (K : Kw) (w : Wd) (Q : List V → Hp → Prop) (ds : List D) (S : Sto) : Prop := ∀ (w' : Wd) (H' : Hp) (vs : List V), w.le w' → Rel K w' S H' → VRs K w' vs ds → Q vs H'
def PO' (K : Kw) (w : Wd) (Q : Option Int → Hp → Prop) (o : Option Int) (S : Sto) : Prop := ∀ (w' : Wd) (H' : Hp), w.le w' → Rel K w' S H' → Q o H'
theorem PX.up {C : Ct} {w w' : Wd} {σ : L2.St} {x : Er} {S : Sto} (l : w.le w') (h : PX C w σ x S) : PX C w' σ x S := fun w2 H c d l2 r e => h w2 H c d (l.trans l2) r e
theorem PV.up {K : Kw} {w w' : Wd} {Q : VK} {d : D} {S : Sto} (l : w.le w') (h : PV K w Q d S) : PV K w' Q d S := fun w2 H v l2 r e => h w2 H v (l.trans l2) r e
theorem PB.up {K : Kw} {w w' : Wd} {Q : Bool → Hp → Prop} {b : Bool} {S : Sto} (l : w.le w') (h : PB K w Q b S) : PB K w' Q b S := fun w2 H l2 r => h w2 H (l.trans l2) r
theorem PL.up {K : Kw} {w w' : Wd} {Q : List V → Hp → Prop} {d : List D} {S : Sto} (l : w.le w') (h : PL K w Q d S) : PL K w' Q d S := fun w2 H v l2 r e => h w2 H v (l.trans l2) r e
def SndE (C : Ct) (te : TE) (m : Env → M D) : Prop := ∀ (e : Env) (σ : L2.St) (w : Wd) (S : Sto) (H : Hp) (Q : VK), EnvR C w σ e → Rel C.K w S H → (m e S).sat (PV C.K w Q) (PX C w σ) → te σ H Q
def SndT (C : Ct) (tt : TT) (m : Env → M Bool) : Prop := ∀ (e : Env) (σ : L2.St) (w : Wd) (S : Sto) (H : Hp) (Q : Bool → Hp → Prop), EnvR C w σ e → Rel C.K w S H → (m e S).sat (PB C.K w Q) (PX C w σ) → tt σ H Q
def SndA (C : Ct) (ta : TA) (m : Env → M (List D)) : Prop := ∀ (e : Env) (σ : L2.St) (w : Wd) (S : Sto) (H : Hp) (Q : List V → Hp → Prop), EnvR C w σ e → Rel C.K w S H → (m e S).sat (PL C.K w Q) (PX C w σ) → ta σ H Q
def SndO (C : Ct) (to : TO) (m : Env → M (Option Int)) : Prop := ∀ (e : Env) (σ : L2.St) (w : Wd) (S : Sto) (H : Hp) (Q : Option Int → Hp → Prop), EnvR C w σ e → Rel C.K w S H → (m e S).sat (PO' C.K w Q) (PX C w σ) → to σ H Q
/-- what is asked of a place where things may be raised -/
structure Hyp (X : Cx) (C : Ct) : Prop where
  tk : Takes X C.W
  ps : PassesOwn (model X.prog X.w) X.A X.env X.xe
structure CE (X : Cx) (C : Ct) (e : Expr) (te : TE) (m : Env → M D) : Prop where
  hK : X.kw = C.K
  pe : Hyp X C → PE X e te
  sn : SndE C te m
structure CT (X : Cx) (C : Ct) (e : Expr) (tt : TT) (m : Env → M Bool) : Prop where
  hK : X.kw = C.K
  pt : Hyp X C → PT X e tt
  sn : SndT C tt m
structure CW (X : Cx) (C : Ct) (e : Expr) (tt : TT) (m : Env → M Bool) : Prop where
  hK : X.kw = C.K
  pw : Hyp X C → PW X e tt
  sn : SndT C tt m
structure CA (X : Cx) (C : Ct) (es : List Expr) (ta : TA) (m : Env → M (List D)) : Prop where
  pa : Hyp X C → PA X es ta
  sn : SndA C ta m
structure COp (X : Cx) (C : Ct) (e : Option Expr) (to : TO) (m : Env → M (Option Int)) : Prop where
  po : Hyp X C → PO X e to
  sn : SndO C to m
def gd {α : Type} (c : Prop) [Decidable c] (m : M α) : M α := if c then m else stuck
theorem gd_sat {α : Type} {c : Prop} [Decidable c] {m : M α} {S : Sto} {P : α → Sto → Prop} {E : Er → Sto → Prop} (h : (gd c m S).sat P E) : c ∧ (m S).sat P E := by
  unfold gd at h
  by_cases q : c
  · rw [if_pos q] at h
    exact ⟨q, h⟩
  · rw [if_neg q] at h
    exact h.elim
theorem gd_yes {α : Type} {c : Prop} [Decidable c] {m : M α} (h : c) : gd c m = m := if_pos h
def eVar (i : Nat) (e : Env) : M D := match e.sl[i]? with
  | some (some d) => ret d
  | _ => stuck
def eC (d : D) (_ : Env) : M D := ret d
def e2 (g : D → D → M D) (a b : Env → M D) (e : Env) : M D := bind (a e) fun x => bind (b e) fun y => g x y
def e1 (g : D → M D) (a : Env → M D) (e : Env) : M D := bind (a e) g
def aNil (_ : Env) : M (List D) := ret []
def aCons (a : Env → M D) (r : Env → M (List D)) (e : Env) : M (List D) := bind (a e) fun d => bind (r e) fun ds => ret (d :: ds)
def eA (g : List D → M D) (a : Env → M (List D)) (e : Env) : M D := bind (a e) g
def lim : Nat := 100000
def dTup (ds : List D) : M D := gd (ds.length ≤ lim) (ret (.tup ds))
def dLst (ds : List D) : M D := gd (ds.length ≤ lim) (ret (.lst ds))
/-- a new list that may change -/
def dNew (ds : List D) : M D := fun S => if ds.length ≤ lim then .ok (.ptr S.length) (S ++ [.lst ds]) else .no
def dBool : D → M Bool
  | .bl b => ret b
  | _ => stuck
def tOf (a : Env → M D) (e : Env) : M Bool := bind (a e) dBool
def tNotP (a : Env → M Bool) (e : Env) : M Bool := bind (a e) fun b => ret (!b)
def tAndP (a b : Env → M Bool) (e : Env) : M Bool := bind (a e) fun x => if x then b e else ret false
def tOrP (a b : Env → M Bool) (e : Env) : M Bool := bind (a e) fun x => if x then ret true else b e
def eIf (t : Env → M Bool) (a b : Env → M D) (e : Env) : M D := bind (t e) fun x => if x then a e else b e
def eAnd (a b : Env → M D) (e : Env) : M D := bind (a e) fun x => bind (dBool x) fun c => if c then b e else ret (.bl false)
def eOr (a b : Env → M D) (e : Env) : M D := bind (a e) fun x => bind (dBool x) fun c => if c then ret (.bl true) else b e
def eNot (a : Env → M D) (e : Env) : M D := bind (a e) fun x => bind (dBool x) fun c => ret (.bl (!c))
def dAdd : D → D → M D
  | .int i, .int j => ret (.int (i + j))
  | .tup a, .tup b => gd (a.length + b.length ≤ lim) (ret (.tup (a ++ b)))
  | .lst a, .lst b => gd (a.length + b.length ≤ lim) (ret (.lst (a ++ b)))
  | _, _ => stuck
def dSub : D → D → M D
  | .int i, .int j => ret (.int (i - j))
  | _, _ => stuck
def dMul : D → D → M D
  | .int i, .int j => gd (i.natAbs.log2 + j.natAbs.log2 < 1000000) (ret (.int (i * j)))
  | .lst a, .int k => gd (-1000 ≤ k ∧ k ≤ 1000 ∧ a.length * k.toNat ≤ lim) (ret (.lst (List.replicate k.toNat a).flatten))
  | .tup a, .int k => gd (a.length ≠ 0 ∧ 1 ≤ k ∧ k ≤ 1000 ∧ a.length ≤ 1000) (ret (.tup (List.replicate k.toNat a).flatten))
  | _, _ => stuck
def dDiv : D → D → M D
  | .int i, .int j => gd (0 < j ∧ j.natAbs.log2 < 9000) (ret (.int (i / j)))
  | _, _ => stuck
def dMod : D → D → M D
  | .int i, .int j => gd (0 < j) (ret (.int (i % j)))
  | _, _ => stuck
def dPow : D → D → M D
  | .int i, .int j => gd (0 ≤ j ∧ j ≤ 1000000 ∧ i.natAbs < 2 ^ 64) (ret (.int (i ^ j.toNat)))
  | _, _ => stuck
def dShl : D → D → M D
  | .int i, .int j => gd (0 ≤ j ∧ (Builtin.Int.intBits i : Int) + j ≤ 2 ^ 27) (ret (.int (i * 2 ^ j.toNat)))
  | _, _ => stuck
def dShr : D → D → M D
  | .int i, .int j => gd (0 ≤ j) (ret (.int (i / 2 ^ j.toNat)))
  | _, _ => stuck
def dNeg : D → M D
  | .int i => ret (.int (-i))
  | _ => stuck
def dLt : D → D → M D
  | .int i, .int j => ret (.bl (decide (i < j)))
  | _, _ => stuck
def dLe : D → D → M D
  | .int i, .int j => ret (.bl (decide (i ≤ j)))
  | _, _ => stuck
def dGt : D → D → M D
  | .int i, .int j => ret (.bl (decide (j < i)))
  | _, _ => stuck
def dGe : D → D → M D
  | .int i, .int j => ret (.bl (decide (j ≤ i)))
  | _, _ => stuck
def D.isNon : D → Bool
  | .non => true
  | _ => false
/-- x is None -/
def dIsN (neg : Bool) : D → D → M D
  | d, .non => ret (.bl (neg != d.isNon))
  | _, _ => stuck
section
variable {X : Cx} {C : Ct} {ta tb tc te : TE} {a b c : Expr} {ma mb mc : Env → M D} {pos : Pos}
theorem ce_var (i : Nat) {x : Str} (hN : X.N[i]? = some x := by rfl) (hv : Vis X.env.scope x := by first | exact Or.inl rfl | exact Or.inr (Or.inl rfl) | exact Or.inr (Or.inr rfl)) (hd : (x == ("__debug__" : Str)) = false := by decide)
    (hcd : (x == ("__classdict__" : Str)) = false := by decide) (hK : X.kw = C.K := by rfl) : CE X C (.Name x pos) (tVar i) (eVar i) := ⟨hK, fun y => pe_var hN hv hd hcd, fun e σ w S H Q E R h => by
  unfold eVar at h
  cases q : e.sl[i]? with
  | none =>
    rw [q] at h
    exact h.elim
  | some o =>
    cases o with
    | none =>
      rw [q] at h
      exact h.elim
    | some d =>
      rw [q] at h
      obtain ⟨v, h1, h2⟩ := E.sl i d q
      exact ⟨v, h1, h w H v (Wd.le.refl w) R h2⟩⟩
theorem snd_c {v : V} {d : D} (hv : ∀ w, VR C.K w v d) : SndE C (tC v) (eC d) := fun e σ w S H Q E R h => h w H v (Wd.le.refl w) R (hv w)
theorem ce_int {i : Int} {j} (hK : X.kw = C.K := by rfl) : CE X C (.Constant (.int i) j pos) (tC (.int i)) (eC (.int i)) := ⟨hK, fun y => pe_int, snd_c fun _ => .int i⟩
theorem ce_bl {i : Bool} {j} (hK : X.kw = C.K := by rfl) : CE X C (.Constant (.bool i) j pos) (tC (.bl i)) (eC (.bl i)) := ⟨hK, fun y => pe_bl, snd_c fun _ => .bl i⟩
theorem ce_non {j} (hK : X.kw = C.K := by rfl) : CE X C (.Constant .none j pos) (tC .non) (eC .non) := ⟨hK, fun y => pe_non, snd_c fun _ => .non⟩
theorem ce_str {x j} (hK : X.kw = C.K := by rfl) : CE X C (.Constant (.str x) j pos) (tC (.str x)) (eC (.str x)) := ⟨hK, fun y => pe_str, snd_c fun _ => .str x⟩
theorem ce_globI {x : Str} {i : Int} (hg : Gl X x) (hm : ∃ t, X.mg x = some (.int i t)) (hd : (x == ("__debug__" : Str)) = false := by decide) (hK : X.kw = C.K := by rfl) : CE X C (.Name x pos) (tC (.int i)) (eC (.int i)) := ⟨hK, fun y => WD.pe_globI hg hm hd, snd_c fun _ => .int i⟩
/-- a rule of two values -/
def OpS (K : Kw) (r : R2) (g : D → D → M D) : Prop := ∀ (w : Wd) (S : Sto) (H : Hp) (x y : V) (d1 d2 : D) (Q : VK) (E : Er → Sto → Prop), Rel K w S H → VR K w x d1 → VR K w y d2 → (g d1 d2 S).sat (PV K w Q) E → r x y H Q
def UnS (K : Kw) (r : V → Hp → VK → Prop) (g : D → M D) : Prop := ∀ (w : Wd) (S : Sto) (H : Hp) (x : V) (d : D) (Q : VK) (E : Er → Sto → Prop), Rel K w S H → VR K w x d → (g d S).sat (PV K w Q) E → r x H Q
def CallS (K : Kw) (r : List V → Hp → VK → Prop) (g : List D → M D) : Prop := ∀ (w : Wd) (S : Sto) (H : Hp) (xs : List V) (ds : List D) (Q : VK) (E : Er → Sto → Prop), Rel K w S H → VRs K w xs ds → (g ds S).sat (PV K w Q) E → r xs H Q
theorem snd_op {r : R2} {g : D → D → M D} (ha : SndE C ta ma) (hb : SndE C tb mb) (hr : OpS C.K r g) : SndE C (tOp r ta tb) (e2 g ma mb) := fun e σ w S H Q E R h => by
  have h := sat_then.mp h
  refine ha e σ w S H _ E R (h.imp (fun d1 S1 h1 w1 H1 v1 l1 R1 r1 => ?_) (fun x s hx => hx))
  have h1 := sat_then.mp h1
  refine hb e σ w1 S1 H1 _ (E.up l1) R1 (h1.imp (fun d2 S2 h2 w2 H2 v2 l2 R2 r2 => ?_) (fun x s hx => hx.up l1))
  exact hr w2 S2 H2 v1 v2 d1 d2 Q _ R2 (r1.up l2) r2 (h2.imp (fun d s q => q.up (l1.trans l2)) fun _ _ z => z)
theorem snd_un {r : V → Hp → VK → Prop} {g : D → M D} (ha : SndE C ta ma) (hr : UnS C.K r g) : SndE C (tUn r ta) (e1 g ma) := fun e σ w S H Q E R h => by
  have h := sat_then.mp h
  refine ha e σ w S H _ E R (h.imp (fun d1 S1 h1 w1 H1 v1 l1 R1 r1 => ?_) (fun x s hx => hx))
  exact hr w1 S1 H1 v1 d1 Q _ R1 r1 (h1.imp (fun d s q => q.up l1) fun _ _ z => z)
theorem ce_op {op : Operator} {r : R2} {g : D → D → M D} (ho : OpR X (binaryOp op) r) (hs : OpS C.K r g) (ha : CE X C a ta ma) (hb : CE X C b tb mb) : CE X C (.BinOp a op b pos) (tOp r ta tb) (e2 g ma mb) :=
  ⟨ha.hK, fun y => pe_op ho (ha.pe y) (hb.pe y), snd_op ha.sn hb.sn hs⟩
theorem ce_cmp {op : CmpOp} {r : R2} {g : D → D → M D} (ho : OpR X (compareOp op) r) (hs : OpS C.K r g) (ha : CE X C a ta ma) (hb : CE X C b tb mb) (hm : behindInMarks op b = false) : CE X C (.Compare a [op] [b] pos) (tOp r ta tb) (e2 g ma mb) :=
  ⟨ha.hK, fun y => pe_cmpR ho (ha.pe y) (hb.pe y) hm, snd_op ha.sn hb.sn hs⟩
theorem opOr {f : Value → Value → Sem Value} {r1 r2 : R2} (h1 : OpR X f r1) (h2 : OpR X f r2) : OpR X f (fun x y H Q => r1 x y H Q ∨ r2 x y H Q) := fun pins s σ H x y v u Q I rx ry h => by
  rcases h with h | h
  · exact h1 pins s σ H x y v u Q I rx ry h
  · exact h2 pins s σ H x y v u Q I rx ry h
abbrev rAddZ (K : Kw) : R2 := fun x y H Q => rI0 (fun i j => .int (i + j)) x y H Q ∨ (rCatA K x y H Q ∨ rCat x y H Q)
theorem sz_lim {n : Nat} (h : n ≤ lim) : n ≤ sizeLine := sz_of h
theorem ops_add (K : Kw) : OpS K (rAddZ K) dAdd := fun w S H x y d1 d2 Q E R a b h => by
  cases a with
  | int i =>
    cases b with
    | int j => exact .inl ⟨i, j, rfl, rfl, h w H _ (Wd.le.refl w) R (.int _)⟩
    | _ => exact h.elim
  | @tup p xs ds s1 a1 =>
    cases b with
    | @tup q ys es s2 a2 =>
      obtain ⟨c, h⟩ := gd_sat h
      · refine .inr (.inl ⟨p, q, xs, ys, rfl, rfl, ex_t R.ex s1, ex_t R.ex s2, sz_lim (by rw [a1.len, a2.len]; exact c), fun z => ?_, fun _ z => ?_, fun _ _ l hl => ?_⟩)
        · subst z
          cases a1
          exact h w H _ (Wd.le.refl w) R (.tup s2 a2)
        · subst z
          cases a2
          exact h w H _ (Wd.le.refl w) R (by rw [List.append_nil]; exact .tup s1 a1)
        · obtain ⟨le, R'⟩ := R.plus (o := .tup (xs ++ ys)) hl
          exact h _ _ _ le R' (.tup (st_of upd_same) ((a1.up le).app (a2.up le)))
    | _ => exact h.elim
  | @lst p xs ds s1 a1 =>
    cases b with
    | @lst q ys es s2 a2 =>
      obtain ⟨c, h⟩ := gd_sat h
      · refine .inr (.inr ⟨p, q, xs, ys, rfl, rfl, R.ex _ _ s1, R.ex _ _ s2, sz_lim (by rw [a1.len, a2.len]; exact c), fun l hl => ?_⟩)
        obtain ⟨le, R'⟩ := R.plus (o := .lst (xs ++ ys)) hl
        exact h _ _ _ le R' (.lst upd_same ((a1.up le).app (a2.up le)))
    | _ => exact h.elim
  | _ => exact h.elim
theorem ce_add (ha : CE X C a ta ma) (hb : CE X C b tb mb) : CE X C (.BinOp a .Add b pos) (tOp (rAddZ C.K) ta tb) (e2 dAdd ma mb) := ce_op (by rw [← ha.hK]; exact opOr op_add (opOr op_catA op_cat)) (ops_add _) ha hb
end
end PM
end
section
set_option Elab.async false
set_option linter.all false
set_option maxRecDepth 100000
set_option maxHeartbeats 4000000
namespace WD
open PySem PySem.Spec PyProof.Rows L2 Evl
end WD
end
section
set_option Elab.async false
set_option linter.all false
set_option maxRecDepth 100000
set_option maxHeartbeats 4000000
namespace WD
open PySem PySem.Spec PyProof.Rows L2 Evl
end WD
end
section
set_option Elab.async false
set_option linter.all false
set_option maxRecDepth 100000
set_option maxHeartbeats 4000000
namespace PySem.W
open PySem PySem.Calls PyProof.Rows Builtin
end PySem.W
namespace L2
open PySem PySem.Spec PyProof.Rows
section
variable {X : Cx} {n : Nat}
theorem tuple_mul1 (l : Addr) (items : Array Value) (n : Nat) (dd : Option Addr) (sl : Array (Option Value)) (u : Tok) :
    Meets (Builtin.«tuple.__mul__» ⟨[.ref l, .int 1 u], []⟩) (fun _ R s => s.heap.get? l = some { cls := .type "tuple", dict := dd, data := .seq items n, slots := sl } ∧ R (.ok (.ret (Value.ref l))) s) :=
  .of_wp fun prog w A R s h => by
    obtain ⟨hp, g, d, tk, os⟩ := s
    obtain ⟨hl, h⟩ := h
    have f1 := AutoSeq1.idx_int
    have c0 : (decide ((1 : Int) < -(2 ^ 63)) || decide ((1 : Int) ≥ 2 ^ 63)) = false := by decide
    have c1 : (items.isEmpty || (1 : Int) == 1) = true := by simp
    wp_walk using wpAny_loadPart' hl
    repeat (first
      | (refine wpAny_ite_false (decide_eq_false (by rw [c0]; exact Bool.false_ne_true)) ?_; wp_walk using wpAny_loadPart' hl)
      | (refine wpAny_ite_true (decide_eq_true c1) ?_; wp_walk using wpAny_loadPart' hl))
    exact ⟨_, rfl, h⟩
/-- t * k, k from 1 on -/
def rRepT1 (K : PySem.W.Frag) : R2 := fun x y H Q => ∃ l k xs, x = .ref l ∧ y = .int k ∧ SqT K H l xs ∧ xs ≠ [] ∧ 1 ≤ k ∧ k ≤ 1000 ∧ xs.length ≤ 1000 ∧ (k = 1 → Q (.ref l) H) ∧ (2 ≤ k → ∀ p, H p = none → Q (.ref p) (upd H p (.tup (List.replicate k.toNat xs).flatten)))
theorem op_repT1 : OpR X (binaryOp .Mult) (rRepT1 X.K) := by
  intro pins s σ H x y v u Q I rx ry h
  obtain ⟨l, k, xs, rfl, rfl, hT, hne, h1, h2, hz, q1, q2⟩ := h
  by_cases c : 2 ≤ k
  · exact op_repT pins s σ H _ _ v u Q I rx ry ⟨l, k, xs, rfl, rfl, hT, hne, c, h2, hz, q2 c⟩
  · have e : k = 1 := by omega
    subst e
    cases rx
    obtain ⟨t, rfl⟩ := ry
    obtain ⟨its, r, ⟨⟨cls, dd, data, sl⟩, ho, hc, n, hd⟩, hs⟩ := I.tuple hT
    simp only at hc hd
    subst hc hd
    refine wpAny_binaryOp_repeat_ref (T := "tuple") (U := "int") (by decide) ⟨_, ho, rfl⟩ (fun s' => typeIs_int s' 1 t) noFill_tuple_mul F.fills_int_mul F.slot_int_rmul repeat_tuple F.slot_int_index.lookup
      (call_meets F.slot_int_rmul (typeIs_int s 1 t) F.entry_int_rmul (F.args_int_rmul_2 _ _) (int_rmul_tuple 1 t l its.toArray n dd sl)
        ⟨ho, rfl, ⟨_, ho, rfl⟩, call_meets F.slot_tuple_mul ⟨_, ho, rfl⟩ F.entry_tuple_mul (F.args_tuple_mul_2 _ _) (tuple_mul1 l its.toArray n dd sl t) ⟨ho, ?_⟩⟩)
    exact ⟨.ref l, H, I, rfl, q1 rfl⟩
end
end L2
namespace WD
open PySem PySem.Spec PyProof.Rows L2 Evl
section
variable {K : PySem.W.Frag} {σ : L2.St} {H : Hp} {ta tb te : TE} {d : D} {ds : List D}
theorem All.rep {vs : List V} {H : Hp} (a : All K H vs ds) : ∀ n : Nat, All K H (List.replicate n vs).flatten (List.replicate n ds).flatten
  | 0 => .nil
  | n + 1 => by
    rw [List.replicate_succ, List.replicate_succ, List.flatten_cons, List.flatten_cons]
    exact a.app (All.rep a n)
end
end WD
end
section
set_option Elab.async false
set_option linter.all false
set_option maxRecDepth 100000
namespace PM
open PySem L2 Evl
section
variable {X : Cx} {C : Ct} {ta tb tc te : TE} {a b c : Expr} {ma mb mc : Env → M D} {pos : Pos}
theorem ops_ii {r : R2} {g : D → D → M D} {K : Kw} (hg : ∀ d1 d2 S P E, (g d1 d2 S).sat P E → ∃ i j, d1 = .int i ∧ d2 = .int j) (hr : ∀ (i j : Int) (w : Wd) (S : Sto) (H : Hp) (Q : VK) (E : Er → Sto → Prop), Rel K w S H → (g (.int i) (.int j) S).sat (PV K w Q) E → r (.int i) (.int j) H Q) : OpS K r g := fun w S H x y d1 d2 Q E R a b h => by
  obtain ⟨i, j, rfl, rfl⟩ := hg d1 d2 S _ _ h
  cases a
  cases b
  exact hr i j w S H Q E R h
theorem ops_sub (K : Kw) : OpS K (rI0 fun i j => .int (i - j)) dSub := ops_ii (fun d1 d2 S P E h => by
  cases d1 <;> first | exact h.elim | skip
  cases d2 <;> first | exact h.elim | exact ⟨_, _, rfl, rfl⟩) fun i j w S H Q E R h => ⟨i, j, rfl, rfl, h w H _ (Wd.le.refl w) R (.int _)⟩
theorem ce_sub (ha : CE X C a ta ma) (hb : CE X C b tb mb) : CE X C (.BinOp a .Sub b pos) (tOp (rI0 fun i j => .int (i - j)) ta tb) (e2 dSub ma mb) := ce_op op_sub (ops_sub _) ha hb
theorem ops_div (K : Kw) : OpS K (rI CDivW fun i j => .int (i / j)) dDiv := ops_ii (fun d1 d2 S P E h => by
  cases d1 <;> first | exact h.elim | skip
  cases d2 <;> first | exact h.elim | exact ⟨_, _, rfl, rfl⟩) fun i j w S H Q E R h => by
  obtain ⟨c, h⟩ := gd_sat h
  exact ⟨i, j, rfl, rfl, c, h w H _ (Wd.le.refl w) R (.int _)⟩
theorem ce_div (ha : CE X C a ta ma) (hb : CE X C b tb mb) : CE X C (.BinOp a .FloorDiv b pos) (tOp (rI CDivW fun i j => .int (i / j)) ta tb) (e2 dDiv ma mb) := ce_op op_fdivW (ops_div _) ha hb
theorem ops_mod (K : Kw) : OpS K (rI (fun _ j => 0 < j) fun i j => .int (i % j)) dMod := ops_ii (fun d1 d2 S P E h => by
  cases d1 <;> first | exact h.elim | skip
  cases d2 <;> first | exact h.elim | exact ⟨_, _, rfl, rfl⟩) fun i j w S H Q E R h => by
  obtain ⟨c, h⟩ := gd_sat h
  exact ⟨i, j, rfl, rfl, c, h w H _ (Wd.le.refl w) R (.int _)⟩
theorem ce_mod (ha : CE X C a ta ma) (hb : CE X C b tb mb) : CE X C (.BinOp a .Mod b pos) (tOp (rI (fun _ j => 0 < j) fun i j => .int (i % j)) ta tb) (e2 dMod ma mb) := ce_op op_mod (ops_mod _) ha hb
theorem ops_pow (K : Kw) : OpS K (rI CPow fun i j => .int (i ^ j.toNat)) dPow := ops_ii (fun d1 d2 S P E h => by
  cases d1 <;> first | exact h.elim | skip
  cases d2 <;> first | exact h.elim | exact ⟨_, _, rfl, rfl⟩) fun i j w S H Q E R h => by
  obtain ⟨c, h⟩ := gd_sat h
  exact ⟨i, j, rfl, rfl, c, h w H _ (Wd.le.refl w) R (.int _)⟩
theorem ce_pow (ha : CE X C a ta ma) (hb : CE X C b tb mb) : CE X C (.BinOp a .Pow b pos) (tOp (rI CPow fun i j => .int (i ^ j.toNat)) ta tb) (e2 dPow ma mb) := ce_op op_pow (ops_pow _) ha hb
theorem ops_shl (K : Kw) : OpS K (rI CShl fun i j => .int (i * 2 ^ j.toNat)) dShl := ops_ii (fun d1 d2 S P E h => by
  cases d1 <;> first | exact h.elim | skip
  cases d2 <;> first | exact h.elim | exact ⟨_, _, rfl, rfl⟩) fun i j w S H Q E R h => by
  obtain ⟨c, h⟩ := gd_sat h
  exact ⟨i, j, rfl, rfl, c, h w H _ (Wd.le.refl w) R (.int _)⟩
theorem ce_shl (ha : CE X C a ta ma) (hb : CE X C b tb mb) : CE X C (.BinOp a .LShift b pos) (tOp (rI CShl fun i j => .int (i * 2 ^ j.toNat)) ta tb) (e2 dShl ma mb) := ce_op op_shlW (ops_shl _) ha hb
theorem ops_shr (K : Kw) : OpS K (rI (fun _ j => 0 ≤ j) fun i j => .int (i / 2 ^ j.toNat)) dShr := ops_ii (fun d1 d2 S P E h => by
  cases d1 <;> first | exact h.elim | skip
  cases d2 <;> first | exact h.elim | exact ⟨_, _, rfl, rfl⟩) fun i j w S H Q E R h => by
  obtain ⟨c, h⟩ := gd_sat h
  exact ⟨i, j, rfl, rfl, c, h w H _ (Wd.le.refl w) R (.int _)⟩
theorem ce_shr (ha : CE X C a ta ma) (hb : CE X C b tb mb) : CE X C (.BinOp a .RShift b pos) (tOp (rI (fun _ j => 0 ≤ j) fun i j => .int (i / 2 ^ j.toNat)) ta tb) (e2 dShr ma mb) := ce_op op_shr (ops_shr _) ha hb
abbrev rMulZ (K : Kw) : R2 := fun x y H Q => rI CMulW (fun i j => .int (i * j)) x y H Q ∨ (rRep x y H Q ∨ rRepT1 K x y H Q)
theorem ops_mul (K : Kw) : OpS K (rMulZ K) dMul := fun w S H x y d1 d2 Q E R a b h => by
  cases a with
  | int i =>
    cases b with
    | int j =>
      obtain ⟨c, h⟩ := gd_sat h
      exact .inl ⟨i, j, rfl, rfl, c, h w H _ (Wd.le.refl w) R (.int _)⟩
    | _ => exact h.elim
  | @lst p xs ds s1 a1 =>
    cases b with
    | int k =>
      obtain ⟨⟨c1, c2, c3⟩, h⟩ := gd_sat h
      refine .inr (.inl ⟨p, k, xs, rfl, rfl, R.ex _ _ s1, by omega, by omega, sz_lim (by rw [a1.len]; exact c3), fun l hl => ?_⟩)
      obtain ⟨le, R'⟩ := R.plus (o := .lst (List.replicate k.toNat xs).flatten) hl
      exact h _ _ _ le R' (.lst upd_same ((a1.up le).rep _))
    | _ => exact h.elim
  | @tup p xs ds s1 a1 =>
    cases b with
    | int k =>
      obtain ⟨⟨c0, c1, c2, c3⟩, h⟩ := gd_sat h
      refine .inr (.inr ⟨p, k, xs, rfl, rfl, ex_t R.ex s1, fun z => ?_, c1, c2, by rw [a1.len]; exact c3, fun e => ?_, fun _ l hl => ?_⟩)
      · subst z
        cases a1
        exact c0 rfl
      · subst e
        exact h w H _ (Wd.le.refl w) R (by
          show VR K w _ (.tup (List.replicate 1 ds).flatten)
          rw [List.replicate_one, List.flatten_singleton]
          exact .tup s1 a1)
      · obtain ⟨le, R'⟩ := R.plus (o := .tup (List.replicate k.toNat xs).flatten) hl
        exact h _ _ _ le R' (.tup (st_of upd_same) ((a1.up le).rep _))
    | _ => exact h.elim
  | _ => exact h.elim
theorem ce_mul (ha : CE X C a ta ma) (hb : CE X C b tb mb) : CE X C (.BinOp a .Mult b pos) (tOp (rMulZ C.K) ta tb) (e2 dMul ma mb) := ce_op (by rw [← ha.hK]; exact opOr op_mulW (opOr op_rep op_repT1)) (ops_mul _) ha hb
theorem ce_neg (ha : CE X C a ta ma) : CE X C (.UnaryOp .USub a pos) (tUn (rU fun i => .int (-i)) ta) (e1 dNeg ma) := ⟨ha.hK, fun y => pe_un un_neg (ha.pe y), snd_un ha.sn fun w S H x d Q E R a h => by
  cases a with
  | int i => exact ⟨i, rfl, h w H _ (Wd.le.refl w) R (.int _)⟩
  | _ => exact h.elim⟩
theorem ops_lt (K : Kw) : OpS K (rI0 fun i j => .bl (decide (i < j))) dLt := ops_ii (fun d1 d2 S P E h => by
  cases d1 <;> first | exact h.elim | skip
  cases d2 <;> first | exact h.elim | exact ⟨_, _, rfl, rfl⟩) fun i j w S H Q E R h => ⟨i, j, rfl, rfl, h w H _ (Wd.le.refl w) R (.bl _)⟩
theorem ops_le (K : Kw) : OpS K (rI0 fun i j => .bl (decide (i ≤ j))) dLe := ops_ii (fun d1 d2 S P E h => by
  cases d1 <;> first | exact h.elim | skip
  cases d2 <;> first | exact h.elim | exact ⟨_, _, rfl, rfl⟩) fun i j w S H Q E R h => ⟨i, j, rfl, rfl, h w H _ (Wd.le.refl w) R (.bl _)⟩
theorem ops_gt (K : Kw) : OpS K (rI0 fun i j => .bl (decide (j < i))) dGt := ops_ii (fun d1 d2 S P E h => by
  cases d1 <;> first | exact h.elim | skip
  cases d2 <;> first | exact h.elim | exact ⟨_, _, rfl, rfl⟩) fun i j w S H Q E R h => ⟨i, j, rfl, rfl, h w H _ (Wd.le.refl w) R (.bl _)⟩
theorem ops_ge (K : Kw) : OpS K (rI0 fun i j => .bl (decide (j ≤ i))) dGe := ops_ii (fun d1 d2 S P E h => by
  cases d1 <;> first | exact h.elim | skip
  cases d2 <;> first | exact h.elim | exact ⟨_, _, rfl, rfl⟩) fun i j w S H Q E R h => ⟨i, j, rfl, rfl, h w H _ (Wd.le.refl w) R (.bl _)⟩
theorem ops_notN (K : Kw) : OpS K (fun x y H Q => y = .non ∧ Q (.bl (!decide (x = .non))) H) (dIsN true) := fun w S H x y d1 d2 Q E R a b h => by
  cases b with
  | non =>
    refine ⟨rfl, ?_⟩
    cases a <;> exact h w H _ (Wd.le.refl w) R (.bl _)
  | _ => cases a <;> exact h.elim
mutual
def D.py : D → PyData
  | .bl b => .bool b
  | .int i => .int i
  | .str x => .str x
  | .tup ds => .tuple (D.pys ds)
  | .lst ds => .list (D.pys ds)
  | .scr ns => .list (ns.map .int)
  | _ => .none
def D.pys : List D → List PyData
  | [] => []
  | d :: ds => D.py d :: D.pys ds
end
/-- what == is asked of: no object in it, at most n deep -/
def D.okD : Nat → D → Bool
  | _, .non => true
  | _, .bl _ => true
  | _, .int _ => true
  | _, .str x => PyData.strOk x
  | n + 1, .tup ds => ds.all (D.okD n)
  | n + 1, .lst ds => ds.all (D.okD n)
  | _ + 1, .scr _ => true
  | _, _ => false
theorem pys_map : ∀ ds : List D, D.pys ds = ds.map D.py
  | [] => rfl
  | d :: ds => by
    show D.py d :: D.pys ds = _
    rw [pys_map ds]
    rfl
theorem lay_all : ∀ ds : List PyData, (∀ d ∈ ds, d.canLay0 = true) → PyData.canLayAll0 ds = true
  | [], _ => by simp only [PyData.canLayAll0]
  | d :: ds, h => by
    simp only [PyData.canLayAll0, h d (by simp), lay_all ds fun e he => h e (by simp [he]), Bool.and_self]
theorem dep_all {n : Nat} : ∀ ds : List PyData, (∀ d ∈ ds, d.depth ≤ n) → PyData.depthAll ds ≤ n
  | [], _ => by simp [PyData.depthAll]
  | d :: ds, h => by
    simp only [PyData.depthAll]
    have h1 := h d (by simp)
    have h2 := dep_all ds fun e he => h e (by simp [he])
    omega
theorem Dp.ints {K : Kw} {H : Hp} : ∀ ns : List Int, DpAll K H (ns.map V.int) (ns.map PyData.int)
  | [] => .nil
  | n :: ns => .cons (.int n) (Dp.ints ns)
theorem dp_of {K : Kw} {w : Wd} {H : Hp} (e : Ex w.F H) : ∀ (n : Nat) (v : V) (d : D), VR K w v d → d.okD n = true → Dp K H v d.py ∧ d.py.canLay0 = true ∧ d.py.depth ≤ n := by
  intro n
  induction n with
  | zero =>
    intro v d a h
    cases a with
    | non => exact ⟨.non, rfl, by simp [D.py, PyData.depth]⟩
    | bl b => exact ⟨.bl b, rfl, by simp [D.py, PyData.depth]⟩
    | int i => exact ⟨.int i, rfl, by simp [D.py, PyData.depth]⟩
    | str x => exact ⟨.str x, by
        simp only [D.py, PyData.canLay0]
        exact h, by simp [D.py, PyData.depth]⟩
    | _ => cases h
  | succ n ih =>
    have seq : ∀ (vs : List V) (ds : List D), VRs K w vs ds → ds.all (D.okD n) = true → DpAll K H vs (D.pys ds) ∧ PyData.canLayAll0 (D.pys ds) = true ∧ PyData.depthAll (D.pys ds) ≤ n := by
      intro vs
      induction vs with
      | nil =>
        intro ds a h
        cases a
        exact ⟨.nil, by simp [D.pys, PyData.canLayAll0], by simp [D.pys, PyData.depthAll]⟩
      | cons v vs ih2 =>
        intro ds a h
        cases a with
        | cons a1 a2 =>
          obtain ⟨h1, h2⟩ := Bool.and_eq_true_iff.mp (show (D.okD n _ && List.all _ (D.okD n)) = true from h)
          obtain ⟨p1, p2, p3⟩ := ih _ _ a1 h1
          obtain ⟨q1, q2, q3⟩ := ih2 _ a2 h2
          refine ⟨.cons p1 q1, by simp only [D.pys, PyData.canLayAll0, p2, q2, Bool.and_self], ?_⟩
          simp only [D.pys, PyData.depthAll]
          omega
    intro v d a h
    cases a with
    | non => exact ⟨.non, rfl, by simp [D.py, PyData.depth]⟩
    | bl b => exact ⟨.bl b, rfl, by simp [D.py, PyData.depth]⟩
    | int i => exact ⟨.int i, rfl, by simp [D.py, PyData.depth]⟩
    | str x => exact ⟨.str x, by
        simp only [D.py, PyData.canLay0]
        exact h, by simp [D.py, PyData.depth]⟩
    | tup s a =>
      obtain ⟨p1, p2, p3⟩ := seq _ _ a h
      refine ⟨.tup (ex_t e s) p1, by simpa [D.py, PyData.canLay0] using p2, ?_⟩
      simp only [D.py, PyData.depth]
      omega
    | lst s a =>
      obtain ⟨p1, p2, p3⟩ := seq _ _ a h
      refine ⟨.lst (.inl (.inl (e _ _ s))) p1, by simpa [D.py, PyData.canLay0] using p2, ?_⟩
      simp only [D.py, PyData.depth]
      omega
    | @scr _ ns s =>
      refine ⟨.lst (.inl (ex_rd e s)) (Dp.ints _), ?_, ?_⟩
      · simp only [D.py, PyData.canLay0]
        exact lay_all _ fun d hd => by
          obtain ⟨i, _, rfl⟩ := List.mem_map.mp hd
          rfl
      · simp only [D.py, PyData.depth]
        have := dep_all (n := 0) (List.map PyData.int ns) fun d hd => by
          obtain ⟨i, _, rfl⟩ := List.mem_map.mp hd
          simp [PyData.depth]
        omega
    | _ => cases h
theorem sh_of {d : PyData} {n : Nat} (h1 : d.canLay0 = true) (h2 : d.depth ≤ n) (hn : n ≤ 60) : SeqAt.shaped d = true := by
  unfold SeqAt.shaped
  rw [h1, decide_eq_true (by omega)]
  rfl
/-- a list that changes, read as it stands -/
def rdD (S : Sto) : D → D
  | .ptr n => match S[n]? with
    | some (.lst ds) => .lst ds
    | _ => .ptr n
  | d => d
theorem rdD_dp {K : Kw} {w : Wd} {S : Sto} {H : Hp} {v : V} {d : D} (R : Rel K w S H) (a : VR K w v d) (h : (rdD S d).okD 12 = true) : Dp K H v (rdD S d).py ∧ SeqAt.shaped (rdD S d).py = true := by
  by_cases hp : ∃ n ds, d = .ptr n ∧ S[n]? = some (.lst ds)
  · obtain ⟨n, ds, rfl, hs⟩ := hp
    have er : rdD S (.ptr n) = .lst ds := by
      show (match S[n]? with
        | some (.lst ds) => D.lst ds
        | _ => .ptr n) = _
      rw [hs]
    cases a with
    | ptr hb =>
      obtain ⟨_, xs, hx, ax⟩ := R.cell _ _ _ hb hs rfl
      rw [er] at h ⊢
      -- read in the world grown by it
      have gr : VR K ⟨upd w.F _ (.lst xs), w.B, w.U⟩ (.ref _) (.lst ds) := .lst upd_same (ax.up (Wd.le_plus (R.cell _ _ _ hb hs rfl).1))
      obtain ⟨R2l, R2⟩ := R.freeze hb hs rfl hx
      obtain ⟨p1, p2, p3⟩ := dp_of R2.ex 12 _ _ gr h
      exact ⟨p1, sh_of p2 p3 (by decide)⟩
  · have er : rdD S d = d := by
      cases d with
      | ptr n =>
        show (match S[n]? with
          | some (.lst ds) => D.lst ds
          | _ => .ptr n) = _
        cases q : S[n]? with
        | none => rfl
        | some c =>
          cases c with
          | lst ds => exact absurd ⟨n, ds, rfl, q⟩ hp
          | _ => rfl
      | _ => rfl
    rw [er] at h ⊢
    obtain ⟨p1, p2, p3⟩ := dp_of R.ex 12 _ _ a h
    exact ⟨p1, sh_of p2 p3 (by decide)⟩
def dEq (neg : Bool) (x y : D) : M D := fun S => gd ((rdD S x).okD 12 = true ∧ (rdD S y).okD 12 = true) (ret (.bl (neg != PyData.eqv (rdD S x).py (rdD S y).py))) S
theorem ops_eq (K : Kw) : OpS K (rEqD K) (dEq false) := fun w S H x y d1 d2 Q E R a b h => by
  obtain ⟨⟨c1, c2⟩, h⟩ := gd_sat h
  obtain ⟨p1, p2⟩ := rdD_dp R a c1
  obtain ⟨q1, q2⟩ := rdD_dp R b c2
  refine ⟨_, _, p1, q1, p2, q2, ?_⟩
  have := h w H _ (Wd.le.refl w) R (.bl _)
  rwa [Bool.false_bne] at this
theorem ops_ne (K : Kw) : OpS K (rNeD K) (dEq true) := fun w S H x y d1 d2 Q E R a b h => by
  obtain ⟨⟨c1, c2⟩, h⟩ := gd_sat h
  obtain ⟨p1, p2⟩ := rdD_dp R a c1
  obtain ⟨q1, q2⟩ := rdD_dp R b c2
  refine ⟨_, _, p1, q1, p2, q2, ?_⟩
  have := h w H _ (Wd.le.refl w) R (.bl _)
  rwa [Bool.true_bne] at this
/-- x in a list of data | a tuple -/
def dIn (neg : Bool) (x y : D) : M D := fun S => match rdD S y with
  | .lst ds => gd ((rdD S x).okD 12 = true ∧ (D.lst ds).okD 12 = true) (ret (.bl (neg != (D.pys ds).any fun z => PyData.eqv z (rdD S x).py))) S
  | .tup ds => gd (neg = false ∧ (rdD S x).okD 12 = true ∧ (D.tup ds).okD 12 = true) (ret (.bl ((D.pys ds).any fun z => PyData.eqv z (rdD S x).py))) S
  | _ => .no
theorem ce_eq (hu : X.A.units + 64 < cLine) (ha : CE X C a ta ma) (hb : CE X C b tb mb) : CE X C (.Compare a [.Eq] [b] pos) (tOp (rEqD C.K) ta tb) (e2 (dEq false) ma mb) := ce_cmp (by rw [← ha.hK]; exact op_eqD hu) (ops_eq _) ha hb (nobehind _ (by decide) (by decide))
theorem ce_ne (hu : X.A.units + 64 < cLine) (ha : CE X C a ta ma) (hb : CE X C b tb mb) : CE X C (.Compare a [.NotEq] [b] pos) (tOp (rNeD C.K) ta tb) (e2 (dEq true) ma mb) := ce_cmp (by rw [← ha.hK]; exact op_neD hu) (ops_ne _) ha hb (nobehind _ (by decide) (by decide))
theorem ce_ge (ha : CE X C a ta ma) (hb : CE X C b tb mb) : CE X C (.Compare a [.GtE] [b] pos) (tOp (rI0 fun i j => .bl (decide (j ≤ i))) ta tb) (e2 dGe ma mb) := ce_cmp op_ge (ops_ge _) ha hb (nobehind _ (by decide) (by decide))
theorem ops_in (K : Kw) : OpS K (fun x y H Q => rInD K x y H Q ∨ rInDT K x y H Q) (dIn false) := fun w S H x y d1 d2 Q E R a b h => by
  unfold dIn at h
  cases q : rdD S d2 with
  | lst ds =>
    rw [q] at h
    obtain ⟨⟨c1, c2⟩, h⟩ := gd_sat h
    rw [← q] at c2
    obtain ⟨p1, p2⟩ := rdD_dp R a c1
    obtain ⟨q1, q2⟩ := rdD_dp R b c2
    rw [q] at q1 q2
    refine .inl ⟨_, _, p1, q1, p2, q2, ?_⟩
    have := h w H _ (Wd.le.refl w) R (.bl _)
    rwa [Bool.false_bne] at this
  | tup ds =>
    rw [q] at h
    obtain ⟨⟨_, c1, c2⟩, h⟩ := gd_sat h
    rw [← q] at c2
    obtain ⟨p1, p2⟩ := rdD_dp R a c1
    obtain ⟨q1, q2⟩ := rdD_dp R b c2
    have e2 : d2 = .tup ds := by
      cases d2 with
      | ptr n =>
        have z : (match S[n]? with
          | some (.lst ds) => D.lst ds
          | _ => .ptr n) = .tup ds := q
        cases r : S[n]? with
        | none =>
          rw [r] at z
          cases z
        | some cc =>
          rw [r] at z
          cases cc <;> cases z
      | _ => exact q
    obtain ⟨r1, r2, r3⟩ := dp_of R.ex 12 _ _ (e2 ▸ b) (q ▸ c2)
    refine .inr ⟨_, D.pys ds, p1, r1, SeqAt.canLay_of_shaped p2, by simpa [D.py, PyData.canLay0] using r2, ?_, h w H _ (Wd.le.refl w) R (.bl _)⟩
    simp only [D.py, PyData.depth] at r3
    omega
  | _ =>
    rw [q] at h
    exact h.elim
theorem bool_sat {K : Kw} {w : Wd} {v : V} {d : D} {S : Sto} {P : Bool → Sto → Prop} {E : Er → Sto → Prop} (a : VR K w v d) (h : (dBool d S).sat P E) : ∃ k, d = .bl k ∧ v = .bl k ∧ P k S := by
  cases a with
  | bl k => exact ⟨k, rfl, rfl, h⟩
  | _ => exact h.elim
theorem snd_B (ha : SndE C ta ma) : SndT C (tB ta) (tOf ma) := fun e σ w S H Q E R h => by
  have h := sat_then.mp h
  refine ha e σ w S H _ E R (h.imp (fun d1 S1 h1 w1 H1 v1 l1 R1 r1 => ?_) (fun x s hx => hx))
  obtain ⟨k, rfl, rfl, h2⟩ := bool_sat r1 h1
  exact ⟨k, rfl, h2 w1 H1 l1 R1⟩
theorem snd_test (ha : SndE C ta ma) : SndT C (tTest ta) (tOf ma) := snd_B ha
theorem ct_val {e : Expr} (h : CE X C e te ma) (he : ∀ whole, isTrue e X.env whole = (do let v ← whole; standAt e.pos; holding [v] (truthy v)) := by intro _; rfl) : CT X C e (tB te) (tOf ma) := ⟨h.hK, fun y => pt_val (h.pe y) he, snd_B h.sn⟩
theorem snd_notT {t : TT} {m : Env → M Bool} (h : SndT C t m) : SndT C (tNot t) (tNotP m) := fun e σ w S H Q E R q => by
  have q := sat_then.mp q
  exact h e σ w S H _ E R (q.imp (fun b S1 h1 => h1) (fun x s hx => hx))
theorem ct_not {t : TT} {m : Env → M Bool} (h : CT X C a t m) : CT X C (.UnaryOp .Not a pos) (tNot t) (tNotP m) := ⟨h.hK, fun y => pt_not (h.pt y), snd_notT h.sn⟩
theorem snd_andT {t u : TT} {m n : Env → M Bool} (h : SndT C t m) (g : SndT C u n) : SndT C (tAnd t u) (tAndP m n) := fun e σ w S H Q E R q => by
  have q := sat_then.mp q
  refine h e σ w S H _ E R (q.imp (fun k S1 h1 w1 H1 l1 R1 => ?_) (fun x s hx => hx))
  cases k with
  | true => exact g e σ w1 S1 H1 _ (E.up l1) R1 (Out.sat.imp (show (n e S1).sat _ _ from h1) (fun b s z => z.up l1) fun x s z => z.up l1)
  | false => exact h1 w1 H1 l1 R1
theorem snd_orT {t u : TT} {m n : Env → M Bool} (h : SndT C t m) (g : SndT C u n) : SndT C (tOr t u) (tOrP m n) := fun e σ w S H Q E R q => by
  have q := sat_then.mp q
  refine h e σ w S H _ E R (q.imp (fun k S1 h1 w1 H1 l1 R1 => ?_) (fun x s hx => hx))
  cases k with
  | false => exact g e σ w1 S1 H1 _ (E.up l1) R1 (Out.sat.imp (show (n e S1).sat _ _ from h1) (fun b s z => z.up l1) fun x s z => z.up l1)
  | true => exact h1 w1 H1 l1 R1
theorem cw_and {t u : TT} {m n : Env → M Bool} {rest : List Expr} (h : CT X C a t m) (g : CW X C (.BoolOp .And (b :: rest) pos) u n) : CW X C (.BoolOp .And (a :: b :: rest) pos) (tAnd t u) (tAndP m n) := ⟨h.hK, fun y => pw_and (h.pt y) (g.pw y), snd_andT h.sn g.sn⟩
theorem cw_or {t u : TT} {m n : Env → M Bool} {rest : List Expr} (h : CT X C a t m) (g : CW X C (.BoolOp .Or (b :: rest) pos) u n) : CW X C (.BoolOp .Or (a :: b :: rest) pos) (tOr t u) (tOrP m n) := ⟨h.hK, fun y => pw_or (h.pt y) (g.pw y), snd_orT h.sn g.sn⟩
theorem cw_and1 {t : TT} {m : Env → M Bool} (h : CT X C a t m) : CW X C (.BoolOp .And [a] pos) t m := ⟨h.hK, fun y => pw_and1 (h.pt y), h.sn⟩
theorem cw_or1 {t : TT} {m : Env → M Bool} (h : CT X C a t m) : CW X C (.BoolOp .Or [a] pos) t m := ⟨h.hK, fun y => pw_or1 (h.pt y), h.sn⟩
theorem cw_t {t : TT} {m : Env → M Bool} (h : CW X C a t m) : CT X C a t m := ⟨h.hK, fun y => PW.pt (h.pw y), h.sn⟩
theorem ct_cmp {op : CmpOp} {r : R2} {g : D → D → M D} (ho : OpR X (compareOp op) r) (hs : OpS C.K r g) (ha : CE X C a ta ma) (hb : CE X C b tb mb) (hm : behindInMarks op b = false) : CT X C (.Compare a [op] [b] pos) (tTest (tOp r ta tb)) (tOf (e2 g ma mb)) :=
  ⟨ha.hK, fun y => pt_cmpR ho (ha.pe y) (hb.pe y) hm, snd_test (snd_op ha.sn hb.sn hs)⟩
theorem snd_if {t : TT} {m : Env → M Bool} (h : SndT C t m) (ha : SndE C ta ma) (hb : SndE C tb mb) : SndE C (tIf t ta tb) (eIf m ma mb) := fun e σ w S H Q E R q => by
  have q := sat_then.mp q
  refine h e σ w S H _ E R (q.imp (fun k S1 h1 w1 H1 l1 R1 => ?_) (fun x s hx => hx))
  cases k with
  | true => exact ha e σ w1 S1 H1 _ (E.up l1) R1 (Out.sat.imp (show (ma e S1).sat _ _ from h1) (fun b s z => z.up l1) fun x s z => z.up l1)
  | false => exact hb e σ w1 S1 H1 _ (E.up l1) R1 (Out.sat.imp (show (mb e S1).sat _ _ from h1) (fun b s z => z.up l1) fun x s z => z.up l1)
theorem ce_if {t : TT} {m : Env → M Bool} (h : CT X C c t m) (ha : CE X C a ta ma) (hb : CE X C b tb mb) : CE X C (.IfExp c a b pos) (tIf t ta tb) (eIf m ma mb) := ⟨h.hK, fun y => pe_ifExp (h.pt y) (ha.pe y) (hb.pe y), snd_if h.sn ha.sn hb.sn⟩
theorem ce_not (ha : CE X C a ta ma) : CE X C (.UnaryOp .Not a pos) (tNotV ta) (eNot ma) := ⟨ha.hK, fun y => pe_not (ha.pe y), fun e σ w S H Q E R h => by
  have h := sat_then.mp h
  refine ha.sn e σ w S H _ E R (h.imp (fun d1 S1 h1 w1 H1 v1 l1 R1 r1 => ?_) (fun x s hx => hx))
  obtain ⟨k, rfl, rfl, h2⟩ := bool_sat r1 (sat_then.mp h1)
  exact ⟨k, rfl, h2 w1 H1 _ l1 R1 (.bl _)⟩⟩
theorem ce_one {op : BoolOp} (ha : CE X C a ta ma) : CE X C (.BoolOp op [a] pos) ta ma := ⟨ha.hK, fun y => pe_one (ha.pe y), ha.sn⟩
theorem ce_and {rest : List Expr} (ha : CE X C a ta ma) (hb : CE X C (.BoolOp .And (b :: rest) pos) tb mb) : CE X C (.BoolOp .And (a :: b :: rest) pos) (tAndV ta tb) (eAnd ma mb) := ⟨ha.hK, fun y => pe_and (ha.pe y) (hb.pe y), fun e σ w S H Q E R h => by
  have h := sat_then.mp h
  refine ha.sn e σ w S H _ E R (h.imp (fun d1 S1 h1 w1 H1 v1 l1 R1 r1 => ?_) (fun x s hx => hx))
  obtain ⟨k, rfl, rfl, h2⟩ := bool_sat r1 (sat_then.mp h1)
  refine ⟨k, rfl, ?_⟩
  cases k with
  | true => exact hb.sn e σ w1 S1 H1 _ (E.up l1) R1 (Out.sat.imp (show (mb e S1).sat _ _ from h2) (fun b s z => z.up l1) fun x s z => z.up l1)
  | false => exact h2 w1 H1 _ l1 R1 (.bl _)⟩
/-- a < b < c -/
def eChain (g g' : D → D → M D) (a b c : Env → M D) (e : Env) : M D := bind (a e) fun x => bind (b e) fun y => bind (g x y) fun z => bind (dBool z) fun k => if k then bind (c e) fun u => g' y u else ret (.bl false)
theorem snd_chain {r r' : R2} {g g' : D → D → M D} (ha : SndE C ta ma) (hb : SndE C tb mb) (hc : SndE C tc mc) (hr : OpS C.K r g) (hr' : OpS C.K r' g') : SndE C (tChain r r' ta tb tc) (eChain g g' ma mb mc) := fun e σ w S H Q E R h => by
  have h := sat_then.mp h
  refine ha e σ w S H _ E R (h.imp (fun d1 S1 h1 w1 H1 v1 l1 R1 r1 => ?_) (fun x s hx => hx))
  have h1 := sat_then.mp h1
  refine hb e σ w1 S1 H1 _ (E.up l1) R1 (h1.imp (fun d2 S2 h2 w2 H2 v2 l2 R2 r2 => ?_) (fun x s hx => hx.up l1))
  have h2 := sat_then.mp h2
  refine hr w2 S2 H2 v1 v2 d1 d2 _ _ R2 (r1.up l2) r2 (h2.imp (fun d3 S3 h3 w3 H3 v3 l3 R3 r3 => ?_) fun _ _ z => z)
  obtain ⟨k, rfl, rfl, h4⟩ := bool_sat r3 (sat_then.mp h3)
  refine ⟨k, rfl, ?_⟩
  have l13 := (l1.trans l2).trans l3
  cases k with
  | false => exact h4 w3 H3 _ l13 R3 (.bl _)
  | true =>
    have h4 := sat_then.mp (show ((mc e S3).then _).sat _ _ from h4)
    refine hc e σ w3 S3 H3 _ (E.up l13) R3 (h4.imp (fun d4 S4 h5 w4 H4 v4 l4 R4 r4 => ?_) (fun x s hx => hx.up l13))
    exact hr' w4 S4 H4 v2 v4 d2 d4 Q _ R4 (r2.up (l3.trans l4)) r4 (h5.imp (fun d s q => q.up (l13.trans l4)) fun _ _ z => z)
theorem ce_chain {op op' : CmpOp} {r r' : R2} {g g' : D → D → M D} (ho : OpR X (compareOp op) r) (ho' : OpR X (compareOp op') r') (hs : OpS C.K r g) (hs' : OpS C.K r' g') (ha : CE X C a ta ma) (hb : CE X C b tb mb) (hc : CE X C c tc mc)
    (hm : lastMarks [op, op'] [b, c] = false := by with_unfolding_all rfl) : CE X C (.Compare a [op, op'] [b, c] pos) (tChain r r' ta tb tc) (eChain g g' ma mb mc) := ⟨ha.hK, fun y => pe_chain ho ho' (ha.pe y) (hb.pe y) (hc.pe y) hm, snd_chain ha.sn hb.sn hc.sn hs hs'⟩
theorem ct_chain {op op' : CmpOp} {r r' : R2} {g g' : D → D → M D} (ho : OpR X (compareOp op) r) (ho' : OpR X (compareOp op') r') (hs : OpS C.K r g) (hs' : OpS C.K r' g') (ha : CE X C a ta ma) (hb : CE X C b tb mb) (hc : CE X C c tc mc)
    (hm : lastMarks [op, op'] [b, c] = false := by with_unfolding_all rfl) : CT X C (.Compare a [op, op'] [b, c] pos) (tTest (tChain r r' ta tb tc)) (tOf (eChain g g' ma mb mc)) := ⟨ha.hK, fun y => pt_chain ho ho' (ha.pe y) (hb.pe y) (hc.pe y) hm, snd_test (snd_chain ha.sn hb.sn hc.sn hs hs')⟩
end
end PM
end
section
set_option Elab.async false
set_option linter.all false
set_option maxRecDepth 100000
namespace PM
open PySem L2 Evl
section
variable {X : Cx} {C : Ct} {ta tb tc te : TE} {a b c : Expr} {ma mb mc : Env → M D} {pos : Pos}
theorem ca_nil : CA X C [] tNil aNil := ⟨fun y => pa_nil, fun e σ w S H Q E R h => h w H [] (Wd.le.refl w) R .nil⟩
theorem snd_cons {tr : TA} {mr : Env → M (List D)} (h : SndE C te mc) (g : SndA C tr mr) : SndA C (tCons te tr) (aCons mc mr) := fun e σ w S H Q E R q => by
  have q := sat_then.mp q
  refine h e σ w S H _ E R (q.imp (fun d S1 h1 w1 H1 v1 l1 R1 r1 => ?_) (fun x s hx => hx))
  have h1 := sat_then.mp h1
  refine g e σ w1 S1 H1 _ (E.up l1) R1 (h1.imp (fun ds S2 h2 w2 H2 vs l2 R2 rs => ?_) (fun x s hx => hx.up l1))
  exact h2 w2 H2 _ (l1.trans l2) R2 (.cons (r1.up l2) rs)
theorem ca_cons {e : Expr} {es : List Expr} {tr : TA} {mr : Env → M (List D)} (h : CE X C e te mc) (g : CA X C es tr mr) (hs : starEach (e :: es) X.env = (false, eval e X.env) :: starEach es X.env := by rfl) : CA X C (e :: es) (tCons te tr) (aCons mc mr) :=
  ⟨fun y => pa_cons (h.pe y) (g.pa y) hs, snd_cons h.sn g.sn⟩
/-- a list that is read, as it stands -/
def rdL (S : Sto) : D → Option (List D)
  | .lst ds => some ds
  | .scr ns => some (ns.map .int)
  | .ptr n => match S[n]? with
    | some (.lst ds) => some ds
    | _ => none
  | _ => none
/-- a list or a tuple -/
def rdQ (S : Sto) : D → Option (List D)
  | .tup ds => some ds
  | d => rdL S d
theorem rdL_ok {K : Kw} {w : Wd} {S : Sto} {H : Hp} {v : V} {d : D} {ds : List D} (R : Rel K w S H) (a : VR K w v d) (h : rdL S d = some ds) : ∃ p xs, v = .ref p ∧ SqL K H p xs ∧ VRs K w xs ds ∧ Rd H p (.lst xs) := by
  cases a with
  | lst s as =>
    cases h
    exact ⟨_, _, rfl, .inl (.inl (R.ex _ _ s)), as, .inl (R.ex _ _ s)⟩
  | @scr p ns s =>
    cases h
    exact ⟨_, _, rfl, .inl (ex_rd R.ex s), VRs.ints ns, ex_rd R.ex s⟩
  | @ptr p n hb =>
    cases q : S[n]? with
    | none =>
      simp [rdL, q] at h
    | some cc =>
      cases cc with
      | lst es =>
        simp [rdL, q] at h
        subst h
        obtain ⟨_, xs, hx, ax⟩ := R.cell _ _ _ hb q rfl
        exact ⟨_, _, rfl, .inl (.inl hx), ax, .inl hx⟩
      | _ => simp [rdL, q] at h
  | _ => cases h
theorem rdQ_ok {K : Kw} {w : Wd} {S : Sto} {H : Hp} {v : V} {d : D} {ds : List D} (R : Rel K w S H) (a : VR K w v d) (h : rdQ S d = some ds) : ∃ p xs, v = .ref p ∧ (SqL K H p xs ∨ SqT K H p xs) ∧ VRs K w xs ds := by
  cases a with
  | tup s as =>
    cases h
    exact ⟨_, _, rfl, .inr (ex_t R.ex s), as⟩
  | non => cases h
  | bl b => cases h
  | int b => cases h
  | str b => cases h
  | obj s as => cases h
  | lst s as =>
    obtain ⟨p, xs, h1, h2, h3, _⟩ := rdL_ok R (.lst s as) h
    exact ⟨p, xs, h1, .inl h2, h3⟩
  | scr s =>
    obtain ⟨p, xs, h1, h2, h3, _⟩ := rdL_ok R (.scr s) h
    exact ⟨p, xs, h1, .inl h2, h3⟩
  | ptr s =>
    obtain ⟨p, xs, h1, h2, h3, _⟩ := rdL_ok R (.ptr s) h
    exact ⟨p, xs, h1, .inl h2, h3⟩
def aStar (a : Env → M D) (r : Env → M (List D)) (e : Env) : M (List D) := bind (a e) fun d => fun S => match rdQ S d with
  | some xs => (bind (r e) fun ds => ret (xs ++ ds)) S
  | none => .no
theorem snd_tup {tr : TA} {mr : Env → M (List D)} (g : SndA C tr mr) : SndE C (tTup tr) (eA dTup mr) := fun e σ w S H Q E R q => by
  have q := sat_then.mp q
  refine g e σ w S H _ E R (q.imp (fun ds S1 h1 w1 H1 vs l1 R1 rs => ?_) (fun x s hx => hx))
  obtain ⟨c, h1⟩ := gd_sat h1
  refine ⟨sz_lim (by rw [rs.len]; exact c), fun p hp => ?_⟩
  obtain ⟨le, R'⟩ := R1.plus (o := .tup vs) hp
  exact h1 _ _ _ (l1.trans le) R' (.tup (st_of upd_same) (rs.up le))
theorem ce_tup {es : List Expr} {tr : TA} {mr : Env → M (List D)} {x1} (g : CA X C es tr mr) (hK : X.kw = C.K := by rfl) : CE X C (.Tuple es x1 pos) (tTup tr) (eA dTup mr) := ⟨hK, fun y => pe_tup (g.pa y), snd_tup g.sn⟩
theorem ce_lst {es : List Expr} {tr : TA} {mr : Env → M (List D)} (g : CA X C es tr mr) (hK : X.kw = C.K := by rfl) : CE X C (.List es pos) (tLst tr) (eA dLst mr) := ⟨hK, fun y => pe_lst (g.pa y), fun e σ w S H Q E R q => by
  have q := sat_then.mp q
  refine g.sn e σ w S H _ E R (q.imp (fun ds S1 h1 w1 H1 vs l1 R1 rs => ?_) (fun x s hx => hx))
  obtain ⟨c, h1⟩ := gd_sat h1
  refine ⟨sz_lim (by rw [rs.len]; exact c), fun p hp => ?_⟩
  obtain ⟨le, R'⟩ := R1.plus (o := .lst vs) hp
  exact h1 _ _ _ (l1.trans le) R' (.lst upd_same (rs.up le))⟩
/-- [..], a list that will change -/
theorem ce_lstC {es : List Expr} {tr : TA} {mr : Env → M (List D)} (g : CA X C es tr mr) (hK : X.kw = C.K := by rfl) : CE X C (.List es pos) (tLst tr) (eA dNew mr) := ⟨hK, fun y => pe_lst (g.pa y), fun e σ w S H Q E R q => by
  have q := sat_then.mp q
  refine g.sn e σ w S H _ E R (q.imp (fun ds S1 h1 w1 H1 vs l1 R1 rs => ?_) (fun x s hx => hx))
  unfold dNew at h1
  by_cases c : ds.length ≤ lim
  · rw [if_pos c] at h1
    refine ⟨sz_lim (by rw [rs.len]; exact c), fun p hp => ?_⟩
    have R' := R1.newcell (o := .lst vs) (c := .lst ds) hp ⟨vs, upd_same, rs⟩
    exact h1 _ _ _ (l1.trans Wd.le_cell) R' (.ptr (cell_at p R1))
  · rw [if_neg c] at h1
    exact h1.elim⟩
def dIx (x y : D) : M D := fun S => match y with
  | .int i => match rdQ S x with
    | some ds => match atI ds i with
      | some d => .ok d S
      | none => .no
    | none => .no
  | _ => .no
theorem atI_of {α β : Type} {xs : List α} {ys : List β} {i : Int} (h : xs.length = ys.length) {d : β} (e : atI ys i = some d) : ∃ j : Nat, ys[j]? = some d ∧ ∀ v, xs[j]? = some v → atI xs i = some v := WD.atI_len h e
theorem ops_ix (K : Kw) : OpS K (fun x y H Q => rIxT K x y H Q ∨ rIxL K x y H Q) dIx := fun w S H x y d1 d2 Q E R a b h => by
  cases b with
  | int i =>
    cases z : rdQ S d1 with
    | none =>
      simp only [dIx, z] at h
      exact h.elim
    | some ds =>
      simp only [dIx, z] at h
      cases z2 : atI ds i with
      | none =>
        rw [z2] at h
        exact h.elim
      | some d =>
        rw [z2] at h
        obtain ⟨p, xs, rfl, e2, e3⟩ := rdQ_ok R a z
        obtain ⟨j, j1, j2⟩ := atI_of e3.len z2
        obtain ⟨v, v1, v2⟩ := e3.get j1
        rcases e2 with e2 | e2
        · exact .inr ⟨p, xs, i, v, rfl, rfl, e2, j2 v v1, h w H v (Wd.le.refl w) R v2⟩
        · exact .inl ⟨p, xs, i, v, rfl, rfl, e2, j2 v v1, h w H v (Wd.le.refl w) R v2⟩
  | _ =>
    simp only [dIx] at h
    exact h.elim
theorem ixOr {r1 r2 : R2} (h1 : IxR X r1) (h2 : IxR X r2) : IxR X (fun x y H Q => r1 x y H Q ∨ r2 x y H Q) := fun va sl pins s σ H x y v u Q I rx ry h hs => by
  rcases h with h | h
  · exact h1 va sl pins s σ H x y v u Q I rx ry h hs
  · exact h2 va sl pins s σ H x y v u Q I rx ry h hs
theorem ce_ix (ha : CE X C a ta ma) (hb : CE X C b tb mb) (hs : PlainIx b := by exact fun _ _ => rfl) : CE X C (.Subscript a b pos) (tOp (fun x y H Q => rIxT C.K x y H Q ∨ rIxL C.K x y H Q) ta tb) (e2 dIx ma mb) :=
  ⟨ha.hK, fun y => pe_ix (by rw [← ha.hK]; exact ixOr ix_tup ix_list) (ha.pe y) (hb.pe y) hs, snd_op ha.sn hb.sn (ops_ix _)⟩
def oNone (_ : Env) : M (Option Int) := ret none
def oSome (a : Env → M D) (e : Env) : M (Option Int) := bind (a e) fun d => match d with
  | .int i => ret (some i)
  | _ => stuck
theorem co_none : COp X C none tNoPart oNone := ⟨fun y => po_none, fun e σ w S H Q E R h => h w H (Wd.le.refl w) R⟩
theorem co_some (ha : CE X C a ta ma) : COp X C (some a) (tPart ta) (oSome ma) := ⟨fun y => po_some (ha.pe y), fun e σ w S H Q E R h => by
  have h := sat_then.mp h
  refine ha.sn e σ w S H _ E R (h.imp (fun d1 S1 h1 w1 H1 v1 l1 R1 r1 => ?_) (fun x s hx => hx))
  cases r1 with
  | int i => exact ⟨i, rfl, h1 w1 H1 l1 R1⟩
  | _ => exact h1.elim⟩
def cutD (ds : List D) (lo hi : Option Int) : List D := (ds.drop (HT.sIx ds.length 0 lo)).take (HT.sIx ds.length ds.length hi - HT.sIx ds.length 0 lo)
theorem cutR {K : Kw} {w : Wd} {lo hi : Option Int} {xs : List V} {ds : List D} (a : VRs K w xs ds) : VRs K w (cutV xs lo hi) (cutD ds lo hi) := by
  unfold cutV cutD
  rw [a.len]
  exact (a.drop _).take _
def dSl (x : D) (lo hi : Option Int) : M D := fun S => match x with
  | .tup ds => .ok (.tup (cutD ds lo hi)) S
  | _ => match rdL S x with
    | some ds => .ok (.lst (cutD ds lo hi)) S
    | none => .no
def eSl (a : Env → M D) (lo hi : Env → M (Option Int)) (e : Env) : M D := bind (a e) fun x => bind (lo e) fun l => bind (hi e) fun h => dSl x l h
theorem slOr {r1 r2 : V → Option Int → Option Int → Hp → VK → Prop} (h1 : SlR X r1) (h2 : SlR X r2) : SlR X (fun x l u H Q => r1 x l u H Q ∨ r2 x l u H Q) := fun pins s σ H x v vl vu lo hi sl Q I rx hs p1 p2 h => by
  rcases h with h | h
  · exact h1 pins s σ H x v vl vu lo hi sl Q I rx hs p1 p2 h
  · exact h2 pins s σ H x v vl vu lo hi sl Q I rx hs p1 p2 h
theorem snd_sl {tl th : TO} {ml mh : Env → M (Option Int)} (ha : SndE C ta ma) (hl : SndO C tl ml) (hh : SndO C th mh) : SndE C (tSl (fun x l u H Q => rSlA C.K x l u H Q ∨ rSlL C.K x l u H Q) ta tl th) (eSl ma ml mh) := fun e σ w S H Q E R h => by
  have h := sat_then.mp h
  refine ha e σ w S H _ E R (h.imp (fun d1 S1 h1 w1 H1 v1 l1 R1 r1 => ?_) (fun x s hx => hx))
  have h1 := sat_then.mp h1
  refine hl e σ w1 S1 H1 _ (E.up l1) R1 (h1.imp (fun lo S2 h2 w2 H2 l2 R2 => ?_) (fun x s hx => hx.up l1))
  have h2 := sat_then.mp h2
  refine hh e σ w2 S2 H2 _ (E.up (l1.trans l2)) R2 (h2.imp (fun hi S3 h3 w3 H3 l3 R3 => ?_) (fun x s hx => hx.up (l1.trans l2)))
  have l13 := (l1.trans l2).trans l3
  have r3 := r1.up (l2.trans l3)
  have lists : ∀ ds, rdL S3 d1 = some ds → (Out.ok (D.lst (cutD ds lo hi)) S3).sat (PV C.K w Q) (PX C w σ) → rSlL C.K v1 lo hi H3 Q := fun ds z h => by
    obtain ⟨p, xs, rfl, e2, e3, _⟩ := rdL_ok R3 r3 z
    refine ⟨p, xs, rfl, e2, fun q hq => ?_⟩
    obtain ⟨le, R'⟩ := R3.plus (o := .lst (cutV xs lo hi)) hq
    exact h _ _ _ (l13.trans le) R' (.lst upd_same ((cutR e3).up le))
  by_cases ht : ∃ ds, d1 = .tup ds
  · obtain ⟨ds, rfl⟩ := ht
    cases r3 with
    | @tup p xs _ s as =>
      refine .inl ⟨p, xs, rfl, ex_t R3.ex s, fun z => ?_, fun _ q hq => ?_⟩
      · refine h3 w3 H3 _ l13 R3 ?_
        have : cutD ds lo hi = ds := by
          unfold cutD
          rw [← as.len, z.1, z.2, List.drop_zero, Nat.sub_zero, as.len, List.take_length]
        rw [this]
        exact .tup s as
      · obtain ⟨le, R'⟩ := R3.plus (o := .tup (cutV xs lo hi)) hq
        exact h3 _ _ _ (l13.trans le) R' (.tup (st_of upd_same) ((cutR as).up le))
  · have e1 : dSl d1 lo hi S3 = match rdL S3 d1 with
      | some ds => .ok (.lst (cutD ds lo hi)) S3
      | none => .no := by
      cases d1 <;> first | rfl | exact absurd ⟨_, rfl⟩ ht
    rw [e1] at h3
    cases z : rdL S3 d1 with
    | none =>
      rw [z] at h3
      exact h3.elim
    | some ds =>
      rw [z] at h3
      exact .inr (lists ds z h3)
theorem ce_sl {lo hi : Option Expr} {tl th : TO} {ml mh : Env → M (Option Int)} {p2 : Pos} (ha : CE X C a ta ma) (hl : COp X C lo tl ml) (hh : COp X C hi th mh) :
    CE X C (.Subscript a (.Slice lo hi none p2) pos) (tSl (fun x l u H Q => rSlA C.K x l u H Q ∨ rSlL C.K x l u H Q) ta tl th) (eSl ma ml mh) := ⟨ha.hK, fun y => pe_slice (by rw [← ha.hK]; exact slOr sl_tupA sl_list) (ha.pe y) (hl.po y) (hh.po y), snd_sl ha.sn hl.sn hh.sn⟩
/-- the classes whose instances have the attribute f -/
def FldOk (K : Kw) (f : Str) (cs : List Str) : Prop := ∀ c ∈ cs, Cls K (He.ga K c) ∧ NoAttr K (He.ga K c) f
def dFldC (cs : List Str) (f : Str) (x : D) : M D := fun S => match x with
  | .obj c fs => if cs.contains c then match fs.lookup f with
    | some d => .ok d S
    | none => .no else .no
  | .ptr n => match S[n]? with
    | some (.obj c fs) => if cs.contains c then match fs.lookup f with
      | some d => .ok d S
      | none => .no else .no
    | _ => .no
  | _ => .no
theorem ce_fld {f : Str} (cs : List Str) (ok : FldOk C.K f cs) (ha : CE X C a ta ma) (hb : attributeBase a f X.env (eval a X.env) = eval a X.env := by rfl) : CE X C (.Attribute a f pos) (tFld C.K ta f) (e1 (dFldC cs f) ma) := ⟨ha.hK, fun y => by rw [← ha.hK]; exact pe_fld (ha.pe y) hb, fun e σ w S H Q E R h => by
  have h := sat_then.mp h
  refine ha.sn e σ w S H _ E R (h.imp (fun d1 S1 h1 w1 H1 v1 l1 R1 r1 => ?_) (fun x s hx => hx))
  cases r1 with
  | @obj p dx c fvs fs s as =>
    simp only [dFldC] at h1
    by_cases hc : cs.contains c = true
    · rw [if_pos hc] at h1
      obtain ⟨o1, o2⟩ := ok c (List.contains_iff_mem.mp hc)
      cases z : fs.lookup f with
      | none =>
        rw [z] at h1
        exact h1.elim
      | some d =>
        rw [z] at h1
        obtain ⟨v, v1, v2⟩ := as.look z
        exact ⟨p, _, dx, fvs, v, rfl, R1.ex _ _ s, o1, o2, v1, h1 w1 H1 v l1 R1 v2⟩
    · rw [if_neg hc] at h1
      exact h1.elim
  | @ptr p n hb =>
    simp only [dFldC] at h1
    cases q : S1[n]? with
    | none =>
      rw [q] at h1
      exact h1.elim
    | some cc =>
      rw [q] at h1
      cases cc with
      | obj c fs =>
        simp only at h1
        by_cases hc : cs.contains c = true
        · rw [if_pos hc] at h1
          obtain ⟨o1, o2⟩ := ok c (List.contains_iff_mem.mp hc)
          cases z : fs.lookup f with
          | none =>
            rw [z] at h1
            exact h1.elim
          | some d =>
            rw [z] at h1
            obtain ⟨_, dx, fvs, hx, as⟩ := R1.cell _ _ _ hb q rfl
            obtain ⟨v, v1, v2⟩ := as.look z
            exact ⟨p, _, dx, fvs, v, rfl, hx, o1, o2, v1, h1 w1 H1 v l1 R1 v2⟩
        · rw [if_neg hc] at h1
          exact h1.elim
      | _ => exact h1.elim
  | _ => exact h1.elim⟩
/-- the promise of a def that does what f says -/
def spM (K : Kw) (f : List D → M D) : Sp := fun vs H Q E => ∃ (w : Wd) (ds : List D) (S : Sto), Rel K w S H ∧ VRs K w vs ds ∧
  (f ds S).sat (PV K w Q) (fun x S' => ∀ (w' : Wd) (H' : Hp) (c : Value) (dd : Option Addr), w.le w' → Rel K w' S' H' → ErR K w' x c dd → E c dd H')
theorem ce_call {e : Expr} {es : List Expr} {tr : TA} {mr : Env → M (List D)} {x : Str} {p : Pos} {k : Nat} {f : Addr} {ps : List Str} {g : List D → M D} (F : WD.FnG X.prog X.w X.K X.mg X.base k f ps (spM X.kw g)) (hr : Room k X.A) (hg : Gl X x) (hm : X.mg x = some (.ref f)) (ha : CA X C (e :: es) tr mr)
    (hdb : (x == ("__debug__" : Str)) = false := by decide) (hst : starEach (e :: es) X.env = (false, eval e X.env) :: starEach es X.env := by rfl) (hpl : (backTo pos (starEach es X.env)).any (·.1) = false := by rfl) (hK : X.kw = C.K := by rfl) :
    CE X C (.Call (.Name x p) (e :: es) [] pos) (tCallS (spM C.K g) (WE C.W) tr) (eA g mr) := ⟨hK, fun y => by rw [← hK]; exact WD.pe_callSG F hr hg hm y.tk (ha.pa y) hdb hst hpl, fun e σ w S H Q E R h => by
  have h := sat_then.mp h
  refine ha.sn e σ w S H _ E R (h.imp (fun ds S1 h1 w1 H1 vs l1 R1 rs => ?_) (fun x s hx => hx))
  exact ⟨w1, ds, S1, R1, rs, Out.sat.imp (show (g ds S1).sat _ _ from h1) (fun d s z => z.up l1) fun x s z => z.up l1⟩⟩
end
end PM
end
section
set_option Elab.async false
set_option linter.all false
set_option maxRecDepth 100000
set_option maxHeartbeats 4000000
namespace EnT
open PySem PySem.Spec PyProof.Rows L2
/-- what enumerate makes of anything that can be begun -/
theorem new_enum {v : Value} {o : Obj} {B : Heap → Prop} (b : Begins v o B) : Meets (Builtin.«enumerate.__new__» ⟨[.type "enumerate", v], []⟩) (fun _ R s => B s.heap ∧
    R (.ok (.ret (.ref (s.heap.push o).objs.size))) { s with heap := (s.heap.push o).push { cls := .type "enumerate", data := .fields #[.none, .bool false, .ref s.heap.objs.size, rawInt 0, .none, .none] } }) := by
  refine .of_wp fun prog w A R s h => ?_
  rcases s with ⟨hp, g, d, tk, os⟩
  obtain ⟨hb, hr⟩ := h
  have isub := sub_enumerate
  have it : ∀ {A' : Around} {E : Value → Shared → Prop} {Q : Value → Shared → Prop}, Q (.ref hp.objs.size) ⟨hp.push o, g, d, tk, os⟩ → wpAny (model prog w) A' (pyIter v) Q E ⟨hp, g, d, tk, os⟩ := fun q => b.iter prog w _ _ ⟨hp, g, d, tk, os⟩ _ hb q
  wp_walk using it
  refine wpAny_stack_any fun st => wpAny_pure ?_
  split
  · rename_i c _ _ _ _ _
    cases (c == Value.type "enumerate") <;> (wp_walk using it; exact ⟨_, rfl, hr⟩)
  · wp_walk using it
    exact ⟨_, rfl, hr⟩
section
variable {prog : Program} {w : World} {A : Around} {E : Value → Shared → Prop} {s : Shared}
/-- enumerate(t) called: two new objects -/
theorem call_enum {l : Addr} {us : Array Value} {Q : Value → Shared → Prop} (hl : s.heap.IsTuple l us)
    (h : ∀ h', IsEnum h' (s.heap.objs.size + 1) s.heap.objs.size 0 .none → h'.IsTupleIter s.heap.objs.size l 0 → (∀ b o, s.heap.get? b = some o → h'.get? b = some o) → Q (.ref (s.heap.objs.size + 1)) { s with heap := h' }) :
    wpAny (model prog w) A (call (.type "enumerate") [.ref l]) Q E s := by
  have b := begins_tuple l us
  refine callType_new F.called_enumerate (by decide) (F.typeCall_enumerate_1 _) (F.newCall_enumerate_1 _) (fun obj => F.args_object_init_2 obj _) F.entry_enumerate_new (new_enum b) ⟨hl, ?_⟩
  generalize ho : ({ cls := .type "tuple_iterator", data := .fields #[.ref l, .int 0 0] } : Obj) = io
  have fr : io.isFreed = false := by rw [← ho]; rfl
  have z1 : (s.heap.push io).objs.size = s.heap.objs.size + 1 := Heap.size_push ..
  generalize hen : ({ cls := .type "enumerate", data := .fields #[.none, .bool false, .ref s.heap.objs.size, rawInt 0, .none, .none] } : Obj) = eo
  have fe : eo.isFreed = false := by rw [← hen]; rfl
  have ge : ((s.heap.push io).push eo).get? (s.heap.objs.size + 1) = some eo := by rw [← z1]; exact Heap.get?_push_size _ fe
  have gi : ((s.heap.push io).push eo).get? s.heap.objs.size = some io := Heap.get?_push_of_some _ (Heap.get?_push_size _ fr)
  show _ ∧ _
  rw [z1]
  refine ⟨⟨_, ge, by rw [← hen]⟩, h _ (by rw [← hen] at ge ⊢; exact ge) ⟨io, gi, by rw [← ho], by rw [← ho]; rfl⟩ fun b o e => Heap.get?_push_of_some _ (Heap.get?_push_of_some _ e)⟩
end
/-- the tuple at a, its items with their places in new pairs -/
def IteT (K : PySem.W.Frag) (a : Addr) : It :=
  ⟨fun i H => ∃ (xs : List V) (x : V), SqT K H a xs ∧ xs[i]? = some x, fun i H v H' => ∃ p x, v = .ref p ∧ H p = none ∧ H' = upd H p (.tup [.int (i : Nat), x]) ∧ ∀ xs, SqT K H a xs → xs[i]? = some x, fun i H => ∃ xs : List V, SqT K H a xs ∧ xs.length ≤ i⟩
/-- behind the last item nothing comes -/
theorem over {prog : Program} {w : World} {A : Around} {it a : Addr} {us : Array Value} {n : Nat} (hh : A.handled = none) (hn : us[n]? = none) :
    Draws prog w A it [it, a] n (fun _ _ => False) (fun i h => i = n ∧ h.IsTupleIter it a n ∧ h.IsTuple a us) where
  live := fun i h st => by
    obtain ⟨_, ⟨o, ho, _⟩, _⟩ := st
    exact ⟨o, ho⟩
  frame := fun i h h' st k => ⟨st.1, st.2.1.at fun o e => k it (by simp) o e, st.2.2.at fun o e => k a (by simp) o e⟩
  item := fun i s Q E hi st _ => by
    have := st.1
    omega
  done := fun s Q E st hE => wpAny_nextOf_tuple_end hh st.2.1 st.2.2 hn hE
theorem turn_enumT {P : Program} {w : World} {K : PySem.W.Frag} {elts : List Expr} {kk : Nat} {tpos : Pos} {a e it : Addr} (hae : a ≠ e) (hai : a ≠ it) (hne : e ≠ it) :
    Turn P w K (.Tuple elts kk tpos) (IteT K a) [e, it] e (fun i h => (∃ old, IsEnum h e it ((i : Nat) : Int) old) ∧ h.IsTupleIter it a i) where
  mem := List.mem_cons_self
  obj := by
    rintro i h ⟨⟨old, he⟩, ⟨o, ho, hc, hd⟩⟩ b hb
    rcases List.mem_cons.mp hb with rfl | hb
    · exact ⟨_, he, fun v q => nomatch q⟩
    · exact ⟨o, by rw [List.mem_singleton.mp hb]; exact ho, fun v q => by rw [hd] at q; cases q⟩
  keep := by
    rintro i h h' ⟨⟨old, he⟩, hi⟩ k
    exact ⟨⟨old, k e (by simp) _ he⟩, hi.at fun o q => k it (by simp) o q⟩
  item := by
    rintro X rfl rfl rfl hc i pins s σ H E I hf ⟨⟨old, he⟩, hit⟩ ⟨xs, x, hq, hx⟩
    obtain ⟨its, rv, p, hz⟩ := I.tuple hq
    obtain ⟨u, hu, ru⟩ := rv.get hx
    have le : e < s.heap.objs.size := Heap.lt_size he
    have li : it < s.heap.objs.size := by obtain ⟨_, q, _⟩ := hit; exact Heap.lt_size q
    have hh : X.A.in1.handled = none := by simp [I.ok.hd hc]
    have il : i < its.toArray.size := by
      have := (List.getElem?_eq_some_iff.mp hu).1
      simpa using this
    refine wpAny_pyNext_enum_itemD (Draws.tuple hh it a hai its.toArray) he ⟨hit, p⟩ il hne (fun z => by
      rcases List.mem_cons.mp z with z | z
      · exact hne z
      · exact hae (List.mem_singleton.mp z).symm) fun x' h' tk hx' ho st' hT hsz hk => ?_
    have ex : x' = u := by
      have hx2 : its.toArray[i]? = some x' := hx'
      rw [List.getElem?_toArray, hu] at hx2
      exact (Option.some.inj hx2).symm
    subst ex
    refine ⟨_, rfl, wpAny_letOwnedTupleGo_enum (s := { s with heap := h', toks := tk + 1 }) ho fun h2 he2 sb => ?_⟩
    have nT : s.heap.objs.size ≠ e := Nat.ne_of_gt le
    have nI : s.heap.objs.size ≠ it := Nat.ne_of_gt li
    have hT2 : h2.get? s.heap.objs.size = some { cls := .type "tuple", data := .seq #[.int i tk, x'] } := (sb.2 _ nT).trans hT
    have new : ObjOk X.prog X.w (upd H s.heap.objs.size (.tup [.int (i : Nat), x])) h2 s.heap.objs.size (.tup [.int (i : Nat), x]) := ⟨by show 2 ≤ sizeLine; rw [sizeLine_eq]; decide, [.int i tk, x'], .cons ⟨_, rfl⟩ (.cons ru .nil), ⟨_, hT2, rfl, _, rfl⟩⟩
    have J : Inv X pins σ (upd H s.heap.objs.size (.tup [.int (i : Nat), x])) { s with heap := h2, toks := tk + 1 } :=
      I.turnedNew (ch := [e, it]) (fun b ob hb q => (sb.2 b (fun z => hb (by simp [z]))).trans (hk b ob (fun z => hb (by simp [z])) (fun z => hb (by simp [z])) q)) hf (Nat.le_refl _) new
    refine ⟨.ref s.heap.objs.size, _, J, rfl, ⟨_, x, rfl, I.hok.fresh (Nat.le_refl _), rfl, fun ys hy => by rw [I.tuple_inj hy hq]; exact hx⟩, ⟨⟨x', by rw [show ((i + 1 : Nat) : Int) = (i : Int) + 1 by omega]; exact he2⟩, st'.1.at fun o q => (sb.2 it hne.symm).trans q⟩, fun b hb => ?_⟩
    have lb : b < s.heap.objs.size := by
      rcases List.mem_cons.mp hb with z | z
      · rw [z]; exact le
      · rw [List.mem_singleton.mp z]; exact li
    rw [upd_ne (Nat.ne_of_lt lb)]
    exact (hf b hb).1
  done := by
    rintro X rfl rfl rfl hc i pins s σ H E I hf ⟨⟨old, he⟩, hit⟩ ⟨xs, hq, hx⟩
    obtain ⟨its, rv, p, hz⟩ := I.tuple hq
    have hh : X.A.in1.handled = none := by simp [I.ok.hd hc]
    have il : its.toArray[i]? = none := by
      have y := rv.length
      rw [Array.getElem?_eq_none]
      simpa using (show its.length ≤ i by omega)
    obtain ⟨f0, f1, f2, f3, f4, f5⟩ := hf it (by simp)
    exact wpAny_pyNext_enum_endD (over hh il) he ⟨rfl, hit, p⟩ fun h' eb => ⟨rfl, I.turned (t' := s.toks) (fun b o hb q => eb b o hb q) f0 f1 f3 f4 f5⟩
  self := fun A i s Q E st h => by
    obtain ⟨⟨_, he⟩, _⟩ := st
    exact wpAny_pyIter_enum he h
def iEnumT (K : PySem.W.Frag) (ta : TA) : TI := fun σ H R => ta σ H fun vs H1 => ∃ a xs, vs = [.ref a] ∧ SqT K H1 a xs ∧ R (IteT K a) H1
theorem pi_enumT {X : Cx} {e : Expr} {ta : TA} {p pos tpos : Pos} {elts : List Expr} {kk : Nat} (hg : Gl X "enumerate") (hm : X.mg "enumerate" = none) (ha : PA X [e] ta) (hst : starEach [e] X.env = [(false, eval e X.env)] := by rfl) :
    PI X (.Tuple elts kk tpos) (.Call (.Name "enumerate" p) [e] [] pos) (iEnumT X.K ta) := by
  refine ⟨fun pins s σ H R I h => Call_ (ld_blt I hg hm boot_enumerate (PyProof.Rows.callWith_type1 (thn (ha.run pos pins s σ H _ I h) fun us s1 ⟨vs, H1, I1, r1, q1⟩ => ?_) hst rfl))⟩
  obtain ⟨a, xs, rfl, hq, q⟩ := q1
  obtain ⟨u, rfl, ru⟩ := r1.one
  obtain rfl : u = Value.ref a := ru
  obtain ⟨its, rv, pt, hz⟩ := I1.tuple hq
  have la : a < s1.heap.objs.size := by
    obtain ⟨o, ho, _⟩ := id pt
    exact Heap.lt_size ho
  refine call_enum pt fun h' he hit hk => wpAny_pyIter_enum he ?_
  have I2 : Inv X pins σ H1 { s1 with heap := h' } := I1.kept (t' := s1.toks) hk
  refine ⟨s1.heap.objs.size + 1, [s1.heap.objs.size + 1, s1.heap.objs.size], _, _, H1, rfl, I2, turn_enumT (a := a) (Nat.ne_of_lt (Nat.lt_succ_of_lt la)) (Nat.ne_of_lt la) (Nat.succ_ne_self _), ⟨⟨.none, he⟩, hit⟩, fun b hb => ?_, q⟩
  have lb : s1.heap.objs.size ≤ b := by
    rcases List.mem_cons.mp hb with z | z
    · rw [z]; exact Nat.le_succ _
    · rw [List.mem_singleton.mp z]; exact Nat.le_refl _
  exact I1.fpOk lb (I1.hok.fresh lb)
end EnT
namespace WD
open PySem PySem.Spec PyProof.Rows L2 Evl
end WD
end
section
set_option Elab.async false
set_option linter.all false
set_option maxRecDepth 100000
namespace PM
open PySem L2 Evl
section
variable {X : Cx} {C : Ct} {ta tb tc te : TE} {a b c : Expr} {ma mb mc : Env → M D} {pos : Pos}
/-- an instance of the class c without a field m -/
def insOf (S : Sto) (c m : Str) : D → Bool
  | .obj c' fs => decide (c' = c) && (fs.lookup m).isNone
  | .ptr n => match S[n]? with
    | some (.obj c' fs) => decide (c' = c) && (fs.lookup m).isNone
    | _ => false
  | _ => false
theorem insOf_ok {K : Kw} {w : Wd} {S : Sto} {H : Hp} {v : V} {d : D} {c m : Str} (R : Rel K w S H) (r : VR K w v d) (h : insOf S c m d = true) : ∃ p dx fvs, v = .ref p ∧ H p = some (.ins (He.ga K c) dx fvs) ∧ fvs.lookup m = none := by
  cases r with
  | @obj p dx c' fvs fs s as =>
    obtain ⟨h1, h2⟩ := Bool.and_eq_true_iff.mp h
    obtain rfl := of_decide_eq_true h1
    exact ⟨p, dx, fvs, rfl, R.ex _ _ s, as.none (Option.isNone_iff_eq_none.mp h2)⟩
  | @ptr p n hb =>
    cases q : S[n]? with
    | none =>
      simp [insOf, q] at h
    | some cc =>
      cases cc with
      | obj c' fs =>
        simp only [insOf, q] at h
        obtain ⟨h1, h2⟩ := Bool.and_eq_true_iff.mp h
        obtain rfl := of_decide_eq_true h1
        obtain ⟨_, dx, fvs, hx, as⟩ := R.cell _ _ _ hb q rfl
        exact ⟨p, dx, fvs, rfl, hx, as.none (Option.isNone_iff_eq_none.mp h2)⟩
      | _ => simp [insOf, q] at h
  | _ => cases h
theorem sp_of {K : Kw} {w : Wd} {S : Sto} {H : Hp} {vs : List V} {ds : List D} {g : List D → M D} {Q : VK} {E : XK} (R : Rel K w S H) (rs : VRs K w vs ds) {P : D → Sto → Prop} {F : Er → Sto → Prop} (h : (g ds S).sat P F) (hp : ∀ d s, P d s → PV K w Q d s)
    (he : ∀ x s, F x s → ∀ (w' : Wd) (H' : Hp) (c : Value) (dd : Option Addr), w.le w' → Rel K w' s H' → ErR K w' x c dd → E c dd H') : spM K g vs H Q E := ⟨w, ds, S, R, rs, h.imp hp he⟩
def eMeth (c m : Str) (g : List D → M D) (o : Env → M D) (r : Env → M (List D)) (e : Env) : M D := bind (o e) fun d => fun S => if insOf S c m d then (bind (r e) fun ds => g (d :: ds)) S else .no
theorem ce_meth {o e : Expr} {es : List Expr} {m c : Str} {apos : Pos} {tr : TA} {mr : Env → M (List D)} {pl : Sem Bool} {k : Nat} {f : Addr} {ps : List Str} {g : List D → M D} (ho : CE X C o ta ma) (cl : Cls X.K (He.ga X.K c)) (hm : Meth X.K (He.ga X.K c) m f) (F : WD.FnG X.prog X.w X.K X.mg X.base k f ps (spM X.kw g)) (hr : Room k X.A) (ha : CA X C (e :: es) tr mr)
    (hst : starEach (e :: es) X.env = (false, eval e X.env) :: starEach es X.env := by rfl) (hpl : (backTo pos (starEach es X.env)).any (·.1) = false := by rfl)
    (ht : eval (.Call (.Attribute o m apos) (e :: es) [] pos) X.env = (do
      let ov ← eval o X.env
      standAt apos.atName
      let (f, first) ← holding [ov] (getMethod ov m pl)
      callWith pos f first (backTo pos (starEach (e :: es) X.env)) (backToKw pos (keywordEach [] X.env))) := by rfl) :
    CE X C (.Call (.Attribute o m apos) (e :: es) [] pos) (tMethX (He.ga C.K c) m (spM C.K g) (WE C.W) ta tr) (eMeth c m g ma mr) := ⟨ho.hK, fun y => by rw [← ho.hK]; exact pe_methSG (ho.pe y) cl hm F hr y.tk (ha.pa y) hst hpl ht, fun e σ w S H Q E R h => by
  have h := sat_then.mp h
  refine ho.sn e σ w S H _ E R (h.imp (fun d S1 h1 w1 H1 v l1 R1 r1 => ?_) (fun x s hx => hx))
  by_cases z : insOf S1 c m d = true
  · rw [if_pos z] at h1
    obtain ⟨p, dx, fvs, rfl, hp, hl⟩ := insOf_ok R1 r1 z
    refine ⟨p, dx, fvs, rfl, hp, hl, ?_⟩
    have h1 := sat_then.mp (show ((mr e S1).then _).sat _ _ from h1)
    refine ha.sn e σ w1 S1 H1 _ (E.up l1) R1 (h1.imp (fun ds S2 h2 w2 H2 vs l2 R2 rs => ?_) (fun x s hx => hx.up l1))
    exact sp_of R2 (.cons (r1.up l2) rs) h2 (fun d s q => q.up (l1.trans l2)) (fun x s q => q.up (l1.trans l2))
  · rw [if_neg z] at h1
    exact h1.elim⟩
def noE {α : Type} (o : Out α) : Out α := match o with
  | .er _ _ => .no
  | o => o
theorem noE_sat {α : Type} {o : Out α} {P : α → Sto → Prop} {E E' : Er → Sto → Prop} (h : (noE o).sat P E) : o.sat P E' := by
  cases o with
  | ok d s => exact h
  | er x s => exact h.elim
  | no => exact h
@[simp] theorem noE_ok {α : Type} (d : α) (s : Sto) : noE (Out.ok d s) = .ok d s := rfl
def eMeth0 (c m : Str) (g : List D → M D) (o : Env → M D) (e : Env) : M D := bind (o e) fun d => fun S => if insOf S c m d then noE (g [d] S) else .no
/-- a method with defaults, whose data are es -/
def eMethH (c m : Str) (g : List D → M D) (dd : List D) (o : Env → M D) (r : Env → M (List D)) (e : Env) : M D := bind (o e) fun d => fun S => if insOf S c m d then (bind (r e) fun ds => fun S2 => noE (g (d :: (ds ++ dd)) S2)) S else .no
/-- an instance made: it stays (keep: it may change) -/
def mkObj (keep : Bool) (c : Str) (g : List D → M D) (ds : List D) : M D := fun S => match g (.ptr S.length :: ds) (S ++ [.obj c []]) with
  | .ok .non S' => match S'[S.length]? with
    | some (.obj c' fs) => if keep then .ok (.ptr S.length) S' else .ok (.obj c' fs) (S'.set S.length .dead)
    | _ => .no
  | .er x S' => .er x S'
  | _ => .no
theorem make_ok {K : Kw} {keep : Bool} {c : Str} {g : List D → M D} {ds : List D} {w0 w : Wd} {S : Sto} {H : Hp} {vs : List V} {Q : VK} {E : XK} {F : Er → Sto → Prop} {x dx : Addr} (l0 : w0.le w) (R : Rel K w S H) (rs : VRs K w vs ds) (h : (mkObj keep c g ds S).sat (PV K w0 Q) F) (h1 : H x = none) (h2 : H dx = none) (ne : dx ≠ x)
    (he : ∀ e s, F e s → ∀ (w' : Wd) (H' : Hp) (c : Value) (dd : Option Addr), w.le w' → Rel K w' s H' → ErR K w' e c dd → E c dd H') : spM K g (.ref x :: vs) (upd (upd H dx (.own x)) x (.ins (He.ga K c) dx [])) (fun v H2 => v = .non ∧ Q (.ref x) H2) E := by
  have Ra := R.grow (Ex.new (o := .own x) h2)
  have hx : upd H dx (.own x) x = none := by
    rw [upd_ne (Ne.symm ne)]
    exact h1
  have Rb := Ra.newcell (o := .ins (He.ga K c) dx []) (c := .obj c []) hx ⟨dx, [], upd_same, .nil⟩
  refine ⟨w.cell x, .ptr S.length :: ds, S ++ [.obj c []], Rb, .cons (.ptr (cell_at x R)) (rs.up Wd.le_cell), ?_⟩
  unfold mkObj at h
  cases q : g (.ptr S.length :: ds) (S ++ [.obj c []]) with
  | no =>
    rw [q] at h
    exact h.elim
  | er e s =>
    rw [q] at h
    exact fun w' H' c dd l r er => he e s h w' H' c dd (Wd.le_cell.trans l) r er
  | ok d s =>
    rw [q] at h
    intro w' H' v l r a
    cases a with
    | non =>
      refine ⟨rfl, ?_⟩
      simp only at h
      have hb : w'.B[S.length]? = some x := pre_get l.b (cell_at x R)
      cases z : s[S.length]? with
      | none =>
        rw [z] at h
        exact h.elim
      | some cc =>
        rw [z] at h
        cases cc with
        | obj c' fs =>
          simp only at h
          have l2 := l0.trans (Wd.le_cell.trans l)
          cases keep with
          | true => exact h w' H' _ l2 r (.ptr hb)
          | false =>
            obtain ⟨_, dy, fvs, hy, as⟩ := r.cell _ _ _ hb z rfl
            obtain ⟨l3, r3⟩ := r.freeze hb z rfl hy
            exact h _ H' _ (l2.trans l3) r3 (.obj upd_same (as.up l3))
        | _ => exact h.elim
    | _ => exact h.elim
theorem ce_make (keep : Bool) {e : Expr} {es : List Expr} {x c : Str} {p : Pos} {tr : TA} {mr : Env → M (List D)} {k : Nat} {f : Addr} {ps : List Str} {g : List D → M D} (Mk_ : Mk X.K (He.ga X.K c) f) (F : WD.FnG X.prog X.w X.K X.mg X.base k f ps (spM X.kw g)) (hr : Room (k + 1) X.A) (hg : Gl X x) (hm : X.mg x = some (.ref (He.ga X.K c))) (ha : CA X C (e :: es) tr mr)
    (hdb : (x == ("__debug__" : Str)) = false := by decide) (he : starEach (e :: es) X.env = (false, eval e X.env) :: starEach es X.env := by rfl) (hpl : (backTo pos (starEach es X.env)).any (·.1) = false := by rfl) (hK : X.kw = C.K := by rfl) :
    CE X C (.Call (.Name x p) (e :: es) [] pos) (tMakeX (He.ga C.K c) (spM C.K g) (WE C.W) tr) (eA (mkObj keep c g) mr) := ⟨hK, fun y => by rw [← hK]; exact pe_makeSG Mk_ F hr hg hm y.tk (ha.pa y) hdb he hpl, fun e σ w S H Q E R h => by
  have h := sat_then.mp h
  refine ha.sn e σ w S H _ E R (h.imp (fun ds S1 h1 w1 H1 vs l1 R1 rs => ?_) (fun x s hx => hx))
  exact fun x dx n1 n2 ne => make_ok l1 R1 rs h1 n1 n2 ne fun e s q => q.up l1⟩
def dLenO (c : Str) (g : List D → M D) (ds : List D) : M D := fun S => match ds with
  | [d] => if insOf S c "" d then (noE (g [d] S)).then fun r => match r with
    | .int i => gd (0 ≤ i ∧ i < 2 ^ 63) (ret (.int i))
    | _ => stuck else .no
  | _ => .no
theorem calls_lenO {K : Kw} {c : Str} {g : List D → M D} : CallS K (rLenO (He.ga K c) (spM K g) E0) (dLenO c g) := fun w S H xs ds Q E R rs h => by
  cases rs with
  | nil => exact h.elim
  | cons r1 rr =>
    cases rr with
    | cons _ _ => exact h.elim
    | nil =>
      rename_i v d
      have h : (if insOf S c "" d then (noE (g [d] S)).then _ else Out.no).sat _ _ := h
      by_cases z : insOf S c "" d = true
      · rw [if_pos z] at h
        obtain ⟨p, dx, fvs, rfl, hp, _⟩ := insOf_ok R r1 z
        have h := sat_then.mp h
        refine ⟨p, dx, fvs, rfl, hp, sp_of R (.cons r1 .nil) (noE_sat (E' := fun _ _ => False) h) (fun d s q w' H' v l r a => ?_) fun _ _ q => q.elim⟩
        cases a with
        | int i =>
          obtain ⟨c1, q⟩ := gd_sat q
          exact ⟨i, rfl, c1, q w' H' _ l r (.int _)⟩
        | _ => exact q.elim
      · rw [if_neg z] at h
        exact h.elim
def dEqO (neg : Bool) (c : Str) (g : List D → M D) (x y : D) : M D := fun S => if insOf S c "" x && insOf S c "" y then (noE (g [x, y] S)).then fun r => match r with
    | .bl b => ret (.bl (neg != b))
    | _ => stuck else .no
theorem ops_neO {K : Kw} {c : Str} {g : List D → M D} : OpS K (rNeO K (He.ga K c) (spM K g) E0) (dEqO true c g) := fun w S H x y d1 d2 Q E R a b h => by
  unfold dEqO at h
  by_cases z : (insOf S c "" d1 && insOf S c "" d2) = true
  · rw [if_pos z] at h
    obtain ⟨z1, z2⟩ := Bool.and_eq_true_iff.mp z
    obtain ⟨p, dx, fvs, rfl, hp, _⟩ := insOf_ok R a z1
    obtain ⟨p', dx', fvs', rfl, hp', _⟩ := insOf_ok R b z2
    have h := sat_then.mp h
    refine ⟨p, p', dx, dx', fvs, fvs', rfl, rfl, hp, hp', sp_of R (.cons a (.cons b .nil)) (noE_sat (E' := fun _ _ => False) h) (fun d s q w' H' v l r a => ?_) fun _ _ q => q.elim⟩
    cases a with
    | bl k =>
      have := q w' H' _ l r (.bl _)
      rw [Bool.true_bne] at this
      exact ⟨k, rfl, this⟩
    | _ => exact q.elim
  · rw [if_neg z] at h
    exact h.elim
theorem ce_callB {e : Expr} {es : List Expr} {tr : TA} {mr : Env → M (List D)} {x : Str} {p : Pos} {id : String} {r : List V → Hp → VK → Prop} {g : List D → M D} (hc : CallR X (.builtin id) r) (hs : CallS C.K r g) (hg : Gl X x) (hm : X.mg x = none) (hv : bootBuiltins x = some (.builtin id)) (ha : CA X C (e :: es) tr mr) (hn : x ≠ "__name__" := by decide) (hdb : (x == ("__debug__" : Str)) = false := by decide)
    (he : starEach (e :: es) X.env = (false, eval e X.env) :: starEach es X.env := by rfl) (hpl : (backTo pos (starEach es X.env)).any (·.1) = false := by rfl) (hK : X.kw = C.K := by rfl) : CE X C (.Call (.Name x p) (e :: es) [] pos) (tCB r tr) (eA g mr) := ⟨hK, fun y => pe_callB hc hg hm hv (ha.pa y) hn hdb he hpl, fun e σ w S H Q E R h => by
  have h := sat_then.mp h
  refine ha.sn e σ w S H _ E R (h.imp (fun ds S1 h1 w1 H1 vs l1 R1 rs => ?_) (fun x s hx => hx))
  exact hs w1 S1 H1 vs ds Q _ R1 rs (h1.imp (fun d s q => q.up l1) fun _ _ z => z)⟩
theorem ce_callTy {e : Expr} {es : List Expr} {tr : TA} {mr : Env → M (List D)} {x : Str} {p : Pos} {T : String} {r : List V → Hp → VK → Prop} {g : List D → M D} (hc : CallR X (.type T) r) (hs : CallS C.K r g) (hg : Gl X x) (hm : X.mg x = none) (hv : bootBuiltins x = some (.type T)) (ha : CA X C (e :: es) tr mr) (hn : x ≠ "__name__" := by decide) (hdb : (x == ("__debug__" : Str)) = false := by decide)
    (he : starEach (e :: es) X.env = (false, eval e X.env) :: starEach es X.env := by rfl) (hpl : (backTo pos (starEach es X.env)).any (·.1) = false := by rfl) (hK : X.kw = C.K := by rfl) : CE X C (.Call (.Name x p) (e :: es) [] pos) (tCB r tr) (eA g mr) := ⟨hK, fun y => pe_callTy hc hg hm hv (ha.pa y) hn hdb he hpl, fun e σ w S H Q E R h => by
  have h := sat_then.mp h
  refine ha.sn e σ w S H _ E R (h.imp (fun ds S1 h1 w1 H1 vs l1 R1 rs => ?_) (fun x s hx => hx))
  exact hs w1 S1 H1 vs ds Q _ R1 rs (h1.imp (fun d s q => q.up l1) fun _ _ z => z)⟩
theorem ce_callBf {e : Expr} {es : List Expr} {tr : TA} {mr : Env → M (List D)} {x : Str} {p : Pos} {id : String} {r : List V → Hp → VK → Prop} {g : List D → M D} (hc : CallR X (.builtin id) r) (hs : CallS C.K r g) (hg : Gl X x) (hm : X.mg x = some (.builtin id)) (ha : CA X C (e :: es) tr mr) (hdb : (x == ("__debug__" : Str)) = false := by decide)
    (he : starEach (e :: es) X.env = (false, eval e X.env) :: starEach es X.env := by rfl) (hpl : (backTo pos (starEach es X.env)).any (·.1) = false := by rfl) (hK : X.kw = C.K := by rfl) : CE X C (.Call (.Name x p) (e :: es) [] pos) (tCB r tr) (eA g mr) := ⟨hK, fun y => pe_callBfun hc hg hm (ha.pa y) hdb he hpl, fun e σ w S H Q E R h => by
  have h := sat_then.mp h
  refine ha.sn e σ w S H _ E R (h.imp (fun ds S1 h1 w1 H1 vs l1 R1 rs => ?_) (fun x s hx => hx))
  exact hs w1 S1 H1 vs ds Q _ R1 rs (h1.imp (fun d s q => q.up l1) fun _ _ z => z)⟩
def d1 (g : D → M D) (ds : List D) : M D := match ds with
  | [d] => g d
  | _ => stuck
def d2 (g : D → D → M D) (ds : List D) : M D := match ds with
  | [d, e] => g d e
  | _ => stuck
theorem calls1 {K : Kw} {r : List V → Hp → VK → Prop} {g : D → M D} (h : ∀ (w : Wd) (S : Sto) (H : Hp) (x : V) (d : D) (Q : VK) (E : Er → Sto → Prop), Rel K w S H → VR K w x d → (g d S).sat (PV K w Q) E → r [x] H Q) : CallS K r (d1 g) := fun w S H xs ds Q E R rs q => by
  cases rs with
  | nil => exact q.elim
  | cons r1 rr =>
    cases rr with
    | cons _ _ => exact q.elim
    | nil => exact h w S H _ _ Q E R r1 q
theorem calls2 {K : Kw} {r : List V → Hp → VK → Prop} {g : D → D → M D} (h : ∀ (w : Wd) (S : Sto) (H : Hp) (x y : V) (d e : D) (Q : VK) (E : Er → Sto → Prop), Rel K w S H → VR K w x d → VR K w y e → (g d e S).sat (PV K w Q) E → r [x, y] H Q) : CallS K r (d2 g) := fun w S H xs ds Q E R rs q => by
  cases rs with
  | nil => exact q.elim
  | cons r1 rr =>
    cases rr with
    | nil => exact q.elim
    | cons r2 rr =>
      cases rr with
      | cons _ _ => exact q.elim
      | nil => exact h w S H _ _ _ _ Q E R r1 r2 q
/-- with what is read as a list or a tuple -/
def wQ {α : Type} (x : D) (g : List D → M α) : M α := fun S => match rdQ S x with
  | some ds => g ds S
  | none => .no
def wL {α : Type} (x : D) (g : List D → M α) : M α := fun S => match rdL S x with
  | some ds => g ds S
  | none => .no
theorem wQ_sat {α : Type} {x : D} {g : List D → M α} {S : Sto} {P : α → Sto → Prop} {E : Er → Sto → Prop} (h : (wQ x g S).sat P E) : ∃ ds, rdQ S x = some ds ∧ (g ds S).sat P E := by
  unfold wQ at h
  cases z : rdQ S x with
  | none =>
    rw [z] at h
    exact h.elim
  | some ds =>
    rw [z] at h
    exact ⟨ds, rfl, h⟩
theorem wL_sat {α : Type} {x : D} {g : List D → M α} {S : Sto} {P : α → Sto → Prop} {E : Er → Sto → Prop} (h : (wL x g S).sat P E) : ∃ ds, rdL S x = some ds ∧ (g ds S).sat P E := by
  unfold wL at h
  cases z : rdL S x with
  | none =>
    rw [z] at h
    exact h.elim
  | some ds =>
    rw [z] at h
    exact ⟨ds, rfl, h⟩
def dLen (x : D) : M D := wQ x fun ds => ret (.int ds.length)
theorem calls_len {K : Kw} : CallS K (rLenS K) (d1 dLen) := calls1 fun w S H x d Q E R a h => by
  obtain ⟨ds, z, h⟩ := wQ_sat h
  obtain ⟨p, xs, rfl, e2, e3⟩ := rdQ_ok R a z
  refine ⟨p, xs, rfl, e2, ?_⟩
  rw [e3.len]
  exact h w H _ (Wd.le.refl w) R (.int _)
def dTuple (x : D) : M D := fun S => match x with
  | .tup ds => .ok (.tup ds) S
  | _ => wL x (fun ds => ret (.tup ds)) S
theorem calls_tuple {K : Kw} : CallS K (WD.rTupS K) (d1 dTuple) := calls1 fun w S H x d Q E R a h => by
  by_cases ht : ∃ ds, d = .tup ds
  · obtain ⟨ds, rfl⟩ := ht
    cases a with
    | @tup p xs _ s as => exact ⟨p, xs, rfl, .inr ⟨ex_t R.ex s, h w H _ (Wd.le.refl w) R (.tup s as)⟩⟩
  · have e1 : dTuple d S = wL d (fun ds => ret (.tup ds)) S := by
      cases d <;> first | rfl | exact absurd ⟨_, rfl⟩ ht
    rw [e1] at h
    obtain ⟨ds, z, h⟩ := wL_sat h
    obtain ⟨p, xs, rfl, e2, e3, _⟩ := rdL_ok R a z
    refine ⟨p, xs, rfl, .inl ⟨e2, fun l hl => ?_⟩⟩
    obtain ⟨le, R'⟩ := R.plus (o := .tup xs) hl
    exact h _ _ _ le R' (.tup (st_of upd_same) (e3.up le))
def dList (x : D) : M D := wQ x fun ds => ret (.lst ds)
theorem calls_list {K : Kw} : CallS K (rListS K) (d1 dList) := calls1 fun w S H x d Q E R a h => by
  obtain ⟨ds, z, h⟩ := wQ_sat h
  obtain ⟨p, xs, rfl, e2, e3⟩ := rdQ_ok R a z
  refine ⟨p, xs, rfl, e2, fun l hl => ?_⟩
  obtain ⟨le, R'⟩ := R.plus (o := .lst xs) hl
  exact h _ _ _ le R' (.lst upd_same (e3.up le))
/-- list(x), a list that will change -/
def dListC (x : D) : M D := wQ x dNew
theorem calls_listC {K : Kw} : CallS K (rListS K) (d1 dListC) := calls1 fun w S H x d Q E R a h => by
  obtain ⟨ds, z, h⟩ := wQ_sat h
  obtain ⟨p, xs, rfl, e2, e3⟩ := rdQ_ok R a z
  unfold dNew at h
  by_cases c : ds.length ≤ lim
  · rw [if_pos c] at h
    refine ⟨p, xs, rfl, e2, fun l hl => ?_⟩
    exact h _ _ _ Wd.le_cell (R.newcell (o := .lst xs) (c := .lst ds) hl ⟨xs, upd_same, e3⟩) (.ptr (cell_at l R))
  · rw [if_neg c] at h
    exact h.elim
def dInt : D → M D
  | .int i => ret (.int i)
  | .bl b => ret (.int (if b then 1 else 0))
  | _ => stuck
theorem calls_int {K : Kw} : CallS K WD.rInt1 (d1 dInt) := calls1 fun w S H x d Q E R a h => by
  cases a with
  | int i => exact .inl ⟨i, rfl, h w H _ (Wd.le.refl w) R (.int _)⟩
  | bl b => exact .inr ⟨b, rfl, h w H _ (Wd.le.refl w) R (.int _)⟩
  | _ => exact h.elim
def dAbs : D → M D
  | .int i => ret (.int (if i < 0 then -i else i))
  | _ => stuck
theorem calls_abs {K : Kw} : CallS K WD.rAbs (d1 dAbs) := calls1 fun w S H x d Q E R a h => by
  cases a with
  | int i => exact ⟨i, rfl, h w H _ (Wd.le.refl w) R (.int _)⟩
  | _ => exact h.elim
def dMin2 : D → D → M D
  | .int i, .int j => ret (.int (if j < i then j else i))
  | _, _ => stuck
def dMax2 : D → D → M D
  | .int i, .int j => ret (.int (if j > i then j else i))
  | _, _ => stuck
def dGcd : D → D → M D
  | .int i, .int j => ret (.int ((Nat.gcd i.natAbs j.natAbs : Nat) : Int))
  | _, _ => stuck
def dLcm : D → D → M D
  | .int i, .int j => gd (0 ≤ i ∧ 0 ≤ j ∧ i.toNat.log2 < 5999 ∧ j.toNat.log2 < 5999) (ret (.int ((Nat.lcm i.toNat j.toNat : Nat) : Int)))
  | _, _ => stuck
theorem calls_gcd {K : Kw} : CallS K rGcd (d2 dGcd) := calls2 fun w S H x y d e Q E R a b h => by
  cases a with
  | int i =>
    cases b with
    | int j => exact ⟨i, j, rfl, h w H _ (Wd.le.refl w) R (.int _)⟩
    | _ => exact h.elim
  | _ => exact h.elim
def asInts : List D → Option (List Int)
  | [] => some []
  | .int i :: ds => (asInts ds).map (i :: ·)
  | _ => none
def asBools : List D → Option (List Bool)
  | [] => some []
  | .bl i :: ds => (asBools ds).map (i :: ·)
  | _ => none
theorem asInts_ok {K : Kw} {w : Wd} : ∀ {vs : List V} {ds : List D} {ns : List Int}, VRs K w vs ds → asInts ds = some ns → vs = ns.map V.int
  | _, _, _, .nil, h => by
    cases h
    rfl
  | _, _, ns, .cons (ds := ds) (.int i) as, h => by
    cases q : asInts ds with
    | none => simp [asInts, q] at h
    | some ms =>
      simp [asInts, q] at h
      subst h
      rw [asInts_ok as q]
      rfl
  | _, _, _, .cons .non _, h => by cases h
  | _, _, _, .cons (.bl _) _, h => by cases h
  | _, _, _, .cons (.str _) _, h => by cases h
  | _, _, _, .cons (.tup _ _) _, h => by cases h
  | _, _, _, .cons (.lst _ _) _, h => by cases h
  | _, _, _, .cons (.obj _ _) _, h => by cases h
  | _, _, _, .cons (.ptr _) _, h => by cases h
  | _, _, _, .cons (.scr _) _, h => by cases h
theorem bools_ok {K : Kw} {w : Wd} : ∀ {vs : List V} {ds : List D} {ns : List Bool}, VRs K w vs ds → asBools ds = some ns → vs = ns.map V.bl
  | _, _, _, .nil, h => by
    cases h
    rfl
  | _, _, ns, .cons (ds := ds) (.bl i) as, h => by
    cases q : asBools ds with
    | none => simp [asBools, q] at h
    | some ms =>
      simp [asBools, q] at h
      subst h
      rw [bools_ok as q]
      rfl
  | _, _, _, .cons .non _, h => by cases h
  | _, _, _, .cons (.int _) _, h => by cases h
  | _, _, _, .cons (.str _) _, h => by cases h
  | _, _, _, .cons (.tup _ _) _, h => by cases h
  | _, _, _, .cons (.lst _ _) _, h => by cases h
  | _, _, _, .cons (.obj _ _) _, h => by cases h
  | _, _, _, .cons (.ptr _) _, h => by cases h
  | _, _, _, .cons (.scr _) _, h => by cases h
@[simp] theorem asInts_map (ns : List Int) : asInts (ns.map D.int) = some ns := by
  induction ns with
  | nil => rfl
  | cons n ns ih => simp [asInts, ih]
@[simp] theorem bools_map (ns : List Bool) : asBools (ns.map D.bl) = some ns := by
  induction ns with
  | nil => rfl
  | cons n ns ih => simp [asBools, ih]
def oM {α β : Type} (o : Option α) (g : α → M β) : M β := match o with
  | some a => g a
  | none => stuck
@[simp] theorem oM_some {α β : Type} (a : α) (g : α → M β) : oM (some a) g = g a := rfl
theorem oM_sat {α β : Type} {o : Option α} {g : α → M β} {S : Sto} {P : β → Sto → Prop} {E : Er → Sto → Prop} (h : (oM o g S).sat P E) : ∃ a, o = some a ∧ (g a S).sat P E := by
  cases o with
  | none => exact h.elim
  | some a => exact ⟨a, rfl, h⟩
def dSum (x : D) : M D := wL x fun ds => oM (asInts ds) fun ns => ret (.int ns.sum)
def dAll (x : D) : M D := wL x fun ds => oM (asBools ds) fun bs => ret (.bl (bs.all id))
def dAny (x : D) : M D := wL x fun ds => oM (asBools ds) fun bs => ret (.bl (bs.any id))
def maxI : Int → List Int → Int
  | m, [] => m
  | m, n :: ns => maxI (if n > m then n else m) ns
theorem calls_sum {K : Kw} : CallS K (rSum K) (d1 dSum) := calls1 fun w S H x d Q E R a h => by
  obtain ⟨ds, z, h⟩ := wL_sat h
  obtain ⟨ns, z2, h⟩ := oM_sat h
  obtain ⟨p, xs, rfl, e2, e3, _⟩ := rdL_ok R a z
  obtain rfl := asInts_ok e3 z2
  exact ⟨p, ns, rfl, e2, h w H _ (Wd.le.refl w) R (.int _)⟩
theorem calls_all {K : Kw} : CallS K (rAll K) (d1 dAll) := calls1 fun w S H x d Q E R a h => by
  obtain ⟨ds, z, h⟩ := wL_sat h
  obtain ⟨ns, z2, h⟩ := oM_sat h
  obtain ⟨p, xs, rfl, e2, e3, _⟩ := rdL_ok R a z
  obtain rfl := bools_ok e3 z2
  exact ⟨p, ns, rfl, e2, h w H _ (Wd.le.refl w) R (.bl _)⟩
theorem calls_any {K : Kw} : CallS K (rAny K) (d1 dAny) := calls1 fun w S H x d Q E R a h => by
  obtain ⟨ds, z, h⟩ := wL_sat h
  obtain ⟨ns, z2, h⟩ := oM_sat h
  obtain ⟨p, xs, rfl, e2, e3, _⟩ := rdL_ok R a z
  obtain rfl := bools_ok e3 z2
  exact ⟨p, ns, rfl, e2, h w H _ (Wd.le.refl w) R (.bl _)⟩
end
end PM
end
section
set_option Elab.async false
set_option linter.all false
set_option maxRecDepth 100000
namespace PM
open PySem L2 Evl
section
variable {X : Cx} {C : Ct} {ta tb tc te : TE} {a b c : Expr} {ma mb mc : Env → M D} {pos : Pos}
abbrev Ty := String ⊕ Str
def bks : List String := ["NoneType", "bool", "int", "str", "tuple", "list", "dict"]
def bts : List String := ["bool", "int", "str", "tuple", "list", "dict"]
def kitP (s n : String) : Bool := s == n || (s == "bool" && n == "int")
theorem kitAll : (bks.all fun s => bts.all fun n => decide (kitB s n = some (kitP s n))) = true := by decide +kernel
structure KT (K : PySem.W.Frag) (own : List Str) (sub : Str → Str → Bool) : Prop where
  ty : ∀ c ∈ own, WD.OwnTy K c
  ob : ∀ c ∈ own, ∀ n ∈ bts, PySem.W.kitOne K (.ref (He.ga K c)) (.type n) = some false
  bo : ∀ c ∈ own, ∀ s ∈ bks, PySem.W.kitOne K (.type s) (.ref (He.ga K c)) = some false
  oo : ∀ c ∈ own, ∀ c' ∈ own, PySem.W.kitOne K (.ref (He.ga K c)) (.ref (He.ga K c')) = some (sub c c')
def tyv (K : Kw) : Ty → Value
  | .inl n => .type n
  | .inr c => .ref (He.ga K c)
def tV (K : Kw) : Ty → V
  | .inl n => .ty n
  | .inr c => .ref (He.ga K c)
theorem clsV {K : Kw} : ∀ t : Ty, ClsV (tV K t) (tyv K t)
  | .inl n => .ty n
  | .inr c => .own _
def okT (own : List Str) : Ty → Bool
  | .inl n => bts.contains n
  | .inr c => own.contains c
def okK (own : List Str) : Ty → Bool
  | .inl n => bks.contains n
  | .inr c => own.contains c
def isK (sub : Str → Str → Bool) : Ty → Ty → Bool
  | .inl s, .inl n => kitP s n
  | .inr c, .inr c' => sub c c'
  | _, _ => false
theorem kit_is {K : Kw} {own : List Str} {sub : Str → Str → Bool} (T : KT K own sub) {k t : Ty} (hk : okK own k = true) (ht : okT own t = true) : PySem.W.kitOne K (tyv K k) (tyv K t) = some (isK sub k t) := by
  cases k with
  | inl s =>
    cases t with
    | inl n => exact kit_ty (of_decide_eq_true (List.all_eq_true.mp (List.all_eq_true.mp kitAll s (List.contains_iff_mem.mp hk)) n (List.contains_iff_mem.mp ht)))
    | inr c => exact T.bo c (List.contains_iff_mem.mp ht) s (List.contains_iff_mem.mp hk)
  | inr c =>
    cases t with
    | inl n => exact T.ob c (List.contains_iff_mem.mp hk) n (List.contains_iff_mem.mp ht)
    | inr c' => exact T.oo c (List.contains_iff_mem.mp hk) c' (List.contains_iff_mem.mp ht)
def kindOf (S : Sto) : D → Option Ty
  | .non => some (.inl "NoneType")
  | .bl _ => some (.inl "bool")
  | .int _ => some (.inl "int")
  | .str _ => some (.inl "str")
  | .tup _ => some (.inl "tuple")
  | .lst _ => some (.inl "list")
  | .scr _ => some (.inl "list")
  | .obj c _ => some (.inr c)
  | .ptr n => match S[n]? with
    | some (.lst _) => some (.inl "list")
    | some (.obj c _) => some (.inr c)
    | some (.dic _) => some (.inl "dict")
    | _ => none
theorem ins_ty {K : Kw} {own : List Str} {sub : Str → Str → Bool} (T : KT K own sub) {H : Hp} {p dx : Addr} {c : Str} {fs : List (Str × V)} (h : H p = some (.ins (He.ga K c) dx fs)) (hc : own.contains c = true) : TyX K H (.ref p) (.ref (He.ga K c)) := by
  have o := T.ty c (List.contains_iff_mem.mp hc)
  exact .base (.ins h o.cl o.ha o.hn o.ht o.hm)
theorem ty_of {K : Kw} {own : List Str} {sub : Str → Str → Bool} (T : KT K own sub) {w : Wd} {S : Sto} {H : Hp} {v : V} {d : D} {k : Ty} (R : Rel K w S H) (a : VR K w v d) (h : kindOf S d = some k) (hk : okK own k = true) : TyX K H v (tyv K k) := by
  cases a with
  | non => cases h; exact .base .non
  | bl b => cases h; exact .base (.bl b)
  | int b => cases h; exact .base (.int b)
  | str b => cases h; exact .base (.str b)
  | tup s as => cases h; exact WD.sqT_ty (ex_t R.ex s)
  | lst s as => cases h; exact WD.rdL_ty (.inl (R.ex _ _ s))
  | scr s => cases h; exact WD.rdL_ty (ex_rd R.ex s)
  | obj s as => cases h; exact ins_ty T (R.ex _ _ s) hk
  | @ptr p n hb =>
    cases q : S[n]? with
    | none => simp [kindOf, q] at h
    | some cc =>
      cases cc with
      | lst ds =>
        simp [kindOf, q] at h
        subst h
        obtain ⟨_, xs, hx, _⟩ := R.cell _ _ _ hb q rfl
        exact WD.rdL_ty (.inl hx)
      | obj c fs =>
        simp [kindOf, q] at h
        subst h
        obtain ⟨_, dx, fvs, hx, _⟩ := R.cell _ _ _ hb q rfl
        exact ins_ty T hx hk
      | dic kvs =>
        simp [kindOf, q] at h
        subst h
        obtain ⟨_, vs, hx, _⟩ := R.cell _ _ _ hb q rfl
        exact .base (.dK hx)
      | dead => simp [kindOf, q] at h
def dIs (own : List Str) (sub : Str → Str → Bool) (ts : List Ty) (x : D) : M D := fun S => oM (kindOf S x) (fun k => gd (okK own k = true) (ret (.bl (ts.any (isK sub k))))) S
theorem ce_is {e2 : Expr} {p : Pos} {own : List Str} {sub : Str → Str → Bool} (T : KT C.K own sub) (t : Ty) (ht : okT own t = true) (h2 : PE X e2 (tC (tV C.K t))) (hg : Gl X "isinstance") (hm : X.mg "isinstance" = none) (ha : CE X C a ta ma)
    (hv : bootBuiltins "isinstance" = some (.builtin "isinstance") := by decide +kernel) (hs : starEach [a, e2] X.env = (false, eval a X.env) :: starEach [e2] X.env := by rfl) (hs2 : starEach [e2] X.env = (false, eval e2 X.env) :: starEach [] X.env := by rfl) (hpl : (backTo pos (starEach [e2] X.env)).any (·.1) = false := by rfl) :
    CE X C (.Call (.Name "isinstance" p) [a, e2] [] pos) (tCB (rIsi C.K) (tCons ta (tCons (tC (tV C.K t)) tNil))) (e1 (dIs own sub [t]) ma) := ⟨ha.hK, fun y => pe_callB (by rw [← ha.hK]; exact call_isi) hg hm hv (pa_cons (ha.pe y) (pa_cons h2 pa_nil hs2) hs) (by decide) (by decide) hs hpl, fun e σ w S H Q E R h => by
  have h := sat_then.mp h
  refine ha.sn e σ w S H _ E R (h.imp (fun d S1 h1 w1 H1 v l1 R1 r1 => ?_) (fun x s hx => hx))
  obtain ⟨k, z, h1⟩ := oM_sat h1
  obtain ⟨ok, h1⟩ := gd_sat h1
  refine ⟨v, _, _, _, isK sub k t, rfl, clsV t, ty_of T R1 r1 z ok, kit_is T ok ht, ?_⟩
  have := h1 w1 H1 _ l1 R1 (.bl _)
  simp only [List.any_cons, List.any_nil, Bool.or_false] at this
  exact this⟩
theorem ce_isT {e2 e3 : Expr} {p pt : Pos} {kk : Nat} {own : List Str} {sub : Str → Str → Bool} (T : KT C.K own sub) (t u : Ty) (ht : okT own t = true) (hu : okT own u = true) (h2 : PE X e2 (tC (tV C.K t))) (h3 : PE X e3 (tC (tV C.K u))) (hg : Gl X "isinstance") (hm : X.mg "isinstance" = none) (ha : CE X C a ta ma)
    (hv : bootBuiltins "isinstance" = some (.builtin "isinstance") := by decide +kernel) (hs2 : starEach [e2, e3] X.env = (false, eval e2 X.env) :: starEach [e3] X.env := by rfl) (hs3 : starEach [e3] X.env = (false, eval e3 X.env) :: starEach [] X.env := by rfl)
    (hs : starEach [a, .Tuple [e2, e3] kk pt] X.env = (false, eval a X.env) :: starEach [.Tuple [e2, e3] kk pt] X.env := by rfl) (hs4 : starEach [.Tuple [e2, e3] kk pt] X.env = (false, eval (.Tuple [e2, e3] kk pt) X.env) :: starEach [] X.env := by rfl) (hpl : (backTo pos (starEach [.Tuple [e2, e3] kk pt] X.env)).any (·.1) = false := by rfl) :
    CE X C (.Call (.Name "isinstance" p) [a, .Tuple [e2, e3] kk pt] [] pos) (tCB (rIsiT C.K) (tCons ta (tCons (tTup (tCons (tC (tV C.K t)) (tCons (tC (tV C.K u)) tNil))) tNil))) (e1 (dIs own sub [t, u]) ma) := ⟨ha.hK, fun y => pe_callB (by rw [← ha.hK]; exact call_isiT) hg hm hv (pa_cons (ha.pe y) (pa_cons (pe_tup (pa_cons h2 (pa_cons h3 pa_nil hs3) hs2)) pa_nil hs4) hs) (by decide) (by decide) hs hpl, fun e σ w S H Q E R h => by
  have h := sat_then.mp h
  refine ha.sn e σ w S H _ E R (h.imp (fun d S1 h1 w1 H1 v l1 R1 r1 => ?_) (fun x s hx => hx))
  obtain ⟨k, z, h1⟩ := oM_sat h1
  obtain ⟨ok, h1⟩ := gd_sat h1
  refine ⟨by show 2 ≤ sizeLine; decide, fun q hq => ?_⟩
  obtain ⟨le, R2⟩ := R1.plus (o := .tup [tV C.K t, tV C.K u]) hq
  refine ⟨v, q, _, _, _, (isK sub k t || isK sub k u), rfl, upd_same, .cons (clsV t) (.cons (clsV u) .nil), ty_of T R2 (r1.up le) z ok, ?_, ?_⟩
  · refine kitAny_cons (b := isK sub k t) (kit_is T ok ht) (fun z => ?_) (fun z => by rw [z]; rfl)
    rw [z, Bool.false_or]
    exact kitAny_cons (b := isK sub k u) (kit_is T ok hu) (fun z => by rw [z]; exact kitAny_nil) (fun z => z)
  · have := h1 _ _ _ (l1.trans le) R2 (.bl _)
    simp only [List.any_cons, List.any_nil, Bool.or_false] at this
    exact this⟩
theorem ce_listRev {p p2 pos2 : Pos} (hc : X.calm = true) (hg : Gl X "list") (hm : X.mg "list" = none) (hg2 : Gl X "reversed") (hm2 : X.mg "reversed" = none) (ha : CE X C a ta ma)
    (hs : starEach [a] X.env = (false, eval a X.env) :: starEach [] X.env := by rfl)
    (hs2 : starEach [.Call (.Name "reversed" p2) [a] [] pos2] X.env = (false, eval (.Call (.Name "reversed" p2) [a] [] pos2) X.env) :: starEach [] X.env := by rfl) :
    CE X C (.Call (.Name "list" p) [.Call (.Name "reversed" p2) [a] [] pos2] [] pos) (tListRev C.K ta) (e1 (fun d => wL d fun ds => ret (.lst ds.reverse)) ma) := ⟨ha.hK, fun y => by rw [← ha.hK]; exact pe_listRev hc hg hm hg2 hm2 (ha.pe y) hs hs2, fun e σ w S H Q E R h => by
  have h := sat_then.mp h
  refine ha.sn e σ w S H _ E R (h.imp (fun d S1 h1 w1 H1 v l1 R1 r1 => ?_) (fun x s hx => hx))
  obtain ⟨ds, z, h1⟩ := wL_sat h1
  obtain ⟨p, xs, rfl, e2, e3, _⟩ := rdL_ok R1 r1 z
  refine ⟨p, xs, rfl, e2, fun q hq => ?_⟩
  obtain ⟨le, R2⟩ := R1.plus (o := .lst xs.reverse) hq
  exact h1 _ _ _ (l1.trans le) R2 (.lst upd_same (e3.rev.up le))⟩
def rangeD (i j : Int) : List D := (List.range (j - i).toNat).map fun (k : Nat) => D.int (i + k)
def dRange : D → D → M D
  | .int i, .int j => gd (-1000000 ≤ i ∧ i ≤ 1000000 ∧ -1000000 ≤ j ∧ j ≤ 1000000) (ret (.lst (rangeD i j)))
  | _, _ => stuck
theorem VRs.map {K : Kw} {w : Wd} {α : Type} {f : α → V} {g : α → D} (h : ∀ a, VR K w (f a) (g a)) : ∀ xs : List α, VRs K w (xs.map f) (xs.map g)
  | [] => .nil
  | x :: xs => .cons (h x) (VRs.map h xs)
theorem ce_listRg {p p2 pos2 : Pos} (hc : X.calm = true) (hg : Gl X "list") (hm : X.mg "list" = none) (hg2 : Gl X "range") (hm2 : X.mg "range" = none) (ha : CE X C a ta ma) (hb : CE X C b tb mb)
    (na : starEach [a, b] X.env = (false, eval a X.env) :: starEach [b] X.env := by rfl) (nb : starEach [b] X.env = (false, eval b X.env) :: starEach [] X.env := by rfl) (hp : (backTo pos2 (starEach [b] X.env)).any (·.1) = false := by rfl)
    (nn : starEach [.Call (.Name "range" p2) [a, b] [] pos2] X.env = (false, eval (.Call (.Name "range" p2) [a, b] [] pos2) X.env) :: starEach [] X.env := by rfl) :
    CE X C (.Call (.Name "list" p) [.Call (.Name "range" p2) [a, b] [] pos2] [] pos) (tLstRg (tRg2 ta tb)) (e2 dRange ma mb) := ⟨ha.hK, fun y => pe_listRg hc hg hm (prg_2 hg2 hm2 (ha.pe y) (hb.pe y) na nb hp) nn, fun e σ w S H Q E R h => by
  have h := sat_then.mp h
  refine ha.sn e σ w S H _ E R (h.imp (fun d1 S1 h1 w1 H1 v1 l1 R1 r1 => ?_) (fun x s hx => hx))
  have h1 := sat_then.mp h1
  refine hb.sn e σ w1 S1 H1 _ (E.up l1) R1 (h1.imp (fun d2 S2 h2 w2 H2 v2 l2 R2 r2 => ?_) (fun x s hx => hx.up l1))
  have r1 := r1.up l2
  cases r1 with
  | int i =>
    cases r2 with
    | int j =>
      obtain ⟨cc, h2⟩ := gd_sat h2
      refine ⟨i, j, rfl, rfl, ⟨by omega, by omega, by omega, by omega, by omega⟩, fun q hq => ?_⟩
      obtain ⟨le, R'⟩ := R2.plus (o := .lst (rgV i j)) hq
      exact h2 _ _ _ ((l1.trans l2).trans le) R' (.lst upd_same (VRs.map (fun k => .int _) _))
    | _ => exact h2.elim
  | _ =>
    cases r2 <;> exact h2.elim⟩
/-- range(a, b, -1) -/
def dRangeB : List D → M D
  | [.int i, .int j, .int c] => gd (c = -1 ∧ -400000 ≤ i ∧ i ≤ 400000 ∧ -400000 ≤ j ∧ j ≤ i) (ret (.lst ((List.range (i - j).toNat).map fun (k : Nat) => D.int (i + k * -1))))
  | _ => stuck
theorem ce_listRg3 {p p2 pos2 : Pos} {tr : TA} {mr : Env → M (List D)} (hc : X.calm = true) (hg : Gl X "list") (hm : X.mg "list" = none) (hg2 : Gl X "range") (hm2 : X.mg "range" = none) (ha : CA X C [a, b, c] tr mr)
    (hs : starEach [a, b, c] X.env = (false, eval a X.env) :: starEach [b, c] X.env := by rfl) (hpl : (backTo pos2 (starEach [b, c] X.env)).any (·.1) = false := by rfl)
    (hs2 : starEach [.Call (.Name "range" p2) [a, b, c] [] pos2] X.env = (false, eval (.Call (.Name "range" p2) [a, b, c] [] pos2) X.env) :: starEach [] X.env := by rfl) (hK : X.kw = C.K := by rfl) :
    CE X C (.Call (.Name "list" p) [.Call (.Name "range" p2) [a, b, c] [] pos2] [] pos) (tListRg3 tr) (eA dRangeB mr) := ⟨hK, fun y => pe_listRg3 hc hg hm hg2 hm2 (ha.pa y) hs hpl hs2, fun e σ w S H Q E R h => by
  have h := sat_then.mp h
  refine ha.sn e σ w S H _ E R (h.imp (fun ds S1 h1 w1 H1 vs l1 R1 rs => ?_) (fun x s hx => hx))
  unfold dRangeB at h1
  split at h1
  · obtain ⟨cc, h2⟩ := gd_sat h1
    obtain ⟨ce, c1, c2, c3, c4⟩ := cc
    subst ce
    rename_i i j
    cases rs with
    | cons a1 rs =>
      cases rs with
      | cons a2 rs =>
        cases rs with
        | cons a3 rs =>
          cases rs
          cases a1
          cases a2
          cases a3
          refine ⟨i, j, -1, (i - j).toNat, rfl, RgC.neg (by omega) (by omega) (by omega) (by omega), by omega, fun q hq => ?_⟩
          obtain ⟨le, R'⟩ := R1.plus (o := .lst ((List.range (i - j).toNat).map fun k => V.int (i + (k : Nat) * -1))) hq
          exact h2 _ _ _ (l1.trans le) R' (.lst upd_same (VRs.map (fun k => .int _) _))
  · exact h1.elim⟩
/-- list(zip(a, b)) of lists as long as one another -/
def zipD (xs ys : List D) : List D := (xs.zip ys).map fun p => D.tup [p.1, p.2]
end
end PM
end
section
set_option Elab.async false
set_option linter.all false
set_option maxRecDepth 100000
namespace PM
open PySem L2 Evl
structure Wd.le0 (w w' : Wd) : Prop where
  f : Ex w.F w'.F
  b : w.B <+: w'.B
theorem Wd.le.z {w w' : Wd} (h : w.le w') : w.le0 w' := ⟨h.f, h.b⟩
theorem Wd.le0.trans {a b c : Wd} (h : a.le0 b) (g : b.le0 c) : a.le0 c := ⟨h.f.trans g.f, h.b.trans g.b⟩
theorem Wd.le0.hide {w w' : Wd} {p : Addr} {o : HO} (h : w.le0 w') : w.le0 (w'.hide p o) := ⟨h.f, h.b⟩
section
variable {K : Kw} {w w' : Wd} {S : Sto} {H H' : Hp}
theorem VR.up0 (e : w.le0 w') {v : V} {d : D} (h : VR K w v d) : VR K w' v d := VR.via (w := ⟨w'.F, w'.B, w.U⟩) (w' := w') ⟨rfl, rfl⟩ (h.up (w' := ⟨w'.F, w'.B, w.U⟩) ⟨e.f, e.b, rfl⟩)
theorem VRs.up0 (e : w.le0 w') {v : List V} {d : List D} (h : VRs K w v d) : VRs K w' v d := VRs.via (w := ⟨w'.F, w'.B, w.U⟩) (w' := w') ⟨rfl, rfl⟩ (h.up (w' := ⟨w'.F, w'.B, w.U⟩) ⟨e.f, e.b, rfl⟩)
theorem ErR.up0 {x : Er} {c : Value} {dd : Option Addr} (e : w.le0 w') (h : ErR K w x c dd) : ErR K w' x c dd := by
  refine ⟨h.1, ?_⟩
  have h2 := h.2
  cases q : x.arg with
  | none => trivial
  | some p =>
    rw [q] at h2
    obtain ⟨a, v, h3, h4, h5⟩ := h2
    exact ⟨a, v, h3, e.f _ _ h4, h5.up0 e⟩
theorem EnvR.up0 {C : Ct} {σ : L2.St} {e : Env} (l : w.le0 w') (h : EnvR C w σ e) : EnvR C w' σ e := ⟨h.len, fun i d q => by
  obtain ⟨v, h1, h2⟩ := h.sl i d q
  exact ⟨v, h1, h2.up0 l⟩, fun i x q => ⟨(h.ex i x q).1, (h.ex i x q).2.up0 l⟩⟩
/-- what was hidden becomes known -/
theorem Rel.known {p : Addr} {o : HO} (r : Rel K (w.hide p o) S H) (hu : w.U p = none) : w.le (w.plus p o) ∧ Rel K (w.plus p o) S H := by
  obtain ⟨k1, k2, k3⟩ := r.hid p o upd_same
  have le : w.le (w.plus p o) := Wd.le_plus k2
  have r2 := r.unhide (fun a u h z => by
    rw [z, hu] at h
    cases h)
  refine ⟨le, fun a u e => ?_, r.len, r.nd, r.used, fun n a c h1 h2 h3 => ?_, fun a u h => ?_⟩
  · have e : upd w.F p o a = some u := e
    by_cases q : a = p
    · subst q
      rw [upd_same] at e
      cases e
      exact k1
    · rw [upd_ne q] at e
      exact r2.ex a u e
  · obtain ⟨g1, g2⟩ := r2.cell n a c h1 h2 h3
    have ne : a ≠ p := fun z => k3 (z ▸ List.mem_of_getElem? h1)
    exact ⟨show upd w.F p o a = none by rw [upd_ne ne]; exact g1, g2.up le rfl⟩
  · obtain ⟨m1, m2, m3⟩ := r2.hid a u h
    have ne : a ≠ p := fun z => by
      have h' : w.U a = some u := h
      rw [z, hu] at h'
      cases h'
    exact ⟨m1, show upd w.F p o a = none by rw [upd_ne ne]; exact m2, m3⟩
/-- .. becomes a cell -/
theorem Rel.celled {p : Addr} {o : HO} {c : Cell} (r : Rel K (w.hide p o) S H) (hu : w.U p = none) (hc : CellOk K w H p c) : Rel K (w.cell p) (S ++ [c]) H := by
  obtain ⟨k1, k2, k3⟩ := r.hid p o upd_same
  have r2 := r.unhide (fun a u h z => by
    rw [z, hu] at h
    cases h)
  refine ⟨r2.ex, by simp [Wd.cell, r2.len], ?_, fun a ha => ?_, fun n a c' h1 h2 h3 => ?_, fun a u h => ?_⟩
  · exact List.nodup_append.mpr ⟨r2.nd, by simp, fun a ha b hb => by
      rw [List.mem_singleton.mp hb]
      exact fun z => k3 (z ▸ ha)⟩
  · rcases List.mem_append.mp ha with ha | ha
    · exact r2.used a ha
    · rw [List.mem_singleton.mp ha]
      exact ⟨o, k1⟩
  · have h1' : (w.B ++ [p])[n]? = some a := h1
    by_cases hn : n < w.B.length
    · rw [List.getElem?_append_left hn] at h1'
      rw [List.getElem?_append_left (by rw [← r2.len]; exact hn)] at h2
      obtain ⟨g1, g2⟩ := r2.cell n a c' h1' h2 h3
      exact ⟨g1, g2.up Wd.le_cell rfl⟩
    · have e : n = w.B.length := by
        have := (List.getElem?_eq_some_iff.mp h1').1
        simp at this
        omega
      subst e
      rw [List.getElem?_append_right (Nat.le_refl _), Nat.sub_self] at h1'
      rw [List.getElem?_append_right (by rw [r2.len]; exact Nat.le_refl _), r2.len, Nat.sub_self] at h2
      cases h1'
      cases h2
      exact ⟨k2, hc.up Wd.le_cell rfl⟩
  · obtain ⟨m1, m2, m3⟩ := r2.hid a u h
    refine ⟨m1, m2, fun z => ?_⟩
    rcases List.mem_append.mp (show a ∈ w.B ++ [p] from z) with z | z
    · exact m3 z
    · rw [List.mem_singleton.mp z] at h
      have h : w.U p = some u := h
      rw [hu] at h
      cases h
end
mutual
def D.same : D → D → Bool
  | .non, .non => true
  | .bl a, .bl b => a == b
  | .int a, .int b => decide (a = b)
  | .str a, .str b => decide (a = b)
  | .tup a, .tup b => D.sames a b
  | .lst a, .lst b => D.sames a b
  | .obj c a, .obj c' b => decide (c = c') && D.samef a b
  | .ptr a, .ptr b => decide (a = b)
  | .scr a, .scr b => decide (a = b)
  | _, _ => false
def D.sames : List D → List D → Bool
  | [], [] => true
  | a :: as, b :: bs => D.same a b && D.sames as bs
  | _, _ => false
def D.samef : List (Str × D) → List (Str × D) → Bool
  | [], [] => true
  | (n, a) :: as, (m, b) :: bs => decide (n = m) && (D.same a b && D.samef as bs)
  | _, _ => false
end
mutual
theorem same_eq : ∀ {a b : D}, D.same a b = true → a = b
  | .non, b, h => by cases b <;> first | rfl | cases h
  | .bl a, b, h => by
    cases b with
    | bl b =>
      have h : (a == b) = true := h
      rw [eq_of_beq h]
    | _ => cases h
  | .int a, b, h => by
    cases b with
    | int b => rw [show a = b from of_decide_eq_true h]
    | _ => cases h
  | .str a, b, h => by
    cases b with
    | str b => rw [show a = b from of_decide_eq_true h]
    | _ => cases h
  | .tup a, b, h => by
    cases b with
    | tup b => rw [sames_eq (a := a) (b := b) h]
    | _ => cases h
  | .lst a, b, h => by
    cases b with
    | lst b => rw [sames_eq (a := a) (b := b) h]
    | _ => cases h
  | .obj c a, b, h => by
    cases b with
    | obj c' b =>
      obtain ⟨h1, h2⟩ := Bool.and_eq_true_iff.mp (show (decide (c = c') && D.samef a b) = true from h)
      rw [of_decide_eq_true h1, samef_eq (a := a) (b := b) h2]
    | _ => cases h
  | .ptr a, b, h => by
    cases b with
    | ptr b => rw [show a = b from of_decide_eq_true h]
    | _ => cases h
  | .scr a, b, h => by
    cases b with
    | scr b => rw [show a = b from of_decide_eq_true h]
    | _ => cases h
theorem sames_eq : ∀ {a b : List D}, D.sames a b = true → a = b
  | [], b, h => by cases b <;> first | rfl | cases h
  | x :: xs, b, h => by
    cases b with
    | nil => cases h
    | cons y ys =>
      obtain ⟨h1, h2⟩ := Bool.and_eq_true_iff.mp (show (D.same x y && D.sames xs ys) = true from h)
      rw [same_eq (a := x) (b := y) h1, sames_eq (a := xs) (b := ys) h2]
theorem samef_eq : ∀ {a b : List (Str × D)}, D.samef a b = true → a = b
  | [], b, h => by cases b <;> first | rfl | cases h
  | (n, x) :: xs, b, h => by
    cases b with
    | nil => cases h
    | cons y ys =>
      obtain ⟨m, y⟩ := y
      obtain ⟨h1, h2⟩ := Bool.and_eq_true_iff.mp (show (decide (n = m) && (D.same x y && D.samef xs ys)) = true from h)
      obtain ⟨h2, h3⟩ := Bool.and_eq_true_iff.mp h2
      rw [of_decide_eq_true h1, same_eq (a := x) (b := y) h2, samef_eq (a := xs) (b := ys) h3]
end
mutual
theorem same_refl : ∀ a : D, D.same a a = true
  | .non => rfl
  | .bl a => by
    show (a == a) = true
    simp
  | .int a => decide_eq_true rfl
  | .str a => decide_eq_true rfl
  | .tup a => sames_refl a
  | .lst a => sames_refl a
  | .obj c a => by
    show (decide (c = c) && D.samef a a) = true
    rw [decide_eq_true rfl, samef_refl a]
    rfl
  | .ptr a => decide_eq_true rfl
  | .scr a => decide_eq_true rfl
theorem sames_refl : ∀ a : List D, D.sames a a = true
  | [] => rfl
  | x :: xs => by
    show (D.same x x && D.sames xs xs) = true
    rw [same_refl x, sames_refl xs]
    rfl
theorem samef_refl : ∀ a : List (Str × D), D.samef a a = true
  | [] => rfl
  | (n, x) :: xs => by
    show (decide (n = n) && (D.same x x && D.samef xs xs)) = true
    rw [decide_eq_true rfl, same_refl x, samef_refl xs]
    rfl
end
structure Itm where
  ds : List D
  src : List (Nat × List D)
def okSrc (src : List (Nat × List D)) (S : Sto) : Bool := src.all fun p => match S[p.1]? with
  | some (.lst xs) => D.sames xs p.2
  | _ => false
@[simp] theorem okSrc_nil (S : Sto) : okSrc [] S = true := rfl
def rdS (S : Sto) : D → Option Itm
  | .lst ds => some ⟨ds, []⟩
  | .scr ns => some ⟨ns.map .int, []⟩
  | .ptr n => match S[n]? with
    | some (.lst ds) => some ⟨ds, [(n, ds)]⟩
    | _ => none
  | _ => none
def LR (K : Kw) (w : Wd) (a : Addr) (it : Itm) : Prop := ∀ (w' : Wd) (S : Sto) (H : Hp), w.le0 w' → Rel K w' S H → okSrc it.src S = true → ∃ xs, Rd H a (.lst xs) ∧ VRs K w' xs it.ds
def LT (K : Kw) (w : Wd) (a : Addr) (ds : List D) : Prop := ∀ (w' : Wd) (S : Sto) (H : Hp), w.le0 w' → Rel K w' S H → ∃ xs, SqT K H a xs ∧ VRs K w' xs ds
theorem lr_of {K : Kw} {w : Wd} {S : Sto} {H : Hp} {v : V} {d : D} {it : Itm} (R : Rel K w S H) (a : VR K w v d) (h : rdS S d = some it) : ∃ p, v = .ref p ∧ LR K w p it ∧ okSrc it.src S = true := by
  cases a with
  | lst s as =>
    cases h
    exact ⟨_, rfl, fun w' S' H' l R' _ => ⟨_, .inl (R'.ex _ _ (l.f _ _ s)), as.up0 l⟩, rfl⟩
  | scr s =>
    cases h
    exact ⟨_, rfl, fun w' S' H' l R' _ => ⟨_, ex_rd R'.ex (ex_rd l.f s), VRs.ints _⟩, rfl⟩
  | @ptr p n hb =>
    cases q : S[n]? with
    | none => simp [rdS, q] at h
    | some cc =>
      cases cc with
      | lst ds =>
        simp [rdS, q] at h
        subst h
        refine ⟨_, rfl, fun w' S' H' l R' ok => ?_, ?_⟩
        · have ok : (match S'[n]? with
            | some (.lst xs) => D.sames xs ds
            | _ => false) = true := by
            have := List.all_eq_true.mp ok (n, ds) (by simp)
            exact this
          cases z : S'[n]? with
          | none =>
            rw [z] at ok
            cases ok
          | some c2 =>
            rw [z] at ok
            cases c2 with
            | lst es =>
              obtain rfl := sames_eq ok
              obtain ⟨_, xs, hx, ax⟩ := R'.cell _ _ _ (pre_get l.b hb) z rfl
              exact ⟨xs, .inl hx, ax⟩
            | _ => cases ok
        · show ([(n, ds)] : List (Nat × List D)).all _ = true
          simp [q, sames_refl]
      | _ => simp [rdS, q] at h
  | _ => cases h
structure WalksR (K : Kw) (J : It) (w : Wd) (it : Itm) : Prop where
  go : ∀ (w' : Wd) (S : Sto) (H : Hp), w.le0 w' → Rel K w' S H → okSrc it.src S = true → ∀ (i : Nat) (d : D), it.ds[i]? = some d → J.go i H ∧ ∀ (x : V) (H' : Hp), J.yld i H x H' → ∃ w2 : Wd, w'.le w2 ∧ Rel K w2 S H' ∧ VR K w2 x d
  stop : ∀ (w' : Wd) (S : Sto) (H : Hp), w.le0 w' → Rel K w' S H → okSrc it.src S = true → J.stop it.ds.length H
def SndI (C : Ct) (wi : TI) (m : Env → M Itm) : Prop := ∀ (e : Env) (σ : L2.St) (w : Wd) (S : Sto) (H : Hp) (R : It → Hp → Prop), EnvR C w σ e → Rel C.K w S H →
  (m e S).sat (fun it S' => ∀ (w' : Wd) (H' : Hp) (J : It), w.le w' → Rel C.K w' S' H' → WalksR C.K J w' it → R J H') (PX C w σ) → wi σ H R
structure CI (X : Cx) (C : Ct) (tg iter : Expr) (wi : TI) (m : Env → M Itm) : Prop where
  hK : X.kw = C.K
  pi : Hyp X C → PI X tg iter wi
  sn : SndI C wi m
section
variable {X : Cx} {C : Ct} {ta tb tc te : TE} {a b c tg : Expr} {ma mb mc : Env → M D} {pos : Pos}
theorem piOr {iter : Expr} {w1 w2 : TI} (h1 : PI X tg iter w1) (h2 : PI X tg iter w2) : PI X tg iter (fun σ H R => w1 σ H R ∨ w2 σ H R) := ⟨fun pins s σ H R I h => by
  rcases h with h | h
  · exact h1.run pins s σ H R I h
  · exact h2.run pins s σ H R I h⟩
theorem walks_list {K : Kw} {w : Wd} {p : Addr} {it : Itm} (h : LR K w p it) : WalksR K (Itl K p) w it := ⟨fun w' S H l R ok i d hd => by
  obtain ⟨xs, hx, ax⟩ := h w' S H l R ok
  obtain ⟨v, v1, v2⟩ := ax.get hd
  refine ⟨⟨xs, v, .inl hx, v1⟩, fun x H' hy => ?_⟩
  obtain ⟨rfl, h2⟩ := (show H' = H ∧ ∀ xs, SqL K H p xs → xs[i]? = some x from hy)
  have h3 := h2 xs (.inl hx)
  rw [v1] at h3
  cases h3
  exact ⟨w', Wd.le.refl _, R, v2⟩, fun w' S H l R ok => by
  obtain ⟨xs, hx, ax⟩ := h w' S H l R ok
  exact ⟨xs, .inl hx, by rw [ax.len]; exact Nat.le_refl _⟩⟩
theorem walks_tup {K : Kw} {w : Wd} {p : Addr} {ds : List D} (h : LT K w p ds) : WalksR K (Itt K p) w ⟨ds, []⟩ := ⟨fun w' S H l R ok i d hd => by
  obtain ⟨xs, hx, ax⟩ := h w' S H l R
  obtain ⟨v, v1, v2⟩ := ax.get hd
  refine ⟨⟨xs, v, hx, v1⟩, fun x H' hy => ?_⟩
  obtain ⟨rfl, h2⟩ := (show H' = H ∧ ∀ xs, SqT K H p xs → xs[i]? = some x from hy)
  have h3 := h2 xs hx
  rw [v1] at h3
  cases h3
  exact ⟨w', Wd.le.refl _, R, v2⟩, fun w' S H l R ok => by
  obtain ⟨xs, hx, ax⟩ := h w' S H l R
  exact ⟨xs, hx, by rw [ax.len]; exact Nat.le_refl _⟩⟩
theorem lt_of {K : Kw} {w : Wd} {v : V} {ds : List D} (a : VR K w v (.tup ds)) : ∃ p, v = .ref p ∧ LT K w p ds := by
  cases a with
  | tup s as => exact ⟨_, rfl, fun w' S' H' l R' => ⟨_, ex_t R'.ex (ex_t l.f s), as.up0 l⟩⟩
def itmOf (S : Sto) (d : D) : Option Itm := match d with
  | .tup ds => some ⟨ds, []⟩
  | d => rdS S d
theorem itmOf_list {d : D} {S : Sto} (h : ¬ ∃ ds, d = .tup ds) : itmOf S d = rdS S d := by
  cases d <;> first | rfl | exact absurd ⟨_, rfl⟩ h
def iSeq (a : Env → M D) (e : Env) : M Itm := bind (a e) fun d => fun S => oM (itmOf S d) ret S
theorem ci_seq (ha : CE X C a ta ma) : CI X C tg a (fun σ H R => iList C.K ta σ H R ∨ iTup C.K ta σ H R) (iSeq ma) := ⟨ha.hK, fun y => by rw [← ha.hK]; exact piOr (pi_list (ha.pe y)) (pi_tup (ha.pe y)), fun e σ w S H R E Rl h => by
  cases q : ma e S with
  | no =>
    simp only [iSeq, bind_ap, q] at h
    exact h.elim
  | er x s =>
    simp only [iSeq, bind_ap, q] at h
    refine .inl (ha.sn e σ w S H _ E Rl ?_)
    rw [q]
    exact h
  | ok d S1 =>
    simp only [iSeq, bind_ap, q, then_ok] at h
    by_cases ht : ∃ ds, d = .tup ds
    · obtain ⟨ds, rfl⟩ := ht
      refine .inr (ha.sn e σ w S H _ E Rl ?_)
      rw [q]
      intro w1 H1 v l1 R1 r1
      obtain ⟨p, rfl, hl⟩ := lt_of r1
      obtain ⟨xs, hx, _⟩ := hl w1 S1 H1 ⟨Ex.refl _, List.prefix_rfl⟩ R1
      exact ⟨p, rfl, ⟨xs, hx⟩, h w1 H1 _ l1 R1 (walks_tup hl)⟩
    · rw [itmOf_list ht] at h
      obtain ⟨it, z, h⟩ := oM_sat h
      refine .inl (ha.sn e σ w S H _ E Rl ?_)
      rw [q]
      intro w1 H1 v l1 R1 r1
      obtain ⟨p, rfl, hl, ok⟩ := lr_of R1 r1 z
      obtain ⟨xs, hx, _⟩ := hl w1 S1 H1 ⟨Ex.refl _, List.prefix_rfl⟩ R1 ok
      exact ⟨p, rfl, ⟨xs, .inl hx⟩, h w1 H1 _ l1 R1 (walks_list hl)⟩⟩
def numD (ds : List D) : List D := (List.range ds.length).map fun i => D.tup [.int (i : Nat), ds.getD i .non]
theorem numD_get {ds : List D} {i : Nat} {x : D} (h : (numD ds)[i]? = some x) : ∃ d, ds[i]? = some d ∧ x = .tup [.int (i : Nat), d] := by
  unfold numD at h
  rw [List.getElem?_map] at h
  have hi : i < ds.length := by
    cases q : (List.range ds.length)[i]? with
    | none =>
      rw [q] at h
      cases h
    | some j =>
      have := (List.getElem?_eq_some_iff.mp q).1
      rwa [List.length_range] at this
  rw [List.getElem?_range hi] at h
  refine ⟨ds[i], List.getElem?_eq_getElem hi, ?_⟩
  have h : some (D.tup [.int (i : Nat), ds.getD i .non]) = some x := h
  cases h
  rw [List.getD_eq_getElem?_getD, List.getElem?_eq_getElem hi]
  rfl
theorem numD_len (ds : List D) : (numD ds).length = ds.length := by simp [numD]
def iNum (a : Env → M D) (e : Env) : M Itm := bind (iSeq a e) fun it => ret ⟨numD it.ds, it.src⟩
theorem walks_enum {K : Kw} {w : Wd} {p : Addr} {it : Itm} (h : LR K w p it) : WalksR K (Ite K p) w ⟨numD it.ds, it.src⟩ := ⟨fun w' S H l R ok i d hd => by
  obtain ⟨d, hd2, rfl⟩ := numD_get hd
  obtain ⟨xs, hx, ax⟩ := h w' S H l R ok
  obtain ⟨v, v1, v2⟩ := ax.get hd2
  refine ⟨⟨xs, v, .inl hx, v1⟩, fun x H' hy => ?_⟩
  obtain ⟨T, x1, rfl, nT, rfl, f1⟩ := hy
  have g1 := f1 xs (.inl hx)
  rw [v1] at g1
  cases g1
  obtain ⟨le, R2⟩ := R.plus (o := .tup [.int (i : Nat), v]) nT
  exact ⟨_, le, R2, .tup (st_of upd_same) (.cons (.int _) (.cons (v2.up le) .nil))⟩, fun w' S H l R ok => by
  obtain ⟨xs, hx, ax⟩ := h w' S H l R ok
  exact ⟨xs, .inl hx, by rw [ax.len, numD_len]; exact Nat.le_refl _⟩⟩
theorem walks_enumT {K : Kw} {w : Wd} {p : Addr} {ds : List D} (h : LT K w p ds) : WalksR K (EnT.IteT K p) w ⟨numD ds, []⟩ := ⟨fun w' S H l R ok i d hd => by
  obtain ⟨d, hd2, rfl⟩ := numD_get hd
  obtain ⟨xs, hx, ax⟩ := h w' S H l R
  obtain ⟨v, v1, v2⟩ := ax.get hd2
  refine ⟨⟨xs, v, hx, v1⟩, fun x H' hy => ?_⟩
  obtain ⟨T, x1, rfl, nT, rfl, f1⟩ := hy
  have g1 := f1 xs hx
  rw [v1] at g1
  cases g1
  obtain ⟨le, R2⟩ := R.plus (o := .tup [.int (i : Nat), v]) nT
  exact ⟨_, le, R2, .tup (st_of upd_same) (.cons (.int _) (.cons (v2.up le) .nil))⟩, fun w' S H l R ok => by
  obtain ⟨xs, hx, ax⟩ := h w' S H l R
  exact ⟨xs, hx, by rw [ax.len, numD_len]; exact Nat.le_refl _⟩⟩
theorem ci_num {elts : List Expr} {kk : Nat} {p tpos : Pos} (hg : Gl X "enumerate") (hm : X.mg "enumerate" = none) (ha : CE X C a ta ma) (hs : starEach [a] X.env = [(false, eval a X.env)] := by rfl) :
    CI X C (.Tuple elts kk tpos) (.Call (.Name "enumerate" p) [a] [] pos) (fun σ H R => iEnum C.K (tCons ta tNil) σ H R ∨ EnT.iEnumT C.K (tCons ta tNil) σ H R) (iNum ma) := ⟨ha.hK, fun y => by rw [← ha.hK]; exact piOr (pi_enum hg hm (pa_cons (ha.pe y) pa_nil hs) hs) (EnT.pi_enumT hg hm (pa_cons (ha.pe y) pa_nil hs) hs), fun e σ w S H R E Rl h => by
  cases q : ma e S with
  | no =>
    simp only [iNum, iSeq, bind_ap, q] at h
    exact h.elim
  | er x s =>
    simp only [iNum, iSeq, bind_ap, q] at h
    refine .inl (ha.sn e σ w S H _ E Rl ?_)
    rw [q]
    exact h
  | ok d S1 =>
    simp only [iNum, iSeq, bind_ap, q, then_ok] at h
    by_cases ht : ∃ ds, d = .tup ds
    · obtain ⟨ds, rfl⟩ := ht
      refine .inr (ha.sn e σ w S H _ E Rl ?_)
      rw [q]
      intro w1 H1 v l1 R1 r1
      obtain ⟨p, rfl, hl⟩ := lt_of r1
      obtain ⟨xs, hx, _⟩ := hl w1 S1 H1 ⟨Ex.refl _, List.prefix_rfl⟩ R1
      exact ⟨p, xs, rfl, hx, h w1 H1 _ l1 R1 (walks_enumT hl)⟩
    · rw [itmOf_list ht] at h
      obtain ⟨it, z, h⟩ := oM_sat (sat_then.mp h)
      refine .inl (ha.sn e σ w S H _ E Rl ?_)
      rw [q]
      intro w1 H1 v l1 R1 r1
      obtain ⟨p, rfl, hl, ok⟩ := lr_of R1 r1 z
      obtain ⟨xs, hx, _⟩ := hl w1 S1 H1 ⟨Ex.refl _, List.prefix_rfl⟩ R1 ok
      exact ⟨p, xs, rfl, .inl hx, h w1 H1 _ l1 R1 (walks_enum hl)⟩⟩
theorem zipD_get {xs ys : List D} {i : Nat} {x : D} (h : (zipD xs ys)[i]? = some x) : ∃ d e, xs[i]? = some d ∧ ys[i]? = some e ∧ x = .tup [d, e] := by
  unfold zipD at h
  rw [List.getElem?_map] at h
  cases q : (xs.zip ys)[i]? with
  | none =>
    rw [q] at h
    cases h
  | some p =>
    rw [q] at h
    cases h
    obtain ⟨h1, h2⟩ := List.getElem?_zip_eq_some.mp q
    exact ⟨_, _, h1, h2, rfl⟩
def iZip2 (a : Env → M (List D)) (e : Env) : M Itm := bind (a e) fun ds => match ds with
  | [.tup xs, .tup ys] => ret ⟨zipD xs ys, []⟩
  | [x, y] => fun S => oM (rdS S x) (fun i => oM (rdS S y) (fun j => ret ⟨zipD i.ds j.ds, i.src ++ j.src⟩)) S
  | _ => stuck
theorem okSrc_app {a b : List (Nat × List D)} {S : Sto} : okSrc (a ++ b) S = true ↔ okSrc a S = true ∧ okSrc b S = true := by
  unfold okSrc
  rw [List.all_append, Bool.and_eq_true]
theorem walks_zip {K : Kw} {w : Wd} {p q : Addr} {it jt : Itm} (h : LR K w p it) (h' : LR K w q jt) : WalksR K (Itz K p q) w ⟨zipD it.ds jt.ds, it.src ++ jt.src⟩ := ⟨fun w' S H l R ok i d hd => by
  obtain ⟨d1, d2, g1, g2, rfl⟩ := zipD_get hd
  obtain ⟨o1, o2⟩ := okSrc_app.mp ok
  obtain ⟨xs, hx, ax⟩ := h w' S H l R o1
  obtain ⟨ys, hy, ay⟩ := h' w' S H l R o2
  obtain ⟨v, v1, v2⟩ := ax.get g1
  obtain ⟨u, u1, u2⟩ := ay.get g2
  refine ⟨⟨xs, ys, v, u, .inl hx, .inl hy, v1, u1⟩, fun x H' hy' => ?_⟩
  obtain ⟨T, x1, x2, rfl, nT, rfl, f1, f2⟩ := hy'
  have k1 := f1 xs (.inl hx)
  have k2 := f2 ys (.inl hy)
  rw [v1] at k1
  rw [u1] at k2
  cases k1
  cases k2
  obtain ⟨le, R2⟩ := R.plus (o := .tup [v, u]) nT
  exact ⟨_, le, R2, .tup (st_of upd_same) (.cons (v2.up le) (.cons (u2.up le) .nil))⟩, fun w' S H l R ok => by
  obtain ⟨o1, o2⟩ := okSrc_app.mp ok
  obtain ⟨xs, hx, ax⟩ := h w' S H l R o1
  obtain ⟨ys, hy, ay⟩ := h' w' S H l R o2
  refine ⟨xs, ys, .inl hx, .inl hy, ?_⟩
  rw [ax.len, ay.len]
  simp only [zipD, List.length_map, List.length_zip]
  omega⟩
theorem walks_zipT {K : Kw} {w : Wd} {p q : Addr} {ds es : List D} (h : LT K w p ds) (h' : LT K w q es) : WalksR K (RZ.ItzT K p q) w ⟨zipD ds es, []⟩ := ⟨fun w' S H l R ok i d hd => by
  obtain ⟨d1, d2, g1, g2, rfl⟩ := zipD_get hd
  obtain ⟨xs, hx, ax⟩ := h w' S H l R
  obtain ⟨ys, hy, ay⟩ := h' w' S H l R
  obtain ⟨v, v1, v2⟩ := ax.get g1
  obtain ⟨u, u1, u2⟩ := ay.get g2
  refine ⟨⟨xs, ys, v, u, hx, hy, v1, u1⟩, fun x H' hy' => ?_⟩
  obtain ⟨T, x1, x2, rfl, nT, rfl, f1, f2⟩ := hy'
  have k1 := f1 xs hx
  have k2 := f2 ys hy
  rw [v1] at k1
  rw [u1] at k2
  cases k1
  cases k2
  obtain ⟨le, R2⟩ := R.plus (o := .tup [v, u]) nT
  exact ⟨_, le, R2, .tup (st_of upd_same) (.cons (v2.up le) (.cons (u2.up le) .nil))⟩, fun w' S H l R ok => by
  obtain ⟨xs, hx, ax⟩ := h w' S H l R
  obtain ⟨ys, hy, ay⟩ := h' w' S H l R
  refine ⟨xs, ys, hx, hy, ?_⟩
  rw [ax.len, ay.len]
  simp only [zipD, List.length_map, List.length_zip]
  omega⟩
theorem ci_zip {elts : List Expr} {kk : Nat} {p tpos : Pos} {tr : TA} {mr : Env → M (List D)} (hg : Gl X "zip") (hm : X.mg "zip" = none) (ha : CA X C [a, b] tr mr)
    (hs : starEach [a, b] X.env = (false, eval a X.env) :: starEach [b] X.env := by rfl) (hpl : (backTo pos (starEach [b] X.env)).any (·.1) = false := by rfl) (hK : X.kw = C.K := by rfl) :
    CI X C (.Tuple elts kk tpos) (.Call (.Name "zip" p) [a, b] [] pos) (RZ.iZipA C.K tr) (iZip2 mr) := ⟨hK, fun y => by rw [← hK]; exact RZ.pi_zipA hg hm (ha.pa y) hs hpl, fun e σ w S H R E Rl h => by
  have h := sat_then.mp h
  refine ha.sn e σ w S H _ E Rl (h.imp (fun ds S1 h1 w1 H1 vs l1 R1 rs => ?_) (fun x s hx => hx))
  split at h1
  · cases rs with
    | cons a1 rs =>
      cases rs with
      | cons a2 rs =>
        cases rs
        obtain ⟨p, rfl, hl⟩ := lt_of a1
        obtain ⟨q, rfl, hl'⟩ := lt_of a2
        obtain ⟨xs, hx, _⟩ := hl w1 S1 H1 ⟨Ex.refl _, List.prefix_rfl⟩ R1
        obtain ⟨ys, hy, _⟩ := hl' w1 S1 H1 ⟨Ex.refl _, List.prefix_rfl⟩ R1
        exact ⟨p, q, xs, ys, rfl, .inr ⟨hx, hy, h1 w1 H1 _ l1 R1 (walks_zipT hl hl')⟩⟩
  · obtain ⟨it, z1, h1⟩ := oM_sat h1
    obtain ⟨jt, z2, h1⟩ := oM_sat h1
    cases rs with
    | cons a1 rs =>
      cases rs with
      | cons a2 rs =>
        cases rs
        obtain ⟨p, rfl, hl, ok⟩ := lr_of R1 a1 z1
        obtain ⟨q, rfl, hl', ok'⟩ := lr_of R1 a2 z2
        obtain ⟨xs, hx, _⟩ := hl w1 S1 H1 ⟨Ex.refl _, List.prefix_rfl⟩ R1 ok
        obtain ⟨ys, hy, _⟩ := hl' w1 S1 H1 ⟨Ex.refl _, List.prefix_rfl⟩ R1 ok'
        exact ⟨p, q, xs, ys, rfl, .inl ⟨.inl hx, .inl hy, h1 w1 H1 _ l1 R1 (walks_zip hl hl')⟩⟩
  · exact h1.elim⟩
def iR1 (a : Env → M (List D)) (e : Env) : M Itm := bind (a e) fun ds => match ds with
  | [.int j] => gd (-1000000 ≤ j ∧ j ≤ 1000000) (ret ⟨rangeD 0 j, []⟩)
  | _ => stuck
def iR2 (a : Env → M (List D)) (e : Env) : M Itm := bind (a e) fun ds => match ds with
  | [.int i, .int j] => gd (-1000000 ≤ i ∧ i ≤ 1000000 ∧ -1000000 ≤ j ∧ j ≤ 1000000) (ret ⟨rangeD i j, []⟩)
  | _ => stuck
theorem walks_range {K : Kw} {w : Wd} {i j : Int} : WalksR K (Itr i (j - i).toNat) w ⟨rangeD i j, []⟩ := ⟨fun w' S H l R ok k d hd => by
  have hd : (rangeD i j)[k]? = some d := hd
  unfold rangeD at hd
  rw [List.getElem?_map] at hd
  cases q : (List.range (j - i).toNat)[k]? with
  | none =>
    rw [q] at hd
    cases hd
  | some m =>
    rw [q] at hd
    have hk := (List.getElem?_eq_some_iff.mp q).1
    rw [List.length_range] at hk
    rw [List.getElem?_range hk] at q
    cases q
    cases hd
    refine ⟨hk, fun x H' hy => ?_⟩
    obtain ⟨rfl, rfl⟩ := (show H' = H ∧ x = .int (i + k) from hy)
    exact ⟨w', Wd.le.refl _, R, .int _⟩, fun w' S H l R ok => by
  show (j - i).toNat ≤ (rangeD i j).length
  simp [rangeD]⟩
theorem ci_range1 {p : Pos} {tr : TA} {mr : Env → M (List D)} (hg : Gl X "range") (hm : X.mg "range" = none) (ha : CA X C [a] tr mr) (hs : starEach [a] X.env = [(false, eval a X.env)] := by rfl) (hK : X.kw = C.K := by rfl) : CI X C tg (.Call (.Name "range" p) [a] [] pos) (iRng1 tr) (iR1 mr) := ⟨hK, fun y => pi_range1 hg hm (ha.pa y) hs, fun e σ w S H R E Rl h => by
  have h := sat_then.mp h
  refine ha.sn e σ w S H _ E Rl (h.imp (fun ds S1 h1 w1 H1 vs l1 R1 rs => ?_) (fun x s hx => hx))
  split at h1
  · obtain ⟨cc, h1⟩ := gd_sat h1
    cases rs with
    | cons a1 rs =>
      cases rs
      cases a1
      rename_i j _
      have := walks_range (K := C.K) (w := w1) (i := 0) (j := j)
      rw [Int.sub_zero] at this
      exact ⟨j, rfl, by omega, by omega, h1 w1 H1 _ l1 R1 this⟩
  · exact h1.elim⟩
theorem ci_range2 {p : Pos} {tr : TA} {mr : Env → M (List D)} (hg : Gl X "range") (hm : X.mg "range" = none) (ha : CA X C [a, b] tr mr) (hs : starEach [a, b] X.env = [(false, eval a X.env), (false, eval b X.env)] := by rfl) (hs2 : starEach [b] X.env = [(false, eval b X.env)] := by rfl) (hK : X.kw = C.K := by rfl) : CI X C tg (.Call (.Name "range" p) [a, b] [] pos) (iRng2 tr) (iR2 mr) := ⟨hK, fun y => pi_range2 hg hm (ha.pa y) hs hs2, fun e σ w S H R E Rl h => by
  have h := sat_then.mp h
  refine ha.sn e σ w S H _ E Rl (h.imp (fun ds S1 h1 w1 H1 vs l1 R1 rs => ?_) (fun x s hx => hx))
  split at h1
  · obtain ⟨cc, h1⟩ := gd_sat h1
    cases rs with
    | cons a1 rs =>
      cases rs with
      | cons a2 rs =>
        cases rs
        cases a1
        cases a2
        rename_i i j _
        exact ⟨i, j, rfl, ⟨by omega, by omega, by omega, by omega⟩, h1 w1 H1 _ l1 R1 walks_range⟩
  · exact h1.elim⟩
end
end PM
end
section
set_option Elab.async false
set_option linter.all false
set_option maxRecDepth 100000
namespace PM
open PySem L2 Evl
def setE (i : Nat) (d : D) (e : Env) : Env := ⟨e.sl.set i (some d), match e.ex with
  | some (j, x) => if j = i then none else some (j, x)
  | none => none⟩
theorem EnvR.set {C : Ct} {w : Wd} {σ : L2.St} {e : Env} {v : V} {d : D} (E : EnvR C w σ e) (i : Nat) (a : VR C.K w v d) : EnvR C w (σ.set i (some v)) (setE i d e) := by
  refine ⟨by simp [setE, E.len], fun j d' h => ?_, fun j x h => ?_⟩
  · have h : (e.sl.set i (some d))[j]? = some (some d') := h
    by_cases q : i = j
    · subst q
      have hl : i < e.sl.length := by
        have := (List.getElem?_eq_some_iff.mp h).1
        simpa using this
      rw [List.getElem?_set_self hl] at h
      cases h
      exact ⟨v, by rw [List.getElem?_set_self (by rw [E.len]; exact hl)], a⟩
    · rw [List.getElem?_set_ne q] at h
      obtain ⟨u, h1, h2⟩ := E.sl j d' h
      exact ⟨u, by rw [List.getElem?_set_ne q]; exact h1, h2⟩
  · cases q : e.ex with
    | none =>
      simp [setE, q] at h
    | some p =>
      obtain ⟨k, y⟩ := p
      simp only [setE, q] at h
      by_cases z : k = i
      · rw [if_pos z] at h
        cases h
      · rw [if_neg z] at h
        cases h
        obtain ⟨h1, h2⟩ := E.ex _ _ q
        exact ⟨by rw [List.getElem?_set_ne (fun c => z c.symm)]; exact h1, h2⟩
def SndG (C : Ct) (g : TG) (f : D → Env → Option Env) : Prop := ∀ (e : Env) (σ : L2.St) (w : Wd) (S : Sto) (H : Hp) (v : V) (d : D) (e' : Env) (Q : L2.St → Hp → Prop), EnvR C w σ e → Rel C.K w S H → VR C.K w v d → f d e = some e' → (∀ σ', EnvR C w σ' e' → Q σ' H) → g v σ H Q
def SndGs (C : Ct) (g : TGs) (f : List D → Env → Option Env) : Prop := ∀ (e : Env) (σ : L2.St) (w : Wd) (S : Sto) (H : Hp) (v : List V) (d : List D) (e' : Env) (Q : L2.St → Hp → Prop), EnvR C w σ e → Rel C.K w S H → VRs C.K w v d → f d e = some e' → (∀ σ', EnvR C w σ' e' → Q σ' H) → g v σ H Q
/-- only the slots vs are set -/
def KeepG (g : TG) (vs : List Nat) : Prop := ∀ (v : V) (σ : L2.St) (H : Hp) (Q : L2.St → Hp → Prop), g v σ H Q → g v σ H fun σ2 H2 => wipe σ2 vs = wipe σ vs ∧ Q σ2 H2
structure CG (X : Cx) (C : Ct) (tg : Expr) (g : TG) (f : D → Env → Option Env) : Prop where
  hK : X.kw = C.K
  pg : Hyp X C → PG X tg g
  sn : SndG C g f
structure CGs (X : Cx) (C : Ct) (tg : List Expr) (g : TGs) (f : List D → Env → Option Env) : Prop where
  pg : Hyp X C → PGs X tg g
  sn : SndGs C g f
theorem wipe_get (σ : L2.St) : ∀ (vs : List Nat) (i : Nat), (wipe σ vs)[i]? = if i ∈ vs ∧ i < σ.length then some none else σ[i]?
  | [], i => by simp [wipe]
  | v :: vs, i => by
    have hl : (wipe σ vs).length = σ.length := by
      clear wipe_get
      induction vs with
      | nil => rfl
      | cons u us ih => simp [wipe, ih]
    show ((wipe σ vs).set v none)[i]? = _
    by_cases q : v = i
    · subst q
      by_cases h : v < σ.length
      · rw [List.getElem?_set_self (by rw [hl]; exact h), if_pos ⟨by simp, h⟩]
      · rw [if_neg (fun z => h z.2), List.getElem?_eq_none (by simp [hl]; omega), List.getElem?_eq_none (by omega)]
    · rw [List.getElem?_set_ne q, wipe_get σ vs i]
      by_cases h : i ∈ vs ∧ i < σ.length
      · rw [if_pos h, if_pos ⟨List.mem_cons_of_mem _ h.1, h.2⟩]
      · rw [if_neg h, if_neg (fun z => h ⟨(List.mem_cons.mp z.1).resolve_left (fun c => q c.symm), z.2⟩)]
theorem wipe_len (σ : L2.St) (vs : List Nat) : (wipe σ vs).length = σ.length := by
  induction vs with
  | nil => rfl
  | cons u us ih => simp [wipe, ih]
theorem wipe_set {σ : L2.St} {vs : List Nat} {i : Nat} {o : Option V} (h : i ∈ vs) : wipe (σ.set i o) vs = wipe σ vs := by
  refine List.ext_getElem? fun j => ?_
  rw [wipe_get, wipe_get, List.length_set]
  by_cases q : j ∈ vs ∧ j < σ.length
  · rw [if_pos q, if_pos q]
  · rw [if_neg q, if_neg q]
    by_cases z : i = j
    · subst z
      rw [List.getElem?_eq_none (by simp; exact Nat.le_of_not_lt fun c => q ⟨h, c⟩), List.getElem?_eq_none (Nat.le_of_not_lt fun c => q ⟨h, c⟩)]
    · rw [List.getElem?_set_ne z]
theorem wipe_idem (σ : L2.St) (vs : List Nat) : wipe (wipe σ vs) vs = wipe σ vs := by
  refine List.ext_getElem? fun j => ?_
  rw [wipe_get, wipe_len, wipe_get]
  by_cases q : j ∈ vs ∧ j < σ.length
  · rw [if_pos q, if_pos q]
  · rw [if_neg q, if_neg q]
def wipeD : List (Option D) → List Nat → List (Option D)
  | l, [] => l
  | l, v :: vs => (wipeD l vs).set v none
def wipeE (e : Env) (vs : List Nat) : Env := ⟨wipeD e.sl vs, none⟩
theorem wipeD_get (l : List (Option D)) : ∀ (vs : List Nat) (i : Nat), (wipeD l vs)[i]? = if i ∈ vs ∧ i < l.length then some none else l[i]?
  | [], i => by simp [wipeD]
  | v :: vs, i => by
    have hl : (wipeD l vs).length = l.length := by
      clear wipeD_get
      induction vs with
      | nil => rfl
      | cons u us ih => simp [wipeD, ih]
    show ((wipeD l vs).set v none)[i]? = _
    by_cases q : v = i
    · subst q
      by_cases h : v < l.length
      · rw [List.getElem?_set_self (by rw [hl]; exact h), if_pos ⟨by simp, h⟩]
      · rw [if_neg (fun z => h z.2), List.getElem?_eq_none (by simp [hl]; omega), List.getElem?_eq_none (by omega)]
    · rw [List.getElem?_set_ne q, wipeD_get l vs i]
      by_cases h : i ∈ vs ∧ i < l.length
      · rw [if_pos h, if_pos ⟨List.mem_cons_of_mem _ h.1, h.2⟩]
      · rw [if_neg h, if_neg (fun z => h ⟨(List.mem_cons.mp z.1).resolve_left (fun c => q c.symm), z.2⟩)]
theorem wipeD_len (l : List (Option D)) (vs : List Nat) : (wipeD l vs).length = l.length := by
  induction vs with
  | nil => rfl
  | cons u us ih => simp [wipeD, ih]
theorem EnvR.wipe {C : Ct} {w : Wd} {σ : L2.St} {e : Env} (E : EnvR C w σ e) (vs : List Nat) : EnvR C w (L2.wipe σ vs) (wipeE e vs) := by
  refine ⟨by rw [wipe_len]; show σ.length = (wipeD e.sl vs).length; rw [wipeD_len]; exact E.len, fun i d h => ?_, fun i x h => by cases h⟩
  have h : (wipeD e.sl vs)[i]? = some (some d) := h
  rw [wipeD_get] at h
  by_cases q : i ∈ vs ∧ i < e.sl.length
  · rw [if_pos q] at h
    cases h
  · rw [if_neg q] at h
    obtain ⟨v, h1, h2⟩ := E.sl i d h
    exact ⟨v, by rw [wipe_get, if_neg (by rw [E.len]; exact q)]; exact h1, h2⟩
section
variable {X : Cx} {C : Ct} {ta tb tc te : TE} {a b c tg : Expr} {ma mb mc : Env → M D} {pos : Pos}
def gN (i : Nat) (d : D) (e : Env) : Option Env := some (setE i d e)
theorem snd_gname (i : Nat) : SndG C (gName i) (gN i) := fun e σ w S H v d e' Q E R a h k => by
  cases h
  exact k _ (E.set i a)
theorem cg_name {i : Nat} {x : Str} (hN : X.N.Nodup) (hi : X.N[i]? = some x) (hx : Loc X.env.scope x) (hf : X.fn x = true ∨ X.env.scope.names.lookup x = some .local := by first | exact .inl rfl | exact .inr rfl | assumption) (hK : X.kw = C.K := by rfl) : CG X C (.Name x pos) (gName i) (gN i) :=
  ⟨hK, fun y => pg_name hN hi hx hf, snd_gname i⟩
theorem keep_gname {i : Nat} {vs : List Nat} (h : i ∈ vs) : KeepG (gName i) vs := fun v σ H Q q => ⟨wipe_set h, q⟩
def gN0 (ds : List D) (e : Env) : Option Env := match ds with
  | [] => some e
  | _ => none
def gC (f : D → Env → Option Env) (g : List D → Env → Option Env) (ds : List D) (e : Env) : Option Env := match ds with
  | d :: ds => (f d e).bind (g ds)
  | _ => none
def gT (n : Nat) (g : List D → Env → Option Env) (d : D) (e : Env) : Option Env := match d with
  | .tup ds => if ds.length = n then g ds e else none
  | _ => none
theorem cgs_nil : CGs X C [] gNil gN0 := ⟨fun y => pgs_nil, fun e σ w S H v d e' Q E R a h k => by
  cases a with
  | nil =>
    cases h
    exact ⟨rfl, k σ E⟩
  | cons _ _ => cases h⟩
theorem cgs_cons {e : Expr} {es : List Expr} {t : TG} {u : TGs} {f : D → Env → Option Env} {g : List D → Env → Option Env} (h1 : CG X C e t f) (h2 : CGs X C es u g) (hs : (assignEach (e :: es) X.env).map (·.2) = assign e X.env :: (assignEach es X.env).map (·.2) := by rfl) : CGs X C (e :: es) (gCons t u) (gC f g) := ⟨fun y => pgs_cons (h1.pg y) (h2.pg y) hs, fun e σ w S H v d e' Q E R a h k => by
  cases a with
  | nil => cases h
  | @cons v vs d ds a as =>
    cases q : f d e with
    | none =>
      simp [gC, q] at h
    | some e1 =>
      simp only [gC, q, Option.bind_some] at h
      exact ⟨v, vs, rfl, h1.sn e σ w S H v d e1 _ E R a q fun σ' E' => h2.sn e1 σ' w S H vs ds e' Q E' R as h k⟩⟩
theorem cg_tup {es : List Expr} {k : Nat} {t : TGs} {n : Nat} {f : List D → Env → Option Env} (hc : X.calm = true) (h : CGs X C es t f) (hn : (assignEach es X.env).length = n := by rfl) (hst : (assignEach es X.env).findIdx? (·.1) = none := by rfl) (hK : X.kw = C.K := by rfl) : CG X C (.Tuple es k pos) (gTup C.K n t) (gT n f) :=
  ⟨hK, fun y => by rw [← hK]; exact pg_tup hc (h.pg y) hn hst, fun e σ w S H v d e' Q E R a q kk => by
    cases a with
    | @tup p xs ds s as =>
      by_cases z : ds.length = n
      · have q : (if ds.length = n then f ds e else none) = some e' := q
        rw [if_pos z] at q
        exact ⟨p, xs, rfl, ex_t R.ex s, by rw [as.len]; exact z, h.sn e σ w S H xs ds e' Q E R as q kk⟩
      · have q : (if ds.length = n then f ds e else none) = some e' := q
        rw [if_neg z] at q
        cases q
    | _ => cases q⟩
end
end PM
end
section
set_option Elab.async false
set_option linter.all false
set_option maxRecDepth 100000
namespace PM
open PySem L2 Evl
def chk {α : Type} (src : List (Nat × List D)) (m : M α) : M α := fun S => if okSrc src S then m S else .no
theorem chk_sat {α : Type} {src : List (Nat × List D)} {m : M α} {S : Sto} {P : α → Sto → Prop} {E : Er → Sto → Prop} (h : (chk src m S).sat P E) : okSrc src S = true ∧ (m S).sat P E := by
  unfold chk at h
  by_cases q : okSrc src S = true
  · rw [if_pos q] at h
    exact ⟨q, h⟩
  · rw [if_neg q] at h
    exact h.elim
@[simp] theorem chk_nil {α : Type} (m : M α) : chk [] m = m := rfl
def lcGo (src : List (Nat × List D)) (tg : D → Env → Option Env) (t : Env → M Bool) (m : Env → M D) (e0 : Env) : List D → M (List D)
  | [] => chk src (ret [])
  | d :: ds => chk src (oM (tg d e0) fun e1 => bind (t e1) fun b => if b then bind (m e1) fun y => bind (lcGo src tg t m e0 ds) fun ys => ret (y :: ys) else lcGo src tg t m e0 ds)
def fLst (ds : List D) : M D := ret (.lst ds)
def fCell (ds : List D) : M D := fun S => .ok (.ptr S.length) (S ++ [.lst ds])
def noEM {α : Type} (m : M α) : M α := fun S => noE (m S)
def eLc (keep : Bool) (it : Env → M Itm) (vs : List Nat) (tg : D → Env → Option Env) (t : Env → M Bool) (m : Env → M D) (e : Env) : M D :=
  bind (it e) fun I => gd (I.ds.length ≤ lim) (bind (noEM (lcGo I.src tg t m (wipeE e vs) I.ds)) (if keep then fCell else fLst))
def tYesP (_ : Env) : M Bool := ret true
def C0 (C : Ct) : Ct := ⟨C.K, fun _ _ _ _ => False, C.sx⟩
theorem EnvR.c0 {C : Ct} {w : Wd} {σ : L2.St} {e : Env} (E : EnvR C w σ e) : EnvR (C0 C) w σ e := ⟨E.len, E.sl, E.ex⟩
theorem Wd.unhide_eq {w5 w2 : Wd} {p : Addr} {o : HO} (h : w5.U = upd w2.U p o) : w5 = (⟨w5.F, w5.B, w2.U⟩ : Wd).hide p o := by
  cases w5
  cases h
  rfl
section
variable {X : Cx} {C : Ct} {ta tb tc te : TE} {a b c tg : Expr} {ma mb mc : Env → M D} {pos : Pos}
theorem snd_yes : SndT C tYes tYesP := fun e σ w S H Q E R h => h w H (Wd.le.refl w) R
theorem snd_lc (keep : Bool) {wi : TI} {it : Env → M Itm} {g : TG} {f : D → Env → Option Env} {vs : List Nat} {tt : TT} {t : Env → M Bool} {m : Env → M D} (hI : SndI C wi it) (hg : SndG (C0 C) g f) (hk : KeepG g vs) (ht : SndT (C0 C) tt t) (he : SndE (C0 C) te m) : SndE C (tLc wi g tt te vs) (eLc keep it vs f t m) := fun e σ w S H Q E R h => by
  have h := sat_then.mp h
  refine hI e σ w S H _ E R (h.imp (fun I S1 h1 w1 H1 J l1 R1 wk => ?_) (fun x s hx => hx))
  obtain ⟨hlen, h1⟩ := gd_sat h1
  intro Dl hD
  have h2 := noE_sat (E' := fun _ _ => False) (sat_then.mp h1)
  have hU : w1.U Dl = none := by
    cases q : w1.U Dl with
    | none => rfl
    | some o =>
      have := (R1.hid Dl o q).1
      rw [hD] at this
      cases this
  have E1 : EnvR (C0 C) w1 (L2.wipe σ vs) (wipeE e vs) := ((E.up l1).wipe vs).c0
  refine ⟨fun i n H' => n = I.ds.length - i ∧ i ≤ I.ds.length ∧ ∃ (w2 : Wd) (S2 : Sto) (acc : List V) (ads : List D), w1.le w2 ∧ Rel C.K (w2.hide Dl (.lst acc)) S2 H' ∧ VRs C.K w2 acc ads ∧ acc.length ≤ i ∧
    (lcGo I.src f t m (wipeE e vs) (I.ds.drop i) S2).sat (fun ys S3 => ((if keep then fCell else fLst) (ads ++ ys) S3).sat (PV C.K w Q) (PX C w σ)) (fun _ _ => False), ⟨I.ds.length, by simp, Nat.zero_le _, w1, S1, [], [], Wd.le.refl _, R1.hide hD, .nil, Nat.le_refl _, h2⟩, ?_⟩
  rintro i n H2 ⟨rfl, hi, w2, S2, acc, ads, l2, R2, aa, hacc, hgo⟩
  have hU2 : w2.U Dl = none := by rw [l2.u]; exact hU
  by_cases hlt : i < I.ds.length
  · rw [List.drop_eq_getElem_cons hlt] at hgo
    obtain ⟨ok, hgo⟩ := chk_sat hgo
    obtain ⟨e1, q1, hgo⟩ := oM_sat hgo
    obtain ⟨g1, g2⟩ := wk.go (w2.hide Dl (.lst acc)) S2 H2 l2.z.hide R2 ok i _ (List.getElem?_eq_getElem hlt)
    refine .inr ⟨g1, fun H3 => ∃ (w3 : Wd) (S3 : Sto) (acc' : List V) (ads' : List D), w1.le w3 ∧ Rel C.K (w3.hide Dl (.lst acc')) S3 H3 ∧ VRs C.K w3 acc' ads' ∧ acc'.length ≤ i + 1 ∧
      (lcGo I.src f t m (wipeE e vs) (I.ds.drop (i + 1)) S3).sat (fun ys S4 => ((if keep then fCell else fLst) (ads' ++ ys) S4).sat (PV C.K w Q) (PX C w σ)) (fun _ _ => False), fun H3 q => ⟨I.ds.length - (i + 1), by omega, rfl, by omega, q⟩, fun x H3 hy => ?_⟩
    obtain ⟨w3, l3, R3, a3⟩ := g2 x H3 hy
    have hgo := sat_then.mp hgo
    have z := hk x (L2.wipe σ vs) H3 (fun σ2 H4 => tt σ2 H4 fun b H5 => if b = true then te σ2 H5 fun y H6 => ∃ acc, H6 Dl = some (.lst acc) ∧ acc.length < sizeLine ∧ (∃ (w3 : Wd) (S3 : Sto) (acc' : List V) (ads' : List D), w1.le w3 ∧ Rel C.K (w3.hide Dl (.lst acc')) S3 (upd H6 Dl (.lst (acc ++ [y]))) ∧ VRs C.K w3 acc' ads' ∧ acc'.length ≤ i + 1 ∧
      (lcGo I.src f t m (wipeE e vs) (I.ds.drop (i + 1)) S3).sat (fun ys S4 => ((if keep then fCell else fLst) (ads' ++ ys) S4).sat (PV C.K w Q) (PX C w σ)) (fun _ _ => False)) else (∃ (w3 : Wd) (S3 : Sto) (acc' : List V) (ads' : List D), w1.le w3 ∧ Rel C.K (w3.hide Dl (.lst acc')) S3 H5 ∧ VRs C.K w3 acc' ads' ∧ acc'.length ≤ i + 1 ∧
      (lcGo I.src f t m (wipeE e vs) (I.ds.drop (i + 1)) S3).sat (fun ys S4 => ((if keep then fCell else fLst) (ads' ++ ys) S4).sat (PV C.K w Q) (PX C w σ)) (fun _ _ => False)))
      (hg _ (L2.wipe σ vs) w3 S2 H3 x _ e1 _ (E1.up0 (l2.z.hide.trans l3.z)) R3 a3 q1 fun σ2 E2 => ?_)
    · rw [wipe_idem] at z
      exact z
    · refine ht e1 σ2 w3 S2 H3 _ E2 R3 (hgo.imp (fun k S4 h4 w4 H4 l4 R4 => ?_) fun _ _ z => z.elim)
      have l34 : (w2.hide Dl (.lst acc)).le w4 := l3.trans l4
      cases k with
      | false =>
        have e4 := Wd.unhide_eq (w5 := w4) (w2 := w2) l34.u
        rw [e4] at R4
        exact ⟨⟨w4.F, w4.B, w2.U⟩, S4, acc, ads, l2.trans ⟨l34.f, l34.b, rfl⟩, R4, VRs.up (w := w2) (w' := ⟨w4.F, w4.B, w2.U⟩) ⟨l34.f, l34.b, rfl⟩ aa, by omega, h4⟩
      | true =>
        have h4 := sat_then.mp (show ((m e1 S4).then _).sat _ _ from h4)
        refine he e1 σ2 w4 S4 H4 _ (E2.up l4) R4 (h4.imp (fun y S5 h5 w5 H5 v l5 R5 r5 => ?_) fun _ _ z => z.elim)
        have l35 : (w2.hide Dl (.lst acc)).le w5 := l34.trans l5
        have e5 := Wd.unhide_eq (w5 := w5) (w2 := w2) l35.u
        have k5 := (R5.hid Dl (.lst acc) (by rw [l35.u]; exact upd_same)).1
        rw [e5] at R5
        have l6 : w2.le ⟨w5.F, w5.B, w2.U⟩ := ⟨l35.f, l35.b, rfl⟩
        have hl : acc.length < sizeLine := Nat.lt_of_le_of_lt hacc (Nat.lt_of_lt_of_le hlt (Nat.le_trans hlen (by decide)))
        refine ⟨acc, k5, hl, ⟨w5.F, w5.B, w2.U⟩, S5, acc ++ [v], ads ++ [y], l2.trans l6, R5.rehide, (aa.up l6).app (.one (VR.via (w := w5) (w' := ⟨w5.F, w5.B, w2.U⟩) ⟨rfl, rfl⟩ r5)), by simp; omega, ?_⟩
        refine (sat_then.mp (show ((lcGo I.src f t m (wipeE e vs) (I.ds.drop (i + 1)) S5).then _).sat _ _ from h5)).imp (fun ys S6 h6 => ?_) fun _ _ z => z
        rw [List.append_assoc]
        exact h6
  · have ei : i = I.ds.length := by omega
    subst ei
    rw [List.drop_length] at hgo
    obtain ⟨ok, hgo⟩ := chk_sat hgo
    have hgo : ((if keep then fCell else fLst) (ads ++ []) S2).sat (PV C.K w Q) (PX C w σ) := hgo
    rw [List.append_nil] at hgo
    refine .inl ⟨wk.stop (w2.hide Dl (.lst acc)) S2 H2 l2.z.hide R2 ok, ?_⟩
    cases keep with
    | false =>
      obtain ⟨le, R3⟩ := R2.known hU2
      exact hgo _ H2 _ ((l1.trans l2).trans le) R3 (.lst upd_same (aa.up le))
    | true =>
      have R3 := R2.celled (c := .lst ads) hU2 ⟨acc, (R2.hid Dl _ upd_same).1, aa⟩
      exact hgo _ H2 _ ((l1.trans l2).trans Wd.le_cell) R3 (.ptr (cell_at Dl (R2.unhide (fun a u h z => by
        rw [z, hU2] at h
        cases h))))
theorem hyp0 {s : Shared} {H : Hp} {scope : Scope} {fp : List Addr} {env : PySem.Env} : Hyp (X.blk s H scope env fp) (C0 C) := ⟨takes0, PassesOwn.never⟩
structure CTs (X : Cx) (C : Ct) (es : List Expr) (tt : TT) (m : Env → M Bool) : Prop where
  pt : Hyp X C → PTs X es tt
  sn : SndT C tt m
theorem cts_nil : CTs X C [] tYes tYesP := ⟨fun y => pts_nil, snd_yes⟩
theorem cts_one {t : TT} {m : Env → M Bool} (h : CT X C a t m) : CTs X C [a] t m := ⟨fun y => pts_one (h.pt y), h.sn⟩
theorem ce_lc (keep : Bool) {elt iter : Expr} {ifs : List Expr} {scope : Scope} {own : List (Str × Nat)} {wi : TI} {it : Env → M Itm} {g : TG} {f : D → Env → Option Env} {tt : TT} {t : Env → M Bool} {m : Env → M D} (hc : X.calm = true) (hN : X.N.Nodup) (hi : CI X C tg iter wi it) (ok : BlkOk X.N X.env.scope scope own)
    (hg : ∀ (s : Shared) (H : Hp) (Z : Addr) (cl : List (Str × Addr)) (fp : List Addr), CG (X.blk s H scope (compEnvC scope cl Z X.env) fp) (C0 C) tg g f) (hk : KeepG g (own.map (·.2))) (ht : ∀ (s : Shared) (H : Hp) (Z : Addr) (cl : List (Str × Addr)) (fp : List Addr), CTs (X.blk s H scope (compEnvC scope cl Z X.env) fp) (C0 C) ifs tt t)
    (he : ∀ (s : Shared) (H : Hp) (Z : Addr) (cl : List (Str × Addr)) (fp : List Addr), CE (X.blk s H scope (compEnvC scope cl Z X.env) fp) (C0 C) elt te m) (hs : ∀ x, foldedSetIterable iter X.env x = pure x := by intro _; rfl) :
    CE X C (.ListComp elt [⟨tg, iter, ifs, 0⟩] scope pos) (tLc wi g tt te (own.map (·.2))) (eLc keep it (own.map (·.2)) f t m) :=
  ⟨hi.hK, fun y => pe_lc hc hN (hi.pi y) ok (fun s H Z cl fp => (hg s H Z cl fp).pg hyp0) (fun s H Z cl fp => (ht s H Z cl fp).pt hyp0) (fun s H Z cl fp => (he s H Z cl fp).pe hyp0) hs, snd_lc keep hi.sn (hg X.s_0 X.H_0 0 [] []).sn hk (ht X.s_0 X.H_0 0 [] []).sn (he X.s_0 X.H_0 0 [] []).sn⟩
def PN (C : Ct) (w : Wd) (Q : L2.St → Hp → Prop) (e : Env) (S : Sto) : Prop := ∀ (w' : Wd) (H' : Hp) (σ' : L2.St), w.le w' → Rel C.K w' S H' → EnvR C w' σ' e → Q σ' H'
def PXS (C : Ct) (w : Wd) (x : Er) (e : Env) (S : Sto) : Prop := ∀ (w' : Wd) (H' : Hp) (σ' : L2.St) (c : Value) (dd : Option Addr), w.le w' → Rel C.K w' S H' → EnvR C w' σ' e → ErR C.K w' x c dd → C.W c dd σ' H'
theorem PN.up {w w' : Wd} {Q : L2.St → Hp → Prop} {e : Env} {S : Sto} (l : w.le w') (h : PN C w Q e S) : PN C w' Q e S := fun w2 H σ l2 r e => h w2 H σ (l.trans l2) r e
theorem PXS.up {w w' : Wd} {x : Er} {e : Env} {S : Sto} (l : w.le w') (h : PXS C w x e S) : PXS C w' x e S := fun w2 H σ c d l2 r e => h w2 H σ c d (l.trans l2) r e
def SndS (C : Ct) (ts : TS) (m : Stm) : Prop := ∀ (En : Ends) (e : Env) (σ : L2.St) (w : Wd) (S : Sto) (H : Hp), EnvR C w σ e → Rel C.K w S H → (m e S).sat (PN C w En.nx) (PV C.K w En.rt) (PN C w En.bk) (PN C w En.ct) (PXS C w) → ts En σ H
structure CS (X : Cx) (C : Ct) (st : Stmt) (ts : TS) (m : Stm) : Prop where
  ps : Hyp X C → PS X st ts
  sn : SndS C ts m
structure CSs (X : Cx) (C : Ct) (st : List Stmt) (ts : TS) (m : Stm) : Prop where
  ps : Hyp X C → PSs X st ts
  sn : SndS C ts m
/-- an expression within a statement -/
def sE {α : Type} (m : Env → M α) (k : α → Stm) : Stm := fun e S => match m e S with
  | .ok a S' => k a e S'
  | .er x S' => .er x e S'
  | .no => .no
theorem sE_sat {α : Type} {m : Env → M α} {k : α → Stm} {e : Env} {S : Sto} {N : Env → Sto → Prop} {R : D → Sto → Prop} {B Ct : Env → Sto → Prop} {E : Er → Env → Sto → Prop} (h : (sE m k e S).sat N R B Ct E) : (m e S).sat (fun a S' => (k a e S').sat N R B Ct E) (fun x S' => E x e S') := by
  unfold sE at h
  cases q : m e S with
  | ok a s =>
    rw [q] at h
    exact h
  | er x s =>
    rw [q] at h
    exact h
  | no =>
    rw [q] at h
    exact h
theorem pxs_px {w : Wd} {σ : L2.St} {e : Env} {x : Er} {S : Sto} (E : EnvR C w σ e) (h : PXS C w x e S) : PX C w σ x S := fun w' H' c dd l r er => h w' H' σ c dd l r (E.up l) er
def sNext : Stm := fun e S => .nx e S
def sSeq (a b : Stm) : Stm := fun e S => match a e S with
  | .nx e' S' => b e' S'
  | o => o
theorem snd_seq {t u : TS} {a b : Stm} (h : SndS C t a) (g : SndS C u b) : SndS C (tSeq t u) (sSeq a b) := fun En e σ w S H E R q => by
  refine h { En with nx := u En } e σ w S H E R ?_
  unfold sSeq at q
  cases z : a e S with
  | nx e' S' =>
    rw [z] at q
    exact fun w' H' σ' l r E' => g En e' σ' w' S' H' E' r (SO.sat.imp q (fun _ _ z => z.up l) (fun _ _ z => z.up l) (fun _ _ z => z.up l) (fun _ _ z => z.up l) (fun _ _ _ z => z.up l))
  | rt d S' =>
    rw [z] at q
    exact q
  | bk e' S' =>
    rw [z] at q
    exact q
  | ct e' S' =>
    rw [z] at q
    exact q
  | er x e' S' =>
    rw [z] at q
    exact q
  | no =>
    rw [z] at q
    exact q
theorem css_nil : CSs X C [] tNext sNext := ⟨fun y => pss_nil, fun En e σ w S H E R q => q w H σ (Wd.le.refl w) R E⟩
theorem css_cons {st : Stmt} {rest : List Stmt} {t u : TS} {x y : Stm} (h : CS X C st t x) (g : CSs X C rest u y) : CSs X C (st :: rest) (tSeq t u) (sSeq x y) := ⟨fun y => pss_cons (h.ps y) (g.ps y), snd_seq h.sn g.sn⟩
theorem css_one {st : Stmt} {t : TS} {x : Stm} (h : CS X C st t x) : CSs X C [st] t x := ⟨fun y => pss_one (h.ps y), h.sn⟩
def sBk : Stm := fun e S => .bk e S
def sCt : Stm := fun e S => .ct e S
theorem cs_continue : CS X C (.Continue pos) tCont sCt := ⟨fun y => ps_continue, fun En e σ w S H E R q => q w H σ (Wd.le.refl w) R E⟩
def sDrop (m : Env → M D) : Stm := sE m fun _ e S => .nx e S
theorem cs_expr (ha : CE X C a ta ma) (hs : swapsWith a none pos.line X.env = pure false := by rfl) : CS X C (.Expr a pos) (tDrop ta) (sDrop ma) := ⟨fun y => ps_expr (ha.pe y) hs, fun En e σ w S H E R q => ha.sn e σ w S H _ E R ((sE_sat q).imp (fun d S1 h1 w1 H1 v l1 R1 r1 => h1 w1 H1 σ l1 R1 (E.up l1)) fun x s z => pxs_px E z)⟩
def sRet (m : Env → M D) : Stm := sE m fun d _ S => .rt d S
theorem cs_ret (ha : CE X C a ta ma) : CS X C (.Return (some a) pos) (tRet ta) (sRet ma) := ⟨fun y => ps_ret (ha.pe y), fun En e σ w S H E R q => ha.sn e σ w S H _ E R ((sE_sat q).imp (fun d S1 h1 w1 H1 v l1 R1 r1 => h1 w1 H1 v l1 R1 r1) fun x s z => pxs_px E z)⟩
def sRetN : Stm := fun _ S => .rt .non S
def sIf (t : Env → M Bool) (a b : Stm) : Stm := sE t fun k => if k then a else b
theorem cs_if {c : Expr} {p q : List Stmt} {tc : TT} {t : Env → M Bool} {u v : TS} {x y : Stm} (hc : CT X C c tc t) (hp : CSs X C p u x) (hq : CSs X C q v y) : CS X C (.If c p q pos) (tIfS tc u v) (sIf t x y) := ⟨fun y => ps_if (hc.pt y) (hp.ps y) (hq.ps y), fun En e σ w S H E R q => hc.sn e σ w S H _ E R ((sE_sat q).imp (fun k S1 h1 w1 H1 l1 R1 => by
  cases k with
  | true => exact hp.sn En e σ w1 S1 H1 (E.up l1) R1 (SO.sat.imp (show (x e S1).sat _ _ _ _ _ from h1) (fun _ _ z => z.up l1) (fun _ _ z => z.up l1) (fun _ _ z => z.up l1) (fun _ _ z => z.up l1) (fun _ _ _ z => z.up l1))
  | false => exact hq.sn En e σ w1 S1 H1 (E.up l1) R1 (SO.sat.imp (show (y e S1).sat _ _ _ _ _ from h1) (fun _ _ z => z.up l1) (fun _ _ z => z.up l1) (fun _ _ z => z.up l1) (fun _ _ z => z.up l1) (fun _ _ _ z => z.up l1))) fun x s z => pxs_px E z)⟩
def sAsg (m : Env → M D) (f : D → Env → Option Env) : Stm := sE m fun d e S => match f d e with
  | some e' => .nx e' S
  | none => .no
theorem snd_asg {g : TG} {f : D → Env → Option Env} (ha : SndE C ta ma) (hg : SndG C g f) : SndS C (tAsg ta g) (sAsg ma f) := fun En e σ w S H E R q => ha e σ w S H _ E R ((sE_sat q).imp (fun d S1 h1 w1 H1 v l1 R1 r1 => by
  cases z : f d e with
  | none =>
    rw [z] at h1
    exact h1.elim
  | some e' =>
    rw [z] at h1
    exact hg e σ w1 S1 H1 v d e' _ (E.up l1) R1 r1 z fun σ' E' => h1 w1 H1 σ' l1 R1 E') fun x s z => pxs_px E z)
theorem cs_asg {g : TG} {f : D → Env → Option Env} (ha : CE X C a ta ma) (hg : CG X C tg g f) (hs : swapsWithSole [tg] a pos.line X.env = pure false := by rfl) (hw : swappedStores [tg] a X.env = pure none := by rfl) (h1 : (assignEach [tg] X.env).map (·.2) = [assign tg X.env] := by rfl) : CS X C (.Assign [tg] a pos) (tAsg ta g) (sAsg ma f) := ⟨fun y => ps_asg (ha.pe y) (hg.pg y) hs hw h1, snd_asg ha.sn hg.sn⟩
def sPar (i j : Nat) (m : Env → M (List D)) : Stm := sE m fun ds e S => match ds with
  | [x, y] => .nx (setE j y (setE i x e)) S
  | _ => .no
theorem cs_par {i j : Nat} {x y : Str} {ta : TA} {m : Env → M (List D)} {px py pt : Pos} {kt k2 pt2} (hc : X.calm = true) (hN : X.N.Nodup) (hi : X.N[i]? = some x) (hj : X.N[j]? = some y) (hij : i ≠ j) (hx : X.env.scope.names.lookup x = some .local) (hy : X.env.scope.names.lookup y = some .local) (ha : CA X C [a, b] ta m)
    (hw : swappedStores [.Tuple [.Name x px, .Name y py] kt pt] (.Tuple [a, b] k2 pt2) X.env = pure (some [x, y]))
    (hs : swapsWithSole [.Tuple [.Name x px, .Name y py] kt pt] (.Tuple [a, b] k2 pt2) pos.line X.env = pure false := by rfl) : CS X C (.Assign [.Tuple [.Name x px, .Name y py] kt pt] (.Tuple [a, b] k2 pt2) pos) (tPar i j ta) (sPar i j m) := ⟨fun y => ps_par hc hN hi hj hij hx hy (ha.pa y) hw hs, fun En e σ w S H E R q => ha.sn e σ w S H _ E R ((sE_sat q).imp (fun ds S1 h1 w1 H1 vs l1 R1 rs => by
  cases rs with
  | nil => exact h1.elim
  | cons a1 rs =>
    cases rs with
    | nil => exact h1.elim
    | cons a2 rs =>
      cases rs with
      | cons _ _ => exact h1.elim
      | nil => exact ⟨_, _, rfl, h1 w1 H1 _ l1 R1 (((E.up l1).set i a1).set j a2)⟩) fun x s z => pxs_px E z)⟩
end
end PM
end
section
set_option Elab.async false
set_option linter.all false
set_option maxRecDepth 100000
namespace PM
open PySem L2 Evl
section
variable {X : Cx} {C : Ct} {ta tb tc te : TE} {a b c tg : Expr} {ma mb mc : Env → M D} {pos : Pos}
/-- d is a cell of a list: its number, its items -/
def cellL {α : Type} (d : D) (k : Nat → List D → M α) : M α := fun S => match d with
  | .ptr n => match S[n]? with
    | some (.lst ds) => k n ds S
    | _ => .no
  | _ => .no
theorem cellL_sat {α : Type} {d : D} {k : Nat → List D → M α} {S : Sto} {P : α → Sto → Prop} {E : Er → Sto → Prop} (h : (cellL d k S).sat P E) : ∃ n ds, d = .ptr n ∧ S[n]? = some (.lst ds) ∧ (k n ds S).sat P E := by
  cases d with
  | ptr n =>
    simp only [cellL] at h
    cases q : S[n]? with
    | none =>
      rw [q] at h
      exact h.elim
    | some cc =>
      rw [q] at h
      cases cc with
      | lst ds => exact ⟨n, ds, rfl, q, h⟩
      | _ => exact h.elim
  | _ => exact h.elim
def putL (n : Nat) (ds : List D) : M D := fun S => .ok .non (S.set n (.lst ds))
def dAppend (x : D) (as : List D) : M D := match as with
  | [y] => cellL x fun n ds => gd (ds.length < lim) (putL n (ds ++ [y]))
  | _ => stuck
/-- a list that is no script -/
def rdP (S : Sto) : D → Option (List D)
  | .lst ds => some ds
  | .ptr n => match S[n]? with
    | some (.lst ds) => some ds
    | _ => none
  | _ => none
theorem rdP_ok {K : Kw} {w : Wd} {S : Sto} {H : Hp} {v : V} {d : D} {ds : List D} (R : Rel K w S H) (a : VR K w v d) (h : rdP S d = some ds) : ∃ p xs, v = .ref p ∧ H p = some (.lst xs) ∧ VRs K w xs ds := by
  cases a with
  | lst s as =>
    cases h
    exact ⟨_, _, rfl, R.ex _ _ s, as⟩
  | @ptr p n hb =>
    cases q : S[n]? with
    | none => simp [rdP, q] at h
    | some cc =>
      cases cc with
      | lst es =>
        simp [rdP, q] at h
        subst h
        obtain ⟨_, xs, hx, ax⟩ := R.cell _ _ _ hb q rfl
        exact ⟨_, _, rfl, hx, ax⟩
      | _ => simp [rdP, q] at h
  | _ => cases h
def dExtend (x : D) (as : List D) : M D := match as with
  | [y] => fun S => oM (rdP S y) (fun zs => cellL x fun n ds => gd (ds.length + zs.length ≤ lim) (putL n (ds ++ zs))) S
  | _ => stuck
def eBM (g : D → List D → M D) (o : Env → M D) (r : Env → M (List D)) (e : Env) : M D := bind (o e) fun x => cellL x fun _ _ => bind (r e) fun as => g x as
theorem tyV_cell {K : Kw} {w : Wd} {S : Sto} {H : Hp} {v : V} {n : Nat} {ds : List D} (R : Rel K w S H) (r : VR K w v (.ptr n)) (q : S[n]? = some (.lst ds)) : ∃ p xs, v = .ref p ∧ w.B[n]? = some p ∧ H p = some (.lst xs) ∧ VRs K w xs ds ∧ tyV K "list" v H := by
  cases r with
  | ptr hb =>
    obtain ⟨_, xs, hx, as⟩ := R.cell _ _ _ hb q rfl
    exact ⟨_, xs, rfl, hb, hx, as, .inl ⟨rfl, xs, .inl (.inl hx)⟩⟩
theorem snd_bm {r : V → List V → Hp → VK → Prop} {g : D → List D → M D} {to : TE} {mo : Env → M D} {tr : TA} {mr : Env → M (List D)} (ho : SndE C to mo) (ha : SndA C tr mr)
    (hs : ∀ (w : Wd) (S : Sto) (H : Hp) (x : V) (d : D) (vs : List V) (ds : List D) (Q : VK) (E : Er → Sto → Prop), Rel C.K w S H → VR C.K w x d → VRs C.K w vs ds → (g d ds S).sat (PV C.K w Q) E → r x vs H Q) : SndE C (tBM C.K "list" r to tr) (eBM g mo mr) := fun e σ w S H Q E R h => by
  have h := sat_then.mp h
  refine ho e σ w S H _ E R (h.imp (fun d S1 h1 w1 H1 v l1 R1 r1 => ?_) (fun x s hx => hx))
  obtain ⟨n, ds, rfl, q, h1⟩ := cellL_sat h1
  obtain ⟨p, xs, rfl, hb, hx, as, ty⟩ := tyV_cell R1 r1 q
  refine ⟨ty, ?_⟩
  have h1 := sat_then.mp (show ((mr e S1).then _).sat _ _ from h1)
  refine ha e σ w1 S1 H1 _ (E.up l1) R1 (h1.imp (fun es S2 h2 w2 H2 us l2 R2 rs => ?_) (fun x s hx => hx.up l1))
  exact hs w2 S2 H2 _ _ us es Q _ R2 (r1.up l2) rs (h2.imp (fun d s z => z.up (l1.trans l2)) fun _ _ z => z)
theorem ce_append {o e : Expr} {mo : Env → M D} {to : TE} {es : List Expr} {tr : TA} {mr : Env → M (List D)} {apos : Pos} (ho : CE X C o to mo) (ha : CA X C (e :: es) tr mr)
    (hbase : attributeBase o "append" X.env (eval o X.env) = eval o X.env := by rfl)
    (hfew : ((backTo pos (starEach (e :: es) X.env)).all (fun x => !x.1) && (backToKw pos (keywordEach [] X.env)).all (fun x => x.1.isSome)
      && decide ((e :: es).length + ([] : List Keyword).length + (if ([] : List Keyword).isEmpty then 0 else 1) < 30)) = true := by rfl)
    (hline : (apos.endLine == pos.line) = true := by rfl) (hs : starEach (e :: es) X.env = (false, eval e X.env) :: starEach es X.env := by rfl) (hplain : (backTo pos (starEach es X.env)).any (·.1) = false := by rfl) :
    CE X C (.Call (.Attribute o "append" apos) (e :: es) [] pos) (tBM C.K "list" rAppend to tr) (eBM dAppend mo mr) := ⟨ho.hK, fun y => by rw [← ho.hK]; exact pe_bm PySem.F.plainAttrs_list PySem.F.slot_list_append PySem.F.type_list_append mt_append (ho.pe y) (ha.pa y) hbase hfew hline hs hplain, snd_bm ho.sn ha.sn fun w S H x d vs ds Q E R r rs h => by
  cases rs with
  | nil => exact h.elim
  | cons a1 rs =>
    cases rs with
    | cons _ _ => exact h.elim
    | nil =>
      obtain ⟨n, es, rfl, q, h⟩ := cellL_sat h
      obtain ⟨hl, h⟩ := gd_sat h
      obtain ⟨p, xs, rfl, hb, hx, as, ty⟩ := tyV_cell R r q
      refine ⟨p, xs, _, rfl, rfl, hx, Nat.lt_of_lt_of_le (by rw [as.len]; exact hl) (by decide), ?_⟩
      exact h w _ _ (Wd.le.refl w) (R.put hb q rfl ⟨_, upd_same, as.app (.one a1)⟩) .non⟩
theorem ce_extend {o e : Expr} {mo : Env → M D} {to : TE} {es : List Expr} {tr : TA} {mr : Env → M (List D)} {apos : Pos} (ho : CE X C o to mo) (ha : CA X C (e :: es) tr mr)
    (hbase : attributeBase o "extend" X.env (eval o X.env) = eval o X.env := by rfl)
    (hfew : ((backTo pos (starEach (e :: es) X.env)).all (fun x => !x.1) && (backToKw pos (keywordEach [] X.env)).all (fun x => x.1.isSome)
      && decide ((e :: es).length + ([] : List Keyword).length + (if ([] : List Keyword).isEmpty then 0 else 1) < 30)) = true := by rfl)
    (hline : (apos.endLine == pos.line) = true := by rfl) (hs : starEach (e :: es) X.env = (false, eval e X.env) :: starEach es X.env := by rfl) (hplain : (backTo pos (starEach es X.env)).any (·.1) = false := by rfl) :
    CE X C (.Call (.Attribute o "extend" apos) (e :: es) [] pos) (tBM C.K "list" rExtend to tr) (eBM dExtend mo mr) := ⟨ho.hK, fun y => by rw [← ho.hK]; exact pe_bm PySem.F.plainAttrs_list PySem.F.slot_list_extend PySem.F.type_list_extend mt_extend (ho.pe y) (ha.pa y) hbase hfew hline hs hplain, snd_bm ho.sn ha.sn fun w S H x d vs ds Q E R r rs h => by
  cases rs with
  | nil => exact h.elim
  | cons a1 rs =>
    cases rs with
    | cons _ _ => exact h.elim
    | nil =>
      obtain ⟨zs, z, h⟩ := oM_sat h
      obtain ⟨n, es, rfl, q, h⟩ := cellL_sat h
      obtain ⟨hl, h⟩ := gd_sat h
      obtain ⟨p, xs, rfl, hb, hx, as, ty⟩ := tyV_cell R r q
      obtain ⟨p2, ys, rfl, e2, e3⟩ := rdP_ok R a1 z
      exact ⟨p, p2, xs, ys, rfl, rfl, hx, e2, sz_lim (by rw [as.len, e3.len]; exact hl), h w _ _ (Wd.le.refl w) (R.put hb q rfl ⟨_, upd_same, as.app e3⟩) .non⟩⟩
/-- o[i] = v -/
def dSet (o i v : D) : M D := match i with
  | .int k => cellL o fun n ds => oM (ixN ds.length k) fun j => putL n (ds.set j v)
  | _ => stuck
theorem sets_ok {K : Kw} {w : Wd} {S : Sto} {H : Hp} {o i v : V} {d1 d2 d3 : D} {Q : Hp → Prop} {P : D → Sto → Prop} {E : Er → Sto → Prop} (R : Rel K w S H) (r1 : VR K w o d1) (r2 : VR K w i d2) (r3 : VR K w v d3) (h : (dSet d1 d2 d3 S).sat P E) (hp : ∀ d S', P d S' → ∀ (w' : Wd) (H' : Hp), w.le w' → Rel K w' S' H' → Q H') : rSetL o i v H Q := by
  cases r2 with
  | int k =>
    obtain ⟨n, ds, rfl, q, h⟩ := cellL_sat h
    obtain ⟨j, z, h⟩ := oM_sat h
    obtain ⟨p, xs, rfl, hb, hx, as, ty⟩ := tyV_cell R r1 q
    exact ⟨p, xs, k, j, rfl, rfl, hx, by rw [as.len]; exact z, hp _ _ h w _ (Wd.le.refl w) (R.put hb q rfl ⟨_, upd_same, as.set r3 j⟩)⟩
  | _ => exact h.elim
def sSet (m mo mi : Env → M D) : Stm := sE m fun d => sE mo fun o => sE mi fun i => sE (fun _ => dSet o i d) fun _ e S => .nx e S
theorem snd_set {to ti : TE} {mo mi : Env → M D} (ha : SndE C ta ma) (ho : SndE C to mo) (hi : SndE C ti mi) : SndS C (tAsg ta (gSub to ti rSetL)) (sSet ma mo mi) := fun En e σ w S H E R q => ha e σ w S H _ E R ((sE_sat q).imp (fun d S1 h1 w1 H1 v l1 R1 r1 => by
  refine ho e σ w1 S1 H1 _ (E.up l1) R1 ((sE_sat h1).imp (fun o S2 h2 w2 H2 ov l2 R2 r2 => ?_) fun x s z => pxs_px (E.up l1) (z.up l1))
  refine hi e σ w2 S2 H2 _ (E.up (l1.trans l2)) R2 ((sE_sat h2).imp (fun i S3 h3 w3 H3 iv l3 R3 r3 => ?_) fun x s z => pxs_px (E.up (l1.trans l2)) (z.up (l1.trans l2)))
  have l13 := (l1.trans l2).trans l3
  exact sets_ok R3 (r2.up l3) r3 (r1.up (l2.trans l3)) (sE_sat h3) fun _ S4 h4 w4 H4 l4 R4 => h4 w4 H4 σ (l13.trans l4) R4 (E.up (l13.trans l4))) fun x s z => pxs_px E z)
theorem cs_set {o i : Expr} {to ti : TE} {mo mi : Env → M D} {sp : Pos} (ha : CE X C a ta ma) (ho : CE X C o to mo) (hi : CE X C i ti mi) (hs : swapsWithSole [.Subscript o i sp] a pos.line X.env = pure false := by rfl) (hw : swappedStores [.Subscript o i sp] a X.env = pure none := by rfl) (h1 : (assignEach [.Subscript o i sp] X.env).map (·.2) = [assign (.Subscript o i sp) X.env] := by rfl)
    (hg : Hyp X C → PG X (.Subscript o i sp) (gSub to ti rSetL)) : CS X C (.Assign [.Subscript o i sp] a pos) (tAsg ta (gSub to ti rSetL)) (sSet ma mo mi) := ⟨fun y => ps_asg (ha.pe y) (hg y) hs hw h1, snd_set ha.sn ho.sn hi.sn⟩
/-- o[i] = p[j] = v -/
def sSet2 (m mo mi mp mj : Env → M D) : Stm := sE m fun d => sE mo fun o => sE mi fun i => sE (fun _ => dSet o i d) fun _ => sE mp fun p => sE mj fun j => sE (fun _ => dSet p j d) fun _ e S => .nx e S
theorem cs_set2 {o i p j : Expr} {to ti tp tj : TE} {mo mi mp mj : Env → M D} {sp sq : Pos} (ha : CE X C a ta ma) (ho : CE X C o to mo) (hi : CE X C i ti mi) (hp : CE X C p tp mp) (hj : CE X C j tj mj) (h1 : Hyp X C → PG X (.Subscript o i sp) (gSub to ti rSetL)) (h2 : Hyp X C → PG X (.Subscript p j sq) (gSub tp tj rSetL))
    (he : (assignEach [.Subscript o i sp, .Subscript p j sq] X.env).map (·.2) = [assign (.Subscript o i sp) X.env, assign (.Subscript p j sq) X.env] := by rfl) (hw : swappedStores [.Subscript o i sp, .Subscript p j sq] a X.env = pure none := by rfl) :
    CS X C (.Assign [.Subscript o i sp, .Subscript p j sq] a pos) (tAsg2 ta (gSub to ti rSetL) (gSub tp tj rSetL)) (sSet2 ma mo mi mp mj) := ⟨fun y => ps_asg2 (ha.pe y) (h1 y) (h2 y) he hw, fun En e σ w S H E R q => ha.sn e σ w S H _ E R ((sE_sat q).imp (fun d S1 h1 w1 H1 v l1 R1 r1 => by
  refine ho.sn e σ w1 S1 H1 _ (E.up l1) R1 ((sE_sat h1).imp (fun o S2 h2 w2 H2 ov l2 R2 r2 => ?_) fun x s z => pxs_px (E.up l1) (z.up l1))
  refine hi.sn e σ w2 S2 H2 _ (E.up (l1.trans l2)) R2 ((sE_sat h2).imp (fun i S3 h3 w3 H3 iv l3 R3 r3 => ?_) fun x s z => pxs_px (E.up (l1.trans l2)) (z.up (l1.trans l2)))
  have l13 := (l1.trans l2).trans l3
  refine sets_ok R3 (r2.up l3) r3 (r1.up (l2.trans l3)) (sE_sat h3) fun _ S4 h4 w4 H4 l4 R4 => ?_
  have l14 := l13.trans l4
  refine hp.sn e σ w4 S4 H4 _ (E.up l14) R4 ((sE_sat h4).imp (fun o S5 h5 w5 H5 ov l5 R5 r5 => ?_) fun x s z => pxs_px (E.up l14) (z.up l14))
  have l15 := l14.trans l5
  refine hj.sn e σ w5 S5 H5 _ (E.up l15) R5 ((sE_sat h5).imp (fun i S6 h6 w6 H6 iv l6 R6 r6 => ?_) fun x s z => pxs_px (E.up l15) (z.up l15))
  have l16 := l15.trans l6
  exact sets_ok R6 (r5.up l6) r6 (r1.up ((((l2.trans l3).trans l4).trans l5).trans l6)) (sE_sat h6) fun _ S7 h7 w7 H7 l7 R7 => h7 w7 H7 σ (l16.trans l7) R7 (E.up (l16.trans l7))) fun x s z => pxs_px E z)⟩
/-- o[i] += e, ints -/
def dInt1 (d : D) : M Int := match d with
  | .int i => ret i
  | _ => stuck
def dIxC (o i : D) : M Int := bind (dInt1 i) fun k => cellL o fun _ ds => oM (atI ds k) dInt1
def sAugS (mo mi m : Env → M D) : Stm := sE mo fun o => sE mi fun i => sE (fun _ => dIxC o i) fun x => sE (fun e => bind (m e) dInt1) fun y => sE (fun _ => dSet o i (.int (x + y))) fun _ e S => .nx e S
theorem int1_sat {K : Kw} {w : Wd} {v : V} {d : D} {S : Sto} {P : Int → Sto → Prop} {E : Er → Sto → Prop} (r : VR K w v d) (h : (dInt1 d S).sat P E) : ∃ i, d = .int i ∧ v = .int i ∧ P i S := by
  cases r with
  | int i => exact ⟨i, rfl, rfl, h⟩
  | _ => exact h.elim
/-- x += e, ints -/
def sAug (i : Nat) (m : Env → M D) : Stm := sE (fun e => bind (eVar i e) dInt1) fun x => sE (fun e => bind (m e) dInt1) fun y e S => .nx (setE i (.int (x + y)) e) S
theorem cs_aug {i : Nat} {x : Str} {pos' : Pos} (hN : X.N.Nodup) (hi : X.N[i]? = some x) (hx : Loc X.env.scope x) (ha : CE X C a ta ma) (hf : X.fn x = true ∨ X.env.scope.names.lookup x = some .local := by first | exact .inl rfl | exact .inr rfl | assumption) :
    CS X C (.AugAssign (.Name x pos') .Add a pos) (tAug i ta (ipI fun i j => i + j)) (sAug i ma) := ⟨fun y => ps_aug hN hi hx (ha.pe y) ip_add hf, fun En e σ w S H E R q => by
  have q := sat_then.mp (sE_sat q)
  unfold eVar at q
  cases z : e.sl[i]? with
  | none =>
    rw [z] at q
    exact q.elim
  | some o =>
    cases o with
    | none =>
      rw [z] at q
      exact q.elim
    | some d =>
      rw [z] at q
      obtain ⟨v, h1, h2⟩ := E.sl i d z
      obtain ⟨n1, rfl, rfl, q⟩ := int1_sat h2 q
      refine ⟨.int n1, h1, ha.sn e σ w S H _ E R ((sat_then.mp (sE_sat q)).imp (fun y S1 h5 w1 H1 yv l1 R1 r1 => ?_) fun x s z => pxs_px E z)⟩
      obtain ⟨n2, rfl, rfl, h6⟩ := int1_sat r1 h5
      exact ⟨n1, n2, rfl, rfl, h6 w1 H1 _ l1 R1 ((E.up l1).set i (.int _))⟩⟩
/-- o.f = v, o an instance that changes -/
def dPut (cs : List Str) (f : Str) (o v : D) : M D := fun S => match o with
  | .ptr n => match S[n]? with
    | some (.obj c fs) => gd (cs.contains c = true ∧ fs.length < 1000) (fun S => .ok .non (S.set n (.obj c (putD f v fs)))) S
    | _ => .no
  | _ => .no
def sFldP (cs : List Str) (f : Str) (m mo : Env → M D) : Stm := sE m fun d => sE mo fun o => sE (fun _ => dPut cs f o d) fun _ e S => .nx e S
theorem cs_fld {o v : Expr} {to tv : TE} {mo mv : Env → M D} {f : Str} {pos' : Pos} (cs : List Str) (ok : FldOk C.K f cs) (ho : CE X C o to mo) (hv : CE X C v tv mv) (hs : swapsWith v (some (.Attribute o f pos')) pos.line X.env = pure false := by rfl) : CS X C (.Assign [.Attribute o f pos'] v pos) (sFld C.K to tv f) (sFldP cs f mv mo) := ⟨fun y => by rw [← ho.hK]; exact ps_fld (ho.pe y) (hv.pe y) hs, fun En e σ w S H E R q => hv.sn e σ w S H _ E R ((sE_sat q).imp (fun d S1 h1 w1 H1 v l1 R1 r1 => by
  refine ho.sn e σ w1 S1 H1 _ (E.up l1) R1 ((sE_sat h1).imp (fun o S2 h2 w2 H2 ov l2 R2 r2 => ?_) fun x s z => pxs_px (E.up l1) (z.up l1))
  have l12 := l1.trans l2
  have h3 := sE_sat h2
  cases r2 with
  | @ptr p n hb =>
    simp only [dPut] at h3
    cases z : S2[n]? with
    | none =>
      rw [z] at h3
      exact h3.elim
    | some cc =>
      rw [z] at h3
      cases cc with
      | obj c fs =>
        obtain ⟨⟨c1, c2⟩, h3⟩ := gd_sat h3
        obtain ⟨o1, o2⟩ := ok c (List.contains_iff_mem.mp c1)
        obtain ⟨_, dx, fvs, hx, as⟩ := R2.cell _ _ _ hb z rfl
        refine ⟨p, _, dx, fvs, rfl, hx, o1, o2, by rw [as.len]; exact c2, ?_⟩
        exact h3 w2 _ σ l12 (R2.put hb z rfl ⟨dx, _, upd_same, as.put (r1.up l2)⟩) (E.up l12)
      | _ => exact h3.elim
  | _ => exact h3.elim) fun x s z => pxs_px E z)⟩
def setS (i : Nat) (d : D) (e : Env) : Env := ⟨e.sl.set i (some d), e.ex⟩
def sFrz (i : Nat) : Stm := fun e S => match e.sl[i]? with
  | some (some (.ptr n)) => match S[n]? with
    | some (.lst ds) => .nx (setS i (.lst ds) e) (S.set n .dead)
    | some (.obj c fs) => .nx (setS i (.obj c fs) e) (S.set n .dead)
    | _ => .no
  | _ => .no
theorem EnvR.frz {w : Wd} {σ : L2.St} {e : Env} {i : Nat} {d : D} {v : V} (E : EnvR C w σ e) (h : σ[i]? = some (some v)) (a : VR C.K w v d) : EnvR C w σ (setS i d e) := ⟨by simp [setS, E.len], fun j d' h' => by
  have h' : (e.sl.set i (some d))[j]? = some (some d') := h'
  by_cases q : i = j
  · subst q
    rw [List.getElem?_set_self (by
      have := (List.getElem?_eq_some_iff.mp h').1
      simpa using this)] at h'
    cases h'
    exact ⟨v, h, a⟩
  · rw [List.getElem?_set_ne q] at h'
    exact E.sl j d' h', E.ex⟩
theorem snd_frz {ts : TS} {m : Stm} (i : Nat) (h : SndS C ts m) : SndS C ts (sSeq (sFrz i) m) := fun En e σ w S H E R q => by
  unfold sSeq sFrz at q
  cases z : e.sl[i]? with
  | none =>
    rw [z] at q
    exact q.elim
  | some o =>
    rw [z] at q
    cases o with
    | none => exact q.elim
    | some d =>
      cases d with
      | ptr n =>
        obtain ⟨v, h1, h2⟩ := E.sl i _ z
        cases h2 with
        | @ptr p _ hb =>
          simp only at q
          cases y : S[n]? with
          | none =>
            rw [y] at q
            exact q.elim
          | some cc =>
            rw [y] at q
            cases cc with
            | lst ds =>
              obtain ⟨_, xs, hx, as⟩ := R.cell _ _ _ hb y rfl
              obtain ⟨le, R2⟩ := R.freeze hb y rfl hx
              exact h En _ σ _ _ H ((E.up le).frz h1 (.lst upd_same (as.up le))) R2 (SO.sat.imp (show (m _ _).sat _ _ _ _ _ from q) (fun _ _ z => z.up le) (fun _ _ z => z.up le) (fun _ _ z => z.up le) (fun _ _ z => z.up le) (fun _ _ _ z => z.up le))
            | obj c fs =>
              obtain ⟨_, dx, fvs, hx, as⟩ := R.cell _ _ _ hb y rfl
              obtain ⟨le, R2⟩ := R.freeze hb y rfl hx
              exact h En _ σ _ _ H ((E.up le).frz h1 (.obj upd_same (as.up le))) R2 (SO.sat.imp (show (m _ _).sat _ _ _ _ _ from q) (fun _ _ z => z.up le) (fun _ _ z => z.up le) (fun _ _ z => z.up le) (fun _ _ z => z.up le) (fun _ _ _ z => z.up le))
            | dead => exact q.elim
            | dic kvs => exact q.elim
      | _ => exact q.elim
theorem cs_frz {st : Stmt} {ts : TS} {m : Stm} (i : Nat) (h : CS X C st ts m) : CS X C st ts (sSeq (sFrz i) m) := ⟨fun y => (h.ps y), snd_frz i h.sn⟩
def forGo (src : List (Nat × List D)) (tg : D → Env → Option Env) (body : Stm) : List D → Stm
  | [], e, S => if okSrc src S then .nx e S else .no
  | d :: ds, e, S => if okSrc src S then match tg d e with
    | some e1 => match body e1 S with
      | .nx e2 S2 => forGo src tg body ds e2 S2
      | .ct e2 S2 => forGo src tg body ds e2 S2
      | .bk e2 S2 => .nx e2 S2
      | o => o
    | none => .no else .no
def sFor (it : Env → M Itm) (tg : D → Env → Option Env) (body : Stm) : Stm := sE it fun I => forGo I.src tg body I.ds
theorem snd_for {wi : TI} {it : Env → M Itm} {g : TG} {f : D → Env → Option Env} {tw : TS} {body : Stm} (hI : SndI C wi it) (hg : SndG C g f) (hb : SndS C tw body) : SndS C (tFor wi g tw) (sFor it f body) := fun En e σ w S H E R q => hI e σ w S H _ E R ((sE_sat q).imp (fun I S1 h1 w1 H1 J l1 R1 wk => by
  refine ⟨fun i n σ' H' => n = I.ds.length - i ∧ i ≤ I.ds.length ∧ ∃ (w2 : Wd) (e2 : Env) (S2 : Sto), w1.le w2 ∧ EnvR C w2 σ' e2 ∧ Rel C.K w2 S2 H' ∧ (forGo I.src f body (I.ds.drop i) e2 S2).sat (PN C w En.nx) (PV C.K w En.rt) (PN C w En.bk) (PN C w En.ct) (PXS C w),
    ⟨I.ds.length, by simp, Nat.zero_le _, w1, e, S1, Wd.le.refl _, E.up l1, R1, h1⟩, ?_⟩
  rintro i n σ2 H2 ⟨rfl, hi, w2, e2, S2, l2, E2, R2, hgo⟩
  have l12 := l1.trans l2
  by_cases hlt : i < I.ds.length
  · rw [List.drop_eq_getElem_cons hlt] at hgo
    unfold forGo at hgo
    by_cases ok : okSrc I.src S2 = true
    · rw [if_pos ok] at hgo
      cases z : f I.ds[i] e2 with
      | none =>
        rw [z] at hgo
        exact hgo.elim
      | some e3 =>
        rw [z] at hgo
        obtain ⟨g1, g2⟩ := wk.go w2 S2 H2 l2.z R2 ok i _ (List.getElem?_eq_getElem hlt)
        refine .inr ⟨g1, fun σ' H' => ∃ (w2 : Wd) (e2 : Env) (S2 : Sto), w1.le w2 ∧ EnvR C w2 σ' e2 ∧ Rel C.K w2 S2 H' ∧ (forGo I.src f body (I.ds.drop (i + 1)) e2 S2).sat (PN C w En.nx) (PV C.K w En.rt) (PN C w En.bk) (PN C w En.ct) (PXS C w),
          fun σ' H' q => ⟨I.ds.length - (i + 1), by omega, rfl, by omega, q⟩, fun x H3 hy => ?_⟩
        obtain ⟨w3, l3, R3, a3⟩ := g2 x H3 hy
        refine hg e2 σ2 w3 S2 H3 x _ e3 _ (E2.up l3) R3 a3 z fun σ3 E3 => ?_
        have l13 := l12.trans l3
        refine hb _ e3 σ3 w3 S2 H3 E3 R3 ?_
        simp only at hgo
        cases y : body e3 S2 with
        | nx e4 S4 =>
          rw [y] at hgo
          exact fun w4 H4 σ4 l4 R4 E4 => ⟨w4, e4, S4, (l2.trans l3).trans l4, E4, R4, hgo⟩
        | ct e4 S4 =>
          rw [y] at hgo
          exact fun w4 H4 σ4 l4 R4 E4 => ⟨w4, e4, S4, (l2.trans l3).trans l4, E4, R4, hgo⟩
        | bk e4 S4 =>
          rw [y] at hgo
          exact PN.up l13 hgo
        | rt d S4 =>
          rw [y] at hgo
          exact PV.up l13 hgo
        | er x e4 S4 =>
          rw [y] at hgo
          exact PXS.up l13 hgo
        | no =>
          rw [y] at hgo
          exact hgo
    · rw [if_neg ok] at hgo
      exact hgo.elim
  · have ei : i = I.ds.length := by omega
    subst ei
    rw [List.drop_length] at hgo
    unfold forGo at hgo
    by_cases ok : okSrc I.src S2 = true
    · rw [if_pos ok] at hgo
      exact .inl ⟨wk.stop w2 S2 H2 l2.z R2 ok, hgo w2 H2 σ2 l12 R2 E2⟩
    · rw [if_neg ok] at hgo
      exact hgo.elim) fun x s z => pxs_px E z)
theorem cs_for {iter : Expr} {body : List Stmt} {wi : TI} {it : Env → M Itm} {g : TG} {f : D → Env → Option Env} {tw : TS} {m : Stm} (hc : X.calm = true) (hi : CI X C tg iter wi it) (hg : CG X C tg g f) (hb : CSs X C body tw m) (hs : ∀ x, foldedSetIterable iter X.env x = pure x := by intro _; rfl) : CS X C (.For tg iter body [] pos) (tFor wi g tw) (sFor it f m) :=
  ⟨fun y => ps_for y.ps hc (hi.pi y) (hg.pg y) (hb.ps y) hs, snd_for hi.sn hg.sn hb.sn⟩
def whGo (t : Env → M Bool) (body : Stm) : Nat → Stm
  | 0 => fun _ _ => .no
  | n + 1 => sE t fun k => if k then (fun e S => match body e S with
    | .nx e2 S2 => whGo t body n e2 S2
    | .ct e2 S2 => whGo t body n e2 S2
    | .bk e2 S2 => .nx e2 S2
    | o => o) else fun e S => .nx e S
/-- a while; fuel: how many turns at most, told by what stands ahead -/
def sWhile (fuel : Env → Sto → Nat) (t : Env → M Bool) (body : Stm) : Stm := fun e S => whGo t body (fuel e S) e S
theorem cs_while {c : Expr} {body : List Stmt} {tc : TT} {t : Env → M Bool} {tw : TS} {m : Stm} (fuel : Env → Sto → Nat) (hc : CT X C c tc t) (hb : CSs X C body tw m) : CS X C (.While c body [] pos) (tWhile tc tw) (sWhile fuel t m) := ⟨fun y => ps_while y.ps (hc.pt y) (hb.ps y), fun En e σ w S H E R q => by
  refine ⟨fun n σ' H' => ∃ (w2 : Wd) (e2 : Env) (S2 : Sto), w.le w2 ∧ EnvR C w2 σ' e2 ∧ Rel C.K w2 S2 H' ∧ (whGo t m n e2 S2).sat (PN C w En.nx) (PV C.K w En.rt) (PN C w En.bk) (PN C w En.ct) (PXS C w), ⟨fuel e S, w, e, S, Wd.le.refl _, E, R, q⟩, ?_⟩
  rintro n σ2 H2 ⟨w2, e2, S2, l2, E2, R2, hgo⟩
  cases n with
  | zero => exact hgo.elim
  | succ n =>
    refine hc.sn e2 σ2 w2 S2 H2 _ E2 R2 ((sE_sat hgo).imp (fun k S3 h3 w3 H3 l3 R3 => ?_) fun x s z => pxs_px E2 (z.up l2))
    have l23 := l2.trans l3
    cases k with
    | false => exact h3 w3 H3 σ2 l23 R3 (E2.up l3)
    | true =>
      refine ⟨fun σ' H' => ∃ (w2 : Wd) (e2 : Env) (S2 : Sto), w.le w2 ∧ EnvR C w2 σ' e2 ∧ Rel C.K w2 S2 H' ∧ (whGo t m n e2 S2).sat (PN C w En.nx) (PV C.K w En.rt) (PN C w En.bk) (PN C w En.ct) (PXS C w), fun σ' H' q => ⟨n, Nat.lt_succ_self n, q⟩, ?_⟩
      refine hb.sn _ e2 σ2 w3 S3 H3 (E2.up l3) R3 ?_
      simp only [if_true] at h3
      cases y : m e2 S3 with
      | nx e4 S4 =>
        rw [y] at h3
        exact fun w4 H4 σ4 l4 R4 E4 => ⟨w4, e4, S4, l23.trans l4, E4, R4, h3⟩
      | ct e4 S4 =>
        rw [y] at h3
        exact fun w4 H4 σ4 l4 R4 E4 => ⟨w4, e4, S4, l23.trans l4, E4, R4, h3⟩
      | bk e4 S4 =>
        rw [y] at h3
        exact PN.up l23 h3
      | rt d S4 =>
        rw [y] at h3
        exact PV.up l23 h3
      | er x e4 S4 =>
        rw [y] at h3
        exact PXS.up l23 h3
      | no =>
        rw [y] at h3
        exact h3⟩
end
end PM
end
section
set_option Elab.async false
set_option linter.all false
set_option maxRecDepth 100000
namespace PM
open PySem L2 Evl
section
variable {X : Cx} {C : Ct} {ta tb tc te : TE} {a b c tg : Expr} {ma mb mc : Env → M D} {pos : Pos}
def sRaise0 (cls : Str) : Stm := fun e S => .er ⟨cls, none⟩ e S
def sRaise1 (cls f : Str) (m : Env → M D) : Stm := sE m fun d e S => .er ⟨cls, some (f, d)⟩ e S
theorem cs_raise0 {e : Expr} {cls : Str} (hc : X.calm = true) (hm : PMk X e (fun _ H Q => Q (.ref (He.ga C.K cls)) none H)) : CS X C (.Raise (some e) none pos) (fun _ σ H => C.W (.ref (He.ga C.K cls)) none σ H) (sRaise0 cls) :=
  ⟨fun y => ps_raise hc y.tk hm, fun En e σ w S H E R q => q w H σ _ none (Wd.le.refl w) R E ⟨rfl, trivial⟩⟩
theorem cs_raise1 {p pos2 : Pos} {k : Nat} {fI : Addr} {x cls f txt : Str} (hc : X.calm = true) (T : SupX.Sup X.prog X.K X.mg (He.ga X.K cls) fI x f txt) (hr : Room k X.A) (ha : CE X C a ta ma) (hg : Gl X x) (hd : (x == ("__debug__" : Str)) = false := by decide)
    (hst : starEach (a :: []) X.env = (false, eval a X.env) :: starEach [] X.env := by rfl) (hpl : (backTo pos (starEach [] X.env)).any (·.1) = false := by rfl) :
    CS X C (.Raise (some (.Call (.Name x p) [a] [] pos)) none pos2) (tRaiseSup (He.ga C.K cls) f C.W (tCons ta tNil)) (sRaise1 cls f ma) := ⟨fun y => by rw [← ha.hK]; exact ps_raiseSup hc T hr y.tk (pa_cons (ha.pe y) pa_nil hst) hg hd hst hpl, fun En e σ w S H E R q => ha.sn e σ w S H _ E R ((sE_sat q).imp (fun d S1 h1 w1 H1 v l1 R1 r1 => by
  refine ⟨v, rfl, fun dd hdd => ?_⟩
  obtain ⟨le, R2⟩ := R1.plus (o := .xd [(f, v)]) hdd
  exact h1 _ _ σ _ (some dd) (l1.trans le) R2 (E.up (l1.trans le)) ⟨rfl, dd, v, rfl, upd_same, r1.up le⟩) fun x s z => pxs_px E z)⟩
/-- which class is below which -/
structure XT (K : PySem.W.Frag) (excs : List Str) (below : Str → Str → Bool) : Prop where
  m : ∀ c ∈ excs, ∀ c' ∈ excs, PySem.W.exmOne K (.ref (He.ga K c)) (.ref (He.ga K c')) = some (below c c')
def clrS (i : Nat) (e : Env) : Env := ⟨e.sl.set i none, none⟩
theorem EnvR.clr {w : Wd} {σ : L2.St} {e : Env} {C' : Ct} {i : Nat} {o : Option V} (E : EnvR C' w σ e) (hk : C'.K = C.K) : EnvR C w (σ.set i o) (clrS i e) := ⟨by simp [clrS, E.len], fun j d h => by
  have h : (e.sl.set i none)[j]? = some (some d) := h
  by_cases q : i = j
  · subst q
    rw [List.getElem?_set_self (by
      have := (List.getElem?_eq_some_iff.mp h).1
      simpa using this)] at h
    cases h
  · rw [List.getElem?_set_ne q] at h
    obtain ⟨v, h1, h2⟩ := E.sl j d h
    exact ⟨v, by rw [List.getElem?_set_ne q]; exact h1, hk ▸ h2⟩, fun j x h => by cases h⟩
def dropX (e : Env) : Env := ⟨e.sl, none⟩
theorem EnvR.dropX {w : Wd} {σ : L2.St} {e : Env} {C' : Ct} (E : EnvR C' w σ e) (hk : C'.K = C.K) : EnvR C w σ (dropX e) := ⟨E.len, fun j d h => by
  obtain ⟨v, h1, h2⟩ := E.sl j d h
  exact ⟨v, h1, hk ▸ h2⟩, fun j x h => by cases h⟩
def grabX (i : Nat) (x : Er) (e : Env) : Env := ⟨e.sl.set i none, some (i, x)⟩
/-- one clause: its class, the name's slot, its suite -/
structure Hd where
  cls : Str
  slot : Option Nat
  suite : Stm
def runHd (h : Hd) (x : Er) (e : Env) (S : Sto) : SO := match h.slot with
  | none => match h.suite (dropX e) S with
    | .nx e' S' => .nx (dropX e') S'
    | .bk e' S' => .bk (dropX e') S'
    | .ct e' S' => .ct (dropX e') S'
    | .er _ _ _ => .no
    | o => o
  | some i => if i < e.sl.length then match h.suite (grabX i x e) S with
    | .nx e' S' => .nx (clrS i e') S'
    | .bk e' S' => .bk (clrS i e') S'
    | .ct e' S' => .ct (clrS i e') S'
    | .er _ _ _ => .no
    | o => o else .no
def runHds (excs : List Str) (below : Str → Str → Bool) (x : Er) (e : Env) (S : Sto) : List Hd → SO
  | [] => .er x e S
  | h :: hs => if excs.contains x.cls && excs.contains h.cls then (if below x.cls h.cls then runHd h x e S else runHds excs below x e S hs) else .no
def sTry (excs : List Str) (below : Str → Str → Bool) (body : Stm) (hs : List Hd) : Stm := fun e S => match body e S with
  | .er x e' S' => runHds excs below x e' S' hs
  | o => o
/-- the promise of a suite, for the exception that it holds -/
def SuiteS (C : Ct) (ts : Addr → Value → Option Addr → TS) (m : Stm) : Prop := ∀ (a : Addr) (cls : Value) (d : Option Addr), SndS ⟨C.K, fun _ _ _ _ => False, (a, cls, d)⟩ (ts a cls d) m
theorem handle_only {excs : List Str} {below : Str → Str → Bool} (T : XT C.K excs below) {h : Hd} {ts : Addr → Value → Option Addr → TS} (hn : h.slot = none) (hs : SuiteS C ts h.suite) {Wout : WX} {En : Ends} {x : Er} {e : Env} {S : Sto} {w0 w : Wd} {H : Hp} {σ : L2.St} {cc : Value} {dd : Option Addr} (l0 : w0.le w) (E : EnvR C w σ e) (R : Rel C.K w S H) (xr : ErR C.K w x cc dd) {rest : SO}
    (q : (if excs.contains x.cls && excs.contains h.cls then (if below x.cls h.cls then runHd h x e S else rest) else .no).sat (PN C w0 En.nx) (PV C.K w0 En.rt) (PN C w0 En.bk) (PN C w0 En.ct) (PXS C w0)) (hr : rest.sat (PN C w0 En.nx) (PV C.K w0 En.rt) (PN C w0 En.bk) (PN C w0 En.ct) (PXS C w0) → Wout cc dd σ H) :
    wOnly C.K (.ref (He.ga C.K h.cls)) ts Wout En cc dd σ H := by
  by_cases z : (excs.contains x.cls && excs.contains h.cls) = true
  · rw [if_pos z] at q
    obtain ⟨z1, z2⟩ := Bool.and_eq_true_iff.mp z
    refine ⟨below x.cls h.cls, ?_, fun y a ha => ?_, fun y => ?_⟩
    · rw [xr.1]
      exact T.m _ (List.contains_iff_mem.mp z1) _ (List.contains_iff_mem.mp z2)
    · rw [if_pos y] at q
      unfold runHd at q
      rw [hn] at q
      refine hs a cc dd En _ σ w S H (E.dropX rfl) R ?_
      simp only at q
      cases u : h.suite (dropX e) S with
      | nx e2 S2 =>
        rw [u] at q
        exact fun w' H' σ' l r E' => q w' H' σ' (l0.trans l) r (E'.dropX rfl)
      | bk e2 S2 =>
        rw [u] at q
        exact fun w' H' σ' l r E' => q w' H' σ' (l0.trans l) r (E'.dropX rfl)
      | ct e2 S2 =>
        rw [u] at q
        exact fun w' H' σ' l r E' => q w' H' σ' (l0.trans l) r (E'.dropX rfl)
      | rt d S2 =>
        rw [u] at q
        exact PV.up l0 q
      | er x2 e2 S2 =>
        rw [u] at q
        exact q.elim
      | no =>
        rw [u] at q
        exact q
    · rw [if_neg (by rw [y]; decide)] at q
      exact hr q
  · rw [if_neg z] at q
    exact q.elim
theorem handle_as {excs : List Str} {below : Str → Str → Bool} (T : XT C.K excs below) {h : Hd} {ts : Addr → Value → Option Addr → TS} {i : Nat} (hn : h.slot = some i) (hs : SuiteS C ts h.suite) {Wout : WX} {En : Ends} {x : Er} {e : Env} {S : Sto} {w0 w : Wd} {H : Hp} {σ : L2.St} {cc : Value} {dd : Option Addr} (l0 : w0.le w) (E : EnvR C w σ e) (R : Rel C.K w S H) (xr : ErR C.K w x cc dd) {rest : SO}
    (q : (if excs.contains x.cls && excs.contains h.cls then (if below x.cls h.cls then runHd h x e S else rest) else .no).sat (PN C w0 En.nx) (PV C.K w0 En.rt) (PN C w0 En.bk) (PN C w0 En.ct) (PXS C w0)) (hr : rest.sat (PN C w0 En.nx) (PV C.K w0 En.rt) (PN C w0 En.bk) (PN C w0 En.ct) (PXS C w0) → Wout cc dd σ H) :
    wAs C.K (.ref (He.ga C.K h.cls)) i ts Wout En cc dd σ H := by
  by_cases z : (excs.contains x.cls && excs.contains h.cls) = true
  · rw [if_pos z] at q
    obtain ⟨z1, z2⟩ := Bool.and_eq_true_iff.mp z
    refine ⟨below x.cls h.cls, ?_, fun y a ha => ?_, fun y => ?_⟩
    · rw [xr.1]
      exact T.m _ (List.contains_iff_mem.mp z1) _ (List.contains_iff_mem.mp z2)
    · rw [if_pos y] at q
      unfold runHd at q
      rw [hn] at q
      simp only at q
      by_cases hi : i < e.sl.length
      · rw [if_pos hi] at q
        have Eg : EnvR ⟨C.K, fun _ _ _ _ => False, (a, cc, dd)⟩ w (σ.set i (some (.ref a))) (grabX i x e) := ⟨by simp [grabX, E.len], fun j d h => by
          have h : (e.sl.set i none)[j]? = some (some d) := h
          by_cases q : i = j
          · subst q
            rw [List.getElem?_set_self hi] at h
            cases h
          · rw [List.getElem?_set_ne q] at h
            obtain ⟨v, h1, h2⟩ := E.sl j d h
            exact ⟨v, by rw [List.getElem?_set_ne q]; exact h1, h2⟩, fun j y h => by
          cases h
          exact ⟨List.getElem?_set_self (by rw [E.len]; exact hi), xr⟩⟩
        refine hs a cc dd _ _ _ w S H Eg R ?_
        cases u : h.suite (grabX i x e) S with
        | nx e2 S2 =>
          rw [u] at q
          exact fun w' H' σ' l r E' => q w' H' _ (l0.trans l) r (E'.clr rfl)
        | bk e2 S2 =>
          rw [u] at q
          exact fun w' H' σ' l r E' => q w' H' _ (l0.trans l) r (E'.clr rfl)
        | ct e2 S2 =>
          rw [u] at q
          exact fun w' H' σ' l r E' => q w' H' _ (l0.trans l) r (E'.clr rfl)
        | rt d S2 =>
          rw [u] at q
          exact PV.up l0 q
        | er x2 e2 S2 =>
          rw [u] at q
          exact q.elim
        | no =>
          rw [u] at q
          exact q
      · rw [if_neg hi] at q
        exact q.elim
    · rw [if_neg (by rw [y]; decide)] at q
      exact hr q
  · rw [if_neg z] at q
    exact q.elim
/-- the outcome, but for exceptions -/
def noX (e : Env) (S : Sto) (o : SO) : SO := match o with
  | .er _ _ _ => SO.nx e S
  | o => o
def Ct.wish (C : Ct) (W : WX) : Ct := ⟨C.K, W, C.sx⟩
theorem SndS.body {C : Ct} {W : WX} {ts : TS} {m : Stm} (h : SndS (C.wish W) ts m) {En : Ends} {e : Env} {σ : L2.St} {w : Wd} {S : Sto} {H : Hp} (E : EnvR C w σ e) (R : Rel C.K w S H) {o : SO} (eo : m e S = o) (hx : ∀ x e' S', o = .er x e' S' → ∀ (w' : Wd) (H' : Hp) (σ' : L2.St) (c : Value) (dd : Option Addr), w.le w' → Rel C.K w' S' H' → EnvR C w' σ' e' → ErR C.K w' x c dd → W c dd σ' H')
    (hn : (noX e S o).sat (fun e2 S2 => (∃ x e' S', o = .er x e' S') ∨ PN C w En.nx e2 S2) (PV C.K w En.rt) (PN C w En.bk) (PN C w En.ct) (PXS C w)) : ts En σ H := by
  refine h En e σ w S H ⟨E.len, E.sl, E.ex⟩ R ?_
  rw [eo]
  cases o with
  | nx e2 S2 =>
    rcases hn with ⟨x, e', S', hh⟩ | hn
    · cases hh
    · exact fun w' H' σ' l r E' => hn w' H' σ' l r ⟨E'.len, E'.sl, E'.ex⟩
  | rt d S2 => exact hn
  | bk e2 S2 => exact fun w' H' σ' l r E' => hn w' H' σ' l r ⟨E'.len, E'.sl, E'.ex⟩
  | ct e2 S2 => exact fun w' H' σ' l r E' => hn w' H' σ' l r ⟨E'.len, E'.sl, E'.ex⟩
  | er x e2 S2 => exact fun w' H' σ' c dd l r E' xr => hx x e2 S2 rfl w' H' σ' c dd l r ⟨E'.len, E'.sl, E'.ex⟩ xr
  | no => exact hn
theorem try_split {excs : List Str} {below : Str → Str → Bool} {body : Stm} {hs : List Hd} {e : Env} {S : Sto} {w : Wd} {En : Ends} (q : (sTry excs below body hs e S).sat (PN C w En.nx) (PV C.K w En.rt) (PN C w En.bk) (PN C w En.ct) (PXS C w)) : (noX e S (body e S)).sat (fun e2 S2 => (∃ x e' S', body e S = .er x e' S') ∨ PN C w En.nx e2 S2) (PV C.K w En.rt) (PN C w En.bk) (PN C w En.ct) (PXS C w) ∧ ∀ x e' S', body e S = .er x e' S' → (runHds excs below x e' S' hs).sat (PN C w En.nx) (PV C.K w En.rt) (PN C w En.bk) (PN C w En.ct) (PXS C w) := by
  unfold sTry at q
  cases z : body e S with
  | er x e' S' =>
    rw [z] at q
    exact ⟨.inl ⟨x, e', S', rfl⟩, fun x2 e2 S2 h => by
      cases h
      exact q⟩
  | nx e2 S2 =>
    rw [z] at q
    exact ⟨.inr q, fun x2 e2 S2 h => by cases h⟩
  | rt d S2 =>
    rw [z] at q
    exact ⟨q, fun x2 e2 S2 h => by cases h⟩
  | bk e2 S2 =>
    rw [z] at q
    exact ⟨q, fun x2 e2 S2 h => by cases h⟩
  | ct e2 S2 =>
    rw [z] at q
    exact ⟨q, fun x2 e2 S2 h => by cases h⟩
  | no =>
    rw [z] at q
    exact ⟨q, fun x2 e2 S2 h => by cases h⟩
/-- the suite's promise, off the suite as it is read for some exception -/
theorem suiteS {ts : Addr → Value → Option Addr → TS} {m : Stm} {sts : List Stmt} (h : ∀ (a : Addr) (oe : Obj) (cls : Value) (d : Option Addr) (pn : List (Addr × Obj)), Zc cls d oe → (∃ vs, oe.data = .fields vs) → CSs (X.suite a ((a, oe) :: pn)) ⟨C.K, fun _ _ _ _ => False, (a, cls, d)⟩ sts (ts a cls d) m) : SuiteS C ts m := fun a cls d => (h a { cls := cls, dict := d, data := .fields #[] } cls d [] ⟨rfl, rfl⟩ ⟨_, rfl⟩).sn
/-- the field of the exception that is held -/
def eErr (i : Nat) (cls f : Str) (e : Env) : M D := match e.ex with
  | some (j, x) => match x.arg with
    | some (g, d) => gd (j = i ∧ x.cls = cls ∧ g = f) (ret d)
    | none => stuck
  | none => stuck
theorem ce_err {a : Addr} {oe : Obj} {cl : Value} {d : Option Addr} {pn : List (Addr × Obj)} {W : WX} {i : Nat} {x y f txt cls : Str} {p : Pos} {fI : Addr} (T : SupX.Sup X.prog X.K X.mg (He.ga X.K cls) fI y f txt) (hz : Zc cl d oe) (hf : ∃ vs, oe.data = .fields vs) (hi : PE (X.suite a ((a, oe) :: pn)) (.Name x p) (tVar i))
    (hb : attributeBase (.Name x p) f X.env (eval (.Name x p) X.env) = eval (.Name x p) X.env := by rfl) (hn : PySem.W.copiedNames.contains f = false := by decide) (hK : X.kw = C.K := by rfl) :
    CE (X.suite a ((a, oe) :: pn)) ⟨C.K, W, (a, cl, d)⟩ (.Attribute (.Name x p) f pos) (tBySup (He.ga C.K cls) f a cl d (tVar i)) (eErr i cls f) := ⟨hK, fun _ => by rw [← hK]; exact pe_bySup T hz hf hi hb hn, fun e σ w S H Q E R h => by
  unfold eErr at h
  cases q : e.ex with
  | none =>
    rw [q] at h
    exact h.elim
  | some p =>
    obtain ⟨j, x⟩ := p
    rw [q] at h
    simp only at h
    cases z : x.arg with
    | none =>
      rw [z] at h
      exact h.elim
    | some gd' =>
      obtain ⟨g, dd⟩ := gd'
      rw [z] at h
      obtain ⟨cc, h2⟩ := gd_sat h
      obtain ⟨rfl, c2, rfl⟩ := cc
      obtain ⟨e1, e2, e3⟩ := E.ex _ _ q
      rw [z] at e3
      obtain ⟨ad, v, k1, k2, k3⟩ := e3
      refine ⟨_, e1, rfl, ?_, ad, v, k1, R.ex _ _ k2, h2 w H v (Wd.le.refl w) R k3⟩
      rw [← c2]
      exact e2⟩
end
def toOut (o : SO) : Out D := match o with
  | .nx _ S => .ok .non S
  | .rt d S => .ok d S
  | .er x _ S => .er x S
  | _ => .no
def startE (n m : Nat) (ds : List D) : Env := ⟨ds.map some ++ List.replicate (m - n) none, none⟩
/-- a def of n parameters and m names -/
def runFn (n m : Nat) (body : Stm) (ds : List D) : M D := fun S => if ds.length = n then toOut (body (startE n m ds) S) else .no
section
open PySem.Spec PyProof.Rows
variable {P : Program} {w : World} {K : PySem.W.Frag} {mg : Str → Option Value} {base : Heap}
theorem fn_env {C : Ct} {w : Wd} {vs : List V} {ds : List D} {N : List Str} {n : Nat} (h : VRs C.K w vs ds) (hn : ds.length = n) (hl : n ≤ N.length) : EnvR C w (L2.start N vs) (startE n N.length ds) := ⟨by simp [L2.start, startE, h.len, hn], fun i d q => by
  have q : (ds.map some ++ List.replicate (N.length - n) none)[i]? = some (some d) := q
  by_cases z : i < ds.length
  · rw [List.getElem?_append_left (by simpa using z), List.getElem?_map] at q
    cases y : ds[i]? with
    | none =>
      rw [y] at q
      cases q
    | some d' =>
      rw [y] at q
      cases q
      obtain ⟨v, v1, v2⟩ := h.get y
      refine ⟨v, ?_, v2⟩
      show (vs.map some ++ List.replicate (N.length - vs.length) none)[i]? = some (some v)
      rw [List.getElem?_append_left (by simpa [h.len] using z), List.getElem?_map, v1]
      rfl
  · rw [List.getElem?_append_right (by simpa using z)] at q
    have := List.getElem?_eq_some_iff.mp q
    simp at this, fun i x q => by cases q⟩
theorem fn_run {CX : CXT} {N : List Str} {qual : Str} {scope : Scope} {f : Addr} {cd : Value} {A : Around} {outer : List PySem.Env} {s : Shared} {H : Hp} {E : XK} {st : List Stmt} {n : Nat} {m : Stm} {ts : TS} {sx : Addr × Value × Option Addr} {vs : List V} {Q : VK} (hl : n ≤ N.length)
    (hb : CSs (cxOf CX P w K mg base N qual scope f cd A outer s H E) ⟨⟨K, w⟩, fun c d _ H => E c d H, sx⟩ st ts m) (hy : Hyp (cxOf CX P w K mg base N qual scope f cd A outer s H E) ⟨⟨K, w⟩, fun c d _ H => E c d H, sx⟩) (h : spM ⟨K, w⟩ (runFn n N.length m) vs H Q E) :
    ∃ t, PSs (cxOf CX P w K mg base N qual scope f cd A outer s H E) st t ∧ t { nx := fun _ H' => Q .non H', rt := Q } (L2.start N vs) H := by
  obtain ⟨w0, ds, S, R, rs, h⟩ := h
  unfold runFn at h
  by_cases hn : ds.length = n
  · rw [if_pos hn] at h
    refine ⟨ts, hb.ps hy, hb.sn _ _ (L2.start N vs) w0 S H (fn_env (C := ⟨⟨K, w⟩, _, sx⟩) rs hn hl) R ?_⟩
    unfold toOut at h
    cases q : m (startE n N.length ds) S with
    | nx e' S' =>
      rw [q] at h
      exact fun w' H' σ' l r E' => h w' H' .non l r .non
    | rt d S' =>
      rw [q] at h
      exact h
    | er x e' S' =>
      rw [q] at h
      exact fun w' H' σ' c dd l r E' xr => h w' H' c dd l r xr
    | bk e' S' =>
      rw [q] at h
      exact h.elim
    | ct e' S' =>
      rw [q] at h
      exact h.elim
    | no =>
      rw [q] at h
      exact h.elim
  · rw [if_neg hn] at h
    exact h.elim
theorem sp_len {n m : Nat} {b : Stm} {vs : List V} {H : Hp} {Q : VK} {E : XK} (h : spM ⟨K, w⟩ (runFn n m b) vs H Q E) : vs.length = n := by
  obtain ⟨w0, ds, S, R, rs, h⟩ := h
  unfold runFn at h
  by_cases hn : ds.length = n
  · rw [rs.len, hn]
  · rw [if_neg hn] at h
    exact h.elim
/-- a def of no defaults -/
theorem fn_pm {x qual : Str} {st : Stmt} {f : Addr} {N ps : List Str} {k : Nat} {m : Stm} (F : ∃ fd, FunD K x qual (defArgs st) (defBody st) (defScope st) [] [] f fd) (S : FnScope N ps (defScope st)) (hl : ps.length ≤ N.length)
    (hb : ∀ (kV doc pm : Value) (an : Option Addr) (cdv ct : Value) (us : List Value), us.length = ps.length → bindArgs (PySem.W.fnOf x qual (defArgs st) (defBody st) (defScope st) .none kV doc pm an cdv ct) ⟨us, []⟩ = pure (ps.zip us))
    (body : ∀ (cdv : Value) (A : Around) (outer : List PySem.Env) (s : Shared) (H : Hp) (E : XK), Room k (A.deeper (envOfC qual (defScope st) s.heap.objs.size f cdv)) → ∃ ts, CSs (cxOf (L2.CX P w) P w K mg base N qual (defScope st) f cdv A outer s H E) ⟨⟨K, w⟩, fun c d _ H => E c d H, (0, .none, none)⟩ (defBody st) ts m) :
    WD.FnG P w K mg base (k + 1) f ps (spM ⟨K, w⟩ (runFn ps.length N.length m)) := by
  refine WD.fnX F S (fun vs H Q E h => sp_len h) hb fun cdv A outer s H vs Q E hr h => ?_
  obtain ⟨ts, hc⟩ := body cdv A outer s H E hr
  exact fn_run hl hc ⟨takes_of rfl rfl rfl rfl, passes_of rfl⟩ h
end
end PM
end
section
set_option Elab.async false
set_option linter.all false
set_option maxRecDepth 100000
namespace PM
open PySem L2 Evl
section
variable {X : Cx} {C : Ct} {ta tb tc te t1 t2 : TE} {a b c tg : Expr} {ma mb mc x y : Env → M D} {pos : Pos}
theorem cs_setLc (keep : Bool) {i : Nat} {y : Str} {py spos : Pos} {elt iter : Expr} {ifs : List Expr} {scope : Scope} {own : List (Str × Nat)} {wi : TI} {it : Env → M Itm} {g : TG} {f : D → Env → Option Env} {tt : TT} {t : Env → M Bool} {m : Env → M D} (hc : X.calm = true) (hN : X.N.Nodup) (hy : X.N[i]? = some y) (hyl : X.env.scope.names.lookup y = some .local)
    (hsw : swapsWith (.ListComp elt [⟨tg, iter, ifs, 0⟩] scope pos) (some (.Name y py)) spos.line X.env = pure true) (hi : CI X C tg iter wi it) (ok : BlkOk X.N X.env.scope scope own)
    (hg : ∀ (s : Shared) (H : Hp) (Z : Addr) (cl : List (Str × Addr)) (fp : List Addr), CG (X.blk s H scope (compEnvC scope cl Z X.env) fp) (C0 C) tg g f) (hk : KeepG g (own.map (·.2))) (ht : ∀ (s : Shared) (H : Hp) (Z : Addr) (cl : List (Str × Addr)) (fp : List Addr), CTs (X.blk s H scope (compEnvC scope cl Z X.env) fp) (C0 C) ifs tt t)
    (he : ∀ (s : Shared) (H : Hp) (Z : Addr) (cl : List (Str × Addr)) (fp : List Addr), CE (X.blk s H scope (compEnvC scope cl Z X.env) fp) (C0 C) elt te m) (hs : ∀ x, foldedSetIterable iter X.env x = pure x := by intro _; rfl) :
    CS X C (.Assign [.Name y py] (.ListComp elt [⟨tg, iter, ifs, 0⟩] scope pos) spos) (tAsg (tLc wi g tt te (own.map (·.2))) (gName i)) (sAsg (eLc keep it (own.map (·.2)) f t m) (gN i)) :=
  ⟨fun y => ps_setLc hc hN hy hyl hsw (hi.pi y) ok (fun s H Z cl fp => (hg s H Z cl fp).pg hyp0) (fun s H Z cl fp => (ht s H Z cl fp).pt hyp0) (fun s H Z cl fp => (he s H Z cl fp).pe hyp0) hs, snd_asg (snd_lc keep hi.sn (hg X.s_0 X.H_0 0 [] []).sn hk (ht X.s_0 X.H_0 0 [] []).sn (he X.s_0 X.H_0 0 [] []).sn) (snd_gname i)⟩
def orM {α : Type} (x y : Env → M α) (e : Env) : M α := fun S => match x e S with
  | .no => y e S
  | o => o
@[simp] theorem orM_no {α : Type} {x y : Env → M α} {e : Env} {S : Sto} (h : x e S = .no) : orM x y e S = y e S := by
  unfold orM
  rw [h]
end
theorem whGo_more {t : Env → M Bool} {body : Stm} : ∀ (n k : Nat) (e : Env) (S : Sto), whGo t body n e S ≠ .no → whGo t body (n + k) e S = whGo t body n e S
  | 0, _, _, _, h => absurd rfl h
  | n + 1, k, e, S, h => by
    have e1 : n + 1 + k = (n + k) + 1 := by omega
    rw [e1]
    unfold whGo sE at h ⊢
    cases q : t e S with
    | no => rfl
    | er x s => rfl
    | ok b s =>
      rw [q] at h
      simp only at h ⊢
      cases b with
      | false => rfl
      | true =>
        simp only [if_true] at h ⊢
        cases z : body e s with
        | nx e2 S2 =>
          rw [z] at h
          exact whGo_more n k e2 S2 h
        | ct e2 S2 =>
          rw [z] at h
          exact whGo_more n k e2 S2 h
        | _ => rfl
open Classical in
noncomputable def whF (t : Env → M Bool) (body : Stm) (e : Env) (S : Sto) : Nat := if h : ∃ n, whGo t body n e S ≠ .no then h.choose else 0
noncomputable def sWhl (t : Env → M Bool) (body : Stm) : Stm := sWhile (whF t body) t body
theorem whl_eq {t : Env → M Bool} {body : Stm} {e : Env} {S : Sto} {o : SO} (n : Nat) (h : whGo t body n e S = o) (ho : o ≠ .no) : sWhl t body e S = o := by
  have hx : ∃ n, whGo t body n e S ≠ .no := ⟨n, by rw [h]; exact ho⟩
  show whGo t body (whF t body e S) e S = o
  unfold whF
  rw [dif_pos hx]
  have h1 := hx.choose_spec
  have h2 := whGo_more hx.choose n e S h1
  have h3 := whGo_more n hx.choose e S (by rw [h]; exact ho)
  rw [← h2, Nat.add_comm, h3, h]
/-- a turn more -/
theorem whl_turn {t : Env → M Bool} {body : Stm} {e e2 : Env} {S S1 S2 : Sto} (h : t e S = .ok true S1) (hb : body e S1 = .nx e2 S2) : sWhl t body e S = sWhl t body e2 S2 := by
  by_cases q : ∃ n, whGo t body n e2 S2 ≠ .no
  · obtain ⟨n, hn⟩ := q
    rw [whl_eq n rfl hn, whl_eq (n + 1) _ hn]
    show sE t _ e S = _
    unfold sE
    rw [h]
    simp only [if_true]
    rw [hb]
  · have e1 : sWhl t body e2 S2 = .no := by
      refine Classical.byContradiction fun z => q ⟨whF t body e2 S2, z⟩
    rw [e1]
    refine Classical.byContradiction fun z => ?_
    have z : whGo t body (whF t body e S) e S ≠ .no := z
    cases k : whF t body e S with
    | zero =>
      rw [k] at z
      exact z rfl
    | succ n =>
      rw [k] at z
      refine q ⟨n, fun c => z ?_⟩
      show sE t _ e S = _
      unfold sE
      rw [h]
      simp only [if_true]
      rw [hb]
      exact c
theorem whl_end {t : Env → M Bool} {body : Stm} {e : Env} {S S1 : Sto} (h : t e S = .ok false S1) : sWhl t body e S = .nx e S1 := by
  refine whl_eq 1 ?_ (by intro z; cases z)
  show sE t _ e S = _
  unfold sE
  rw [h]
  rfl
end PM
end
section
set_option Elab.async false
set_option linter.all false
set_option maxRecDepth 100000
set_option maxHeartbeats 2000000
namespace PM
open PySem PySem.Spec PyProof.Rows L2 Evl
section
variable {X : Cx} {C : Ct} {ta tb tc te t1 t2 : TE} {a b c tg : Expr} {ma mb mc x y : Env → M D} {pos : Pos}
theorem ct_cmpK {op : CmpOp} {g : D → D → M D} (rK : Kw → R2) (ho : OpR X (compareOp op) (rK X.kw)) (hs : OpS C.K (rK C.K) g) (ha : CE X C a ta ma) (hb : CE X C b tb mb) (hm : behindInMarks op b = false) : CT X C (.Compare a [op] [b] pos) (tTest (tOp (rK C.K) ta tb)) (tOf (e2 g ma mb)) := ct_cmp (by rw [← ha.hK]; exact ho) hs ha hb hm
abbrev rInK (K : Kw) : R2 := fun x y H Q => rInD K x y H Q ∨ rInDT K x y H Q
theorem ct_eq (hu : X.A.units + 64 < cLine) (ha : CE X C a ta ma) (hb : CE X C b tb mb) : CT X C (.Compare a [.Eq] [b] pos) (tTest (tOp (rEqD C.K) ta tb)) (tOf (e2 (dEq false) ma mb)) := ct_cmpK (fun K : Kw => rEqD K) (op_eqD hu) (ops_eq _) ha hb (nobehind _ (by decide) (by decide))
theorem ct_ne (hu : X.A.units + 64 < cLine) (ha : CE X C a ta ma) (hb : CE X C b tb mb) : CT X C (.Compare a [.NotEq] [b] pos) (tTest (tOp (rNeD C.K) ta tb)) (tOf (e2 (dEq true) ma mb)) := ct_cmpK (fun K : Kw => rNeD K) (op_neD hu) (ops_ne _) ha hb (nobehind _ (by decide) (by decide))
theorem ct_in (hu : X.A.units + 65 < cLine) (ha : CE X C a ta ma) (hb : CE X C b tb mb) (hm : behindInMarks .In b = false) : CT X C (.Compare a [.In] [b] pos) (tTest (tOp (rInK C.K) ta tb)) (tOf (e2 (dIn false) ma mb)) := ct_cmpK (fun K : Kw => rInK K) (opOr (op_inD hu) (op_inDT (by omega))) (ops_in _) ha hb hm
theorem ct_lt (ha : CE X C a ta ma) (hb : CE X C b tb mb) : CT X C (.Compare a [.Lt] [b] pos) (tTest (tOp (rI0 fun i j => .bl (decide (i < j))) ta tb)) (tOf (e2 dLt ma mb)) := ct_cmp op_lt (ops_lt _) ha hb (nobehind _ (by decide) (by decide))
theorem ct_le (ha : CE X C a ta ma) (hb : CE X C b tb mb) : CT X C (.Compare a [.LtE] [b] pos) (tTest (tOp (rI0 fun i j => .bl (decide (i ≤ j))) ta tb)) (tOf (e2 dLe ma mb)) := ct_cmp op_le (ops_le _) ha hb (nobehind _ (by decide) (by decide))
theorem ct_gt (ha : CE X C a ta ma) (hb : CE X C b tb mb) : CT X C (.Compare a [.Gt] [b] pos) (tTest (tOp (rI0 fun i j => .bl (decide (j < i))) ta tb)) (tOf (e2 dGt ma mb)) := ct_cmp op_gt (ops_gt _) ha hb (nobehind _ (by decide) (by decide))
theorem ct_ge (ha : CE X C a ta ma) (hb : CE X C b tb mb) : CT X C (.Compare a [.GtE] [b] pos) (tTest (tOp (rI0 fun i j => .bl (decide (j ≤ i))) ta tb)) (tOf (e2 dGe ma mb)) := ct_cmp op_ge (ops_ge _) ha hb (nobehind _ (by decide) (by decide))
theorem ct_notN (ha : CE X C a ta ma) (hb : CE X C b tb mb) : CT X C (.Compare a [.IsNot] [b] pos) (tTest (tOp (fun x y H Q => y = .non ∧ Q (.bl (!decide (x = .non))) H) ta tb)) (tOf (e2 (dIsN true) ma mb)) := ct_cmp op_notN (ops_notN _) ha hb (nobehind _ (by decide) (by decide))
section
variable {k : Nat} {f : Addr} {ps : List Str} {cc : Str} {g : List D → M D}
theorem ct_neO (F : WD.FnG X.prog X.w X.K X.mg X.base k f ps (spM X.kw g)) (hm : Meth X.K (He.ga X.K cc) "__eq__" f) (hn : PySem.W.findIn X.K (.ref (He.ga X.K cc)) "__ne__" = some (some (.builtin "object.__ne__"))) (ho : PySem.W.mroIn X.K (He.ga X.K cc) (.type "object") = some true) (hr : Room (k + 1) X.A) (ha : CE X C a ta ma) (hb : CE X C b tb mb) : CT X C (.Compare a [.NotEq] [b] pos) (tTest (tOp (rNeO C.K (He.ga C.K cc) (spM C.K g) E0) ta tb)) (tOf (e2 (dEqO true cc g) ma mb)) := ct_cmpK (fun K => rNeO K (He.ga K cc) (spM K g) E0) (WD.neO_of F hm hn ho hr) ops_neO ha hb (nobehind _ (by decide) (by decide))
end
theorem ce_callBK {e : Expr} {es : List Expr} {tr : TA} {mr : Env → M (List D)} {x : Str} {p : Pos} {id : String} {g : List D → M D} (rK : Kw → List V → Hp → VK → Prop) (hc : CallR X (.builtin id) (rK X.kw)) (hs : CallS C.K (rK C.K) g) (hg : Gl X x) (hm : X.mg x = none) (hv : bootBuiltins x = some (.builtin id)) (ha : CA X C (e :: es) tr mr) (hn : x ≠ "__name__" := by decide) (hdb : (x == ("__debug__" : Str)) = false := by decide)
    (he : starEach (e :: es) X.env = (false, eval e X.env) :: starEach es X.env := by rfl) (hpl : (backTo pos (starEach es X.env)).any (·.1) = false := by rfl) (hK : X.kw = C.K := by rfl) : CE X C (.Call (.Name x p) (e :: es) [] pos) (tCB (rK C.K) tr) (eA g mr) := ce_callB (by rw [← hK]; exact hc) hs hg hm hv ha hn hdb he hpl hK
theorem ce_callTyK {e : Expr} {es : List Expr} {tr : TA} {mr : Env → M (List D)} {x : Str} {p : Pos} {T : String} {g : List D → M D} (rK : Kw → List V → Hp → VK → Prop) (hc : CallR X (.type T) (rK X.kw)) (hs : CallS C.K (rK C.K) g) (hg : Gl X x) (hm : X.mg x = none) (hv : bootBuiltins x = some (.type T)) (ha : CA X C (e :: es) tr mr) (hn : x ≠ "__name__" := by decide) (hdb : (x == ("__debug__" : Str)) = false := by decide)
    (he : starEach (e :: es) X.env = (false, eval e X.env) :: starEach es X.env := by rfl) (hpl : (backTo pos (starEach es X.env)).any (·.1) = false := by rfl) (hK : X.kw = C.K := by rfl) : CE X C (.Call (.Name x p) (e :: es) [] pos) (tCB (rK C.K) tr) (eA g mr) := ce_callTy (by rw [← hK]; exact hc) hs hg hm hv ha hn hdb he hpl hK
def eA0 (g : List D → M D) (_ : Env) : M D := fun S => noE (g [] S)
theorem fo_nil {K : Kw} {f : Str} : FldOk K f [] := fun c hc => by cases hc
theorem fo_cons {K : Kw} {f c : Str} {cs : List Str} (h1 : Cls K (He.ga K c)) (h2 : NoAttr K (He.ga K c) f) (h : FldOk K f cs) : FldOk K f (c :: cs) := fun d hd => by
  rcases List.mem_cons.mp hd with rfl | hd
  · exact ⟨h1, h2⟩
  · exact h d hd
def dRev (x : D) : M D := wL x fun ds => ret (.lst ds.reverse)
def dLRev (x : D) : M D := wL x fun ds => ret (.lst ds.reverse)
theorem ce_lenO {k : Nat} {f : Addr} {ps : List Str} {cc : Str} {g : List D → M D} {e : Expr} {es : List Expr} {tr : TA} {mr : Env → M (List D)} {p : Pos} (F : WD.FnG X.prog X.w X.K X.mg X.base k f ps (spM X.kw g)) (hm : Meth X.K (He.ga X.K cc) "__len__" f) (hr : Room (k + 1) X.A) (hg : Gl X "len") (hz : X.mg "len" = none) (ha : CA X C (e :: es) tr mr)
    (he : starEach (e :: es) X.env = (false, eval e X.env) :: starEach es X.env := by rfl) (hpl : (backTo pos (starEach es X.env)).any (·.1) = false := by rfl) (hK : X.kw = C.K := by rfl) : CE X C (.Call (.Name "len" p) (e :: es) [] pos) (tCB (rLenO (He.ga C.K cc) (spM C.K g) E0) tr) (eA (dLenO cc g) mr) := ce_callBK (fun K => rLenO (He.ga K cc) (spM K g) E0) (WD.lenO_of F hm hr) calls_lenO hg hz PySem.boot_len ha (by decide) (by decide) he hpl hK
def dTruth (x : D) : M Bool := fun S => match x with
  | .non => .ok false S
  | .int i => .ok (i != 0) S
  | .bl b => .ok b S
  | _ => wQ x (fun ds => ret (!ds.isEmpty)) S
def tTruth (a : Env → M D) (e : Env) : M Bool := bind (a e) dTruth
theorem ct_truth (ha : CE X C a ta ma) (he : ∀ whole, isTrue a X.env whole = (do let v ← whole; standAt a.pos; holding [v] (truthy v)) := by intro _; rfl) : CT X C a (fun σ H Q => ta σ H fun x H' => ∃ k, TruV C.K x H' k ∧ Q k H') (tTruth ma) := ⟨ha.hK, fun y => by rw [← ha.hK]; exact pt_truth (ha.pe y) he, fun e σ w S H Q E R h => by
  have h := sat_then.mp h
  refine ha.sn e σ w S H _ E R (h.imp (fun d S1 h1 w1 H1 v l1 R1 r1 => ?_) (fun x s hx => hx))
  have seq : ∀ v, VR C.K w1 v d → (wQ d (fun ds => ret (!ds.isEmpty)) S1).sat (PB C.K w Q) (PX C w σ) → (∃ p, v = V.ref p) → ∃ k, TruV C.K v H1 k ∧ Q k H1 := fun v r1 h1 hr => by
    obtain ⟨ds, z, h1⟩ := wQ_sat h1
    obtain ⟨p, xs, rfl, e2, e3⟩ := rdQ_ok R1 r1 z
    have hl : xs.isEmpty = ds.isEmpty := by
      cases e3 <;> rfl
    rcases e2 with e2 | e2
    · exact ⟨_, .inl ⟨xs, e2, rfl⟩, by rw [hl]; exact h1 w1 H1 l1 R1⟩
    · exact ⟨_, .inr (.inl ⟨xs, e2, rfl⟩), by rw [hl]; exact h1 w1 H1 l1 R1⟩
  cases r1 with
  | non => exact ⟨false, rfl, h1 w1 H1 l1 R1⟩
  | int i => exact ⟨i != 0, rfl, h1 w1 H1 l1 R1⟩
  | bl b => exact ⟨b, rfl, h1 w1 H1 l1 R1⟩
  | str b => exact h1.elim
  | obj s as => exact h1.elim
  | tup s as => exact seq _ (.tup s as) h1 ⟨_, rfl⟩
  | lst s as => exact seq _ (.lst s as) h1 ⟨_, rfl⟩
  | scr s => exact seq _ (.scr s) h1 ⟨_, rfl⟩
  | ptr s => exact seq _ (.ptr s) h1 ⟨_, rfl⟩⟩
end
end PM
end
section
set_option Elab.async false
set_option linter.all false
set_option maxRecDepth 100000
namespace PM
open PySem L2 Evl
theorem u65 {k : Nat} {A : Around} (r : Room k A) : A.units + 65 < cLine := by
  have := r.un
  omega
def sameC (c c' : Str) : Bool := decide (c = c')
/-- facts about own classes, from tests -/
theorem kt_by {K : PySem.W.Frag} {own : List Str} (h1 : ∀ c ∈ own, WD.OwnTy K c) (h2 : ∀ c ∈ own, ∀ n ∈ bts, PySem.W.kitOne K (.ref (He.ga K c)) (.type n) = some false) (h3 : ∀ c ∈ own, ∀ s ∈ bks, PySem.W.kitOne K (.type s) (.ref (He.ga K c)) = some false)
    (h4 : ∀ c ∈ own, ∀ c' ∈ own, PySem.W.kitOne K (.ref (He.ga K c)) (.ref (He.ga K c')) = some (sameC c c')) : KT K own sameC := ⟨h1, h2, h3, h4⟩
def ktB (K : PySem.W.Frag) (own : List Str) : Bool := own.all fun c => (bts.all fun n => decide (PySem.W.kitOne K (.ref (He.ga K c)) (.type n) = some false)) && (bks.all fun s => decide (PySem.W.kitOne K (.type s) (.ref (He.ga K c)) = some false)) && own.all fun c' => decide (PySem.W.kitOne K (.ref (He.ga K c)) (.ref (He.ga K c')) = some (sameC c c'))
theorem kt_ofB {K : PySem.W.Frag} {own : List Str} (h1 : ∀ c ∈ own, WD.OwnTy K c) (h : ktB K own = true) : KT K own sameC := by
  have h := List.all_eq_true.mp h
  refine kt_by h1 (fun c hc n hn => ?_) (fun c hc s hs => ?_) fun c hc c' hc' => ?_
  · have := (Bool.and_eq_true_iff.mp (Bool.and_eq_true_iff.mp (h c hc)).1).1
    exact of_decide_eq_true (List.all_eq_true.mp this n hn)
  · have := (Bool.and_eq_true_iff.mp (Bool.and_eq_true_iff.mp (h c hc)).1).2
    exact of_decide_eq_true (List.all_eq_true.mp this s hs)
  · exact of_decide_eq_true (List.all_eq_true.mp (Bool.and_eq_true_iff.mp (h c hc)).2 c' hc')
def xtB (K : PySem.W.Frag) (excs : List Str) (below : Str → Str → Bool) : Bool := excs.all fun c => excs.all fun c' => decide (PySem.W.exmOne K (.ref (He.ga K c)) (.ref (He.ga K c')) = some (below c c'))
theorem xt_ofB {K : PySem.W.Frag} {excs : List Str} {below : Str → Str → Bool} (h : xtB K excs below = true) : XT K excs below := ⟨fun c hc c' hc' => of_decide_eq_true (List.all_eq_true.mp (List.all_eq_true.mp h c hc) c' hc')⟩
def lawSp (K : PySem.W.Frag) : Sp := fun vs H Q _ => ∃ (a : Addr) (ns : List Int), vs = [.ref a] ∧ ns.length ≤ 63 ∧ Rd H a (.lst (ns.map V.int)) ∧ ∀ H', Q (.bl true) H'
section
open PySem.Spec PyProof.Rows
variable {P : Program} {w : World} {K : PySem.W.Frag} {mg : Str → Option Value} {base : Heap}
theorem law_fn {x qual : Str} {st : Stmt} {f : Addr} {N ps : List Str} {k : Nat} {m : Stm} {fd : FuncData} (F : FunD K x qual (defArgs st) (defBody st) (defScope st) [] [] f fd) (S : FnScope N ps (defScope st)) (hl : ps.length ≤ N.length) (h1 : ps.length = 1)
    (body : ∀ (cdv : Value) (A : Around) (outer : List PySem.Env) (s : Shared) (H : Hp) (E : XK), Room k (A.deeper (envOfC qual (defScope st) s.heap.objs.size f cdv)) → ∃ ts, CSs (cxOf (L2.CX P w) P w K mg base N qual (defScope st) f cdv A outer s H E) ⟨⟨K, w⟩, fun c d _ H => E c d H, (0, .none, none)⟩ (defBody st) ts m)
    (law : ∀ ns : List Int, ns.length ≤ 63 → ∃ S', runFn ps.length N.length m [.scr ns] [] = .ok (.bl true) S') : FnOk P w K mg base (L2.CX P w) (k + 1) f fd ps (lawSp K) :=
  F.ok S (fun vs H Q E h => by
    obtain ⟨a, ns, rfl, _⟩ := h
    exact h1.symm) fun cdv A outer s H vs Q E hr h => by
    obtain ⟨ts, hc⟩ := body cdv A outer s H E hr
    obtain ⟨a, ns, rfl, nl, hs, q⟩ := h
    obtain ⟨S', e⟩ := law ns nl
    refine fn_run hl hc ⟨takes_of rfl rfl rfl rfl, passes_of rfl⟩ ⟨⟨H, [], fun _ => none⟩, [.scr ns], [], ⟨Ex.refl _, rfl, List.nodup_nil, fun a ha => (List.not_mem_nil ha).elim, fun n a c h1 _ _ => (by simp at h1), fun a o h => by cases h⟩, .one (.scr hs), ?_⟩
    rw [e]
    intro w' H' v _ _ r
    cases r
    exact q H'
end
end PM
end
section
set_option Elab.async false
set_option linter.all false
set_option maxRecDepth 100000
set_option maxHeartbeats 4000000
namespace PM
open PySem PySem.Spec PyProof.Rows L2 Evl
end PM
end
section
set_option Elab.async false
set_option linter.all false
set_option maxRecDepth 100000
set_option maxHeartbeats 4000000
namespace L2
open PySem PySem.Spec PyProof.Rows
end L2
namespace PM
open PySem PySem.Spec PyProof.Rows L2 Evl
end PM
namespace L2
open PySem PySem.Spec PyProof.Rows
/-- what clauses wish of an exception, one behind the other; with a slot: a clause with a name -/
def wMix (K : PySem.W.Frag) (Wout : WX) (D : Ends) : List (Value × Option Nat × (Addr → Value → Option Addr → TS)) → WX
  | [] => Wout
  | (c, none, ts) :: r => wOnly K c ts (wMix K Wout D r) D
  | (c, some i, ts) :: r => wAs K c i ts (wMix K Wout D r) D
/-- a suite, whatever it holds -/
def SuiteP (X : Cx) (su : List Stmt) (ts : Addr → Value → Option Addr → TS) : Prop := ∀ (a : Addr) (oe : Obj) (cls : Value) (d : Option Addr) (pn : List (Addr × Obj)), Zc cls d oe → (∃ vs, oe.data = .fields vs) → PSs (X.suite a ((a, oe) :: pn)) su (ts a cls d)
inductive HdsM (X : Cx) : List ExceptHandler → List (Value × Option Nat × (Addr → Value → Option Addr → TS)) → Prop
  | nil : HdsM X [] []
  | only {x : Str} {c : Value} {ts : Addr → Value → Option Addr → TS} {b₀ : Stmt} {suite : List Stmt} {np pos' : Pos} {hds : List ExceptHandler} {l : List (Value × Option Nat × (Addr → Value → Option Addr → TS))} (hc : Names X x c) (hsu : SuiteP X (b₀ :: suite) ts) (r : HdsM X hds l) :
      HdsM X (.ExceptHandler (some (.Name x np)) none (b₀ :: suite) pos' :: hds) ((c, none, ts) :: l)
  | named {x n : Str} {i : Nat} {c : Value} {ts : Addr → Value → Option Addr → TS} {b₀ : Stmt} {suite : List Stmt} {np pos' : Pos} {hds : List ExceptHandler} {l : List (Value × Option Nat × (Addr → Value → Option Addr → TS))} (hN : X.N.Nodup) (hi : X.N[i]? = some n) (hln : X.env.kindOf n = some .local) (hc : Names X x c) (hsu : SuiteP X (b₀ :: suite) ts) (r : HdsM X hds l) :
      HdsM X (.ExceptHandler (some (.Name x np)) (some n) (b₀ :: suite) pos' :: hds) ((c, some i, ts) :: l)
section
variable {X : Cx} {body : List Stmt} {h₀ : ExceptHandler} {hds : List ExceptHandler} {l : List (Value × Option Nat × (Addr → Value → Option Addr → TS))} {pos : Pos} {tb : WX → TS} {Wout : WX}
theorem SP.untry {pn : List (Addr × Obj)} {xe : Value → Shared → Prop} {D : Ends} {f : Flow} {s : Shared} (ok : ∀ {σ H}, Inv (X.tr pn xe) [] σ H s → Inv X pins σ H s) (h : SP (X.tr pn xe) [] D f s) : SP X pins D f s := by
  cases f with
  | next => obtain ⟨σ', H', J', q⟩ := h; exact ⟨σ', H', ok J', q⟩
  | brk => obtain ⟨σ', H', J', q⟩ := h; exact ⟨σ', H', ok J', q⟩
  | cont => obtain ⟨σ', H', J', q⟩ := h; exact ⟨σ', H', ok J', q⟩
  | ret u => obtain ⟨v, σ', H', J', r, q⟩ := h; exact ⟨v, σ', H', ok J', r, q⟩
theorem SP.unsuite {pn : List (Addr × Obj)} {a : Addr} {D : Ends} {f : Flow} {s : Shared} (ok : ∀ {σ H}, Inv (X.suite a pn) [] σ H s → Inv X pins σ H s) (h : SP (X.suite a pn) [] D f s) : SP X pins D f s := by
  cases f with
  | next => obtain ⟨σ', H', J', q⟩ := h; exact ⟨σ', H', ok J', q⟩
  | brk => obtain ⟨σ', H', J', q⟩ := h; exact ⟨σ', H', ok J', q⟩
  | cont => obtain ⟨σ', H', J', q⟩ := h; exact ⟨σ', H', ok J', q⟩
  | ret u => obtain ⟨v, σ', H', J', r, q⟩ := h; exact ⟨v, σ', H', ok J', r, q⟩
theorem ps_try_mix (hs : X.stack = X.env :: X.outer) (hf : X.env.frame = some X.env.locals) (tk : Takes X Wout)
    (hb : ∀ (W : WX) (pn : List (Addr × Obj)) (xe : Value → Shared → Prop), Takes (X.tr pn xe) W → PassesOwn (model X.prog X.w) X.A X.env xe → PSs (X.tr pn xe) body (tb W))
    (hh : HdsM X (h₀ :: hds) l) : PS X (.Try body (h₀ :: hds) [] [] pos) (fun D σ H => tb (wMix X.K Wout D l) D σ H) := by
  refine ⟨fun pins s σ H D I h => ?_⟩
  have ok := I.ok
  have hfr : X.A.frames = some (X.env :: X.outer) := by rw [ok.frames, hs]
  refine wpAny_Try_except (wpAny_mono ((hb (wMix X.K Wout D l) (X.pn ++ pins) (fun e s₁ => wpAny (model X.prog X.w) X.A (noteFrame e X.env) (fun _ s₂ => wpAny (model X.prog X.w) X.A (setFlight e none) (fun _ s₃ =>
    wpAny (model X.prog X.w) X.A (handleBy e X.env (h₀ :: hds)) (SP X pins D) X.xe s₃) X.xe s₂) X.xe s₁) (fun u s' xx => ?_) PassesOwn.looking).run [] s σ H D (I.toTry _) h) (fun f s1 hsp => ?_) (fun e s1 he => he))
  · obtain ⟨a, B, sI, _, σ', H', cls, d, rfl, J', nb, up, sky, na, os, ag, w⟩ := xx
    have J : Inv X pins σ' H' sI := J'.ofTry ok
    rw [show (X.tr (X.pn ++ pins) _).stack = X.env :: X.outer from hs] at sky
    refine Sky.land Zc.steady hfr hf sky fun h3 fl3 up3 => ?_
    have up' := up.trans up3
    have J3 : Inv X pins σ' H' { s' with heap := h3 } := J.landed nb fl3.1 up' os ag
    obtain ⟨oe3, vs3, he3, hz3, hd3⟩ := fl3.there
    have nfr : a ∉ frs (X.env :: X.outer) := fun hm => by
      obtain ⟨_, o', e', hnf⟩ := fl3.2.2.1.mem hm
      rw [he3] at e'; cases e'
      exact hnf _ hd3
    have nL : a ≠ X.env.locals := fun z => nfr (List.mem_filterMap.mpr ⟨X.env, List.mem_cons_self, by rw [hf, z]⟩)
    have nF : a ∉ X.fs := fun hm => by
      obtain ⟨e, he, q⟩ := List.mem_filterMap.mp hm
      exact nfr (List.mem_filterMap.mpr ⟨e, List.mem_cons_of_mem _ he, q⟩)
    have S3 := J3.suite he3 hd3 na nL nF
    have LT : PySem.W.Looks (model X.prog X.w) h3 (typeOf (.ref a)) cls := fun A Q E s k q => wpAny_typeOf_ref (k _ _ he3) (by rw [hz3.1]; exact q)
    have read : ∀ {x : Str} {c : Value} {np : Pos} {Q : Value → Shared → Prop} {E : Value → Shared → Prop}, Names X x c → Q c { s' with heap := h3 } → wpAny (model X.prog X.w) (X.A.mark (some (.ref a))) (eval (.Name x np) X.env) Q E { s' with heap := h3 } := fun hc q => by
      obtain ⟨hg, hdbg, hm | ⟨hm, hv, hnn⟩⟩ := hc
      · exact ld_glob (X := X.suite a ((a, oe3) :: (X.pn ++ pins))) S3 hg hm q hdbg
      · exact ld_blt (X := X.suite a ((a, oe3) :: (X.pn ++ pins))) S3 hg hm hv q hnn hdbg
    have go : ∀ {hds' : List ExceptHandler} {l' : List (Value × Option Nat × (Addr → Value → Option Addr → TS))}, HdsM X hds' l' → wMix X.K Wout D l' cls d σ' H' →
        wpAny (model X.prog X.w) X.A (handleBy (.ref a) X.env hds') (SP X pins D) X.xe { s' with heap := h3 } := by
      intro hds' l' hk
      induction hk with
      | nil =>
        intro w
        refine wpAny_handleBy_nil ?_
        obtain ⟨k1, k2, k3, oe, vs, T, oT, ts', he, hz, hd, h1, hr⟩ := id fl3
        unfold PySem.passOn
        refine wpAny_bind (wpAny_field he hd h1 ?_)
        rw [if_neg (show ¬ ((Value.ref T == Value.none) = true) from by simp)]
        have fin : wpAny (model X.prog X.w) X.A (setFlight (.ref a) X.env.frame) (fun _ s4 => wpAny (model X.prog X.w) X.A (throw (.ref a) : Sem Flow) (SP X pins D) X.xe s4) X.xe { s' with heap := h3 } := by
          rw [hf]
          refine HandSPX.setFlight_upZ fl3 fun h4 hh4 up4 => wpAny_throw (tk _ _ ?_)
          exact ⟨a, B, sI, pins, σ', H', cls, d, rfl, J, nb, up'.trans up4, .inr (.inr (by rw [hs]; exact hh4)), na, os, ag, w⟩
        first
          | exact wpAny_bind (wpAny_pure (wpAny_bind fin))
          | exact wpAny_bind fin
      | only hc hsu r ih =>
        rintro ⟨b, hb1, hyes, hno⟩
        refine wpAny_handleBy_cons (codeAny_handlers_test ?_) (by intro q; cases q)
        refine read hc ((PySem.W.exm_one (M := model X.prog X.w) (J3.kIn) LT hb1).here ?_)
        cases b with
        | true =>
          refine codeAny_handlers_suite ?_
          refine HandSPX.lands_againZ fl3 fun h4 fl4 up4 => ?_
          have J4 : Inv X pins σ' H' { s' with heap := h4 } := J.landed nb fl4.1 (up'.trans up4) os ag
          obtain ⟨oe4, vs4, he4, hz4, hd4⟩ := fl4.there
          exact wpAny_mono ((hsu a oe4 cls d (X.pn ++ pins) hz4 ⟨_, hd4⟩).run [] _ _ H' _ (J4.suite he4 hd4 na nL nF) (hyes rfl a na)) (fun f s6 hsp => hsp.unsuite fun S6 => S6.unsuite ok) (fun _ _ z => False.elim z)
        | false => exact ih (hno rfl)
      | named hN hi hln hc hsu r ih =>
        rintro ⟨b, hb1, hyes, hno⟩
        refine wpAny_handleBy_cons (codeAny_handlers_test ?_) (by intro q; cases q)
        refine read hc ((PySem.W.exm_one (M := model X.prog X.w) (J3.kIn) LT hb1).here ?_)
        cases b with
        | true =>
          refine codeAny_handlers_suite_as ?_
          refine HandSPX.lands_againZ fl3 fun h4 fl4 up4 => ?_
          have J4 : Inv X pins σ' H' { s' with heap := h4 } := J.landed nb fl4.1 (up'.trans up4) os ag
          obtain ⟨oe4, vs4, he4, hz4, hd4⟩ := fl4.there
          refine store_ok (X := X.suite a ((a, oe4) :: (X.pn ++ pins))) (v := .ref a) (J4.suite he4 hd4 na nL nF) hN hi (.inl hln) rfl (fun s5 S5 => ?_) (.inr hln)
          refine wpAny_mono ((hsu a oe4 cls d (X.pn ++ pins) hz4 ⟨_, hd4⟩).run [] s5 _ H' _ S5 (hyes rfl a na)) (fun f s6 hsp => ?_) (fun _ _ z => False.elim z)
          have z := SP.unsuite (pins := pins) (fun S6 => S6.unsuite ok) hsp
          cases f with
          | next => obtain ⟨σ6, H6, S6, q6⟩ := z; exact gone_ok S6 hN hi hln fun s7 J7 => ⟨_, _, J7, q6⟩
          | brk => obtain ⟨σ6, H6, S6, q6⟩ := z; exact gone_ok S6 hN hi hln fun s7 J7 => ⟨_, _, J7, q6⟩
          | cont => obtain ⟨σ6, H6, S6, q6⟩ := z; exact gone_ok S6 hN hi hln fun s7 J7 => ⟨_, _, J7, q6⟩
          | ret u => obtain ⟨v6, σ6, H6, S6, r6, q6⟩ := z; exact gone_ok S6 hN hi hln fun s7 J7 => ⟨_, _, _, J7, r6, q6⟩
        | false => exact ih (hno rfl)
    exact go hh w
  · cases f with
    | next => exact wpAny_execs_nil (hsp.untry fun J => J.ofTry ok)
    | brk => exact hsp.untry fun J => J.ofTry ok
    | cont => exact hsp.untry fun J => J.ofTry ok
    | ret u => exact hsp.untry fun J => J.ofTry ok
end
end L2
namespace PM
open PySem PySem.Spec PyProof.Rows L2 Evl
section
variable {X : Cx} {C : Ct} {pos : Pos}
abbrev Sus : Type := Addr → Value → Option Addr → TS
structure SuiteC (X : Cx) (C : Ct) (su : List Stmt) (ts : Sus) (m : Stm) : Prop where
  pp : ∀ (a : Addr) (oe : Obj) (cl : Value) (d : Option Addr) (pn : List (Addr × Obj)), Zc cl d oe → (∃ vs, oe.data = .fields vs) → CSs (X.suite a ((a, oe) :: pn)) ⟨C.K, fun _ _ _ _ => False, (a, cl, d)⟩ su (ts a cl d) m
inductive HdsP (X : Cx) (C : Ct) : List ExceptHandler → List (Str × Option Nat × Sus × Stm) → Prop
  | nil : HdsP X C [] []
  | only {x cls : Str} {ts : Sus} {b₀ : Stmt} {suite : List Stmt} {np pos' : Pos} {m : Stm} {hds : List ExceptHandler} {l : List (Str × Option Nat × Sus × Stm)} (hc : Names X x (.ref (He.ga C.K cls))) (hsu : SuiteC X C (b₀ :: suite) ts m)
      (r : HdsP X C hds l) : HdsP X C (.ExceptHandler (some (.Name x np)) none (b₀ :: suite) pos' :: hds) ((cls, none, ts, m) :: l)
  | named {x n cls : Str} {i : Nat} {ts : Sus} {b₀ : Stmt} {suite : List Stmt} {np pos' : Pos} {m : Stm} {hds : List ExceptHandler} {l : List (Str × Option Nat × Sus × Stm)} (hN : X.N.Nodup) (hi : X.N[i]? = some n) (hln : X.env.kindOf n = some .local) (hc : Names X x (.ref (He.ga C.K cls))) (hsu : SuiteC X C (b₀ :: suite) ts m)
      (r : HdsP X C hds l) : HdsP X C (.ExceptHandler (some (.Name x np)) (some n) (b₀ :: suite) pos' :: hds) ((cls, some i, ts, m) :: l)
abbrev lMany (K : Kw) (l : List (Str × Option Nat × Sus × Stm)) : List (Value × Option Nat × Sus) := l.map fun z => (.ref (He.ga K z.1), z.2.1, z.2.2.1)
abbrev hMany (l : List (Str × Option Nat × Sus × Stm)) : List Hd := l.map fun z => ⟨z.1, z.2.1, z.2.2.2⟩
theorem SuiteC.p {su : List Stmt} {ts : Sus} {m : Stm} (h : SuiteC X C su ts m) : SuiteP X su ts := fun a oe cls d pn hz hd => (h.pp a oe cls d pn hz hd).ps ⟨takes0, PassesOwn.never⟩
theorem HdsP.ok {hds : List ExceptHandler} {l : List (Str × Option Nat × Sus × Stm)} (h : HdsP X C hds l) : HdsM X hds (lMany C.K l) := by
  induction h with
  | nil => exact .nil
  | only hc hsu r ih => exact .only hc hsu.p ih
  | named hN hi hln hc hsu r ih => exact .named hN hi hln hc hsu.p ih
theorem handle_many {excs : List Str} {below : Str → Str → Bool} (T : XT C.K excs below) {hds : List ExceptHandler} {l : List (Str × Option Nat × Sus × Stm)} (h : HdsP X C hds l) {En : Ends} {x : Er} {e : Env} {S : Sto} {w0 w : Wd} {H : Hp} {σ : L2.St} {cc : Value} {dd : Option Addr} (l0 : w0.le w) (E : EnvR C w σ e) (R : Rel C.K w S H) (xr : ErR C.K w x cc dd)
    (q : (runHds excs below x e S (hMany l)).sat (PN C w0 En.nx) (PV C.K w0 En.rt) (PN C w0 En.bk) (PN C w0 En.ct) (PXS C w0)) : wMix C.K C.W En (lMany C.K l) cc dd σ H := by
  induction h with
  | nil => exact q w H σ cc dd l0 R E xr
  | @only _ cls _ _ _ _ _ m _ _ hc hsu r ih => exact handle_only (h := ⟨cls, none, m⟩) T rfl (suiteS hsu.pp) l0 E R xr q ih
  | @named _ _ cls i _ _ _ _ _ m _ _ hN hi hln hc hsu r ih => exact handle_as (h := ⟨cls, some i, m⟩) T rfl (suiteS hsu.pp) l0 E R xr q ih
theorem cs_try_many {excs : List Str} {below : Str → Str → Bool} (T : XT C.K excs below) {body : List Stmt} {h₀ : ExceptHandler} {hds : List ExceptHandler} {tb : WX → TS} {mb : Stm} {l : List (Str × Option Nat × Sus × Stm)} (hs : X.stack = X.env :: X.outer) (hf : X.env.frame = some X.env.locals)
    (hb : ∀ (W : WX) (pn : List (Addr × Obj)) (xe : Value → Shared → Prop), CSs (X.tr pn xe) (C.wish W) body (tb W) mb)
    (hh : HdsP X C (h₀ :: hds) l) (hK : X.kw = C.K := by rfl) :
    CS X C (.Try body (h₀ :: hds) [] [] pos) (fun D σ H => tb (wMix C.K C.W D (lMany C.K l)) D σ H) (sTry excs below mb (hMany l)) :=
  ⟨fun y => by
    have hok := hh.ok
    rw [← hK] at hok ⊢
    exact ps_try_mix hs hf y.tk (fun W pn xe t p => (hb W pn xe).ps ⟨t, p⟩) hok, fun En e σ w S H E R q => by
    obtain ⟨q1, q2⟩ := try_split q
    refine SndS.body ((hb _ [] (fun _ _ => True)).sn) E R rfl (fun x2 e' S' h w' H' σ' c dd l r E' xr => ?_) q1
    exact handle_many T hh l E' r xr (q2 x2 e' S' h)⟩
end
end PM
end
section
set_option Elab.async false
set_option linter.all false
set_option maxRecDepth 100000
set_option maxHeartbeats 4000000
namespace PM
open PySem PySem.Spec PyProof.Rows L2 Evl
section
variable {X : Cx} {C : Ct} {pos : Pos}
theorem cs_try_manyE {excs : List Str} {below : Str → Str → Bool} (T : XT C.K excs below) {body : List Stmt} {h₀ : ExceptHandler} {hds : List ExceptHandler} {tb : WX → TS} {mb : Stm} {l : List (Str × Option Nat × Sus × Stm)} {hm : List Hd} (hs : X.stack = X.env :: X.outer) (hf : X.env.frame = some X.env.locals)
    (hb : ∀ (W : WX) (pn : List (Addr × Obj)) (xe : Value → Shared → Prop), CSs (X.tr pn xe) (C.wish W) body (tb W) mb)
    (hh : HdsP X C (h₀ :: hds) l) (he : hMany l = hm := by rfl) (hK : X.kw = C.K := by rfl) :
    CS X C (.Try body (h₀ :: hds) [] [] pos) (fun D σ H => tb (wMix C.K C.W D (lMany C.K l)) D σ H) (sTry excs below mb hm) := he ▸ cs_try_many T hs hf hb hh hK
end
end PM
end
section
set_option Elab.async false
set_option linter.all false
set_option maxRecDepth 100000
set_option maxHeartbeats 4000000
namespace ZM
open PySem PySem.Spec PyProof.Rows L2
/-- an iterator of a tuple or of a list -/
def KI (k : Bool) (h : Heap) (it l : Addr) (i : Nat) : Prop := match k with
  | true => h.IsTupleIter it l i
  | false => h.IsListIter it l i
def KS (k : Bool) (h : Heap) (l : Addr) (xs : Array Value) : Prop := match k with
  | true => h.IsTuple l xs
  | false => h.IsList l xs
theorem KI.at {k : Bool} {h h' : Heap} {it l : Addr} {i : Nat} (a : KI k h it l i) (e : ∀ o, h.get? it = some o → h'.get? it = some o) : KI k h' it l i := by
  cases k
  · exact Heap.IsListIter.at a e
  · exact Heap.IsTupleIter.at a e
theorem KS.at {k : Bool} {h h' : Heap} {l : Addr} {xs : Array Value} (a : KS k h l xs) (e : ∀ o, h.get? l = some o → h'.get? l = some o) : KS k h' l xs := by
  cases k
  · exact Heap.IsList.at a e
  · exact Heap.IsTuple.at a e
theorem KI.ext {k : Bool} {h h' : Heap} {it l b : Addr} {i : Nat} (a : KI k h it l i) (e : Heap.ExtBut b h h') (n : it ≠ b) : KI k h' it l i := by
  cases k
  · exact Heap.IsListIter.extBut a e n
  · exact Heap.IsTupleIter.extBut a e n
theorem KS.ext {k : Bool} {h h' : Heap} {l b : Addr} {xs : Array Value} (a : KS k h l xs) (e : Heap.ExtBut b h h') (n : l ≠ b) : KS k h' l xs := by
  cases k
  · exact Heap.IsList.extBut a e n
  · exact Heap.IsTuple.extBut a e n
theorem KI.obj {k : Bool} {h : Heap} {it l : Addr} {i : Nat} (a : KI k h it l i) : ∃ o, h.get? it = some o ∧ ∀ v, o.data ≠ .cell v := by
  cases k
  · obtain ⟨o, e, _, d⟩ := a
    exact ⟨o, e, fun v q => by rw [d] at q; cases q⟩
  · obtain ⟨o, e, _, d⟩ := a
    exact ⟨o, e, fun v q => by rw [d] at q; cases q⟩
/-- values of a kind -/
def SqK (K : PySem.W.Frag) (k : Bool) (H : Hp) (a : Addr) (xs : List V) : Prop := match k with
  | true => SqT K H a xs
  | false => SqL K H a xs
theorem SqK.inj {X : Cx} {pins : List (Addr × Obj)} {σ : L2.St} {H : Hp} {s : Shared} {k : Bool} {a : Addr} {xs ys : List V} (I : Inv X pins σ H s) (h : SqK X.K k H a xs) (g : SqK X.K k H a ys) : xs = ys := by
  cases k
  · exact I.list_inj h g
  · exact I.tuple_inj h g
end ZM
namespace PM
open PySem PySem.Spec PyProof.Rows L2 Evl
/-- zip of any two -/
def iZipA (a : Env → M (List D)) (e : Env) : M Itm := bind (a e) fun ds => match ds with
  | [x, y] => fun S => oM (itmOf S x) (fun i => oM (itmOf S y) (fun j => ret ⟨zipD i.ds j.ds, i.src ++ j.src⟩)) S
  | _ => stuck
end PM
end
section
set_option Elab.async false
set_option linter.all false
set_option maxRecDepth 100000
set_option maxHeartbeats 4000000
namespace HT
open PySem PySem.Spec PyProof.Rows
section
variable {prog : Program} {w : World} {A : Around} {E : Value → Shared → Prop} {s : Shared}
theorem fm_congr {α β : Type} {f g : α → Option β} : ∀ {l : List α}, (∀ x ∈ l, f x = g x) → l.filterMap f = l.filterMap g
  | [], _ => rfl
  | a :: l, h => by
    rw [List.filterMap_cons, List.filterMap_cons, h a (List.mem_cons_self ..), fm_congr fun x hx => h x (List.mem_cons_of_mem _ hx)]
end
end HT
namespace L2
open PySem PySem.Spec PyProof.Rows
end L2
end
section
set_option Elab.async false
set_option linter.all false
set_option maxRecDepth 100000
set_option maxHeartbeats 4000000
namespace L2
open PySem PySem.Spec PyProof.Rows
def pickL {α : Type} (xs : List α) (lo hi : Option Int) : List α := (sliceRange (sliceBounds lo hi (some (-1)) xs.length).1 (sliceBounds lo hi (some (-1)) xs.length).2.1 (-1)).filterMap fun i => xs[i]?
theorem pick_of (its : List Value) (lo hi : Option Int) : slicePick its.toArray lo hi (some (-1)) = (pickL its lo hi).toArray := by
  unfold slicePick pickL
  rw [List.size_toArray]
  refine congrArg List.toArray ?_
  show ((sliceRange _ _ (-1)).filterMap _) = _
  refine HT.fm_congr fun i _ => ?_
  rw [List.getElem?_toArray]
theorem vals_get {xs : List V} {us : List Value} (r : Vals xs us) : ∀ i : Nat, (xs[i]? = none ∧ us[i]? = none) ∨ ∃ x u, xs[i]? = some x ∧ us[i]? = some u ∧ RelV x u := by
  induction r with
  | nil => exact fun i => .inl ⟨rfl, rfl⟩
  | @cons x u xs us h t ih =>
    intro i
    cases i with
    | zero => exact .inr ⟨x, u, rfl, rfl, h⟩
    | succ i => exact ih i
theorem vals_pick {xs : List V} {us : List Value} (r : Vals xs us) (lo hi : Option Int) : Vals (pickL xs lo hi) (pickL us lo hi) := by
  unfold pickL
  rw [r.length]
  generalize sliceRange _ _ _ = L
  induction L with
  | nil => exact .nil
  | cons i L ih =>
    rcases vals_get r i with ⟨h1, h2⟩ | ⟨x, u, h1, h2, h⟩
    · rw [List.filterMap_cons, List.filterMap_cons, h1, h2]
      exact ih
    · rw [List.filterMap_cons, List.filterMap_cons, h1, h2]
      exact .cons h ih
theorem pickL_len {α : Type} (xs : List α) (lo hi : Option Int) : (pickL xs lo hi).length ≤ xs.length := by
  have h := slicePick_size_le (xs.map fun _ => Value.none).toArray lo hi (some (-1))
  rw [pick_of, List.size_toArray, List.size_toArray, List.length_map] at h
  refine Nat.le_trans (Nat.le_of_eq ?_) h
  unfold pickL
  rw [List.length_map]
  generalize sliceRange _ _ _ = L
  induction L with
  | nil => rfl
  | cons i L ih =>
    rw [List.filterMap_cons, List.filterMap_cons, List.getElem?_map]
    cases xs[i]? with
    | none => exact ih
    | some x => exact congrArg Nat.succ ih
section
variable {X : Cx}
def tSlB (K : PySem.W.Frag) (te : TE) (tl th : TO) : TE := fun σ H Q => te σ H fun x H1 => tl σ H1 fun lo H2 => th σ H2 fun hi H3 => ∃ a xs, x = .ref a ∧ SqL K H3 a xs ∧ ∀ p, H3 p = none → Q (.ref p) (upd H3 p (.lst (pickL xs lo hi)))
theorem pe_slB {e : Expr} {te : TE} {lo hi : Option Expr} {tl th : TO} {k : Nat} {p1 p2 p3 pos : Pos} (he : PE X e te) (hl : PO X lo tl) (hh : PO X hi th) : PE X (.Subscript e (.Slice lo hi (some (.UnaryOp .USub (.Constant (.int 1) k p1) p2)) p3) pos) (tSlB X.K te tl th) := by
  refine ⟨fun pins s σ H Q I h => ?_⟩
  refine Subscript_ (thn (he.run pins s σ H _ I h) fun v s1 ⟨x, H1, I1, r1, q1⟩ => ?_)
  have hst : PO X (some (.UnaryOp .USub (.Constant (.int 1) k p1) p2)) (tPart (tUn (rU fun i => .int (-i)) (tC (.int 1)))) := po_some (pe_un un_neg pe_int)
  refine wpAny_Slice (thn (hl.run pins s1 σ H1 _ I1 q1) fun vl s2 ⟨l, H2, I2, pl, q2⟩ => ?_)
  refine thn (hh.run pins s2 σ H2 _ I2 q2) fun vu s3 ⟨u, H3, I3, pu, q3⟩ => ?_
  obtain ⟨a, xs, ex, hx, q⟩ := q3
  subst ex
  cases r1
  refine thn (hst.run pins s3 σ H3 (fun o H4 => o = some (-1) ∧ H4 = H3) I3 ⟨1, rfl, -1, rfl, rfl, rfl⟩) fun vs s4 ⟨o, H4, I4, ps, eo, e4⟩ => ?_
  subst eo e4
  have I5 : Inv X pins σ H4 { s4 with heap := s4.heap.push { cls := .type "slice", data := .fields #[vl, vu, vs] } } := I4.kept (t' := s4.toks) fun b ob q => Heap.get?_push_of_some _ q
  obtain ⟨its, r, ht, hz⟩ := I5.list hx
  have hlen := r.length
  refine tail_any (ops := [.ref a, .ref s4.heap.objs.size]) ht.isList.typeIs (PySem.slot_list_getitem.lookup) ?_ (by with_unfolding_all rfl)
  refine wpAny_getItem_list_slice ht.isList (Heap.IsSliceOf.new _ vl vu vs) pl pu ps (by decide) ?_ (by rw [List.size_toArray]; omega)
  rw [pick_of]
  refine ⟨.ref _, _, I5.laid (t' := s4.toks) (o := .lst (pickL xs l u)) (fun b ob q => Heap.get?_push_of_some _ q) (Nat.le_refl _) ?_, rfl, q _ (I5.hok.fresh (Nat.le_refl _))⟩
  exact ⟨Nat.le_trans (pickL_len xs l u) hz, _, 0, vals_pick r l u, Heap.get?_push_size _ rfl⟩
end
end L2
namespace PM
open PySem PySem.Spec PyProof.Rows L2 Evl
section
variable {X : Cx} {C : Ct} {ta tb tc te : TE} {a b c tg : Expr} {ma mb mc : Env → M D} {pos : Pos}
theorem ce_tupG {x : Str} {p : Pos} {d : Addr} {vs : List V} {ds : List D} (hb : WD.tupA C.K d vs = true) (hr : ∀ w, VRs C.K w vs ds) (hg : Gl X x) (hm : X.mg x = some (.ref d)) (hd : (x == ("__debug__" : Str)) = false := by decide) (hK : X.kw = C.K := by rfl) :
    CE X C (.Name x p) (tC (.ref d)) (eC (.tup ds)) := ⟨hK, fun y => WD.pe_clsN hg hm hd, fun e σ w S H Q E R h => h w H _ (Wd.le.refl w) R (.tup (WD.tupA_ok hb _) (hr w))⟩
theorem vrs_get {K : Kw} {w : Wd} : ∀ {xs : List V} {ds : List D}, VRs K w xs ds → ∀ i : Nat, (xs[i]? = none ∧ ds[i]? = none) ∨ ∃ x d, xs[i]? = some x ∧ ds[i]? = some d ∧ VR K w x d
  | _, _, .nil, i => .inl ⟨rfl, rfl⟩
  | _, _, .cons h t, i => by
    cases i with
    | zero => exact .inr ⟨_, _, rfl, rfl, h⟩
    | succ i => exact vrs_get t i
theorem vrs_pick {K : Kw} {w : Wd} {xs : List V} {ds : List D} (r : VRs K w xs ds) (lo hi : Option Int) : VRs K w (pickL xs lo hi) (pickL ds lo hi) := by
  unfold pickL
  rw [r.len]
  generalize sliceRange _ _ _ = L
  induction L with
  | nil => exact .nil
  | cons i L ih =>
    rcases vrs_get r i with ⟨h1, h2⟩ | ⟨x, u, h1, h2, h⟩
    · rw [List.filterMap_cons, List.filterMap_cons, h1, h2]
      exact ih
    · rw [List.filterMap_cons, List.filterMap_cons, h1, h2]
      exact .cons h ih
def eSlB (a : Env → M D) (lo hi : Env → M (Option Int)) (e : Env) : M D := bind (a e) fun x => bind (lo e) fun l => bind (hi e) fun h => wL x fun ds => ret (.lst (pickL ds l h))
theorem ce_slB {k : Nat} {p1 p2 p3 : Pos} {lo hi : Option Expr} {tl th : TO} {ml mh : Env → M (Option Int)} (ha : CE X C a ta ma) (hl : COp X C lo tl ml) (hh : COp X C hi th mh) : CE X C (.Subscript a (.Slice lo hi (some (.UnaryOp .USub (.Constant (.int 1) k p1) p2)) p3) pos) (tSlB C.K ta tl th) (eSlB ma ml mh) := ⟨ha.hK, fun y => by rw [← ha.hK]; exact pe_slB (ha.pe y) (hl.po y) (hh.po y), fun e σ w S H Q E R h => by
  have h := sat_then.mp h
  refine ha.sn e σ w S H _ E R (h.imp (fun d1 S1 h1 w1 H1 v1 l1 R1 r1 => ?_) (fun x s hx => hx))
  have h1 := sat_then.mp h1
  refine hl.sn e σ w1 S1 H1 _ (E.up l1) R1 (h1.imp (fun lo S2 h2 w2 H2 l2 R2 => ?_) (fun x s hx => hx.up l1))
  have h2 := sat_then.mp h2
  refine hh.sn e σ w2 S2 H2 _ (E.up (l1.trans l2)) R2 (h2.imp (fun hi S3 h3 w3 H3 l3 R3 => ?_) (fun x s hx => hx.up (l1.trans l2)))
  have l13 := (l1.trans l2).trans l3
  have r3 := r1.up (l2.trans l3)
  obtain ⟨ds, z, h3⟩ := wL_sat h3
  obtain ⟨p, xs, rfl, e2, e3, _⟩ := rdL_ok R3 r3 z
  refine ⟨p, xs, rfl, e2, fun q hq => ?_⟩
  obtain ⟨le, R'⟩ := R3.plus (o := .lst (pickL xs lo hi)) hq
  exact h3 _ _ _ (l13.trans le) R' (.lst upd_same ((vrs_pick e3 lo hi).up le))⟩
instance (i j c : Int) (n : Nat) : Decidable (RgC i j c n) := by
  unfold RgC
  infer_instance
end
end PM
namespace SupX
open PySem PySem.W PySem.Calls PyProof.Rows PySem.HandSPX L2
abbrev AlX : Type := AlS × List (Option (List (Option (Str × Int))))
def obsX (fa : List He.Fa) (fn : List He.DefD) (xs : List XcD) (file : Str) (ex : Frag → Bool) (ts : List He.Tab) (K : Frag) : AlX := (obsS fa fn xs file ex K, ts.map fun t => He.dicW K (t.1 K))
def valX (fn : List He.DefD) (xs : List XcD) (ts : List He.Tab) (w : World) : AlX := (valS fn xs, ts.map fun t => some (He.keysIn w.params t.2))
def SaysX (fa : List He.Fa) (fn : List He.DefD) (xs : List XcD) (file : Str) (ex : Frag → Bool) (ts : List He.Tab) (w : World) (K : Frag) : Prop := obsX fa fn xs file ex ts K = valX fn xs ts w
section
variable {fa : List He.Fa} {fn : List He.DefD} {xs : List XcD} {file : Str} {ex : Frag → Bool} {ts : List He.Tab} {w : World} {K : Frag}
theorem SaysX.s (c : SaysX fa fn xs file ex ts w K) : SaysS fa fn xs file ex K := congrArg (fun z : AlX => z.1) c
end
end SupX
end
section
set_option Elab.async false
set_option linter.all false
set_option maxRecDepth 100000
namespace SupX
open PySem PySem.W PySem.Calls PyProof.Rows PySem.HandSPX L2
def refsOf (g : Addr → Option Obj) (a : Addr) : List Addr := match g a with
  | some o => He.refsD o
  | none => []
def asF (g : Addr → Option Obj) : Nat → List Addr → List Addr
  | 0, l => l
  | n + 1, l => l ++ asF g n (l.flatMap (refsOf g))
def frF (g : Addr → Option Obj) (n : Nat) : Frag := He.frG g (asF g n [mainGlobals] ++ [cStatics])
def obsFG (n : Nat) (fa : List He.Fa) (fn : List He.DefD) (xs : List XcD) (file : Str) (ex : Frag → Bool) (ts : List He.Tab) (g : Addr → Option Obj) : AlX := obsX fa fn xs file ex ts (frF g n)
def hookF (n : Nat) (fa : List He.Fa) (fn : List He.DefD) (xs : List XcD) (file : Str) (ex : Frag → Bool) (ts : List He.Tab) : Hook where
  α := AlX
  obs := fun s => obsFG n fa fn xs file ex ts s.heap.get?
  val := fun w => valX fn xs ts w
  says := fun w h => ∃ K : Frag, K.In h ∧ SaysX fa fn xs file ex ts w K
  of := fun _ _ e => ⟨_, He.frG_in, e⟩
  keeps := fun _ _ _ ⟨K, hK, c⟩ k => ⟨K, Frag.In.keeps hK k, c⟩
theorem obsFG_eq {n : Nat} {fa : List He.Fa} {fn : List He.DefD} {xs : List XcD} {file : Str} {ex : Frag → Bool} {ts : List He.Tab} {g : Addr → Option Obj} {s : Shared} (h : ∀ a, g a = s.heap.get? a) : obsFG n fa fn xs file ex ts g = (hookF n fa fn xs file ex ts).obs s := by
  have e : g = s.heap.get? := funext h
  rw [e] <;> rfl
open HandSHeadRun (wholeF stepQ denQ tabQ fenceQ looksF seenQ getT)
theorem omap_two {α β γ : Type} {o : Option α} {f : α → β} {g : α → γ} {a : β} {b : γ} (h : o.map f = some a) (k : o.map g = some b) : ∃ x, o = some x ∧ f x = a ∧ g x = b := by
  cases o with
  | none => cases h
  | some x => exact ⟨x, rfl, Option.some.inj h, Option.some.inj k⟩
section
variable {P : Program} {M n : Nat} {fa : List He.Fa} {fn fn' : List He.DefD} {xs : List XcD} {file : Str} {ex : Frag → Bool} {ts : List He.Tab} {w : World}
/-- what is asked of every head -/
def LookEq (r : OpenRow) (q : Program) (M : Nat) (loose : List Str) (w : World) : Prop :=
  (wholeF (fun p => stepQ (denQ tabQ) p w) fenceQ M r.prog).map (fun x => (looksF r.prog x.1.heap x.2.abs, seenQ q loose (importedModules r.prog.main.body) (fun s => xlAt q [] s && recOk r.toRowW.records s) x.2.abs)) = some (true, openGood q loose)
abbrev AlP : Type := Bool × List FnC × List (Option (List (Option (Str × Int))))
/-- the facts, at a world -/
def FactEq (P : Program) (M n : Nat) (fa : List He.Fa) (xs : List XcD) (file : Str) (ex : Frag → Bool) (ts : List He.Tab) (w : World) : Prop :=
  (wholeF (fun p => stepQ (denQ tabQ) p w) fenceQ M P).map (fun x => (((fa.all fun f => f.ok (frF (getT x.2) n)) && (ex (frF (getT x.2) n) && xs.all (fun d => d.ok (frF (getT x.2) n) file)), xs.map (fun d => fnC (frF (getT x.2) n) (d.i (frF (getT x.2) n))), ts.map fun t => He.dicW (frF (getT x.2) n) (t.1 (frF (getT x.2) n))) : AlP)) = some (true, xs.map XcD.val, ts.map fun t => some (He.keysIn w.params t.2))
/-- the defs -/
def DefEq (P : Program) (M n : Nat) (fn : List He.DefD) (w : World) : Prop :=
  (wholeF (fun p => stepQ (denQ tabQ) p w) fenceQ M P).map (fun x => ((fn.all fun d => d.ok (frF (getT x.2) n), fn.map fun d => He.fnW (frF (getT x.2) n) d.at_) : He.AlD)) = some (true, fn.map He.DefD.val)
theorem DefEq.app (h1 : DefEq P M n fn w) (h2 : DefEq P M n fn' w) : DefEq P M n (fn ++ fn') w := by
  unfold DefEq at h1 h2 ⊢
  obtain ⟨x, e, q1, q2⟩ := omap_two h1 h2
  rw [e]
  obtain ⟨a1, a2⟩ := Prod.mk.inj q1
  obtain ⟨b1, b2⟩ := Prod.mk.inj q2
  refine congrArg some (Prod.ext ?_ ?_)
  · show ((fn ++ fn').all fun d => d.ok (frF (getT x.2) n)) = true
    rw [List.all_append, a1, b1]
    rfl
  · show ((fn ++ fn').map fun d => He.fnW (frF (getT x.2) n) d.at_) = (fn ++ fn').map He.DefD.val
    rw [List.map_append, List.map_append, a2, b2]
theorem run_parts {r : OpenRow} {q : Program} {loose : List Str} (h0 : LookEq r q M loose w) (h1 : FactEq r.prog M n fa xs file ex ts w) (h2 : DefEq r.prog M n fn w) : HandSHeadRun.RunEqI r q (hookF n fa fn xs file ex ts) (fun s => obsFG n fa fn xs file ex ts (getT s)) M loose w := by
  unfold LookEq at h0
  unfold FactEq at h1
  unfold DefEq at h2
  unfold HandSHeadRun.RunEqI
  obtain ⟨x, e, q1, q2⟩ := omap_two h0 h1
  obtain ⟨x', e', q3, _⟩ := omap_two h2 h0
  rw [e] at e'
  cases e'
  rw [e]
  obtain ⟨l1, l2⟩ := Prod.mk.inj q1
  obtain ⟨a1, a23⟩ := Prod.mk.inj q2
  obtain ⟨a2, a3⟩ := Prod.mk.inj a23
  obtain ⟨b1, b2⟩ := Prod.mk.inj q3
  rw [Bool.and_eq_true, Bool.and_eq_true] at a1
  refine congrArg some (Prod.ext l1 (Prod.ext l2 ?_))
  show (((((fa.all fun f => f.ok (frF (getT x.2) n)) && fn.all fun d => d.ok (frF (getT x.2) n)), fn.map fun d => He.fnW (frF (getT x.2) n) d.at_), (ex (frF (getT x.2) n) && xs.all (fun d => d.ok (frF (getT x.2) n) file)), xs.map fun d => fnC (frF (getT x.2) n) (d.i (frF (getT x.2) n))), ts.map fun t => He.dicW (frF (getT x.2) n) (t.1 (frF (getT x.2) n))) = (((true, fn.map He.DefD.val), true, xs.map XcD.val), ts.map fun t => some (He.keysIn w.params t.2))
  rw [a1.1, a1.2.1, a1.2.2, b1, a2, a3]
  exact congrArg (fun z => (((true, z), true, xs.map XcD.val), ts.map fun t => some (He.keysIn w.params t.2))) b2
end
end SupX
end
section
set_option Elab.async false
set_option linter.all false
set_option maxRecDepth 100000
namespace Lk04
open PySem PySem.Spec PyProof.Rows L2 Evl
def topS (i : Nat) : Stmt := PySem.Challenge.pw_weirlines_k04_whole_amounts.main.body.getD i (.Pass ⟨0, 0, 0, 0⟩)
abbrev s_is_integer : Stmt := topS 3
abbrev s_is_fraction : Stmt := topS 4
abbrev s_reduced : Stmt := topS 5
abbrev s_exact : Stmt := topS 6
abbrev s_is_exact : Stmt := topS 7
abbrev s_plus : Stmt := topS 8
abbrev s_minus : Stmt := topS 9
abbrev s_times : Stmt := topS 10
abbrev s_common_bottom : Stmt := topS 11
abbrev c_BadProgram : Stmt := topS 15
abbrev s_BadProgram___init__ : Stmt := inClass c_BadProgram 0
abbrev c_Program : Stmt := topS 20
abbrev s_Program___init__ : Stmt := inClass c_Program 0
abbrev s_Program___len__ : Stmt := inClass c_Program 1
abbrev s_Program___eq__ : Stmt := inClass c_Program 2
abbrev s_Program___add__ : Stmt := inClass c_Program 3
abbrev s_Program_done : Stmt := inClass c_Program 5
abbrev s_is_round : Stmt := topS 21
abbrev s_check_rounds : Stmt := topS 22
abbrev s_check_program : Stmt := topS 23
abbrev s_check_told : Stmt := topS 24
abbrev s_openings : Stmt := topS 25
abbrev s_halvings : Stmt := topS 26
abbrev s_evened : Stmt := topS 27
abbrev c_Recurrence : Stmt := topS 33
abbrev s_Recurrence___init__ : Stmt := inClass c_Recurrence 0
abbrev s_Recurrence___eq__ : Stmt := inClass c_Recurrence 1
abbrev s_Recurrence___bool__ : Stmt := inClass c_Recurrence 2
abbrev s_Recurrence___len__ : Stmt := inClass c_Recurrence 3
abbrev s_Recurrence_shows : Stmt := inClass c_Recurrence 4
abbrev s_Recurrence_value : Stmt := inClass c_Recurrence 5
abbrev s_check_asked : Stmt := topS 34
abbrev s_started : Stmt := topS 35
abbrev s_amount_at : Stmt := topS 36
abbrev s_first_amounts : Stmt := topS 37
abbrev s_amount : Stmt := topS 38
abbrev s_amounts : Stmt := topS 39
abbrev s_recurrence : Stmt := topS 40
abbrev s_told_by : Stmt := topS 41
abbrev s_dot : Stmt := topS 42
abbrev s_fewest_factors : Stmt := topS 43
abbrev s_mend : Stmt := topS 44
abbrev s_reduced_inverse : Stmt := topS 45
abbrev s__law_draw : Stmt := topS 47
abbrev s__law_rounds : Stmt := topS 48
abbrev s__law_weirs : Stmt := topS 49
abbrev s__law_order : Stmt := topS 50
abbrev s__law_play : Stmt := topS 51
abbrev s__law_scale : Stmt := topS 52
abbrev s__law_part : Stmt := topS 53
abbrev s__law_done : Stmt := topS 54
abbrev s__law_unit : Stmt := topS 55
abbrev s__law_start : Stmt := topS 56
abbrev s__law_goes_on : Stmt := topS 57
abbrev s_law : Stmt := topS 58
def d_is_integer : He.DefD := ⟨("is_integer", none), "is_integer", "is_integer", defArgs s_is_integer, defBody s_is_integer, defScope s_is_integer, [], []⟩
def d_is_fraction : He.DefD := ⟨("is_fraction", none), "is_fraction", "is_fraction", defArgs s_is_fraction, defBody s_is_fraction, defScope s_is_fraction, [], []⟩
def d_reduced : He.DefD := ⟨("reduced", none), "reduced", "reduced", defArgs s_reduced, defBody s_reduced, defScope s_reduced, [], []⟩
def d_exact : He.DefD := ⟨("exact", none), "exact", "exact", defArgs s_exact, defBody s_exact, defScope s_exact, [], []⟩
def d_is_exact : He.DefD := ⟨("is_exact", none), "is_exact", "is_exact", defArgs s_is_exact, defBody s_is_exact, defScope s_is_exact, [], []⟩
def d_plus : He.DefD := ⟨("plus", none), "plus", "plus", defArgs s_plus, defBody s_plus, defScope s_plus, [], []⟩
def d_minus : He.DefD := ⟨("minus", none), "minus", "minus", defArgs s_minus, defBody s_minus, defScope s_minus, [], []⟩
def d_times : He.DefD := ⟨("times", none), "times", "times", defArgs s_times, defBody s_times, defScope s_times, [], []⟩
def d_common_bottom : He.DefD := ⟨("common_bottom", none), "common_bottom", "common_bottom", defArgs s_common_bottom, defBody s_common_bottom, defScope s_common_bottom, [], []⟩
def d_Program___init__ : He.DefD := ⟨("Program", some "__init__"), "__init__", "Program.__init__", defArgs s_Program___init__, defBody s_Program___init__, defScope s_Program___init__, [], []⟩
def d_Program___len__ : He.DefD := ⟨("Program", some "__len__"), "__len__", "Program.__len__", defArgs s_Program___len__, defBody s_Program___len__, defScope s_Program___len__, [], []⟩
def d_Program___eq__ : He.DefD := ⟨("Program", some "__eq__"), "__eq__", "Program.__eq__", defArgs s_Program___eq__, defBody s_Program___eq__, defScope s_Program___eq__, [], []⟩
def d_Program___add__ : He.DefD := ⟨("Program", some "__add__"), "__add__", "Program.__add__", defArgs s_Program___add__, defBody s_Program___add__, defScope s_Program___add__, [], []⟩
def d_Program_done : He.DefD := ⟨("Program", some "done"), "done", "Program.done", defArgs s_Program_done, defBody s_Program_done, defScope s_Program_done, [], []⟩
def d_is_round : He.DefD := ⟨("is_round", none), "is_round", "is_round", defArgs s_is_round, defBody s_is_round, defScope s_is_round, [], []⟩
def d_check_rounds : He.DefD := ⟨("check_rounds", none), "check_rounds", "check_rounds", defArgs s_check_rounds, defBody s_check_rounds, defScope s_check_rounds, [], []⟩
def d_check_program : He.DefD := ⟨("check_program", none), "check_program", "check_program", defArgs s_check_program, defBody s_check_program, defScope s_check_program, [], []⟩
def d_check_told : He.DefD := ⟨("check_told", none), "check_told", "check_told", defArgs s_check_told, defBody s_check_told, defScope s_check_told, [], []⟩
def d_openings : He.DefD := ⟨("openings", none), "openings", "openings", defArgs s_openings, defBody s_openings, defScope s_openings, [], []⟩
def d_halvings : He.DefD := ⟨("halvings", none), "halvings", "halvings", defArgs s_halvings, defBody s_halvings, defScope s_halvings, [], []⟩
def d_evened : He.DefD := ⟨("evened", none), "evened", "evened", defArgs s_evened, defBody s_evened, defScope s_evened, [], []⟩
def d_Recurrence___init__ : He.DefD := ⟨("Recurrence", some "__init__"), "__init__", "Recurrence.__init__", defArgs s_Recurrence___init__, defBody s_Recurrence___init__, defScope s_Recurrence___init__, [], []⟩
def d_Recurrence___eq__ : He.DefD := ⟨("Recurrence", some "__eq__"), "__eq__", "Recurrence.__eq__", defArgs s_Recurrence___eq__, defBody s_Recurrence___eq__, defScope s_Recurrence___eq__, [], []⟩
def d_Recurrence___bool__ : He.DefD := ⟨("Recurrence", some "__bool__"), "__bool__", "Recurrence.__bool__", defArgs s_Recurrence___bool__, defBody s_Recurrence___bool__, defScope s_Recurrence___bool__, [], []⟩
def d_Recurrence___len__ : He.DefD := ⟨("Recurrence", some "__len__"), "__len__", "Recurrence.__len__", defArgs s_Recurrence___len__, defBody s_Recurrence___len__, defScope s_Recurrence___len__, [], []⟩
def d_Recurrence_shows : He.DefD := ⟨("Recurrence", some "shows"), "shows", "Recurrence.shows", defArgs s_Recurrence_shows, defBody s_Recurrence_shows, defScope s_Recurrence_shows, [], []⟩
def d_Recurrence_value : He.DefD := ⟨("Recurrence", some "value"), "value", "Recurrence.value", defArgs s_Recurrence_value, defBody s_Recurrence_value, defScope s_Recurrence_value, [], []⟩
def d_check_asked : He.DefD := ⟨("check_asked", none), "check_asked", "check_asked", defArgs s_check_asked, defBody s_check_asked, defScope s_check_asked, [], []⟩
def d_started : He.DefD := ⟨("started", none), "started", "started", defArgs s_started, defBody s_started, defScope s_started, [], []⟩
def d_amount_at : He.DefD := ⟨("amount_at", none), "amount_at", "amount_at", defArgs s_amount_at, defBody s_amount_at, defScope s_amount_at, [], []⟩
def d_first_amounts : He.DefD := ⟨("first_amounts", none), "first_amounts", "first_amounts", defArgs s_first_amounts, defBody s_first_amounts, defScope s_first_amounts, [], []⟩
def d_amount : He.DefD := ⟨("amount", none), "amount", "amount", defArgs s_amount, defBody s_amount, defScope s_amount, [], []⟩
def d_amounts : He.DefD := ⟨("amounts", none), "amounts", "amounts", defArgs s_amounts, defBody s_amounts, defScope s_amounts, [], []⟩
def d_recurrence : He.DefD := ⟨("recurrence", none), "recurrence", "recurrence", defArgs s_recurrence, defBody s_recurrence, defScope s_recurrence, [], []⟩
def d_told_by : He.DefD := ⟨("told_by", none), "told_by", "told_by", defArgs s_told_by, defBody s_told_by, defScope s_told_by, [], []⟩
def d_dot : He.DefD := ⟨("dot", none), "dot", "dot", defArgs s_dot, defBody s_dot, defScope s_dot, [], []⟩
def d_fewest_factors : He.DefD := ⟨("fewest_factors", none), "fewest_factors", "fewest_factors", defArgs s_fewest_factors, defBody s_fewest_factors, defScope s_fewest_factors, [], []⟩
def d_mend : He.DefD := ⟨("mend", none), "mend", "mend", defArgs s_mend, defBody s_mend, defScope s_mend, [], []⟩
def d_reduced_inverse : He.DefD := ⟨("reduced_inverse", none), "reduced_inverse", "reduced_inverse", defArgs s_reduced_inverse, defBody s_reduced_inverse, defScope s_reduced_inverse, [], []⟩
def d__law_draw : He.DefD := ⟨("_law_draw", none), "_law_draw", "_law_draw", defArgs s__law_draw, defBody s__law_draw, defScope s__law_draw, [], []⟩
def d__law_rounds : He.DefD := ⟨("_law_rounds", none), "_law_rounds", "_law_rounds", defArgs s__law_rounds, defBody s__law_rounds, defScope s__law_rounds, [], []⟩
def d__law_weirs : He.DefD := ⟨("_law_weirs", none), "_law_weirs", "_law_weirs", defArgs s__law_weirs, defBody s__law_weirs, defScope s__law_weirs, [], []⟩
def d__law_order : He.DefD := ⟨("_law_order", none), "_law_order", "_law_order", defArgs s__law_order, defBody s__law_order, defScope s__law_order, [], []⟩
def d__law_play : He.DefD := ⟨("_law_play", none), "_law_play", "_law_play", defArgs s__law_play, defBody s__law_play, defScope s__law_play, [], []⟩
def d__law_scale : He.DefD := ⟨("_law_scale", none), "_law_scale", "_law_scale", defArgs s__law_scale, defBody s__law_scale, defScope s__law_scale, [], []⟩
def d__law_part : He.DefD := ⟨("_law_part", none), "_law_part", "_law_part", defArgs s__law_part, defBody s__law_part, defScope s__law_part, [], []⟩
def d__law_done : He.DefD := ⟨("_law_done", none), "_law_done", "_law_done", defArgs s__law_done, defBody s__law_done, defScope s__law_done, [], []⟩
def d__law_unit : He.DefD := ⟨("_law_unit", none), "_law_unit", "_law_unit", defArgs s__law_unit, defBody s__law_unit, defScope s__law_unit, [], []⟩
def d__law_start : He.DefD := ⟨("_law_start", none), "_law_start", "_law_start", defArgs s__law_start, defBody s__law_start, defScope s__law_start, [], []⟩
def d__law_goes_on : He.DefD := ⟨("_law_goes_on", none), "_law_goes_on", "_law_goes_on", defArgs s__law_goes_on, defBody s__law_goes_on, defScope s__law_goes_on, [], []⟩
def d_law : He.DefD := ⟨("law", none), "law", "law", defArgs s_law, defBody s_law, defScope s_law, [], []⟩
def fn0 : List He.DefD := [d_is_integer, d_is_fraction, d_reduced, d_exact, d_is_exact, d_plus, d_minus, d_times, d_common_bottom, d_Program___init__, d_Program___len__, d_Program___eq__, d_Program___add__, d_Program_done, d_is_round, d_check_rounds, d_check_program, d_check_told, d_openings, d_halvings]
def fn1 : List He.DefD := [d_evened, d_Recurrence___init__, d_Recurrence___eq__, d_Recurrence___bool__, d_Recurrence___len__, d_Recurrence_shows, d_Recurrence_value, d_check_asked, d_started, d_amount_at, d_first_amounts, d_amount, d_amounts, d_recurrence, d_told_by, d_dot, d_fewest_factors, d_mend, d_reduced_inverse, d__law_draw]
def fn2 : List He.DefD := [d__law_rounds, d__law_weirs, d__law_order, d__law_play, d__law_scale, d__law_part, d__law_done, d__law_unit, d__law_start, d__law_goes_on, d_law]
def fnA : List He.DefD := fn0 ++ fn1
def fnB : List He.DefD := fn2
def fn : List He.DefD := fnA ++ fnB
def fa0 : List He.Fa := [.glo "is_integer", .glo "is_fraction", .glo "reduced", .glo "exact", .glo "is_exact", .glo "plus", .glo "minus", .glo "times", .glo "common_bottom", .glo "WeirError", .glo "BadProgram", .glo "BadStart", .int "MOST_ROUNDS" 12, .int "MOST_MANY" 400, .glo "Program", .cls "Program", .mkr "Program", .meth "Program" "__len__", .meth "Program" "__eq__", .meth "Program" "__add__"]
def fa1 : List He.Fa := [.meth "Program" "done", .noat "Program" "rounds", .glo "is_round", .glo "check_rounds", .glo "check_program", .glo "check_told", .glo "openings", .glo "halvings", .glo "evened", .glo "STARTS", .int "MOST_BACK" 5, .int "MOST_TRIED" 300, .int "MOST_FACTORS" 60, .glo "Recurrence", .cls "Recurrence", .mkr "Recurrence", .meth "Recurrence" "__eq__", .meth "Recurrence" "__bool__", .meth "Recurrence" "__len__", .meth "Recurrence" "shows"]
def fa2 : List He.Fa := [.meth "Recurrence" "value", .noat "Recurrence" "factors", .noat "Recurrence" "firsts", .glo "check_asked", .glo "started", .glo "amount_at", .glo "first_amounts", .glo "amount", .glo "amounts", .glo "recurrence", .glo "told_by", .glo "dot", .glo "fewest_factors", .glo "mend", .glo "reduced_inverse", .glo "_law_draw", .glo "_law_rounds", .glo "_law_weirs", .glo "_law_order", .glo "_law_play"]
def fa3 : List He.Fa := [.glo "_law_scale", .glo "_law_part", .glo "_law_done", .glo "_law_unit", .glo "_law_start", .glo "_law_goes_on", .glo "law", .free "ValueError", .free "abs", .free "all", .free "any", .free "bool", .free "enumerate", .free "int", .free "isinstance", .free "len", .free "list", .free "range", .free "reversed", .free "sum"]
def fa4 : List He.Fa := [.free "super", .free "tuple", .free "zip"]
def fa : List He.Fa := fa0 ++ fa1 ++ fa2 ++ fa3 ++ fa4
def loose0 : List PySem.Str := ["_wall", "is_integer", "is_fraction", "reduced", "exact", "is_exact", "plus", "minus", "times", "common_bottom", "WeirError", "BadProgram", "BadStart", "MOST_ROUNDS", "MOST_MANY", "Program", "is_round", "check_rounds", "check_program", "check_told"]
def loose1 : List PySem.Str := ["openings", "halvings", "evened", "STARTS", "MOST_BACK", "MOST_TRIED", "MOST_FACTORS", "Recurrence", "check_asked", "started", "amount_at", "first_amounts", "amount", "amounts", "recurrence", "told_by", "dot", "fewest_factors", "mend", "reduced_inverse"]
def loose2 : List PySem.Str := ["_law_draw", "_law_rounds", "_law_weirs", "_law_order", "_law_play", "_law_scale", "_law_part", "_law_done", "_law_unit", "_law_start", "_law_goes_on"]
def loose : List PySem.Str := loose0 ++ loose1 ++ loose2
def x_BadProgram : SupX.XcD := ⟨"BadProgram", "place", "no program of rounds", "BadProgram.__init__", s_BadProgram___init__⟩
def xs : List SupX.XcD := [x_BadProgram]
def fileS : Str := PySem.Challenge.pw_weirlines_k04_whole_amounts.main.file
def exs0 : List Str := ["WeirError", "BadProgram", "BadStart"]
def below0 (a b : Str) : Bool := decide ((a, b) ∈ ([("WeirError", "WeirError"), ("BadProgram", "BadProgram"), ("BadProgram", "WeirError"), ("BadStart", "BadStart"), ("BadStart", "WeirError")] : List (Str × Str)))
def tabs : List He.Tab := []
open He in
def exL0 (K : PySem.W.Frag) : List Bool := [eqO (PySem.W.nsIn K mainGlobals "gcd") (some (some (.builtin "math.gcd"))),
  eqO (PySem.W.nsIn K mainGlobals "lcm") (some (some (.builtin "math.lcm"))),
  eqO (PySem.W.findIn K (.ref (He.ga K "Program")) "__ne__") (some (some (.builtin "object.__ne__"))),
  eqO (PySem.W.findIn K (.ref (He.ga K "Program")) "__class__") (some (some (.builtin "object.__class__"))),
  decide (PySem.W.mroIn K (He.ga K "Program") (.type "object") = some true),
  eqO (PySem.W.findIn K (.ref (He.ga K "Recurrence")) "__ne__") (some (some (.builtin "object.__ne__"))),
  eqO (PySem.W.findIn K (.ref (He.ga K "Recurrence")) "__class__") (some (some (.builtin "object.__class__"))),
  decide (PySem.W.mroIn K (He.ga K "Recurrence") (.type "object") = some true),
  eqO (PySem.W.specialIn K (.builtin "object.__class__") "__get__") (some (some (.builtin "getset_descriptor.__get__"))),
  decide (PySem.W.takesIn K (.builtin "object.__class__") = some true),
  PySem.W.excIn K (He.ga K "BadStart") [.type "ValueError", .type "Exception", .type "BaseException", .type "object"] "ValueError.__new__",
  PySem.W.keepIn K (.ref (He.ga K "BadStart"))]
open He in
def exL1 (K : PySem.W.Frag) : List Bool := [decide (PySem.W.subIn K (.ref (He.ga K "BadStart")) (.type "BaseException") = some true),
  decide (PySem.W.typeIn K (.ref (He.ga K "BadStart")) = some (.type "type")),
  PySem.W.selfFirst K (He.ga K "Program"),
  PM.ktB K [],
  PM.ktB K ["Program"],
  PM.ktB K ["Recurrence"],
  PM.xtB K exs0 below0,
  WD.tupA K (He.ga K "STARTS") [V.str "ones", V.str "first", V.str "last", V.str "stairs"],
  WD.noLst K]
def exL (K : PySem.W.Frag) : List Bool := exL0 K ++ exL1 K
def exB (K : PySem.W.Frag) : Bool := (exL K).all id
structure Txt (K : PySem.W.Frag) (mg : Str → Option Value) : Prop where
  h : ∃ hp : Heap, K.In hp ∧ hp.Ns mainGlobals mg
  s : SupX.SaysS fa fn xs fileS exB K
theorem Txt.c {K : PySem.W.Frag} {mg : Str → Option Value} (T : Txt K mg) : He.SaysD fa fn K := T.s.d
theorem Txt.e {K : PySem.W.Frag} {mg : Str → Option Value} (T : Txt K mg) : exB K = true := T.s.exq
section
variable {K : PySem.W.Frag} {mg : Str → Option Value}
theorem Txt.ex (T : Txt K mg) (i : Nat) {b : Bool} (h : (exL K)[i]? = some b := by rfl) : b = true := List.all_eq_true.mp T.e b (List.mem_of_getElem? h)
theorem Txt.glo (T : Txt K mg) {x : Str} (c : (He.Fa.glo x).ok K = true) : mg x = some (.ref (He.ga K x)) := by
  obtain ⟨hp, kx, gx⟩ := T.h
  exact He.glo_ok kx gx c
theorem Txt.free (T : Txt K mg) {x : Str} (c : (He.Fa.free x).ok K = true) : mg x = none := by
  obtain ⟨hp, kx, gx⟩ := T.h
  exact He.free_ok kx gx c
theorem Txt.int (T : Txt K mg) {x : Str} {i : Int} (c : (He.Fa.int x i).ok K = true) : ∃ t, mg x = some (.int i t) := by
  obtain ⟨hp, kx, gx⟩ := T.h
  exact He.int_ok kx gx c
theorem Txt.blt (T : Txt K mg) {x : Str} {v : Value} (c : He.eqO (PySem.W.nsIn K mainGlobals x) (some (some v)) = true) : mg x = some v := by
  obtain ⟨hp, kx, gx⟩ := T.h
  exact PySem.W.mg_of kx gx (He.eqO_ok c)
theorem Txt.m_is_integer (T : Txt K mg) : mg "is_integer" = some (.ref (He.ga K "is_integer")) := T.glo (T.c.fact 0 (f := .glo "is_integer"))
theorem Txt.m_is_fraction (T : Txt K mg) : mg "is_fraction" = some (.ref (He.ga K "is_fraction")) := T.glo (T.c.fact 1 (f := .glo "is_fraction"))
theorem Txt.m_reduced (T : Txt K mg) : mg "reduced" = some (.ref (He.ga K "reduced")) := T.glo (T.c.fact 2 (f := .glo "reduced"))
theorem Txt.m_exact (T : Txt K mg) : mg "exact" = some (.ref (He.ga K "exact")) := T.glo (T.c.fact 3 (f := .glo "exact"))
theorem Txt.m_is_exact (T : Txt K mg) : mg "is_exact" = some (.ref (He.ga K "is_exact")) := T.glo (T.c.fact 4 (f := .glo "is_exact"))
theorem Txt.m_plus (T : Txt K mg) : mg "plus" = some (.ref (He.ga K "plus")) := T.glo (T.c.fact 5 (f := .glo "plus"))
theorem Txt.m_minus (T : Txt K mg) : mg "minus" = some (.ref (He.ga K "minus")) := T.glo (T.c.fact 6 (f := .glo "minus"))
theorem Txt.m_times (T : Txt K mg) : mg "times" = some (.ref (He.ga K "times")) := T.glo (T.c.fact 7 (f := .glo "times"))
theorem Txt.m_BadProgram (T : Txt K mg) : mg "BadProgram" = some (.ref (He.ga K "BadProgram")) := T.glo (T.c.fact 10 (f := .glo "BadProgram"))
theorem Txt.m_BadStart (T : Txt K mg) : mg "BadStart" = some (.ref (He.ga K "BadStart")) := T.glo (T.c.fact 11 (f := .glo "BadStart"))
theorem Txt.i_MOST_ROUNDS (T : Txt K mg) : ∃ t, mg "MOST_ROUNDS" = some (.int 12 t) := T.int (T.c.fact 12 (f := .int "MOST_ROUNDS" 12))
theorem Txt.m_Program (T : Txt K mg) : mg "Program" = some (.ref (He.ga K "Program")) := T.glo (T.c.fact 14 (f := .glo "Program"))
theorem Txt.c_Program (T : Txt K mg) : Cls K (He.ga K "Program") := He.cls_ok (T.c.fact 15 (f := .cls "Program"))
theorem Txt.k_Program (T : Txt K mg) : Mk K (He.ga K "Program") (He.ma K (He.ga K "Program") "__init__") := He.mkr_ok (T.c.fact 16 (f := .mkr "Program"))
theorem Txt.n_Program_rounds (T : Txt K mg) : NoAttr K (He.ga K "Program") "rounds" := He.noat_ok (T.c.fact 21 (f := .noat "Program" "rounds"))
theorem Txt.m_is_round (T : Txt K mg) : mg "is_round" = some (.ref (He.ga K "is_round")) := T.glo (T.c.fact 22 (f := .glo "is_round"))
theorem Txt.m_check_rounds (T : Txt K mg) : mg "check_rounds" = some (.ref (He.ga K "check_rounds")) := T.glo (T.c.fact 23 (f := .glo "check_rounds"))
theorem Txt.m_check_program (T : Txt K mg) : mg "check_program" = some (.ref (He.ga K "check_program")) := T.glo (T.c.fact 24 (f := .glo "check_program"))
theorem Txt.m_openings (T : Txt K mg) : mg "openings" = some (.ref (He.ga K "openings")) := T.glo (T.c.fact 26 (f := .glo "openings"))
theorem Txt.m_halvings (T : Txt K mg) : mg "halvings" = some (.ref (He.ga K "halvings")) := T.glo (T.c.fact 27 (f := .glo "halvings"))
theorem Txt.m_evened (T : Txt K mg) : mg "evened" = some (.ref (He.ga K "evened")) := T.glo (T.c.fact 28 (f := .glo "evened"))
theorem Txt.m_STARTS (T : Txt K mg) : mg "STARTS" = some (.ref (He.ga K "STARTS")) := T.glo (T.c.fact 29 (f := .glo "STARTS"))
theorem Txt.i_MOST_BACK (T : Txt K mg) : ∃ t, mg "MOST_BACK" = some (.int 5 t) := T.int (T.c.fact 30 (f := .int "MOST_BACK" 5))
theorem Txt.i_MOST_TRIED (T : Txt K mg) : ∃ t, mg "MOST_TRIED" = some (.int 300 t) := T.int (T.c.fact 31 (f := .int "MOST_TRIED" 300))
theorem Txt.i_MOST_FACTORS (T : Txt K mg) : ∃ t, mg "MOST_FACTORS" = some (.int 60 t) := T.int (T.c.fact 32 (f := .int "MOST_FACTORS" 60))
theorem Txt.m_Recurrence (T : Txt K mg) : mg "Recurrence" = some (.ref (He.ga K "Recurrence")) := T.glo (T.c.fact 33 (f := .glo "Recurrence"))
theorem Txt.c_Recurrence (T : Txt K mg) : Cls K (He.ga K "Recurrence") := He.cls_ok (T.c.fact 34 (f := .cls "Recurrence"))
theorem Txt.k_Recurrence (T : Txt K mg) : Mk K (He.ga K "Recurrence") (He.ma K (He.ga K "Recurrence") "__init__") := He.mkr_ok (T.c.fact 35 (f := .mkr "Recurrence"))
theorem Txt.x_Recurrence___eq__ (T : Txt K mg) : Meth K (He.ga K "Recurrence") "__eq__" (He.ma K (He.ga K "Recurrence") "__eq__") := He.meth_ok (T.c.fact 36 (f := .meth "Recurrence" "__eq__"))
theorem Txt.x_Recurrence___len__ (T : Txt K mg) : Meth K (He.ga K "Recurrence") "__len__" (He.ma K (He.ga K "Recurrence") "__len__") := He.meth_ok (T.c.fact 38 (f := .meth "Recurrence" "__len__"))
theorem Txt.x_Recurrence_shows (T : Txt K mg) : Meth K (He.ga K "Recurrence") "shows" (He.ma K (He.ga K "Recurrence") "shows") := He.meth_ok (T.c.fact 39 (f := .meth "Recurrence" "shows"))
theorem Txt.x_Recurrence_value (T : Txt K mg) : Meth K (He.ga K "Recurrence") "value" (He.ma K (He.ga K "Recurrence") "value") := He.meth_ok (T.c.fact 40 (f := .meth "Recurrence" "value"))
theorem Txt.n_Recurrence_factors (T : Txt K mg) : NoAttr K (He.ga K "Recurrence") "factors" := He.noat_ok (T.c.fact 41 (f := .noat "Recurrence" "factors"))
theorem Txt.n_Recurrence_firsts (T : Txt K mg) : NoAttr K (He.ga K "Recurrence") "firsts" := He.noat_ok (T.c.fact 42 (f := .noat "Recurrence" "firsts"))
theorem Txt.m_check_asked (T : Txt K mg) : mg "check_asked" = some (.ref (He.ga K "check_asked")) := T.glo (T.c.fact 43 (f := .glo "check_asked"))
theorem Txt.m_started (T : Txt K mg) : mg "started" = some (.ref (He.ga K "started")) := T.glo (T.c.fact 44 (f := .glo "started"))
theorem Txt.m_amount_at (T : Txt K mg) : mg "amount_at" = some (.ref (He.ga K "amount_at")) := T.glo (T.c.fact 45 (f := .glo "amount_at"))
theorem Txt.m_first_amounts (T : Txt K mg) : mg "first_amounts" = some (.ref (He.ga K "first_amounts")) := T.glo (T.c.fact 46 (f := .glo "first_amounts"))
theorem Txt.m_amount (T : Txt K mg) : mg "amount" = some (.ref (He.ga K "amount")) := T.glo (T.c.fact 47 (f := .glo "amount"))
theorem Txt.m_amounts (T : Txt K mg) : mg "amounts" = some (.ref (He.ga K "amounts")) := T.glo (T.c.fact 48 (f := .glo "amounts"))
theorem Txt.m_recurrence (T : Txt K mg) : mg "recurrence" = some (.ref (He.ga K "recurrence")) := T.glo (T.c.fact 49 (f := .glo "recurrence"))
theorem Txt.m_told_by (T : Txt K mg) : mg "told_by" = some (.ref (He.ga K "told_by")) := T.glo (T.c.fact 50 (f := .glo "told_by"))
theorem Txt.m_dot (T : Txt K mg) : mg "dot" = some (.ref (He.ga K "dot")) := T.glo (T.c.fact 51 (f := .glo "dot"))
theorem Txt.m_fewest_factors (T : Txt K mg) : mg "fewest_factors" = some (.ref (He.ga K "fewest_factors")) := T.glo (T.c.fact 52 (f := .glo "fewest_factors"))
theorem Txt.m_mend (T : Txt K mg) : mg "mend" = some (.ref (He.ga K "mend")) := T.glo (T.c.fact 53 (f := .glo "mend"))
theorem Txt.m_reduced_inverse (T : Txt K mg) : mg "reduced_inverse" = some (.ref (He.ga K "reduced_inverse")) := T.glo (T.c.fact 54 (f := .glo "reduced_inverse"))
theorem Txt.m__law_draw (T : Txt K mg) : mg "_law_draw" = some (.ref (He.ga K "_law_draw")) := T.glo (T.c.fact 55 (f := .glo "_law_draw"))
theorem Txt.m__law_rounds (T : Txt K mg) : mg "_law_rounds" = some (.ref (He.ga K "_law_rounds")) := T.glo (T.c.fact 56 (f := .glo "_law_rounds"))
theorem Txt.m__law_weirs (T : Txt K mg) : mg "_law_weirs" = some (.ref (He.ga K "_law_weirs")) := T.glo (T.c.fact 57 (f := .glo "_law_weirs"))
theorem Txt.m__law_order (T : Txt K mg) : mg "_law_order" = some (.ref (He.ga K "_law_order")) := T.glo (T.c.fact 58 (f := .glo "_law_order"))
theorem Txt.m__law_play (T : Txt K mg) : mg "_law_play" = some (.ref (He.ga K "_law_play")) := T.glo (T.c.fact 59 (f := .glo "_law_play"))
theorem Txt.m__law_scale (T : Txt K mg) : mg "_law_scale" = some (.ref (He.ga K "_law_scale")) := T.glo (T.c.fact 60 (f := .glo "_law_scale"))
theorem Txt.m__law_part (T : Txt K mg) : mg "_law_part" = some (.ref (He.ga K "_law_part")) := T.glo (T.c.fact 61 (f := .glo "_law_part"))
theorem Txt.m__law_done (T : Txt K mg) : mg "_law_done" = some (.ref (He.ga K "_law_done")) := T.glo (T.c.fact 62 (f := .glo "_law_done"))
theorem Txt.m__law_unit (T : Txt K mg) : mg "_law_unit" = some (.ref (He.ga K "_law_unit")) := T.glo (T.c.fact 63 (f := .glo "_law_unit"))
theorem Txt.m__law_start (T : Txt K mg) : mg "_law_start" = some (.ref (He.ga K "_law_start")) := T.glo (T.c.fact 64 (f := .glo "_law_start"))
theorem Txt.m__law_goes_on (T : Txt K mg) : mg "_law_goes_on" = some (.ref (He.ga K "_law_goes_on")) := T.glo (T.c.fact 65 (f := .glo "_law_goes_on"))
theorem Txt.m_law (T : Txt K mg) : mg "law" = some (.ref (He.ga K "law")) := T.glo (T.c.fact 66 (f := .glo "law"))
theorem Txt.z_abs (T : Txt K mg) : mg "abs" = none := T.free (T.c.fact 68 (f := .free "abs"))
theorem Txt.z_all (T : Txt K mg) : mg "all" = none := T.free (T.c.fact 69 (f := .free "all"))
theorem Txt.z_any (T : Txt K mg) : mg "any" = none := T.free (T.c.fact 70 (f := .free "any"))
theorem Txt.z_bool (T : Txt K mg) : mg "bool" = none := T.free (T.c.fact 71 (f := .free "bool"))
theorem Txt.z_enumerate (T : Txt K mg) : mg "enumerate" = none := T.free (T.c.fact 72 (f := .free "enumerate"))
theorem Txt.z_int (T : Txt K mg) : mg "int" = none := T.free (T.c.fact 73 (f := .free "int"))
theorem Txt.z_isinstance (T : Txt K mg) : mg "isinstance" = none := T.free (T.c.fact 74 (f := .free "isinstance"))
theorem Txt.z_len (T : Txt K mg) : mg "len" = none := T.free (T.c.fact 75 (f := .free "len"))
theorem Txt.z_list (T : Txt K mg) : mg "list" = none := T.free (T.c.fact 76 (f := .free "list"))
theorem Txt.z_range (T : Txt K mg) : mg "range" = none := T.free (T.c.fact 77 (f := .free "range"))
theorem Txt.z_reversed (T : Txt K mg) : mg "reversed" = none := T.free (T.c.fact 78 (f := .free "reversed"))
theorem Txt.z_sum (T : Txt K mg) : mg "sum" = none := T.free (T.c.fact 79 (f := .free "sum"))
theorem Txt.z_tuple (T : Txt K mg) : mg "tuple" = none := T.free (T.c.fact 81 (f := .free "tuple"))
theorem Txt.z_zip (T : Txt K mg) : mg "zip" = none := T.free (T.c.fact 82 (f := .free "zip"))
theorem Txt.b_gcd (T : Txt K mg) : mg "gcd" = some (.builtin "math.gcd") := T.blt (T.ex 0)
theorem Txt.cl_Program (T : Txt K mg) : PySem.W.findIn K (.ref (He.ga K "Program")) "__class__" = some (some (.builtin "object.__class__")) := He.eqO_ok (T.ex 3)
theorem Txt.ob_Program (T : Txt K mg) : PySem.W.mroIn K (He.ga K "Program") (.type "object") = some true := of_decide_eq_true (T.ex 4)
theorem Txt.ne_Recurrence (T : Txt K mg) : PySem.W.findIn K (.ref (He.ga K "Recurrence")) "__ne__" = some (some (.builtin "object.__ne__")) := He.eqO_ok (T.ex 5)
theorem Txt.cl_Recurrence (T : Txt K mg) : PySem.W.findIn K (.ref (He.ga K "Recurrence")) "__class__" = some (some (.builtin "object.__class__")) := He.eqO_ok (T.ex 6)
theorem Txt.ob_Recurrence (T : Txt K mg) : PySem.W.mroIn K (He.ga K "Recurrence") (.type "object") = some true := of_decide_eq_true (T.ex 7)
theorem Txt.sp (T : Txt K mg) : PySem.W.specialIn K (.builtin "object.__class__") "__get__" = some (some (.builtin "getset_descriptor.__get__")) := He.eqO_ok (T.ex 8)
theorem Txt.tk (T : Txt K mg) : PySem.W.takesIn K (.builtin "object.__class__") = some true := of_decide_eq_true (T.ex 9)
theorem Txt.q_BadStart (T : Txt K mg) : PySem.W.excIn K (He.ga K "BadStart") [.type "ValueError", .type "Exception", .type "BaseException", .type "object"] "ValueError.__new__" = true := T.ex 10
theorem Txt.p_BadStart (T : Txt K mg) : PySem.W.keepIn K (.ref (He.ga K "BadStart")) = true := T.ex 11
theorem Txt.u_BadStart (T : Txt K mg) : PySem.W.subIn K (.ref (He.ga K "BadStart")) (.type "BaseException") = some true := of_decide_eq_true (T.ex 12)
theorem Txt.v_BadStart (T : Txt K mg) : PySem.W.typeIn K (.ref (He.ga K "BadStart")) = some (.type "type") := of_decide_eq_true (T.ex 13)
theorem Txt.kt_none (T : Txt K mg) : PM.KT K [] PM.sameC := PM.kt_ofB (fun c hc => (List.not_mem_nil hc).elim) (T.ex 15)
theorem Txt.kt_Program (T : Txt K mg) : PM.KT K ["Program"] PM.sameC := PM.kt_ofB (fun c hc => (List.mem_cons.mp hc).elim (fun e => e ▸ ⟨T.c_Program, T.cl_Program, T.sp, T.tk, T.ob_Program⟩) (fun hc => (List.not_mem_nil hc).elim)) (T.ex 16)
theorem Txt.kt_Recurrence (T : Txt K mg) : PM.KT K ["Recurrence"] PM.sameC := PM.kt_ofB (fun c hc => (List.mem_cons.mp hc).elim (fun e => e ▸ ⟨T.c_Recurrence, T.cl_Recurrence, T.sp, T.tk, T.ob_Recurrence⟩) (fun hc => (List.not_mem_nil hc).elim)) (T.ex 17)
theorem Txt.xt (T : Txt K mg) : PM.XT K exs0 below0 := PM.xt_ofB (T.ex 18)
theorem Txt.g_STARTS (T : Txt K mg) : WD.tupA K (He.ga K "STARTS") [V.str "ones", V.str "first", V.str "last", V.str "stairs"] = true := T.ex 19
theorem Txt.noL (T : Txt K mg) : WD.noLst K = true := T.ex 20
theorem Txt.f_is_integer (T : Txt K mg) : ∃ fd, FunD K "is_integer" "is_integer" (defArgs s_is_integer) (defBody s_is_integer) (defScope s_is_integer) [] [] (He.fAd K (("is_integer", none))) fd := T.c.def_ 0 (d := d_is_integer)
theorem Txt.f_is_fraction (T : Txt K mg) : ∃ fd, FunD K "is_fraction" "is_fraction" (defArgs s_is_fraction) (defBody s_is_fraction) (defScope s_is_fraction) [] [] (He.fAd K (("is_fraction", none))) fd := T.c.def_ 1 (d := d_is_fraction)
theorem Txt.f_reduced (T : Txt K mg) : ∃ fd, FunD K "reduced" "reduced" (defArgs s_reduced) (defBody s_reduced) (defScope s_reduced) [] [] (He.fAd K (("reduced", none))) fd := T.c.def_ 2 (d := d_reduced)
theorem Txt.f_exact (T : Txt K mg) : ∃ fd, FunD K "exact" "exact" (defArgs s_exact) (defBody s_exact) (defScope s_exact) [] [] (He.fAd K (("exact", none))) fd := T.c.def_ 3 (d := d_exact)
theorem Txt.f_is_exact (T : Txt K mg) : ∃ fd, FunD K "is_exact" "is_exact" (defArgs s_is_exact) (defBody s_is_exact) (defScope s_is_exact) [] [] (He.fAd K (("is_exact", none))) fd := T.c.def_ 4 (d := d_is_exact)
theorem Txt.f_plus (T : Txt K mg) : ∃ fd, FunD K "plus" "plus" (defArgs s_plus) (defBody s_plus) (defScope s_plus) [] [] (He.fAd K (("plus", none))) fd := T.c.def_ 5 (d := d_plus)
theorem Txt.f_minus (T : Txt K mg) : ∃ fd, FunD K "minus" "minus" (defArgs s_minus) (defBody s_minus) (defScope s_minus) [] [] (He.fAd K (("minus", none))) fd := T.c.def_ 6 (d := d_minus)
theorem Txt.f_times (T : Txt K mg) : ∃ fd, FunD K "times" "times" (defArgs s_times) (defBody s_times) (defScope s_times) [] [] (He.fAd K (("times", none))) fd := T.c.def_ 7 (d := d_times)
theorem Txt.f_Program___init__ (T : Txt K mg) : ∃ fd, FunD K "__init__" "Program.__init__" (defArgs s_Program___init__) (defBody s_Program___init__) (defScope s_Program___init__) [] [] (He.fAd K (("Program", some "__init__"))) fd := T.c.def_ 9 (d := d_Program___init__)
theorem Txt.f_is_round (T : Txt K mg) : ∃ fd, FunD K "is_round" "is_round" (defArgs s_is_round) (defBody s_is_round) (defScope s_is_round) [] [] (He.fAd K (("is_round", none))) fd := T.c.def_ 14 (d := d_is_round)
theorem Txt.f_check_rounds (T : Txt K mg) : ∃ fd, FunD K "check_rounds" "check_rounds" (defArgs s_check_rounds) (defBody s_check_rounds) (defScope s_check_rounds) [] [] (He.fAd K (("check_rounds", none))) fd := T.c.def_ 15 (d := d_check_rounds)
theorem Txt.f_check_program (T : Txt K mg) : ∃ fd, FunD K "check_program" "check_program" (defArgs s_check_program) (defBody s_check_program) (defScope s_check_program) [] [] (He.fAd K (("check_program", none))) fd := T.c.def_ 16 (d := d_check_program)
theorem Txt.f_openings (T : Txt K mg) : ∃ fd, FunD K "openings" "openings" (defArgs s_openings) (defBody s_openings) (defScope s_openings) [] [] (He.fAd K (("openings", none))) fd := T.c.def_ 18 (d := d_openings)
theorem Txt.f_halvings (T : Txt K mg) : ∃ fd, FunD K "halvings" "halvings" (defArgs s_halvings) (defBody s_halvings) (defScope s_halvings) [] [] (He.fAd K (("halvings", none))) fd := T.c.def_ 19 (d := d_halvings)
theorem Txt.f_evened (T : Txt K mg) : ∃ fd, FunD K "evened" "evened" (defArgs s_evened) (defBody s_evened) (defScope s_evened) [] [] (He.fAd K (("evened", none))) fd := T.c.def_ 20 (d := d_evened)
theorem Txt.f_Recurrence___init__ (T : Txt K mg) : ∃ fd, FunD K "__init__" "Recurrence.__init__" (defArgs s_Recurrence___init__) (defBody s_Recurrence___init__) (defScope s_Recurrence___init__) [] [] (He.fAd K (("Recurrence", some "__init__"))) fd := T.c.def_ 21 (d := d_Recurrence___init__)
theorem Txt.f_Recurrence___eq__ (T : Txt K mg) : ∃ fd, FunD K "__eq__" "Recurrence.__eq__" (defArgs s_Recurrence___eq__) (defBody s_Recurrence___eq__) (defScope s_Recurrence___eq__) [] [] (He.fAd K (("Recurrence", some "__eq__"))) fd := T.c.def_ 22 (d := d_Recurrence___eq__)
theorem Txt.f_Recurrence___len__ (T : Txt K mg) : ∃ fd, FunD K "__len__" "Recurrence.__len__" (defArgs s_Recurrence___len__) (defBody s_Recurrence___len__) (defScope s_Recurrence___len__) [] [] (He.fAd K (("Recurrence", some "__len__"))) fd := T.c.def_ 24 (d := d_Recurrence___len__)
theorem Txt.f_Recurrence_shows (T : Txt K mg) : ∃ fd, FunD K "shows" "Recurrence.shows" (defArgs s_Recurrence_shows) (defBody s_Recurrence_shows) (defScope s_Recurrence_shows) [] [] (He.fAd K (("Recurrence", some "shows"))) fd := T.c.def_ 25 (d := d_Recurrence_shows)
theorem Txt.f_Recurrence_value (T : Txt K mg) : ∃ fd, FunD K "value" "Recurrence.value" (defArgs s_Recurrence_value) (defBody s_Recurrence_value) (defScope s_Recurrence_value) [] [] (He.fAd K (("Recurrence", some "value"))) fd := T.c.def_ 26 (d := d_Recurrence_value)
theorem Txt.f_check_asked (T : Txt K mg) : ∃ fd, FunD K "check_asked" "check_asked" (defArgs s_check_asked) (defBody s_check_asked) (defScope s_check_asked) [] [] (He.fAd K (("check_asked", none))) fd := T.c.def_ 27 (d := d_check_asked)
theorem Txt.f_started (T : Txt K mg) : ∃ fd, FunD K "started" "started" (defArgs s_started) (defBody s_started) (defScope s_started) [] [] (He.fAd K (("started", none))) fd := T.c.def_ 28 (d := d_started)
theorem Txt.f_amount_at (T : Txt K mg) : ∃ fd, FunD K "amount_at" "amount_at" (defArgs s_amount_at) (defBody s_amount_at) (defScope s_amount_at) [] [] (He.fAd K (("amount_at", none))) fd := T.c.def_ 29 (d := d_amount_at)
theorem Txt.f_first_amounts (T : Txt K mg) : ∃ fd, FunD K "first_amounts" "first_amounts" (defArgs s_first_amounts) (defBody s_first_amounts) (defScope s_first_amounts) [] [] (He.fAd K (("first_amounts", none))) fd := T.c.def_ 30 (d := d_first_amounts)
theorem Txt.f_amount (T : Txt K mg) : ∃ fd, FunD K "amount" "amount" (defArgs s_amount) (defBody s_amount) (defScope s_amount) [] [] (He.fAd K (("amount", none))) fd := T.c.def_ 31 (d := d_amount)
theorem Txt.f_amounts (T : Txt K mg) : ∃ fd, FunD K "amounts" "amounts" (defArgs s_amounts) (defBody s_amounts) (defScope s_amounts) [] [] (He.fAd K (("amounts", none))) fd := T.c.def_ 32 (d := d_amounts)
theorem Txt.f_recurrence (T : Txt K mg) : ∃ fd, FunD K "recurrence" "recurrence" (defArgs s_recurrence) (defBody s_recurrence) (defScope s_recurrence) [] [] (He.fAd K (("recurrence", none))) fd := T.c.def_ 33 (d := d_recurrence)
theorem Txt.f_told_by (T : Txt K mg) : ∃ fd, FunD K "told_by" "told_by" (defArgs s_told_by) (defBody s_told_by) (defScope s_told_by) [] [] (He.fAd K (("told_by", none))) fd := T.c.def_ 34 (d := d_told_by)
theorem Txt.f_dot (T : Txt K mg) : ∃ fd, FunD K "dot" "dot" (defArgs s_dot) (defBody s_dot) (defScope s_dot) [] [] (He.fAd K (("dot", none))) fd := T.c.def_ 35 (d := d_dot)
theorem Txt.f_fewest_factors (T : Txt K mg) : ∃ fd, FunD K "fewest_factors" "fewest_factors" (defArgs s_fewest_factors) (defBody s_fewest_factors) (defScope s_fewest_factors) [] [] (He.fAd K (("fewest_factors", none))) fd := T.c.def_ 36 (d := d_fewest_factors)
theorem Txt.f_mend (T : Txt K mg) : ∃ fd, FunD K "mend" "mend" (defArgs s_mend) (defBody s_mend) (defScope s_mend) [] [] (He.fAd K (("mend", none))) fd := T.c.def_ 37 (d := d_mend)
theorem Txt.f_reduced_inverse (T : Txt K mg) : ∃ fd, FunD K "reduced_inverse" "reduced_inverse" (defArgs s_reduced_inverse) (defBody s_reduced_inverse) (defScope s_reduced_inverse) [] [] (He.fAd K (("reduced_inverse", none))) fd := T.c.def_ 38 (d := d_reduced_inverse)
theorem Txt.f__law_draw (T : Txt K mg) : ∃ fd, FunD K "_law_draw" "_law_draw" (defArgs s__law_draw) (defBody s__law_draw) (defScope s__law_draw) [] [] (He.fAd K (("_law_draw", none))) fd := T.c.def_ 39 (d := d__law_draw)
theorem Txt.f__law_rounds (T : Txt K mg) : ∃ fd, FunD K "_law_rounds" "_law_rounds" (defArgs s__law_rounds) (defBody s__law_rounds) (defScope s__law_rounds) [] [] (He.fAd K (("_law_rounds", none))) fd := T.c.def_ 40 (d := d__law_rounds)
theorem Txt.f__law_weirs (T : Txt K mg) : ∃ fd, FunD K "_law_weirs" "_law_weirs" (defArgs s__law_weirs) (defBody s__law_weirs) (defScope s__law_weirs) [] [] (He.fAd K (("_law_weirs", none))) fd := T.c.def_ 41 (d := d__law_weirs)
theorem Txt.f__law_order (T : Txt K mg) : ∃ fd, FunD K "_law_order" "_law_order" (defArgs s__law_order) (defBody s__law_order) (defScope s__law_order) [] [] (He.fAd K (("_law_order", none))) fd := T.c.def_ 42 (d := d__law_order)
theorem Txt.f__law_play (T : Txt K mg) : ∃ fd, FunD K "_law_play" "_law_play" (defArgs s__law_play) (defBody s__law_play) (defScope s__law_play) [] [] (He.fAd K (("_law_play", none))) fd := T.c.def_ 43 (d := d__law_play)
theorem Txt.f__law_scale (T : Txt K mg) : ∃ fd, FunD K "_law_scale" "_law_scale" (defArgs s__law_scale) (defBody s__law_scale) (defScope s__law_scale) [] [] (He.fAd K (("_law_scale", none))) fd := T.c.def_ 44 (d := d__law_scale)
theorem Txt.f__law_part (T : Txt K mg) : ∃ fd, FunD K "_law_part" "_law_part" (defArgs s__law_part) (defBody s__law_part) (defScope s__law_part) [] [] (He.fAd K (("_law_part", none))) fd := T.c.def_ 45 (d := d__law_part)
theorem Txt.f__law_done (T : Txt K mg) : ∃ fd, FunD K "_law_done" "_law_done" (defArgs s__law_done) (defBody s__law_done) (defScope s__law_done) [] [] (He.fAd K (("_law_done", none))) fd := T.c.def_ 46 (d := d__law_done)
theorem Txt.f__law_unit (T : Txt K mg) : ∃ fd, FunD K "_law_unit" "_law_unit" (defArgs s__law_unit) (defBody s__law_unit) (defScope s__law_unit) [] [] (He.fAd K (("_law_unit", none))) fd := T.c.def_ 47 (d := d__law_unit)
theorem Txt.f__law_start (T : Txt K mg) : ∃ fd, FunD K "_law_start" "_law_start" (defArgs s__law_start) (defBody s__law_start) (defScope s__law_start) [] [] (He.fAd K (("_law_start", none))) fd := T.c.def_ 48 (d := d__law_start)
theorem Txt.f__law_goes_on (T : Txt K mg) : ∃ fd, FunD K "_law_goes_on" "_law_goes_on" (defArgs s__law_goes_on) (defBody s__law_goes_on) (defScope s__law_goes_on) [] [] (He.fAd K (("_law_goes_on", none))) fd := T.c.def_ 49 (d := d__law_goes_on)
theorem Txt.f_law (T : Txt K mg) : ∃ fd, FunD K "law" "law" (defArgs s_law) (defBody s_law) (defScope s_law) [] [] (He.fAd K (("law", none))) fd := T.c.def_ 50 (d := d_law)
theorem to_BadProgram : SupX.TextOk x_BadProgram := ⟨"place", "self", _, _, _, _, _, _, _, _, _, _, _, _, rfl, fun _ _ _ _ _ _ _ _ _ => rfl, rfl, rfl, by decide, by decide, by decide, by decide +kernel, rfl, rfl, rfl, rfl, rfl, rfl, rfl, fun _ _ _ _ => ⟨⟨_, rfl⟩, rfl, rfl, rfl, rfl, rfl⟩⟩
theorem Txt.s_BadProgram {P : Program} (T : Txt K mg) (hp : P.main.file = fileS) (ht : (P.main.scope.names.lookup ("super" : Str)).isSome = false) : SupX.Sup P K mg (He.ga K "BadProgram") (He.ma K (He.ga K "BadProgram") "__init__") "BadProgram" "place" "no program of rounds" := by
  obtain ⟨h, X, G⟩ := T.h
  exact SupX.sup_of X G to_BadProgram (T.s.xfn 0) (T.s.xok 0) hp ht
end
theorem sc_is_integer : FnScope ["thing"] ["thing"] (defScope s_is_integer) := ⟨rfl, rfl, rfl, by decide +kernel, rfl, by decide +kernel, by decide +kernel⟩
theorem sc_is_fraction : FnScope ["thing"] ["thing"] (defScope s_is_fraction) := ⟨rfl, rfl, rfl, by decide +kernel, rfl, by decide +kernel, by decide +kernel⟩
theorem sc_reduced : FnScope ["top", "bottom", "shared"] ["top", "bottom"] (defScope s_reduced) := ⟨rfl, rfl, rfl, by decide +kernel, rfl, by decide +kernel, by decide +kernel⟩
theorem sc_exact : FnScope ["told"] ["told"] (defScope s_exact) := ⟨rfl, rfl, rfl, by decide +kernel, rfl, by decide +kernel, by decide +kernel⟩
theorem sc_is_exact : FnScope ["thing"] ["thing"] (defScope s_is_exact) := ⟨rfl, rfl, rfl, by decide +kernel, rfl, by decide +kernel, by decide +kernel⟩
theorem sc_plus : FnScope ["one", "other", "shared", "top", "rest"] ["one", "other"] (defScope s_plus) := ⟨rfl, rfl, rfl, by decide +kernel, rfl, by decide +kernel, by decide +kernel⟩
theorem sc_minus : FnScope ["one", "other"] ["one", "other"] (defScope s_minus) := ⟨rfl, rfl, rfl, by decide +kernel, rfl, by decide +kernel, by decide +kernel⟩
theorem sc_times : FnScope ["one", "other", "left", "right"] ["one", "other"] (defScope s_times) := ⟨rfl, rfl, rfl, by decide +kernel, rfl, by decide +kernel, by decide +kernel⟩
theorem sc_Program___init__ : FnScope ["self", "rounds"] ["self", "rounds"] (defScope s_Program___init__) := ⟨rfl, rfl, rfl, by decide +kernel, rfl, by decide +kernel, by decide +kernel⟩
theorem sc_is_round : FnScope ["thing", "step", "rest"] ["thing"] (defScope s_is_round) := ⟨rfl, rfl, rfl, by decide +kernel, rfl, by decide +kernel, by decide +kernel⟩
theorem sc_check_rounds : FnScope ["rounds", "place", "told"] ["rounds"] (defScope s_check_rounds) := ⟨rfl, rfl, rfl, by decide +kernel, rfl, by decide +kernel, by decide +kernel⟩
theorem sc_check_program : FnScope ["program"] ["program"] (defScope s_check_program) := ⟨rfl, rfl, rfl, by decide +kernel, rfl, by decide +kernel, by decide +kernel⟩
theorem sc_openings : FnScope ["rounds", "many", "found", "told", "weir"] ["rounds", "many"] (defScope s_openings) := ⟨rfl, rfl, rfl, by decide +kernel, rfl, by decide +kernel, by decide +kernel⟩
theorem sc_halvings : FnScope ["rounds", "many", "told"] ["rounds", "many"] (defScope s_halvings) := ⟨rfl, rfl, rfl, by decide +kernel, rfl, by decide +kernel, by decide +kernel⟩
theorem sc_evened : FnScope ["rounds", "tops", "late", "weir"] ["rounds", "tops"] (defScope s_evened) := ⟨rfl, rfl, rfl, by decide +kernel, rfl, by decide +kernel, by decide +kernel⟩
theorem sc_Recurrence___init__ : FnScope ["self", "factors", "firsts"] ["self", "factors", "firsts"] (defScope s_Recurrence___init__) := ⟨rfl, rfl, rfl, by decide +kernel, rfl, by decide +kernel, by decide +kernel⟩
theorem sc_Recurrence___eq__ : FnScope ["self", "other"] ["self", "other"] (defScope s_Recurrence___eq__) := ⟨rfl, rfl, rfl, by decide +kernel, rfl, by decide +kernel, by decide +kernel⟩
theorem sc_Recurrence___len__ : FnScope ["self"] ["self"] (defScope s_Recurrence___len__) := ⟨rfl, rfl, rfl, by decide +kernel, rfl, by decide +kernel, by decide +kernel⟩
theorem sc_Recurrence_shows : FnScope ["self", "program", "start", "back", "many", "number"] ["self", "program", "start", "back"] (defScope s_Recurrence_shows) := ⟨rfl, rfl, rfl, by decide +kernel, rfl, by decide +kernel, by decide +kernel⟩
theorem sc_Recurrence_value : FnScope ["self", "number"] ["self", "number"] (defScope s_Recurrence_value) := ⟨rfl, rfl, rfl, by decide +kernel, rfl, by decide +kernel, by decide +kernel⟩
theorem sc_check_asked : FnScope ["program", "start", "back"] ["program", "start", "back"] (defScope s_check_asked) := ⟨rfl, rfl, rfl, by decide +kernel, rfl, by decide +kernel, by decide +kernel⟩
theorem sc_started : FnScope ["start", "many", "alone", "_", "at"] ["start", "many"] (defScope s_started) := ⟨rfl, rfl, rfl, by decide +kernel, rfl, by decide +kernel, by decide +kernel⟩
theorem sc_amount_at : FnScope ["program", "start", "back", "many", "often", "tops", "volume"] ["program", "start", "back", "many"] (defScope s_amount_at) := ⟨rfl, rfl, rfl, by decide +kernel, rfl, by decide +kernel, by decide +kernel⟩
theorem sc_first_amounts : FnScope ["program", "start", "back", "many", "at"] ["program", "start", "back", "many"] (defScope s_first_amounts) := ⟨rfl, rfl, rfl, by decide +kernel, rfl, by decide +kernel, by decide +kernel⟩
theorem sc_amount : FnScope ["program", "start", "back", "many"] ["program", "start", "back", "many"] (defScope s_amount) := ⟨rfl, rfl, rfl, by decide +kernel, rfl, by decide +kernel, by decide +kernel⟩
theorem sc_amounts : FnScope ["program", "start", "back", "most"] ["program", "start", "back", "most"] (defScope s_amounts) := ⟨rfl, rfl, rfl, by decide +kernel, rfl, by decide +kernel, by decide +kernel⟩
theorem sc_recurrence : FnScope ["program", "start", "back", "numbers", "factors"] ["program", "start", "back"] (defScope s_recurrence) := ⟨rfl, rfl, rfl, by decide +kernel, rfl, by decide +kernel, by decide +kernel⟩
theorem sc_told_by : FnScope ["factors", "firsts", "many", "found"] ["factors", "firsts", "many"] (defScope s_told_by) := ⟨rfl, rfl, rfl, by decide +kernel, rfl, by decide +kernel, by decide +kernel⟩
theorem sc_dot : FnScope ["factors", "numbers", "total", "factor", "number"] ["factors", "numbers"] (defScope s_dot) := ⟨rfl, rfl, rfl, by decide +kernel, rfl, by decide +kernel, by decide +kernel⟩
theorem sc_fewest_factors : FnScope ["numbers", "weights", "size", "earlier", "missed", "since", "at", "off", "mended", "weight"] ["numbers"] (defScope s_fewest_factors) := ⟨rfl, rfl, rfl, by decide +kernel, rfl, by decide +kernel, by decide +kernel⟩
theorem sc_mend : FnScope ["weights", "earlier", "since", "part", "found", "at", "weight"] ["weights", "earlier", "since", "part"] (defScope s_mend) := ⟨rfl, rfl, rfl, by decide +kernel, rfl, by decide +kernel, by decide +kernel⟩
theorem sc_reduced_inverse : FnScope ["number", "top", "bottom"] ["number"] (defScope s_reduced_inverse) := ⟨rfl, rfl, rfl, by decide +kernel, rfl, by decide +kernel, by decide +kernel⟩
theorem sc__law_draw : FnScope ["script", "at", "many", "row", "cell", "turn", "step", "mixed"] ["script", "at", "many"] (defScope s__law_draw) := ⟨rfl, rfl, rfl, by decide +kernel, rfl, by decide +kernel, by decide +kernel⟩
theorem sc__law_rounds : FnScope ["script", "at", "most", "way", "rows", "every", "turn"] ["script", "at", "most", "way"] (defScope s__law_rounds) := ⟨rfl, rfl, rfl, by decide +kernel, rfl, by decide +kernel, by decide +kernel⟩
theorem sc__law_weirs : FnScope ["told", "many", "weir"] ["told", "many"] (defScope s__law_weirs) := ⟨rfl, rfl, rfl, by decide +kernel, rfl, by decide +kernel, by decide +kernel⟩
theorem sc__law_order : FnScope ["rounds", "many", "found", "told"] ["rounds", "many"] (defScope s__law_order) := ⟨rfl, rfl, rfl, by decide +kernel, rfl, by decide +kernel, by decide +kernel⟩
theorem sc__law_play : FnScope ["rounds", "numbers", "found", "weir", "even"] ["rounds", "numbers"] (defScope s__law_play) := ⟨rfl, rfl, rfl, by decide +kernel, rfl, by decide +kernel, by decide +kernel⟩
theorem sc__law_scale : FnScope ["rounds", "many"] ["rounds", "many"] (defScope s__law_scale) := ⟨rfl, rfl, rfl, by decide +kernel, rfl, by decide +kernel, by decide +kernel⟩
theorem sc__law_part : FnScope ["top", "below", "one", "other"] ["top", "below"] (defScope s__law_part) := ⟨rfl, rfl, rfl, by decide +kernel, rfl, by decide +kernel, by decide +kernel⟩
theorem sc__law_done : FnScope ["rounds", "volumes", "scale", "number", "volume"] ["rounds", "volumes"] (defScope s__law_done) := ⟨rfl, rfl, rfl, by decide +kernel, rfl, by decide +kernel, by decide +kernel⟩
theorem sc__law_unit : FnScope ["many", "basin", "at"] ["many", "basin"] (defScope s__law_unit) := ⟨rfl, rfl, rfl, by decide +kernel, rfl, by decide +kernel, by decide +kernel⟩
theorem sc__law_start : FnScope ["start", "many"] ["start", "many"] (defScope s__law_start) := ⟨rfl, rfl, rfl, by decide +kernel, rfl, by decide +kernel, by decide +kernel⟩
theorem sc__law_goes_on : FnScope ["factors", "told", "first", "at", "top", "below", "factor", "number", "more", "bottom"] ["factors", "told", "first"] (defScope s__law_goes_on) := ⟨rfl, rfl, rfl, by decide +kernel, rfl, by decide +kernel, by decide +kernel⟩
theorem sc_law : FnScope ["script", "rounds", "program", "start", "back", "told", "found", "size", "spoilt", "more", "number", "error", "many", "one"] ["script"] (defScope s_law) := ⟨rfl, rfl, rfl, by decide +kernel, rfl, by decide +kernel, by decide +kernel⟩
end Lk04
end
section
set_option Elab.async false
set_option linter.all false
set_option maxRecDepth 100000
set_option maxHeartbeats 0
namespace Lk04
open PySem PySem.Spec PyProof.Rows L2
abbrev R0 : PySem.W.OpenRow := PySem.W.OpenLaw.row PySem.Challenge.rw_weirlines_k04_whole_amounts
theorem run0 (w : World) : SupX.LookEq R0 (PySem.W.view R0.prog [0, 58]) 12000 loose w := by
  unfold SupX.LookEq
  kernel_rfl
end Lk04
end
section
set_option Elab.async false
set_option linter.all false
set_option maxRecDepth 100000
set_option maxHeartbeats 0
namespace Lk04
open PySem PySem.Spec PyProof.Rows L2
abbrev RA : PySem.W.OpenRow := PySem.W.OpenLaw.row PySem.Challenge.rw_weirlines_k04_whole_amounts
theorem runA (w : World) : SupX.FactEq RA.prog 12000 4 fa xs fileS exB tabs w := by
  unfold SupX.FactEq
  kernel_rfl
end Lk04
end
section
set_option Elab.async false
set_option linter.all false
set_option maxRecDepth 100000
set_option maxHeartbeats 0
namespace Lk04
open PySem PySem.Spec PyProof.Rows L2
abbrev RB : PySem.W.OpenRow := PySem.W.OpenLaw.row PySem.Challenge.rw_weirlines_k04_whole_amounts
theorem runB (w : World) : SupX.DefEq RB.prog 12000 4 fnA w := by
  unfold SupX.DefEq
  kernel_rfl
end Lk04
end
section
set_option Elab.async false
set_option linter.all false
set_option maxRecDepth 100000
set_option maxHeartbeats 0
namespace Lk04
open PySem PySem.Spec PyProof.Rows L2
abbrev RC : PySem.W.OpenRow := PySem.W.OpenLaw.row PySem.Challenge.rw_weirlines_k04_whole_amounts
theorem runC (w : World) : SupX.DefEq RC.prog 12000 4 fnB w := by
  unfold SupX.DefEq
  kernel_rfl
end Lk04
end
section
set_option Elab.async false
set_option linter.all false
set_option maxRecDepth 100000
set_option maxHeartbeats 0
namespace Lk04
open PySem PySem.Spec PyProof.Rows L2
abbrev R : PySem.W.OpenRow := PySem.W.OpenLaw.row PySem.Challenge.rw_weirlines_k04_whole_amounts
abbrev hk : PySem.W.Hook := SupX.hookF 4 fa fn xs fileS exB tabs
def ob (s : PySem.W.SharedT) : SupX.AlX := SupX.obsFG 4 fa fn xs fileS exB tabs (HandSHeadRun.getT s)
theorem ob_eq (s : PySem.W.SharedT) : ob s = hk.obs s.abs := SupX.obsFG_eq (HandSHeadRun.getT_eq s)
theorem run (w : World) : HandSHeadRun.RunEqI R (PySem.W.view R.prog [0, 58]) hk ob 12000 loose w := SupX.run_parts (r := R) (run0 w) (runA w) (SupX.DefEq.app (runB w) (runC w))
end Lk04
end
section
set_option Elab.async false
set_option linter.all false
set_option maxRecDepth 100000
set_option maxHeartbeats 2000000
namespace PM
open PySem L2
theorem str_inj (a b : String) : (Str.ofString a = Str.ofString b) = (a = b) := by
  refine propext ⟨fun h => ?_, fun h => by rw [h]⟩
  rw [Str.ofString_eq_toList, Str.ofString_eq_toList] at h
  injection h with h
  have h := congrArg Array.toList h
  simp only [] at h
  have inj : ∀ l m : List Char, l.map Char.toNat = m.map Char.toNat → l = m := by
    intro l
    induction l with
    | nil => intro m h; cases m <;> simp_all
    | cons c l ih =>
      intro m h
      cases m with
      | nil => simp at h
      | cons d m =>
        simp only [List.map_cons, List.cons.injEq] at h
        rw [ih m h.2]
        have : c = d := Char.ext (UInt32.toNat_inj.mp h.1)
        rw [this]
  exact String.toList_inj.mp (inj _ _ h)
@[simp] theorem str_inj' (a b : String) : (Str.ofString a = Str.ofString b) ↔ (a = b) := by rw [str_inj]
@[simp] theorem str_ok (a : String) : PyData.strOk (Str.ofString a) = true := by
  unfold PyData.strOk
  rw [Str.ofString_eq_toList]
  simp only [Array.all_eq_true_iff_forall_mem, decide_eq_true_eq]
  intro n hn
  simp only [List.mem_toArray, List.mem_map] at hn
  obtain ⟨c, _, rfl⟩ := hn
  have := c.valid
  have h2 : c.toNat < 0x110000 := by
    rcases this with h | h
    · have : c.val.toNat < 0xd800 := h
      show c.val.toNat < _
      omega
    · exact h.2
  exact h2
def SO.andThen (o : SO) (k : Stm) : SO := match o with
  | .nx e S => k e S
  | o => o
@[simp] theorem andThen_nx (e : Env) (S : Sto) (k : Stm) : (SO.nx e S).andThen k = k e S := rfl
@[simp] theorem andThen_rt (d : D) (S : Sto) (k : Stm) : (SO.rt d S).andThen k = .rt d S := rfl
@[simp] theorem andThen_er (x : Er) (e : Env) (S : Sto) (k : Stm) : (SO.er x e S).andThen k = .er x e S := rfl
@[simp] theorem andThen_bk (e : Env) (S : Sto) (k : Stm) : (SO.bk e S).andThen k = .bk e S := rfl
@[simp] theorem andThen_ct (e : Env) (S : Sto) (k : Stm) : (SO.ct e S).andThen k = .ct e S := rfl
def Out.stm {α : Type} (o : Out α) (e : Env) (k : α → Stm) : SO := match o with
  | .ok a S' => k a e S'
  | .er x S' => .er x e S'
  | .no => .no
@[simp] theorem stm_ok {α : Type} (a : α) (S : Sto) (e : Env) (k : α → Stm) : (Out.ok a S).stm e k = k a e S := rfl
@[simp] theorem stm_er {α : Type} (x : Er) (S : Sto) (e : Env) (k : α → Stm) : (Out.er x S : Out α).stm e k = .er x e S := rfl
@[simp] theorem startE_ap (n m : Nat) (ds : List D) : startE n m ds = ⟨ds.map some ++ List.replicate (m - n) none, none⟩ := rfl
@[simp] theorem runFn_ap (n m : Nat) (b : Stm) (ds : List D) (S : Sto) : runFn n m b ds S = if ds.length = n then toOut (b (startE n m ds) S) else .no := rfl
@[simp] theorem toOut_nx (e : Env) (S : Sto) : toOut (.nx e S) = .ok .non S := rfl
@[simp] theorem toOut_rt (d : D) (S : Sto) : toOut (.rt d S) = .ok d S := rfl
@[simp] theorem toOut_er (x : Er) (e : Env) (S : Sto) : toOut (.er x e S) = .er x S := rfl
@[simp] theorem sSeq_ap (a b : Stm) (e : Env) (S : Sto) : sSeq a b e S = (a e S).andThen b := rfl
@[simp] theorem sE_ap {α : Type} (m : Env → M α) (k : α → Stm) (e : Env) (S : Sto) : sE m k e S = (m e S).stm e k := rfl
@[simp] theorem sNext_ap (e : Env) (S : Sto) : sNext e S = .nx e S := rfl
@[simp] theorem sBk_ap (e : Env) (S : Sto) : sBk e S = .bk e S := rfl
@[simp] theorem sCt_ap (e : Env) (S : Sto) : sCt e S = .ct e S := rfl
@[simp] theorem sRetN_ap (e : Env) (S : Sto) : sRetN e S = .rt .non S := rfl
@[simp] theorem sDrop_ap (m : Env → M D) (e : Env) (S : Sto) : sDrop m e S = (m e S).stm e fun _ e S => .nx e S := rfl
@[simp] theorem sRet_ap (m : Env → M D) (e : Env) (S : Sto) : sRet m e S = (m e S).stm e fun d _ S => .rt d S := rfl
@[simp] theorem sIf_ap (t : Env → M Bool) (a b : Stm) (e : Env) (S : Sto) : sIf t a b e S = (t e S).stm e fun k => if k then a else b := rfl
def oNx (o : Option Env) (S : Sto) : SO := match o with
  | some e' => .nx e' S
  | none => .no
@[simp] theorem oNx_some (e : Env) (S : Sto) : oNx (some e) S = .nx e S := rfl
@[simp] theorem sAsg_ap (m : Env → M D) (f : D → Env → Option Env) (e : Env) (S : Sto) : sAsg m f e S = (m e S).stm e fun d e S => oNx (f d e) S := rfl
@[simp] theorem sPar_ap (i j : Nat) (m : Env → M (List D)) (e : Env) (S : Sto) : sPar i j m e S = (m e S).stm e fun ds e S => match ds with
  | [x, y] => .nx (setE j y (setE i x e)) S
  | _ => .no := rfl
@[simp] theorem sRaise0_ap (c : Str) (e : Env) (S : Sto) : sRaise0 c e S = .er ⟨c, none⟩ e S := rfl
@[simp] theorem sRaise1_ap (c f : Str) (m : Env → M D) (e : Env) (S : Sto) : sRaise1 c f m e S = (m e S).stm e fun d e S => .er ⟨c, some (f, d)⟩ e S := rfl
@[simp] theorem sAug_ap (i : Nat) (m : Env → M D) (e : Env) (S : Sto) : sAug i m e S = ((eVar i e S).then fun d => dInt1 d).stm e fun x => sE (fun e => bind (m e) dInt1) fun y e S => .nx (setE i (.int (x + y)) e) S := rfl
@[simp] theorem dInt1_int (i : Int) : dInt1 (.int i) = ret i := rfl
@[simp] theorem sSet_ap (m mo mi : Env → M D) (e : Env) (S : Sto) : sSet m mo mi e S = (m e S).stm e fun d => sE mo fun o => sE mi fun i => sE (fun _ => dSet o i d) fun _ e S => .nx e S := rfl
@[simp] theorem sSet2_ap (m mo mi mp mj : Env → M D) (e : Env) (S : Sto) : sSet2 m mo mi mp mj e S = (m e S).stm e fun d => sE mo fun o => sE mi fun i => sE (fun _ => dSet o i d) fun _ => sE mp fun p => sE mj fun j => sE (fun _ => dSet p j d) fun _ e S => .nx e S := rfl
@[simp] theorem sAugS_ap (mo mi m : Env → M D) (e : Env) (S : Sto) : sAugS mo mi m e S = (mo e S).stm e fun o => sE mi fun i => sE (fun _ => dIxC o i) fun x => sE (fun e => bind (m e) dInt1) fun y => sE (fun _ => dSet o i (.int (x + y))) fun _ e S => .nx e S := rfl
@[simp] theorem sFldP_ap (cs : List Str) (f : Str) (m mo : Env → M D) (e : Env) (S : Sto) : sFldP cs f m mo e S = (m e S).stm e fun d => sE mo fun o => sE (fun _ => dPut cs f o d) fun _ e S => .nx e S := rfl
@[simp] theorem gN_ap (i : Nat) (d : D) (e : Env) : gN i d e = some (setE i d e) := rfl
@[simp] theorem setE_ap (i : Nat) (d : D) (l : List (Option D)) : setE i d ⟨l, none⟩ = ⟨l.set i (some d), none⟩ := rfl
@[simp] theorem gT_ap (n : Nat) (g : List D → Env → Option Env) (ds : List D) (e : Env) : gT n g (.tup ds) e = if ds.length = n then g ds e else none := rfl
@[simp] theorem gC_ap (f : D → Env → Option Env) (g : List D → Env → Option Env) (d : D) (ds : List D) (e : Env) : gC f g (d :: ds) e = (f d e).bind (g ds) := rfl
@[simp] theorem gN0_ap (e : Env) : gN0 [] e = some e := rfl
@[simp] theorem eVar_ap (i : Nat) (l : List (Option D)) (x : Option (Nat × Er)) : eVar i ⟨l, x⟩ = match l[i]? with
  | some (some d) => ret d
  | _ => stuck := rfl
@[simp] theorem eC_ap (d : D) (e : Env) : eC d e = ret d := rfl
@[simp] theorem e2_ap (g : D → D → M D) (a b : Env → M D) (e : Env) : e2 g a b e = bind (a e) fun x => bind (b e) fun y => g x y := rfl
@[simp] theorem e1_ap (g : D → M D) (a : Env → M D) (e : Env) : e1 g a e = bind (a e) g := rfl
@[simp] theorem aNil_ap (e : Env) : aNil e = ret [] := rfl
@[simp] theorem aCons_ap (a : Env → M D) (r : Env → M (List D)) (e : Env) : aCons a r e = bind (a e) fun d => bind (r e) fun ds => ret (d :: ds) := rfl
@[simp] theorem aStar_ap (a : Env → M D) (r : Env → M (List D)) (e : Env) : aStar a r e = bind (a e) fun d => fun S => match rdQ S d with
  | some xs => (bind (r e) fun ds => ret (xs ++ ds)) S
  | none => .no := rfl
@[simp] theorem eA_ap (g : List D → M D) (a : Env → M (List D)) (e : Env) : eA g a e = bind (a e) g := rfl
@[simp] theorem eA0_ap (g : List D → M D) (e : Env) (S : Sto) : eA0 g e S = noE (g [] S) := rfl
@[simp] theorem tOf_ap (a : Env → M D) (e : Env) : tOf a e = bind (a e) dBool := rfl
@[simp] theorem tTruth_ap (a : Env → M D) (e : Env) : tTruth a e = bind (a e) dTruth := rfl
@[simp] theorem dTruth_lst (ds : List D) (S : Sto) : dTruth (.lst ds) S = .ok (!ds.isEmpty) S := rfl
@[simp] theorem dTruth_tup (ds : List D) (S : Sto) : dTruth (.tup ds) S = .ok (!ds.isEmpty) S := rfl
@[simp] theorem dTruth_int (i : Int) (S : Sto) : dTruth (.int i) S = .ok (i != 0) S := rfl
@[simp] theorem dTruth_bl (i : Bool) (S : Sto) : dTruth (.bl i) S = .ok i S := rfl
@[simp] theorem dTruth_non (S : Sto) : dTruth .non S = .ok false S := rfl
@[simp] theorem dBool_bl (b : Bool) : dBool (.bl b) = ret b := rfl
@[simp] theorem tNotP_ap (a : Env → M Bool) (e : Env) : tNotP a e = bind (a e) fun b => ret (!b) := rfl
@[simp] theorem tAndP_ap (a b : Env → M Bool) (e : Env) : tAndP a b e = bind (a e) fun x => if x then b e else ret false := rfl
@[simp] theorem tOrP_ap (a b : Env → M Bool) (e : Env) : tOrP a b e = bind (a e) fun x => if x then ret true else b e := rfl
@[simp] theorem eIf_ap (t : Env → M Bool) (a b : Env → M D) (e : Env) : eIf t a b e = bind (t e) fun x => if x then a e else b e := rfl
@[simp] theorem eAnd_ap (a b : Env → M D) (e : Env) : eAnd a b e = bind (a e) fun x => bind (dBool x) fun c => if c then b e else ret (.bl false) := rfl
@[simp] theorem eOr_ap (a b : Env → M D) (e : Env) : eOr a b e = bind (a e) fun x => bind (dBool x) fun c => if c then ret (.bl true) else b e := rfl
@[simp] theorem eNot_ap (a : Env → M D) (e : Env) : eNot a e = bind (a e) fun x => bind (dBool x) fun c => ret (.bl (!c)) := rfl
@[simp] theorem eChain_ap (g g' : D → D → M D) (a b c : Env → M D) (e : Env) : eChain g g' a b c e = bind (a e) fun x => bind (b e) fun y => bind (g x y) fun z => bind (dBool z) fun k => if k then bind (c e) fun u => g' y u else ret (.bl false) := rfl
@[simp] theorem oNone_ap (e : Env) : oNone e = ret none := rfl
@[simp] theorem oSome_ap (a : Env → M D) (e : Env) : oSome a e = bind (a e) fun d => match d with
  | .int i => ret (some i)
  | _ => stuck := rfl
@[simp] theorem eSl_ap (a : Env → M D) (lo hi : Env → M (Option Int)) (e : Env) : eSl a lo hi e = bind (a e) fun x => bind (lo e) fun l => bind (hi e) fun h => dSl x l h := rfl
@[simp] theorem if_ap {α : Type} (c : Prop) [Decidable c] (m n : M α) (S : Sto) : (if c then m else n) S = if c then m S else n S := by split <;> rfl
@[simp] theorem ifS_ap (c : Prop) [Decidable c] (m n : Stm) (e : Env) (S : Sto) : (if c then m else n) e S = if c then m e S else n e S := by split <;> rfl
@[simp] theorem gd_ap {α : Type} (c : Prop) [Decidable c] (m : M α) (S : Sto) : gd c m S = if c then m S else .no := by unfold gd; split <;> rfl
@[simp] theorem orM_ap {α : Type} (x y : Env → M α) (e : Env) (S : Sto) : orM x y e S = match x e S with
  | .no => y e S
  | o => o := rfl
@[simp] theorem dAdd_ii (i j : Int) : dAdd (.int i) (.int j) = ret (.int (i + j)) := rfl
@[simp] theorem dAdd_tt (a b : List D) : dAdd (.tup a) (.tup b) = gd (a.length + b.length ≤ lim) (ret (.tup (a ++ b))) := rfl
@[simp] theorem dAdd_ll (a b : List D) : dAdd (.lst a) (.lst b) = gd (a.length + b.length ≤ lim) (ret (.lst (a ++ b))) := rfl
@[simp] theorem dSub_ii (i j : Int) : dSub (.int i) (.int j) = ret (.int (i - j)) := rfl
@[simp] theorem dMul_ii (i j : Int) : dMul (.int i) (.int j) = gd (i.natAbs.log2 + j.natAbs.log2 < 1000000) (ret (.int (i * j))) := rfl
@[simp] theorem dMul_li (a : List D) (k : Int) : dMul (.lst a) (.int k) = gd (-1000 ≤ k ∧ k ≤ 1000 ∧ a.length * k.toNat ≤ lim) (ret (.lst (List.replicate k.toNat a).flatten)) := rfl
@[simp] theorem dMul_ti (a : List D) (k : Int) : dMul (.tup a) (.int k) = gd (a.length ≠ 0 ∧ 1 ≤ k ∧ k ≤ 1000 ∧ a.length ≤ 1000) (ret (.tup (List.replicate k.toNat a).flatten)) := rfl
@[simp] theorem dDiv_ii (i j : Int) : dDiv (.int i) (.int j) = gd (0 < j ∧ j.natAbs.log2 < 9000) (ret (.int (i / j))) := rfl
@[simp] theorem dMod_ii (i j : Int) : dMod (.int i) (.int j) = gd (0 < j) (ret (.int (i % j))) := rfl
@[simp] theorem dPow_ii (i j : Int) : dPow (.int i) (.int j) = gd (0 ≤ j ∧ j ≤ 1000000 ∧ i.natAbs < 2 ^ 64) (ret (.int (i ^ j.toNat))) := rfl
@[simp] theorem dShl_ii (i j : Int) : dShl (.int i) (.int j) = gd (0 ≤ j ∧ (Builtin.Int.intBits i : Int) + j ≤ 2 ^ 27) (ret (.int (i * 2 ^ j.toNat))) := rfl
@[simp] theorem dShr_ii (i j : Int) : dShr (.int i) (.int j) = gd (0 ≤ j) (ret (.int (i / 2 ^ j.toNat))) := rfl
@[simp] theorem dNeg_i (i : Int) : dNeg (.int i) = ret (.int (-i)) := rfl
@[simp] theorem dLt_ii (i j : Int) : dLt (.int i) (.int j) = ret (.bl (decide (i < j))) := rfl
@[simp] theorem dLe_ii (i j : Int) : dLe (.int i) (.int j) = ret (.bl (decide (i ≤ j))) := rfl
@[simp] theorem dGt_ii (i j : Int) : dGt (.int i) (.int j) = ret (.bl (decide (j < i))) := rfl
@[simp] theorem dGe_ii (i j : Int) : dGe (.int i) (.int j) = ret (.bl (decide (j ≤ i))) := rfl
@[simp] theorem dIsN_ap (neg : Bool) (d : D) : dIsN neg d .non = ret (.bl (neg != d.isNon)) := by cases d <;> rfl
@[simp] theorem isNon_non : D.isNon .non = true := rfl
@[simp] theorem isNon_int (i : Int) : D.isNon (.int i) = false := rfl
@[simp] theorem isNon_tup (i : List D) : D.isNon (.tup i) = false := rfl
@[simp] theorem isNon_lst (i : List D) : D.isNon (.lst i) = false := rfl
@[simp] theorem isNon_obj (c : Str) (i : List (Str × D)) : D.isNon (.obj c i) = false := rfl
@[simp] theorem dTup_ap (ds : List D) : dTup ds = gd (ds.length ≤ lim) (ret (.tup ds)) := rfl
@[simp] theorem dLst_ap (ds : List D) : dLst ds = gd (ds.length ≤ lim) (ret (.lst ds)) := rfl
@[simp] theorem dNew_ap (ds : List D) (S : Sto) : dNew ds S = if ds.length ≤ lim then .ok (.ptr S.length) (S ++ [.lst ds]) else .no := rfl
@[simp] theorem rdQ_tup (S : Sto) (ds : List D) : rdQ S (.tup ds) = some ds := rfl
@[simp] theorem rdQ_lst (S : Sto) (ds : List D) : rdQ S (.lst ds) = some ds := rfl
@[simp] theorem rdQ_scr (S : Sto) (ns : List Int) : rdQ S (.scr ns) = some (ns.map .int) := rfl
@[simp] theorem rdQ_ptr (S : Sto) (n : Nat) : rdQ S (.ptr n) = match S[n]? with
  | some (.lst ds) => some ds
  | _ => none := rfl
@[simp] theorem rdL_lst (S : Sto) (ds : List D) : rdL S (.lst ds) = some ds := rfl
@[simp] theorem rdL_scr (S : Sto) (ns : List Int) : rdL S (.scr ns) = some (ns.map .int) := rfl
@[simp] theorem rdL_ptr (S : Sto) (n : Nat) : rdL S (.ptr n) = match S[n]? with
  | some (.lst ds) => some ds
  | _ => none := rfl
@[simp] theorem wQ_ap {α : Type} (x : D) (g : List D → M α) (S : Sto) : wQ x g S = match rdQ S x with
  | some ds => g ds S
  | none => .no := rfl
@[simp] theorem wL_ap {α : Type} (x : D) (g : List D → M α) (S : Sto) : wL x g S = match rdL S x with
  | some ds => g ds S
  | none => .no := rfl
@[simp] theorem dIx_ap (x : D) (i : Int) (S : Sto) : dIx x (.int i) S = match rdQ S x with
    | some ds => match atI ds i with
      | some d => .ok d S
      | none => .no
    | none => .no := rfl
theorem atI_get {α : Type} {xs : List α} {i : Nat} {a : α} (h : xs[i]? = some a) : atI xs (i : Int) = some a := by
  have hl := (List.getElem?_eq_some_iff.mp h).1
  unfold atI ixN
  rw [if_pos (by omega), if_pos (by omega)]
  simpa using h
theorem atI_pos {α : Type} {xs : List α} {i : Int} {a : α} (h0 : 0 ≤ i) (h : xs[i.toNat]? = some a) : atI xs i = some a := by
  have := atI_get h
  rwa [Int.toNat_of_nonneg h0] at this
theorem atI_last {α : Type} {xs : List α} {a : α} : atI (xs ++ [a]) (-1) = some a := by
  unfold atI ixN
  rw [if_neg (by decide), if_pos (by simp; omega)]
  have : (-1 + ((xs ++ [a]).length : Int)).toNat = xs.length := by
    simp only [List.length_append, List.length_cons, List.length_nil]
    omega
  show (xs ++ [a])[(-1 + ((xs ++ [a]).length : Int)).toNat]? = _
  rw [this]
  simp
@[simp] theorem atI_zero {α : Type} (x : α) (xs : List α) : atI (x :: xs) 0 = some x := by
  have := atI_get (xs := x :: xs) (i := 0) (a := x) rfl
  simpa using this
@[simp] theorem atI_one {α : Type} (x y : α) (xs : List α) : atI (x :: y :: xs) 1 = some y := by
  have := atI_get (xs := x :: y :: xs) (i := 1) (a := y) rfl
  simpa using this
@[simp] theorem atI_two {α : Type} (x y z : α) (xs : List α) : atI (x :: y :: z :: xs) 2 = some z := by
  have := atI_get (xs := x :: y :: z :: xs) (i := 2) (a := z) rfl
  simpa using this
@[simp] theorem atI_three {α : Type} (x y z u : α) (xs : List α) : atI (x :: y :: z :: u :: xs) 3 = some u := by
  have := atI_get (xs := x :: y :: z :: u :: xs) (i := 3) (a := u) rfl
  simpa using this
theorem log2_lt64 {n : Nat} (h : n < 18446744073709551616) : n.log2 < 64 := by
  by_cases z : n = 0
  · subst z
    decide
  · exact (Nat.log2_lt z).mpr h
@[simp] theorem log2_9000 {n : Nat} (h : n < 18446744073709551616) : (n.log2 < 9000) = True := eq_true (Nat.lt_trans (log2_lt64 h) (by decide))
@[simp] theorem log2_5999 {n : Nat} (h : n < 18446744073709551616) : (n.log2 < 5999) = True := eq_true (Nat.lt_trans (log2_lt64 h) (by decide))
@[simp] theorem log2_sum {a b : Nat} (ha : a < 18446744073709551616) (hb : b < 18446744073709551616) : (a.log2 + b.log2 < 1000000) = True := eq_true (by
  have h1 := log2_lt64 ha
  have h2 := log2_lt64 hb
  omega)
@[simp] theorem d1_ap (g : D → M D) (d : D) : d1 g [d] = g d := rfl
@[simp] theorem d2_ap (g : D → D → M D) (d e : D) : d2 g [d, e] = g d e := rfl
@[simp] theorem dLen_ap (x : D) : dLen x = wQ x fun ds => ret (.int ds.length) := rfl
@[simp] theorem dInt_int (i : Int) : dInt (.int i) = ret (.int i) := rfl
@[simp] theorem dInt_bl (b : Bool) : dInt (.bl b) = ret (.int (if b then 1 else 0)) := rfl
@[simp] theorem dAbs_int (i : Int) : dAbs (.int i) = ret (.int (if i < 0 then -i else i)) := rfl
@[simp] theorem dMin2_int (i j : Int) : dMin2 (.int i) (.int j) = ret (.int (if j < i then j else i)) := rfl
@[simp] theorem dMax2_int (i j : Int) : dMax2 (.int i) (.int j) = ret (.int (if j > i then j else i)) := rfl
@[simp] theorem dGcd_int (i j : Int) : dGcd (.int i) (.int j) = ret (.int ((Nat.gcd i.natAbs j.natAbs : Nat) : Int)) := rfl
@[simp] theorem dLcm_int (i j : Int) : dLcm (.int i) (.int j) = gd (0 ≤ i ∧ 0 ≤ j ∧ i.toNat.log2 < 5999 ∧ j.toNat.log2 < 5999) (ret (.int ((Nat.lcm i.toNat j.toNat : Nat) : Int))) := rfl
@[simp] theorem dTuple_tup (ds : List D) (S : Sto) : dTuple (.tup ds) S = .ok (.tup ds) S := rfl
@[simp] theorem dTuple_lst (ds : List D) (S : Sto) : dTuple (.lst ds) S = .ok (.tup ds) S := rfl
@[simp] theorem dTuple_ptr (n : Nat) (S : Sto) : dTuple (.ptr n) S = wL (.ptr n) (fun ds => ret (.tup ds)) S := rfl
@[simp] theorem dList_ap (x : D) : dList x = wQ x fun ds => ret (.lst ds) := rfl
@[simp] theorem dListC_ap (x : D) : dListC x = wQ x dNew := rfl
@[simp] theorem dRange_ap (i j : Int) : dRange (.int i) (.int j) = gd (-1000000 ≤ i ∧ i ≤ 1000000 ∧ -1000000 ≤ j ∧ j ≤ 1000000) (ret (.lst (rangeD i j))) := rfl
@[simp] theorem dLRev_ap (x : D) : dLRev x = wL x fun ds => ret (.lst ds.reverse) := rfl
@[simp] theorem dRev_ap (x : D) : dRev x = wL x fun ds => ret (.lst ds.reverse) := rfl
@[simp] theorem eMeth_ap (c m : Str) (g : List D → M D) (o : Env → M D) (r : Env → M (List D)) (e : Env) : eMeth c m g o r e = bind (o e) fun d => fun S => if insOf S c m d then (bind (r e) fun ds => g (d :: ds)) S else .no := rfl
@[simp] theorem eMeth0_ap (c m : Str) (g : List D → M D) (o : Env → M D) (e : Env) : eMeth0 c m g o e = bind (o e) fun d => fun S => if insOf S c m d then noE (g [d] S) else .no := rfl
@[simp] theorem eMethH_ap (c m : Str) (g : List D → M D) (dd : List D) (o : Env → M D) (r : Env → M (List D)) (e : Env) : eMethH c m g dd o r e = bind (o e) fun d => fun S => if insOf S c m d then (bind (r e) fun ds => fun S2 => noE (g (d :: (ds ++ dd)) S2)) S else .no := rfl
@[simp] theorem insOf_obj (S : Sto) (c m c' : Str) (fs : List (Str × D)) : insOf S c m (.obj c' fs) = (decide (c' = c) && (fs.lookup m).isNone) := rfl
@[simp] theorem insOf_ptr (S : Sto) (c m : Str) (n : Nat) : insOf S c m (.ptr n) = match S[n]? with
    | some (.obj c' fs) => decide (c' = c) && (fs.lookup m).isNone
    | _ => false := rfl
@[simp] theorem look_cons {f g : String} {d : D} {r : List (Str × D)} : (((Str.ofString g, d) :: r : List (Str × D)).lookup (Str.ofString f)) = if f = g then some d else r.lookup (Str.ofString f) := by
  rw [List.lookup_cons]
  by_cases h : f = g
  · subst h
    simp
  · rw [if_neg h]
    have : (Str.ofString f == Str.ofString g) = false := by
      simp [h]
    rw [this]
@[simp] theorem look_nil {f : Str} : (([] : List (Str × D)).lookup f) = none := rfl
@[simp] theorem dFldC_obj (cs : List Str) (f c : Str) (fs : List (Str × D)) (S : Sto) : dFldC cs f (.obj c fs) S = if cs.contains c then match fs.lookup f with
    | some d => .ok d S
    | none => .no else .no := rfl
@[simp] theorem dFldC_ptr (cs : List Str) (f : Str) (n : Nat) (S : Sto) : dFldC cs f (.ptr n) S = match S[n]? with
    | some (.obj c fs) => if cs.contains c then match fs.lookup f with
      | some d => .ok d S
      | none => .no else .no
    | _ => .no := rfl
@[simp] theorem dPut_ap (cs : List Str) (f : Str) (n : Nat) (v : D) (S : Sto) : dPut cs f (.ptr n) v S = match S[n]? with
    | some (.obj c fs) => gd (cs.contains c = true ∧ fs.length < 1000) (fun S => .ok .non (S.set n (.obj c (putD f v fs)))) S
    | _ => .no := rfl
@[simp] theorem putD_cons {f g : String} {v x : D} {r : List (Str × D)} : putD (Str.ofString f) v ((Str.ofString g, x) :: r) = if g = f then (Str.ofString g, v) :: r else (Str.ofString g, x) :: putD (Str.ofString f) v r := by
  show (if Str.ofString g = Str.ofString f then _ else _) = _
  simp only [str_inj]
@[simp] theorem putD_nil {f : Str} {v : D} : putD f v [] = [(f, v)] := rfl
theorem mkObj_ap (keep : Bool) (c : Str) (g : List D → M D) (ds : List D) (S : Sto) : mkObj keep c g ds S = match g (.ptr S.length :: ds) (S ++ [.obj c []]) with
  | .ok .non S' => match S'[S.length]? with
    | some (.obj c' fs) => if keep then .ok (.ptr S.length) S' else .ok (.obj c' fs) (S'.set S.length .dead)
    | _ => .no
  | .er x S' => .er x S'
  | _ => .no := rfl
@[simp] theorem asBools_comp {α : Type} (f : α → Bool) (xs : List α) : asBools (xs.map (D.bl ∘ f)) = some (xs.map f) := by
  rw [← List.map_map]
  exact bools_map _
@[simp] theorem asBools_fun {α : Type} (f : α → Bool) (xs : List α) : asBools (xs.map fun a => D.bl (f a)) = some (xs.map f) := asBools_comp f xs
@[simp] theorem asInts_comp {α : Type} (f : α → Int) (xs : List α) : asInts (xs.map (D.int ∘ f)) = some (xs.map f) := by
  rw [← List.map_map]
  exact asInts_map _
@[simp] theorem asInts_fun {α : Type} (f : α → Int) (xs : List α) : asInts (xs.map fun a => D.int (f a)) = some (xs.map f) := asInts_comp f xs
@[simp] theorem asBools_rep (n : Nat) (b : Bool) : asBools (List.replicate n (D.bl b)) = some (List.replicate n b) := by
  rw [← List.map_replicate, bools_map]
@[simp] theorem asInts_rep (n : Nat) (b : Int) : asInts (List.replicate n (D.int b)) = some (List.replicate n b) := by
  rw [← List.map_replicate, asInts_map]
theorem dIs_ap (own : List Str) (ts : List Ty) (x : D) (S : Sto) {k : Ty} (h : kindOf S x = some k) (hk : okK own k = true) : dIs own sameC ts x S = .ok (.bl (ts.any (isK sameC k))) S := by
  unfold dIs
  rw [h]
  simp [hk]
@[simp] theorem dEq_ii (neg : Bool) (i j : Int) (S : Sto) : dEq neg (.int i) (.int j) S = .ok (.bl (neg != decide (i = j))) S := by
  unfold dEq
  simp [rdD, D.okD, D.py, PyData.eqv]
  by_cases h : i = j <;> simp [h]
@[simp] theorem dEq_ss (neg : Bool) (a b : String) (S : Sto) : dEq neg (.str a) (.str b) S = .ok (.bl (neg != decide (a = b))) S := by
  unfold dEq
  simp [rdD, D.okD, D.py, PyData.eqv]
  by_cases h : a = b <;> simp [h]
@[simp] theorem dEq_bb (neg : Bool) (i j : Bool) (S : Sto) : dEq neg (.bl i) (.bl j) S = .ok (.bl (neg != decide (i = j))) S := by
  unfold dEq
  simp [rdD, D.okD, D.py, PyData.eqv]
  cases i <;> cases j <;> rfl
instance : DecidableEq D := fun a b => if h : D.same a b = true then .isTrue (same_eq h) else .isFalse fun e => h (e ▸ same_refl a)
mutual
/-- numbers, texts, None, and groups of these -/
def D.pl : D → Bool
  | .non => true
  | .int _ => true
  | .str _ => true
  | .tup ds => D.pls ds
  | .lst ds => D.pls ds
  | _ => false
def D.pls : List D → Bool
  | [] => true
  | d :: ds => D.pl d && D.pls ds
end
theorem pls_all : ∀ ds : List D, D.pls ds = ds.all D.pl
  | [] => rfl
  | d :: ds => by
    show (D.pl d && D.pls ds) = _
    rw [pls_all ds]
    rfl
mutual
theorem eqv_pl : ∀ a b : D, a.pl = true → b.pl = true → PyData.eqv a.py b.py = decide (a = b)
  | .non, b, _, h => by cases b <;> simp_all [D.pl, D.py, PyData.eqv]
  | .int i, b, _, h => by
    cases b with
    | int j =>
      simp only [D.py, PyData.eqv, D.int.injEq]
      by_cases e : i = j <;> simp [e]
    | _ => simp_all [D.pl, D.py, PyData.eqv]
  | .str i, b, _, h => by
    cases b with
    | str j =>
      simp only [D.py, PyData.eqv, D.str.injEq]
      by_cases e : i = j <;> simp [e]
    | _ => simp_all [D.pl, D.py, PyData.eqv]
  | .tup xs, b, h1, h => by
    cases b with
    | tup ys =>
      simp only [D.py, PyData.eqv, D.tup.injEq]
      exact eqvs_pl xs ys h1 h
    | _ => simp_all [D.pl, D.py, PyData.eqv]
  | .lst xs, b, h1, h => by
    cases b with
    | lst ys =>
      simp only [D.py, PyData.eqv, D.lst.injEq]
      exact eqvs_pl xs ys h1 h
    | _ => simp_all [D.pl, D.py, PyData.eqv]
  | .bl _, _, h, _ => by cases h
  | .obj _ _, _, h, _ => by cases h
  | .ptr _, _, h, _ => by cases h
  | .scr _, _, h, _ => by cases h
theorem eqvs_pl : ∀ xs ys : List D, D.pls xs = true → D.pls ys = true → PyData.eqvAll (D.pys xs) (D.pys ys) = decide (xs = ys)
  | [], [], _, _ => rfl
  | [], y :: ys, _, _ => rfl
  | x :: xs, [], _, _ => rfl
  | x :: xs, y :: ys, h1, h2 => by
    obtain ⟨a1, a2⟩ := Bool.and_eq_true_iff.mp h1
    obtain ⟨b1, b2⟩ := Bool.and_eq_true_iff.mp h2
    show (PyData.eqv x.py y.py && PyData.eqvAll (D.pys xs) (D.pys ys)) = _
    rw [eqv_pl x y a1 b1, eqvs_pl xs ys a2 b2]
    simp [Bool.decide_and]
end
/-- plain and not deep -/
def D.fit (n : Nat) (d : D) : Bool := d.pl && d.okD n
@[simp] theorem fit_int (n : Nat) (i : Int) : D.fit n (.int i) = true := by cases n <;> rfl
@[simp] theorem fit_non (n : Nat) : D.fit n .non = true := by cases n <;> rfl
@[simp] theorem fit_str (n : Nat) (a : String) : D.fit n (.str a) = true := by
  unfold D.fit
  cases n <;> simp [D.pl, D.okD]
@[simp] theorem fit_tup (n : Nat) (ds : List D) : D.fit (n + 1) (.tup ds) = ds.all (D.fit n) := by
  unfold D.fit
  show (D.pls ds && ds.all (D.okD n)) = _
  rw [pls_all]
  induction ds with
  | nil => rfl
  | cons d ds ih =>
    simp only [List.all_cons]
    rw [← ih]
    cases d.pl <;> cases d.okD n <;> simp
@[simp] theorem fit_lst (n : Nat) (ds : List D) : D.fit (n + 1) (.lst ds) = ds.all (D.fit n) := by
  rw [← fit_tup]
  rfl
theorem fit_ok {d : D} (h : d.fit 12 = true) : d.pl = true ∧ d.okD 12 = true := Bool.and_eq_true_iff.mp h
theorem rdD_pl {d : D} (h : d.pl = true) (S : Sto) : rdD S d = d := by cases d <;> first | rfl | cases h
theorem dEq_fit (neg : Bool) {a b : D} (S : Sto) (ha : a.fit 12 = true) (hb : b.fit 12 = true) : dEq neg a b S = .ok (.bl (neg != decide (a = b))) S := by
  obtain ⟨a1, a2⟩ := fit_ok ha
  obtain ⟨b1, b2⟩ := fit_ok hb
  unfold dEq
  rw [rdD_pl a1, rdD_pl b1, eqv_pl _ _ a1 b1]
  simp [a2, b2]
theorem dIn_tup (neg : Bool) {a : D} {ds : List D} (S : Sto) (hn : neg = false) (ha : a.fit 12 = true) (hb : (D.tup ds).fit 12 = true) : dIn neg a (.tup ds) S = .ok (.bl (decide (a ∈ ds))) S := by
  obtain ⟨a1, a2⟩ := fit_ok ha
  obtain ⟨b1, b2⟩ := fit_ok hb
  unfold dIn
  show gd _ _ S = _
  rw [rdD_pl a1]
  simp only [gd_ap]
  rw [if_pos ⟨hn, a2, b2⟩]
  show Out.ok _ S = _
  congr 2
  have b1 : D.pls ds = true := b1
  rw [pls_all] at b1
  rw [pys_map, List.any_map]
  rw [Bool.eq_iff_iff, decide_eq_true_iff, List.any_eq_true]
  constructor
  · rintro ⟨z, hz, h⟩
    have h : PyData.eqv z.py a.py = true := h
    rw [eqv_pl z a (List.all_eq_true.mp b1 z hz) a1] at h
    rw [← of_decide_eq_true h]
    exact hz
  · intro h
    refine ⟨a, h, ?_⟩
    show PyData.eqv a.py a.py = true
    rw [eqv_pl a a a1 a1]
    exact decide_eq_true rfl
@[simp] theorem iSeq_ap (a : Env → M D) (e : Env) : iSeq a e = bind (a e) fun d => fun S => oM (itmOf S d) ret S := rfl
@[simp] theorem itmOf_tup (S : Sto) (ds : List D) : itmOf S (.tup ds) = some ⟨ds, []⟩ := rfl
@[simp] theorem itmOf_lst (S : Sto) (ds : List D) : itmOf S (.lst ds) = some ⟨ds, []⟩ := rfl
@[simp] theorem itmOf_scr (S : Sto) (ds : List Int) : itmOf S (.scr ds) = some ⟨ds.map .int, []⟩ := rfl
@[simp] theorem iNum_ap (a : Env → M D) (e : Env) : iNum a e = bind (iSeq a e) fun it => ret ⟨numD it.ds, it.src⟩ := rfl
@[simp] theorem iZip2_ap (a : Env → M (List D)) (e : Env) : iZip2 a e = bind (a e) fun ds => match ds with
  | [.tup xs, .tup ys] => ret ⟨zipD xs ys, []⟩
  | [x, y] => fun S => oM (rdS S x) (fun i => oM (rdS S y) (fun j => ret ⟨zipD i.ds j.ds, i.src ++ j.src⟩)) S
  | _ => stuck := rfl
@[simp] theorem iR1_ap (a : Env → M (List D)) (e : Env) : iR1 a e = bind (a e) fun ds => match ds with
  | [.int j] => gd (-1000000 ≤ j ∧ j ≤ 1000000) (ret ⟨rangeD 0 j, []⟩)
  | _ => stuck := rfl
@[simp] theorem iR2_ap (a : Env → M (List D)) (e : Env) : iR2 a e = bind (a e) fun ds => match ds with
  | [.int i, .int j] => gd (-1000000 ≤ i ∧ i ≤ 1000000 ∧ -1000000 ≤ j ∧ j ≤ 1000000) (ret ⟨rangeD i j, []⟩)
  | _ => stuck := rfl
/-- what a turn leaves: the invariant, or what is wished behind the loop -/
def Turn (I : Env → Sto → Prop) (G : SO → Prop) (o : SO) : Prop := match o with
  | .nx e2 S2 => I e2 S2
  | .ct e2 S2 => I e2 S2
  | .bk e2 S2 => G (.nx e2 S2)
  | .rt r S2 => G (.rt r S2)
  | .er x e2 S2 => G (.er x e2 S2)
  | .no => False
@[simp] theorem turn_nx (I : Env → Sto → Prop) (G : SO → Prop) (e : Env) (S : Sto) : Turn I G (.nx e S) = I e S := rfl
@[simp] theorem turn_ct (I : Env → Sto → Prop) (G : SO → Prop) (e : Env) (S : Sto) : Turn I G (.ct e S) = I e S := rfl
@[simp] theorem turn_bk (I : Env → Sto → Prop) (G : SO → Prop) (e : Env) (S : Sto) : Turn I G (.bk e S) = G (.nx e S) := rfl
@[simp] theorem turn_rt (I : Env → Sto → Prop) (G : SO → Prop) (d : D) (S : Sto) : Turn I G (.rt d S) = G (.rt d S) := rfl
@[simp] theorem turn_er (I : Env → Sto → Prop) (G : SO → Prop) (x : Er) (e : Env) (S : Sto) : Turn I G (.er x e S) = G (.er x e S) := rfl
@[simp] theorem turn_no (I : Env → Sto → Prop) (G : SO → Prop) : Turn I G .no = False := rfl
/-- a loop: what stays true, what is wished behind it -/
theorem forGo_rule {src : List (Nat × List D)} {tg : D → Env → Option Env} {body : Stm} {ds : List D} {G : SO → Prop} {e : Env} {S : Sto} (I : Nat → Env → Sto → Prop) (h0 : I 0 e S)
    (hs : ∀ (i : Nat) (d : D) (e : Env) (S : Sto), ds[i]? = some d → I i e S → okSrc src S = true ∧ ∃ e1, tg d e = some e1 ∧ Turn (I (i + 1)) G (body e1 S))
    (hd : ∀ (e : Env) (S : Sto), I ds.length e S → okSrc src S = true ∧ G (.nx e S)) : G (forGo src tg body ds e S) := by
  induction ds generalizing e S I with
  | nil =>
    obtain ⟨a, b⟩ := hd e S h0
    unfold forGo
    rw [if_pos a]
    exact b
  | cons d ds ih =>
    obtain ⟨ok, e1, h1, h2⟩ := hs 0 d e S rfl h0
    unfold forGo
    rw [if_pos ok, h1]
    simp only
    cases q : body e1 S with
    | nx e2 S2 =>
      rw [q] at h2
      exact ih (I := fun i => I (i + 1)) h2 (fun i d e S hi hI => hs (i + 1) d e S (by simpa using hi) hI) fun e S h => hd e S (by simpa using h)
    | ct e2 S2 =>
      rw [q] at h2
      exact ih (I := fun i => I (i + 1)) h2 (fun i d e S hi hI => hs (i + 1) d e S (by simpa using hi) hI) fun e S h => hd e S (by simpa using h)
    | bk e2 S2 =>
      rw [q] at h2
      exact h2
    | rt r S2 =>
      rw [q] at h2
      exact h2
    | er x e2 S2 =>
      rw [q] at h2
      exact h2
    | no =>
      rw [q] at h2
      exact h2.elim
@[simp] theorem sFor_ap (it : Env → M Itm) (tg : D → Env → Option Env) (body : Stm) (e : Env) (S : Sto) : sFor it tg body e S = (it e S).stm e fun I => forGo I.src tg body I.ds := rfl
/-- a while: what stays true, and what falls -/
theorem whl_rule {t : Env → M Bool} {body : Stm} {G : SO → Prop} {e : Env} {S : Sto} (I : Nat → Env → Sto → Prop) (n : Nat) (h0 : I n e S)
    (hs : ∀ (n : Nat) (e : Env) (S : Sto), I n e S → ∃ (b : Bool) (S1 : Sto), t e S = .ok b S1 ∧ if b then ∃ e2 S2, body e S1 = .nx e2 S2 ∧ ∃ m, m < n ∧ I m e2 S2 else G (.nx e S1)) : G (sWhl t body e S) := by
  induction n using Nat.strongRecOn generalizing e S with
  | _ n ih =>
    obtain ⟨b, S1, h1, h2⟩ := hs n e S h0
    cases b with
    | false =>
      rw [whl_end h1]
      simpa using h2
    | true =>
      simp only [if_true] at h2
      obtain ⟨e2, S2, hb, m, hm, hI⟩ := h2
      rw [whl_turn h1 hb]
      exact ih m hm hI
@[simp] theorem eLc_ap (keep : Bool) (it : Env → M Itm) (vs : List Nat) (tg : D → Env → Option Env) (t : Env → M Bool) (m : Env → M D) (e : Env) (S : Sto) : eLc keep it vs tg t m e S = ((it e S).then fun I => gd (I.ds.length ≤ lim) (bind (noEM (lcGo I.src tg t m (wipeE e vs) I.ds)) (if keep then fCell else fLst))) := rfl
@[simp] theorem fLst_ap (ds : List D) (S : Sto) : fLst ds S = .ok (.lst ds) S := rfl
@[simp] theorem fCell_ap (ds : List D) (S : Sto) : fCell ds S = .ok (.ptr S.length) (S ++ [.lst ds]) := rfl
@[simp] theorem noEM_ap {α : Type} (m : M α) (S : Sto) : noEM m S = noE (m S) := rfl
@[simp] theorem tYes_ap (e : Env) : tYesP e = ret true := rfl
/-- a comprehension that only looks -/
theorem lcGo_map {α : Type} {tg : D → Env → Option Env} {t : Env → M Bool} {m : Env → M D} {e0 : Env} {S : Sto} (enc : α → D) (b : α → Bool) (f : α → D) : ∀ (xs : List α), (∀ x ∈ xs, ∃ e1, tg (enc x) e0 = some e1 ∧ t e1 S = .ok (b x) S ∧ (b x = true → m e1 S = .ok (f x) S)) → lcGo [] tg t m e0 (xs.map enc) S = .ok ((xs.filter b).map f) S
  | [], _ => rfl
  | x :: xs, h => by
    obtain ⟨e1, h1, h2, h3⟩ := h x (by simp)
    have ih := lcGo_map enc b f xs fun y hy => h y (List.mem_cons_of_mem _ hy)
    rw [List.map_cons]
    show (oM (tg (enc x) e0) _ : M _) S = _
    rw [h1]
    show ((t e1 S).then _) = _
    rw [h2]
    show (if b x = true then _ else _ : M _) S = _
    cases hb : b x with
    | true =>
      simp only [if_true]
      show ((m e1 S).then _) = _
      rw [h3 hb]
      show ((lcGo [] tg t m e0 (xs.map enc) S).then _) = _
      rw [ih, List.filter_cons_of_pos hb]
      rfl
    | false =>
      rw [List.filter_cons_of_neg (by rw [hb]; decide)]
      simpa using ih
theorem lcGo_all {α : Type} {tg : D → Env → Option Env} {m : Env → M D} {e0 : Env} {S : Sto} (enc : α → D) (f : α → D) (xs : List α) (h : ∀ x ∈ xs, ∃ e1, tg (enc x) e0 = some e1 ∧ m e1 S = .ok (f x) S) : lcGo [] tg tYesP m e0 (xs.map enc) S = .ok (xs.map f) S := by
  have := lcGo_map (t := tYesP) enc (fun _ => true) f xs fun x hx => by
    obtain ⟨e1, h1, h2⟩ := h x hx
    exact ⟨e1, h1, rfl, fun _ => h2⟩
  rw [this, List.filter_eq_self.mpr (fun _ _ => rfl)]
/-- .. that changes what stands there -/
theorem lcGo_run {tg : D → Env → Option Env} {t : Env → M Bool} {m : Env → M D} {e0 : Env} {src : List (Nat × List D)} (P : Nat → List D → Sto → Prop) : ∀ (ds : List D) (k : Nat) (acc : List D) (S : Sto), P k acc S →
    (∀ (i : Nat) (d : D) (acc : List D) (S : Sto), ds[i]? = some d → P (k + i) acc S → okSrc src S = true ∧ ∃ e1 b S1, tg d e0 = some e1 ∧ t e1 S = .ok b S1 ∧ if b then ∃ y S2, m e1 S1 = .ok y S2 ∧ P (k + i + 1) (acc ++ [y]) S2 else P (k + i + 1) acc S1) →
    (∀ acc S, P (k + ds.length) acc S → okSrc src S = true) → ∃ ys S', lcGo src tg t m e0 ds S = .ok ys S' ∧ P (k + ds.length) (acc ++ ys) S'
  | [], k, acc, S, h, _, he => ⟨[], S, by
    show (if okSrc src S then _ else _) = _
    rw [if_pos (he acc S h)]
    rfl, by simpa using h⟩
  | d :: ds, k, acc, S, h, hs, he => by
    obtain ⟨ok, e1, b, S1, h1, h2, h3⟩ := hs 0 d acc S rfl h
    have e0' : lcGo src tg t m e0 (d :: ds) S = (t e1 S).then fun b => if b then bind (m e1) fun y => bind (lcGo src tg t m e0 ds) fun ys => ret (y :: ys) else lcGo src tg t m e0 ds := by
      show (if okSrc src S then (oM (tg d e0) _ : M _) S else _) = _
      rw [if_pos ok, h1]
      rfl
    rw [e0', h2]
    have step : ∀ (i : Nat) (d' : D) (acc : List D) (S : Sto), ds[i]? = some d' → P (k + 1 + i) acc S → okSrc src S = true ∧ ∃ e1 b S1, tg d' e0 = some e1 ∧ t e1 S = .ok b S1 ∧ if b then ∃ y S2, m e1 S1 = .ok y S2 ∧ P (k + 1 + i + 1) (acc ++ [y]) S2 else P (k + 1 + i + 1) acc S1 := fun i d' acc S hi hp => by
      have := hs (i + 1) d' acc S (by simpa using hi) (by rw [← Nat.add_assoc, Nat.add_right_comm]; exact hp)
      rwa [show k + (i + 1) + 1 = k + 1 + i + 1 by omega] at this
    have fin : ∀ acc S, P (k + 1 + ds.length) acc S → okSrc src S = true := fun acc S hp => he acc S (by rw [List.length_cons, ← Nat.add_assoc, Nat.add_right_comm]; exact hp)
    cases b with
    | true =>
      simp only [if_true] at h3
      obtain ⟨y, S2, h4, h5⟩ := h3
      obtain ⟨ys, S', q1, q2⟩ := lcGo_run P ds (k + 1) (acc ++ [y]) S2 h5 step fin
      refine ⟨y :: ys, S', ?_, ?_⟩
      · show ((m e1 S1).then _) = _
        rw [h4]
        show ((lcGo src tg t m e0 ds S2).then _) = _
        rw [q1]
        rfl
      · rw [List.length_cons, show k + (ds.length + 1) = k + 1 + ds.length by omega]
        rw [List.append_assoc] at q2
        exact q2
    | false =>
      have h3 : P (k + 0 + 1) acc S1 := by simpa using h3
      obtain ⟨ys, S', q1, q2⟩ := lcGo_run P ds (k + 1) acc S1 h3 step fin
      refine ⟨ys, S', ?_, ?_⟩
      · simpa using q1
      · rw [List.length_cons, show k + (ds.length + 1) = k + 1 + ds.length by omega]
        exact q2
theorem rangeD_map (i j : Int) : rangeD i j = ((List.range (j - i).toNat).map fun (k : Nat) => (i + k : Int)).map D.int := by
  unfold rangeD
  rw [List.map_map]
  rfl
/-- the whole numbers from i to below j -/
def rng (i j : Int) : List Int := (List.range (j - i).toNat).map fun (k : Nat) => (i + k : Int)
theorem rangeD_rng (i j : Int) : rangeD i j = (rng i j).map D.int := rangeD_map i j
@[simp] theorem rng_length (i j : Int) : (rng i j).length = (j - i).toNat := by simp [rng]
theorem mem_rng {i j k : Int} : k ∈ rng i j ↔ i ≤ k ∧ k < j := by
  unfold rng
  simp only [List.mem_map, List.mem_range]
  constructor
  · rintro ⟨a, h, rfl⟩
    omega
  · intro h
    exact ⟨(k - i).toNat, by omega, by omega⟩
end PM
end
section
set_option Elab.async false
set_option linter.all false
set_option maxRecDepth 100000
set_option maxHeartbeats 4000000
namespace PM
open PySem PySem.Spec PyProof.Rows L2 Evl
section
variable {X : Cx} {C : Ct} {a b c : Expr} {pos : Pos}
def sPar3 (i j l : Nat) (m : Env → M (List D)) : Stm := sE m fun ds e S => match ds with
  | [x, y, z] => .nx (setE l z (setE j y (setE i x e))) S
  | _ => .no
theorem cs_par3 {i j l : Nat} {x y z : Str} {ta : TA} {m : Env → M (List D)} {px py pz pt : Pos} {kt k2 pt2} (hc : X.calm = true) (hN : X.N.Nodup) (hi : X.N[i]? = some x) (hj : X.N[j]? = some y) (hl : X.N[l]? = some z) (hij : i ≠ j) (hil : i ≠ l) (hjl : j ≠ l) (hx : X.env.scope.names.lookup x = some .local) (hy : X.env.scope.names.lookup y = some .local) (hz : X.env.scope.names.lookup z = some .local) (ha : CA X C [a, b, c] ta m)
    (hw : swappedStores [.Tuple [.Name x px, .Name y py, .Name z pz] kt pt] (.Tuple [a, b, c] k2 pt2) X.env = pure (some [x, y, z]))
    (hs : swapsWithSole [.Tuple [.Name x px, .Name y py, .Name z pz] kt pt] (.Tuple [a, b, c] k2 pt2) pos.line X.env = pure false := by rfl) : CS X C (.Assign [.Tuple [.Name x px, .Name y py, .Name z pz] kt pt] (.Tuple [a, b, c] k2 pt2) pos) (tPar3 i j l ta) (sPar3 i j l m) := ⟨fun y => ps_par3 hc hN hi hj hl hij hil hjl hx hy hz (ha.pa y) hw hs, fun En e σ w S H E R q => ha.sn e σ w S H _ E R ((sE_sat q).imp (fun ds S1 h1 w1 H1 vs l1 R1 rs => by
  cases rs with
  | nil => exact h1.elim
  | cons a1 rs =>
    cases rs with
    | nil => exact h1.elim
    | cons a2 rs =>
      cases rs with
      | nil => exact h1.elim
      | cons a3 rs =>
        cases rs with
        | cons _ _ => exact h1.elim
        | nil => exact ⟨_, _, _, rfl, h1 w1 H1 _ l1 R1 ((((E.up l1).set i a1).set j a2).set l a3)⟩) fun x s z => pxs_px E z)⟩
end
section
variable {X : Cx} {C : Ct} {ta tb : TE} {a b : Expr} {ma mb : Env → M D} {pos : Pos}
def dAddC : D → D → M D
  | .lst x, .lst y => fun S => if x.length + y.length ≤ lim then .ok (.ptr S.length) (S ++ [.lst (x ++ y)]) else .no
  | _, _ => stuck
theorem ops_addC (K : Kw) : OpS K rCat dAddC := fun w S H x y d1 d2 Q E R a b h => by
  cases a with
  | @lst p xs ds s1 a1 =>
    cases b with
    | @lst q ys es s2 a2 =>
      have h : (if ds.length + es.length ≤ lim then Out.ok (D.ptr S.length) (S ++ [Cell.lst (ds ++ es)]) else Out.no : Out D).sat (PV K w Q) E := h
      by_cases c : ds.length + es.length ≤ lim
      · rw [if_pos c] at h
        refine ⟨p, q, xs, ys, rfl, rfl, R.ex _ _ s1, R.ex _ _ s2, sz_lim (by rw [a1.len, a2.len]; exact c), fun l hl => ?_⟩
        have R' := R.newcell (o := .lst (xs ++ ys)) (c := .lst (ds ++ es)) hl ⟨xs ++ ys, upd_same, a1.app a2⟩
        exact h _ _ _ Wd.le_cell R' (.ptr (cell_at l R))
      · rw [if_neg c] at h
        exact h.elim
    | _ => exact h.elim
  | _ => exact h.elim
theorem ce_addC (ha : CE X C a ta ma) (hb : CE X C b tb mb) : CE X C (.BinOp a .Add b pos) (tOp rCat ta tb) (e2 dAddC ma mb) := ce_op op_cat (ops_addC _) ha hb
end
end PM
end
section
set_option Elab.async false
set_option linter.all false
set_option maxRecDepth 100000
set_option maxHeartbeats 4000000
namespace PM
open PySem PySem.Spec PyProof.Rows L2 Evl
end PM
end
section
set_option Elab.async false
set_option linter.all false
set_option maxRecDepth 100000
set_option maxHeartbeats 4000000
namespace PM
open PySem PySem.Spec PyProof.Rows L2 Evl
mutual
theorem py_plain : ∀ d : D, PyData.plain d.py = true
  | .non => rfl
  | .bl _ => rfl
  | .int _ => rfl
  | .str _ => rfl
  | .tup ds => pys_plain ds
  | .lst ds => pys_plain ds
  | .obj _ _ => rfl
  | .ptr _ => rfl
  | .scr ns => by
    show PyData.plainAll (ns.map PyData.int) = true
    induction ns with
    | nil => rfl
    | cons n ns ih => exact ih
theorem pys_plain : ∀ ds : List D, PyData.plainAll (D.pys ds) = true
  | [] => rfl
  | d :: ds => by
    show (PyData.plain d.py && PyData.plainAll (D.pys ds)) = true
    rw [py_plain d, pys_plain ds]
    rfl
end
def rNotInDT (K : Kw) : R2 := fun x y H Q => ∃ d ds, Dp K H x d ∧ Dp K H y (.tuple ds) ∧ PyData.plain d = true ∧ PyData.plainAll ds = true ∧ PyData.depthAll ds ≤ 60 ∧ Q (.bl (!ds.any fun z => PyData.eqv z d)) H
theorem op_notInDT {X : Cx} (hu : X.A.units + 64 < cLine) : OpR X (compareOp .NotIn) (rNotInDT X.kw) := by
  intro pins s σ H x y v u Q I rx ry h
  obtain ⟨d, ds, hd, he, sd, se, hdp, q⟩ := h
  obtain ⟨as, r1⟩ := Dp.reads I d x v hd rx
  obtain ⟨bs, r2⟩ := Dp.reads I (.tuple ds) y u he ry
  exact SeqAt.notIn_tuple_data r2 r1 se sd (by omega) ⟨.bl _, H, I, rfl, q⟩
/-- x not in a tuple -/
def dNotInT (x y : D) : M D := match y with
  | .tup ds => gd (D.okD 12 x = true ∧ (D.tup ds).okD 12 = true) (ret (.bl (!(D.pys ds).any fun z => PyData.eqv z x.py)))
  | _ => stuck
theorem ops_notInT (K : Kw) : OpS K (rNotInDT K) dNotInT := fun w S H x y d1 d2 Q E R a b h => by
  unfold dNotInT at h
  cases d2 with
  | tup ds =>
    obtain ⟨⟨c1, c2⟩, h⟩ := gd_sat h
    obtain ⟨p1, p2, p3⟩ := dp_of R.ex 12 _ _ a c1
    obtain ⟨r1, r2, r3⟩ := dp_of R.ex 12 _ _ b c2
    refine ⟨_, D.pys ds, p1, r1, py_plain _, pys_plain _, ?_, h w H _ (Wd.le.refl w) R (.bl _)⟩
    simp only [D.py, PyData.depth] at r3
    omega
  | _ => exact h.elim
section
variable {X : Cx} {C : Ct} {ta tb : TE} {a b : Expr} {ma mb : Env → M D} {pos : Pos}
theorem ct_notInT (hu : X.A.units + 65 < cLine) (ha : CE X C a ta ma) (hb : CE X C b tb mb) (hm : behindInMarks .NotIn b = false) : CT X C (.Compare a [.NotIn] [b] pos) (tTest (tOp (rNotInDT C.K) ta tb)) (tOf (e2 dNotInT ma mb)) := ct_cmpK (fun K : Kw => rNotInDT K) (op_notInDT (by omega)) (ops_notInT _) ha hb hm
end
end PM
end
section
set_option Elab.async false
set_option linter.all false
set_option maxRecDepth 100000
set_option maxHeartbeats 4000000
namespace PM
open PySem PySem.Spec PyProof.Rows L2 Evl
section
variable {X : Cx} {C : Ct} {ta tb tc te : TE} {a b c tg : Expr} {ma mb mc : Env → M D} {pos : Pos}
def iRevS (a : Env → M D) (e : Env) : M Itm := bind (a e) fun d => fun S => oM (itmOf S d) (fun it => ret ⟨it.ds.reverse, it.src⟩) S
end
def valD (kvs : List (Key × D)) (k : Key) : Option D := (kvs.find? fun kv => decide (kv.1 = k)).map (·.2)
/-- x is True -/
def dIsB (neg : Bool) : D → D → M D
  | .bl a, .bl b => ret (.bl (neg != decide (a = b)))
  | _, _ => stuck
@[simp] theorem dIsB_bb (neg a b : Bool) : dIsB neg (.bl a) (.bl b) = ret (.bl (neg != decide (a = b))) := rfl
@[simp] theorem iRevS_ap (a : Env → M D) (e : Env) : iRevS a e = bind (a e) fun d => fun S => oM (itmOf S d) (fun it => ret ⟨it.ds.reverse, it.src⟩) S := rfl
end PM
end
section
set_option Elab.async false
set_option linter.all false
set_option maxRecDepth 100000
set_option maxHeartbeats 2000000
namespace PM
open PySem PySem.Spec PyProof.Rows L2 Evl
end PM
end
section
set_option Elab.async false
set_option linter.all false
set_option maxRecDepth 100000
set_option maxHeartbeats 2000000
namespace PM
open PySem PySem.Spec PyProof.Rows L2 Evl
end PM
end
section
set_option Elab.async false
set_option linter.all false
set_option maxRecDepth 100000
namespace PM
open PySem L2 Evl PySem.Spec PySem.Calls PyProof.Rows PyProof.V
def dSumT : D → M D
  | .tup ds => oM (asInts ds) fun ns => ret (.int ns.sum)
  | _ => stuck
@[simp] theorem dSumT_tup (ds : List D) (S : Sto) : dSumT (.tup ds) S = oM (asInts ds) (fun ns => ret (.int ns.sum)) S := rfl
end PM
end
section
set_option Elab.async false
set_option linter.all false
set_option maxRecDepth 100000
namespace PM
open PySem L2 Evl PySem.Spec PySem.Calls PyProof.Rows PyProof.V
section
variable {X : Cx} {C : Ct} {pos : Pos} {a : Expr} {ta : TE} {ma : Env → M D}
def dAddT : D → D → M D
  | .tup a, .tup b => gd (a.length + b.length ≤ lim) (ret (.tup (a ++ b)))
  | _, _ => stuck
/-- x += e, tuples -/
def sAugT (i : Nat) (m : Env → M D) : Stm := sE (eVar i) fun x => sE m fun y => sE (fun _ => dAddT x y) fun z e S => .nx (setE i z e) S
@[simp] theorem sAugT_ap (i : Nat) (m : Env → M D) (e : Env) (S : Sto) : sAugT i m e S = (eVar i e S).stm e fun x => sE m fun y => sE (fun _ => dAddT x y) fun z e S => .nx (setE i z e) S := rfl
@[simp] theorem dAddT_tt (a b : List D) : dAddT (.tup a) (.tup b) = gd (a.length + b.length ≤ lim) (ret (.tup (a ++ b))) := rfl
end
end PM
end
section
set_option Elab.async false
set_option linter.all false
set_option maxRecDepth 100000
namespace PM
open PySem L2 Evl
section
variable {X : Cx} {C : Ct} {pos apos : Pos}
def dPop (x : D) : M D := cellL x fun n ds => match ds[ds.length - 1]? with
  | some y => fun S => .ok y (S.set n (.lst ds.dropLast))
  | none => stuck
def ePop (o : Env → M D) (e : Env) : M D := bind (o e) dPop
theorem VRs.dropLast {K : Kw} {w : Wd} {vs : List V} {ds : List D} (h : VRs K w vs ds) : VRs K w vs.dropLast ds.dropLast := by
  rw [List.dropLast_eq_take, List.dropLast_eq_take, h.len]
  exact h.take _
def dIndexI (x : D) (as : List D) : M D := match as with
  | [.int k] => wL x fun ds => oM (asInts ds) fun ns => oM (ns.findIdx? fun m => decide (m = k)) fun j => ret (.int (j : Nat))
  | _ => stuck
def eIndexI (o : Env → M D) (r : Env → M (List D)) (e : Env) : M D := bind (o e) fun x => fun S => if (rdL S x).isSome then (bind (r e) fun as => dIndexI x as) S else .no
end
@[simp] theorem ePop_ap (o : Env → M D) (e : Env) : ePop o e = bind (o e) dPop := rfl
@[simp] theorem eIndexI_ap (o : Env → M D) (r : Env → M (List D)) (e : Env) : eIndexI o r e = bind (o e) fun x => fun S => if (rdL S x).isSome then (bind (r e) fun as => dIndexI x as) S else .no := rfl
end PM
end
section
set_option Elab.async false
set_option linter.all false
set_option maxRecDepth 100000
namespace PM
open PySem L2 Evl
end PM
end
section
set_option Elab.async false
set_option linter.all false
set_option maxRecDepth 100000
namespace PM
open PySem L2 Evl
section
variable {X : Cx} {C : Ct} {pos : Pos} {a : Expr} {ta : TE} {ma : Env → M D}
def dSlC (x : D) (lo hi : Option Int) : M D := fun S => match rdL S x with
  | some ds => .ok (.ptr S.length) (S ++ [.lst (cutD ds lo hi)])
  | none => .no
def eSlC (a : Env → M D) (lo hi : Env → M (Option Int)) (e : Env) : M D := bind (a e) fun x => bind (lo e) fun l => bind (hi e) fun h => dSlC x l h
theorem snd_slC {tl th : TO} {ml mh : Env → M (Option Int)} (ha : SndE C ta ma) (hl : SndO C tl ml) (hh : SndO C th mh) : SndE C (tSl (fun x l u H Q => rSlA C.K x l u H Q ∨ rSlL C.K x l u H Q) ta tl th) (eSlC ma ml mh) := fun e σ w S H Q E R h => by
  have h := sat_then.mp h
  refine ha e σ w S H _ E R (h.imp (fun d1 S1 h1 w1 H1 v1 l1 R1 r1 => ?_) (fun x s hx => hx))
  have h1 := sat_then.mp h1
  refine hl e σ w1 S1 H1 _ (E.up l1) R1 (h1.imp (fun lo S2 h2 w2 H2 l2 R2 => ?_) (fun x s hx => hx.up l1))
  have h2 := sat_then.mp h2
  refine hh e σ w2 S2 H2 _ (E.up (l1.trans l2)) R2 (h2.imp (fun hi S3 h3 w3 H3 l3 R3 => ?_) (fun x s hx => hx.up (l1.trans l2)))
  have l13 := (l1.trans l2).trans l3
  have r3 := r1.up (l2.trans l3)
  have h3 : (match rdL S3 d1 with
    | some ds => Out.ok (D.ptr S3.length) (S3 ++ [Cell.lst (cutD ds lo hi)])
    | none => Out.no).sat (PV C.K w Q) (PX C w σ) := h3
  cases z : rdL S3 d1 with
  | none =>
    rw [z] at h3
    exact h3.elim
  | some ds =>
    rw [z] at h3
    obtain ⟨p, xs, rfl, e2, e3, _⟩ := rdL_ok R3 r3 z
    refine .inr ⟨p, xs, rfl, e2, fun q hq => ?_⟩
    have R' := R3.newcell (o := .lst (cutV xs lo hi)) (c := .lst (cutD ds lo hi)) hq ⟨_, upd_same, cutR e3⟩
    exact h3 _ _ _ (l13.trans Wd.le_cell) R' (.ptr (cell_at q R3))
theorem ce_slC {lo hi : Option Expr} {tl th : TO} {ml mh : Env → M (Option Int)} {p2 : Pos} (ha : CE X C a ta ma) (hl : COp X C lo tl ml) (hh : COp X C hi th mh) :
    CE X C (.Subscript a (.Slice lo hi none p2) pos) (tSl (fun x l u H Q => rSlA C.K x l u H Q ∨ rSlL C.K x l u H Q) ta tl th) (eSlC ma ml mh) := ⟨ha.hK, fun y => pe_slice (by rw [← ha.hK]; exact slOr sl_tupA sl_list) (ha.pe y) (hl.po y) (hh.po y), snd_slC ha.sn hl.sn hh.sn⟩
end
end PM
end
section
set_option Elab.async false
set_option linter.all false
set_option maxRecDepth 100000
namespace PM
open PySem L2
noncomputable def b_is_integer : Stm := (sRet (eAnd (e1 (dIs [] sameC [(.inl "int")]) (eVar 0)) (eNot (e1 (dIs [] sameC [(.inl "bool")]) (eVar 0)))))
noncomputable def m_is_integer : List D → M D := runFn 1 1 b_is_integer
noncomputable def b_reduced : Stm := (sSeq (sAsg (eA (d2 dGcd) (aCons (eVar 0) (aCons (eVar 1) aNil))) (gN 2)) (sRet (eA dTup (aCons (e2 dDiv (eVar 0) (eVar 2)) (aCons (e2 dDiv (eVar 1) (eVar 2)) aNil)))))
noncomputable def m_reduced : List D → M D := runFn 2 3 b_reduced
noncomputable def b_is_fraction : Stm := (sSeq (sIf (tNotP (tOf (e1 (dIs [] sameC [(.inl "tuple")]) (eVar 0)))) (sRet (eA m_is_integer (aCons (eVar 0) aNil))) sNext) (sRet (eAnd (e2 (dEq false) (eA (d1 dLen) (aCons (eVar 0) aNil)) (eC (.int 2))) (eAnd (eA m_is_integer (aCons (e2 dIx (eVar 0) (eC (.int 0))) aNil)) (eAnd (eA m_is_integer (aCons (e2 dIx (eVar 0) (eC (.int 1))) aNil)) (e2 dGe (e2 dIx (eVar 0) (eC (.int 1))) (eC (.int 1))))))))
noncomputable def m_is_fraction : List D → M D := runFn 1 1 b_is_fraction
noncomputable def b_exact : Stm := (sSeq (sIf (tOf (e1 (dIs [] sameC [(.inl "tuple")]) (eVar 0))) (sRet (eA m_reduced (aCons (e2 dIx (eVar 0) (eC (.int 0))) (aCons (e2 dIx (eVar 0) (eC (.int 1))) aNil)))) sNext) (sRet (eA dTup (aCons (eVar 0) (aCons (eC (.int 1)) aNil)))))
noncomputable def m_exact : List D → M D := runFn 1 1 b_exact
noncomputable def b_is_amount : Stm := (sRet (eAnd (eA m_is_fraction (aCons (eVar 0) aNil)) (e2 dGe (eIf (tOf (e1 (dIs [] sameC [(.inl "tuple")]) (eVar 0))) (e2 dIx (eVar 0) (eC (.int 0))) (eVar 0)) (eC (.int 0)))))
noncomputable def m_is_amount : List D → M D := runFn 1 1 b_is_amount
noncomputable def b_times : Stm := (sSeq (sAsg (eA (d2 dGcd) (aCons (e2 dIx (eVar 0) (eC (.int 0))) (aCons (e2 dIx (eVar 1) (eC (.int 1))) aNil))) (gN 2)) (sSeq (sAsg (eA (d2 dGcd) (aCons (e2 dIx (eVar 1) (eC (.int 0))) (aCons (e2 dIx (eVar 0) (eC (.int 1))) aNil))) (gN 3)) (sRet (eA dTup (aCons (e2 dMul (e2 dDiv (e2 dIx (eVar 0) (eC (.int 0))) (eVar 2)) (e2 dDiv (e2 dIx (eVar 1) (eC (.int 0))) (eVar 3))) (aCons (e2 dMul (e2 dDiv (e2 dIx (eVar 0) (eC (.int 1))) (eVar 3)) (e2 dDiv (e2 dIx (eVar 1) (eC (.int 1))) (eVar 2))) aNil))))))
noncomputable def m_times : List D → M D := runFn 2 4 b_times
noncomputable def b_plus : Stm := (sSeq (sAsg (eA (d2 dGcd) (aCons (e2 dIx (eVar 0) (eC (.int 1))) (aCons (e2 dIx (eVar 1) (eC (.int 1))) aNil))) (gN 2)) (sSeq (sAsg (e2 dAdd (e2 dMul (e2 dIx (eVar 0) (eC (.int 0))) (e2 dDiv (e2 dIx (eVar 1) (eC (.int 1))) (eVar 2))) (e2 dMul (e2 dIx (eVar 1) (eC (.int 0))) (e2 dDiv (e2 dIx (eVar 0) (eC (.int 1))) (eVar 2)))) (gN 3)) (sSeq (sAsg (eA (d2 dGcd) (aCons (eVar 3) (aCons (eVar 2) aNil))) (gN 4)) (sRet (eA dTup (aCons (e2 dDiv (eVar 3) (eVar 4)) (aCons (e2 dMul (e2 dDiv (e2 dIx (eVar 0) (eC (.int 1))) (eVar 2)) (e2 dDiv (e2 dIx (eVar 1) (eC (.int 1))) (eVar 4))) aNil)))))))
noncomputable def m_plus : List D → M D := runFn 2 5 b_plus
noncomputable def b_minus : Stm := (sRet (eA m_plus (aCons (eVar 0) (aCons (eA dTup (aCons (e1 dNeg (e2 dIx (eVar 1) (eC (.int 0)))) (aCons (e2 dIx (eVar 1) (eC (.int 1))) aNil))) aNil))))
noncomputable def m_minus : List D → M D := runFn 2 2 b_minus
noncomputable def b_is_exact : Stm := (sRet (eAnd (e1 (dIs [] sameC [(.inl "tuple")]) (eVar 0)) (eAnd (eA m_is_fraction (aCons (eVar 0) aNil)) (e2 (dEq false) (eA m_exact (aCons (eVar 0) aNil)) (eVar 0)))))
noncomputable def m_is_exact : List D → M D := runFn 1 1 b_is_exact
end PM
end
section
set_option Elab.async false
set_option linter.all false
set_option maxRecDepth 100000
namespace PM
open PySem L2
noncomputable def b_openings : Stm := (sSeq (sAsg (eA dNew aNil) (gN 2)) (sSeq (sFor (iSeq (eVar 0)) (gN 3) (sIf (tOf (e2 (dEq false) (e2 dIx (eVar 3) (eC (.int 0))) (eC (.str "right")))) (sDrop (eBM dExtend (eVar 2) (aCons (e2 dRange (eC (.int 1)) (eVar 1)) aNil))) (sIf (tOf (e2 (dEq false) (e2 dIx (eVar 3) (eC (.int 0))) (eC (.str "left")))) (sDrop (eBM dExtend (eVar 2) (aCons (eA dRangeB (aCons (e2 dSub (eVar 1) (eC (.int 1))) (aCons (eC (.int 0)) (aCons (e1 dNeg (eC (.int 1))) aNil)))) aNil))) (sDrop (eBM dExtend (eVar 2) (aCons (eLc false (iR2 (aCons (eC (.int 1)) (aCons (eVar 1) aNil))) [4] (gN 4) (tOf (e2 (dEq false) (e2 dMod (eVar 4) (e2 dIx (eVar 3) (eC (.int 1)))) (e2 dIx (eVar 3) (eC (.int 2))))) (eVar 4)) aNil)))))) (sSeq (sFrz 2) (sRet (eVar 2)))))
noncomputable def m_openings : List D → M D := runFn 2 5 b_openings
noncomputable def b_is_round : Stm := (sSeq (sIf (tOf (e2 (dIn false) (eVar 0) (eA dTup (aCons (eA dTup (aCons (eC (.str "right")) aNil)) (aCons (eA dTup (aCons (eC (.str "left")) aNil)) aNil))))) (sRet (eC (.bl true))) sNext) (sSeq (sIf (tOrP (tNotP (tOf (e1 (dIs [] sameC [(.inl "tuple")]) (eVar 0)))) (tOrP (tOf (e2 (dEq true) (eA (d1 dLen) (aCons (eVar 0) aNil)) (eC (.int 3)))) (tOf (e2 (dEq true) (e2 dIx (eVar 0) (eC (.int 0))) (eC (.str "every")))))) (sRet (eC (.bl false))) sNext) (sSeq (sAsg (eSl (eVar 0) (oSome (eC (.int 1))) oNone) (gT 2 (gC (gN 1) (gC (gN 2) gN0)))) (sRet (eAnd (eA m_is_integer (aCons (eVar 1) aNil)) (eAnd (eA m_is_integer (aCons (eVar 2) aNil)) (eAnd (eChain dLe dLe (eC (.int 2)) (eVar 1) (eC (.int 4))) (eChain dLe dLt (eC (.int 0)) (eVar 2) (eVar 1)))))))))
noncomputable def m_is_round : List D → M D := runFn 1 3 b_is_round
noncomputable def b_check_rounds : Stm := (sSeq (sIf (tOrP (tNotP (tOf (e1 (dIs [] sameC [(.inl "list"), (.inl "tuple")]) (eVar 0)))) (tOf (e2 dGt (eA (d1 dLen) (aCons (eVar 0) aNil)) (eC (.int 12))))) (sRaise1 "BadProgram" "place" (eC .non)) sNext) (sFor (iNum (eVar 0)) (gT 2 (gC (gN 1) (gC (gN 2) gN0))) (sIf (tNotP (tOf (eA m_is_round (aCons (eVar 2) aNil)))) (sRaise1 "BadProgram" "place" (eVar 1)) sNext)))
noncomputable def m_check_rounds : List D → M D := runFn 1 3 b_check_rounds
noncomputable def b_Program___init__ : Stm := (sSeq (sDrop (eA m_check_rounds (aCons (eVar 1) aNil))) (sFldP ["Program"] "rounds" (eA (d1 dTuple) (aCons (eVar 1) aNil)) (eVar 0)))
noncomputable def m_Program___init__ : List D → M D := runFn 2 2 b_Program___init__
noncomputable def b_evened : Stm := (sSeq (sAsg (eA (d1 dListC) (aCons (eVar 1) aNil)) (gN 2)) (sSeq (sFor (iSeq (eA m_openings (aCons (eVar 0) (aCons (eA (d1 dLen) (aCons (eVar 2) aNil)) aNil)))) (gN 3) (sSet2 (e2 dShr (e2 dAdd (e2 dIx (eVar 2) (e2 dSub (eVar 3) (eC (.int 1)))) (e2 dIx (eVar 2) (eVar 3))) (eC (.int 1))) (eVar 2) (e2 dSub (eVar 3) (eC (.int 1))) (eVar 2) (eVar 3))) (sSeq (sFrz 2) (sRet (eVar 2)))))
noncomputable def m_evened : List D → M D := runFn 2 4 b_evened
noncomputable def b_halvings : Stm := (sRet (eA (d1 dSum) (aCons (eLc false (iSeq (eVar 0)) [2] (gN 2) tYesP (eIf (tOf (e2 (dIn false) (e2 dIx (eVar 2) (eC (.int 0))) (eA dTup (aCons (eC (.str "right")) (aCons (eC (.str "left")) aNil))))) (e2 dSub (eVar 1) (eC (.int 1))) (eC (.int 1)))) aNil)))
noncomputable def m_halvings : List D → M D := runFn 2 3 b_halvings
noncomputable def b_check_program : Stm := (sIf (tNotP (tOf (e1 (dIs ["Program"] sameC [(.inr "Program")]) (eVar 0)))) (sRaise1 "BadProgram" "place" (eC .non)) sNext)
noncomputable def m_check_program : List D → M D := runFn 1 1 b_check_program
end PM
end
section
set_option Elab.async false
set_option linter.all false
set_option maxRecDepth 100000
namespace PM
open PySem L2
noncomputable def b_Recurrence___eq__ : Stm := (sRet (eAnd (e1 (dIs ["Recurrence"] sameC [(.inr "Recurrence")]) (eVar 1)) (eAnd (e2 (dEq false) (e1 (dFldC ["Recurrence"] "factors") (eVar 0)) (e1 (dFldC ["Recurrence"] "factors") (eVar 1))) (e2 (dEq false) (e1 (dFldC ["Recurrence"] "firsts") (eVar 0)) (e1 (dFldC ["Recurrence"] "firsts") (eVar 1))))))
noncomputable def m_Recurrence___eq__ : List D → M D := runFn 2 2 b_Recurrence___eq__
noncomputable def b_Recurrence___init__ : Stm := (sSeq (sFldP ["Recurrence"] "factors" (eA (d1 dList) (aCons (eVar 1) aNil)) (eVar 0)) (sFldP ["Recurrence"] "firsts" (eA (d1 dList) (aCons (eVar 2) aNil)) (eVar 0)))
noncomputable def m_Recurrence___init__ : List D → M D := runFn 3 3 b_Recurrence___init__
noncomputable def b_Recurrence___len__ : Stm := (sRet (eA (d1 dLen) (aCons (e1 (dFldC ["Recurrence"] "factors") (eVar 0)) aNil)))
noncomputable def m_Recurrence___len__ : List D → M D := runFn 1 1 b_Recurrence___len__
noncomputable def b_check_asked : Stm := (sSeq (sDrop (eA m_check_program (aCons (eVar 0) aNil))) (sSeq (sIf (tOf (e2 dNotInT (eVar 1) (eC (.tup [.str "ones", .str "first", .str "last", .str "stairs"])))) (sRaise0 "BadStart") sNext) (sIf (tOrP (tNotP (tOf (eA m_is_integer (aCons (eVar 2) aNil)))) (tNotP (tOf (eChain dLe dLe (eC (.int 0)) (eVar 2) (eC (.int 5)))))) (sRaise0 "BadStart") sNext)))
noncomputable def m_check_asked : List D → M D := runFn 3 3 b_check_asked
noncomputable def b_started : Stm := (sSeq (sIf (tOf (e2 (dEq false) (eVar 0) (eC (.str "ones")))) (sRet (eLc false (iR1 (aCons (eVar 1) aNil)) [3] (gN 3) tYesP (eC (.int 1)))) sNext) (sSeq (sIf (tOf (e2 (dEq false) (eVar 0) (eC (.str "stairs")))) (sRet (e2 dRange (eC (.int 1)) (e2 dAdd (eVar 1) (eC (.int 1))))) sNext) (sSeq (sAsg (eIf (tOf (e2 (dEq false) (eVar 0) (eC (.str "first")))) (eC (.int 0)) (e2 dSub (eVar 1) (eC (.int 1)))) (gN 2)) (sRet (eLc false (iR1 (aCons (eVar 1) aNil)) [4] (gN 4) tYesP (eA (d1 dInt) (aCons (e2 (dEq false) (eVar 4) (eVar 2)) aNil)))))))
noncomputable def m_started : List D → M D := runFn 2 5 b_started
noncomputable def b_amount_at : Stm := (sSeq (sAsg (eA m_halvings (aCons (e1 (dFldC ["Program"] "rounds") (eVar 0)) (aCons (eVar 3) aNil))) (gN 4)) (sSeq (sAsg (eLc false (iSeq (eA m_started (aCons (eVar 1) (aCons (eVar 3) aNil)))) [6] (gN 6) tYesP (e2 dShl (eVar 6) (eVar 4))) (gN 5)) (sRet (eA m_reduced (aCons (e2 dIx (eA m_evened (aCons (e1 (dFldC ["Program"] "rounds") (eVar 0)) (aCons (eVar 5) aNil))) (e2 dSub (e2 dSub (eVar 3) (eC (.int 1))) (eVar 2))) (aCons (e2 dShl (eC (.int 1)) (eVar 4)) aNil))))))
noncomputable def m_amount_at : List D → M D := runFn 4 7 b_amount_at
noncomputable def b_first_amounts : Stm := (sRet (eLc false (iR1 (aCons (eVar 3) aNil)) [4] (gN 4) tYesP (eA m_amount_at (aCons (eVar 0) (aCons (eVar 1) (aCons (eVar 2) (aCons (e2 dAdd (e2 dAdd (eVar 2) (eC (.int 1))) (eVar 4)) aNil)))))))
noncomputable def m_first_amounts : List D → M D := runFn 4 5 b_first_amounts
noncomputable def b_dot : Stm := (sSeq (sAsg (eA dTup (aCons (eC (.int 0)) (aCons (eC (.int 1)) aNil))) (gN 2)) (sSeq (sFor (iZip2 (aCons (eVar 0) (aCons (eVar 1) aNil))) (gT 2 (gC (gN 3) (gC (gN 4) gN0))) (sAsg (eA m_plus (aCons (eVar 2) (aCons (eA m_times (aCons (eVar 3) (aCons (eVar 4) aNil))) aNil))) (gN 2))) (sRet (eVar 2))))
noncomputable def m_dot : List D → M D := runFn 2 5 b_dot
noncomputable def b_told_by : Stm := (sSeq (sAsg (eSlC (eVar 1) oNone (oSome (eVar 2))) (gN 3)) (sSeq (sWhl (tOf (e2 dLt (eA (d1 dLen) (aCons (eVar 3) aNil)) (eVar 2))) (sDrop (eBM dAppend (eVar 3) (aCons (eA m_dot (aCons (eVar 0) (aCons (eSl (eVar 3) (oSome (e2 dSub (eA (d1 dLen) (aCons (eVar 3) aNil)) (eA (d1 dLen) (aCons (eVar 0) aNil)))) oNone) aNil))) aNil)))) (sSeq (sFrz 3) (sRet (eVar 3)))))
noncomputable def m_told_by : List D → M D := runFn 3 4 b_told_by
noncomputable def b_Recurrence_shows : Stm := (sSeq (sDrop (eA m_check_asked (aCons (eVar 1) (aCons (eVar 2) (aCons (eVar 3) aNil))))) (sSeq (sIf (tOf (e2 (dEq true) (eA (d1 dLen) (aCons (e1 (dFldC ["Recurrence"] "factors") (eVar 0)) aNil)) (eA (d1 dLen) (aCons (e1 (dFldC ["Recurrence"] "firsts") (eVar 0)) aNil)))) (sRet (eC (.bl false))) sNext) (sSeq (sIf (tNotP (tOf (eA (d1 dAll) (aCons (eLc false (iSeq (e2 dAdd (e1 (dFldC ["Recurrence"] "factors") (eVar 0)) (e1 (dFldC ["Recurrence"] "firsts") (eVar 0)))) [5] (gN 5) tYesP (eA m_is_exact (aCons (eVar 5) aNil))) aNil)))) (sRet (eC (.bl false))) sNext) (sSeq (sAsg (e2 dAdd (eA (d1 dLen) (aCons (e1 (dFldC ["Recurrence"] "factors") (eVar 0)) aNil)) (eC (.int 60))) (gN 4)) (sRet (e2 (dEq false) (eA m_told_by (aCons (e1 (dFldC ["Recurrence"] "factors") (eVar 0)) (aCons (e1 (dFldC ["Recurrence"] "firsts") (eVar 0)) (aCons (eVar 4) aNil)))) (eA m_first_amounts (aCons (eVar 1) (aCons (eVar 2) (aCons (eVar 3) (aCons (eVar 4) aNil)))))))))))
noncomputable def m_Recurrence_shows : List D → M D := runFn 4 6 b_Recurrence_shows
noncomputable def b_Recurrence_value : Stm := (sRet (e2 dIx (eA m_told_by (aCons (e1 (dFldC ["Recurrence"] "factors") (eVar 0)) (aCons (e1 (dFldC ["Recurrence"] "firsts") (eVar 0)) (aCons (e2 dAdd (eVar 1) (eC (.int 1))) aNil)))) (eVar 1)))
noncomputable def m_Recurrence_value : List D → M D := runFn 2 2 b_Recurrence_value
noncomputable def b_amounts : Stm := (sSeq (sDrop (eA m_check_asked (aCons (eVar 0) (aCons (eVar 1) (aCons (eVar 2) aNil))))) (sSeq (sIf (tOrP (tNotP (tOf (eA m_is_integer (aCons (eVar 3) aNil)))) (tNotP (tOf (eChain dLe dLe (eC (.int 1)) (eVar 3) (e2 dSub (eC (.int 300)) (eVar 2)))))) (sRaise0 "BadStart") sNext) (sRet (eA m_first_amounts (aCons (eVar 0) (aCons (eVar 1) (aCons (eVar 2) (aCons (eVar 3) aNil))))))))
noncomputable def m_amounts : List D → M D := runFn 4 4 b_amounts
noncomputable def b_amount : Stm := (sSeq (sDrop (eA m_check_asked (aCons (eVar 0) (aCons (eVar 1) (aCons (eVar 2) aNil))))) (sSeq (sIf (tOrP (tNotP (tOf (eA m_is_integer (aCons (eVar 3) aNil)))) (tNotP (tOf (eChain dLt dLe (eVar 2) (eVar 3) (eC (.int 300)))))) (sRaise0 "BadStart") sNext) (sRet (eA m_amount_at (aCons (eVar 0) (aCons (eVar 1) (aCons (eVar 2) (aCons (eVar 3) aNil))))))))
noncomputable def m_amount : List D → M D := runFn 4 4 b_amount
noncomputable def b_mend : Stm := (sSeq (sAsg (e2 dAddC (eVar 0) (e2 dMul (eA dLst (aCons (eA dTup (aCons (eC (.int 0)) (aCons (eC (.int 1)) aNil))) aNil)) (e2 dSub (e2 dAdd (eVar 2) (eA (d1 dLen) (aCons (eVar 1) aNil))) (eA (d1 dLen) (aCons (eVar 0) aNil))))) (gN 4)) (sSeq (sFor (iNum (eVar 1)) (gT 2 (gC (gN 5) (gC (gN 6) gN0))) (sSet (eA m_minus (aCons (e2 dIx (eVar 4) (e2 dAdd (eVar 2) (eVar 5))) (aCons (eA m_times (aCons (eVar 3) (aCons (eVar 6) aNil))) aNil))) (eVar 4) (e2 dAdd (eVar 2) (eVar 5)))) (sSeq (sFrz 4) (sRet (eVar 4)))))
noncomputable def m_mend : List D → M D := runFn 4 7 b_mend
noncomputable def b_reduced_inverse : Stm := (sSeq (sAsg (eVar 0) (gT 2 (gC (gN 1) (gC (gN 2) gN0)))) (sRet (eIf (tOf (e2 dGt (eVar 1) (eC (.int 0)))) (eA dTup (aCons (eVar 2) (aCons (eVar 1) aNil))) (eA dTup (aCons (e1 dNeg (eVar 2)) (aCons (e1 dNeg (eVar 1)) aNil))))))
noncomputable def m_reduced_inverse : List D → M D := runFn 1 3 b_reduced_inverse
noncomputable def b_fewest_factors : Stm := (sSeq (sPar 1 2 (aCons (eA dLst (aCons (eA dTup (aCons (eC (.int 1)) (aCons (eC (.int 1)) aNil))) aNil)) (aCons (eC (.int 0)) aNil))) (sSeq (sPar3 3 4 5 (aCons (eA dLst (aCons (eA dTup (aCons (eC (.int 1)) (aCons (eC (.int 1)) aNil))) aNil)) (aCons (eA dTup (aCons (eC (.int 1)) (aCons (eC (.int 1)) aNil))) (aCons (eC (.int 0)) aNil)))) (sSeq (sFor (iR1 (aCons (eA (d1 dLen) (aCons (eVar 0) aNil)) aNil)) (gN 6) (sSeq (sAug 5 (eC (.int 1))) (sSeq (sAsg (eA m_dot (aCons (eVar 1) (aCons (eSlB (eVar 0) (oSome (eVar 6)) oNone) aNil))) (gN 7)) (sSeq (sIf (tOf (e2 (dEq false) (eVar 7) (eA dTup (aCons (eC (.int 0)) (aCons (eC (.int 1)) aNil))))) sCt sNext) (sSeq (sAsg (eA m_mend (aCons (eVar 1) (aCons (eVar 3) (aCons (eVar 5) (aCons (eA m_times (aCons (eVar 7) (aCons (eA m_reduced_inverse (aCons (eVar 4) aNil)) aNil))) aNil))))) (gN 8)) (sSeq (sIf (tOf (e2 dLe (e2 dMul (eC (.int 2)) (eVar 2)) (eVar 6))) (sAsg (eA dTup (aCons (eVar 1) (aCons (eVar 7) (aCons (eC (.int 0)) (aCons (e2 dSub (e2 dAdd (eVar 6) (eC (.int 1))) (eVar 2)) aNil))))) (gT 4 (gC (gN 3) (gC (gN 4) (gC (gN 5) (gC (gN 2) gN0)))))) sNext) (sAsg (eVar 8) (gN 1)))))))) (sRet (eLc false (iSeq (eSlB (eVar 1) oNone (oSome (eC (.int 0))))) [9] (gN 9) tYesP (eA m_minus (aCons (eA dTup (aCons (eC (.int 0)) (aCons (eC (.int 1)) aNil))) (aCons (eVar 9) aNil))))))))
noncomputable def m_fewest_factors : List D → M D := runFn 1 10 b_fewest_factors
noncomputable def b_recurrence : Stm := (sSeq (sDrop (eA m_check_asked (aCons (eVar 0) (aCons (eVar 1) (aCons (eVar 2) aNil))))) (sSeq (sAsg (eA m_first_amounts (aCons (eVar 0) (aCons (eVar 1) (aCons (eVar 2) (aCons (e2 dMul (eC (.int 2)) (eC (.int 60))) aNil))))) (gN 3)) (sSeq (sAsg (eA m_fewest_factors (aCons (eVar 3) aNil)) (gN 4)) (sRet (eA (mkObj false "Recurrence" m_Recurrence___init__) (aCons (eVar 4) (aCons (eSl (eVar 3) oNone (oSome (eA (d1 dLen) (aCons (eVar 4) aNil)))) aNil)))))))
noncomputable def m_recurrence : List D → M D := runFn 3 5 b_recurrence
end PM
end
section
set_option Elab.async false
set_option linter.all false
set_option maxRecDepth 100000
namespace PM
open PySem L2
noncomputable def b__law_draw : Stm := (sSeq (sAsg (eIf (tOf (e2 (dEq true) (eVar 0) (eA dLst aNil))) (eSl (eVar 0) oNone (oSome (eC (.int 60)))) (eA dLst (aCons (eC (.int 7)) aNil))) (gN 3)) (sSeq (sPar 4 5 (aCons (e2 dIx (eVar 3) (e2 dMod (eVar 1) (eA (d1 dLen) (aCons (eVar 3) aNil)))) (aCons (e2 dDiv (eVar 1) (eA (d1 dLen) (aCons (eVar 3) aNil))) aNil))) (sSeq (sIf (tOf (e2 dGe (eVar 4) (e2 dPow (eC (.int 10)) (eC (.int 18))))) (sSeq (sAsg (e2 dMod (eA (d1 dInt) (aCons (eVar 4) aNil)) (e2 dPow (eC (.int 97)) (eC (.int 40)))) (gN 4)) (sSeq (sFor (iR1 (aCons (e2 dMod (eVar 5) (eC (.int 40))) aNil)) (gN 6) (sAsg (e2 dDiv (eVar 4) (eC (.int 97))) (gN 4))) (sRet (e2 dMod (e2 dMod (eA (d1 dInt) (aCons (eVar 4) aNil)) (eC (.int 97))) (eVar 2))))) sNext) (sSeq (sAsg (e2 dAdd (e2 dMul (e2 dAdd (e2 dAdd (e2 dMod (eA (d1 dInt) (aCons (e2 dAdd (eVar 4) (e2 dMul (eC (.int 31)) (eVar 5))) aNil)) (eC (.int 1000003))) (e2 dMul (eC (.int 977)) (eVar 1))) (eC (.int 13))) (eC (.int 48271))) (e2 dMod (eA (d1 dInt) (aCons (e2 dDiv (eVar 4) (eC (.int 1000003))) aNil)) (eC (.int 999983)))) (gN 7)) (sRet (e2 dMod (eA (d1 dInt) (aCons (e2 dMod (e2 dMul (e2 dMod (eVar 7) (eC (.int 2147483647))) (eC (.int 65537))) (eC (.int 4294967291))) aNil)) (eVar 2)))))))
noncomputable def m__law_draw : List D → M D := runFn 3 8 b__law_draw
noncomputable def b__law_rounds : Stm := (sSeq (sAsg (eA dNew (aCons (eA dTup (aCons (eVar 3) aNil)) (aCons (eA dTup (aCons (eC (.str "every")) (aCons (eC (.int 2)) (aCons (eC (.int 1)) aNil)))) (aCons (eA dTup (aCons (eC (.str "every")) (aCons (eC (.int 2)) (aCons (eC (.int 0)) aNil)))) (aCons (eA dTup (aCons (eC (.str "every")) (aCons (eC (.int 2)) (aCons (eC (.int 1)) aNil)))) (aCons (eA dTup (aCons (eC (.str "every")) (aCons (eC (.int 2)) (aCons (eC (.int 0)) aNil)))) aNil)))))) (gN 4)) (sSeq (sIf (tOf (e2 (dEq false) (eA m__law_draw (aCons (eVar 0) (aCons (eVar 1) (aCons (eC (.int 4)) aNil)))) (eC (.int 0)))) (sSeq (sAsg (e2 dAdd (eC (.int 3)) (eA m__law_draw (aCons (eVar 0) (aCons (e2 dAdd (eVar 1) (eC (.int 1))) (aCons (eC (.int 2)) aNil))))) (gN 5)) (sSeq (sSet (eA dTup (aCons (eC (.str "every")) (aCons (eVar 5) (aCons (eA m__law_draw (aCons (eVar 0) (aCons (e2 dAdd (eVar 1) (eC (.int 2))) (aCons (eVar 5) aNil)))) aNil)))) (eVar 4) (eC (.int 1))) (sSet (e2 dIx (eVar 4) (eC (.int 1))) (eVar 4) (eC (.int 3))))) sNext) (sRet (eLc false (iR1 (aCons (eA m__law_draw (aCons (eVar 0) (aCons (e2 dAdd (eVar 1) (eC (.int 3))) (aCons (e2 dAdd (eVar 2) (eC (.int 1))) aNil)))) aNil)) [6] (gN 6) tYesP (e2 dIx (eVar 4) (eA m__law_draw (aCons (eVar 0) (aCons (e2 dAdd (e2 dAdd (eVar 1) (eC (.int 4))) (eVar 6)) (aCons (eC (.int 5)) aNil)))))))))
noncomputable def m__law_rounds : List D → M D := runFn 4 7 b__law_rounds
noncomputable def b__law_weirs : Stm := (sSeq (sIf (tOf (e2 (dEq false) (e2 dIx (eVar 0) (eC (.int 0))) (eC (.str "right")))) (sRet (e2 dRange (eC (.int 1)) (eVar 1))) sNext) (sSeq (sIf (tOf (e2 (dEq false) (e2 dIx (eVar 0) (eC (.int 0))) (eC (.str "left")))) (sRet (e1 dLRev (e2 dRange (eC (.int 1)) (eVar 1)))) sNext) (sRet (eLc false (iR2 (aCons (eC (.int 1)) (aCons (eVar 1) aNil))) [2] (gN 2) (tOf (e2 (dEq false) (e2 dMod (eVar 2) (e2 dIx (eVar 0) (eC (.int 1)))) (e2 dIx (eVar 0) (eC (.int 2))))) (eVar 2)))))
noncomputable def m__law_weirs : List D → M D := runFn 2 3 b__law_weirs
noncomputable def b__law_order_p : Stm := (sSeq (sAsg (eA dLst aNil) (gN 2)) (sSeq (sFor (iSeq (eVar 0)) (gN 3) (sAsg (e2 dAdd (eVar 2) (eA m__law_weirs (aCons (eVar 3) (aCons (eVar 1) aNil)))) (gN 2))) (sRet (eVar 2))))
noncomputable def m__law_order_p : List D → M D := runFn 2 4 b__law_order_p
noncomputable def b__law_play : Stm := (sSeq (sAsg (eA (d1 dListC) (aCons (eVar 1) aNil)) (gN 2)) (sSeq (sFor (iSeq (eA m__law_order_p (aCons (eVar 0) (aCons (eA (d1 dLen) (aCons (eVar 2) aNil)) aNil)))) (gN 3) (sSeq (sAsg (e2 dDiv (e2 dAdd (e2 dIx (eVar 2) (e2 dSub (eVar 3) (eC (.int 1)))) (e2 dIx (eVar 2) (eVar 3))) (eC (.int 2))) (gN 4)) (sSeq (sSet (eVar 4) (eVar 2) (e2 dSub (eVar 3) (eC (.int 1)))) (sSet (eVar 4) (eVar 2) (eVar 3))))) (sSeq (sFrz 2) (sRet (eVar 2)))))
noncomputable def m__law_play : List D → M D := runFn 2 5 b__law_play
noncomputable def b__law_scale : Stm := (sRet (e2 dAdd (e2 dMul (eA (d1 dLen) (aCons (eVar 0) aNil)) (eVar 1)) (eC (.int 1))))
noncomputable def m__law_scale : List D → M D := runFn 2 2 b__law_scale
noncomputable def b__law_part_p : Stm := (sSeq (sPar 2 3 (aCons (eA (d1 dAbs) (aCons (eVar 0) aNil)) (aCons (eVar 1) aNil))) (sSeq (sWhl (tOf (e2 (dEq true) (eVar 3) (eC (.int 0)))) (sPar 2 3 (aCons (eVar 3) (aCons (e2 dMod (eA (d1 dInt) (aCons (eVar 2) aNil)) (eVar 3)) aNil)))) (sRet (eA dTup (aCons (e2 dDiv (eVar 0) (eVar 2)) (aCons (e2 dDiv (eVar 1) (eVar 2)) aNil))))))
noncomputable def m__law_part_p : List D → M D := runFn 2 4 b__law_part_p
noncomputable def b__law_done : Stm := (sSeq (sAsg (eA m__law_scale (aCons (eVar 0) (aCons (eA (d1 dLen) (aCons (eVar 1) aNil)) aNil))) (gN 2)) (sRet (eA (d1 dTuple) (aCons (eLc false (iSeq (eA m__law_play (aCons (eVar 0) (aCons (eLc false (iSeq (eVar 1)) [4] (gN 4) tYesP (e2 dShl (eVar 4) (eVar 2))) aNil)))) [3] (gN 3) tYesP (eA m__law_part_p (aCons (eVar 3) (aCons (e2 dShl (eC (.int 1)) (eVar 2)) aNil)))) aNil))))
noncomputable def m__law_done : List D → M D := runFn 2 5 b__law_done
noncomputable def b__law_unit_p : Stm := (sRet (eLc false (iR1 (aCons (eVar 0) aNil)) [2] (gN 2) tYesP (eIf (tOf (e2 (dEq false) (eVar 2) (eVar 1))) (eC (.int 1)) (eC (.int 0)))))
noncomputable def m__law_unit_p : List D → M D := runFn 2 3 b__law_unit_p
end PM
end
section
set_option Elab.async false
set_option linter.all false
set_option maxRecDepth 100000
set_option maxHeartbeats 4000000
namespace PM
open PySem L2
def exs0 : List Str := ["WeirError", "BadProgram", "BadStart"]
def below0 (a b : Str) : Bool := decide ((a, b) ∈ ([("WeirError", "WeirError"), ("BadProgram", "BadProgram"), ("BadProgram", "WeirError"), ("BadStart", "BadStart"), ("BadStart", "WeirError")] : List (Str × Str)))
noncomputable def b__law_start : Stm := (sSeq (sIf (tOf (e2 (dEq false) (eVar 0) (eC (.str "ones")))) (sRet (e2 dMul (eA dLst (aCons (eC (.int 1)) aNil)) (eVar 1))) sNext) (sSeq (sIf (tOf (e2 (dEq false) (eVar 0) (eC (.str "stairs")))) (sRet (e2 dRange (eC (.int 1)) (e2 dAdd (eVar 1) (eC (.int 1))))) sNext) (sRet (eA m__law_unit_p (aCons (eVar 1) (aCons (eIf (tOf (e2 (dEq false) (eVar 0) (eC (.str "first")))) (eC (.int 0)) (e2 dSub (eVar 1) (eC (.int 1)))) aNil))))))
noncomputable def m__law_start : List D → M D := runFn 2 2 b__law_start
noncomputable def b__law_goes_on : Stm := (sSeq (sFor (iR2 (aCons (eVar 2) (aCons (eA (d1 dLen) (aCons (eVar 1) aNil)) aNil))) (gN 3) (sSeq (sAsg (eA dTup (aCons (eC (.int 0)) (aCons (eC (.int 1)) aNil))) (gT 2 (gC (gN 4) (gC (gN 5) gN0)))) (sSeq (sFor (iZip2 (aCons (eVar 0) (aCons (eSl (eVar 1) (oSome (e2 dSub (eVar 3) (eA (d1 dLen) (aCons (eVar 0) aNil)))) (oSome (eVar 3))) aNil))) (gT 2 (gC (gN 6) (gC (gN 7) gN0))) (sSeq (sPar 8 9 (aCons (e2 dMul (e2 dIx (eVar 6) (eC (.int 0))) (e2 dIx (eVar 7) (eC (.int 0)))) (aCons (e2 dMul (e2 dIx (eVar 6) (eC (.int 1))) (e2 dIx (eVar 7) (eC (.int 1)))) aNil))) (sPar 4 5 (aCons (e2 dAdd (e2 dMul (eVar 4) (eVar 9)) (e2 dMul (eVar 8) (eVar 5))) (aCons (e2 dMul (eVar 5) (eVar 9)) aNil))))) (sIf (tOf (e2 (dEq true) (eA m__law_part_p (aCons (eVar 4) (aCons (eVar 5) aNil))) (e2 dIx (eVar 1) (eVar 3)))) (sRet (eC (.bl false))) sNext)))) (sRet (eC (.bl true))))
noncomputable def m__law_goes_on : List D → M D := runFn 3 10 b__law_goes_on
noncomputable def b_law_c0 : Stm := (sRet (eC (.bl true)))
noncomputable def b_law_c1 : Stm := (sRet (eC (.bl false)))
noncomputable def b_law_c2 : Stm := (sSeq (sFor (iR1 (aCons (eC (.int 5)) aNil)) (gN 10) (sTry exs0 below0 (sSeq (sIf (tOf (e2 (dEq false) (eVar 10) (eC (.int 0)))) (sDrop (eA m_amount (aCons (eVar 2) (aCons (eC (.str "all")) (aCons (eVar 4) (aCons (eC (.int 9)) aNil)))))) (sIf (tOf (e2 (dEq false) (eVar 10) (eC (.int 1)))) (sDrop (eA m_amount (aCons (eVar 2) (aCons (eVar 3) (aCons (eC (.int 6)) (aCons (eC (.int 9)) aNil)))))) (sIf (tOf (e2 (dEq false) (eVar 10) (eC (.int 2)))) (sDrop (eA m_amount (aCons (eVar 2) (aCons (eVar 3) (aCons (eVar 4) (aCons (eVar 4) aNil)))))) (sIf (tOf (e2 (dEq false) (eVar 10) (eC (.int 3)))) (sDrop (eA m_amounts (aCons (eC .non) (aCons (eVar 3) (aCons (eVar 4) (aCons (eC (.int 3)) aNil)))))) (sDrop (eA m_recurrence (aCons (eVar 2) (aCons (eC (.int 3)) (aCons (eVar 4) aNil))))))))) b_law_c1) [⟨"BadStart", none, (sIf (tOf (e2 (dEq false) (eVar 10) (eC (.int 3)))) (sRet (eC (.bl false))) sNext)⟩, ⟨"BadProgram", (some 11), (sIf (tOrP (tOf (e2 (dEq true) (eVar 10) (eC (.int 3)))) (tOf (e2 (dIsN true) (eErr 11 "BadProgram" "place") (eC .non)))) (sRet (eC (.bl false))) sNext)⟩])) b_law_c0)
noncomputable def b_law_c3 : Stm := (sSeq (sIf (tOrP (tNotP (tOf (eMeth "Recurrence" "shows" m_Recurrence_shows (eVar 9) (aCons (eVar 2) (aCons (eVar 3) (aCons (eVar 4) aNil)))))) (tOf (e2 (dEqO true "Recurrence" m_Recurrence___eq__) (eA (mkObj false "Recurrence" m_Recurrence___init__) (aCons (eA (d1 dTuple) (aCons (e1 (dFldC ["Recurrence"] "factors") (eVar 6)) aNil)) (aCons (eA (d1 dTuple) (aCons (e1 (dFldC ["Recurrence"] "firsts") (eVar 6)) aNil)) aNil))) (eVar 6)))) (sRet (eC (.bl false))) sNext) b_law_c2)
noncomputable def b_law_c4 : Stm := (sSeq (sAsg (eA (mkObj false "Recurrence" m_Recurrence___init__) (aCons (e2 dAdd (eA dLst (aCons (eA dTup (aCons (eC (.int 0)) (aCons (eC (.int 1)) aNil))) aNil)) (e1 (dFldC ["Recurrence"] "factors") (eVar 6))) (aCons (eSl (eVar 5) oNone (oSome (e2 dAdd (eVar 7) (eC (.int 1))))) aNil))) (gN 9)) b_law_c3)
noncomputable def b_law_c5 : Stm := (sIf (tOf (eMeth "Recurrence" "shows" m_Recurrence_shows (eA (mkObj false "Recurrence" m_Recurrence___init__) (aCons (eSl (e1 (dFldC ["Recurrence"] "factors") (eVar 6)) (oSome (eC (.int 1))) oNone) (aCons (eSl (e1 (dFldC ["Recurrence"] "firsts") (eVar 6)) (oSome (eC (.int 1))) oNone) aNil))) (aCons (eVar 2) (aCons (eVar 3) (aCons (eVar 4) aNil))))) (sRet (eC (.bl false))) sNext)
noncomputable def b_law_c6 : Stm := (sSeq (sIf (tOf (eMeth "Recurrence" "shows" m_Recurrence_shows (eA (mkObj false "Recurrence" m_Recurrence___init__) (aCons (e1 (dFldC ["Recurrence"] "factors") (eVar 6)) (aCons (eLc false (iSeq (e1 (dFldC ["Recurrence"] "firsts") (eVar 6))) [10] (gN 10) tYesP (eA dTup (aCons (e2 dAdd (e2 dIx (eVar 10) (eC (.int 0))) (e2 dIx (eVar 10) (eC (.int 1)))) (aCons (e2 dIx (eVar 10) (eC (.int 1))) aNil)))) aNil))) (aCons (eVar 2) (aCons (eVar 3) (aCons (eVar 4) aNil))))) (sRet (eC (.bl false))) sNext) b_law_c5)
noncomputable def b_law_c7 : Stm := (sSeq (sIf (tAndP (tOf (eA (d1 dAny) (aCons (eLc false (iSeq (eVar 5)) [13] (gN 13) tYesP (e2 (dEq true) (eVar 13) (eA dTup (aCons (eC (.int 0)) (aCons (eC (.int 1)) aNil))))) aNil))) (tAndP (tOf (eMeth "Recurrence" "shows" m_Recurrence_shows (eA (mkObj false "Recurrence" m_Recurrence___init__) (aCons (eVar 8) (aCons (e1 (dFldC ["Recurrence"] "firsts") (eVar 6)) aNil))) (aCons (eVar 2) (aCons (eVar 3) (aCons (eVar 4) aNil))))) (tNotP (tTruth (eA m__law_goes_on (aCons (eVar 8) (aCons (eVar 5) (aCons (eVar 7) aNil)))))))) (sRet (eC (.bl false))) sNext) b_law_c6)
noncomputable def b_law_c8 : Stm := (sSeq (sIf (tOf (e2 dGt (eVar 7) (eC (.int 0)))) (sSeq (sAsg (e2 dAdd (eSl (e1 (dFldC ["Recurrence"] "factors") (eVar 6)) oNone (oSome (e1 dNeg (eC (.int 1))))) (eA dLst (aCons (eA dTup (aCons (e2 dAdd (e2 dIx (e2 dIx (e1 (dFldC ["Recurrence"] "factors") (eVar 6)) (e1 dNeg (eC (.int 1)))) (eC (.int 0))) (e2 dIx (e2 dIx (e1 (dFldC ["Recurrence"] "factors") (eVar 6)) (e1 dNeg (eC (.int 1)))) (eC (.int 1)))) (aCons (e2 dIx (e2 dIx (e1 (dFldC ["Recurrence"] "factors") (eVar 6)) (e1 dNeg (eC (.int 1)))) (eC (.int 1))) aNil))) aNil))) (gN 8)) b_law_c7) sNext) b_law_c4)
noncomputable def b_law_c9 : Stm := (sSeq (sIf (tOf (e2 (dEq true) (eLc false (iR1 (aCons (eC (.int 24)) aNil)) [10] (gN 10) tYesP (eMeth "Recurrence" "value" m_Recurrence_value (eVar 6) (aCons (eVar 10) aNil))) (eVar 5))) (sRet (eC (.bl false))) sNext) b_law_c8)
noncomputable def b_law_c10 : Stm := (sSeq (sIf (tNotP (tTruth (eA m__law_goes_on (aCons (e1 (dFldC ["Recurrence"] "factors") (eVar 6)) (aCons (eVar 5) (aCons (eVar 7) aNil)))))) (sRet (eC (.bl false))) sNext) b_law_c9)
noncomputable def b_law_c11 : Stm := (sSeq (sIf (tOrP (tNotP (tOf (eMeth "Recurrence" "shows" m_Recurrence_shows (eVar 6) (aCons (eVar 2) (aCons (eVar 3) (aCons (eVar 4) aNil)))))) (tOrP (tOf (e2 (dEq true) (eA (d1 dLen) (aCons (e1 (dFldC ["Recurrence"] "factors") (eVar 6)) aNil)) (eVar 7))) (tOf (e2 (dEq true) (e1 (dFldC ["Recurrence"] "firsts") (eVar 6)) (eSl (eVar 5) oNone (oSome (eVar 7))))))) (sRet (eC (.bl false))) sNext) b_law_c10)
noncomputable def b_law_c12 : Stm := (sSeq (sAsg (eA (dLenO "Recurrence" m_Recurrence___len__) (aCons (eVar 6) aNil)) (gN 7)) b_law_c11)
noncomputable def b_law_c13 : Stm := (sSeq (sAsg (eA m_recurrence (aCons (eVar 2) (aCons (eVar 3) (aCons (eVar 4) aNil)))) (gN 6)) b_law_c12)
noncomputable def b_law_c14 : Stm := (sSeq (sIf (tOrP (tOf (e2 (dEq true) (eA m_amounts (aCons (eVar 2) (aCons (eVar 3) (aCons (eVar 4) (aCons (eC (.int 24)) aNil))))) (eVar 5))) (tOf (e2 (dEq true) (eA m_amount (aCons (eVar 2) (aCons (eVar 3) (aCons (eVar 4) (aCons (e2 dAdd (eVar 4) (eC (.int 24))) aNil))))) (e2 dIx (eVar 5) (e1 dNeg (eC (.int 1))))))) (sRet (eC (.bl false))) sNext) b_law_c13)
noncomputable def b_law_c15 : Stm := (sSeq (sAsg (eLc false (iR2 (aCons (e2 dAdd (eVar 4) (eC (.int 1))) (aCons (e2 dAdd (eVar 4) (eC (.int 25))) aNil))) [12] (gN 12) tYesP (e2 dIx (eA m__law_done (aCons (eVar 1) (aCons (eA m__law_start (aCons (eVar 3) (aCons (eVar 12) aNil))) aNil))) (e2 dSub (e2 dSub (eVar 12) (eC (.int 1))) (eVar 4)))) (gN 5)) b_law_c14)
noncomputable def b_law_c16 : Stm := (sSeq (sAsg (eA dTup (aCons (eA (mkObj false "Program" m_Program___init__) (aCons (eVar 1) aNil)) (aCons (e2 dIx (eA dTup (aCons (eC (.str "ones")) (aCons (eC (.str "first")) (aCons (eC (.str "last")) (aCons (eC (.str "stairs")) aNil))))) (eA m__law_draw (aCons (eVar 0) (aCons (eC (.int 1)) (aCons (eC (.int 4)) aNil))))) (aCons (eA m__law_draw (aCons (eVar 0) (aCons (eC (.int 2)) (aCons (eC (.int 3)) aNil)))) aNil)))) (gT 3 (gC (gN 2) (gC (gN 3) (gC (gN 4) gN0))))) b_law_c15)
noncomputable def b_law : Stm := (sSeq (sAsg (eLc false (iSeq (eA m__law_rounds (aCons (eVar 0) (aCons (eC (.int 10)) (aCons (eC (.int 3)) (aCons (eC (.str "right")) aNil)))))) [5] (gN 5) (tOrP (tOf (e2 (dEq false) (e2 dIx (eVar 5) (eC (.int 0))) (eC (.str "right")))) (tOf (e2 dLt (e2 dIx (eVar 5) (eC (.int 1))) (eC (.int 3))))) (eVar 5)) (gN 1)) b_law_c16)
noncomputable def m_law : List D → M D := runFn 1 14 b_law
end PM
end
section
set_option Elab.async false
set_option linter.all false
set_option maxRecDepth 100000
set_option maxHeartbeats 4000000
namespace Lk04
open PySem PySem.Spec PyProof.Rows L2 Evl PM
open WD (pe_tyN pe_clsN cr_lcm call_lenS call_listS call_tupS call_absS call_maxS call_minS call_intS)
structure Tx (P : Program) (K : PySem.W.Frag) (mg : Str → Option Value) : Prop extends Txt K mg where
  hp : P.main.file = fileS
  ht : (P.main.scope.names.lookup ("super" : Str)).isSome = false
section
variable {P : Program} {w : World} {K : PySem.W.Frag} {mg : Str → Option Value} {base : Heap}
theorem ok_is_integer (T : Tx P K mg) : WD.FnG P w K mg base 1 (He.ga K "is_integer") ["thing"] (spM ⟨K, w⟩ PM.m_is_integer) := by
  refine fn_pm (N := ["thing"]) (st := s_is_integer) (m := PM.b_is_integer) T.f_is_integer sc_is_integer (by decide) (fun _ _ _ _ _ _ us hl => match us, hl with | [_], _ => rfl) (fun cdv A outer s H E hr => ⟨_, by
  unfold PM.b_is_integer
  exact (css_one (cs_ret (ce_and (ce_is T.kt_none (.inl "int") (by decide) (pe_tyN (n := "int") (by rfl) T.z_int (by decide +kernel)) (by rfl) T.z_isinstance (ce_var 0 rfl (by first | exact Or.inl rfl | exact Or.inr (Or.inl rfl) | exact Or.inr (Or.inr rfl)))) (ce_one (ce_not (ce_is T.kt_none (.inl "bool") (by decide) (pe_tyN (n := "bool") (by rfl) T.z_bool (by decide +kernel)) (by rfl) T.z_isinstance (ce_var 0 rfl (by first | exact Or.inl rfl | exact Or.inr (Or.inl rfl) | exact Or.inr (Or.inr rfl)))))))))⟩)
theorem ok_Recurrence___eq__ (T : Tx P K mg) : WD.FnG P w K mg base 1 (He.ma K (He.ga K "Recurrence") "__eq__") ["self", "other"] (spM ⟨K, w⟩ PM.m_Recurrence___eq__) := by
  refine fn_pm (N := ["self", "other"]) (st := s_Recurrence___eq__) (m := PM.b_Recurrence___eq__) T.f_Recurrence___eq__ sc_Recurrence___eq__ (by decide) (fun _ _ _ _ _ _ us hl => match us, hl with | [_, _], _ => rfl) (fun cdv A outer s H E hr => ⟨_, by
  unfold PM.b_Recurrence___eq__
  exact (css_one (cs_ret (ce_and (ce_is T.kt_Recurrence (.inr "Recurrence") (by decide) (pe_clsN (by rfl) T.m_Recurrence) (by rfl) T.z_isinstance (ce_var 1 rfl (by first | exact Or.inl rfl | exact Or.inr (Or.inl rfl) | exact Or.inr (Or.inr rfl)))) (ce_and (ce_eq hr.units (ce_fld ["Recurrence"] (fo_cons T.c_Recurrence T.n_Recurrence_factors fo_nil) (ce_var 0 rfl (by first | exact Or.inl rfl | exact Or.inr (Or.inl rfl) | exact Or.inr (Or.inr rfl))) rfl) (ce_fld ["Recurrence"] (fo_cons T.c_Recurrence T.n_Recurrence_factors fo_nil) (ce_var 1 rfl (by first | exact Or.inl rfl | exact Or.inr (Or.inl rfl) | exact Or.inr (Or.inr rfl))) rfl)) (ce_one (ce_eq hr.units (ce_fld ["Recurrence"] (fo_cons T.c_Recurrence T.n_Recurrence_firsts fo_nil) (ce_var 0 rfl (by first | exact Or.inl rfl | exact Or.inr (Or.inl rfl) | exact Or.inr (Or.inr rfl))) rfl) (ce_fld ["Recurrence"] (fo_cons T.c_Recurrence T.n_Recurrence_firsts fo_nil) (ce_var 1 rfl (by first | exact Or.inl rfl | exact Or.inr (Or.inl rfl) | exact Or.inr (Or.inr rfl))) rfl)))))))⟩)
theorem ok_is_fraction (T : Tx P K mg) : WD.FnG P w K mg base 2 (He.ga K "is_fraction") ["thing"] (spM ⟨K, w⟩ PM.m_is_fraction) := by
  refine fn_pm (N := ["thing"]) (st := s_is_fraction) (m := PM.b_is_fraction) T.f_is_fraction sc_is_fraction (by decide) (fun _ _ _ _ _ _ us hl => match us, hl with | [_], _ => rfl) (fun cdv A outer s H E hr => ⟨_, by
  unfold PM.b_is_fraction
  exact (css_cons (cs_if (ct_not (ct_val (ce_is T.kt_none (.inl "tuple") (by decide) (pe_tyN (n := "tuple") (by rfl) T.z_tuple (by decide +kernel)) (by rfl) T.z_isinstance (ce_var 0 rfl (by first | exact Or.inl rfl | exact Or.inr (Or.inl rfl) | exact Or.inr (Or.inr rfl)))))) (css_one (cs_ret (ce_call (ok_is_integer T) (hr.mono (by decide)) (by rfl) T.m_is_integer (ca_cons (ce_var 0 rfl (by first | exact Or.inl rfl | exact Or.inr (Or.inl rfl) | exact Or.inr (Or.inr rfl))) ca_nil)))) css_nil) (css_one (cs_ret (ce_and (ce_eq hr.units (ce_callBK (fun K => rLenS K) call_lenS calls_len (by rfl) T.z_len PySem.boot_len (ca_cons (ce_var 0 rfl (by first | exact Or.inl rfl | exact Or.inr (Or.inl rfl) | exact Or.inr (Or.inr rfl))) ca_nil)) ce_int) (ce_and (ce_call (ok_is_integer T) (hr.mono (by decide)) (by rfl) T.m_is_integer (ca_cons (ce_ix (ce_var 0 rfl (by first | exact Or.inl rfl | exact Or.inr (Or.inl rfl) | exact Or.inr (Or.inr rfl))) ce_int (fun _ _ => rfl)) ca_nil)) (ce_and (ce_call (ok_is_integer T) (hr.mono (by decide)) (by rfl) T.m_is_integer (ca_cons (ce_ix (ce_var 0 rfl (by first | exact Or.inl rfl | exact Or.inr (Or.inl rfl) | exact Or.inr (Or.inr rfl))) ce_int (fun _ _ => rfl)) ca_nil)) (ce_one (ce_ge (ce_ix (ce_var 0 rfl (by first | exact Or.inl rfl | exact Or.inr (Or.inl rfl) | exact Or.inr (Or.inr rfl))) ce_int (fun _ _ => rfl)) ce_int))))))))⟩)
theorem ok_reduced (T : Tx P K mg) : WD.FnG P w K mg base 1 (He.ga K "reduced") ["top", "bottom"] (spM ⟨K, w⟩ PM.m_reduced) := by
  refine fn_pm (N := ["top", "bottom", "shared"]) (st := s_reduced) (m := PM.b_reduced) T.f_reduced sc_reduced (by decide) (fun _ _ _ _ _ _ us hl => match us, hl with | [_, _], _ => rfl) (fun cdv A outer s H E hr => ⟨_, by
  unfold PM.b_reduced
  exact (css_cons (cs_asg (ce_callBf cr_gcd calls_gcd (by rfl) T.b_gcd (ca_cons (ce_var 0 rfl (by first | exact Or.inl rfl | exact Or.inr (Or.inl rfl) | exact Or.inr (Or.inr rfl))) (ca_cons (ce_var 1 rfl (by first | exact Or.inl rfl | exact Or.inr (Or.inl rfl) | exact Or.inr (Or.inr rfl))) ca_nil))) (cg_name (i := 2) sc_reduced.nd rfl (.inl rfl))) (css_one (cs_ret (ce_tup (ca_cons (ce_div (ce_var 0 rfl (by first | exact Or.inl rfl | exact Or.inr (Or.inl rfl) | exact Or.inr (Or.inr rfl))) (ce_var 2 rfl (by first | exact Or.inl rfl | exact Or.inr (Or.inl rfl) | exact Or.inr (Or.inr rfl)))) (ca_cons (ce_div (ce_var 1 rfl (by first | exact Or.inl rfl | exact Or.inr (Or.inl rfl) | exact Or.inr (Or.inr rfl))) (ce_var 2 rfl (by first | exact Or.inl rfl | exact Or.inr (Or.inl rfl) | exact Or.inr (Or.inr rfl)))) ca_nil))))))⟩)
theorem ok_exact (T : Tx P K mg) : WD.FnG P w K mg base 2 (He.ga K "exact") ["told"] (spM ⟨K, w⟩ PM.m_exact) := by
  refine fn_pm (N := ["told"]) (st := s_exact) (m := PM.b_exact) T.f_exact sc_exact (by decide) (fun _ _ _ _ _ _ us hl => match us, hl with | [_], _ => rfl) (fun cdv A outer s H E hr => ⟨_, by
  unfold PM.b_exact
  exact (css_cons (cs_if (ct_val (ce_is T.kt_none (.inl "tuple") (by decide) (pe_tyN (n := "tuple") (by rfl) T.z_tuple (by decide +kernel)) (by rfl) T.z_isinstance (ce_var 0 rfl (by first | exact Or.inl rfl | exact Or.inr (Or.inl rfl) | exact Or.inr (Or.inr rfl))))) (css_one (cs_ret (ce_call (ok_reduced T) (hr.mono (by decide)) (by rfl) T.m_reduced (ca_cons (ce_ix (ce_var 0 rfl (by first | exact Or.inl rfl | exact Or.inr (Or.inl rfl) | exact Or.inr (Or.inr rfl))) ce_int (fun _ _ => rfl)) (ca_cons (ce_ix (ce_var 0 rfl (by first | exact Or.inl rfl | exact Or.inr (Or.inl rfl) | exact Or.inr (Or.inr rfl))) ce_int (fun _ _ => rfl)) ca_nil))))) css_nil) (css_one (cs_ret (ce_tup (ca_cons (ce_var 0 rfl (by first | exact Or.inl rfl | exact Or.inr (Or.inl rfl) | exact Or.inr (Or.inr rfl))) (ca_cons ce_int ca_nil))))))⟩)
theorem ok_is_exact (T : Tx P K mg) : WD.FnG P w K mg base 3 (He.ga K "is_exact") ["thing"] (spM ⟨K, w⟩ PM.m_is_exact) := by
  refine fn_pm (N := ["thing"]) (st := s_is_exact) (m := PM.b_is_exact) T.f_is_exact sc_is_exact (by decide) (fun _ _ _ _ _ _ us hl => match us, hl with | [_], _ => rfl) (fun cdv A outer s H E hr => ⟨_, by
  unfold PM.b_is_exact
  exact (css_one (cs_ret (ce_and (ce_is T.kt_none (.inl "tuple") (by decide) (pe_tyN (n := "tuple") (by rfl) T.z_tuple (by decide +kernel)) (by rfl) T.z_isinstance (ce_var 0 rfl (by first | exact Or.inl rfl | exact Or.inr (Or.inl rfl) | exact Or.inr (Or.inr rfl)))) (ce_and (ce_call (ok_is_fraction T) (hr.mono (by decide)) (by rfl) T.m_is_fraction (ca_cons (ce_var 0 rfl (by first | exact Or.inl rfl | exact Or.inr (Or.inl rfl) | exact Or.inr (Or.inr rfl))) ca_nil)) (ce_one (ce_eq hr.units (ce_call (ok_exact T) (hr.mono (by decide)) (by rfl) T.m_exact (ca_cons (ce_var 0 rfl (by first | exact Or.inl rfl | exact Or.inr (Or.inl rfl) | exact Or.inr (Or.inr rfl))) ca_nil)) (ce_var 0 rfl (by first | exact Or.inl rfl | exact Or.inr (Or.inl rfl) | exact Or.inr (Or.inr rfl)))))))))⟩)
theorem ok_plus (T : Tx P K mg) : WD.FnG P w K mg base 1 (He.ga K "plus") ["one", "other"] (spM ⟨K, w⟩ PM.m_plus) := by
  refine fn_pm (N := ["one", "other", "shared", "top", "rest"]) (st := s_plus) (m := PM.b_plus) T.f_plus sc_plus (by decide) (fun _ _ _ _ _ _ us hl => match us, hl with | [_, _], _ => rfl) (fun cdv A outer s H E hr => ⟨_, by
  unfold PM.b_plus
  exact (css_cons (cs_asg (ce_callBf cr_gcd calls_gcd (by rfl) T.b_gcd (ca_cons (ce_ix (ce_var 0 rfl (by first | exact Or.inl rfl | exact Or.inr (Or.inl rfl) | exact Or.inr (Or.inr rfl))) ce_int (fun _ _ => rfl)) (ca_cons (ce_ix (ce_var 1 rfl (by first | exact Or.inl rfl | exact Or.inr (Or.inl rfl) | exact Or.inr (Or.inr rfl))) ce_int (fun _ _ => rfl)) ca_nil))) (cg_name (i := 2) sc_plus.nd rfl (.inl rfl))) (css_cons (cs_asg (ce_add (ce_mul (ce_ix (ce_var 0 rfl (by first | exact Or.inl rfl | exact Or.inr (Or.inl rfl) | exact Or.inr (Or.inr rfl))) ce_int (fun _ _ => rfl)) (ce_div (ce_ix (ce_var 1 rfl (by first | exact Or.inl rfl | exact Or.inr (Or.inl rfl) | exact Or.inr (Or.inr rfl))) ce_int (fun _ _ => rfl)) (ce_var 2 rfl (by first | exact Or.inl rfl | exact Or.inr (Or.inl rfl) | exact Or.inr (Or.inr rfl))))) (ce_mul (ce_ix (ce_var 1 rfl (by first | exact Or.inl rfl | exact Or.inr (Or.inl rfl) | exact Or.inr (Or.inr rfl))) ce_int (fun _ _ => rfl)) (ce_div (ce_ix (ce_var 0 rfl (by first | exact Or.inl rfl | exact Or.inr (Or.inl rfl) | exact Or.inr (Or.inr rfl))) ce_int (fun _ _ => rfl)) (ce_var 2 rfl (by first | exact Or.inl rfl | exact Or.inr (Or.inl rfl) | exact Or.inr (Or.inr rfl)))))) (cg_name (i := 3) sc_plus.nd rfl (.inl rfl))) (css_cons (cs_asg (ce_callBf cr_gcd calls_gcd (by rfl) T.b_gcd (ca_cons (ce_var 3 rfl (by first | exact Or.inl rfl | exact Or.inr (Or.inl rfl) | exact Or.inr (Or.inr rfl))) (ca_cons (ce_var 2 rfl (by first | exact Or.inl rfl | exact Or.inr (Or.inl rfl) | exact Or.inr (Or.inr rfl))) ca_nil))) (cg_name (i := 4) sc_plus.nd rfl (.inl rfl))) (css_one (cs_ret (ce_tup (ca_cons (ce_div (ce_var 3 rfl (by first | exact Or.inl rfl | exact Or.inr (Or.inl rfl) | exact Or.inr (Or.inr rfl))) (ce_var 4 rfl (by first | exact Or.inl rfl | exact Or.inr (Or.inl rfl) | exact Or.inr (Or.inr rfl)))) (ca_cons (ce_mul (ce_div (ce_ix (ce_var 0 rfl (by first | exact Or.inl rfl | exact Or.inr (Or.inl rfl) | exact Or.inr (Or.inr rfl))) ce_int (fun _ _ => rfl)) (ce_var 2 rfl (by first | exact Or.inl rfl | exact Or.inr (Or.inl rfl) | exact Or.inr (Or.inr rfl)))) (ce_div (ce_ix (ce_var 1 rfl (by first | exact Or.inl rfl | exact Or.inr (Or.inl rfl) | exact Or.inr (Or.inr rfl))) ce_int (fun _ _ => rfl)) (ce_var 4 rfl (by first | exact Or.inl rfl | exact Or.inr (Or.inl rfl) | exact Or.inr (Or.inr rfl))))) ca_nil))))))))⟩)
theorem ok_minus (T : Tx P K mg) : WD.FnG P w K mg base 2 (He.ga K "minus") ["one", "other"] (spM ⟨K, w⟩ PM.m_minus) := by
  refine fn_pm (N := ["one", "other"]) (st := s_minus) (m := PM.b_minus) T.f_minus sc_minus (by decide) (fun _ _ _ _ _ _ us hl => match us, hl with | [_, _], _ => rfl) (fun cdv A outer s H E hr => ⟨_, by
  unfold PM.b_minus
  exact (css_one (cs_ret (ce_call (ok_plus T) (hr.mono (by decide)) (by rfl) T.m_plus (ca_cons (ce_var 0 rfl (by first | exact Or.inl rfl | exact Or.inr (Or.inl rfl) | exact Or.inr (Or.inr rfl))) (ca_cons (ce_tup (ca_cons (ce_neg (ce_ix (ce_var 1 rfl (by first | exact Or.inl rfl | exact Or.inr (Or.inl rfl) | exact Or.inr (Or.inr rfl))) ce_int (fun _ _ => rfl))) (ca_cons (ce_ix (ce_var 1 rfl (by first | exact Or.inl rfl | exact Or.inr (Or.inl rfl) | exact Or.inr (Or.inr rfl))) ce_int (fun _ _ => rfl)) ca_nil))) ca_nil)))))⟩)
theorem ok_times (T : Tx P K mg) : WD.FnG P w K mg base 1 (He.ga K "times") ["one", "other"] (spM ⟨K, w⟩ PM.m_times) := by
  refine fn_pm (N := ["one", "other", "left", "right"]) (st := s_times) (m := PM.b_times) T.f_times sc_times (by decide) (fun _ _ _ _ _ _ us hl => match us, hl with | [_, _], _ => rfl) (fun cdv A outer s H E hr => ⟨_, by
  unfold PM.b_times
  exact (css_cons (cs_asg (ce_callBf cr_gcd calls_gcd (by rfl) T.b_gcd (ca_cons (ce_ix (ce_var 0 rfl (by first | exact Or.inl rfl | exact Or.inr (Or.inl rfl) | exact Or.inr (Or.inr rfl))) ce_int (fun _ _ => rfl)) (ca_cons (ce_ix (ce_var 1 rfl (by first | exact Or.inl rfl | exact Or.inr (Or.inl rfl) | exact Or.inr (Or.inr rfl))) ce_int (fun _ _ => rfl)) ca_nil))) (cg_name (i := 2) sc_times.nd rfl (.inl rfl))) (css_cons (cs_asg (ce_callBf cr_gcd calls_gcd (by rfl) T.b_gcd (ca_cons (ce_ix (ce_var 1 rfl (by first | exact Or.inl rfl | exact Or.inr (Or.inl rfl) | exact Or.inr (Or.inr rfl))) ce_int (fun _ _ => rfl)) (ca_cons (ce_ix (ce_var 0 rfl (by first | exact Or.inl rfl | exact Or.inr (Or.inl rfl) | exact Or.inr (Or.inr rfl))) ce_int (fun _ _ => rfl)) ca_nil))) (cg_name (i := 3) sc_times.nd rfl (.inl rfl))) (css_one (cs_ret (ce_tup (ca_cons (ce_mul (ce_div (ce_ix (ce_var 0 rfl (by first | exact Or.inl rfl | exact Or.inr (Or.inl rfl) | exact Or.inr (Or.inr rfl))) ce_int (fun _ _ => rfl)) (ce_var 2 rfl (by first | exact Or.inl rfl | exact Or.inr (Or.inl rfl) | exact Or.inr (Or.inr rfl)))) (ce_div (ce_ix (ce_var 1 rfl (by first | exact Or.inl rfl | exact Or.inr (Or.inl rfl) | exact Or.inr (Or.inr rfl))) ce_int (fun _ _ => rfl)) (ce_var 3 rfl (by first | exact Or.inl rfl | exact Or.inr (Or.inl rfl) | exact Or.inr (Or.inr rfl))))) (ca_cons (ce_mul (ce_div (ce_ix (ce_var 0 rfl (by first | exact Or.inl rfl | exact Or.inr (Or.inl rfl) | exact Or.inr (Or.inr rfl))) ce_int (fun _ _ => rfl)) (ce_var 3 rfl (by first | exact Or.inl rfl | exact Or.inr (Or.inl rfl) | exact Or.inr (Or.inr rfl)))) (ce_div (ce_ix (ce_var 1 rfl (by first | exact Or.inl rfl | exact Or.inr (Or.inl rfl) | exact Or.inr (Or.inr rfl))) ce_int (fun _ _ => rfl)) (ce_var 2 rfl (by first | exact Or.inl rfl | exact Or.inr (Or.inl rfl) | exact Or.inr (Or.inr rfl))))) ca_nil)))))))⟩)
theorem ok_is_round (T : Tx P K mg) : WD.FnG P w K mg base 2 (He.ga K "is_round") ["thing"] (spM ⟨K, w⟩ PM.m_is_round) := by
  refine fn_pm (N := ["thing", "step", "rest"]) (st := s_is_round) (m := PM.b_is_round) T.f_is_round sc_is_round (by decide) (fun _ _ _ _ _ _ us hl => match us, hl with | [_], _ => rfl) (fun cdv A outer s H E hr => ⟨_, by
  unfold PM.b_is_round
  exact (css_cons (cs_if (ct_in (u65 hr) (ce_var 0 rfl (by first | exact Or.inl rfl | exact Or.inr (Or.inl rfl) | exact Or.inr (Or.inr rfl))) (ce_tup (ca_cons (ce_tup (ca_cons ce_str ca_nil)) (ca_cons (ce_tup (ca_cons ce_str ca_nil)) ca_nil))) (by rfl)) (css_one (cs_ret ce_bl)) css_nil) (css_cons (cs_if (cw_t (cw_or (ct_not (ct_val (ce_is T.kt_none (.inl "tuple") (by decide) (pe_tyN (n := "tuple") (by rfl) T.z_tuple (by decide +kernel)) (by rfl) T.z_isinstance (ce_var 0 rfl (by first | exact Or.inl rfl | exact Or.inr (Or.inl rfl) | exact Or.inr (Or.inr rfl)))))) (cw_or (ct_ne hr.units (ce_callBK (fun K => rLenS K) call_lenS calls_len (by rfl) T.z_len PySem.boot_len (ca_cons (ce_var 0 rfl (by first | exact Or.inl rfl | exact Or.inr (Or.inl rfl) | exact Or.inr (Or.inr rfl))) ca_nil)) ce_int) (cw_or1 (ct_ne hr.units (ce_ix (ce_var 0 rfl (by first | exact Or.inl rfl | exact Or.inr (Or.inl rfl) | exact Or.inr (Or.inr rfl))) ce_int (fun _ _ => rfl)) ce_str))))) (css_one (cs_ret ce_bl)) css_nil) (css_cons (cs_asg (ce_sl (ce_var 0 rfl (by first | exact Or.inl rfl | exact Or.inr (Or.inl rfl) | exact Or.inr (Or.inr rfl))) (co_some ce_int) co_none) (cg_tup rfl (cgs_cons (cg_name (i := 1) sc_is_round.nd rfl (.inl rfl)) (cgs_cons (cg_name (i := 2) sc_is_round.nd rfl (.inl rfl)) cgs_nil)))) (css_one (cs_ret (ce_and (ce_call (ok_is_integer T) (hr.mono (by decide)) (by rfl) T.m_is_integer (ca_cons (ce_var 1 rfl (by first | exact Or.inl rfl | exact Or.inr (Or.inl rfl) | exact Or.inr (Or.inr rfl))) ca_nil)) (ce_and (ce_call (ok_is_integer T) (hr.mono (by decide)) (by rfl) T.m_is_integer (ca_cons (ce_var 2 rfl (by first | exact Or.inl rfl | exact Or.inr (Or.inl rfl) | exact Or.inr (Or.inr rfl))) ca_nil)) (ce_and (ce_chain op_le op_le (ops_le _) (ops_le _) ce_int (ce_var 1 rfl (by first | exact Or.inl rfl | exact Or.inr (Or.inl rfl) | exact Or.inr (Or.inr rfl))) ce_int) (ce_one (ce_chain op_le op_lt (ops_le _) (ops_lt _) ce_int (ce_var 2 rfl (by first | exact Or.inl rfl | exact Or.inr (Or.inl rfl) | exact Or.inr (Or.inr rfl))) (ce_var 1 rfl (by first | exact Or.inl rfl | exact Or.inr (Or.inl rfl) | exact Or.inr (Or.inr rfl)))))))))))))⟩)
theorem ok_check_rounds (T : Tx P K mg) : WD.FnG P w K mg base 3 (He.ga K "check_rounds") ["rounds"] (spM ⟨K, w⟩ PM.m_check_rounds) := by
  refine fn_pm (N := ["rounds", "place", "told"]) (st := s_check_rounds) (m := PM.b_check_rounds) T.f_check_rounds sc_check_rounds (by decide) (fun _ _ _ _ _ _ us hl => match us, hl with | [_], _ => rfl) (fun cdv A outer s H E hr => ⟨_, by
  unfold PM.b_check_rounds
  exact (css_cons (cs_if (cw_t (cw_or (ct_not (ct_val (ce_isT T.kt_none (.inl "list") (.inl "tuple") (by decide) (by decide) (pe_tyN (n := "list") (by rfl) T.z_list (by decide +kernel)) (pe_tyN (n := "tuple") (by rfl) T.z_tuple (by decide +kernel)) (by rfl) T.z_isinstance (ce_var 0 rfl (by first | exact Or.inl rfl | exact Or.inr (Or.inl rfl) | exact Or.inr (Or.inr rfl)))))) (cw_or1 (ct_gt (ce_callBK (fun K => rLenS K) call_lenS calls_len (by rfl) T.z_len PySem.boot_len (ca_cons (ce_var 0 rfl (by first | exact Or.inl rfl | exact Or.inr (Or.inl rfl) | exact Or.inr (Or.inr rfl))) ca_nil)) (ce_globI (by rfl) T.i_MOST_ROUNDS))))) (css_one (cs_raise1 rfl (T.s_BadProgram T.hp T.ht) hr ce_non (by rfl))) css_nil) (css_one (cs_for rfl (ci_num (by rfl) T.z_enumerate (ce_var 0 rfl (by first | exact Or.inl rfl | exact Or.inr (Or.inl rfl) | exact Or.inr (Or.inr rfl)))) (cg_tup rfl (cgs_cons (cg_name (i := 1) sc_check_rounds.nd rfl (.inl rfl)) (cgs_cons (cg_name (i := 2) sc_check_rounds.nd rfl (.inl rfl)) cgs_nil))) (css_one (cs_if (ct_not (ct_val (ce_call (ok_is_round T) (hr.mono (by decide)) (by rfl) T.m_is_round (ca_cons (ce_var 2 rfl (by first | exact Or.inl rfl | exact Or.inr (Or.inl rfl) | exact Or.inr (Or.inr rfl))) ca_nil)))) (css_one (cs_raise1 rfl (T.s_BadProgram T.hp T.ht) hr (ce_var 1 rfl (by first | exact Or.inl rfl | exact Or.inr (Or.inl rfl) | exact Or.inr (Or.inr rfl))) (by rfl))) css_nil)))))⟩)
theorem ok_Program___init__ (T : Tx P K mg) : WD.FnG P w K mg base 4 (He.ma K (He.ga K "Program") "__init__") ["self", "rounds"] (spM ⟨K, w⟩ PM.m_Program___init__) := by
  refine fn_pm (N := ["self", "rounds"]) (st := s_Program___init__) (m := PM.b_Program___init__) T.f_Program___init__ sc_Program___init__ (by decide) (fun _ _ _ _ _ _ us hl => match us, hl with | [_, _], _ => rfl) (fun cdv A outer s H E hr => ⟨_, by
  unfold PM.b_Program___init__
  exact (css_cons (cs_expr (ce_call (ok_check_rounds T) (hr.mono (by decide)) (by rfl) T.m_check_rounds (ca_cons (ce_var 1 rfl (by first | exact Or.inl rfl | exact Or.inr (Or.inl rfl) | exact Or.inr (Or.inr rfl))) ca_nil))) (css_one (cs_fld ["Program"] (fo_cons T.c_Program T.n_Program_rounds fo_nil) (ce_var 0 rfl (by first | exact Or.inl rfl | exact Or.inr (Or.inl rfl) | exact Or.inr (Or.inr rfl))) (ce_callTyK (fun K => WD.rTupS K) WD.call_tupS calls_tuple (by rfl) T.z_tuple (by decide +kernel) (ca_cons (ce_var 1 rfl (by first | exact Or.inl rfl | exact Or.inr (Or.inl rfl) | exact Or.inr (Or.inr rfl))) ca_nil)) rfl)))⟩)
end
end Lk04
end
section
set_option Elab.async false
set_option linter.all false
set_option maxRecDepth 100000
set_option maxHeartbeats 4000000
namespace Lk04
open PySem PySem.Spec PyProof.Rows L2 Evl PM
open WD (pe_tyN pe_clsN cr_lcm call_lenS call_listS call_tupS call_absS call_maxS call_minS call_intS)
section
variable {P : Program} {w : World} {K : PySem.W.Frag} {mg : Str → Option Value} {base : Heap}
theorem ok_openings (T : Tx P K mg) : WD.FnG P w K mg base 1 (He.ga K "openings") ["rounds", "many"] (spM ⟨K, w⟩ PM.m_openings) := by
  refine fn_pm (N := ["rounds", "many", "found", "told", "weir"]) (st := s_openings) (m := PM.b_openings) T.f_openings sc_openings (by decide) (fun _ _ _ _ _ _ us hl => match us, hl with | [_, _], _ => rfl) (fun cdv A outer s H E hr => ⟨_, by
  unfold PM.b_openings
  exact (css_cons (cs_asg (ce_lstC ca_nil) (cg_name (i := 2) sc_openings.nd rfl (.inl rfl))) (css_cons (cs_for rfl (ci_seq (ce_var 0 rfl (by first | exact Or.inl rfl | exact Or.inr (Or.inl rfl) | exact Or.inr (Or.inr rfl)))) (cg_name (i := 3) sc_openings.nd rfl (.inr rfl)) (css_one (cs_if (ct_eq hr.units (ce_ix (ce_var 3 rfl (by first | exact Or.inl rfl | exact Or.inr (Or.inl rfl) | exact Or.inr (Or.inr rfl))) ce_int (fun _ _ => rfl)) ce_str) (css_one (cs_expr (ce_extend (ce_var 2 rfl (by first | exact Or.inl rfl | exact Or.inr (Or.inl rfl) | exact Or.inr (Or.inr rfl))) (ca_cons (ce_listRg rfl (by rfl) T.z_list (by rfl) T.z_range ce_int (ce_var 1 rfl (by first | exact Or.inl rfl | exact Or.inr (Or.inl rfl) | exact Or.inr (Or.inr rfl)))) ca_nil)))) (css_one (cs_if (ct_eq hr.units (ce_ix (ce_var 3 rfl (by first | exact Or.inl rfl | exact Or.inr (Or.inl rfl) | exact Or.inr (Or.inr rfl))) ce_int (fun _ _ => rfl)) ce_str) (css_one (cs_expr (ce_extend (ce_var 2 rfl (by first | exact Or.inl rfl | exact Or.inr (Or.inl rfl) | exact Or.inr (Or.inr rfl))) (ca_cons (ce_listRg3 rfl (by rfl) T.z_list (by rfl) T.z_range (ca_cons (ce_sub (ce_var 1 rfl (by first | exact Or.inl rfl | exact Or.inr (Or.inl rfl) | exact Or.inr (Or.inr rfl))) ce_int) (ca_cons ce_int (ca_cons (ce_neg ce_int) ca_nil)))) ca_nil)))) (css_one (cs_expr (ce_extend (ce_var 2 rfl (by first | exact Or.inl rfl | exact Or.inr (Or.inl rfl) | exact Or.inr (Or.inr rfl))) (ca_cons (ce_lc false (own := [("weir", 4)]) rfl sc_openings.nd (ci_range2 (by rfl) T.z_range (ca_cons ce_int (ca_cons (ce_var 1 rfl (by first | exact Or.inl rfl | exact Or.inr (Or.inl rfl) | exact Or.inr (Or.inr rfl))) ca_nil))) (blkOk_by (own := [("weir", 4)]) (N := ["rounds", "many", "found", "told", "weir"]) (sc := defScope s_openings) (by decide +kernel)) (fun _ _ _ _ _ => (cg_name (i := 4) sc_openings.nd rfl (.inl rfl))) (keep_gname (by decide)) (fun _ _ _ _ _ => (cts_one (ct_eq hr.units (ce_mod (ce_var 4 rfl (by first | exact Or.inl rfl | exact Or.inr (Or.inl rfl) | exact Or.inr (Or.inr rfl))) (ce_ix (ce_var 3 rfl (by first | exact Or.inl rfl | exact Or.inr (Or.inl rfl) | exact Or.inr (Or.inr rfl))) ce_int (fun _ _ => rfl))) (ce_ix (ce_var 3 rfl (by first | exact Or.inl rfl | exact Or.inr (Or.inl rfl) | exact Or.inr (Or.inr rfl))) ce_int (fun _ _ => rfl))))) (fun _ _ _ _ _ => (ce_var 4 rfl (by first | exact Or.inl rfl | exact Or.inr (Or.inl rfl) | exact Or.inr (Or.inr rfl))))) ca_nil))))))))) (css_one (cs_frz 2 (cs_ret (ce_var 2 rfl (by first | exact Or.inl rfl | exact Or.inr (Or.inl rfl) | exact Or.inr (Or.inr rfl))))))))⟩)
theorem ok_evened (T : Tx P K mg) : WD.FnG P w K mg base 2 (He.ga K "evened") ["rounds", "tops"] (spM ⟨K, w⟩ PM.m_evened) := by
  refine fn_pm (N := ["rounds", "tops", "late", "weir"]) (st := s_evened) (m := PM.b_evened) T.f_evened sc_evened (by decide) (fun _ _ _ _ _ _ us hl => match us, hl with | [_, _], _ => rfl) (fun cdv A outer s H E hr => ⟨_, by
  unfold PM.b_evened
  exact (css_cons (cs_asg (ce_callTyK (fun K => rListS K) call_listS calls_listC (by rfl) T.z_list (by decide +kernel) (ca_cons (ce_var 1 rfl (by first | exact Or.inl rfl | exact Or.inr (Or.inl rfl) | exact Or.inr (Or.inr rfl))) ca_nil)) (cg_name (i := 2) sc_evened.nd rfl (.inl rfl))) (css_cons (cs_for rfl (ci_seq (ce_call (ok_openings T) (hr.mono (by decide)) (by rfl) T.m_openings (ca_cons (ce_var 0 rfl (by first | exact Or.inl rfl | exact Or.inr (Or.inl rfl) | exact Or.inr (Or.inr rfl))) (ca_cons (ce_callBK (fun K => rLenS K) call_lenS calls_len (by rfl) T.z_len PySem.boot_len (ca_cons (ce_var 2 rfl (by first | exact Or.inl rfl | exact Or.inr (Or.inl rfl) | exact Or.inr (Or.inr rfl))) ca_nil)) ca_nil)))) (cg_name (i := 3) sc_evened.nd rfl (.inl rfl)) (css_one (cs_set2 (ce_shr (ce_add (ce_ix (ce_var 2 rfl (by first | exact Or.inl rfl | exact Or.inr (Or.inl rfl) | exact Or.inr (Or.inr rfl))) (ce_sub (ce_var 3 rfl (by first | exact Or.inl rfl | exact Or.inr (Or.inl rfl) | exact Or.inr (Or.inr rfl))) ce_int) (fun _ _ => rfl)) (ce_ix (ce_var 2 rfl (by first | exact Or.inl rfl | exact Or.inr (Or.inl rfl) | exact Or.inr (Or.inr rfl))) (ce_var 3 rfl (by first | exact Or.inl rfl | exact Or.inr (Or.inl rfl) | exact Or.inr (Or.inr rfl))) (fun _ _ => rfl))) ce_int) (ce_var 2 rfl (by first | exact Or.inl rfl | exact Or.inr (Or.inl rfl) | exact Or.inr (Or.inr rfl))) (ce_sub (ce_var 3 rfl (by first | exact Or.inl rfl | exact Or.inr (Or.inl rfl) | exact Or.inr (Or.inr rfl))) ce_int) (ce_var 2 rfl (by first | exact Or.inl rfl | exact Or.inr (Or.inl rfl) | exact Or.inr (Or.inr rfl))) (ce_var 3 rfl (by first | exact Or.inl rfl | exact Or.inr (Or.inl rfl) | exact Or.inr (Or.inr rfl))) (fun y => pg_sub (((ce_var 2 rfl (by first | exact Or.inl rfl | exact Or.inr (Or.inl rfl) | exact Or.inr (Or.inr rfl)))).pe y) (((ce_sub (ce_var 3 rfl (by first | exact Or.inl rfl | exact Or.inr (Or.inl rfl) | exact Or.inr (Or.inr rfl))) ce_int)).pe y) set_list) (fun y => pg_sub (((ce_var 2 rfl (by first | exact Or.inl rfl | exact Or.inr (Or.inl rfl) | exact Or.inr (Or.inr rfl)))).pe y) (((ce_var 3 rfl (by first | exact Or.inl rfl | exact Or.inr (Or.inl rfl) | exact Or.inr (Or.inr rfl)))).pe y) set_list)))) (css_one (cs_frz 2 (cs_ret (ce_var 2 rfl (by first | exact Or.inl rfl | exact Or.inr (Or.inl rfl) | exact Or.inr (Or.inr rfl))))))))⟩)
theorem ok_halvings (T : Tx P K mg) : WD.FnG P w K mg base 1 (He.ga K "halvings") ["rounds", "many"] (spM ⟨K, w⟩ PM.m_halvings) := by
  refine fn_pm (N := ["rounds", "many", "told"]) (st := s_halvings) (m := PM.b_halvings) T.f_halvings sc_halvings (by decide) (fun _ _ _ _ _ _ us hl => match us, hl with | [_, _], _ => rfl) (fun cdv A outer s H E hr => ⟨_, by
  unfold PM.b_halvings
  exact (css_one (cs_ret (ce_callBK (fun K => rSum K) (cr_sum rfl) calls_sum (by rfl) T.z_sum (by decide +kernel) (ca_cons (ce_lc false (own := [("told", 2)]) rfl sc_halvings.nd (ci_seq (ce_var 0 rfl (by first | exact Or.inl rfl | exact Or.inr (Or.inl rfl) | exact Or.inr (Or.inr rfl)))) (blkOk_by (own := [("told", 2)]) (N := ["rounds", "many", "told"]) (sc := defScope s_halvings) (by decide +kernel)) (fun _ _ _ _ _ => (cg_name (i := 2) sc_halvings.nd rfl (.inl rfl))) (keep_gname (by decide)) (fun _ _ _ _ _ => cts_nil) (fun _ _ _ _ _ => (ce_if (ct_in (u65 hr) (ce_ix (ce_var 2 rfl (by first | exact Or.inl rfl | exact Or.inr (Or.inl rfl) | exact Or.inr (Or.inr rfl))) ce_int (fun _ _ => rfl)) (ce_tup (ca_cons ce_str (ca_cons ce_str ca_nil))) (by rfl)) (ce_sub (ce_var 1 rfl (by first | exact Or.inl rfl | exact Or.inr (Or.inl rfl) | exact Or.inr (Or.inr rfl))) ce_int) ce_int))) ca_nil))))⟩)
theorem ok_check_program (T : Tx P K mg) : WD.FnG P w K mg base 1 (He.ga K "check_program") ["program"] (spM ⟨K, w⟩ PM.m_check_program) := by
  refine fn_pm (N := ["program"]) (st := s_check_program) (m := PM.b_check_program) T.f_check_program sc_check_program (by decide) (fun _ _ _ _ _ _ us hl => match us, hl with | [_], _ => rfl) (fun cdv A outer s H E hr => ⟨_, by
  unfold PM.b_check_program
  exact (css_one (cs_if (ct_not (ct_val (ce_is T.kt_Program (.inr "Program") (by decide) (pe_clsN (by rfl) T.m_Program) (by rfl) T.z_isinstance (ce_var 0 rfl (by first | exact Or.inl rfl | exact Or.inr (Or.inl rfl) | exact Or.inr (Or.inr rfl)))))) (css_one (cs_raise1 rfl (T.s_BadProgram T.hp T.ht) hr ce_non (by rfl))) css_nil))⟩)
theorem ok_Recurrence___init__ (T : Tx P K mg) : WD.FnG P w K mg base 1 (He.ma K (He.ga K "Recurrence") "__init__") ["self", "factors", "firsts"] (spM ⟨K, w⟩ PM.m_Recurrence___init__) := by
  refine fn_pm (N := ["self", "factors", "firsts"]) (st := s_Recurrence___init__) (m := PM.b_Recurrence___init__) T.f_Recurrence___init__ sc_Recurrence___init__ (by decide) (fun _ _ _ _ _ _ us hl => match us, hl with | [_, _, _], _ => rfl) (fun cdv A outer s H E hr => ⟨_, by
  unfold PM.b_Recurrence___init__
  exact (css_cons (cs_fld ["Recurrence"] (fo_cons T.c_Recurrence T.n_Recurrence_factors fo_nil) (ce_var 0 rfl (by first | exact Or.inl rfl | exact Or.inr (Or.inl rfl) | exact Or.inr (Or.inr rfl))) (ce_callTyK (fun K => rListS K) call_listS calls_list (by rfl) T.z_list (by decide +kernel) (ca_cons (ce_var 1 rfl (by first | exact Or.inl rfl | exact Or.inr (Or.inl rfl) | exact Or.inr (Or.inr rfl))) ca_nil)) rfl) (css_one (cs_fld ["Recurrence"] (fo_cons T.c_Recurrence T.n_Recurrence_firsts fo_nil) (ce_var 0 rfl (by first | exact Or.inl rfl | exact Or.inr (Or.inl rfl) | exact Or.inr (Or.inr rfl))) (ce_callTyK (fun K => rListS K) call_listS calls_list (by rfl) T.z_list (by decide +kernel) (ca_cons (ce_var 2 rfl (by first | exact Or.inl rfl | exact Or.inr (Or.inl rfl) | exact Or.inr (Or.inr rfl))) ca_nil)) rfl)))⟩)
theorem ok_Recurrence___len__ (T : Tx P K mg) : WD.FnG P w K mg base 1 (He.ma K (He.ga K "Recurrence") "__len__") ["self"] (spM ⟨K, w⟩ PM.m_Recurrence___len__) := by
  refine fn_pm (N := ["self"]) (st := s_Recurrence___len__) (m := PM.b_Recurrence___len__) T.f_Recurrence___len__ sc_Recurrence___len__ (by decide) (fun _ _ _ _ _ _ us hl => match us, hl with | [_], _ => rfl) (fun cdv A outer s H E hr => ⟨_, by
  unfold PM.b_Recurrence___len__
  exact (css_one (cs_ret (ce_callBK (fun K => rLenS K) call_lenS calls_len (by rfl) T.z_len PySem.boot_len (ca_cons (ce_fld ["Recurrence"] (fo_cons T.c_Recurrence T.n_Recurrence_factors fo_nil) (ce_var 0 rfl (by first | exact Or.inl rfl | exact Or.inr (Or.inl rfl) | exact Or.inr (Or.inr rfl))) rfl) ca_nil))))⟩)
theorem ok_check_asked (T : Tx P K mg) : WD.FnG P w K mg base 2 (He.ga K "check_asked") ["program", "start", "back"] (spM ⟨K, w⟩ PM.m_check_asked) := by
  refine fn_pm (N := ["program", "start", "back"]) (st := s_check_asked) (m := PM.b_check_asked) T.f_check_asked sc_check_asked (by decide) (fun _ _ _ _ _ _ us hl => match us, hl with | [_, _, _], _ => rfl) (fun cdv A outer s H E hr => ⟨_, by
  unfold PM.b_check_asked
  exact (css_cons (cs_expr (ce_call (ok_check_program T) (hr.mono (by decide)) (by rfl) T.m_check_program (ca_cons (ce_var 0 rfl (by first | exact Or.inl rfl | exact Or.inr (Or.inl rfl) | exact Or.inr (Or.inr rfl))) ca_nil))) (css_cons (cs_if (ct_notInT (u65 hr) (ce_var 1 rfl (by first | exact Or.inl rfl | exact Or.inr (Or.inl rfl) | exact Or.inr (Or.inr rfl))) (ce_tupG T.g_STARTS (fun _ => (.cons (.str _) (.cons (.str _) (.cons (.str _) (.cons (.str _) .nil))))) (by rfl) T.m_STARTS) (by rfl)) (css_one (cs_raise0 rfl (pmk_own PySem.F.excBase_ValueError T.q_BadStart T.m_BadStart T.p_BadStart (raises_own T.u_BadStart T.v_BadStart) (by rfl)))) css_nil) (css_one (cs_if (cw_t (cw_or (ct_not (ct_val (ce_call (ok_is_integer T) (hr.mono (by decide)) (by rfl) T.m_is_integer (ca_cons (ce_var 2 rfl (by first | exact Or.inl rfl | exact Or.inr (Or.inl rfl) | exact Or.inr (Or.inr rfl))) ca_nil)))) (cw_or1 (ct_not (ct_chain op_le op_le (ops_le _) (ops_le _) ce_int (ce_var 2 rfl (by first | exact Or.inl rfl | exact Or.inr (Or.inl rfl) | exact Or.inr (Or.inr rfl))) (ce_globI (by rfl) T.i_MOST_BACK)))))) (css_one (cs_raise0 rfl (pmk_own PySem.F.excBase_ValueError T.q_BadStart T.m_BadStart T.p_BadStart (raises_own T.u_BadStart T.v_BadStart) (by rfl)))) css_nil))))⟩)
theorem ok_started (T : Tx P K mg) : WD.FnG P w K mg base 1 (He.ga K "started") ["start", "many"] (spM ⟨K, w⟩ PM.m_started) := by
  refine fn_pm (N := ["start", "many", "alone", "_", "at"]) (st := s_started) (m := PM.b_started) T.f_started sc_started (by decide) (fun _ _ _ _ _ _ us hl => match us, hl with | [_, _], _ => rfl) (fun cdv A outer s H E hr => ⟨_, by
  unfold PM.b_started
  exact (css_cons (cs_if (ct_eq hr.units (ce_var 0 rfl (by first | exact Or.inl rfl | exact Or.inr (Or.inl rfl) | exact Or.inr (Or.inr rfl))) ce_str) (css_one (cs_ret (ce_lc false (own := [("_", 3)]) rfl sc_started.nd (ci_range1 (by rfl) T.z_range (ca_cons (ce_var 1 rfl (by first | exact Or.inl rfl | exact Or.inr (Or.inl rfl) | exact Or.inr (Or.inr rfl))) ca_nil)) (blkOk_by (own := [("_", 3)]) (N := ["start", "many", "alone", "_", "at"]) (sc := defScope s_started) (by decide +kernel)) (fun _ _ _ _ _ => (cg_name (i := 3) sc_started.nd rfl (.inl rfl))) (keep_gname (by decide)) (fun _ _ _ _ _ => cts_nil) (fun _ _ _ _ _ => ce_int)))) css_nil) (css_cons (cs_if (ct_eq hr.units (ce_var 0 rfl (by first | exact Or.inl rfl | exact Or.inr (Or.inl rfl) | exact Or.inr (Or.inr rfl))) ce_str) (css_one (cs_ret (ce_listRg rfl (by rfl) T.z_list (by rfl) T.z_range ce_int (ce_add (ce_var 1 rfl (by first | exact Or.inl rfl | exact Or.inr (Or.inl rfl) | exact Or.inr (Or.inr rfl))) ce_int)))) css_nil) (css_cons (cs_asg (ce_if (ct_eq hr.units (ce_var 0 rfl (by first | exact Or.inl rfl | exact Or.inr (Or.inl rfl) | exact Or.inr (Or.inr rfl))) ce_str) ce_int (ce_sub (ce_var 1 rfl (by first | exact Or.inl rfl | exact Or.inr (Or.inl rfl) | exact Or.inr (Or.inr rfl))) ce_int)) (cg_name (i := 2) sc_started.nd rfl (.inr rfl))) (css_one (cs_ret (ce_lc false (own := [("at", 4)]) rfl sc_started.nd (ci_range1 (by rfl) T.z_range (ca_cons (ce_var 1 rfl (by first | exact Or.inl rfl | exact Or.inr (Or.inl rfl) | exact Or.inr (Or.inr rfl))) ca_nil)) (blkOk_by (own := [("at", 4)]) (N := ["start", "many", "alone", "_", "at"]) (sc := defScope s_started) (by decide +kernel)) (fun _ _ _ _ _ => (cg_name (i := 4) sc_started.nd rfl (.inl rfl))) (keep_gname (by decide)) (fun _ _ _ _ _ => cts_nil) (fun _ _ _ _ _ => (ce_callTyK (fun _ => WD.rInt1) WD.call_intS calls_int (by rfl) T.z_int (by decide +kernel) (ca_cons (ce_eq hr.units (ce_var 4 rfl (by first | exact Or.inl rfl | exact Or.inr (Or.inl rfl) | exact Or.inr (Or.inr rfl))) (ce_var 2 rfl (by first | exact Or.inl rfl | exact Or.inr (Or.inl rfl) | exact Or.inr (Or.inr rfl)))) ca_nil)))))))))⟩)
theorem ok_amount_at (T : Tx P K mg) : WD.FnG P w K mg base 3 (He.ga K "amount_at") ["program", "start", "back", "many"] (spM ⟨K, w⟩ PM.m_amount_at) := by
  refine fn_pm (N := ["program", "start", "back", "many", "often", "tops", "volume"]) (st := s_amount_at) (m := PM.b_amount_at) T.f_amount_at sc_amount_at (by decide) (fun _ _ _ _ _ _ us hl => match us, hl with | [_, _, _, _], _ => rfl) (fun cdv A outer s H E hr => ⟨_, by
  unfold PM.b_amount_at
  exact (css_cons (cs_asg (ce_call (ok_halvings T) (hr.mono (by decide)) (by rfl) T.m_halvings (ca_cons (ce_fld ["Program"] (fo_cons T.c_Program T.n_Program_rounds fo_nil) (ce_var 0 rfl (by first | exact Or.inl rfl | exact Or.inr (Or.inl rfl) | exact Or.inr (Or.inr rfl))) rfl) (ca_cons (ce_var 3 rfl (by first | exact Or.inl rfl | exact Or.inr (Or.inl rfl) | exact Or.inr (Or.inr rfl))) ca_nil))) (cg_name (i := 4) sc_amount_at.nd rfl (.inr rfl))) (css_cons (cs_setLc false (i := 5) (own := [("volume", 6)]) rfl sc_amount_at.nd rfl rfl (sw_true rfl rfl rfl (by decide +kernel)) (ci_seq (ce_call (ok_started T) (hr.mono (by decide)) (by rfl) T.m_started (ca_cons (ce_var 1 rfl (by first | exact Or.inl rfl | exact Or.inr (Or.inl rfl) | exact Or.inr (Or.inr rfl))) (ca_cons (ce_var 3 rfl (by first | exact Or.inl rfl | exact Or.inr (Or.inl rfl) | exact Or.inr (Or.inr rfl))) ca_nil)))) (blkOk_by (own := [("volume", 6)]) (N := ["program", "start", "back", "many", "often", "tops", "volume"]) (sc := defScope s_amount_at) (by decide +kernel)) (fun _ _ _ _ _ => (cg_name (i := 6) sc_amount_at.nd rfl (.inl rfl))) (keep_gname (by decide)) (fun _ _ _ _ _ => cts_nil) (fun _ _ _ _ _ => (ce_shl (ce_var 6 rfl (by first | exact Or.inl rfl | exact Or.inr (Or.inl rfl) | exact Or.inr (Or.inr rfl))) (ce_var 4 rfl (by first | exact Or.inl rfl | exact Or.inr (Or.inl rfl) | exact Or.inr (Or.inr rfl)))))) (css_one (cs_ret (ce_call (ok_reduced T) (hr.mono (by decide)) (by rfl) T.m_reduced (ca_cons (ce_ix (ce_call (ok_evened T) (hr.mono (by decide)) (by rfl) T.m_evened (ca_cons (ce_fld ["Program"] (fo_cons T.c_Program T.n_Program_rounds fo_nil) (ce_var 0 rfl (by first | exact Or.inl rfl | exact Or.inr (Or.inl rfl) | exact Or.inr (Or.inr rfl))) rfl) (ca_cons (ce_var 5 rfl (by first | exact Or.inl rfl | exact Or.inr (Or.inl rfl) | exact Or.inr (Or.inr rfl))) ca_nil))) (ce_sub (ce_sub (ce_var 3 rfl (by first | exact Or.inl rfl | exact Or.inr (Or.inl rfl) | exact Or.inr (Or.inr rfl))) ce_int) (ce_var 2 rfl (by first | exact Or.inl rfl | exact Or.inr (Or.inl rfl) | exact Or.inr (Or.inr rfl)))) (fun _ _ => rfl)) (ca_cons (ce_shl ce_int (ce_var 4 rfl (by first | exact Or.inl rfl | exact Or.inr (Or.inl rfl) | exact Or.inr (Or.inr rfl)))) ca_nil)))))))⟩)
end
end Lk04
end
section
set_option Elab.async false
set_option linter.all false
set_option maxRecDepth 100000
set_option maxHeartbeats 4000000
namespace Lk04
open PySem PySem.Spec PyProof.Rows L2 Evl PM
open WD (pe_tyN pe_clsN cr_lcm call_lenS call_listS call_tupS call_absS call_maxS call_minS call_intS)
section
variable {P : Program} {w : World} {K : PySem.W.Frag} {mg : Str → Option Value} {base : Heap}
theorem ok_first_amounts (T : Tx P K mg) : WD.FnG P w K mg base 4 (He.ga K "first_amounts") ["program", "start", "back", "many"] (spM ⟨K, w⟩ PM.m_first_amounts) := by
  refine fn_pm (N := ["program", "start", "back", "many", "at"]) (st := s_first_amounts) (m := PM.b_first_amounts) T.f_first_amounts sc_first_amounts (by decide) (fun _ _ _ _ _ _ us hl => match us, hl with | [_, _, _, _], _ => rfl) (fun cdv A outer s H E hr => ⟨_, by
  unfold PM.b_first_amounts
  exact (css_one (cs_ret (ce_lc false (own := [("at", 4)]) rfl sc_first_amounts.nd (ci_range1 (by rfl) T.z_range (ca_cons (ce_var 3 rfl (by first | exact Or.inl rfl | exact Or.inr (Or.inl rfl) | exact Or.inr (Or.inr rfl))) ca_nil)) (blkOk_by (own := [("at", 4)]) (N := ["program", "start", "back", "many", "at"]) (sc := defScope s_first_amounts) (by decide +kernel)) (fun _ _ _ _ _ => (cg_name (i := 4) sc_first_amounts.nd rfl (.inl rfl))) (keep_gname (by decide)) (fun _ _ _ _ _ => cts_nil) (fun _ _ _ _ _ => (ce_call (ok_amount_at T) (hr.mono (by decide)) (by rfl) T.m_amount_at (ca_cons (ce_var 0 rfl (by first | exact Or.inl rfl | exact Or.inr (Or.inl rfl) | exact Or.inr (Or.inr rfl))) (ca_cons (ce_var 1 rfl (by first | exact Or.inl rfl | exact Or.inr (Or.inl rfl) | exact Or.inr (Or.inr rfl))) (ca_cons (ce_var 2 rfl (by first | exact Or.inl rfl | exact Or.inr (Or.inl rfl) | exact Or.inr (Or.inr rfl))) (ca_cons (ce_add (ce_add (ce_var 2 rfl (by first | exact Or.inl rfl | exact Or.inr (Or.inl rfl) | exact Or.inr (Or.inr rfl))) ce_int) (ce_var 4 rfl (by first | exact Or.inl rfl | exact Or.inr (Or.inl rfl) | exact Or.inr (Or.inr rfl)))) ca_nil)))))))))⟩)
theorem ok_dot (T : Tx P K mg) : WD.FnG P w K mg base 2 (He.ga K "dot") ["factors", "numbers"] (spM ⟨K, w⟩ PM.m_dot) := by
  refine fn_pm (N := ["factors", "numbers", "total", "factor", "number"]) (st := s_dot) (m := PM.b_dot) T.f_dot sc_dot (by decide) (fun _ _ _ _ _ _ us hl => match us, hl with | [_, _], _ => rfl) (fun cdv A outer s H E hr => ⟨_, by
  unfold PM.b_dot
  exact (css_cons (cs_asg (ce_tup (ca_cons ce_int (ca_cons ce_int ca_nil))) (cg_name (i := 2) sc_dot.nd rfl (.inl rfl))) (css_cons (cs_for rfl (ci_zip (by rfl) T.z_zip (ca_cons (ce_var 0 rfl (by first | exact Or.inl rfl | exact Or.inr (Or.inl rfl) | exact Or.inr (Or.inr rfl))) (ca_cons (ce_var 1 rfl (by first | exact Or.inl rfl | exact Or.inr (Or.inl rfl) | exact Or.inr (Or.inr rfl))) ca_nil))) (cg_tup rfl (cgs_cons (cg_name (i := 3) sc_dot.nd rfl (.inl rfl)) (cgs_cons (cg_name (i := 4) sc_dot.nd rfl (.inl rfl)) cgs_nil))) (css_one (cs_asg (ce_call (ok_plus T) (hr.mono (by decide)) (by rfl) T.m_plus (ca_cons (ce_var 2 rfl (by first | exact Or.inl rfl | exact Or.inr (Or.inl rfl) | exact Or.inr (Or.inr rfl))) (ca_cons (ce_call (ok_times T) (hr.mono (by decide)) (by rfl) T.m_times (ca_cons (ce_var 3 rfl (by first | exact Or.inl rfl | exact Or.inr (Or.inl rfl) | exact Or.inr (Or.inr rfl))) (ca_cons (ce_var 4 rfl (by first | exact Or.inl rfl | exact Or.inr (Or.inl rfl) | exact Or.inr (Or.inr rfl))) ca_nil))) ca_nil))) (cg_name (i := 2) sc_dot.nd rfl (.inl rfl))))) (css_one (cs_ret (ce_var 2 rfl (by first | exact Or.inl rfl | exact Or.inr (Or.inl rfl) | exact Or.inr (Or.inr rfl)))))))⟩)
theorem ok_told_by (T : Tx P K mg) : WD.FnG P w K mg base 3 (He.ga K "told_by") ["factors", "firsts", "many"] (spM ⟨K, w⟩ PM.m_told_by) := by
  refine fn_pm (N := ["factors", "firsts", "many", "found"]) (st := s_told_by) (m := PM.b_told_by) T.f_told_by sc_told_by (by decide) (fun _ _ _ _ _ _ us hl => match us, hl with | [_, _, _], _ => rfl) (fun cdv A outer s H E hr => ⟨_, by
  unfold PM.b_told_by
  exact (css_cons (cs_asg (ce_slC (ce_var 1 rfl (by first | exact Or.inl rfl | exact Or.inr (Or.inl rfl) | exact Or.inr (Or.inr rfl))) co_none (co_some (ce_var 2 rfl (by first | exact Or.inl rfl | exact Or.inr (Or.inl rfl) | exact Or.inr (Or.inr rfl))))) (cg_name (i := 3) sc_told_by.nd rfl (.inl rfl))) (css_cons (cs_while _ (ct_lt (ce_callBK (fun K => rLenS K) call_lenS calls_len (by rfl) T.z_len PySem.boot_len (ca_cons (ce_var 3 rfl (by first | exact Or.inl rfl | exact Or.inr (Or.inl rfl) | exact Or.inr (Or.inr rfl))) ca_nil)) (ce_var 2 rfl (by first | exact Or.inl rfl | exact Or.inr (Or.inl rfl) | exact Or.inr (Or.inr rfl)))) (css_one (cs_expr (ce_append (ce_var 3 rfl (by first | exact Or.inl rfl | exact Or.inr (Or.inl rfl) | exact Or.inr (Or.inr rfl))) (ca_cons (ce_call (ok_dot T) (hr.mono (by decide)) (by rfl) T.m_dot (ca_cons (ce_var 0 rfl (by first | exact Or.inl rfl | exact Or.inr (Or.inl rfl) | exact Or.inr (Or.inr rfl))) (ca_cons (ce_sl (ce_var 3 rfl (by first | exact Or.inl rfl | exact Or.inr (Or.inl rfl) | exact Or.inr (Or.inr rfl))) (co_some (ce_sub (ce_callBK (fun K => rLenS K) call_lenS calls_len (by rfl) T.z_len PySem.boot_len (ca_cons (ce_var 3 rfl (by first | exact Or.inl rfl | exact Or.inr (Or.inl rfl) | exact Or.inr (Or.inr rfl))) ca_nil)) (ce_callBK (fun K => rLenS K) call_lenS calls_len (by rfl) T.z_len PySem.boot_len (ca_cons (ce_var 0 rfl (by first | exact Or.inl rfl | exact Or.inr (Or.inl rfl) | exact Or.inr (Or.inr rfl))) ca_nil)))) co_none) ca_nil))) ca_nil))))) (css_one (cs_frz 3 (cs_ret (ce_var 3 rfl (by first | exact Or.inl rfl | exact Or.inr (Or.inl rfl) | exact Or.inr (Or.inr rfl))))))))⟩)
theorem ok_Recurrence_shows (T : Tx P K mg) : WD.FnG P w K mg base 5 (He.ma K (He.ga K "Recurrence") "shows") ["self", "program", "start", "back"] (spM ⟨K, w⟩ PM.m_Recurrence_shows) := by
  refine fn_pm (N := ["self", "program", "start", "back", "many", "number"]) (st := s_Recurrence_shows) (m := PM.b_Recurrence_shows) T.f_Recurrence_shows sc_Recurrence_shows (by decide) (fun _ _ _ _ _ _ us hl => match us, hl with | [_, _, _, _], _ => rfl) (fun cdv A outer s H E hr => ⟨_, by
  unfold PM.b_Recurrence_shows
  exact (css_cons (cs_expr (ce_call (ok_check_asked T) (hr.mono (by decide)) (by rfl) T.m_check_asked (ca_cons (ce_var 1 rfl (by first | exact Or.inl rfl | exact Or.inr (Or.inl rfl) | exact Or.inr (Or.inr rfl))) (ca_cons (ce_var 2 rfl (by first | exact Or.inl rfl | exact Or.inr (Or.inl rfl) | exact Or.inr (Or.inr rfl))) (ca_cons (ce_var 3 rfl (by first | exact Or.inl rfl | exact Or.inr (Or.inl rfl) | exact Or.inr (Or.inr rfl))) ca_nil))))) (css_cons (cs_if (ct_ne hr.units (ce_callBK (fun K => rLenS K) call_lenS calls_len (by rfl) T.z_len PySem.boot_len (ca_cons (ce_fld ["Recurrence"] (fo_cons T.c_Recurrence T.n_Recurrence_factors fo_nil) (ce_var 0 rfl (by first | exact Or.inl rfl | exact Or.inr (Or.inl rfl) | exact Or.inr (Or.inr rfl))) rfl) ca_nil)) (ce_callBK (fun K => rLenS K) call_lenS calls_len (by rfl) T.z_len PySem.boot_len (ca_cons (ce_fld ["Recurrence"] (fo_cons T.c_Recurrence T.n_Recurrence_firsts fo_nil) (ce_var 0 rfl (by first | exact Or.inl rfl | exact Or.inr (Or.inl rfl) | exact Or.inr (Or.inr rfl))) rfl) ca_nil))) (css_one (cs_ret ce_bl)) css_nil) (css_cons (cs_if (ct_not (ct_val (ce_callBK (fun K => rAll K) (cr_all rfl) calls_all (by rfl) T.z_all (by decide +kernel) (ca_cons (ce_lc false (own := [("number", 5)]) rfl sc_Recurrence_shows.nd (ci_seq (ce_add (ce_fld ["Recurrence"] (fo_cons T.c_Recurrence T.n_Recurrence_factors fo_nil) (ce_var 0 rfl (by first | exact Or.inl rfl | exact Or.inr (Or.inl rfl) | exact Or.inr (Or.inr rfl))) rfl) (ce_fld ["Recurrence"] (fo_cons T.c_Recurrence T.n_Recurrence_firsts fo_nil) (ce_var 0 rfl (by first | exact Or.inl rfl | exact Or.inr (Or.inl rfl) | exact Or.inr (Or.inr rfl))) rfl))) (blkOk_by (own := [("number", 5)]) (N := ["self", "program", "start", "back", "many", "number"]) (sc := defScope s_Recurrence_shows) (by decide +kernel)) (fun _ _ _ _ _ => (cg_name (i := 5) sc_Recurrence_shows.nd rfl (.inl rfl))) (keep_gname (by decide)) (fun _ _ _ _ _ => cts_nil) (fun _ _ _ _ _ => (ce_call (ok_is_exact T) (hr.mono (by decide)) (by rfl) T.m_is_exact (ca_cons (ce_var 5 rfl (by first | exact Or.inl rfl | exact Or.inr (Or.inl rfl) | exact Or.inr (Or.inr rfl))) ca_nil)))) ca_nil)))) (css_one (cs_ret ce_bl)) css_nil) (css_cons (cs_asg (ce_add (ce_callBK (fun K => rLenS K) call_lenS calls_len (by rfl) T.z_len PySem.boot_len (ca_cons (ce_fld ["Recurrence"] (fo_cons T.c_Recurrence T.n_Recurrence_factors fo_nil) (ce_var 0 rfl (by first | exact Or.inl rfl | exact Or.inr (Or.inl rfl) | exact Or.inr (Or.inr rfl))) rfl) ca_nil)) (ce_globI (by rfl) T.i_MOST_FACTORS)) (cg_name (i := 4) sc_Recurrence_shows.nd rfl (.inl rfl))) (css_one (cs_ret (ce_eq hr.units (ce_call (ok_told_by T) (hr.mono (by decide)) (by rfl) T.m_told_by (ca_cons (ce_fld ["Recurrence"] (fo_cons T.c_Recurrence T.n_Recurrence_factors fo_nil) (ce_var 0 rfl (by first | exact Or.inl rfl | exact Or.inr (Or.inl rfl) | exact Or.inr (Or.inr rfl))) rfl) (ca_cons (ce_fld ["Recurrence"] (fo_cons T.c_Recurrence T.n_Recurrence_firsts fo_nil) (ce_var 0 rfl (by first | exact Or.inl rfl | exact Or.inr (Or.inl rfl) | exact Or.inr (Or.inr rfl))) rfl) (ca_cons (ce_var 4 rfl (by first | exact Or.inl rfl | exact Or.inr (Or.inl rfl) | exact Or.inr (Or.inr rfl))) ca_nil)))) (ce_call (ok_first_amounts T) (hr.mono (by decide)) (by rfl) T.m_first_amounts (ca_cons (ce_var 1 rfl (by first | exact Or.inl rfl | exact Or.inr (Or.inl rfl) | exact Or.inr (Or.inr rfl))) (ca_cons (ce_var 2 rfl (by first | exact Or.inl rfl | exact Or.inr (Or.inl rfl) | exact Or.inr (Or.inr rfl))) (ca_cons (ce_var 3 rfl (by first | exact Or.inl rfl | exact Or.inr (Or.inl rfl) | exact Or.inr (Or.inr rfl))) (ca_cons (ce_var 4 rfl (by first | exact Or.inl rfl | exact Or.inr (Or.inl rfl) | exact Or.inr (Or.inr rfl))) ca_nil))))))))))))⟩)
theorem ok_Recurrence_value (T : Tx P K mg) : WD.FnG P w K mg base 4 (He.ma K (He.ga K "Recurrence") "value") ["self", "number"] (spM ⟨K, w⟩ PM.m_Recurrence_value) := by
  refine fn_pm (N := ["self", "number"]) (st := s_Recurrence_value) (m := PM.b_Recurrence_value) T.f_Recurrence_value sc_Recurrence_value (by decide) (fun _ _ _ _ _ _ us hl => match us, hl with | [_, _], _ => rfl) (fun cdv A outer s H E hr => ⟨_, by
  unfold PM.b_Recurrence_value
  exact (css_one (cs_ret (ce_ix (ce_call (ok_told_by T) (hr.mono (by decide)) (by rfl) T.m_told_by (ca_cons (ce_fld ["Recurrence"] (fo_cons T.c_Recurrence T.n_Recurrence_factors fo_nil) (ce_var 0 rfl (by first | exact Or.inl rfl | exact Or.inr (Or.inl rfl) | exact Or.inr (Or.inr rfl))) rfl) (ca_cons (ce_fld ["Recurrence"] (fo_cons T.c_Recurrence T.n_Recurrence_firsts fo_nil) (ce_var 0 rfl (by first | exact Or.inl rfl | exact Or.inr (Or.inl rfl) | exact Or.inr (Or.inr rfl))) rfl) (ca_cons (ce_add (ce_var 1 rfl (by first | exact Or.inl rfl | exact Or.inr (Or.inl rfl) | exact Or.inr (Or.inr rfl))) ce_int) ca_nil)))) (ce_var 1 rfl (by first | exact Or.inl rfl | exact Or.inr (Or.inl rfl) | exact Or.inr (Or.inr rfl))) (fun _ _ => rfl))))⟩)
theorem ok_amount (T : Tx P K mg) : WD.FnG P w K mg base 4 (He.ga K "amount") ["program", "start", "back", "many"] (spM ⟨K, w⟩ PM.m_amount) := by
  refine fn_pm (N := ["program", "start", "back", "many"]) (st := s_amount) (m := PM.b_amount) T.f_amount sc_amount (by decide) (fun _ _ _ _ _ _ us hl => match us, hl with | [_, _, _, _], _ => rfl) (fun cdv A outer s H E hr => ⟨_, by
  unfold PM.b_amount
  exact (css_cons (cs_expr (ce_call (ok_check_asked T) (hr.mono (by decide)) (by rfl) T.m_check_asked (ca_cons (ce_var 0 rfl (by first | exact Or.inl rfl | exact Or.inr (Or.inl rfl) | exact Or.inr (Or.inr rfl))) (ca_cons (ce_var 1 rfl (by first | exact Or.inl rfl | exact Or.inr (Or.inl rfl) | exact Or.inr (Or.inr rfl))) (ca_cons (ce_var 2 rfl (by first | exact Or.inl rfl | exact Or.inr (Or.inl rfl) | exact Or.inr (Or.inr rfl))) ca_nil))))) (css_cons (cs_if (cw_t (cw_or (ct_not (ct_val (ce_call (ok_is_integer T) (hr.mono (by decide)) (by rfl) T.m_is_integer (ca_cons (ce_var 3 rfl (by first | exact Or.inl rfl | exact Or.inr (Or.inl rfl) | exact Or.inr (Or.inr rfl))) ca_nil)))) (cw_or1 (ct_not (ct_chain op_lt op_le (ops_lt _) (ops_le _) (ce_var 2 rfl (by first | exact Or.inl rfl | exact Or.inr (Or.inl rfl) | exact Or.inr (Or.inr rfl))) (ce_var 3 rfl (by first | exact Or.inl rfl | exact Or.inr (Or.inl rfl) | exact Or.inr (Or.inr rfl))) (ce_globI (by rfl) T.i_MOST_TRIED)))))) (css_one (cs_raise0 rfl (pmk_own PySem.F.excBase_ValueError T.q_BadStart T.m_BadStart T.p_BadStart (raises_own T.u_BadStart T.v_BadStart) (by rfl)))) css_nil) (css_one (cs_ret (ce_call (ok_amount_at T) (hr.mono (by decide)) (by rfl) T.m_amount_at (ca_cons (ce_var 0 rfl (by first | exact Or.inl rfl | exact Or.inr (Or.inl rfl) | exact Or.inr (Or.inr rfl))) (ca_cons (ce_var 1 rfl (by first | exact Or.inl rfl | exact Or.inr (Or.inl rfl) | exact Or.inr (Or.inr rfl))) (ca_cons (ce_var 2 rfl (by first | exact Or.inl rfl | exact Or.inr (Or.inl rfl) | exact Or.inr (Or.inr rfl))) (ca_cons (ce_var 3 rfl (by first | exact Or.inl rfl | exact Or.inr (Or.inl rfl) | exact Or.inr (Or.inr rfl))) ca_nil)))))))))⟩)
theorem ok_amounts (T : Tx P K mg) : WD.FnG P w K mg base 5 (He.ga K "amounts") ["program", "start", "back", "most"] (spM ⟨K, w⟩ PM.m_amounts) := by
  refine fn_pm (N := ["program", "start", "back", "most"]) (st := s_amounts) (m := PM.b_amounts) T.f_amounts sc_amounts (by decide) (fun _ _ _ _ _ _ us hl => match us, hl with | [_, _, _, _], _ => rfl) (fun cdv A outer s H E hr => ⟨_, by
  unfold PM.b_amounts
  exact (css_cons (cs_expr (ce_call (ok_check_asked T) (hr.mono (by decide)) (by rfl) T.m_check_asked (ca_cons (ce_var 0 rfl (by first | exact Or.inl rfl | exact Or.inr (Or.inl rfl) | exact Or.inr (Or.inr rfl))) (ca_cons (ce_var 1 rfl (by first | exact Or.inl rfl | exact Or.inr (Or.inl rfl) | exact Or.inr (Or.inr rfl))) (ca_cons (ce_var 2 rfl (by first | exact Or.inl rfl | exact Or.inr (Or.inl rfl) | exact Or.inr (Or.inr rfl))) ca_nil))))) (css_cons (cs_if (cw_t (cw_or (ct_not (ct_val (ce_call (ok_is_integer T) (hr.mono (by decide)) (by rfl) T.m_is_integer (ca_cons (ce_var 3 rfl (by first | exact Or.inl rfl | exact Or.inr (Or.inl rfl) | exact Or.inr (Or.inr rfl))) ca_nil)))) (cw_or1 (ct_not (ct_chain op_le op_le (ops_le _) (ops_le _) ce_int (ce_var 3 rfl (by first | exact Or.inl rfl | exact Or.inr (Or.inl rfl) | exact Or.inr (Or.inr rfl))) (ce_sub (ce_globI (by rfl) T.i_MOST_TRIED) (ce_var 2 rfl (by first | exact Or.inl rfl | exact Or.inr (Or.inl rfl) | exact Or.inr (Or.inr rfl))))))))) (css_one (cs_raise0 rfl (pmk_own PySem.F.excBase_ValueError T.q_BadStart T.m_BadStart T.p_BadStart (raises_own T.u_BadStart T.v_BadStart) (by rfl)))) css_nil) (css_one (cs_ret (ce_call (ok_first_amounts T) (hr.mono (by decide)) (by rfl) T.m_first_amounts (ca_cons (ce_var 0 rfl (by first | exact Or.inl rfl | exact Or.inr (Or.inl rfl) | exact Or.inr (Or.inr rfl))) (ca_cons (ce_var 1 rfl (by first | exact Or.inl rfl | exact Or.inr (Or.inl rfl) | exact Or.inr (Or.inr rfl))) (ca_cons (ce_var 2 rfl (by first | exact Or.inl rfl | exact Or.inr (Or.inl rfl) | exact Or.inr (Or.inr rfl))) (ca_cons (ce_var 3 rfl (by first | exact Or.inl rfl | exact Or.inr (Or.inl rfl) | exact Or.inr (Or.inr rfl))) ca_nil)))))))))⟩)
theorem ok_mend (T : Tx P K mg) : WD.FnG P w K mg base 3 (He.ga K "mend") ["weights", "earlier", "since", "part"] (spM ⟨K, w⟩ PM.m_mend) := by
  refine fn_pm (N := ["weights", "earlier", "since", "part", "found", "at", "weight"]) (st := s_mend) (m := PM.b_mend) T.f_mend sc_mend (by decide) (fun _ _ _ _ _ _ us hl => match us, hl with | [_, _, _, _], _ => rfl) (fun cdv A outer s H E hr => ⟨_, by
  unfold PM.b_mend
  exact (css_cons (cs_asg (ce_addC (ce_var 0 rfl (by first | exact Or.inl rfl | exact Or.inr (Or.inl rfl) | exact Or.inr (Or.inr rfl))) (ce_mul (ce_lst (ca_cons (ce_tup (ca_cons ce_int (ca_cons ce_int ca_nil))) ca_nil)) (ce_sub (ce_add (ce_var 2 rfl (by first | exact Or.inl rfl | exact Or.inr (Or.inl rfl) | exact Or.inr (Or.inr rfl))) (ce_callBK (fun K => rLenS K) call_lenS calls_len (by rfl) T.z_len PySem.boot_len (ca_cons (ce_var 1 rfl (by first | exact Or.inl rfl | exact Or.inr (Or.inl rfl) | exact Or.inr (Or.inr rfl))) ca_nil))) (ce_callBK (fun K => rLenS K) call_lenS calls_len (by rfl) T.z_len PySem.boot_len (ca_cons (ce_var 0 rfl (by first | exact Or.inl rfl | exact Or.inr (Or.inl rfl) | exact Or.inr (Or.inr rfl))) ca_nil))))) (cg_name (i := 4) sc_mend.nd rfl (.inl rfl))) (css_cons (cs_for rfl (ci_num (by rfl) T.z_enumerate (ce_var 1 rfl (by first | exact Or.inl rfl | exact Or.inr (Or.inl rfl) | exact Or.inr (Or.inr rfl)))) (cg_tup rfl (cgs_cons (cg_name (i := 5) sc_mend.nd rfl (.inl rfl)) (cgs_cons (cg_name (i := 6) sc_mend.nd rfl (.inl rfl)) cgs_nil))) (css_one (cs_set (ce_call (ok_minus T) (hr.mono (by decide)) (by rfl) T.m_minus (ca_cons (ce_ix (ce_var 4 rfl (by first | exact Or.inl rfl | exact Or.inr (Or.inl rfl) | exact Or.inr (Or.inr rfl))) (ce_add (ce_var 2 rfl (by first | exact Or.inl rfl | exact Or.inr (Or.inl rfl) | exact Or.inr (Or.inr rfl))) (ce_var 5 rfl (by first | exact Or.inl rfl | exact Or.inr (Or.inl rfl) | exact Or.inr (Or.inr rfl)))) (fun _ _ => rfl)) (ca_cons (ce_call (ok_times T) (hr.mono (by decide)) (by rfl) T.m_times (ca_cons (ce_var 3 rfl (by first | exact Or.inl rfl | exact Or.inr (Or.inl rfl) | exact Or.inr (Or.inr rfl))) (ca_cons (ce_var 6 rfl (by first | exact Or.inl rfl | exact Or.inr (Or.inl rfl) | exact Or.inr (Or.inr rfl))) ca_nil))) ca_nil))) (ce_var 4 rfl (by first | exact Or.inl rfl | exact Or.inr (Or.inl rfl) | exact Or.inr (Or.inr rfl))) (ce_add (ce_var 2 rfl (by first | exact Or.inl rfl | exact Or.inr (Or.inl rfl) | exact Or.inr (Or.inr rfl))) (ce_var 5 rfl (by first | exact Or.inl rfl | exact Or.inr (Or.inl rfl) | exact Or.inr (Or.inr rfl)))) rfl rfl rfl (fun y => pg_sub (((ce_var 4 rfl (by first | exact Or.inl rfl | exact Or.inr (Or.inl rfl) | exact Or.inr (Or.inr rfl)))).pe y) (((ce_add (ce_var 2 rfl (by first | exact Or.inl rfl | exact Or.inr (Or.inl rfl) | exact Or.inr (Or.inr rfl))) (ce_var 5 rfl (by first | exact Or.inl rfl | exact Or.inr (Or.inl rfl) | exact Or.inr (Or.inr rfl))))).pe y) set_list)))) (css_one (cs_frz 4 (cs_ret (ce_var 4 rfl (by first | exact Or.inl rfl | exact Or.inr (Or.inl rfl) | exact Or.inr (Or.inr rfl))))))))⟩)
theorem ok_reduced_inverse (T : Tx P K mg) : WD.FnG P w K mg base 1 (He.ga K "reduced_inverse") ["number"] (spM ⟨K, w⟩ PM.m_reduced_inverse) := by
  refine fn_pm (N := ["number", "top", "bottom"]) (st := s_reduced_inverse) (m := PM.b_reduced_inverse) T.f_reduced_inverse sc_reduced_inverse (by decide) (fun _ _ _ _ _ _ us hl => match us, hl with | [_], _ => rfl) (fun cdv A outer s H E hr => ⟨_, by
  unfold PM.b_reduced_inverse
  exact (css_cons (cs_asg (ce_var 0 rfl (by first | exact Or.inl rfl | exact Or.inr (Or.inl rfl) | exact Or.inr (Or.inr rfl))) (cg_tup rfl (cgs_cons (cg_name (i := 1) sc_reduced_inverse.nd rfl (.inl rfl)) (cgs_cons (cg_name (i := 2) sc_reduced_inverse.nd rfl (.inl rfl)) cgs_nil)))) (css_one (cs_ret (ce_if (ct_gt (ce_var 1 rfl (by first | exact Or.inl rfl | exact Or.inr (Or.inl rfl) | exact Or.inr (Or.inr rfl))) ce_int) (ce_tup (ca_cons (ce_var 2 rfl (by first | exact Or.inl rfl | exact Or.inr (Or.inl rfl) | exact Or.inr (Or.inr rfl))) (ca_cons (ce_var 1 rfl (by first | exact Or.inl rfl | exact Or.inr (Or.inl rfl) | exact Or.inr (Or.inr rfl))) ca_nil))) (ce_tup (ca_cons (ce_neg (ce_var 2 rfl (by first | exact Or.inl rfl | exact Or.inr (Or.inl rfl) | exact Or.inr (Or.inr rfl)))) (ca_cons (ce_neg (ce_var 1 rfl (by first | exact Or.inl rfl | exact Or.inr (Or.inl rfl) | exact Or.inr (Or.inr rfl)))) ca_nil)))))))⟩)
theorem ok_fewest_factors (T : Tx P K mg) : WD.FnG P w K mg base 4 (He.ga K "fewest_factors") ["numbers"] (spM ⟨K, w⟩ PM.m_fewest_factors) := by
  refine fn_pm (N := ["numbers", "weights", "size", "earlier", "missed", "since", "at", "off", "mended", "weight"]) (st := s_fewest_factors) (m := PM.b_fewest_factors) T.f_fewest_factors sc_fewest_factors (by decide) (fun _ _ _ _ _ _ us hl => match us, hl with | [_], _ => rfl) (fun cdv A outer s H E hr => ⟨_, by
  unfold PM.b_fewest_factors
  exact (css_cons (cs_par (i := 1) (j := 2) (by rfl) sc_fewest_factors.nd rfl rfl (by decide) rfl rfl (ca_cons (ce_lst (ca_cons (ce_tup (ca_cons ce_int (ca_cons ce_int ca_nil))) ca_nil)) (ca_cons ce_int ca_nil)) (by rfl)) (css_cons (cs_par3 (i := 3) (j := 4) (l := 5) (by rfl) sc_fewest_factors.nd rfl rfl rfl (by decide) (by decide) (by decide) rfl rfl rfl (ca_cons (ce_lst (ca_cons (ce_tup (ca_cons ce_int (ca_cons ce_int ca_nil))) ca_nil)) (ca_cons (ce_tup (ca_cons ce_int (ca_cons ce_int ca_nil))) (ca_cons ce_int ca_nil))) (by rfl)) (css_cons (cs_for rfl (ci_range1 (by rfl) T.z_range (ca_cons (ce_callBK (fun K => rLenS K) call_lenS calls_len (by rfl) T.z_len PySem.boot_len (ca_cons (ce_var 0 rfl (by first | exact Or.inl rfl | exact Or.inr (Or.inl rfl) | exact Or.inr (Or.inr rfl))) ca_nil)) ca_nil)) (cg_name (i := 6) sc_fewest_factors.nd rfl (.inl rfl)) (css_cons (cs_aug (i := 5) sc_fewest_factors.nd rfl (.inl rfl) ce_int) (css_cons (cs_asg (ce_call (ok_dot T) (hr.mono (by decide)) (by rfl) T.m_dot (ca_cons (ce_var 1 rfl (by first | exact Or.inl rfl | exact Or.inr (Or.inl rfl) | exact Or.inr (Or.inr rfl))) (ca_cons (ce_slB (ce_var 0 rfl (by first | exact Or.inl rfl | exact Or.inr (Or.inl rfl) | exact Or.inr (Or.inr rfl))) (co_some (ce_var 6 rfl (by first | exact Or.inl rfl | exact Or.inr (Or.inl rfl) | exact Or.inr (Or.inr rfl)))) co_none) ca_nil))) (cg_name (i := 7) sc_fewest_factors.nd rfl (.inl rfl))) (css_cons (cs_if (ct_eq hr.units (ce_var 7 rfl (by first | exact Or.inl rfl | exact Or.inr (Or.inl rfl) | exact Or.inr (Or.inr rfl))) (ce_tup (ca_cons ce_int (ca_cons ce_int ca_nil)))) (css_one cs_continue) css_nil) (css_cons (cs_asg (ce_call (ok_mend T) (hr.mono (by decide)) (by rfl) T.m_mend (ca_cons (ce_var 1 rfl (by first | exact Or.inl rfl | exact Or.inr (Or.inl rfl) | exact Or.inr (Or.inr rfl))) (ca_cons (ce_var 3 rfl (by first | exact Or.inl rfl | exact Or.inr (Or.inl rfl) | exact Or.inr (Or.inr rfl))) (ca_cons (ce_var 5 rfl (by first | exact Or.inl rfl | exact Or.inr (Or.inl rfl) | exact Or.inr (Or.inr rfl))) (ca_cons (ce_call (ok_times T) (hr.mono (by decide)) (by rfl) T.m_times (ca_cons (ce_var 7 rfl (by first | exact Or.inl rfl | exact Or.inr (Or.inl rfl) | exact Or.inr (Or.inr rfl))) (ca_cons (ce_call (ok_reduced_inverse T) (hr.mono (by decide)) (by rfl) T.m_reduced_inverse (ca_cons (ce_var 4 rfl (by first | exact Or.inl rfl | exact Or.inr (Or.inl rfl) | exact Or.inr (Or.inr rfl))) ca_nil)) ca_nil))) ca_nil))))) (cg_name (i := 8) sc_fewest_factors.nd rfl (.inl rfl))) (css_cons (cs_if (ct_le (ce_mul ce_int (ce_var 2 rfl (by first | exact Or.inl rfl | exact Or.inr (Or.inl rfl) | exact Or.inr (Or.inr rfl)))) (ce_var 6 rfl (by first | exact Or.inl rfl | exact Or.inr (Or.inl rfl) | exact Or.inr (Or.inr rfl)))) (css_one (cs_asg (ce_tup (ca_cons (ce_var 1 rfl (by first | exact Or.inl rfl | exact Or.inr (Or.inl rfl) | exact Or.inr (Or.inr rfl))) (ca_cons (ce_var 7 rfl (by first | exact Or.inl rfl | exact Or.inr (Or.inl rfl) | exact Or.inr (Or.inr rfl))) (ca_cons ce_int (ca_cons (ce_sub (ce_add (ce_var 6 rfl (by first | exact Or.inl rfl | exact Or.inr (Or.inl rfl) | exact Or.inr (Or.inr rfl))) ce_int) (ce_var 2 rfl (by first | exact Or.inl rfl | exact Or.inr (Or.inl rfl) | exact Or.inr (Or.inr rfl)))) ca_nil))))) (cg_tup rfl (cgs_cons (cg_name (i := 3) sc_fewest_factors.nd rfl (.inl rfl)) (cgs_cons (cg_name (i := 4) sc_fewest_factors.nd rfl (.inl rfl)) (cgs_cons (cg_name (i := 5) sc_fewest_factors.nd rfl (.inl rfl)) (cgs_cons (cg_name (i := 2) sc_fewest_factors.nd rfl (.inl rfl)) cgs_nil))))))) css_nil) (css_one (cs_asg (ce_var 8 rfl (by first | exact Or.inl rfl | exact Or.inr (Or.inl rfl) | exact Or.inr (Or.inr rfl))) (cg_name (i := 1) sc_fewest_factors.nd rfl (.inl rfl)))))))))) (css_one (cs_ret (ce_lc false (own := [("weight", 9)]) rfl sc_fewest_factors.nd (ci_seq (ce_slB (ce_var 1 rfl (by first | exact Or.inl rfl | exact Or.inr (Or.inl rfl) | exact Or.inr (Or.inr rfl))) co_none (co_some ce_int))) (blkOk_by (own := [("weight", 9)]) (N := ["numbers", "weights", "size", "earlier", "missed", "since", "at", "off", "mended", "weight"]) (sc := defScope s_fewest_factors) (by decide +kernel)) (fun _ _ _ _ _ => (cg_name (i := 9) sc_fewest_factors.nd rfl (.inl rfl))) (keep_gname (by decide)) (fun _ _ _ _ _ => cts_nil) (fun _ _ _ _ _ => (ce_call (ok_minus T) (hr.mono (by decide)) (by rfl) T.m_minus (ca_cons (ce_tup (ca_cons ce_int (ca_cons ce_int ca_nil))) (ca_cons (ce_var 9 rfl (by first | exact Or.inl rfl | exact Or.inr (Or.inl rfl) | exact Or.inr (Or.inr rfl))) ca_nil))))))))))⟩)
theorem ok_recurrence (T : Tx P K mg) : WD.FnG P w K mg base 5 (He.ga K "recurrence") ["program", "start", "back"] (spM ⟨K, w⟩ PM.m_recurrence) := by
  refine fn_pm (N := ["program", "start", "back", "numbers", "factors"]) (st := s_recurrence) (m := PM.b_recurrence) T.f_recurrence sc_recurrence (by decide) (fun _ _ _ _ _ _ us hl => match us, hl with | [_, _, _], _ => rfl) (fun cdv A outer s H E hr => ⟨_, by
  unfold PM.b_recurrence
  exact (css_cons (cs_expr (ce_call (ok_check_asked T) (hr.mono (by decide)) (by rfl) T.m_check_asked (ca_cons (ce_var 0 rfl (by first | exact Or.inl rfl | exact Or.inr (Or.inl rfl) | exact Or.inr (Or.inr rfl))) (ca_cons (ce_var 1 rfl (by first | exact Or.inl rfl | exact Or.inr (Or.inl rfl) | exact Or.inr (Or.inr rfl))) (ca_cons (ce_var 2 rfl (by first | exact Or.inl rfl | exact Or.inr (Or.inl rfl) | exact Or.inr (Or.inr rfl))) ca_nil))))) (css_cons (cs_asg (ce_call (ok_first_amounts T) (hr.mono (by decide)) (by rfl) T.m_first_amounts (ca_cons (ce_var 0 rfl (by first | exact Or.inl rfl | exact Or.inr (Or.inl rfl) | exact Or.inr (Or.inr rfl))) (ca_cons (ce_var 1 rfl (by first | exact Or.inl rfl | exact Or.inr (Or.inl rfl) | exact Or.inr (Or.inr rfl))) (ca_cons (ce_var 2 rfl (by first | exact Or.inl rfl | exact Or.inr (Or.inl rfl) | exact Or.inr (Or.inr rfl))) (ca_cons (ce_mul ce_int (ce_globI (by rfl) T.i_MOST_FACTORS)) ca_nil))))) (cg_name (i := 3) sc_recurrence.nd rfl (.inl rfl))) (css_cons (cs_asg (ce_call (ok_fewest_factors T) (hr.mono (by decide)) (by rfl) T.m_fewest_factors (ca_cons (ce_var 3 rfl (by first | exact Or.inl rfl | exact Or.inr (Or.inl rfl) | exact Or.inr (Or.inr rfl))) ca_nil)) (cg_name (i := 4) sc_recurrence.nd rfl (.inl rfl))) (css_one (cs_ret (ce_make false T.k_Recurrence (ok_Recurrence___init__ T) (hr.mono (by decide)) (by rfl) T.m_Recurrence (ca_cons (ce_var 4 rfl (by first | exact Or.inl rfl | exact Or.inr (Or.inl rfl) | exact Or.inr (Or.inr rfl))) (ca_cons (ce_sl (ce_var 3 rfl (by first | exact Or.inl rfl | exact Or.inr (Or.inl rfl) | exact Or.inr (Or.inr rfl))) co_none (co_some (ce_callBK (fun K => rLenS K) call_lenS calls_len (by rfl) T.z_len PySem.boot_len (ca_cons (ce_var 4 rfl (by first | exact Or.inl rfl | exact Or.inr (Or.inl rfl) | exact Or.inr (Or.inr rfl))) ca_nil)))) ca_nil))))))))⟩)
theorem ok__law_draw (T : Tx P K mg) : WD.FnG P w K mg base 1 (He.ga K "_law_draw") ["script", "at", "many"] (spM ⟨K, w⟩ PM.m__law_draw) := by
  refine fn_pm (N := ["script", "at", "many", "row", "cell", "turn", "step", "mixed"]) (st := s__law_draw) (m := PM.b__law_draw) T.f__law_draw sc__law_draw (by decide) (fun _ _ _ _ _ _ us hl => match us, hl with | [_, _, _], _ => rfl) (fun cdv A outer s H E hr => ⟨_, by
  unfold PM.b__law_draw
  exact (css_cons (cs_asg (ce_if (ct_ne hr.units (ce_var 0 rfl (by first | exact Or.inl rfl | exact Or.inr (Or.inl rfl) | exact Or.inr (Or.inr rfl))) (ce_lst ca_nil)) (ce_sl (ce_var 0 rfl (by first | exact Or.inl rfl | exact Or.inr (Or.inl rfl) | exact Or.inr (Or.inr rfl))) co_none (co_some ce_int)) (ce_lst (ca_cons ce_int ca_nil))) (cg_name (i := 3) sc__law_draw.nd rfl (.inl rfl))) (css_cons (cs_par (i := 4) (j := 5) (by rfl) sc__law_draw.nd rfl rfl (by decide) rfl rfl (ca_cons (ce_ix (ce_var 3 rfl (by first | exact Or.inl rfl | exact Or.inr (Or.inl rfl) | exact Or.inr (Or.inr rfl))) (ce_mod (ce_var 1 rfl (by first | exact Or.inl rfl | exact Or.inr (Or.inl rfl) | exact Or.inr (Or.inr rfl))) (ce_callBK (fun K => rLenS K) call_lenS calls_len (by rfl) T.z_len PySem.boot_len (ca_cons (ce_var 3 rfl (by first | exact Or.inl rfl | exact Or.inr (Or.inl rfl) | exact Or.inr (Or.inr rfl))) ca_nil))) (fun _ _ => rfl)) (ca_cons (ce_div (ce_var 1 rfl (by first | exact Or.inl rfl | exact Or.inr (Or.inl rfl) | exact Or.inr (Or.inr rfl))) (ce_callBK (fun K => rLenS K) call_lenS calls_len (by rfl) T.z_len PySem.boot_len (ca_cons (ce_var 3 rfl (by first | exact Or.inl rfl | exact Or.inr (Or.inl rfl) | exact Or.inr (Or.inr rfl))) ca_nil))) ca_nil)) (by rfl)) (css_cons (cs_if (ct_ge (ce_var 4 rfl (by first | exact Or.inl rfl | exact Or.inr (Or.inl rfl) | exact Or.inr (Or.inr rfl))) (ce_pow ce_int ce_int)) (css_cons (cs_asg (ce_mod (ce_callTyK (fun _ => WD.rInt1) WD.call_intS calls_int (by rfl) T.z_int (by decide +kernel) (ca_cons (ce_var 4 rfl (by first | exact Or.inl rfl | exact Or.inr (Or.inl rfl) | exact Or.inr (Or.inr rfl))) ca_nil)) (ce_pow ce_int ce_int)) (cg_name (i := 4) sc__law_draw.nd rfl (.inl rfl))) (css_cons (cs_for rfl (ci_range1 (by rfl) T.z_range (ca_cons (ce_mod (ce_var 5 rfl (by first | exact Or.inl rfl | exact Or.inr (Or.inl rfl) | exact Or.inr (Or.inr rfl))) ce_int) ca_nil)) (cg_name (i := 6) sc__law_draw.nd rfl (.inl rfl)) (css_one (cs_asg (ce_div (ce_var 4 rfl (by first | exact Or.inl rfl | exact Or.inr (Or.inl rfl) | exact Or.inr (Or.inr rfl))) ce_int) (cg_name (i := 4) sc__law_draw.nd rfl (.inl rfl))))) (css_one (cs_ret (ce_mod (ce_mod (ce_callTyK (fun _ => WD.rInt1) WD.call_intS calls_int (by rfl) T.z_int (by decide +kernel) (ca_cons (ce_var 4 rfl (by first | exact Or.inl rfl | exact Or.inr (Or.inl rfl) | exact Or.inr (Or.inr rfl))) ca_nil)) ce_int) (ce_var 2 rfl (by first | exact Or.inl rfl | exact Or.inr (Or.inl rfl) | exact Or.inr (Or.inr rfl)))))))) css_nil) (css_cons (cs_asg (ce_add (ce_mul (ce_add (ce_add (ce_mod (ce_callTyK (fun _ => WD.rInt1) WD.call_intS calls_int (by rfl) T.z_int (by decide +kernel) (ca_cons (ce_add (ce_var 4 rfl (by first | exact Or.inl rfl | exact Or.inr (Or.inl rfl) | exact Or.inr (Or.inr rfl))) (ce_mul ce_int (ce_var 5 rfl (by first | exact Or.inl rfl | exact Or.inr (Or.inl rfl) | exact Or.inr (Or.inr rfl))))) ca_nil)) ce_int) (ce_mul ce_int (ce_var 1 rfl (by first | exact Or.inl rfl | exact Or.inr (Or.inl rfl) | exact Or.inr (Or.inr rfl))))) ce_int) ce_int) (ce_mod (ce_callTyK (fun _ => WD.rInt1) WD.call_intS calls_int (by rfl) T.z_int (by decide +kernel) (ca_cons (ce_div (ce_var 4 rfl (by first | exact Or.inl rfl | exact Or.inr (Or.inl rfl) | exact Or.inr (Or.inr rfl))) ce_int) ca_nil)) ce_int)) (cg_name (i := 7) sc__law_draw.nd rfl (.inl rfl))) (css_one (cs_ret (ce_mod (ce_callTyK (fun _ => WD.rInt1) WD.call_intS calls_int (by rfl) T.z_int (by decide +kernel) (ca_cons (ce_mod (ce_mul (ce_mod (ce_var 7 rfl (by first | exact Or.inl rfl | exact Or.inr (Or.inl rfl) | exact Or.inr (Or.inr rfl))) ce_int) ce_int) ce_int) ca_nil)) (ce_var 2 rfl (by first | exact Or.inl rfl | exact Or.inr (Or.inl rfl) | exact Or.inr (Or.inr rfl))))))))))⟩)
theorem ok__law_rounds (T : Tx P K mg) : WD.FnG P w K mg base 2 (He.ga K "_law_rounds") ["script", "at", "most", "way"] (spM ⟨K, w⟩ PM.m__law_rounds) := by
  refine fn_pm (N := ["script", "at", "most", "way", "rows", "every", "turn"]) (st := s__law_rounds) (m := PM.b__law_rounds) T.f__law_rounds sc__law_rounds (by decide) (fun _ _ _ _ _ _ us hl => match us, hl with | [_, _, _, _], _ => rfl) (fun cdv A outer s H E hr => ⟨_, by
  unfold PM.b__law_rounds
  exact (css_cons (cs_asg (ce_lstC (ca_cons (ce_tup (ca_cons (ce_var 3 rfl (by first | exact Or.inl rfl | exact Or.inr (Or.inl rfl) | exact Or.inr (Or.inr rfl))) ca_nil)) (ca_cons (ce_tup (ca_cons ce_str (ca_cons ce_int (ca_cons ce_int ca_nil)))) (ca_cons (ce_tup (ca_cons ce_str (ca_cons ce_int (ca_cons ce_int ca_nil)))) (ca_cons (ce_tup (ca_cons ce_str (ca_cons ce_int (ca_cons ce_int ca_nil)))) (ca_cons (ce_tup (ca_cons ce_str (ca_cons ce_int (ca_cons ce_int ca_nil)))) ca_nil)))))) (cg_name (i := 4) sc__law_rounds.nd rfl (.inr rfl))) (css_cons (cs_if (ct_eq hr.units (ce_call (ok__law_draw T) (hr.mono (by decide)) (by rfl) T.m__law_draw (ca_cons (ce_var 0 rfl (by first | exact Or.inl rfl | exact Or.inr (Or.inl rfl) | exact Or.inr (Or.inr rfl))) (ca_cons (ce_var 1 rfl (by first | exact Or.inl rfl | exact Or.inr (Or.inl rfl) | exact Or.inr (Or.inr rfl))) (ca_cons ce_int ca_nil)))) ce_int) (css_cons (cs_asg (ce_add ce_int (ce_call (ok__law_draw T) (hr.mono (by decide)) (by rfl) T.m__law_draw (ca_cons (ce_var 0 rfl (by first | exact Or.inl rfl | exact Or.inr (Or.inl rfl) | exact Or.inr (Or.inr rfl))) (ca_cons (ce_add (ce_var 1 rfl (by first | exact Or.inl rfl | exact Or.inr (Or.inl rfl) | exact Or.inr (Or.inr rfl))) ce_int) (ca_cons ce_int ca_nil))))) (cg_name (i := 5) sc__law_rounds.nd rfl (.inl rfl))) (css_cons (cs_set (ce_tup (ca_cons ce_str (ca_cons (ce_var 5 rfl (by first | exact Or.inl rfl | exact Or.inr (Or.inl rfl) | exact Or.inr (Or.inr rfl))) (ca_cons (ce_call (ok__law_draw T) (hr.mono (by decide)) (by rfl) T.m__law_draw (ca_cons (ce_var 0 rfl (by first | exact Or.inl rfl | exact Or.inr (Or.inl rfl) | exact Or.inr (Or.inr rfl))) (ca_cons (ce_add (ce_var 1 rfl (by first | exact Or.inl rfl | exact Or.inr (Or.inl rfl) | exact Or.inr (Or.inr rfl))) ce_int) (ca_cons (ce_var 5 rfl (by first | exact Or.inl rfl | exact Or.inr (Or.inl rfl) | exact Or.inr (Or.inr rfl))) ca_nil)))) ca_nil)))) (ce_var 4 rfl (by first | exact Or.inl rfl | exact Or.inr (Or.inl rfl) | exact Or.inr (Or.inr rfl))) ce_int rfl rfl rfl (fun y => pg_sub (((ce_var 4 rfl (by first | exact Or.inl rfl | exact Or.inr (Or.inl rfl) | exact Or.inr (Or.inr rfl)))).pe y) ((ce_int).pe y) set_list)) (css_one (cs_set (ce_ix (ce_var 4 rfl (by first | exact Or.inl rfl | exact Or.inr (Or.inl rfl) | exact Or.inr (Or.inr rfl))) ce_int (fun _ _ => rfl)) (ce_var 4 rfl (by first | exact Or.inl rfl | exact Or.inr (Or.inl rfl) | exact Or.inr (Or.inr rfl))) ce_int rfl rfl rfl (fun y => pg_sub (((ce_var 4 rfl (by first | exact Or.inl rfl | exact Or.inr (Or.inl rfl) | exact Or.inr (Or.inr rfl)))).pe y) ((ce_int).pe y) set_list))))) css_nil) (css_one (cs_ret (ce_lc false (own := [("turn", 6)]) rfl sc__law_rounds.nd (ci_range1 (by rfl) T.z_range (ca_cons (ce_call (ok__law_draw T) (hr.mono (by decide)) (by rfl) T.m__law_draw (ca_cons (ce_var 0 rfl (by first | exact Or.inl rfl | exact Or.inr (Or.inl rfl) | exact Or.inr (Or.inr rfl))) (ca_cons (ce_add (ce_var 1 rfl (by first | exact Or.inl rfl | exact Or.inr (Or.inl rfl) | exact Or.inr (Or.inr rfl))) ce_int) (ca_cons (ce_add (ce_var 2 rfl (by first | exact Or.inl rfl | exact Or.inr (Or.inl rfl) | exact Or.inr (Or.inr rfl))) ce_int) ca_nil)))) ca_nil)) (blkOk_by (own := [("turn", 6)]) (N := ["script", "at", "most", "way", "rows", "every", "turn"]) (sc := defScope s__law_rounds) (by decide +kernel)) (fun _ _ _ _ _ => (cg_name (i := 6) sc__law_rounds.nd rfl (.inl rfl))) (keep_gname (by decide)) (fun _ _ _ _ _ => cts_nil) (fun _ _ _ _ _ => (ce_ix (ce_var 4 rfl (by first | exact Or.inl rfl | exact Or.inr (Or.inl rfl) | exact Or.inr (Or.inr rfl))) (ce_call (ok__law_draw T) (hr.mono (by decide)) (by rfl) T.m__law_draw (ca_cons (ce_var 0 rfl (by first | exact Or.inl rfl | exact Or.inr (Or.inl rfl) | exact Or.inr (Or.inr rfl))) (ca_cons (ce_add (ce_add (ce_var 1 rfl (by first | exact Or.inl rfl | exact Or.inr (Or.inl rfl) | exact Or.inr (Or.inr rfl))) ce_int) (ce_var 6 rfl (by first | exact Or.inl rfl | exact Or.inr (Or.inl rfl) | exact Or.inr (Or.inr rfl)))) (ca_cons ce_int ca_nil)))) (fun _ _ => rfl))))))))⟩)
theorem ok__law_weirs (T : Tx P K mg) : WD.FnG P w K mg base 1 (He.ga K "_law_weirs") ["told", "many"] (spM ⟨K, w⟩ PM.m__law_weirs) := by
  refine fn_pm (N := ["told", "many", "weir"]) (st := s__law_weirs) (m := PM.b__law_weirs) T.f__law_weirs sc__law_weirs (by decide) (fun _ _ _ _ _ _ us hl => match us, hl with | [_, _], _ => rfl) (fun cdv A outer s H E hr => ⟨_, by
  unfold PM.b__law_weirs
  exact (css_cons (cs_if (ct_eq hr.units (ce_ix (ce_var 0 rfl (by first | exact Or.inl rfl | exact Or.inr (Or.inl rfl) | exact Or.inr (Or.inr rfl))) ce_int (fun _ _ => rfl)) ce_str) (css_one (cs_ret (ce_listRg rfl (by rfl) T.z_list (by rfl) T.z_range ce_int (ce_var 1 rfl (by first | exact Or.inl rfl | exact Or.inr (Or.inl rfl) | exact Or.inr (Or.inr rfl)))))) css_nil) (css_cons (cs_if (ct_eq hr.units (ce_ix (ce_var 0 rfl (by first | exact Or.inl rfl | exact Or.inr (Or.inl rfl) | exact Or.inr (Or.inr rfl))) ce_int (fun _ _ => rfl)) ce_str) (css_one (cs_ret (ce_listRev rfl (by rfl) T.z_list (by rfl) T.z_reversed (ce_listRg rfl (by rfl) T.z_list (by rfl) T.z_range ce_int (ce_var 1 rfl (by first | exact Or.inl rfl | exact Or.inr (Or.inl rfl) | exact Or.inr (Or.inr rfl))))))) css_nil) (css_one (cs_ret (ce_lc false (own := [("weir", 2)]) rfl sc__law_weirs.nd (ci_range2 (by rfl) T.z_range (ca_cons ce_int (ca_cons (ce_var 1 rfl (by first | exact Or.inl rfl | exact Or.inr (Or.inl rfl) | exact Or.inr (Or.inr rfl))) ca_nil))) (blkOk_by (own := [("weir", 2)]) (N := ["told", "many", "weir"]) (sc := defScope s__law_weirs) (by decide +kernel)) (fun _ _ _ _ _ => (cg_name (i := 2) sc__law_weirs.nd rfl (.inl rfl))) (keep_gname (by decide)) (fun _ _ _ _ _ => (cts_one (ct_eq hr.units (ce_mod (ce_var 2 rfl (by first | exact Or.inl rfl | exact Or.inr (Or.inl rfl) | exact Or.inr (Or.inr rfl))) (ce_ix (ce_var 0 rfl (by first | exact Or.inl rfl | exact Or.inr (Or.inl rfl) | exact Or.inr (Or.inr rfl))) ce_int (fun _ _ => rfl))) (ce_ix (ce_var 0 rfl (by first | exact Or.inl rfl | exact Or.inr (Or.inl rfl) | exact Or.inr (Or.inr rfl))) ce_int (fun _ _ => rfl))))) (fun _ _ _ _ _ => (ce_var 2 rfl (by first | exact Or.inl rfl | exact Or.inr (Or.inl rfl) | exact Or.inr (Or.inr rfl)))))))))⟩)
end
end Lk04
end
section
set_option Elab.async false
set_option linter.all false
set_option maxRecDepth 100000
set_option maxHeartbeats 4000000
namespace Lk04
open PySem PySem.Spec PyProof.Rows L2 Evl PM
open WD (pe_tyN pe_clsN cr_lcm call_lenS call_listS call_tupS call_absS call_maxS call_minS call_intS)
section
variable {P : Program} {w : World} {K : PySem.W.Frag} {mg : Str → Option Value} {base : Heap}
theorem ok__law_order (T : Tx P K mg) : WD.FnG P w K mg base 2 (He.ga K "_law_order") ["rounds", "many"] (spM ⟨K, w⟩ PM.m__law_order_p) := by
  refine fn_pm (N := ["rounds", "many", "found", "told"]) (st := s__law_order) (m := PM.b__law_order_p) T.f__law_order sc__law_order (by decide) (fun _ _ _ _ _ _ us hl => match us, hl with | [_, _], _ => rfl) (fun cdv A outer s H E hr => ⟨_, by
  unfold PM.b__law_order_p
  exact (css_cons (cs_asg (ce_lst ca_nil) (cg_name (i := 2) sc__law_order.nd rfl (.inl rfl))) (css_cons (cs_for rfl (ci_seq (ce_var 0 rfl (by first | exact Or.inl rfl | exact Or.inr (Or.inl rfl) | exact Or.inr (Or.inr rfl)))) (cg_name (i := 3) sc__law_order.nd rfl (.inl rfl)) (css_one (cs_asg (ce_add (ce_var 2 rfl (by first | exact Or.inl rfl | exact Or.inr (Or.inl rfl) | exact Or.inr (Or.inr rfl))) (ce_call (ok__law_weirs T) (hr.mono (by decide)) (by rfl) T.m__law_weirs (ca_cons (ce_var 3 rfl (by first | exact Or.inl rfl | exact Or.inr (Or.inl rfl) | exact Or.inr (Or.inr rfl))) (ca_cons (ce_var 1 rfl (by first | exact Or.inl rfl | exact Or.inr (Or.inl rfl) | exact Or.inr (Or.inr rfl))) ca_nil)))) (cg_name (i := 2) sc__law_order.nd rfl (.inl rfl))))) (css_one (cs_ret (ce_var 2 rfl (by first | exact Or.inl rfl | exact Or.inr (Or.inl rfl) | exact Or.inr (Or.inr rfl)))))))⟩)
theorem ok__law_play (T : Tx P K mg) : WD.FnG P w K mg base 3 (He.ga K "_law_play") ["rounds", "numbers"] (spM ⟨K, w⟩ PM.m__law_play) := by
  refine fn_pm (N := ["rounds", "numbers", "found", "weir", "even"]) (st := s__law_play) (m := PM.b__law_play) T.f__law_play sc__law_play (by decide) (fun _ _ _ _ _ _ us hl => match us, hl with | [_, _], _ => rfl) (fun cdv A outer s H E hr => ⟨_, by
  unfold PM.b__law_play
  exact (css_cons (cs_asg (ce_callTyK (fun K => rListS K) call_listS calls_listC (by rfl) T.z_list (by decide +kernel) (ca_cons (ce_var 1 rfl (by first | exact Or.inl rfl | exact Or.inr (Or.inl rfl) | exact Or.inr (Or.inr rfl))) ca_nil)) (cg_name (i := 2) sc__law_play.nd rfl (.inl rfl))) (css_cons (cs_for rfl (ci_seq (ce_call (ok__law_order T) (hr.mono (by decide)) (by rfl) T.m__law_order (ca_cons (ce_var 0 rfl (by first | exact Or.inl rfl | exact Or.inr (Or.inl rfl) | exact Or.inr (Or.inr rfl))) (ca_cons (ce_callBK (fun K => rLenS K) call_lenS calls_len (by rfl) T.z_len PySem.boot_len (ca_cons (ce_var 2 rfl (by first | exact Or.inl rfl | exact Or.inr (Or.inl rfl) | exact Or.inr (Or.inr rfl))) ca_nil)) ca_nil)))) (cg_name (i := 3) sc__law_play.nd rfl (.inl rfl)) (css_cons (cs_asg (ce_div (ce_add (ce_ix (ce_var 2 rfl (by first | exact Or.inl rfl | exact Or.inr (Or.inl rfl) | exact Or.inr (Or.inr rfl))) (ce_sub (ce_var 3 rfl (by first | exact Or.inl rfl | exact Or.inr (Or.inl rfl) | exact Or.inr (Or.inr rfl))) ce_int) (fun _ _ => rfl)) (ce_ix (ce_var 2 rfl (by first | exact Or.inl rfl | exact Or.inr (Or.inl rfl) | exact Or.inr (Or.inr rfl))) (ce_var 3 rfl (by first | exact Or.inl rfl | exact Or.inr (Or.inl rfl) | exact Or.inr (Or.inr rfl))) (fun _ _ => rfl))) ce_int) (cg_name (i := 4) sc__law_play.nd rfl (.inl rfl))) (css_cons (cs_set (ce_var 4 rfl (by first | exact Or.inl rfl | exact Or.inr (Or.inl rfl) | exact Or.inr (Or.inr rfl))) (ce_var 2 rfl (by first | exact Or.inl rfl | exact Or.inr (Or.inl rfl) | exact Or.inr (Or.inr rfl))) (ce_sub (ce_var 3 rfl (by first | exact Or.inl rfl | exact Or.inr (Or.inl rfl) | exact Or.inr (Or.inr rfl))) ce_int) rfl rfl rfl (fun y => pg_sub (((ce_var 2 rfl (by first | exact Or.inl rfl | exact Or.inr (Or.inl rfl) | exact Or.inr (Or.inr rfl)))).pe y) (((ce_sub (ce_var 3 rfl (by first | exact Or.inl rfl | exact Or.inr (Or.inl rfl) | exact Or.inr (Or.inr rfl))) ce_int)).pe y) set_list)) (css_one (cs_set (ce_var 4 rfl (by first | exact Or.inl rfl | exact Or.inr (Or.inl rfl) | exact Or.inr (Or.inr rfl))) (ce_var 2 rfl (by first | exact Or.inl rfl | exact Or.inr (Or.inl rfl) | exact Or.inr (Or.inr rfl))) (ce_var 3 rfl (by first | exact Or.inl rfl | exact Or.inr (Or.inl rfl) | exact Or.inr (Or.inr rfl))) rfl rfl rfl (fun y => pg_sub (((ce_var 2 rfl (by first | exact Or.inl rfl | exact Or.inr (Or.inl rfl) | exact Or.inr (Or.inr rfl)))).pe y) (((ce_var 3 rfl (by first | exact Or.inl rfl | exact Or.inr (Or.inl rfl) | exact Or.inr (Or.inr rfl)))).pe y) set_list)))))) (css_one (cs_frz 2 (cs_ret (ce_var 2 rfl (by first | exact Or.inl rfl | exact Or.inr (Or.inl rfl) | exact Or.inr (Or.inr rfl))))))))⟩)
theorem ok__law_scale (T : Tx P K mg) : WD.FnG P w K mg base 1 (He.ga K "_law_scale") ["rounds", "many"] (spM ⟨K, w⟩ PM.m__law_scale) := by
  refine fn_pm (N := ["rounds", "many"]) (st := s__law_scale) (m := PM.b__law_scale) T.f__law_scale sc__law_scale (by decide) (fun _ _ _ _ _ _ us hl => match us, hl with | [_, _], _ => rfl) (fun cdv A outer s H E hr => ⟨_, by
  unfold PM.b__law_scale
  exact (css_one (cs_ret (ce_add (ce_mul (ce_callBK (fun K => rLenS K) call_lenS calls_len (by rfl) T.z_len PySem.boot_len (ca_cons (ce_var 0 rfl (by first | exact Or.inl rfl | exact Or.inr (Or.inl rfl) | exact Or.inr (Or.inr rfl))) ca_nil)) (ce_var 1 rfl (by first | exact Or.inl rfl | exact Or.inr (Or.inl rfl) | exact Or.inr (Or.inr rfl)))) ce_int)))⟩)
theorem ok__law_part (T : Tx P K mg) : WD.FnG P w K mg base 1 (He.ga K "_law_part") ["top", "below"] (spM ⟨K, w⟩ PM.m__law_part_p) := by
  refine fn_pm (N := ["top", "below", "one", "other"]) (st := s__law_part) (m := PM.b__law_part_p) T.f__law_part sc__law_part (by decide) (fun _ _ _ _ _ _ us hl => match us, hl with | [_, _], _ => rfl) (fun cdv A outer s H E hr => ⟨_, by
  unfold PM.b__law_part_p
  exact (css_cons (cs_par (i := 2) (j := 3) (by rfl) sc__law_part.nd rfl rfl (by decide) rfl rfl (ca_cons (ce_callBK (fun _ => WD.rAbs) WD.call_absS calls_abs (by rfl) T.z_abs (by decide +kernel) (ca_cons (ce_var 0 rfl (by first | exact Or.inl rfl | exact Or.inr (Or.inl rfl) | exact Or.inr (Or.inr rfl))) ca_nil)) (ca_cons (ce_var 1 rfl (by first | exact Or.inl rfl | exact Or.inr (Or.inl rfl) | exact Or.inr (Or.inr rfl))) ca_nil)) (by rfl)) (css_cons (cs_while _ (ct_ne hr.units (ce_var 3 rfl (by first | exact Or.inl rfl | exact Or.inr (Or.inl rfl) | exact Or.inr (Or.inr rfl))) ce_int) (css_one (cs_par (i := 2) (j := 3) (by rfl) sc__law_part.nd rfl rfl (by decide) rfl rfl (ca_cons (ce_var 3 rfl (by first | exact Or.inl rfl | exact Or.inr (Or.inl rfl) | exact Or.inr (Or.inr rfl))) (ca_cons (ce_mod (ce_callTyK (fun _ => WD.rInt1) WD.call_intS calls_int (by rfl) T.z_int (by decide +kernel) (ca_cons (ce_var 2 rfl (by first | exact Or.inl rfl | exact Or.inr (Or.inl rfl) | exact Or.inr (Or.inr rfl))) ca_nil)) (ce_var 3 rfl (by first | exact Or.inl rfl | exact Or.inr (Or.inl rfl) | exact Or.inr (Or.inr rfl)))) ca_nil)) (by rfl)))) (css_one (cs_ret (ce_tup (ca_cons (ce_div (ce_var 0 rfl (by first | exact Or.inl rfl | exact Or.inr (Or.inl rfl) | exact Or.inr (Or.inr rfl))) (ce_var 2 rfl (by first | exact Or.inl rfl | exact Or.inr (Or.inl rfl) | exact Or.inr (Or.inr rfl)))) (ca_cons (ce_div (ce_var 1 rfl (by first | exact Or.inl rfl | exact Or.inr (Or.inl rfl) | exact Or.inr (Or.inr rfl))) (ce_var 2 rfl (by first | exact Or.inl rfl | exact Or.inr (Or.inl rfl) | exact Or.inr (Or.inr rfl)))) ca_nil)))))))⟩)
theorem ok__law_done (T : Tx P K mg) : WD.FnG P w K mg base 4 (He.ga K "_law_done") ["rounds", "volumes"] (spM ⟨K, w⟩ PM.m__law_done) := by
  refine fn_pm (N := ["rounds", "volumes", "scale", "number", "volume"]) (st := s__law_done) (m := PM.b__law_done) T.f__law_done sc__law_done (by decide) (fun _ _ _ _ _ _ us hl => match us, hl with | [_, _], _ => rfl) (fun cdv A outer s H E hr => ⟨_, by
  unfold PM.b__law_done
  exact (css_cons (cs_asg (ce_call (ok__law_scale T) (hr.mono (by decide)) (by rfl) T.m__law_scale (ca_cons (ce_var 0 rfl (by first | exact Or.inl rfl | exact Or.inr (Or.inl rfl) | exact Or.inr (Or.inr rfl))) (ca_cons (ce_callBK (fun K => rLenS K) call_lenS calls_len (by rfl) T.z_len PySem.boot_len (ca_cons (ce_var 1 rfl (by first | exact Or.inl rfl | exact Or.inr (Or.inl rfl) | exact Or.inr (Or.inr rfl))) ca_nil)) ca_nil))) (cg_name (i := 2) sc__law_done.nd rfl (.inr rfl))) (css_one (cs_ret (ce_callTyK (fun K => WD.rTupS K) WD.call_tupS calls_tuple (by rfl) T.z_tuple (by decide +kernel) (ca_cons (ce_lc false (own := [("number", 3)]) rfl sc__law_done.nd (ci_seq (ce_call (ok__law_play T) (hr.mono (by decide)) (by rfl) T.m__law_play (ca_cons (ce_var 0 rfl (by first | exact Or.inl rfl | exact Or.inr (Or.inl rfl) | exact Or.inr (Or.inr rfl))) (ca_cons (ce_lc false (own := [("volume", 4)]) rfl sc__law_done.nd (ci_seq (ce_var 1 rfl (by first | exact Or.inl rfl | exact Or.inr (Or.inl rfl) | exact Or.inr (Or.inr rfl)))) (blkOk_by (own := [("volume", 4)]) (N := ["rounds", "volumes", "scale", "number", "volume"]) (sc := defScope s__law_done) (by decide +kernel)) (fun _ _ _ _ _ => (cg_name (i := 4) sc__law_done.nd rfl (.inl rfl))) (keep_gname (by decide)) (fun _ _ _ _ _ => cts_nil) (fun _ _ _ _ _ => (ce_shl (ce_var 4 rfl (by first | exact Or.inl rfl | exact Or.inr (Or.inl rfl) | exact Or.inr (Or.inr rfl))) (ce_var 2 rfl (by first | exact Or.inl rfl | exact Or.inr (Or.inl rfl) | exact Or.inr (Or.inr rfl)))))) ca_nil)))) (blkOk_by (own := [("number", 3)]) (N := ["rounds", "volumes", "scale", "number", "volume"]) (sc := defScope s__law_done) (by decide +kernel)) (fun _ _ _ _ _ => (cg_name (i := 3) sc__law_done.nd rfl (.inl rfl))) (keep_gname (by decide)) (fun _ _ _ _ _ => cts_nil) (fun _ _ _ _ _ => (ce_call (ok__law_part T) (hr.mono (by decide)) (by rfl) T.m__law_part (ca_cons (ce_var 3 rfl (by first | exact Or.inl rfl | exact Or.inr (Or.inl rfl) | exact Or.inr (Or.inr rfl))) (ca_cons (ce_shl ce_int (ce_var 2 rfl (by first | exact Or.inl rfl | exact Or.inr (Or.inl rfl) | exact Or.inr (Or.inr rfl)))) ca_nil))))) ca_nil)))))⟩)
theorem ok__law_unit (T : Tx P K mg) : WD.FnG P w K mg base 1 (He.ga K "_law_unit") ["many", "basin"] (spM ⟨K, w⟩ PM.m__law_unit_p) := by
  refine fn_pm (N := ["many", "basin", "at"]) (st := s__law_unit) (m := PM.b__law_unit_p) T.f__law_unit sc__law_unit (by decide) (fun _ _ _ _ _ _ us hl => match us, hl with | [_, _], _ => rfl) (fun cdv A outer s H E hr => ⟨_, by
  unfold PM.b__law_unit_p
  exact (css_one (cs_ret (ce_lc false (own := [("at", 2)]) rfl sc__law_unit.nd (ci_range1 (by rfl) T.z_range (ca_cons (ce_var 0 rfl (by first | exact Or.inl rfl | exact Or.inr (Or.inl rfl) | exact Or.inr (Or.inr rfl))) ca_nil)) (blkOk_by (own := [("at", 2)]) (N := ["many", "basin", "at"]) (sc := defScope s__law_unit) (by decide +kernel)) (fun _ _ _ _ _ => (cg_name (i := 2) sc__law_unit.nd rfl (.inl rfl))) (keep_gname (by decide)) (fun _ _ _ _ _ => cts_nil) (fun _ _ _ _ _ => (ce_if (ct_eq hr.units (ce_var 2 rfl (by first | exact Or.inl rfl | exact Or.inr (Or.inl rfl) | exact Or.inr (Or.inr rfl))) (ce_var 1 rfl (by first | exact Or.inl rfl | exact Or.inr (Or.inl rfl) | exact Or.inr (Or.inr rfl)))) ce_int ce_int)))))⟩)
theorem ok__law_start (T : Tx P K mg) : WD.FnG P w K mg base 2 (He.ga K "_law_start") ["start", "many"] (spM ⟨K, w⟩ PM.m__law_start) := by
  refine fn_pm (N := ["start", "many"]) (st := s__law_start) (m := PM.b__law_start) T.f__law_start sc__law_start (by decide) (fun _ _ _ _ _ _ us hl => match us, hl with | [_, _], _ => rfl) (fun cdv A outer s H E hr => ⟨_, by
  unfold PM.b__law_start
  exact (css_cons (cs_if (ct_eq hr.units (ce_var 0 rfl (by first | exact Or.inl rfl | exact Or.inr (Or.inl rfl) | exact Or.inr (Or.inr rfl))) ce_str) (css_one (cs_ret (ce_mul (ce_lst (ca_cons ce_int ca_nil)) (ce_var 1 rfl (by first | exact Or.inl rfl | exact Or.inr (Or.inl rfl) | exact Or.inr (Or.inr rfl)))))) css_nil) (css_cons (cs_if (ct_eq hr.units (ce_var 0 rfl (by first | exact Or.inl rfl | exact Or.inr (Or.inl rfl) | exact Or.inr (Or.inr rfl))) ce_str) (css_one (cs_ret (ce_listRg rfl (by rfl) T.z_list (by rfl) T.z_range ce_int (ce_add (ce_var 1 rfl (by first | exact Or.inl rfl | exact Or.inr (Or.inl rfl) | exact Or.inr (Or.inr rfl))) ce_int)))) css_nil) (css_one (cs_ret (ce_call (ok__law_unit T) (hr.mono (by decide)) (by rfl) T.m__law_unit (ca_cons (ce_var 1 rfl (by first | exact Or.inl rfl | exact Or.inr (Or.inl rfl) | exact Or.inr (Or.inr rfl))) (ca_cons (ce_if (ct_eq hr.units (ce_var 0 rfl (by first | exact Or.inl rfl | exact Or.inr (Or.inl rfl) | exact Or.inr (Or.inr rfl))) ce_str) ce_int (ce_sub (ce_var 1 rfl (by first | exact Or.inl rfl | exact Or.inr (Or.inl rfl) | exact Or.inr (Or.inr rfl))) ce_int)) ca_nil)))))))⟩)
theorem ok__law_goes_on (T : Tx P K mg) : WD.FnG P w K mg base 2 (He.ga K "_law_goes_on") ["factors", "told", "first"] (spM ⟨K, w⟩ PM.m__law_goes_on) := by
  refine fn_pm (N := ["factors", "told", "first", "at", "top", "below", "factor", "number", "more", "bottom"]) (st := s__law_goes_on) (m := PM.b__law_goes_on) T.f__law_goes_on sc__law_goes_on (by decide) (fun _ _ _ _ _ _ us hl => match us, hl with | [_, _, _], _ => rfl) (fun cdv A outer s H E hr => ⟨_, by
  unfold PM.b__law_goes_on
  exact (css_cons (cs_for rfl (ci_range2 (by rfl) T.z_range (ca_cons (ce_var 2 rfl (by first | exact Or.inl rfl | exact Or.inr (Or.inl rfl) | exact Or.inr (Or.inr rfl))) (ca_cons (ce_callBK (fun K => rLenS K) call_lenS calls_len (by rfl) T.z_len PySem.boot_len (ca_cons (ce_var 1 rfl (by first | exact Or.inl rfl | exact Or.inr (Or.inl rfl) | exact Or.inr (Or.inr rfl))) ca_nil)) ca_nil))) (cg_name (i := 3) sc__law_goes_on.nd rfl (.inl rfl)) (css_cons (cs_asg (ce_tup (ca_cons ce_int (ca_cons ce_int ca_nil))) (cg_tup rfl (cgs_cons (cg_name (i := 4) sc__law_goes_on.nd rfl (.inl rfl)) (cgs_cons (cg_name (i := 5) sc__law_goes_on.nd rfl (.inl rfl)) cgs_nil)))) (css_cons (cs_for rfl (ci_zip (by rfl) T.z_zip (ca_cons (ce_var 0 rfl (by first | exact Or.inl rfl | exact Or.inr (Or.inl rfl) | exact Or.inr (Or.inr rfl))) (ca_cons (ce_sl (ce_var 1 rfl (by first | exact Or.inl rfl | exact Or.inr (Or.inl rfl) | exact Or.inr (Or.inr rfl))) (co_some (ce_sub (ce_var 3 rfl (by first | exact Or.inl rfl | exact Or.inr (Or.inl rfl) | exact Or.inr (Or.inr rfl))) (ce_callBK (fun K => rLenS K) call_lenS calls_len (by rfl) T.z_len PySem.boot_len (ca_cons (ce_var 0 rfl (by first | exact Or.inl rfl | exact Or.inr (Or.inl rfl) | exact Or.inr (Or.inr rfl))) ca_nil)))) (co_some (ce_var 3 rfl (by first | exact Or.inl rfl | exact Or.inr (Or.inl rfl) | exact Or.inr (Or.inr rfl))))) ca_nil))) (cg_tup rfl (cgs_cons (cg_name (i := 6) sc__law_goes_on.nd rfl (.inl rfl)) (cgs_cons (cg_name (i := 7) sc__law_goes_on.nd rfl (.inl rfl)) cgs_nil))) (css_cons (cs_par (i := 8) (j := 9) (by rfl) sc__law_goes_on.nd rfl rfl (by decide) rfl rfl (ca_cons (ce_mul (ce_ix (ce_var 6 rfl (by first | exact Or.inl rfl | exact Or.inr (Or.inl rfl) | exact Or.inr (Or.inr rfl))) ce_int (fun _ _ => rfl)) (ce_ix (ce_var 7 rfl (by first | exact Or.inl rfl | exact Or.inr (Or.inl rfl) | exact Or.inr (Or.inr rfl))) ce_int (fun _ _ => rfl))) (ca_cons (ce_mul (ce_ix (ce_var 6 rfl (by first | exact Or.inl rfl | exact Or.inr (Or.inl rfl) | exact Or.inr (Or.inr rfl))) ce_int (fun _ _ => rfl)) (ce_ix (ce_var 7 rfl (by first | exact Or.inl rfl | exact Or.inr (Or.inl rfl) | exact Or.inr (Or.inr rfl))) ce_int (fun _ _ => rfl))) ca_nil)) (by rfl)) (css_one (cs_par (i := 4) (j := 5) (by rfl) sc__law_goes_on.nd rfl rfl (by decide) rfl rfl (ca_cons (ce_add (ce_mul (ce_var 4 rfl (by first | exact Or.inl rfl | exact Or.inr (Or.inl rfl) | exact Or.inr (Or.inr rfl))) (ce_var 9 rfl (by first | exact Or.inl rfl | exact Or.inr (Or.inl rfl) | exact Or.inr (Or.inr rfl)))) (ce_mul (ce_var 8 rfl (by first | exact Or.inl rfl | exact Or.inr (Or.inl rfl) | exact Or.inr (Or.inr rfl))) (ce_var 5 rfl (by first | exact Or.inl rfl | exact Or.inr (Or.inl rfl) | exact Or.inr (Or.inr rfl))))) (ca_cons (ce_mul (ce_var 5 rfl (by first | exact Or.inl rfl | exact Or.inr (Or.inl rfl) | exact Or.inr (Or.inr rfl))) (ce_var 9 rfl (by first | exact Or.inl rfl | exact Or.inr (Or.inl rfl) | exact Or.inr (Or.inr rfl)))) ca_nil)) (by rfl))))) (css_one (cs_if (ct_ne hr.units (ce_call (ok__law_part T) (hr.mono (by decide)) (by rfl) T.m__law_part (ca_cons (ce_var 4 rfl (by first | exact Or.inl rfl | exact Or.inr (Or.inl rfl) | exact Or.inr (Or.inr rfl))) (ca_cons (ce_var 5 rfl (by first | exact Or.inl rfl | exact Or.inr (Or.inl rfl) | exact Or.inr (Or.inr rfl))) ca_nil))) (ce_ix (ce_var 1 rfl (by first | exact Or.inl rfl | exact Or.inr (Or.inl rfl) | exact Or.inr (Or.inr rfl))) (ce_var 3 rfl (by first | exact Or.inl rfl | exact Or.inr (Or.inl rfl) | exact Or.inr (Or.inr rfl))) (fun _ _ => rfl))) (css_one (cs_ret ce_bl)) css_nil))))) (css_one (cs_ret ce_bl)))⟩)
end
end Lk04
end
section
set_option Elab.async false
set_option linter.all false
set_option maxRecDepth 100000
set_option maxHeartbeats 2000000
namespace PM
def eF (b : Nat) : Nat → Rat := fun i => if i = b then 1 else 0
/-- sums of k things -/
def sm (k : Nat) (f : Nat → Rat) : Rat := ((List.range k).map f).sum
theorem sm_zero (f : Nat → Rat) : sm 0 f = 0 := rfl
theorem sm_succ (k : Nat) (f : Nat → Rat) : sm (k + 1) f = sm k f + f k := by
  unfold sm
  rw [List.range_succ, List.map_append, List.sum_append]
  show _ + (f k + 0) = _
  grind
theorem sm_congr {k : Nat} {f g : Nat → Rat} (h : ∀ a, a < k → f a = g a) : sm k f = sm k g := by
  induction k with
  | zero => rfl
  | succ k ih => rw [sm_succ, sm_succ, ih fun a ha => h a (by omega), h k (by omega)]
theorem sm_lin (s t : Rat) (f g : Nat → Rat) (k : Nat) : sm k (fun a => s * f a + t * g a) = s * sm k f + t * sm k g := by
  induction k with
  | zero => rw [sm_zero, sm_zero, sm_zero]; grind
  | succ k ih => rw [sm_succ, sm_succ, sm_succ, ih]; grind
theorem sm_unit {n : Nat} (f : Nat → Rat) {i : Nat} (h : i < n) : sm n (fun a => f a * eF a i) = f i := by
  induction n with
  | zero => omega
  | succ n ih =>
    rw [sm_succ]
    by_cases e : i = n
    · subst e
      have : sm i (fun a => f a * eF a i) = sm i (fun _ => 0) := sm_congr fun a ha => by
        unfold eF
        rw [if_neg (by omega)]
        grind
      have z : ∀ k, sm k (fun _ => (0 : Rat)) = 0 := fun k => by
        induction k with
        | zero => rfl
        | succ k ih => rw [sm_succ, ih]; grind
      rw [this, z]
      unfold eF
      rw [if_pos rfl]
      grind
    · rw [ih (by omega)]
      unfold eF
      rw [if_neg e]
      grind
theorem sm_nil (k : Nat) : sm k (fun _ => (0 : Rat)) = 0 := by
  induction k with
  | zero => rfl
  | succ k ih => rw [sm_succ, ih]; grind
theorem sm_null {k : Nat} {f : Nat → Rat} (h : ∀ a, a < k → f a = 0) : sm k f = 0 := by
  rw [sm_congr h, sm_nil]
theorem least {P : Nat → Prop} : ∀ n, P n → ∃ m, m ≤ n ∧ P m ∧ ∀ j, j < m → ¬ P j := by
  intro n
  induction n using Nat.strongRecOn with
  | _ n ih =>
    intro h
    by_cases c : ∃ j, j < n ∧ P j
    · obtain ⟨j, hj, pj⟩ := c
      obtain ⟨m, h1, h2, h3⟩ := ih j hj pj
      exact ⟨m, by omega, h2, h3⟩
    · exact ⟨n, Nat.le_refl _, h, fun j hj pj => c ⟨j, hj, pj⟩⟩
/-- of d + 1 vectors of d numbers, some one is a sum of multiples of those ahead -/
theorem dep : ∀ (d : Nat) (v : Nat → Nat → Rat), ∃ k, k ≤ d ∧ ∃ c : Nat → Rat, ∀ j, j < d → v k j = sm k fun i => c i * v i j
  | 0, v => ⟨0, Nat.le_refl _, fun _ => 0, fun j h => absurd h (Nat.not_lt_zero _)⟩
  | d + 1, v => by
    by_cases h : ∃ p, p ≤ d ∧ v p d ≠ 0
    · obtain ⟨p0, hp0⟩ := h
      obtain ⟨p, hp1, hp2, hp3⟩ := least (P := fun p => p ≤ d ∧ v p d ≠ 0) p0 hp0
      have z : ∀ i, i < p → v i d = 0 := fun i hi => Decidable.byContradiction fun c => hp3 i hi ⟨by omega, c⟩
      let r : Nat → Rat := fun i => v i d / v p d
      let w : Nat → Nat → Rat := fun i j => if i < p then v i j else v (i + 1) j - r (i + 1) * v p j
      obtain ⟨k, hk, c, hc⟩ := dep d w
      have wd : ∀ i, w i d = 0 := fun i => by
        show (if i < p then v i d else v (i + 1) d - v (i + 1) d / v p d * v p d) = 0
        split
        · rename_i q
          exact z i q
        · have := hp2.2
          grind
      have hc : ∀ j, j < d + 1 → w k j = sm k fun i => c i * w i j := fun j hj => by
        by_cases e : j = d
        · subst e
          rw [wd, sm_null fun a _ => by rw [wd]; grind]
        · exact hc j (by omega)
      by_cases q : k < p
      · refine ⟨k, by omega, c, fun j hj => ?_⟩
        have := hc j hj
        have e : w k j = v k j := if_pos q
        rw [e] at this
        rw [this]
        refine sm_congr fun i hi => ?_
        have : w i j = v i j := if_pos (by omega)
        rw [this]
      · let cc : Nat → Rat := fun i => if i < p then c i else if i = p then 0 else c (i - 1)
        let S : Nat → Rat := fun k => sm k fun i => if i < p then 0 else c i * r (i + 1)
        have key : ∀ j t, sm (p + t) (fun i => c i * w i j) = sm (p + t + 1) (fun i => cc i * v i j) - S (p + t) * v p j := fun j t => by
          induction t with
          | zero =>
            rw [Nat.add_zero, sm_succ]
            have e1 : cc p = 0 := by
              show (if p < p then c p else if p = p then 0 else c (p - 1)) = 0
              rw [if_neg (Nat.lt_irrefl _), if_pos rfl]
            have e2 : S p = 0 := sm_null fun i hi => if_pos hi
            have e3 : sm p (fun i => c i * w i j) = sm p (fun i => cc i * v i j) := sm_congr fun i hi => by
              have a1 : w i j = v i j := if_pos hi
              have a2 : cc i = c i := if_pos hi
              rw [a1, a2]
            rw [e1, e2, e3]
            grind
          | succ t ih =>
            have s1 : sm (p + (t + 1)) (fun i => c i * w i j) = sm (p + t) (fun i => c i * w i j) + c (p + t) * w (p + t) j := sm_succ _ _
            have s2 : sm (p + (t + 1) + 1) (fun i => cc i * v i j) = sm (p + t + 1) (fun i => cc i * v i j) + cc (p + t + 1) * v (p + t + 1) j := sm_succ _ _
            have s3 : S (p + (t + 1)) = S (p + t) + (if p + t < p then 0 else c (p + t) * r (p + t + 1)) := sm_succ _ _
            have a1 : w (p + t) j = v (p + t + 1) j - r (p + t + 1) * v p j := if_neg (by omega)
            have a2 : cc (p + t + 1) = c (p + t) := by
              show (if p + t + 1 < p then _ else if p + t + 1 = p then 0 else c (p + t + 1 - 1)) = _
              rw [if_neg (by omega), if_neg (by omega)]
              rfl
            rw [if_neg (by omega)] at s3
            rw [s1, s2, s3, ih, a1, a2]
            grind
        refine ⟨k + 1, by omega, fun i => cc i + (r (k + 1) - S k) * eF i p, fun j hj => ?_⟩
        have h1 := hc j hj
        have h2 : w k j = v (k + 1) j - r (k + 1) * v p j := if_neg q
        have h3 := key j (k - p)
        rw [show p + (k - p) = k by omega] at h3
        have h4 : sm (k + 1) (fun i => (cc i + (r (k + 1) - S k) * eF i p) * v i j) = sm (k + 1) (fun i => 1 * (cc i * v i j) + (r (k + 1) - S k) * (v i j * eF i p)) := sm_congr fun i _ => by grind
        have h5 : sm (k + 1) (fun i => v i j * eF i p) = v p j := sm_unit (fun i => v i j) (by omega)
        rw [h4, sm_lin, h5]
        rw [h2, h3] at h1
        grind
    · have z : ∀ i, i ≤ d → v i d = 0 := fun i hi => Decidable.byContradiction fun c => h ⟨i, hi, c⟩
      obtain ⟨k, hk, c, hc⟩ := dep d v
      refine ⟨k, by omega, c, fun j hj => ?_⟩
      by_cases e : j = d
      · subst e
        rw [z k hk, sm_null fun i hi => by rw [z i (by omega)]; grind]
      · exact hc j (by omega)
/-- zero so often, zero from there on -/
theorem lin_fwd {y : Nat → Rat} {K d : Nat} {c : Nat → Rat} (hK : K ≤ d) (h : ∀ t, y (K + t) = sm K fun a => c a * y (a + t)) {k0 : Nat} (h0 : ∀ k, k0 ≤ k → k < k0 + d → y k = 0) : ∀ k, k0 ≤ k → y k = 0 := by
  intro k
  induction k using Nat.strongRecOn with
  | _ k ih =>
    intro hk
    by_cases e : k < k0 + d
    · exact h0 k hk e
    · have e1 : k = K + (k - K) := by omega
      rw [e1, h]
      exact sm_null fun a ha => by rw [ih (a + (k - K)) (by omega) (by omega)]; grind
theorem sm_only {K e : Nat} {f : Nat → Rat} (he : e < K) (h : ∀ a, a < K → a ≠ e → f a = 0) : sm K f = f e := by
  have : sm K f = sm K fun a => f a * eF a e := sm_congr fun a ha => by
    unfold eF
    by_cases c : a = e
    · subst c
      rw [if_pos rfl]
      grind
    · rw [h a ha c]
      grind
  rw [this]
  exact sm_unit f he
/-- zero so often, zero just ahead of it as well, if that is not too near to the start -/
theorem lin_back {y : Nat → Rat} {K d : Nat} {c : Nat → Rat} (hK : K ≤ d) (h : ∀ t, y (K + t) = sm K fun a => c a * y (a + t)) {k0 : Nat} (hk : d ≤ k0) (h0 : ∀ k, k0 < k → k ≤ k0 + d → y k = 0) : y k0 = 0 := by
  by_cases z : ∃ a, a < K ∧ c a ≠ 0
  · obtain ⟨a0, ha0⟩ := z
    obtain ⟨e, _, ⟨he, ce⟩, hl⟩ := least (P := fun a => a < K ∧ c a ≠ 0) a0 ha0
    have t := h (k0 - e)
    rw [h0 (K + (k0 - e)) (by omega) (by omega), sm_only he fun a ha ne => by
      by_cases q : a < e
      · have : c a = 0 := Decidable.byContradiction fun w => hl a q ⟨ha, w⟩
        rw [this]
        grind
      · rw [h0 (a + (k0 - e)) (by omega) (by omega)]
        grind, show e + (k0 - e) = k0 by omega] at t
    rcases Rat.mul_eq_zero.mp t.symm with w | w
    · exact absurd w ce
    · exact w
  · have t := h (k0 - K)
    rw [show K + (k0 - K) = k0 by omega] at t
    rw [t]
    exact sm_null fun a ha => by
      have : c a = 0 := Decidable.byContradiction fun w => z ⟨a, ha, w⟩
      rw [this]
      grind
end PM
end
section
set_option Elab.async false
set_option linter.all false
set_option maxRecDepth 100000
namespace PM
open PySem L2
end PM
end
section
set_option Elab.async false
set_option linter.all false
set_option maxRecDepth 100000
set_option maxHeartbeats 2000000
namespace PM
open PySem L2
/-- what it gives, whatever stands there -/
def Tot (m : List D → M D) (ds : List D) (d : D) : Prop := ∀ S, ∃ S', m ds S = .ok d S'
noncomputable def nx (m : List D → M D) (ds : List D) (S : Sto) : Sto := match m ds S with
  | .ok _ S' => S'
  | _ => S
theorem Tot.eq {m : List D → M D} {ds : List D} {d : D} (h : Tot m ds d) (S : Sto) : m ds S = .ok d (nx m ds S) := by
  obtain ⟨S', e⟩ := h S
  unfold nx
  rw [e]
@[simp] theorem lim_eq : lim = 100000 := Nat.le_antisymm (by unfold lim; decide) (by unfold lim; decide)
@[simp] theorem wipeD_nil (l : List (Option D)) : wipeD l [] = l := rfl
@[simp] theorem wipeD_cons (l : List (Option D)) (v : Nat) (vs : List Nat) : wipeD l (v :: vs) = (wipeD l vs).set v none := rfl
@[simp] theorem wipeE_ap (l : List (Option D)) (x : Option (Nat × Er)) (vs : List Nat) : wipeE ⟨l, x⟩ vs = ⟨wipeD l vs, none⟩ := rfl
theorem m_is_integer_int (i : Int) (S : Sto) : m_is_integer [.int i] S = .ok (.bl true) S := by
  simp [m_is_integer, b_is_integer, dIs_ap _ _ (.int i) S (k := .inl "int") rfl rfl, isK, kitP]
inductive Rd where
  | right | left | ev (a b : Int)
deriving DecidableEq
def Rd.d : Rd → D
  | .right => .tup [.str "right"]
  | .left => .tup [.str "left"]
  | .ev a b => .tup [.str "every", .int a, .int b]
def Rd.ok : Rd → Prop
  | .ev a b => 2 ≤ a ∧ a ≤ 4 ∧ 0 ≤ b ∧ b < a
  | _ => True
theorem Rd.fit (x : Rd) (n : Nat) : x.d.fit (n + 1) = true := by cases x <;> simp [Rd.d]
theorem m_is_round_ok (r : Rd) (h : r.ok) (S : Sto) : m_is_round [r.d] S = .ok (.bl true) S := by
  have e : dIn false r.d (.tup [.tup [.str "right"], .tup [.str "left"]]) S = .ok (.bl (decide (r.d ∈ [D.tup [.str "right"], D.tup [.str "left"]]))) S := dIn_tup false S rfl (r.fit 11) (by simp)
  cases r with
  | right => simp [m_is_round, b_is_round, e]; simp [Rd.d]
  | left => simp [m_is_round, b_is_round, e]; simp [Rd.d]
  | ev a b =>
    obtain ⟨h1, h2, h3, h4⟩ := h
    simp only [Rd.d] at e ⊢
    simp [m_is_round, b_is_round, e, dIs_ap _ _ (.tup _) S (k := .inl "tuple") rfl rfl, isK, kitP]
    simp [dSl, cutD, HT.sIx, m_is_integer_int, h1, h2, h3, h4]
def prog (rs : List Rd) : D := .obj "Program" [("rounds", .tup (rs.map Rd.d))]
/-- a list or a tuple of rounds -/
inductive IsSeq (ds : List D) : D → Prop
  | lst : IsSeq ds (.lst ds)
  | tup : IsSeq ds (.tup ds)
theorem IsSeq.itm {ds : List D} {x : D} (h : IsSeq ds x) (S : Sto) : itmOf S x = some ⟨ds, []⟩ := by cases h <;> rfl
theorem IsSeq.rdQ {ds : List D} {x : D} (h : IsSeq ds x) (S : Sto) : rdQ S x = some ds := by cases h <;> rfl
theorem IsSeq.isLT {ds : List D} {x : D} (h : IsSeq ds x) (S : Sto) : dIs [] sameC [.inl "list", .inl "tuple"] x S = .ok (.bl true) S := by
  cases h
  · exact dIs_ap _ _ (.lst ds) S (k := .inl "list") rfl rfl
  · exact dIs_ap _ _ (.tup ds) S (k := .inl "tuple") rfl rfl
theorem IsSeq.tuple {ds : List D} {x : D} (h : IsSeq ds x) (S : Sto) : dTuple x S = .ok (.tup ds) S := by cases h <;> rfl
theorem m_check_rounds_ok {rs : List Rd} {x : D} (hx : IsSeq (rs.map Rd.d) x) (hl : rs.length ≤ 12) (hr : ∀ r ∈ rs, r.ok) (S : Sto) : m_check_rounds [x] S = .ok .non S := by
  have h12 : ¬ (12 : Int) < (rs.length : Int) := by omega
  simp [m_check_rounds, b_check_rounds, hx.isLT, hx.rdQ, hx.itm, h12, oM]
  refine forGo_rule (G := fun o => toOut o = .ok .non S) (fun i e S' => S' = S ∧ ∃ a b, e = ⟨[some x, a, b], none⟩) ⟨rfl, _, _, rfl⟩ ?_ ?_
  · rintro i d e S' hi ⟨rfl, a, b, rfl⟩
    obtain ⟨d', h1, rfl⟩ := numD_get hi
    rw [List.getElem?_map] at h1
    cases q : rs[i]? with
    | none => simp [q] at h1
    | some r =>
      simp [q] at h1
      subst h1
      have := hr r (List.mem_of_getElem? q)
      simp [m_is_round_ok r this]
  · rintro e S' ⟨rfl, a, b, rfl⟩
    simp
theorem mk_Program {rs : List Rd} {x : D} (hx : IsSeq (rs.map Rd.d) x) (hl : rs.length ≤ 12) (hr : ∀ r ∈ rs, r.ok) (S : Sto) : mkObj false "Program" m_Program___init__ [x] S = .ok (prog rs) (S ++ [.dead]) := by
  simp [mkObj_ap, m_Program___init__, b_Program___init__, m_check_rounds_ok hx hl hr, hx.tuple, prog]
theorem m_check_program_ok (rs : List Rd) (S : Sto) : m_check_program [prog rs] S = .ok .non S := by
  simp [m_check_program, b_check_program, dIs_ap ["Program"] _ (prog rs) S (k := .inr "Program") rfl rfl, isK, sameC]
/-- the weirs that a round opens, in its order -/
def wrs (r : Rd) (n : Int) : List Int := match r with
  | .right => rng 1 n
  | .left => (rng 1 n).reverse
  | .ev a b => (rng 1 n).filter fun w => w % a = b
def Rd.opens (r : Rd) (w : Int) : Bool := match r with
  | .ev a b => w % a = b
  | _ => true
theorem mem_wrs {r : Rd} {n w : Int} : w ∈ wrs r n ↔ (1 ≤ w ∧ w < n) ∧ r.opens w = true := by
  cases r <;> simp [wrs, mem_rng, Rd.opens]
def opn (rs : List Rd) (n : Int) : List Int := rs.flatMap fun r => wrs r n
theorem mem_opn {rs : List Rd} {n w : Int} : w ∈ opn rs n ↔ (1 ≤ w ∧ w < n) ∧ rs.any (·.opens w) = true := by
  unfold opn
  simp only [List.mem_flatMap, mem_wrs, List.any_eq_true]
  constructor
  · rintro ⟨r, hr, h1, h2⟩
    exact ⟨h1, r, hr, h2⟩
  · rintro ⟨h1, r, hr, h2⟩
    exact ⟨r, hr, h1, h2⟩
theorem down_eq (n : Int) : ((List.range (n - 1 - 0).toNat).map fun (k : Nat) => D.int (n - 1 + k * -1)) = (rng 1 n).reverse.map D.int := by
  unfold rng
  refine List.ext_getElem? fun i => ?_
  rw [List.map_reverse, List.map_map, List.getElem?_map]
  by_cases hi : i < (n - 1).toNat
  · rw [List.getElem?_range (by omega), List.getElem?_reverse (by simpa using hi), List.getElem?_map, List.length_map, List.length_range, List.getElem?_range (by omega)]
    simp
    omega
  · rw [List.getElem?_eq_none (by simp; omega), List.getElem?_eq_none (by simp; omega)]
    rfl
theorem wrs_len (r : Rd) (n : Int) : (wrs r n).length ≤ (n - 1).toNat := by
  cases r with
  | right => simp [wrs]
  | left => simp [wrs]
  | ev a b => exact Nat.le_trans (List.length_filter_le _ _) (by simp)
theorem opn_len (rs : List Rd) (n : Int) : (opn rs n).length ≤ rs.length * (n - 1).toNat := by
  induction rs with
  | nil => simp [opn]
  | cons r rs ih =>
    have h := wrs_len r n
    have e : (opn (r :: rs) n).length = (wrs r n).length + (opn rs n).length := by simp [opn]
    rw [e, List.length_cons, Nat.succ_mul]
    omega
theorem rng_get {i j : Int} {k : Nat} {x : Int} (h : (rng i j)[k]? = some x) : x = i + k ∧ x < j := by
  unfold rng at h
  rw [List.getElem?_map] at h
  cases q : (List.range (j - i).toNat)[k]? with
  | none => simp [q] at h
  | some m =>
    simp [q] at h
    have hk := (List.getElem?_eq_some_iff.mp q).1
    rw [List.length_range] at hk
    rw [List.getElem?_range hk] at q
    cases q
    omega
/-- weirs of a round by its rest, as a comprehension gives them -/
theorem lc_rest {i j : Nat} {l : List (Option D)} {a b n : Int} (t : Env → M Bool) (S : Sto) (h0 : 0 < a) (hi : i < l.length)
    (ht : ∀ w : Int, t ⟨l.set i (some (.int w)), none⟩ S = .ok (decide (w % a = b)) S) : lcGo [] (gN i) t (eVar i) ⟨l, none⟩ (rangeD 1 n) S = .ok ((wrs (.ev a b) n).map .int) S := by
  rw [rangeD_rng]
  have := lcGo_map (tg := gN i) (t := t) (m := eVar i) (e0 := ⟨l, none⟩) (S := S) D.int (fun w => decide (w % a = b)) D.int (rng 1 n) fun w hw => ⟨_, rfl, ht w, fun _ => by simp [hi]⟩
  rw [this]
  rfl
theorem m_openings_ok {rs : List Rd} {x : D} (hx : IsSeq (rs.map Rd.d) x) (hl : rs.length ≤ 12) (hr : ∀ r ∈ rs, r.ok) {n : Int} (h1 : 1 ≤ n) (h2 : n ≤ 400) (S : Sto) : m_openings [x, .int n] S = .ok (.lst ((opn rs n).map .int)) (S ++ [.dead]) := by
  simp [m_openings, b_openings, hx.itm, oM]
  refine forGo_rule (G := fun o => toOut (o.andThen _) = .ok (.lst ((opn rs n).map .int)) (S ++ [.dead])) (fun i e S' => S' = S ++ [.lst ((opn (rs.take i) n).map .int)] ∧ ∃ a b, e = ⟨[some x, some (.int n), some (.ptr S.length), a, b], none⟩) ⟨rfl, _, _, rfl⟩ ?_ ?_
  · rintro i d e S' hi ⟨rfl, a, b, rfl⟩
    rw [List.getElem?_map] at hi
    cases q : rs[i]? with
    | none => simp [q] at hi
    | some r =>
      simp [q] at hi
      subst hi
      have ok := hr r (List.mem_of_getElem? q)
      have et : opn (rs.take (i + 1)) n = opn (rs.take i) n ++ wrs r n := by
        rw [List.take_add_one, q]
        simp [opn]
      have hlen : (opn (rs.take i) n).length + (wrs r n).length ≤ 100000 := by
        have a1 := opn_len (rs.take i) n
        have a2 := wrs_len r n
        have a3 : (rs.take i).length ≤ 12 := by
          rw [List.length_take]
          omega
        have := Nat.mul_le_mul a3 (Nat.le_refl (n - 1).toNat)
        omega
      rw [et]
      cases r with
      | right =>
        have c1 : -1000000 ≤ n ∧ n ≤ 1000000 := by omega
        simp only [wrs] at hlen ⊢
        simp [Rd.d, eBM, cellL, dExtend, rdP, putL, c1, rangeD_rng, oM] 
        have : (opn (rs.take i) n).length + (n.toNat - 1) ≤ 100000 := by
          simp at hlen
          omega
        simp [this]
      | left =>
        have c1 : -400000 ≤ n - 1 ∧ n - 1 ≤ 400000 ∧ 0 ≤ n - 1 := by omega
        simp only [wrs] at hlen ⊢
        simp [Rd.d, eBM, cellL, dExtend, rdP, putL, c1, dRangeB, oM, h1]
        have : (opn (rs.take i) n).length + (n.toNat - 1) ≤ 100000 := by
          simp at hlen
          omega
        have e := down_eq n
        simp at e
        simp [this, e]
      | ev a' b' =>
        obtain ⟨k1, k2, k3, k4⟩ := ok
        have c1 : -1000000 ≤ n ∧ n ≤ 1000000 := by omega
        have c2 : (rangeD 1 n).length ≤ 100000 := by
          rw [rangeD_rng]
          simp
          omega
        have c3 : 0 < a' := by omega
        have e := lc_rest (i := 4) (j := 4) (l := [some x, some (.int n), some (.ptr S.length), some (.tup [.str "every", .int a', .int b']), none]) (a := a') (b := b') (n := n)
          (tOf (e2 (dEq false) (e2 dMod (eVar 4) (e2 dIx (eVar 3) (eC (.int 1)))) (e2 dIx (eVar 3) (eC (.int 2))))) (S ++ [.lst ((opn (rs.take i) n).map .int)]) c3 (by simp) fun w => by
            simp [c3]
        simp [Rd.d, eBM, cellL, dExtend, rdP, putL, c1, oM, c2, e]
        have : (opn (rs.take i) n).length + (wrs (.ev a' b') n).length ≤ 100000 := hlen
        simp [this]
  · rintro e S' ⟨rfl, a, b, rfl⟩
    simp [sFrz, setS]
end PM
end
section
set_option Elab.async false
set_option linter.all false
set_option maxRecDepth 100000
namespace PM
open PySem L2
end PM
end
section
set_option Elab.async false
set_option linter.all false
set_option maxRecDepth 100000
set_option maxHeartbeats 2000000
namespace PM
open PySem L2
end PM
end
section
set_option Elab.async false
set_option linter.all false
set_option maxRecDepth 100000
set_option maxHeartbeats 2000000
namespace PM
open PySem L2
end PM
end
section
set_option Elab.async false
set_option linter.all false
set_option maxRecDepth 100000
set_option maxHeartbeats 2000000
namespace PM
open PySem L2
end PM
end
section
set_option Elab.async false
set_option linter.all false
set_option maxRecDepth 100000
set_option maxHeartbeats 2000000
namespace PM
open PySem L2
theorem dEq_scr (neg : Bool) (ns : List Int) (S : Sto) : dEq neg (.scr ns) (.lst []) S = .ok (.bl (neg != decide (ns = []))) S := by
  unfold dEq
  cases ns <;> simp [rdD, D.okD, D.py, D.pys, PyData.eqv, PyData.eqvAll]
def it97 : Nat → Int → Int
  | 0, c => c
  | n + 1, c => it97 n c / 97
theorem draw_ok (ns : List Int) (at_ many : Int) (h0 : 0 ≤ at_) (h1 : at_ ≤ 100000) (h2 : 0 < many) : ∃ v, 0 ≤ v ∧ v < many ∧ ∀ S, m__law_draw [.scr ns, .int at_, .int many] S = .ok (.int v) S := by
  -- the row
  obtain ⟨row, hrow, he, hl⟩ : ∃ row : List Int, row ≠ [] ∧ (∀ (l : List (Option D)) (S : Sto), eIf (tOf (e2 (dEq true) (eVar 0) (eA dLst aNil))) (eSl (eVar 0) oNone (oSome (eC (.int 60)))) (eA dLst (aCons (eC (.int 7)) aNil)) ⟨some (.scr ns) :: l, none⟩ S = .ok (.lst (row.map .int)) S) ∧ row.length ≤ 60 := by
    by_cases h : ns = []
    · refine ⟨[7], by simp, fun l S => ?_, by simp⟩
      simp [dEq_scr, h]
    · refine ⟨ns.take 60, by simpa using h, fun l S => ?_, by simp; omega⟩
      simp [dEq_scr, h, dSl, cutD, HT.sIx]
  have hp : 0 < row.length := List.length_pos_iff.mpr hrow
  obtain ⟨cell, hc⟩ : ∃ cell, row[(at_ % (row.length : Int)).toNat]? = some cell := by
    have a1 := Int.emod_nonneg at_ (show (row.length : Int) ≠ 0 by omega)
    have a2 := Int.emod_lt_of_pos at_ (show (0 : Int) < (row.length : Int) by omega)
    exact ⟨_, List.getElem?_eq_getElem (by omega)⟩
  have hat : atI (row.map D.int) (at_ % (row.length : Int)) = some (.int cell) := atI_pos (Int.emod_nonneg _ (by omega)) (by rw [List.getElem?_map, hc]; rfl)
  have lg : (row.length : Int).natAbs.log2 < 9000 := Nat.lt_of_le_of_lt (Nat.log2_le_self _) (by omega)
  have lg' : row.length.log2 < 9000 := lg
  have hp' : (0 : Int) < (row.length : Int) := by omega
  have p1 : (10 : Int) ^ (18 : Int).toNat = 1000000000000000000 := by decide
  have l97 : (97 : Int).natAbs.log2 < 9000 := by decide
  have lA : (1000003 : Int).natAbs.log2 < 9000 := by decide
  have t0 := Int.ediv_nonneg h0 (Int.le_of_lt hp')
  have t1 : at_ / (row.length : Int) ≤ at_ := Int.ediv_le_self _ h0
  by_cases big : (1000000000000000000 : Int) ≤ cell
  · -- a great cell
    refine ⟨it97 (at_ / (row.length : Int) % 40).toNat (cell % 97 ^ 40) % 97 % many, Int.emod_nonneg _ (by omega), Int.emod_lt_of_pos _ h2, fun S => ?_⟩
    have r0 := Int.emod_nonneg (at_ / (row.length : Int)) (show (40 : Int) ≠ 0 by decide)
    have r1 := Int.emod_lt_of_pos (at_ / (row.length : Int)) (show (0 : Int) < 40 by decide)
    have c1 : -1000000 ≤ at_ / (row.length : Int) % 40 ∧ at_ / (row.length : Int) % 40 ≤ 1000000 := by omega
    have p2 : (0 : Int) < 97 ^ (40 : Int).toNat := by decide
    simp -implicitDefEqProofs [m__law_draw, b__law_draw, he, hp', lg, lg', hat, big, p1, c1, rangeD_rng, hp]
    refine forGo_rule (G := fun o => toOut ((o.andThen _).andThen _) = .ok (.int (it97 (at_ / (row.length : Int) % 40).toNat (cell % 97 ^ 40) % 97 % many)) S) (fun i e S' => S' = S ∧ ∃ x, e = ⟨[some (.scr ns), some (.int at_), some (.int many), some (.lst (row.map .int)), some (.int (it97 i (cell % 97 ^ 40))), some (.int (at_ / (row.length : Int))), x, none], none⟩) ⟨rfl, _, rfl⟩ ?_ ?_
    · rintro i d e S' hi ⟨rfl, x, rfl⟩
      refine ⟨rfl, _, rfl, ?_⟩
      simp -implicitDefEqProofs [l97, it97]
    · rintro e S' ⟨rfl, x, rfl⟩
      refine ⟨rfl, ?_⟩
      simp -implicitDefEqProofs [h2]
  · refine ⟨(((cell + 31 * (at_ / (row.length : Int))) % 1000003 + 977 * at_ + 13) * 48271 + cell / 1000003 % 999983) % 2147483647 * 65537 % 4294967291 % many, Int.emod_nonneg _ (by omega), Int.emod_lt_of_pos _ h2, fun S => ?_⟩
    have tt : (at_ / (row.length : Int)).natAbs < 18446744073709551616 := by omega
    have ta : at_.natAbs < 18446744073709551616 := by omega
    have a0 := Int.emod_nonneg (cell + 31 * (at_ / (row.length : Int))) (show (1000003 : Int) ≠ 0 by decide)
    have a1 := Int.emod_lt_of_pos (cell + 31 * (at_ / (row.length : Int))) (show (0 : Int) < 1000003 by decide)
    have tb : ((cell + 31 * (at_ / (row.length : Int))) % 1000003 + 977 * at_ + 13).natAbs < 18446744073709551616 := by omega
    have tm : ∀ z : Int, (z % 2147483647).natAbs < 18446744073709551616 := fun z => by
      have b0 := Int.emod_nonneg z (show (2147483647 : Int) ≠ 0 by decide)
      have b1 := Int.emod_lt_of_pos z (show (0 : Int) < 2147483647 by decide)
      omega
    simp -implicitDefEqProofs [m__law_draw, b__law_draw, he, hp', lg, lg', hat, big, p1, hp, tt, ta, tb, tm, h2]
theorem of_all {α : Type} {enc : α → D} {p : α → Prop} : ∀ {ys : List D}, (∀ y ∈ ys, ∃ a, y = enc a ∧ p a) → ∃ xs : List α, ys = xs.map enc ∧ ∀ a ∈ xs, p a
  | [], _ => ⟨[], rfl, by simp⟩
  | y :: ys, h => by
    obtain ⟨a, e, pa⟩ := h y (by simp)
    obtain ⟨xs, e2, pxs⟩ := of_all fun z hz => h z (List.mem_cons_of_mem _ hz)
    exact ⟨a :: xs, by rw [e, e2]; rfl, fun b hb => by
      rcases List.mem_cons.mp hb with rfl | hb
      · exact pa
      · exact pxs b hb⟩
/-- the way of a word -/
def wayR (w : String) : Rd := if w = "left" then .left else .right
theorem rounds_ok (ns : List Int) (at_ most : Int) (way : String) (hw : way = "right" ∨ way = "left") (h0 : 0 ≤ at_) (h1 : at_ ≤ 1000) (m0 : 0 ≤ most) (m1 : most ≤ 20) (S : Sto) :
    ∃ (rs : List Rd) (S' : Sto), m__law_rounds [.scr ns, .int at_, .int most, .str way] S = .ok (.lst (rs.map Rd.d)) S' ∧ (rs.length : Int) ≤ most ∧ ∀ r ∈ rs, r.ok ∧ (r = wayR way ∨ ∃ a b, r = .ev a b) := by
  obtain ⟨v1, v1a, v1b, d1⟩ := draw_ok ns at_ 4 h0 (by omega) (by decide)
  obtain ⟨v2, v2a, v2b, d2⟩ := draw_ok ns (at_ + 1) 2 (by omega) (by omega) (by decide)
  obtain ⟨v3, v3a, v3b, d3⟩ := draw_ok ns (at_ + 2) (3 + v2) (by omega) (by omega) (by omega)
  obtain ⟨v4, v4a, v4b, d4⟩ := draw_ok ns (at_ + 3) (most + 1) (by omega) (by omega) (by omega)
  have c4 : -1000000 ≤ v4 ∧ v4 ≤ 1000000 := by omega
  have c5 : (rangeD 0 v4).length ≤ 100000 := by
    rw [rangeD_rng]
    simp
    omega
  have hway : D.tup [.str way] = (wayR way).d := by
    rcases hw with rfl | rfl <;> rfl
  -- what stands in rows
  have main : ∀ (x1 : Rd) (x5 : Option D), (x1.ok ∧ ∃ a b, x1 = .ev a b) → ∃ rs : List Rd, lcGo [] (gN 6) tYesP (e2 dIx (eVar 4) (eA m__law_draw (aCons (eVar 0) (aCons (e2 dAdd (e2 dAdd (eVar 1) (eC (.int 4))) (eVar 6)) (aCons (eC (.int 5)) aNil)))))
      ⟨[some (.scr ns), some (.int at_), some (.int most), some (.str way), some (.ptr S.length), x5, none], none⟩ (rangeD 0 v4) (S ++ [.lst [(wayR way).d, x1.d, (Rd.ev 2 0).d, x1.d, (Rd.ev 2 0).d]]) = .ok (rs.map Rd.d) (S ++ [.lst [(wayR way).d, x1.d, (Rd.ev 2 0).d, x1.d, (Rd.ev 2 0).d]]) ∧ (rs.length : Int) ≤ v4 ∧ ∀ r ∈ rs, r.ok ∧ (r = wayR way ∨ ∃ a b, r = .ev a b) := by
    intro x1 x5 hx
    obtain ⟨ys, S', q1, q2, q3, q4⟩ := lcGo_run (src := []) (tg := gN 6) (t := tYesP) (m := e2 dIx (eVar 4) (eA m__law_draw (aCons (eVar 0) (aCons (e2 dAdd (e2 dAdd (eVar 1) (eC (.int 4))) (eVar 6)) (aCons (eC (.int 5)) aNil)))))
      (e0 := ⟨[some (.scr ns), some (.int at_), some (.int most), some (.str way), some (.ptr S.length), x5, none], none⟩) (fun k acc S' => S' = S ++ [.lst [(wayR way).d, x1.d, (Rd.ev 2 0).d, x1.d, (Rd.ev 2 0).d]] ∧ acc.length = k ∧ ∀ y ∈ acc, ∃ r : Rd, y = r.d ∧ r.ok ∧ (r = wayR way ∨ ∃ a b, r = .ev a b)) (rangeD 0 v4) 0 [] _ ⟨rfl, rfl, by simp⟩ (by
        rintro i d acc S' hi ⟨rfl, hl, ha⟩
        rw [rangeD_rng, List.getElem?_map] at hi
        cases q : (rng 0 v4)[i]? with
        | none => simp [q] at hi
        | some w =>
          simp [q] at hi
          subst hi
          obtain ⟨w1, w2⟩ := rng_get q
          obtain ⟨u, u1, u2, du⟩ := draw_ok ns (at_ + 4 + w) 5 (by omega) (by omega) (by decide)
          have hu : u = 0 ∨ u = 1 ∨ u = 2 ∨ u = 3 ∨ u = 4 := by omega
          have fin : ∃ r : Rd, atI [(wayR way).d, x1.d, (Rd.ev 2 0).d, x1.d, (Rd.ev 2 0).d] u = some r.d ∧ r.ok ∧ (r = wayR way ∨ ∃ a b, r = .ev a b) := by
            have wok : (wayR way).ok := by rcases hw with rfl | rfl <;> trivial
            have eok : (Rd.ev 2 0).ok := by simp [Rd.ok]
            rcases hu with rfl | rfl | rfl | rfl | rfl
            · exact ⟨wayR way, by simp, wok, .inl rfl⟩
            · exact ⟨x1, by simp, hx.1, .inr hx.2⟩
            · exact ⟨.ev 2 0, by simp, eok, .inr ⟨_, _, rfl⟩⟩
            · exact ⟨x1, by simp, hx.1, .inr hx.2⟩
            · exact ⟨.ev 2 0, by simp [atI, ixN], eok, .inr ⟨_, _, rfl⟩⟩
          obtain ⟨r, hr, r2, r3⟩ := fin
          refine ⟨rfl, _, true, _, rfl, rfl, ?_⟩
          simp only [if_true]
          refine ⟨r.d, _, by simp -implicitDefEqProofs [du, hr], rfl, by simp [hl], fun y hy => ?_⟩
          rcases List.mem_append.mp hy with hy | hy
          · exact ha y hy
          · rw [List.mem_singleton.mp hy]
            exact ⟨r, rfl, r2, r3⟩) (fun _ _ _ => rfl)
    rw [List.nil_append] at q4 q3
    obtain ⟨rs, e, hrs⟩ := of_all q4
    refine ⟨rs, by rw [q1, q2, e], ?_, hrs⟩
    have : rs.length = (rangeD 0 v4).length := by
      rw [e, List.length_map] at q3
      omega
    rw [this, rangeD_rng]
    simp
    omega
  by_cases hv : v1 = 0
  · obtain ⟨rs, e, l, hrs⟩ := main (.ev (3 + v2) v3) (some (.int (3 + v2))) ⟨by simp [Rd.ok]; omega, _, _, rfl⟩
    refine ⟨rs, S ++ [.lst [(wayR way).d, (Rd.ev (3 + v2) v3).d, (Rd.ev 2 0).d, (Rd.ev (3 + v2) v3).d, (Rd.ev 2 0).d]], ?_, by omega, hrs⟩
    subst hv
    rw [← hway] at e ⊢
    simp only [Rd.d] at e ⊢
    simp -implicitDefEqProofs [m__law_rounds, b__law_rounds, d1, d2, d3, d4, c4, c5, dSet, cellL, ixN, putL, oM, e]
  · obtain ⟨rs, e, l, hrs⟩ := main (.ev 2 1) none ⟨by simp [Rd.ok], _, _, rfl⟩
    refine ⟨rs, S ++ [.lst [(wayR way).d, (Rd.ev 2 1).d, (Rd.ev 2 0).d, (Rd.ev 2 1).d, (Rd.ev 2 0).d]], ?_, by omega, hrs⟩
    rw [← hway] at e ⊢
    simp only [Rd.d] at e ⊢
    simp -implicitDefEqProofs [m__law_rounds, b__law_rounds, d1, d4, c4, c5, hv, e]
theorem law_weirs_ok {r : Rd} (hr : r.ok) {n : Int} (h1 : -1000 ≤ n) (h2 : n ≤ 1000) (S : Sto) : m__law_weirs [r.d, .int n] S = .ok (.lst ((wrs r n).map .int)) S := by
  have c1 : -1000000 ≤ n ∧ n ≤ 1000000 := by omega
  cases r with
  | right => simp -implicitDefEqProofs [m__law_weirs, b__law_weirs, Rd.d, c1, rangeD_rng, wrs]
  | left => simp -implicitDefEqProofs [m__law_weirs, b__law_weirs, Rd.d, c1, rangeD_rng, wrs]
  | ev a b =>
    obtain ⟨k1, k2, k3, k4⟩ := hr
    have c3 : 0 < a := by omega
    have c2 : (rangeD 1 n).length ≤ 100000 := by
      rw [rangeD_rng]
      simp
      omega
    have e := lc_rest (i := 2) (j := 2) (l := [some (.tup [.str "every", .int a, .int b]), some (.int n), none]) (a := a) (b := b) (n := n)
      (tOf (e2 (dEq false) (e2 dMod (eVar 2) (e2 dIx (eVar 0) (eC (.int 1)))) (e2 dIx (eVar 0) (eC (.int 2))))) S c3 (by simp) fun w => by simp [c3]
    simp -implicitDefEqProofs [m__law_weirs, b__law_weirs, Rd.d, c1, c2, e]
theorem law_order_ok {rs : List Rd} {x : D} (hx : IsSeq (rs.map Rd.d) x) (hl : rs.length ≤ 40) (hr : ∀ r ∈ rs, r.ok) {n : Int} (h1 : -1000 ≤ n) (h2 : n ≤ 1000) (S : Sto) : m__law_order_p [x, .int n] S = .ok (.lst ((opn rs n).map .int)) S := by
  simp -implicitDefEqProofs [m__law_order_p, b__law_order_p, hx.itm, oM]
  refine forGo_rule (G := fun o => toOut (o.andThen _) = .ok (.lst ((opn rs n).map .int)) S) (fun i e S' => S' = S ∧ ∃ a, e = ⟨[some x, some (.int n), some (.lst ((opn (rs.take i) n).map .int)), a], none⟩) ⟨rfl, _, rfl⟩ ?_ ?_
  · rintro i d e S' hi ⟨rfl, a, rfl⟩
    rw [List.getElem?_map] at hi
    cases q : rs[i]? with
    | none => simp [q] at hi
    | some r =>
      simp [q] at hi
      subst hi
      have ok := hr r (List.mem_of_getElem? q)
      have et : opn (rs.take (i + 1)) n = opn (rs.take i) n ++ wrs r n := by
        rw [List.take_add_one, q]
        simp [opn]
      have hlen : (opn (rs.take i) n).length + (wrs r n).length ≤ 100000 := by
        have a1 := opn_len (rs.take i) n
        have a2 := wrs_len r n
        have a3 : (rs.take i).length ≤ 40 := by
          rw [List.length_take]
          omega
        have := Nat.mul_le_mul a3 (Nat.le_refl (n - 1).toNat)
        omega
      rw [et]
      simp -implicitDefEqProofs [law_weirs_ok ok h1 h2, hlen]
  · rintro e S' ⟨rfl, a, rfl⟩
    simp
end PM
end
section
set_option Elab.async false
set_option linter.all false
set_option maxRecDepth 100000
namespace PM
open PySem L2
theorem cutD_hi (ds : List D) {k : Int} (h : 0 ≤ k) : cutD ds none (some k) = ds.take k.toNat := by
  unfold cutD HT.sIx
  simp only [List.drop_zero, Nat.sub_zero]
  rw [if_neg (by omega)]
  by_cases c : k.toNat ≤ ds.length
  · rw [Nat.min_eq_left c]
  · rw [Nat.min_eq_right (by omega), List.take_of_length_le (by omega), List.take_of_length_le (by omega)]
theorem cutD_lo (ds : List D) {k : Int} (h : 0 ≤ k) : cutD ds (some k) none = ds.drop k.toNat := by
  unfold cutD HT.sIx
  simp only
  rw [if_neg (by omega)]
  by_cases c : k.toNat ≤ ds.length
  · rw [Nat.min_eq_left c, List.take_of_length_le (by simp)]
  · rw [Nat.min_eq_right (by omega), List.drop_of_length_le (Nat.le_refl _), List.drop_of_length_le (by omega)]
    simp
theorem dSl_lst (ds : List D) (lo hi : Option Int) (S : Sto) : dSl (.lst ds) lo hi S = .ok (.lst (cutD ds lo hi)) S := rfl
theorem rep_int (n : Nat) (c : Int) : (List.replicate n [D.int c]).flatten = (List.replicate n c).map D.int := by
  induction n with
  | zero => rfl
  | succ n ih => rw [List.replicate_succ, List.flatten_cons, ih, List.replicate_succ]; rfl
@[simp] theorem iZipA_ap (a : Env → M (List D)) (e : Env) : iZipA a e = bind (a e) fun ds => match ds with
  | [x, y] => fun S => oM (itmOf S x) (fun i => oM (itmOf S y) (fun j => ret ⟨zipD i.ds j.ds, i.src ++ j.src⟩)) S
  | _ => stuck := rfl
end PM
end
section
set_option Elab.async false
set_option linter.all false
set_option maxRecDepth 100000
namespace PM
open PySem L2
noncomputable def b__law_number : Stm := (sSeq (sIf (tOf (e2 (dEq false) (eVar 0) (eA dLst aNil))) (sRet (eA (d1 dInt) (aCons (e2 dMod (e2 dAdd (e2 dMul (eVar 1) (eC (.int 48271))) (eC (.int 12345))) (eC (.int 2147483647))) aNil))) sNext) (sSeq (sAsg (e2 dIx (eVar 0) (e2 dMod (eVar 1) (eA (d1 dLen) (aCons (eVar 0) aNil)))) (gN 2)) (sSeq (sIf (tOf (e2 dGe (eA (d1 dAbs) (aCons (eVar 2) aNil)) (e2 dPow (eC (.int 10)) (eC (.int 60))))) (sAsg (e2 dMod (eVar 2) (e2 dPow (eC (.int 10)) (eC (.int 18)))) (gN 2)) sNext) (sSeq (sAsg (e2 dMod (e2 dAdd (e2 dMul (e2 dAdd (eVar 2) (e2 dMul (eC (.int 977)) (eVar 1))) (eC (.int 48271))) (e2 dMul (eC (.int 31)) (eA (d1 dLen) (aCons (eVar 0) aNil)))) (eC (.int 2147483647))) (gN 3)) (sRet (eA (d1 dInt) (aCons (e2 dMod (e2 dAdd (e2 dMul (e2 dMod (e2 dMul (eVar 3) (eC (.int 69621))) (eC (.int 2147483629))) (eC (.int 16807))) (eVar 1)) (eC (.int 2147483587))) aNil)))))))
noncomputable def m__law_number : List D → M D := runFn 2 4 b__law_number
noncomputable def b__law_take : Stm := (sSeq (sAugS (eVar 0) (eC (.int 1)) (eC (.int 1))) (sRet (e2 dMod (eA (d1 dInt) (aCons (eA m__law_number (aCons (e2 dIx (eVar 0) (eC (.int 0))) (aCons (eA (d1 dInt) (aCons (e2 dIx (eVar 0) (eC (.int 1))) aNil)) aNil))) aNil)) (eVar 1))))
noncomputable def m__law_take : List D → M D := runFn 2 2 b__law_take
noncomputable def b__law_pick : Stm := (sRet (e2 dIx (eVar 1) (eA m__law_take (aCons (eVar 0) (aCons (eA (d1 dLen) (aCons (eVar 1) aNil)) aNil)))))
noncomputable def m__law_pick : List D → M D := runFn 2 2 b__law_pick
noncomputable def b__law_common : Stm := (sSeq (sWhl (tOf (e2 (dEq true) (eVar 1) (eC (.int 0)))) (sPar 0 1 (aCons (eVar 1) (aCons (e2 dMod (eA (d1 dInt) (aCons (eVar 0) aNil)) (eVar 1)) aNil)))) (sRet (eVar 0)))
noncomputable def m__law_common : List D → M D := runFn 2 2 b__law_common
noncomputable def b__law_part : Stm := (sSeq (sAsg (eA m__law_common (aCons (eA (d1 dAbs) (aCons (eVar 0) aNil)) (aCons (eVar 1) aNil))) (gN 2)) (sRet (eIf (tOf (e2 (dEq true) (eVar 2) (eC (.int 0)))) (eA dTup (aCons (eA (d1 dInt) (aCons (e2 dDiv (eVar 0) (eVar 2)) aNil)) (aCons (eA (d1 dInt) (aCons (e2 dDiv (eVar 1) (eVar 2)) aNil)) aNil))) (eA dTup (aCons (eC (.int 0)) (aCons (eC (.int 1)) aNil))))))
noncomputable def m__law_part : List D → M D := runFn 2 3 b__law_part
noncomputable def b__law_order : Stm := (sRet (eIf (tOf (e2 (dEq true) (eVar 1) (eA dLst aNil))) (eLc false (iR1 (aCons (eVar 2) aNil)) [3] (gN 3) tYesP (eA m__law_pick (aCons (eVar 0) (aCons (eVar 1) aNil)))) (eA dLst aNil)))
noncomputable def m__law_order : List D → M D := runFn 3 4 b__law_order
noncomputable def b__law_unit : Stm := (sRet (eA (d1 dTuple) (aCons (eLc false (iR1 (aCons (eVar 0) aNil)) [2] (gN 2) tYesP (eIf (tOf (e2 (dEq false) (eVar 2) (eVar 1))) (eA dTup (aCons (eC (.int 1)) (aCons (eC (.int 1)) aNil))) (eA dTup (aCons (eC (.int 0)) (aCons (eC (.int 1)) aNil))))) aNil)))
noncomputable def m__law_unit : List D → M D := runFn 2 3 b__law_unit
end PM
end
section
set_option Elab.async false
set_option linter.all false
set_option maxRecDepth 100000
set_option maxHeartbeats 2000000
set_option exponentiation.threshold 10000
namespace PM
open PySem L2
/-- a fraction as it is told: its parts without a common divisor -/
def fr (q : Rat) : D := .tup [.int q.num, .int q.den]
theorem fr_inj {p q : Rat} : fr p = fr q ↔ p = q := by
  constructor
  · intro h
    simp [fr] at h
    exact Rat.ext h.1 (by omega)
  · rintro rfl
    rfl
@[simp] theorem fr_fit (q : Rat) (n : Nat) : (fr q).fit (n + 1) = true := by simp [fr]
/-- the parts of a quotient, by the common divisor -/
theorem rat_parts (a b : Int) (hb : 0 < b) : ((a : Rat) / (b : Rat)).num = a / (Int.gcd a b : Int) ∧ (((a : Rat) / (b : Rat)).den : Int) = b / (Int.gcd a b : Int) := by
  have hg : 0 < Int.gcd a b := Int.gcd_pos_of_ne_zero_right _ (by omega)
  have hg' : (0 : Int) < (Int.gcd a b : Int) := by omega
  have d1 : (Int.gcd a b : Int) ∣ a := Int.gcd_dvd_left ..
  have d2 : (Int.gcd a b : Int) ∣ b := Int.gcd_dvd_right ..
  have hq : 0 < b / (Int.gcd a b : Int) := Int.ediv_pos_of_pos_of_dvd hb (by omega) d2
  have cop : (a / (Int.gcd a b : Int)).natAbs.Coprime (b / (Int.gcd a b : Int)).toNat := by
    have h := Int.gcd_ediv_gcd_ediv_gcd (i := a) (j := b) hg
    unfold Int.gcd at h
    have e : (b / (Int.gcd a b : Int)).natAbs = (b / (Int.gcd a b : Int)).toNat := by omega
    unfold Nat.Coprime
    rw [← e]
    exact h
  have key : (⟨a / (Int.gcd a b : Int), (b / (Int.gcd a b : Int)).toNat, by omega, cop⟩ : Rat) = (a : Rat) / (b : Rat) := by
    rw [Rat.mk_eq_divInt, ← Rat.divInt_eq_div]
    have hb0 : b ≠ 0 := by omega
    refine (Rat.divInt_eq_divInt_iff (by omega) hb0).mpr ?_
    rw [Int.toNat_of_nonneg (Int.le_of_lt hq)]
    obtain ⟨x, hx⟩ := d1
    obtain ⟨y, hy⟩ := d2
    have e1 : a / (Int.gcd a b : Int) = x := Int.ediv_eq_of_eq_mul_right (by omega) hx
    have e2 : b / (Int.gcd a b : Int) = y := Int.ediv_eq_of_eq_mul_right (by omega) hy
    rw [e1, e2]
    conv => lhs; rw [hy]
    conv => rhs; rw [hx]
    grind
  constructor
  · rw [← key]
  · rw [← key]
    exact Int.toNat_of_nonneg (Int.le_of_lt hq)
theorem fr_div (a b : Int) (hb : 0 < b) : fr ((a : Rat) / (b : Rat)) = .tup [.int (a / (Int.gcd a b : Int)), .int (b / (Int.gcd a b : Int))] := by
  obtain ⟨h1, h2⟩ := rat_parts a b hb
  unfold fr
  rw [h1, h2]
theorem rat_num_den (q : Rat) : (q.num : Rat) / ((q.den : Int) : Rat) = q := by
  have := Rat.mk_eq_divInt (num := q.num) (den := q.den) (nz := q.den_nz) (c := q.reduced)
  rw [← Rat.divInt_eq_div, ← this]
theorem lg_of {n k : Nat} (h : n < 2 ^ k) (hk : 0 < k) : n.log2 < k := by
  by_cases z : n = 0
  · subst z
    simpa using hk
  · exact (Nat.log2_lt z).mpr h
theorem lg_mono {n k j : Nat} (h : n < 2 ^ k) (hk : 0 < k) (hj : k ≤ j) : n.log2 < j := Nat.lt_of_lt_of_le (lg_of h hk) hj
theorem m_reduced_ok (a b : Int) (hb : 0 < b) (h : b.toNat < 2 ^ 8999) (S : Sto) : m_reduced [.int a, .int b] S = .ok (fr ((a : Rat) / (b : Rat))) S := by
  have hg : 0 < Nat.gcd a.natAbs b.natAbs := Nat.gcd_pos_of_pos_right _ (by omega)
  have hl : (Nat.gcd a.natAbs b.natAbs).log2 < 9000 := by
    refine lg_mono (k := 8999) ?_ (by decide) (by decide)
    have := Nat.le_of_dvd (show 0 < b.natAbs by omega) (Nat.gcd_dvd_right a.natAbs b.natAbs)
    have e : b.natAbs = b.toNat := by omega
    omega
  rw [fr_div a b hb]
  have e : (Int.gcd a b : Int) = ((Nat.gcd a.natAbs b.natAbs : Nat) : Int) := rfl
  rw [e]
  simp -implicitDefEqProofs [m_reduced, b_reduced, hg, hl]
theorem m_exact_int (a : Int) (S : Sto) : m_exact [.int a] S = .ok (fr (a : Rat)) S := by
  have e : fr (a : Rat) = .tup [.int a, .int 1] := by simp [fr]
  rw [e]
  simp -implicitDefEqProofs [m_exact, b_exact, dIs_ap [] _ (.int a) S (k := .inl "int") rfl rfl, isK, kitP]
theorem m_exact_fr (q : Rat) (h : q.den < 2 ^ 8999) (S : Sto) : m_exact [fr q] S = .ok (fr q) S := by
  have r := m_reduced_ok q.num q.den (by have := q.den_pos; omega) (by simpa using h) S
  rw [rat_num_den] at r
  simp only [fr] at r ⊢
  simp -implicitDefEqProofs [m_exact, b_exact, dIs_ap [] _ (.tup _) S (k := .inl "tuple") rfl rfl, isK, kitP, r]
theorem rat_mul_parts (p q : Rat) : (p * q).num = (p.num / (Nat.gcd p.num.natAbs q.den : Int)) * (q.num / (Nat.gcd q.num.natAbs p.den : Int)) ∧ ((p * q).den : Int) = ((p.den : Int) / (Nat.gcd q.num.natAbs p.den : Int)) * ((q.den : Int) / (Nat.gcd p.num.natAbs q.den : Int)) := by
  constructor
  · show (Rat.mul p q).num = _
    unfold Rat.mul
    simp [Int.div_def]
  · show ((Rat.mul p q).den : Int) = _
    unfold Rat.mul
    simp
theorem maybe_parts (num : Int) (den g : Nat) (h1 h2 h3 h4) : (Rat.maybeNormalize num den g h1 h2 h3 h4).num = num / (g : Int) ∧ (Rat.maybeNormalize num den g h1 h2 h3 h4).den = den / g := by
  unfold Rat.maybeNormalize
  split
  · rename_i e
    subst e
    simp
  · simp
theorem rat_add_parts (p q : Rat) : let g := Nat.gcd p.den q.den
    let top := p.num * ((q.den / g : Nat) : Int) + q.num * ((p.den / g : Nat) : Int)
    let rest := Nat.gcd top.natAbs g
    (p + q).num = top / (rest : Int) ∧ ((p + q).den : Int) = ((p.den / g : Nat) : Int) * ((q.den / rest : Nat) : Int) := by
  intro g top rest
  have hd : rest ∣ q.den := Nat.dvd_trans (Nat.gcd_dvd_right _ _) (Nat.gcd_dvd_right _ _)
  constructor
  · show (Rat.add p q).num = _
    unfold Rat.add
    simp only
    split
    · rename_i e
      have e : g = 1 := e
      simp [top, rest, e]
    · exact (maybe_parts ..).1
  · show ((Rat.add p q).den : Int) = _
    unfold Rat.add
    simp only
    split
    · rename_i e
      have e : g = 1 := e
      simp [rest, e]
    · rw [(maybe_parts ..).2]
      have : p.den / g * q.den / rest = p.den / g * (q.den / rest) := Nat.mul_div_assoc _ hd
      show ((p.den / g * q.den / rest : Nat) : Int) = _
      rw [this]
      simp
theorem nad (a b : Nat) : ((a : Int) / (b : Int)).natAbs = a / b := by
  rw [← Int.natCast_ediv]
  rfl
theorem fr_neg (q : Rat) : D.tup [.int (-q.num), .int q.den] = fr (-q) := by
  simp [fr]
end PM
end
section
set_option Elab.async false
set_option linter.all false
set_option maxRecDepth 100000
set_option maxHeartbeats 2000000
set_option exponentiation.threshold 10000
namespace PM
open PySem L2
/-- Euclid's turns, as the laws do them -/
theorem euclid_ok (S : Sto) (G : SO → Prop) {t : Env → M Bool} {body : Stm} (mk : Int → Int → Env) (ht : ∀ a b : Int, t (mk a b) S = .ok (b != 0) S) (hb : ∀ a b : Int, 0 ≤ a → 0 < b → body (mk a b) S = .nx (mk b (a % b)) S) (a b : Nat) (hG : G (.nx (mk (Nat.gcd a b : Nat) 0) S)) : G (sWhl t body (mk a b) S) := by
  refine whl_rule (fun n e S' => S' = S ∧ ∃ x y : Nat, n = y ∧ Nat.gcd x y = Nat.gcd a b ∧ e = mk x y) b ⟨rfl, a, b, rfl, rfl, rfl⟩ ?_
  rintro n e S' ⟨rfl, x, y, hn, hg, rfl⟩
  refine ⟨((y : Int) != 0), S', ht _ _, ?_⟩
  by_cases hy : y = 0
  · subst hy
    simp at hg
    subst hg
    simpa using hG
  · have hyp : 0 < y := Nat.pos_of_ne_zero hy
    have e1 : ((y : Int) != 0) = true := by simp [hy]
    rw [e1]
    simp only [if_true]
    refine ⟨_, _, hb _ _ (by omega) (by omega), x % y, by rw [hn]; exact Nat.mod_lt _ hyp, rfl, y, x % y, rfl, ?_, by simp⟩
    rw [← hg, Nat.gcd_comm x y, Nat.gcd_rec y x, Nat.gcd_comm]
theorem law_part_p_ok (a b : Int) (hb : 0 < b) (h : b.toNat < 2 ^ 8999) (S : Sto) : m__law_part_p [.int a, .int b] S = .ok (fr ((a : Rat) / (b : Rat))) S := by
  have hg : 0 < Nat.gcd a.natAbs b.toNat := Nat.gcd_pos_of_pos_right _ (by omega)
  have hl : (Nat.gcd a.natAbs b.toNat).log2 < 9000 := by
    refine lg_mono (k := 8999) ?_ (by decide) (by decide)
    have := Nat.le_of_dvd (show 0 < b.toNat by omega) (Nat.gcd_dvd_right a.natAbs b.toNat)
    omega
  have eb : b.toNat = b.natAbs := by omega
  rw [fr_div a b hb]
  have e : (Int.gcd a b : Int) = ((Nat.gcd a.natAbs b.toNat : Nat) : Int) := by rw [eb]; rfl
  rw [e]
  have ea : (if a < 0 then -a else a) = (a.natAbs : Int) := by split <;> omega
  have ebb : b = ((b.toNat : Nat) : Int) := by omega
  simp -implicitDefEqProofs [m__law_part_p, b__law_part_p, ea]
  have run := euclid_ok S (fun o => toOut (o.andThen (sRet (eA dTup (aCons (e2 dDiv (eVar 0) (eVar 2)) (aCons (e2 dDiv (eVar 1) (eVar 2)) aNil))))) = .ok (.tup [.int (a / ((Nat.gcd a.natAbs b.toNat : Nat) : Int)), .int (b / ((Nat.gcd a.natAbs b.toNat : Nat) : Int))]) S)
    (t := tOf (e2 (dEq true) (eVar 3) (eC (.int 0)))) (body := sPar 2 3 (aCons (eVar 3) (aCons (e2 dMod (eA (d1 dInt) (aCons (eVar 2) aNil)) (eVar 3)) aNil)))
    (fun x y => ⟨[some (.int a), some (.int b), some (.int x), some (.int y)], none⟩) (fun x y => by by_cases h : y = 0 <;> simp [h]) (fun x y h0 h1 => by simp -implicitDefEqProofs [h1]) a.natAbs b.toNat (by
      have p0 : 0 < b.toNat := by omega
      simp -implicitDefEqProofs [p0, hl])
  rw [← ebb] at run
  exact run
theorem cast_ne {b : Int} (h : b ≠ 0) : (b : Rat) ≠ 0 := by
  intro z
  exact h (by exact_mod_cast z)
end PM
end
section
set_option Elab.async false
set_option linter.all false
namespace PM
def avg (v : List Int) (w : Int) : List Int := (v.set (w - 1).toNat ((v.getD (w - 1).toNat 0 + v.getD w.toNat 0) / 2)).set w.toNat ((v.getD (w - 1).toNat 0 + v.getD w.toNat 0) / 2)
def play (v : List Int) (ws : List Int) : List Int := ws.foldl avg v
def avgQ (v : List Rat) (w : Int) : List Rat := (v.set (w - 1).toNat ((v.getD (w - 1).toNat 0 + v.getD w.toNat 0) / 2)).set w.toNat ((v.getD (w - 1).toNat 0 + v.getD w.toNat 0) / 2)
def plyQ (v : List Rat) (ws : List Int) : List Rat := ws.foldl avgQ v
theorem avg_len (t : List Int) (w : Int) : (avg t w).length = t.length := by simp [avg]
theorem play_len (ws : List Int) : ∀ t : List Int, (play t ws).length = t.length := by
  induction ws with
  | nil => exact fun t => rfl
  | cons w ws ih => exact fun t => (ih _).trans (avg_len t w)
theorem avgQ_len (t : List Rat) (w : Int) : (avgQ t w).length = t.length := by simp [avgQ]
theorem plyQ_len (ws : List Int) : ∀ t : List Rat, (plyQ t ws).length = t.length := by
  induction ws with
  | nil => exact fun t => rfl
  | cons w ws ih => exact fun t => (ih _).trans (avgQ_len t w)
theorem plyQ_app (v : List Rat) (a b : List Int) : plyQ v (a ++ b) = plyQ (plyQ v a) b := List.foldl_append
theorem play_app (v : List Int) (a b : List Int) : play v (a ++ b) = play (play v a) b := List.foldl_append
theorem getD_set2 {α : Type} (t : List α) (z x : α) (a b i : Nat) (ha : a < t.length) (hb : b < t.length) : ((t.set a x).set b x).getD i z = if i = a ∨ i = b then x else t.getD i z := by
  simp only [List.getD_eq_getElem?_getD, List.getElem?_set, List.length_set]
  by_cases h1 : b = i
  · subst h1
    simp [hb]
  · by_cases h2 : a = i
    · subst h2
      simp [h1, ha, hb]
    · simp [h1, h2, Ne.symm h1, Ne.symm h2]
structure Sc (c : Rat) (t : List Int) (q : List Rat) : Prop where
  len : t.length = q.length
  at_ : ∀ i, ((t.getD i 0 : Int) : Rat) = q.getD i 0 * c
def Dv (e : Nat) (t : List Int) : Prop := ∀ i, ((2 ^ e : Nat) : Int) ∣ t.getD i 0
theorem Sc.avg {c : Rat} {t : List Int} {q : List Rat} (h : Sc c t q) {w : Int} (w1 : 1 ≤ w) (w2 : w < t.length) (ev : (2 : Int) ∣ t.getD (w - 1).toNat 0 + t.getD w.toNat 0) : Sc c (avg t w) (avgQ q w) := by
  refine ⟨by rw [avg_len, avgQ_len, h.len], fun i => ?_⟩
  have hq := h.len
  unfold PM.avg avgQ
  rw [getD_set2 _ _ _ _ _ _ (by omega) (by omega), getD_set2 _ _ _ _ _ _ (by omega) (by omega)]
  by_cases c1 : i = (w - 1).toNat ∨ i = w.toNat
  · rw [if_pos c1, if_pos c1]
    obtain ⟨k, hk⟩ := ev
    have a1 := h.at_ (w - 1).toNat
    have a2 := h.at_ w.toNat
    have e : (t.getD (w - 1).toNat 0 + t.getD w.toNat 0) / 2 = k := by omega
    rw [e]
    have e2 : ((2 * k : Int) : Rat) = (q.getD (w - 1).toNat 0 + q.getD w.toNat 0) * c := by
      rw [← hk, Rat.intCast_add, a1, a2, Rat.add_mul]
    rw [Rat.intCast_mul] at e2
    have e3 : ((2 : Int) : Rat) = 2 := rfl
    rw [e3] at e2
    grind
  · rw [if_neg c1, if_neg c1]
    exact h.at_ i
theorem Dv.avg {e : Nat} {t : List Int} (h : Dv (e + 1) t) {w : Int} (w1 : 1 ≤ w) (w2 : w < t.length) : (2 : Int) ∣ t.getD (w - 1).toNat 0 + t.getD w.toNat 0 ∧ Dv e (avg t w) := by
  obtain ⟨x, hx⟩ := h (w - 1).toNat
  obtain ⟨y, hy⟩ := h w.toNat
  have p : ((2 ^ (e + 1) : Nat) : Int) = 2 * ((2 ^ e : Nat) : Int) := by rw [Nat.pow_succ]; omega
  have es : t.getD (w - 1).toNat 0 + t.getD w.toNat 0 = 2 * (((2 ^ e : Nat) : Int) * (x + y)) := by
    rw [hx, hy, p]
    grind
  refine ⟨⟨_, es⟩, fun i => ?_⟩
  unfold PM.avg
  rw [getD_set2 _ _ _ _ _ _ (by omega) (by omega)]
  by_cases c1 : i = (w - 1).toNat ∨ i = w.toNat
  · rw [if_pos c1, es, Int.mul_ediv_cancel_left _ (by decide)]
    exact ⟨_, rfl⟩
  · rw [if_neg c1]
    exact Int.dvd_trans ⟨2, by rw [p, Int.mul_comm]⟩ (h i)
theorem play_any {c : Rat} (ws : List Int) : ∀ {e : Nat} {t : List Int} {q : List Rat}, (∀ w ∈ ws, 1 ≤ w ∧ w < t.length) → Dv (e + ws.length) t → Sc c t q → Sc c (play t ws) (plyQ q ws) ∧ Dv e (play t ws) := by
  induction ws with
  | nil => exact fun _ hd hs => ⟨hs, hd⟩
  | cons w ws ih =>
    intro e t q hw hd hs
    obtain ⟨w1, w2⟩ := hw w (List.mem_cons_self ..)
    obtain ⟨ev, d2⟩ := Dv.avg (e := e + ws.length) hd w1 w2
    exact ih (fun x hx => by rw [avg_len]; exact hw x (List.mem_cons_of_mem _ hx)) d2 (hs.avg w1 w2 ev)
theorem play_apart {c : Rat} (ws : List Int) : ∀ {e b : Nat} {t : List Int} {q : List Rat}, (∀ w ∈ ws, (b : Int) + 1 ≤ w ∧ w < t.length) → ws.Pairwise (fun x y => x + 2 ≤ y) → Dv e t → (∀ i, b ≤ i → ((2 ^ (e + 1) : Nat) : Int) ∣ t.getD i 0) → Sc c t q → Sc c (play t ws) (plyQ q ws) ∧ Dv e (play t ws) := by
  induction ws with
  | nil => exact fun _ _ hd _ hs => ⟨hs, hd⟩
  | cons w ws ih =>
    intro e b t q hw pw hd hu hs
    obtain ⟨w1, w2⟩ := hw w (List.mem_cons_self ..)
    obtain ⟨x, hx⟩ := hu (w - 1).toNat (by omega)
    obtain ⟨y, hy⟩ := hu w.toNat (by omega)
    have p : ((2 ^ (e + 1) : Nat) : Int) = 2 * ((2 ^ e : Nat) : Int) := by rw [Nat.pow_succ]; omega
    have es : t.getD (w - 1).toNat 0 + t.getD w.toNat 0 = 2 * (((2 ^ e : Nat) : Int) * (x + y)) := by
      rw [hx, hy, p]
      grind
    have pw2 := List.pairwise_cons.mp pw
    refine ih (b := (w + 1).toNat) (fun z hz => ?_) pw2.2 (fun i => ?_) (fun i hi => ?_) (hs.avg (by omega) w2 ⟨_, es⟩)
    · rw [avg_len]
      have := pw2.1 z hz
      have := hw z (List.mem_cons_of_mem _ hz)
      omega
    · unfold PM.avg
      rw [getD_set2 _ _ _ _ _ _ (by omega) (by omega)]
      by_cases c1 : i = (w - 1).toNat ∨ i = w.toNat
      · rw [if_pos c1, es, Int.mul_ediv_cancel_left _ (by decide)]
        exact ⟨_, rfl⟩
      · rw [if_neg c1]
        exact hd i
    · unfold PM.avg
      rw [getD_set2 _ _ _ _ _ _ (by omega) (by omega), if_neg (by omega)]
      exact hu i (by omega)
theorem getD_avgQ {q : List Rat} {w : Int} (w1 : 1 ≤ w) (w2 : w < q.length) (i : Nat) : (avgQ q w).getD i 0 = if i = (w - 1).toNat ∨ i = w.toNat then (q.getD (w - 1).toNat 0 + q.getD w.toNat 0) / 2 else q.getD i 0 := by
  unfold avgQ
  rw [getD_set2 _ _ _ _ _ _ (by omega) (by omega)]
/-- what a mean keeps: of all basins -/
theorem plyQ_all (P : Rat → Prop) (hP : ∀ x y, P x → P y → P ((x + y) / 2)) (ws : List Int) : ∀ (q : List Rat), (∀ w ∈ ws, 1 ≤ w ∧ w < q.length) → (∀ i, P (q.getD i 0)) → ∀ i, P ((plyQ q ws).getD i 0) := by
  induction ws with
  | nil => exact fun q _ h => h
  | cons w ws ih =>
    intro q hw h
    obtain ⟨w1, w2⟩ := hw w (List.mem_cons_self ..)
    refine ih (avgQ q w) (fun x hx => by rw [avgQ_len]; exact hw x (List.mem_cons_of_mem _ hx)) fun i => ?_
    rw [getD_avgQ w1 w2]
    split
    · exact hP _ _ (h _) (h _)
    · exact h i
inductive Prt : Int → Int → List (Int × Int) → Prop
  | nil (a : Int) : Prt a a []
  | cons {a c z : Int} {l : List (Int × Int)} : a < c → Prt c z l → Prt a z ((a, c) :: l)
theorem Prt.le {a z : Int} {l : List (Int × Int)} (h : Prt a z l) : a ≤ z := by
  induction h with
  | nil => exact Int.le_refl _
  | cons h _ ih => omega
theorem Prt.mem {a z : Int} {l : List (Int × Int)} (h : Prt a z l) : ∀ p ∈ l, a ≤ p.1 ∧ p.1 < p.2 ∧ p.2 ≤ z := by
  induction h with
  | nil => simp
  | cons h g ih =>
    intro p hp
    have := g.le
    rcases List.mem_cons.mp hp with rfl | hp
    · simp; omega
    · have := ih p hp
      omega
/-- the one part of a basin -/
theorem Prt.one {a z : Int} {l : List (Int × Int)} (h : Prt a z l) {b : Int} (h1 : a ≤ b) (h2 : b < z) : ∃ p ∈ l, p.1 ≤ b ∧ b < p.2 ∧ l.filter (fun p => decide (p.1 ≤ b) && decide (b < p.2)) = [p] := by
  induction h with
  | nil => omega
  | @cons a c z l h g ih =>
    by_cases hb : b < c
    · refine ⟨(a, c), by simp, h1, hb, ?_⟩
      rw [List.filter_cons_of_pos (by simp [h1, hb]), List.filter_eq_nil_iff.mpr]
      intro p hp
      have := g.mem p hp
      simp; omega
    · obtain ⟨p, hp, p1, p2, p3⟩ := ih (by omega) h2
      refine ⟨p, List.mem_cons_of_mem _ hp, p1, p2, ?_⟩
      rw [List.filter_cons_of_neg (by simp; omega), p3]
/-- parts by their ends -/
theorem prt_ends : ∀ (es : List Int) (a n : Int), a < n → (∀ e ∈ es, a < e ∧ e < n) → es.Pairwise (· < ·) → Prt a n ((a :: es).zip (es ++ [n]))
  | [], a, n, h, _, _ => .cons h (.nil n)
  | e :: es, a, n, h, hm, hp => by
    obtain ⟨h1, h2⟩ := hm e (by simp)
    have hp := List.pairwise_cons.mp hp
    exact .cons h1 (prt_ends es e n h2 (fun x hx => ⟨hp.1 x hx, (hm x (List.mem_cons_of_mem _ hx)).2⟩) hp.2)
end PM
end
section
set_option Elab.async false
set_option linter.all false
namespace PM
/-- a row of n basins: what is opened, the ends within -/
structure Rw (n : Nat) (ws es : List Int) : Prop where
  n1 : 1 ≤ n
  w : ∀ w ∈ ws, 1 ≤ w ∧ w < n ∧ w ∉ es
  e : ∀ e ∈ es, 0 < e ∧ e < n
  p : es.Pairwise (· < ·)
def prts (n : Nat) (es : List Int) : List (Int × Int) := ((0 : Int) :: es).zip (es ++ [(n : Int)])
theorem Rw.prt {n : Nat} {ws es : List Int} (h : Rw n ws es) : Prt 0 n (prts n es) := prt_ends es 0 n (by have := h.n1; omega) h.e h.p
def lapQ (ws : List Int) (q : List Rat) : Nat → List Rat
  | 0 => q
  | k + 1 => plyQ (lapQ ws q k) ws
theorem lapQ_len (ws : List Int) (q : List Rat) : ∀ k, (lapQ ws q k).length = q.length
  | 0 => rfl
  | k + 1 => (plyQ_len ws _).trans (lapQ_len ws q k)
theorem lapQ_rep (ws : List Int) (q : List Rat) : ∀ k, plyQ q (List.replicate k ws).flatten = lapQ ws q k
  | 0 => rfl
  | k + 1 => by
    have : (List.replicate (k + 1) ws).flatten = (List.replicate k ws).flatten ++ ws := by
      rw [List.replicate_succ']
      simp
    rw [this, plyQ_app, lapQ_rep ws q k]
    rfl
theorem Rw.part {n : Nat} {ws es : List Int} (h : Rw n ws es) {b : Nat} (hb : b < n) : ∃ p ∈ prts n es, p.1 ≤ b ∧ (b : Int) < p.2 ∧ 0 ≤ p.1 ∧ p.2 ≤ n ∧ (prts n es).filter (fun p => decide (p.1 ≤ (b : Int)) && decide ((b : Int) < p.2)) = [p] := by
  obtain ⟨p, hp, p1, p2, p3⟩ := h.prt.one (b := b) (by omega) (by omega)
  have := h.prt.mem p hp
  exact ⟨p, hp, p1, p2, by omega, by omega, p3⟩
end PM
end
section
set_option Elab.async false
set_option linter.all false
set_option maxRecDepth 100000
set_option maxHeartbeats 2000000
set_option exponentiation.threshold 10000
namespace PM
open PySem L2
def hv1 (n : Int) : Rd → Nat
  | .ev _ _ => 1
  | _ => (n - 1).toNat
def hvs (rs : List Rd) (n : Int) : Nat := (rs.map (hv1 n)).sum
theorem hvs_le (rs : List Rd) {n : Int} (h : 1 ≤ n) : hvs rs n ≤ rs.length * n.toNat := by
  induction rs with
  | nil => simp [hvs]
  | cons r rs ih =>
    have e : hvs (r :: rs) n = hv1 n r + hvs rs n := rfl
    have h1 : hv1 n r ≤ n.toNat := by cases r <;> simp [hv1] <;> omega
    rw [e, List.length_cons, Nat.succ_mul]
    omega
theorem natsum_int (l : List Nat) : ((l.map fun n : Nat => (n : Int)).sum) = ((l.sum : Nat) : Int) := by
  induction l with
  | nil => rfl
  | cons a l ih => simp [ih]
theorem m_halvings_ok {rs : List Rd} {x : D} (hx : IsSeq (rs.map Rd.d) x) (hl : rs.length ≤ 1000) {n : Int} (h1 : 1 ≤ n) (S : Sto) : m_halvings [x, .int n] S = .ok (.int (hvs rs n)) S := by
  have d : ∀ a : String, dIn false (.str a) (.tup [.str "right", .str "left"]) S = .ok (.bl (decide ((.str a : D) ∈ [D.str "right", .str "left"]))) S := fun a => dIn_tup false S rfl (by simp) (by simp)
  have lc := lcGo_all (tg := gN 2) (m := eIf (tOf (e2 (dIn false) (e2 dIx (eVar 2) (eC (.int 0))) (eA dTup (aCons (eC (.str "right")) (aCons (eC (.str "left")) aNil))))) (e2 dSub (eVar 1) (eC (.int 1))) (eC (.int 1))) (e0 := ⟨[some x, some (.int n), none], none⟩) (S := S) Rd.d (fun r => D.int (hv1 n r)) rs fun r hr => by
    refine ⟨_, rfl, ?_⟩
    cases r with
    | right => simp -implicitDefEqProofs [Rd.d, d, hv1]; omega
    | left => simp -implicitDefEqProofs [Rd.d, d, hv1]; omega
    | ev a b => simp -implicitDefEqProofs [Rd.d, d, hv1]
  have c1 : rs.length ≤ 100000 := by omega
  have e := natsum_int (rs.map (hv1 n))
  rw [List.map_map] at e
  have e2 : (rs.map fun r => ((hv1 n r : Nat) : Int)).sum = ((hvs rs n : Nat) : Int) := e
  simp -implicitDefEqProofs [m_halvings, b_halvings, hx.itm, oM, lc, c1, dSum, e2]
theorem atI_int {t : List Int} {i : Int} (h0 : 0 ≤ i) (h1 : i < t.length) : atI (t.map D.int) i = some (.int (t.getD i.toNat 0)) := by
  refine atI_pos h0 ?_
  rw [List.getElem?_map, List.getD_eq_getElem?_getD, List.getElem?_eq_getElem (by omega)]
  rfl
theorem ixN_of {n : Nat} {i : Int} (h0 : 0 ≤ i) (h1 : i < n) : ixN n i = some i.toNat := by
  unfold ixN
  rw [if_pos h0, if_pos (by omega)]
theorem app2_get (S : Sto) (c d : Cell) : (S ++ [c, d])[S.length]? = some c := by simp
theorem app2_set (S : Sto) (c d e : Cell) : (S ++ [c, d]).set S.length e = S ++ [e, d] := by simp [List.set_append]
theorem app1_set (S : Sto) (c e : Cell) : (S ++ [c]).set S.length e = S ++ [e] := by simp [List.set_append]
theorem avg_sets (t : List Int) (w : Int) : ((t.map D.int).set (w - 1).toNat (.int ((t.getD (w - 1).toNat 0 + t.getD w.toNat 0) / 2))).set w.toNat (.int ((t.getD (w - 1).toNat 0 + t.getD w.toNat 0) / 2)) = (avg t w).map D.int := by
  simp [avg, List.map_set]
theorem opn_in {rs : List Rd} {n w : Int} (h : w ∈ opn rs n) : 1 ≤ w ∧ w < n := (mem_opn.mp h).1
theorem m_evened_ok {rs : List Rd} {x y : D} {ts : List Int} (hx : IsSeq (rs.map Rd.d) x) (hl : rs.length ≤ 12) (hr : ∀ r ∈ rs, r.ok) (hy : IsSeq (ts.map .int) y) (h1 : 1 ≤ ts.length) (h2 : ts.length ≤ 400) (S : Sto) :
    m_evened [x, y] S = .ok (.lst ((play ts (opn rs ts.length)).map .int)) (S ++ [.dead, .dead]) := by
  have o := fun S => m_openings_ok hx hl hr (n := ts.length) (by omega) (by omega) S
  have c1 : ts.length ≤ 100000 := by omega
  simp -implicitDefEqProofs [m_evened, b_evened, hy.rdQ, c1, o]
  refine forGo_rule (G := fun o => toOut (o.andThen _) = .ok (.lst ((play ts (opn rs ts.length)).map .int)) (S ++ [.dead, .dead])) (fun i e S' => S' = S ++ [.lst ((play ts ((opn rs ts.length).take i)).map .int), .dead] ∧ ∃ a, e = ⟨[some x, some y, some (.ptr S.length), a], none⟩) ?_ ?_ ?_
  · exact ⟨by simp [play], _, rfl⟩
  · rintro i d e S' hi ⟨rfl, a, rfl⟩
    rw [List.getElem?_map] at hi
    cases q : (opn rs ts.length)[i]? with
    | none => simp [q] at hi
    | some w =>
      simp [q] at hi
      subst hi
      obtain ⟨w1, w2⟩ := opn_in (List.mem_of_getElem? q)
      have et : play ts ((opn rs ts.length).take (i + 1)) = avg (play ts ((opn rs ts.length).take i)) w := by
        rw [List.take_add_one, q, play_app]
        rfl
      rw [et]
      have tl := play_len ((opn rs ts.length).take i) ts
      generalize play ts ((opn rs ts.length).take i) = t at *
      have a1 := atI_int (t := t) (i := w - 1) (by omega) (by omega)
      have a2 := atI_int (t := t) (i := w) (by omega) (by omega)
      have i1 := ixN_of (n := t.length) (i := w - 1) (by omega) (by omega)
      have i2 := ixN_of (n := t.length) (i := w) (by omega) (by omega)
      have as := avg_sets t w
      refine ⟨rfl, _, rfl, ?_⟩
      simp -implicitDefEqProofs [app2_get, app2_set, a1, a2, i1, i2, dSet, cellL, oM, putL]
      simpa using as
  · rintro e S' ⟨rfl, a, rfl⟩
    simp -implicitDefEqProofs [sFrz, setS, app2_get, app2_set]
theorem law_play_ok {rs : List Rd} {x y : D} {ts : List Int} (hx : IsSeq (rs.map Rd.d) x) (hl : rs.length ≤ 40) (hr : ∀ r ∈ rs, r.ok) (hy : IsSeq (ts.map .int) y) (h1 : 1 ≤ ts.length) (h2 : ts.length ≤ 400) (S : Sto) :
    m__law_play [x, y] S = .ok (.lst ((play ts (opn rs ts.length)).map .int)) (S ++ [.dead]) := by
  have o := fun S => law_order_ok hx hl hr (n := ts.length) (by omega) (by omega) S
  have c1 : ts.length ≤ 100000 := by omega
  simp -implicitDefEqProofs [m__law_play, b__law_play, hy.rdQ, c1, o]
  refine forGo_rule (G := fun o => toOut (o.andThen _) = .ok (.lst ((play ts (opn rs ts.length)).map .int)) (S ++ [.dead])) (fun i e S' => S' = S ++ [.lst ((play ts ((opn rs ts.length).take i)).map .int)] ∧ ∃ a b, e = ⟨[some x, some y, some (.ptr S.length), a, b], none⟩) ?_ ?_ ?_
  · exact ⟨by simp [play], _, _, rfl⟩
  · rintro i d e S' hi ⟨rfl, a, b, rfl⟩
    rw [List.getElem?_map] at hi
    cases q : (opn rs ts.length)[i]? with
    | none => simp [q] at hi
    | some w =>
      simp [q] at hi
      subst hi
      obtain ⟨w1, w2⟩ := opn_in (List.mem_of_getElem? q)
      have et : play ts ((opn rs ts.length).take (i + 1)) = avg (play ts ((opn rs ts.length).take i)) w := by
        rw [List.take_add_one, q, play_app]
        rfl
      rw [et]
      have tl := play_len ((opn rs ts.length).take i) ts
      generalize play ts ((opn rs ts.length).take i) = t at *
      have a1 := atI_int (t := t) (i := w - 1) (by omega) (by omega)
      have a2 := atI_int (t := t) (i := w) (by omega) (by omega)
      have i1 := ixN_of (n := t.length) (i := w - 1) (by omega) (by omega)
      have i2 := ixN_of (n := t.length) (i := w) (by omega) (by omega)
      have as := avg_sets t w
      refine ⟨rfl, _, rfl, ?_⟩
      simp -implicitDefEqProofs [app1_set, a1, a2, i1, i2, dSet, cellL, oM, putL]
      simpa using as
  · rintro e S' ⟨rfl, a, b, rfl⟩
    simp -implicitDefEqProofs [sFrz, setS, app1_set]
theorem wrs_in {r : Rd} {n w : Int} (h : w ∈ wrs r n) : 1 ≤ w ∧ w < n := (mem_wrs.mp h).1
theorem ev_pw (n a b : Int) (ha : 2 ≤ a) : (wrs (.ev a b) n).Pairwise (fun x y => x + 2 ≤ y) := by
  have h1 : (rng 1 n).Pairwise (fun x y => x < y) := by
    unfold rng
    rw [List.pairwise_map]
    exact List.pairwise_lt_range.imp fun {a b} h => by omega
  have h2 := h1.filter fun w => decide (w % a = b)
  refine List.Pairwise.imp_of_mem (fun {x y} hx hy hxy => ?_) h2
  have e1 := of_decide_eq_true (List.mem_filter.mp hx).2
  have e2 := of_decide_eq_true (List.mem_filter.mp hy).2
  have d : a ∣ y - x := Int.dvd_of_emod_eq_zero (Int.emod_eq_emod_iff_emod_sub_eq_zero.mp (e2.trans e1.symm))
  have := Int.le_of_dvd (by omega) d
  omega
theorem play_one {c : Rat} {e : Nat} {r : Rd} {t : List Int} {q : List Rat} (ho : r.ok) (hd : Dv (e + hv1 t.length r) t) (hs : Sc c t q) : Sc c (play t (wrs r t.length)) (plyQ q (wrs r t.length)) ∧ Dv e (play t (wrs r t.length)) := by
  cases r with
  | right => exact play_any _ (fun w hw => wrs_in hw) (by simpa [wrs, hv1] using hd) hs
  | left => exact play_any _ (fun w hw => wrs_in hw) (by simpa [wrs, hv1] using hd) hs
  | ev a b =>
    refine play_apart (b := 0) _ (fun w hw => ?_) (ev_pw _ a b ho.1) (fun i => ?_) (fun i _ => hd i) hs
    · have := wrs_in hw
      omega
    · refine Int.dvd_trans ⟨2, ?_⟩ (hd i)
      show ((2 ^ (e + 1) : Nat) : Int) = _
      rw [Nat.pow_succ]
      omega
theorem play_ops {c : Rat} : ∀ {rs : List Rd} {e : Nat} {t : List Int} {q : List Rat}, (∀ r ∈ rs, r.ok) → Dv (e + hvs rs t.length) t → Sc c t q → Sc c (play t (opn rs t.length)) (plyQ q (opn rs t.length)) ∧ Dv e (play t (opn rs t.length))
  | [], e, t, q, _, hd, hs => ⟨hs, hd⟩
  | r :: rs, e, t, q, ho, hd, hs => by
    have e1 : opn (r :: rs) t.length = wrs r t.length ++ opn rs t.length := rfl
    rw [e1, play_app, plyQ_app]
    have h := play_one (e := e + hvs rs t.length) (ho r (List.mem_cons_self ..)) (by
      have e2 : hvs (r :: rs) t.length = hv1 t.length r + hvs rs t.length := rfl
      rw [e2] at hd
      rw [show e + hvs rs t.length + hv1 t.length r = e + (hv1 t.length r + hvs rs t.length) from by omega]
      exact hd) hs
    have := play_ops (rs := rs) (e := e) (t := play t (wrs r t.length)) (fun x hx => ho x (List.mem_cons_of_mem _ hx)) (by rw [play_len]; exact h.2) h.1
    rw [play_len] at this
    exact this
def lapI (ws : List Int) (t : List Int) : Nat → List Int
  | 0 => t
  | k + 1 => play (lapI ws t k) ws
theorem lapI_len (ws t : List Int) : ∀ k, (lapI ws t k).length = t.length
  | 0 => rfl
  | k + 1 => (play_len ws _).trans (lapI_len ws t k)
theorem lapI_rep (ws t : List Int) : ∀ k, play t (List.replicate k ws).flatten = lapI ws t k
  | 0 => rfl
  | k + 1 => by
    have : (List.replicate (k + 1) ws).flatten = (List.replicate k ws).flatten ++ ws := by
      rw [List.replicate_succ']
      simp
    rw [this, play_app, lapI_rep ws t k]
    rfl
theorem opn_rep (rs : List Rd) (n : Int) : ∀ k, opn (List.replicate k rs).flatten n = (List.replicate k (opn rs n)).flatten
  | 0 => rfl
  | k + 1 => by
    have ih := opn_rep rs n k
    unfold opn at ih ⊢
    rw [List.replicate_succ, List.flatten_cons, List.flatMap_append, ih, List.replicate_succ, List.flatten_cons]
theorem lap_ops {c : Rat} {rs : List Rd} {t : List Int} {q : List Rat} (ho : ∀ r ∈ rs, r.ok) {n : Nat} (hn : t.length = n) : ∀ (k e : Nat), Dv (e + hvs rs n * k) t → Sc c t q → Sc c (lapI (opn rs n) t k) (lapQ (opn rs n) q k) ∧ Dv e (lapI (opn rs n) t k)
  | 0, e, hd, hs => ⟨hs, hd⟩
  | k + 1, e, hd, hs => by
    have ih := lap_ops (c := c) ho hn k (e + hvs rs n) (by
      rw [Nat.mul_succ] at hd
      rw [show e + hvs rs n + hvs rs n * k = e + (hvs rs n * k + hvs rs n) by omega]
      exact hd) hs
    have l := lapI_len (opn rs n) t k
    have := play_ops (c := c) (rs := rs) (e := e) (t := lapI (opn rs n) t k) ho (by rw [l, hn]; exact ih.2) ih.1
    rw [l, hn] at this
    exact this
/-- whole numbers, by a power of two -/
def ups (vs : List Int) (j : Nat) : List Int := vs.map fun v => v * ((2 ^ j : Nat) : Int)
def ofI (vs : List Int) : List Rat := vs.map fun v : Int => (v : Rat)
theorem ofI_len (vs : List Int) : (ofI vs).length = vs.length := by simp [ofI]
theorem ups_len (vs : List Int) (j : Nat) : (ups vs j).length = vs.length := by simp [ups]
theorem getD_map0 {α β : Type} (f : α → β) (l : List α) (i : Nat) (x : α) (y : β) (h : f x = y) : (l.map f).getD i y = f (l.getD i x) := by
  rw [List.getD_eq_getElem?_getD, List.getD_eq_getElem?_getD, List.getElem?_map]
  cases l[i]? with
  | none => exact h.symm
  | some a => rfl
theorem ups_sc (vs : List Int) (j : Nat) : Sc (((2 ^ j : Nat) : Int) : Rat) (ups vs j) (ofI vs) := by
  refine ⟨by rw [ups_len, ofI_len], fun i => ?_⟩
  unfold ups ofI
  rw [getD_map0 (fun v => v * ((2 ^ j : Nat) : Int)) vs i 0 0 (Int.zero_mul _), getD_map0 (fun v : Int => (v : Rat)) vs i 0 0 rfl, Rat.intCast_mul]
theorem ups_dv (vs : List Int) (j : Nat) : Dv j (ups vs j) := fun i => by
  unfold ups
  rw [getD_map0 (fun v => v * ((2 ^ j : Nat) : Int)) vs i 0 0 (Int.zero_mul _)]
  exact ⟨_, Int.mul_comm _ _⟩
theorem Dv.le {e f : Nat} {t : List Int} (h : Dv f t) (he : e ≤ f) : Dv e t := fun i => Int.dvd_trans (Int.ofNat_dvd.mpr (Nat.pow_dvd_pow 2 he)) (h i)
/-- behind k laps: by the program's number or the law's -/
theorem lap_ups {rs : List Rd} (ho : ∀ r ∈ rs, r.ok) (vs : List Int) {j k : Nat} (hj : hvs rs vs.length * k ≤ j) : Sc (((2 ^ j : Nat) : Int) : Rat) (lapI (opn rs vs.length) (ups vs j) k) (lapQ (opn rs vs.length) (ofI vs) k) :=
  (lap_ops ho (ups_len vs j) k 0 ((ups_dv vs j).le (by omega)) (ups_sc vs j)).1
theorem Sc.part {j : Nat} {t : List Int} {q : List Rat} (h : Sc (((2 ^ j : Nat) : Int) : Rat) t q) : t.map (fun x : Int => fr ((x : Rat) / ((((2 ^ j : Nat) : Int) : Int) : Rat))) = q.map fr := by
  refine List.ext_getElem (by simp [h.len]) fun i h1 h2 => ?_
  simp only [List.getElem_map]
  have h1 : i < t.length := by simpa using h1
  have h2 : i < q.length := by simpa using h2
  have a := h.at_ i
  simp only [List.getD_eq_getElem?_getD, List.getElem?_eq_getElem h1, List.getElem?_eq_getElem h2, Option.getD_some] at a
  have p : (((2 ^ j : Nat) : Int) : Rat) ≠ 0 := cast_ne (by
    have := Nat.two_pow_pos j
    omega)
  rw [a]
  congr 1
  grind
end PM
end
section
set_option Elab.async false
set_option linter.all false
set_option maxRecDepth 100000
set_option maxHeartbeats 2000000
set_option exponentiation.threshold 10000
namespace PM
open PySem L2
/-- gives d; what stood there stays -/
def Ext (m : List D → M D) (ds : List D) (d : D) : Prop := ∀ S, ∃ T, m ds S = .ok d (S ++ T)
noncomputable def tl (m : List D → M D) (ds : List D) (S : Sto) : Sto := match m ds S with
  | .ok _ S' => S'.drop S.length
  | _ => []
theorem Ext.eq {m : List D → M D} {ds : List D} {d : D} (h : Ext m ds d) (S : Sto) : m ds S = .ok d (S ++ tl m ds S) := by
  obtain ⟨T, e⟩ := h S
  unfold tl
  rw [e]
  simp
theorem ap_get (S : Sto) (c : Cell) (T : Sto) : (S ++ c :: T)[S.length]? = some c := by simp
theorem ap_set (S : Sto) (c e : Cell) (T : Sto) : (S ++ c :: T).set S.length e = S ++ e :: T := by simp [List.set_append]
theorem p2 (j : Nat) : (((2 ^ j : Nat) : Int)) = (2 : Int) ^ j := Int.natCast_pow ..
theorem ups_eq (vs : List Int) (j : Nat) : ups vs j = vs.map fun v => v * (2 : Int) ^ j := by
  unfold ups
  simp only [p2]
theorem pow_toNat (j : Nat) : ((2 : Int) ^ j).toNat = 2 ^ j := by
  rw [← p2]
  exact Int.toNat_natCast _
theorem pow_pos' (j : Nat) : (0 : Int) < (2 : Int) ^ j := by
  rw [← p2]
  have := Nat.two_pow_pos j
  omega
theorem m_is_fraction_int (i : Int) (S : Sto) : m_is_fraction [.int i] S = .ok (.bl true) S := by
  simp -implicitDefEqProofs [m_is_fraction, b_is_fraction, dIs_ap [] _ (.int i) S (k := .inl "int") rfl rfl, isK, kitP, m_is_integer_int]
theorem flat_len (rs : List Rd) (L : Nat) : ((List.replicate L rs).flatten).length = L * rs.length := by simp
theorem flat_ok {rs : List Rd} (hr : ∀ r ∈ rs, r.ok) (L : Nat) : ∀ r ∈ (List.replicate L rs).flatten, r.ok := fun r h => by
  obtain ⟨l, h1, h2⟩ := List.mem_flatten.mp h
  rw [(List.mem_replicate.mp h1).2] at h2
  exact hr r h2
end PM
end
section
set_option Elab.async false
set_option linter.all false
set_option maxRecDepth 100000
set_option maxHeartbeats 2000000
namespace PM
open PySem L2
def fig (x : Int) (a size : Nat) : Int := Builtin.bitAnd (x / 2 ^ (a * size)) (2 ^ size - 1)
theorem bits_one : Builtin.Int.intBits 1 = 1 := by decide +kernel
theorem fs_end {α β : Type} {f : α → Option β} {l : List α} (h : (l.take l.length).findSome? f = none) : l.findSome? f = none := by rwa [List.take_length] at h
/-- nothing among the first i -/
structure Pre {α β : Type} (l : List α) (f : α → Option β) (i : Nat) : Prop where
  n : (l.take i).findSome? f = none
theorem Pre.all {α β : Type} {l : List α} {f : α → Option β} {n : Nat} (h : Pre l f n) (e : n = l.length) : l.findSome? f = none := fs_end (e ▸ h.n)
def apIn (h t : List Int) (size a : Nat) : Option Nat := (List.range h.length).findSome? fun p => if fig (h.getD p 0) a size = fig (t.getD p 0) a size then none else some p
def apOut (h t : List Int) (size a : Nat) : Option (Nat × Nat) := (apIn h t size a).map fun p => (a, p)
def ap (h t : List Int) (size : Nat) : Option (Nat × Nat) := (List.range 16).findSome? (apOut h t size)
theorem rangeD_nat (n : Nat) : rangeD 0 n = (List.range n).map fun (k : Nat) => D.int k := by
  unfold rangeD
  rw [Int.sub_zero, Int.toNat_natCast]
  exact List.map_congr_left fun k _ => by rw [Int.zero_add]
theorem get_nat {n i : Nat} {d : D} (h : ((List.range n).map fun (k : Nat) => D.int k)[i]? = some d) : i < n ∧ d = .int i ∧ (List.range n)[i]? = some i := by
  rw [List.getElem?_map] at h
  cases q : (List.range n)[i]? with
  | none =>
    rw [q] at h
    cases h
  | some k =>
    have hi := (List.getElem?_eq_some_iff.mp q).1
    rw [List.length_range] at hi
    rw [List.getElem?_range hi] at q
    cases q
    rw [List.getElem?_range hi] at h
    cases h
    exact ⟨hi, rfl, rfl⟩
end PM
end
section
set_option Elab.async false
set_option linter.all false
set_option maxRecDepth 100000
set_option maxHeartbeats 2000000
set_option exponentiation.threshold 10000
namespace PM
open PySem L2
/-- figures of so many basins from first on, k of them laid -/
def pkv (o size first k i : Nat) : Int := if first ≤ i ∧ i < first + k then 2 ^ (o + (i - first) * size) else 0
def pk (n o size first k : Nat) : List Int := (List.range n).map (pkv o size first k)
end PM
end
section
set_option Elab.async false
set_option linter.all false
set_option maxRecDepth 100000
namespace PM
open PySem L2
end PM
end
section
set_option Elab.async false
set_option linter.all false
set_option maxRecDepth 100000
set_option maxHeartbeats 2000000
set_option exponentiation.threshold 10000
namespace PM
open PySem L2
theorem rng1 (n : Nat) : rangeD 1 ((n : Int) + 1) = (List.range n).map fun (k : Nat) => D.int (((k + 1 : Nat)) : Int) := by
  unfold rangeD
  rw [show ((n : Int) + 1 - 1).toNat = n by omega]
  exact List.map_congr_left fun k _ => by
    congr 1
    omega
end PM
end
section
set_option Elab.async false
set_option linter.all false
set_option maxRecDepth 100000
set_option maxHeartbeats 2000000
set_option exponentiation.threshold 10000
namespace PM
open PySem L2
theorem bits_lt {v : Int} (h : v.natAbs < 2 ^ 64) : (Builtin.Int.intBits v : Int) ≤ 1000 := by
  have := lg_of h (show 0 < 64 by decide)
  unfold Builtin.Int.intBits
  split
  · decide
  · omega
/-- a round the other way -/
def tnd : Rd → Rd
  | .right => .left
  | .left => .right
  | r => r
def tb (rs : List Rd) : List Rd := rs.reverse.map tnd
/-- the volumes that a basin gives -/
def unV (n b : Nat) : List Int := (List.range n).map fun i => if i = b then 1 else 0
theorem unV_b (n b : Nat) : ∀ v ∈ unV n b, v.natAbs < 2 ^ 64 := fun v h => by
  obtain ⟨i, _, rfl⟩ := List.mem_map.mp h
  split <;> decide
end PM
end
section
set_option Elab.async false
set_option linter.all false
set_option maxRecDepth 100000
set_option maxHeartbeats 2000000
namespace PM
open PySem L2
def avgF (f : Nat → Rat) (w : Int) : Nat → Rat := fun i => if i = (w - 1).toNat ∨ i = w.toNat then (f (w - 1).toNat + f w.toNat) / 2 else f i
def plyF (f : Nat → Rat) (ws : List Int) : Nat → Rat := ws.foldl avgF f
def getF (q : List Rat) : Nat → Rat := fun i => q.getD i 0
/-- weirs of a row of n basins -/
def Wi (n : Nat) (ws : List Int) : Prop := ∀ w ∈ ws, 1 ≤ w ∧ w < n
theorem plyF_cons (f : Nat → Rat) (w : Int) (ws : List Int) : plyF f (w :: ws) = plyF (avgF f w) ws := rfl
theorem plyF_app (f : Nat → Rat) (a b : List Int) : plyF f (a ++ b) = plyF (plyF f a) b := List.foldl_append
theorem getF_avg {q : List Rat} {w : Int} (w1 : 1 ≤ w) (w2 : w < q.length) : getF (avgQ q w) = avgF (getF q) w := funext fun i => getD_avgQ w1 w2 i
theorem getF_ply : ∀ (ws : List Int) (q : List Rat), Wi q.length ws → getF (plyQ q ws) = plyF (getF q) ws
  | [], _, _ => rfl
  | w :: ws, q, h => by
    show getF (plyQ (avgQ q w) ws) = _
    have h1 := h w (List.mem_cons_self ..)
    rw [getF_ply ws (avgQ q w) (by rw [avgQ_len]; exact fun x hx => h x (List.mem_cons_of_mem _ hx)), getF_avg h1.1 h1.2]
    rfl
theorem avgF_lin (s t : Rat) (f g : Nat → Rat) (w : Int) : avgF (fun i => s * f i + t * g i) w = fun i => s * avgF f w i + t * avgF g w i := by
  funext i
  unfold avgF
  split <;> grind
theorem plyF_lin (s t : Rat) : ∀ (ws : List Int) (f g : Nat → Rat), plyF (fun i => s * f i + t * g i) ws = fun i => s * plyF f ws i + t * plyF g ws i
  | [], _, _ => rfl
  | w :: ws, f, g => by
    rw [plyF_cons, avgF_lin, plyF_lin s t ws]
    rfl
theorem plyF_sm (ws : List Int) (c : Nat → Rat) (u : Nat → Nat → Rat) (k : Nat) : plyF (fun i => sm k fun a => c a * u a i) ws = fun i => sm k fun a => c a * plyF (u a) ws i := by
  induction k with
  | zero =>
    have : (fun i : Nat => sm 0 fun a => c a * u a i) = fun i => 0 * (fun _ => (0 : Rat)) i + 0 * (fun _ => (0 : Rat)) i := by
      funext i
      rw [sm_zero]
      grind
    rw [this, plyF_lin]
    funext i
    rw [sm_zero]
    grind
  | succ k ih =>
    have : (fun i : Nat => sm (k + 1) fun a => c a * u a i) = fun i => 1 * (fun i => sm k fun a => c a * u a i) i + c k * u k i := by
      funext i
      rw [sm_succ]
      grind
    rw [this, plyF_lin, ih]
    funext i
    rw [sm_succ]
    grind
/-- plays look at what stands below n only -/
theorem plyF_cong {n : Nat} : ∀ (ws : List Int) {f g : Nat → Rat}, Wi n ws → (∀ i, i < n → f i = g i) → ∀ i, i < n → plyF f ws i = plyF g ws i
  | [], _, _, _, h => h
  | w :: ws, f, g, hw, h => by
    refine plyF_cong ws (fun x hx => hw x (List.mem_cons_of_mem _ hx)) fun i hi => ?_
    have := hw w (List.mem_cons_self ..)
    unfold avgF
    rw [h _ (show (w - 1).toNat < n by omega), h _ (show w.toNat < n by omega), h i hi]
/-- a play by those of units -/
theorem plyF_units {n : Nat} (f : Nat → Rat) (ws : List Int) (hw : Wi n ws) {i : Nat} (hi : i < n) : plyF f ws i = sm n fun a => f a * plyF (eF a) ws i := by
  have := plyF_cong ws (g := fun i => sm n fun a => f a * eF a i) hw (fun i hi => (sm_unit f hi).symm) i hi
  rw [this, plyF_sm]
theorem snoc_ind {α : Type} {P : List α → Prop} (h0 : P []) (h1 : ∀ l a, P l → P (l ++ [a])) (l : List α) : P l := by
  rw [← List.reverse_reverse l]
  induction l.reverse with
  | nil => exact h0
  | cons a l ih => rw [List.reverse_cons]; exact h1 _ _ ih
theorem avgF_comm (f : Nat → Rat) {v w : Int} (h1 : 1 ≤ v) (h2 : v + 2 ≤ w) : avgF (avgF f v) w = avgF (avgF f w) v := by
  funext i
  unfold avgF
  have a1 : ¬ ((w - 1).toNat = (v - 1).toNat ∨ (w - 1).toNat = v.toNat) := by omega
  have a2 : ¬ (w.toNat = (v - 1).toNat ∨ w.toNat = v.toNat) := by omega
  have a3 : ¬ ((v - 1).toNat = (w - 1).toNat ∨ (v - 1).toNat = w.toNat) := by omega
  have a4 : ¬ (v.toNat = (w - 1).toNat ∨ v.toNat = w.toNat) := by omega
  simp only [if_neg a1, if_neg a2, if_neg a3, if_neg a4]
  by_cases c : i = (w - 1).toNat ∨ i = w.toNat
  · have d : ¬ (i = (v - 1).toNat ∨ i = v.toNat) := by omega
    simp only [if_pos c, if_neg d]
  · simp only [if_neg c]
theorem plyF_late (ws : List Int) : ∀ (f : Nat → Rat) (w : Int), 1 ≤ w → (∀ x ∈ ws, w + 2 ≤ x) → plyF f (w :: ws) = plyF f (ws ++ [w]) := by
  induction ws with
  | nil => intros; rfl
  | cons x ws ih =>
    intro f w h1 h2
    have hx := h2 x (List.mem_cons_self ..)
    show plyF (avgF (avgF f w) x) ws = plyF (avgF f x) (ws ++ [w])
    rw [avgF_comm f h1 hx, ← ih (avgF f x) w h1 fun y hy => h2 y (List.mem_cons_of_mem _ hy)]
    rfl
theorem opn_wi (rs : List Rd) (n : Nat) : Wi n (opn rs n) := fun w h => opn_in h
end PM
end
section
set_option Elab.async false
set_option linter.all false
set_option maxRecDepth 100000
set_option maxHeartbeats 2000000
set_option exponentiation.threshold 10000
namespace PM
open PySem L2
/-- the share of basin i of the water of basin b -/
def ent (rs : List Rd) (n b i : Nat) : Rat := plyF (eF b) (opn rs n) i
end PM
end
section
set_option Elab.async false
set_option linter.all false
set_option maxRecDepth 100000
set_option maxHeartbeats 2000000
set_option exponentiation.threshold 10000
namespace PM
open PySem L2
/-- alike up to here -/
def likeTo (rs ss : List Rd) (n b : Nat) : Prop := ∀ b', b' < b → ∀ i, i < n → ent rs n b' i = ent ss n b' i
def Like (rs ss : List Rd) (n : Nat) : Prop := likeTo rs ss n n
end PM
end
section
set_option Elab.async false
set_option linter.all false
set_option maxRecDepth 100000
set_option maxHeartbeats 2000000
set_option exponentiation.threshold 10000
namespace PM
open PySem L2
end PM
end
section
set_option Elab.async false
set_option linter.all false
set_option maxRecDepth 100000
set_option maxHeartbeats 2000000
namespace PM
open PySem L2
theorem avg_fix {f : Nat → Rat} {w : Int} (h : f (w - 1).toNat = f w.toNat) : avgF f w = f := by
  funext i
  unfold avgF
  split
  · rename_i c
    rcases c with rfl | rfl <;> grind
  · rfl
theorem ply_fix {f : Nat → Rat} : ∀ (ws : List Int), (∀ w ∈ ws, f (w - 1).toNat = f w.toNat) → plyF f ws = f
  | [], _ => rfl
  | w :: ws, h => by
    rw [plyF_cons, avg_fix (h w (List.mem_cons_self ..)), ply_fix ws fun x hx => h x (List.mem_cons_of_mem _ hx)]
theorem ply_out {i : Nat} : ∀ (ws : List Int) (f : Nat → Rat), (∀ w ∈ ws, ¬ (i = (w - 1).toNat ∨ i = w.toNat)) → plyF f ws i = f i
  | [], _, _ => rfl
  | w :: ws, f, h => by
    rw [plyF_cons, ply_out ws _ fun x hx => h x (List.mem_cons_of_mem _ hx)]
    unfold avgF
    rw [if_neg (h w (List.mem_cons_self ..))]
theorem opn_app (rs ss : List Rd) (n : Int) : opn (rs ++ ss) n = opn rs n ++ opn ss n := List.flatMap_append
end PM
end
section
set_option Elab.async false
set_option linter.all false
set_option maxRecDepth 100000
set_option maxHeartbeats 2000000
namespace PM
open PySem L2
abbrev Pd := Nat → Bool
/-- weirs from 1 to m that p opens -/
def rd (p : Pd) : Nat → List Int
  | 0 => []
  | m + 1 => rd p m ++ if p (m + 1) then [((m + 1 : Nat) : Int)] else []
/-- what is done at time d -/
def blk : List Pd → Nat → List Int
  | [], _ => []
  | _ :: _, 0 => []
  | p :: ps, d + 1 => (if p (d + 1) then [((d + 1 : Nat) : Int)] else []) ++ blk ps d
/-- up to time d -/
def runD (ps : List Pd) : Nat → List Int
  | 0 => []
  | d + 1 => runD ps d ++ blk ps (d + 1)
theorem rd_mem {p : Pd} {w : Int} : ∀ {m : Nat}, w ∈ rd p m → 1 ≤ w ∧ w ≤ m
  | 0, h => by cases h
  | m + 1, h => by
    rcases List.mem_append.mp h with h | h
    · have := rd_mem h
      omega
    · split at h
      · have := List.mem_singleton.mp h
        omega
      · cases h
theorem blk_mem {w : Int} : ∀ {ps : List Pd} {d : Nat}, w ∈ blk ps d → 1 ≤ w ∧ w ≤ d ∧ (d : Int) + 1 ≤ w + ps.length
  | [], _, h => by cases h
  | _ :: _, 0, h => by cases h
  | p :: ps, d + 1, h => by
    rcases List.mem_append.mp h with h | h
    · split at h
      · have := List.mem_singleton.mp h
        rw [List.length_cons]
        omega
      · cases h
    · have := blk_mem h
      rw [List.length_cons]
      omega
theorem blk_snoc (p : Pd) : ∀ (ps : List Pd) (d : Nat), blk (ps ++ [p]) d = blk ps d ++ (if ps.length < d ∧ p (d - ps.length) = true then [((d - ps.length : Nat) : Int)] else [])
  | [], 0 => by
    show [] = [] ++ _
    rw [if_neg (by simp)]
    rfl
  | [], d + 1 => by
    show (if p (d + 1) = true then [((d + 1 : Nat) : Int)] else []) ++ blk [] d = [] ++ _
    by_cases h : p (d + 1) = true
    · rw [if_pos h, if_pos ⟨by simp, by simpa using h⟩]
      rfl
    · rw [if_neg h, if_neg fun z => h (by simpa using z.2)]
      rfl
  | q :: ps, 0 => by
    show [] = [] ++ _
    rw [if_neg (by simp)]
    rfl
  | q :: ps, d + 1 => by
    show _ ++ blk (ps ++ [p]) d = (_ ++ blk ps d) ++ _
    rw [blk_snoc p ps d, List.append_assoc, List.length_cons, Nat.add_sub_add_right]
    congr 2
    by_cases h : ps.length < d ∧ p (d - ps.length) = true
    · rw [if_pos h, if_pos ⟨by omega, h.2⟩]
    · rw [if_neg h, if_neg fun z => h ⟨by omega, z.2⟩]
theorem plyF_swap : ∀ (A B : List Int) (f : Nat → Rat), (∀ a ∈ A, 1 ≤ a) → (∀ a ∈ A, ∀ b ∈ B, a + 2 ≤ b) → plyF f (A ++ B) = plyF f (B ++ A)
  | [], B, f, _, _ => by rw [List.nil_append, List.append_nil]
  | a :: A, B, f, h1, h2 => by
    have ih := plyF_swap A B (avgF f a) (fun x hx => h1 x (List.mem_cons_of_mem _ hx)) fun x hx => h2 x (List.mem_cons_of_mem _ hx)
    rw [List.cons_append, plyF_cons, ih, plyF_app]
    show plyF (plyF f (a :: B)) A = _
    rw [plyF_late B f a (h1 a (List.mem_cons_self ..)) (h2 a (List.mem_cons_self ..)), ← plyF_app, List.append_assoc]
    rfl
theorem run_snoc (p : Pd) (ps : List Pd) (f : Nat → Rat) : ∀ D : Nat, plyF f (runD ps D ++ rd p (D - ps.length)) = plyF f (runD (ps ++ [p]) D)
  | 0 => by
    rw [Nat.zero_sub]
    rfl
  | D + 1 => by
    have ih := run_snoc p ps f D
    show plyF f ((runD ps D ++ blk ps (D + 1)) ++ rd p (D + 1 - ps.length)) = plyF f (runD (ps ++ [p]) D ++ blk (ps ++ [p]) (D + 1))
    rw [plyF_app f (runD (ps ++ [p]) D), ← ih, blk_snoc]
    by_cases h : ps.length ≤ D
    · have e : D + 1 - ps.length = (D - ps.length) + 1 := by omega
      rw [e]
      show plyF f ((runD ps D ++ blk ps (D + 1)) ++ (rd p (D - ps.length) ++ if p (D - ps.length + 1) = true then [((D - ps.length + 1 : Nat) : Int)] else [])) = _
      have sw := plyF_swap (rd p (D - ps.length)) (blk ps (D + 1)) (plyF f (runD ps D)) (fun a ha => (rd_mem ha).1) fun a ha b hb => by
        have h1 := rd_mem ha
        have h2 := blk_mem hb
        omega
      rw [← List.append_assoc, plyF_app, List.append_assoc, plyF_app f (runD ps D), ← sw, plyF_app _ (rd p (D - ps.length)), ← plyF_app f (runD ps D), ← plyF_app _ (blk ps (D + 1))]
      congr 2
      by_cases c : p (D - ps.length + 1) = true
      · rw [if_pos c, if_pos ⟨by omega, c⟩]
      · rw [if_neg c, if_neg fun z => c z.2]
    · have e1 : D + 1 - ps.length = 0 := by omega
      have e2 : D - ps.length = 0 := by omega
      rw [e1, e2, if_neg (by omega)]
      show plyF f ((runD ps D ++ blk ps (D + 1)) ++ []) = plyF (plyF f (runD ps D ++ [])) (blk ps (D + 1) ++ [])
      rw [List.append_nil, List.append_nil, List.append_nil, plyF_app]
theorem rd_cap {p : Pd} {m : Nat} (h : ∀ w, m < w → p w = false) : ∀ k, m ≤ k → rd p k = rd p m
  | 0, hk => by
    obtain rfl : m = 0 := by omega
    rfl
  | k + 1, hk => by
    by_cases e : m = k + 1
    · rw [e]
    · show rd p k ++ _ = _
      rw [h (k + 1) (by omega), rd_cap h k (by omega)]
      simp
/-- all rounds, one behind the other, are done as well by diagonals -/
theorem rounds_run {m : Nat} (f : Nat → Rat) (ps : List Pd) : (∀ p ∈ ps, ∀ w, m < w → p w = false) → ∀ D, m + ps.length ≤ D → plyF f (ps.flatMap fun p => rd p m) = plyF f (runD ps D) := by
  refine snoc_ind (P := fun ps => (∀ p ∈ ps, ∀ w, m < w → p w = false) → ∀ D, m + ps.length ≤ D → plyF f (ps.flatMap fun p => rd p m) = plyF f (runD ps D)) (fun _ D _ => ?_) (fun ps p ih hp D hD => ?_) ps
  · have : ∀ D, runD [] D = [] := fun D => by
      induction D with
      | zero => rfl
      | succ D ih => show runD [] D ++ [] = []; rw [ih]; rfl
    rw [this]
    rfl
  · rw [List.length_append] at hD
    have hD : m + ps.length + 1 ≤ D := by simpa [Nat.add_assoc] using hD
    rw [List.flatMap_append, plyF_app, ih (fun q hq => hp q (by simp [hq])) D (by omega), ← run_snoc]
    rw [rd_cap (hp p (by simp)) (D - ps.length) (by omega), plyF_app]
    show plyF _ (rd p m ++ []) = _
    rw [List.append_nil]
def prdOf (r : Rd) : Pd := fun w => r.opens (w : Int)
def cap (m : Nat) (p : Pd) : Pd := fun w => decide (w ≤ m) && p w
theorem rng_snoc (m : Nat) : rng 1 ((m + 1 : Nat) + 1 : Int) = rng 1 ((m : Int) + 1) ++ [((m + 1 : Nat) : Int)] := by
  unfold rng
  have e1 : (((m + 1 : Nat) + 1 : Int) - 1).toNat = m + 1 := by omega
  have e2 : ((m : Int) + 1 - 1).toNat = m := by omega
  rw [e1, e2, List.range_succ, List.map_append]
  congr 1
  show [(1 : Int) + (m : Int)] = _
  rw [Int.natCast_add]
  congr 1
  omega
theorem rd_eq {r : Rd} (hr : r ≠ .left) (M : Nat) : ∀ m : Nat, m ≤ M → rd (cap M (prdOf r)) m = wrs r ((m : Int) + 1) := by
  have filt : ∀ n, wrs r n = (rng 1 n).filter fun w => r.opens w := fun n => by
    cases r with
    | right => exact (List.filter_eq_self.mpr fun _ _ => rfl).symm
    | left => exact absurd rfl hr
    | ev a b => rfl
  intro m
  induction m with
  | zero =>
    intro _
    rw [filt]
    have : rng 1 ((0 : Nat) + 1 : Int) = [] := by unfold rng; simp
    rw [this]
    rfl
  | succ m ih =>
    intro hm
    rw [filt, rng_snoc, List.filter_append, ← filt]
    show rd _ m ++ _ = _
    rw [ih (by omega)]
    congr 1
    have : cap M (prdOf r) (m + 1) = r.opens ((m + 1 : Nat) : Int) := by
      unfold cap prdOf
      rw [decide_eq_true hm]
      rfl
    rw [this]
    by_cases c : r.opens ((m + 1 : Nat) : Int) = true
    · rw [if_pos c, List.filter_cons_of_pos c]
      rfl
    · rw [if_neg c, List.filter_cons_of_neg c]
      rfl
theorem rd_idle : ∀ m, rd (fun _ => false) m = []
  | 0 => rfl
  | m + 1 => by
    show rd _ m ++ _ = _
    rw [rd_idle m]
    rfl
/-- a program's rounds, and some that do nothing -/
def padP (rs : List Rd) (L : Nat) : List Pd := rs.map prdOf ++ List.replicate (L - rs.length) (fun _ => false)
theorem padP_len {rs : List Rd} {L : Nat} (h : rs.length ≤ L) : (padP rs L).length = L := by
  unfold padP
  rw [List.length_append, List.length_map, List.length_replicate]
  omega
theorem opn_run {rs : List Rd} (hr : ∀ r ∈ rs, r ≠ .left) {L : Nat} (hl : rs.length ≤ L) (m : Nat) (f : Nat → Rat) {D : Nat} (hD : m + L ≤ D) : plyF f (opn rs ((m + 1 : Nat) : Int)) = plyF f (runD ((padP rs L).map (cap m)) D) := by
  have e : ((padP rs L).map (cap m)).flatMap (fun p => rd p m) = opn rs ((m + 1 : Nat) : Int) := by
    unfold padP
    rw [List.map_append, List.flatMap_append]
    have z : (List.map (cap m) (List.replicate (L - rs.length) (fun _ => false))).flatMap (fun p => rd p m) = [] := by
      rw [List.map_replicate]
      have : cap m (fun _ => false) = fun _ => false := by
        funext w
        unfold cap
        exact Bool.and_false _
      rw [this]
      induction L - rs.length with
      | zero => rfl
      | succ k ih =>
        rw [List.replicate_succ, List.flatMap_cons, rd_idle, ih]
        rfl
    rw [z, List.append_nil]
    unfold opn
    rw [List.flatMap_def, List.flatMap_def, List.map_map, List.map_map]
    congr 1
    refine List.map_congr_left fun r h => ?_
    exact rd_eq (hr r h) m m (Nat.le_refl _)
  rw [← e]
  refine rounds_run f _ (fun p hp w hw => ?_) D (by rw [List.length_map, padP_len hl]; exact hD)
  obtain ⟨q, _, rfl⟩ := List.mem_map.mp hp
  unfold cap
  rw [decide_eq_false (by omega)]
  rfl
end PM
end
section
set_option Elab.async false
set_option linter.all false
set_option maxRecDepth 100000
set_option maxHeartbeats 2000000
namespace PM
open PySem L2
/-- two rows that go on by plays: what is alike so often stays alike -/
theorem comb_on {s : Nat} {W : List Int} {g : Nat → Nat → Rat} (hg : ∀ k, g (k + 1) = fun i => plyF (g k) W (i + s)) {K : Nat} {c : Nat → Rat} (h : g K = fun i => sm K fun a => c a * g a i) : ∀ t, g (K + t) = fun i => sm K fun a => c a * g (a + t) i
  | 0 => h
  | t + 1 => by
    show g (K + t + 1) = _
    rw [hg, comb_on hg h t, plyF_sm]
    funext i
    refine sm_congr fun a _ => ?_
    show _ = c a * g (a + t + 1) i
    rw [hg]
end PM
end
section
set_option Elab.async false
set_option linter.all false
set_option maxRecDepth 100000
set_option maxHeartbeats 2000000
namespace PM
open PySem L2
structure Prg (ps : List Pd) (L s : Nat) : Prop where
  len : ps.length = L
  per : ∀ p ∈ ps, ∀ w, p (w + s) = p w
def up (t : Nat) (ws : List Int) : List Int := ws.map fun w => w + (t : Int)
def bkz (ps : List Pd) (m : Nat) : Nat → List Int
  | 0 => []
  | k + 1 => bkz ps m k ++ blk ps (m + k + 1)
theorem run_bks (ps : List Pd) (m : Nat) : ∀ k, runD ps (m + k) = runD ps m ++ bkz ps m k
  | 0 => by rw [Nat.add_zero]; show _ = _ ++ []; rw [List.append_nil]
  | k + 1 => by
    show runD ps (m + k) ++ blk ps (m + k + 1) = runD ps m ++ (bkz ps m k ++ blk ps (m + k + 1))
    rw [run_bks ps m k, List.append_assoc]
theorem bks_mem {ps : List Pd} {m : Nat} {w : Int} : ∀ {k : Nat}, w ∈ bkz ps m k → 1 ≤ w ∧ (m : Int) + 2 ≤ w + ps.length ∧ w ≤ m + k
  | 0, h => by cases h
  | k + 1, h => by
    rcases List.mem_append.mp h with h | h
    · have := bks_mem h
      omega
    · have := blk_mem h
      omega
theorem run_mem {ps : List Pd} {w : Int} {m : Nat} (h : w ∈ runD ps m) : 1 ≤ w ∧ w ≤ m := by
  induction m with
  | zero => cases h
  | succ m ih =>
    rcases List.mem_append.mp h with h | h
    · have := ih h
      omega
    · have := blk_mem h
      omega
theorem blk_up {φ ψ : Pd → Pd} {s : Nat} : ∀ {ps : List Pd}, (∀ p ∈ ps, ∀ w, ψ p (w + s) = φ p w) → ∀ {d : Nat}, ps.length ≤ d → blk (ps.map ψ) (d + s) = up s (blk (ps.map φ) d)
  | [], _, _, _ => rfl
  | p :: ps, h, 0, hd => by simp at hd
  | p :: ps, h, d + 1, hd => by
    have ih := blk_up (φ := φ) (ψ := ψ) (s := s) (ps := ps) (fun q hq => h q (List.mem_cons_of_mem _ hq)) (d := d) (by simpa using hd)
    rw [show d + 1 + s = (d + s) + 1 by omega]
    show (if ψ p (d + s + 1) = true then [((d + s + 1 : Nat) : Int)] else []) ++ blk (ps.map ψ) (d + s) = up s ((if φ p (d + 1) = true then [((d + 1 : Nat) : Int)] else []) ++ blk (ps.map φ) d)
    rw [ih]
    unfold up
    rw [List.map_append]
    congr 1
    have e := h p (List.mem_cons_self ..) (d + 1)
    rw [show d + 1 + s = d + s + 1 by omega] at e
    rw [e]
    by_cases c : φ p (d + 1) = true
    · rw [if_pos c, if_pos c]
      show [((d + s + 1 : Nat) : Int)] = [((d + 1 : Nat) : Int) + (s : Int)]
      congr 1
      omega
    · rw [if_neg c, if_neg c]
      rfl
theorem bks_up {φ ψ : Pd → Pd} {s : Nat} {ps : List Pd} (h : ∀ p ∈ ps, ∀ w, ψ p (w + s) = φ p w) {m : Nat} (hm : ps.length ≤ m + 1) : ∀ k, bkz (ps.map ψ) (m + s) k = up s (bkz (ps.map φ) m k)
  | 0 => rfl
  | k + 1 => by
    show bkz (ps.map ψ) (m + s) k ++ blk (ps.map ψ) (m + s + k + 1) = up s (bkz (ps.map φ) m k ++ blk (ps.map φ) (m + k + 1))
    rw [bks_up h hm k, show m + s + k + 1 = (m + k + 1) + s by omega, blk_up h (by omega)]
    unfold up
    rw [List.map_append]
theorem plyF_up (t : Nat) : ∀ (ws : List Int) (f : Nat → Rat), (∀ w ∈ ws, 1 ≤ w) → ∀ i, plyF f (up t ws) (i + t) = plyF (fun i => f (i + t)) ws i
  | [], _, _, _ => rfl
  | w :: ws, f, h, i => by
    have h1 := h w (List.mem_cons_self ..)
    show plyF (avgF f (w + (t : Int))) (up t ws) (i + t) = plyF (avgF (fun i => f (i + t)) w) ws i
    rw [plyF_up t ws _ fun x hx => h x (List.mem_cons_of_mem _ hx)]
    congr 1
    funext i
    unfold avgF
    have e1 : (w + (t : Int) - 1).toNat = (w - 1).toNat + t := by omega
    have e2 : (w + (t : Int)).toNat = w.toNat + t := by omega
    rw [e1, e2]
    by_cases c : i = (w - 1).toNat ∨ i = w.toNat
    · rw [if_pos c, if_pos (by omega)]
    · rw [if_neg c, if_neg (by omega)]
/-- weirs, told from a basin on -/
def dn (t : Nat) (ws : List Int) : List Int := ws.map fun w => w - (t : Int)
theorem up_dn (t : Nat) (ws : List Int) : up t (dn t ws) = ws := by
  unfold up dn
  rw [List.map_map]
  refine (List.map_congr_left fun w _ => ?_).trans (List.map_id ws)
  show w - (t : Int) + (t : Int) = w
  omega
theorem dn_up (t s : Nat) (ws : List Int) : dn (t + s) (up s ws) = dn t ws := by
  unfold up dn
  rw [List.map_map]
  refine List.map_congr_left fun w _ => ?_
  show w + (s : Int) - ((t + s : Nat) : Int) = _
  omega
def Fd (ps : List Pd) (b D : Nat) : Nat → Rat := plyF (eF b) (runD ps D)
theorem Fd_on (ps : List Pd) (b m k : Nat) : Fd ps b (m + k) = plyF (Fd ps b m) (bkz ps m k) := by
  unfold Fd
  rw [run_bks, plyF_app]
theorem Fd_far {ps : List Pd} {b m i : Nat} (hb : b ≤ m) (hi : m < i) : Fd ps b m i = 0 := by
  unfold Fd
  rw [ply_out _ _ fun w hw => by have := run_mem hw; omega]
  unfold eF
  rw [if_neg (by omega)]
section
variable {ps : List Pd} {L s : Nat} (P : Prg ps L s)
include P
theorem Fd_old {b m k i : Nat} (hi : i + L < m + 1) : Fd ps b (m + k) i = Fd ps b m i := by
  rw [Fd_on, ply_out _ _ fun w hw => by
    have := bks_mem hw
    rw [P.len] at this
    omega]
/-- the window: L basins up to m -/
def Gd (ps : List Pd) (L b m : Nat) : Nat → Rat := fun i => Fd ps b m (i + (m + 1 - L))
theorem Gd_far {b m : Nat} (hb : b ≤ m) (hL : L ≤ m + 1) (i : Nat) (hi : L ≤ i) : Gd ps L b m i = 0 := Fd_far hb (by omega)
/-- what a list of weirs behind m does, told from the window's first basin on -/
theorem win_ply {b m : Nat} (hL : L ≤ m + 1) (ws : List Int) (hw : ∀ w ∈ ws, (m : Int) + 2 ≤ w + L) (j : Nat) : plyF (Fd ps b m) ws (j + (m + 1 - L)) = plyF (Gd ps L b m) (dn (m + 1 - L) ws) j := by
  have := plyF_up (m + 1 - L) (dn (m + 1 - L) ws) (Fd ps b m) (fun w h => by
    obtain ⟨x, hx, rfl⟩ := List.mem_map.mp h
    have := hw x hx
    omega) j
  rw [up_dn] at this
  exact this
theorem map_id' : ps.map (fun p => p) = ps := List.map_id ps
theorem bks_per {m : Nat} (hL : L ≤ m + 1) (k : Nat) : bkz ps (m + s) k = up s (bkz ps m k) := by
  have := bks_up (φ := fun p => p) (ψ := fun p => p) P.per (m := m) (by rw [P.len]; exact hL) k
  rwa [map_id' P] at this
theorem cap_per {m : Nat} (hL : L ≤ m + 1) (k : Nat) : bkz (ps.map (cap (m + s))) (m + s) k = up s (bkz (ps.map (cap m)) m k) := by
  refine bks_up (fun p hp w => ?_) (by rw [P.len]; exact hL) k
  unfold cap
  rw [P.per p hp]
  congr 1
  by_cases c : w ≤ m
  · rw [decide_eq_true c, decide_eq_true (by omega)]
  · rw [decide_eq_false c, decide_eq_false (by omega)]
theorem per_k {m : Nat} (k : Nat) : ∀ p ∈ ps, ∀ w, p (w + k * s) = p w := by
  induction k with
  | zero => intro p hp w; rw [Nat.zero_mul]; rfl
  | succ k ih =>
    intro p hp w
    rw [Nat.succ_mul, ← Nat.add_assoc, P.per p hp, ih p hp]
theorem prg_k (k : Nat) : Prg ps L (k * s) := ⟨P.len, per_k P (m := 0) k⟩
/-- windows go on -/
theorem Gd_on {b m : Nat} (hL : L ≤ m + 1) (k : Nat) : Gd ps L b (m + (k + 1) * s) = fun i => plyF (Gd ps L b (m + k * s)) (dn (m + 1 - L) (bkz ps m s)) (i + s) := by
  funext i
  have e : m + (k + 1) * s = (m + k * s) + s := by rw [Nat.succ_mul]; omega
  have hL2 : L ≤ m + k * s + 1 := by omega
  unfold Gd
  rw [e, Fd_on]
  have e2 : i + (m + k * s + s + 1 - L) = (i + s) + (m + k * s + 1 - L) := by omega
  rw [e2, win_ply P hL2 _ fun w hw => by
    have := bks_mem hw
    rw [P.len] at this
    omega]
  have e3 : bkz ps (m + k * s) s = up (k * s) (bkz ps m s) := bks_per (prg_k P k) hL s
  have e4 : m + k * s + 1 - L = (m + 1 - L) + k * s := by omega
  rw [e3, e4, dn_up]
  unfold Gd
  rw [← e4]
/-- what stands at the end, for m + 1 basins -/
def Ed (ps : List Pd) (L m b : Nat) : Nat → Rat := plyF (eF b) (runD (ps.map (cap m)) (m + L))
theorem cap_run {m : Nat} : ∀ D, D ≤ m → runD (ps.map (cap m)) D = runD ps D := by
  clear P
  have bl : ∀ (ps : List Pd) D, D ≤ m → blk (ps.map (cap m)) D = blk ps D := by
    intro ps
    induction ps with
    | nil => intros; rfl
    | cons p ps ih =>
      intro D hD
      cases D with
      | zero => rfl
      | succ D =>
        show (if cap m p (D + 1) = true then _ else _) ++ blk (ps.map (cap m)) D = (if p (D + 1) = true then _ else _) ++ blk ps D
        rw [ih D (by omega)]
        have : cap m p (D + 1) = p (D + 1) := by
          unfold cap
          rw [decide_eq_true hD]
          rfl
        rw [this]
  intro D
  induction D with
  | zero => intros; rfl
  | succ D ih =>
    intro hD
    show runD (ps.map (cap m)) D ++ _ = runD ps D ++ _
    rw [ih (by omega), bl ps (D + 1) hD]
theorem Ed_eq (m b : Nat) : Ed ps L m b = plyF (Fd ps b m) (bkz (ps.map (cap m)) m L) := by
  unfold Ed Fd
  rw [run_bks, cap_run P m (Nat.le_refl _), plyF_app]
theorem Ed_low {m b i : Nat} (hi : i + L < m + 1) : Ed ps L m b i = Fd ps b m i := by
  rw [Ed_eq P, ply_out _ _ fun w hw => by
    have := bks_mem hw
    rw [List.length_map, P.len] at this
    omega]
theorem Ed_top {m b : Nat} (hL : L ≤ m + 1) (k j : Nat) : Ed ps L (m + k * s) b (j + (m + k * s + 1 - L)) = plyF (Gd ps L b (m + k * s)) (dn (m + 1 - L) (bkz (ps.map (cap m)) m L)) j := by
  have hL2 : L ≤ m + k * s + 1 := by omega
  rw [Ed_eq P, win_ply P hL2 _ fun w hw => by
    have := bks_mem hw
    rw [List.length_map, P.len] at this
    omega]
  have e3 : bkz (ps.map (cap (m + k * s))) (m + k * s) L = up (k * s) (bkz (ps.map (cap m)) m L) := cap_per (prg_k P k) hL L
  have e4 : m + k * s + 1 - L = (m + 1 - L) + k * s := by omega
  rw [e3, e4, dn_up]
theorem Fd_start {b m : Nat} (hb : 1 ≤ b) (hm : b ≤ m + 1) : Fd ps b m = plyF (eF b) (bkz ps (b - 1) (m + 1 - b)) := by
  have e : m = (b - 1) + (m + 1 - b) := by omega
  have s0 : Fd ps b (b - 1) = eF b := by
    unfold Fd
    refine ply_fix _ fun w hw => ?_
    have := run_mem hw
    unfold eF
    rw [if_neg (by omega), if_neg (by omega)]
  have := Fd_on ps b (b - 1) (m + 1 - b)
  rw [← e, s0] at this
  exact this
theorem Fd_up {b m : Nat} (hb : L ≤ b) (h1 : 1 ≤ b) (hm : b ≤ m) : (∀ i, Fd ps (b + s) (m + s) (i + s) = Fd ps b m i) ∧ ∀ i, i < s → Fd ps (b + s) (m + s) i = 0 := by
  have e1 := Fd_start P (b := b) (m := m) h1 (by omega)
  have e2 := Fd_start P (b := b + s) (m := m + s) (by omega) (by omega)
  have e3 : b + s - 1 = (b - 1) + s := by omega
  have e4 : m + s + 1 - (b + s) = m + 1 - b := by omega
  have e5 := bks_per P (m := b - 1) (by omega) (m + 1 - b)
  rw [e3, e4, e5] at e2
  constructor
  · intro i
    rw [e2, e1, plyF_up s _ _ fun w hw => (bks_mem hw).1]
    congr 1
    funext i
    unfold eF
    by_cases c : i = b
    · rw [if_pos c, if_pos (by omega)]
    · rw [if_neg c, if_neg (by omega)]
  · intro i hi
    rw [e2, ply_out _ _ fun w hw => by
      obtain ⟨x, hx, rfl⟩ := List.mem_map.mp hw
      have := bks_mem hx
      rw [P.len] at this
      omega]
    unfold eF
    rw [if_neg (by omega)]
theorem Ed_up {b m : Nat} (hb : L ≤ b) (h1 : 1 ≤ b) (hm : b ≤ m) : (∀ i, Ed ps L (m + s) (b + s) (i + s) = Ed ps L m b i) ∧ ∀ i, i < s → Ed ps L (m + s) (b + s) i = 0 := by
  obtain ⟨f1, f2⟩ := Fd_up P hb h1 hm
  constructor
  · intro i
    rw [Ed_eq P, Ed_eq P, cap_per P (by omega) L, plyF_up s _ _ fun w hw => (bks_mem hw).1]
    congr 1
    exact funext f1
  · intro i hi
    rw [Ed_low P (by omega)]
    exact f2 i hi
end
/-- two programs, told alike: for rows of m + 1 basins, with the water of basin b -/
def EqB (ps qs : List Pd) (L m b : Nat) : Prop := ∀ i, i ≤ m → Ed ps L m b i = Ed qs L m b i
end PM
end
section
set_option Elab.async false
set_option linter.all false
set_option maxRecDepth 100000
set_option maxHeartbeats 2000000
namespace PM
open PySem L2
theorem prg_of {rs : List Rd} {s L : Nat} (hl : rs.length ≤ L) (per : ∀ r ∈ rs, ∀ w : Nat, r.opens ((w + s : Nat) : Int) = r.opens (w : Int)) : Prg (padP rs L) L s := by
  refine ⟨padP_len hl, fun p hp w => ?_⟩
  rcases List.mem_append.mp hp with hp | hp
  · obtain ⟨r, h, rfl⟩ := List.mem_map.mp hp
    exact per r h w
  · rw [(List.mem_replicate.mp hp).2]
def Same (rs ss : List Rd) : Prop := ∀ n, Like rs ss n
theorem Same.refl (rs : List Rd) : Same rs rs := fun n b hb i hi => rfl
theorem Same.symm {rs ss : List Rd} (h : Same rs ss) : Same ss rs := fun n b hb i hi => (h n b hb i hi).symm
theorem Same.trans {rs ss ts : List Rd} (h : Same rs ss) (g : Same ss ts) : Same rs ts := fun n b hb i hi => (h n b hb i hi).trans (g n b hb i hi)
def run1 (rs : List Rd) (n : Nat) (f : Nat → Rat) : Nat → Rat := plyF f (opn rs n)
theorem run1_app (rs ss : List Rd) (n : Nat) (f : Nat → Rat) : run1 (rs ++ ss) n f = run1 ss n (run1 rs n f) := by
  unfold run1
  rw [opn_app, plyF_app]
/-- alike for all volumes -/
theorem like_map {rs ss : List Rd} {n : Nat} : Like rs ss n ↔ ∀ f i, i < n → run1 rs n f i = run1 ss n f i := by
  constructor
  · intro h f i hi
    unfold run1
    rw [plyF_units f _ (opn_wi rs n) hi, plyF_units f _ (opn_wi ss n) hi]
    refine sm_congr fun b hb => ?_
    have := h b hb i hi
    unfold ent at this
    rw [this]
  · intro h b hb i hi
    exact h (eF b) i hi
theorem run1_cong {rs : List Rd} {n : Nat} {f g : Nat → Rat} (h : ∀ i, i < n → f i = g i) : ∀ i, i < n → run1 rs n f i = run1 rs n g i := plyF_cong _ (opn_wi rs n) h
theorem Same.app {rs ss ts us : List Rd} (h : Same rs ss) (g : Same ts us) : Same (rs ++ ts) (ss ++ us) := fun n => like_map.mpr fun f i hi => by
  rw [run1_app, run1_app, like_map.mp (g n) _ i hi]
  exact run1_cong (like_map.mp (h n) f) i hi
end PM
end
section
set_option Elab.async false
set_option linter.all false
set_option maxRecDepth 100000
set_option maxHeartbeats 2000000
namespace PM
open PySem L2
/-- what two rows that go on by plays tell goes on by one recurrence -/
theorem two_lin {L s : Nat} {W W' FL FL' : List Int} {g h : Nat → Nat → Rat} (hg : ∀ k, g (k + 1) = fun i => plyF (g k) W (i + s)) (hh : ∀ k, h (k + 1) = fun i => plyF (h k) W' (i + s)) (sg : ∀ k i, L ≤ i → g k i = 0) (sh : ∀ k i, L ≤ i → h k i = 0) (j : Nat) :
    ∃ K, K ≤ 2 * L ∧ ∃ c : Nat → Rat, ∀ t, plyF (g (K + t)) FL j - plyF (h (K + t)) FL' j = sm K fun a => c a * (plyF (g (a + t)) FL j - plyF (h (a + t)) FL' j) := by
  obtain ⟨K, hK, c, hc⟩ := dep (2 * L) fun k j => if j < L then g k j else h k (j - L)
  have gK : g K = fun i => sm K fun a => c a * g a i := funext fun i => by
    by_cases e : i < L
    · have := hc i (by omega)
      simp only [if_pos e] at this
      exact this
    · rw [sg K i (by omega), sm_null fun a _ => by rw [sg a i (by omega)]; grind]
  have hK' : h K = fun i => sm K fun a => c a * h a i := funext fun i => by
    by_cases e : i < L
    · have := hc (i + L) (by omega)
      simp only [if_neg (show ¬ i + L < L by omega), Nat.add_sub_cancel] at this
      exact this
    · rw [sh K i (by omega), sm_null fun a _ => by rw [sh a i (by omega)]; grind]
  refine ⟨K, hK, c, fun t => ?_⟩
  rw [comb_on hg gK, comb_on hh hK', plyF_sm, plyF_sm]
  have e : ∀ n : Nat, sm n (fun a => c a * plyF (g (a + t)) FL j) - sm n (fun a => c a * plyF (h (a + t)) FL' j) = sm n fun a => c a * (plyF (g (a + t)) FL j - plyF (h (a + t)) FL' j) := by
    intro n
    induction n with
    | zero => rw [sm_zero, sm_zero, sm_zero]; grind
    | succ n ih => rw [sm_succ, sm_succ, sm_succ, ← ih]; grind
  exact e K
section
variable {ps qs : List Pd} {L s : Nat} (P : Prg ps L s) (Q : Prg qs L s) (hL : 1 ≤ L) (hs : 1 ≤ s)
include P Q hL hs
/-- near columns: one length ahead of a block -/
theorem back {b m0 k0 : Nat} (hb : b ≤ m0) (h0 : L ≤ m0 + 1) (hk : 2 * L ≤ k0) (h : ∀ k, k0 < k → k ≤ k0 + 2 * L → EqB ps qs L (m0 + k * s) b) : EqB ps qs L (m0 + k0 * s) b := by
  intro i hi
  by_cases d : i + L < m0 + k0 * s + 1
  · have e := h (k0 + 1) (by omega) (by omega) i (by rw [Nat.succ_mul]; omega)
    rw [Ed_low P (by rw [Nat.succ_mul]; omega), Ed_low Q (by rw [Nat.succ_mul]; omega), Nat.succ_mul, ← Nat.add_assoc, Fd_old P (by omega), Fd_old Q (by omega)] at e
    rw [Ed_low P d, Ed_low Q d]
    exact e
  · obtain ⟨j, rfl⟩ : ∃ j, i = j + (m0 + k0 * s + 1 - L) := ⟨i - (m0 + k0 * s + 1 - L), by omega⟩
    have hj : j < L := by omega
    obtain ⟨K, hK, c, hc⟩ := two_lin (g := fun k => Gd ps L b (m0 + k * s)) (h := fun k => Gd qs L b (m0 + k * s)) (FL := dn (m0 + 1 - L) (bkz (ps.map (cap m0)) m0 L)) (FL' := dn (m0 + 1 - L) (bkz (qs.map (cap m0)) m0 L)) (fun k => Gd_on P h0 k) (fun k => Gd_on Q h0 k) (fun k i hi => Gd_far (b := b) P (by omega) (by omega) i hi) (fun k i hi => Gd_far (b := b) Q (by omega) (by omega) i hi) j
    have := lin_back (y := fun k => plyF (Gd ps L b (m0 + k * s)) (dn (m0 + 1 - L) (bkz (ps.map (cap m0)) m0 L)) j - plyF (Gd qs L b (m0 + k * s)) (dn (m0 + 1 - L) (bkz (qs.map (cap m0)) m0 L)) j) hK hc hk fun k h1 h2 => by
      have e := h k h1 h2 (j + (m0 + k * s + 1 - L)) (by omega)
      rw [Ed_top P h0, Ed_top Q h0] at e
      show _ - _ = (0 : Rat)
      rw [e]
      grind
    rw [Ed_top P h0, Ed_top Q h0]
    have t : plyF (Gd ps L b (m0 + k0 * s)) (dn (m0 + 1 - L) (bkz (ps.map (cap m0)) m0 L)) j - plyF (Gd qs L b (m0 + k0 * s)) (dn (m0 + 1 - L) (bkz (qs.map (cap m0)) m0 L)) j = 0 := this
    grind
end
end PM
end
section
set_option Elab.async false
set_option linter.all false
set_option maxRecDepth 100000
set_option maxHeartbeats 2000000
namespace PM
open PySem L2
theorem sm_swap (n m : Nat) (f : Nat → Nat → Rat) : sm n (fun i => sm m fun k => f i k) = sm m fun k => sm n fun i => f i k := by
  induction n with
  | zero =>
    rw [sm_zero]
    exact (sm_null fun a _ => sm_zero _).symm
  | succ n ih =>
    rw [sm_succ, ih]
    have : (sm m fun k => sm (n + 1) fun i => f i k) = sm m fun k => 1 * (sm n fun i => f i k) + 1 * f n k := sm_congr fun k _ => by rw [sm_succ]; grind
    rw [this, sm_lin]
    grind
theorem sm_mul (n : Nat) (c : Rat) (f : Nat → Rat) : c * sm n f = sm n fun i => c * f i := by
  have := sm_lin c 0 f (fun _ => 0) n
  have e : (fun a => c * f a + 0 * (fun _ => (0 : Rat)) a) = fun i => c * f i := funext fun a => by grind
  rw [e] at this
  rw [this]
  grind
/-- what weights make of numbers at a place -/
def cv (M : Nat) (c : Nat → Rat) (X : Int → Rat) (j : Int) : Rat := sm M fun i => c i * X (j - i)
theorem cv_comm (M : Nat) (c d : Nat → Rat) (X : Int → Rat) (j : Int) : cv M c (cv M d X) j = cv M d (cv M c X) j := by
  unfold cv
  have e1 : (sm M fun i => c i * sm M fun k => d k * X (j - i - k)) = sm M fun i => sm M fun k => c i * (d k * X (j - i - k)) := sm_congr fun i _ => sm_mul _ _ _
  have e2 : (sm M fun i => d i * sm M fun k => c k * X (j - i - k)) = sm M fun i => sm M fun k => d i * (c k * X (j - i - k)) := sm_congr fun i _ => sm_mul _ _ _
  rw [e1, e2, sm_swap]
  refine sm_congr fun k _ => sm_congr fun i _ => ?_
  rw [show j - (i : Int) - k = j - k - i by omega]
  grind
def Dg (c : Nat → Rat) (L : Nat) : Prop := ∀ i, L < i → c i = 0
/-- weights of size L leave nothing at the places from L up to N -/
def An (M : Nat) (X : Int → Rat) (c : Nat → Rat) (L N : Nat) : Prop := ∀ j : Nat, L ≤ j → j < N → cv M c X j = 0
theorem sm_first {M : Nat} (hM : 0 < M) {f : Nat → Rat} (h : ∀ i, 0 < i → i < M → f i = 0) : sm M f = f 0 := sm_only hM fun a ha ne => h a (by omega) ha
/-- Massey's lemma -/
theorem massey {M : Nat} {X : Int → Rat} {c d : Nat → Rat} {L L' N : Nat} (hM : 0 < M) (c0 : c 0 = 1) (d0 : d 0 = 1) (hc : Dg c L) (hd : Dg d L') (ac : An M X c L N) (ad : An M X d L' (N + 1)) (ne : cv M c X N ≠ 0) : N + 1 ≤ L + L' := by
  refine Decidable.byContradiction fun q => ne ?_
  have e := cv_comm M c d X N
  have z : cv M c (cv M d X) N = 0 := sm_null fun i hi => by
    by_cases q1 : L < i
    · rw [hc i q1]; grind
    · have : cv M d X ((N : Int) - i) = 0 := by
        have := ad (N - i) (by omega) (by omega)
        rwa [Int.natCast_sub (by omega)] at this
      rw [this]; grind
  rw [z] at e
  have w : cv M d (cv M c X) N = d 0 * cv M c X ((N : Int) - (0 : Nat)) := sm_first hM fun i hi hiM => by
    by_cases q1 : L' < i
    · rw [hd i q1]; grind
    · have : cv M c X ((N : Int) - i) = 0 := by
        have := ac (N - i) (by omega) (by omega)
        rwa [Int.natCast_sub (by omega)] at this
      rw [this]; grind
  rw [w, d0] at e
  have : (N : Int) - (0 : Nat) = N := by omega
  rw [this] at e
  grind
/-- weights less a part of earlier ones, further back -/
def md (c e : Nat → Rat) (s : Nat) (p : Rat) (i : Nat) : Rat := c i - p * (if s ≤ i then e (i - s) else 0)
theorem sm_shift {M s : Nat} (f : Nat → Rat) (hs : s ≤ M) : sm M (fun i => if s ≤ i then f (i - s) else 0) = sm (M - s) f := by
  obtain ⟨t, rfl⟩ : ∃ t, M = s + t := ⟨M - s, by omega⟩
  rw [show s + t - s = t by omega]
  clear hs
  induction t with
  | zero =>
    rw [sm_zero, Nat.add_zero]
    exact sm_null fun a ha => if_neg (by omega)
  | succ t ih =>
    rw [← Nat.add_assoc, sm_succ, ih, sm_succ, if_pos (by omega), show s + t - s = t by omega]
theorem sm_ext {a b : Nat} {f : Nat → Rat} (h : a ≤ b) (z : ∀ i, a ≤ i → i < b → f i = 0) : sm b f = sm a f := by
  obtain ⟨t, rfl⟩ : ∃ t, b = a + t := ⟨b - a, by omega⟩
  clear h
  induction t with
  | zero => rfl
  | succ t ih =>
    rw [← Nat.add_assoc, sm_succ, z (a + t) (by omega) (by omega), ih fun i h1 h2 => z i h1 (by omega)]
    grind
theorem cv_md {M : Nat} {X : Int → Rat} {c e : Nat → Rat} {s Le : Nat} {p : Rat} (he : Dg e Le) (hM : s + Le < M) (j : Int) : cv M (md c e s p) X j = cv M c X j - p * cv M e X (j - s) := by
  unfold cv md
  have e1 : (sm M fun i => (c i - p * (if s ≤ i then e (i - s) else 0)) * X (j - i)) = sm M fun i => 1 * (c i * X (j - i)) + (-p) * (if s ≤ i then (fun k => e k * X (j - s - k)) (i - s) else 0) := sm_congr fun i _ => by
    by_cases q : s ≤ i
    · rw [if_pos q, if_pos q]
      have : j - (s : Int) - ((i - s : Nat) : Int) = j - i := by omega
      simp only [this]
      grind
    · rw [if_neg q, if_neg q]
      grind
  rw [e1, sm_lin, sm_shift (fun k => e k * X (j - s - k)) (by omega)]
  have e2 : (sm M fun i => e i * X (j - s - i)) = sm (M - s) fun i => e i * X (j - s - i) := sm_ext (by omega) fun i h1 h2 => by rw [he i (by omega)]; grind
  rw [e2]
  grind
/-- what stands behind N numbers -/
structure Bm (M : Nat) (X : Int → Rat) (N : Nat) (c e : Nat → Rat) (b : Rat) (L Le s : Nat) : Prop where
  c0 : c 0 = 1
  dc : Dg c L
  de : Dg e Le
  sum : L + Le + s = N
  bn : b ≠ 0
  an : An M X c L N
  ea : s < N → An M X e Le (N - s - 1) ∧ cv M e X ((N - s - 1 : Nat) : Int) = b
  vi : s = N → L = 0
  le : ∀ (d : Nat → Rat) (L' : Nat), d 0 = 1 → Dg d L' → An M X d L' N → L ≤ L'
theorem Bm.start (M : Nat) (X : Int → Rat) : Bm M X 0 (fun i => if i = 0 then 1 else 0) (fun i => if i = 0 then 1 else 0) 1 0 0 0 where
  c0 := if_pos rfl
  dc := fun i h => if_neg (by omega)
  de := fun i h => if_neg (by omega)
  sum := rfl
  bn := by decide
  an := fun j _ h => absurd h (Nat.not_lt_zero _)
  ea := fun h => absurd h (Nat.not_lt_zero _)
  vi := fun _ => rfl
  le := fun _ _ _ _ _ => Nat.zero_le _
section
variable {M : Nat} {X : Int → Rat} {N : Nat} {c e : Nat → Rat} {b : Rat} {L Le s : Nat} (B : Bm M X N c e b L Le s)
include B
theorem Bm.LN : L ≤ N := by have := B.sum; omega
theorem Bm.zero (h : cv M c X N = 0) : Bm M X (N + 1) c e b L Le (s + 1) where
  c0 := B.c0
  dc := B.dc
  de := B.de
  sum := by have := B.sum; omega
  bn := B.bn
  an := fun j h1 h2 => by
    by_cases q : j = N
    · rw [q]; exact h
    · exact B.an j h1 (by omega)
  ea := fun h => by
    have := B.ea (by omega)
    rwa [show N + 1 - (s + 1) - 1 = N - s - 1 by omega]
  vi := fun h => B.vi (by omega)
  le := fun d L' h1 h2 h3 => B.le d L' h1 h2 fun j h4 h5 => h3 j h4 (by omega)
theorem Bm.mended (hM : N + 1 < M) {L1 : Nat} (hL : L ≤ L1) (hL2 : N + 1 ≤ L + L1) (vi : s = N → L1 = N + 1) : Dg (md c e (s + 1) (cv M c X N / b)) L1 ∧ An M X (md c e (s + 1) (cv M c X N / b)) L1 (N + 1) ∧ md c e (s + 1) (cv M c X N / b) 0 = 1 := by
  have su := B.sum
  refine ⟨fun i hi => ?_, fun j h1 h2 => ?_, ?_⟩
  · unfold md
    rw [B.dc i (by omega)]
    by_cases q : s + 1 ≤ i
    · rw [if_pos q, B.de (i - (s + 1)) (by omega)]; grind
    · rw [if_neg q]; grind
  · rw [cv_md B.de (by omega)]
    by_cases v : s = N
    · have := vi v
      omega
    · obtain ⟨ea, eb⟩ := B.ea (by omega)
      have bn := B.bn
      by_cases q : j = N
      · subst q
        have : ((j : Int) - ((s + 1 : Nat) : Int)) = ((j - s - 1 : Nat) : Int) := by omega
        rw [this, eb]
        rw [Rat.div_mul_cancel bn]
        grind
      · rw [B.an j (by omega) (by omega)]
        have : ((j : Int) - ((s + 1 : Nat) : Int)) = ((j - (s + 1) : Nat) : Int) := by omega
        rw [this, ea (j - (s + 1)) (by omega) (by omega)]
        grind
  · unfold md
    rw [if_neg (by omega), B.c0]
    grind
theorem Bm.keep (hM : N + 1 < M) (hL : N < 2 * L) : Bm M X (N + 1) (md c e (s + 1) (cv M c X N / b)) e b L Le (s + 1) := by
  have su := B.sum
  obtain ⟨m1, m2, m3⟩ := B.mended hM (Nat.le_refl L) (by omega) (fun h => by have := B.vi h; omega)
  exact
    { c0 := m3
      dc := m1
      de := B.de
      sum := by omega
      bn := B.bn
      an := m2
      ea := fun h => by
        have := B.ea (by omega)
        rwa [show N + 1 - (s + 1) - 1 = N - s - 1 by omega]
      vi := fun h => B.vi (by omega)
      le := fun d L' h1 h2 h3 => B.le d L' h1 h2 fun j h4 h5 => h3 j h4 (by omega) }
theorem Bm.grow (hM : N + 1 < M) (hd : cv M c X N ≠ 0) (hL : 2 * L ≤ N) : Bm M X (N + 1) (md c e (s + 1) (cv M c X N / b)) c (cv M c X N) (N + 1 - L) L 0 := by
  have su := B.sum
  obtain ⟨m1, m2, m3⟩ := B.mended hM (L1 := N + 1 - L) (by omega) (by omega) (fun h => by have := B.vi h; omega)
  exact
    { c0 := m3
      dc := m1
      de := B.dc
      sum := by omega
      bn := hd
      an := m2
      ea := fun _ => by
        rw [show N + 1 - 0 - 1 = N by omega]
        exact ⟨B.an, rfl⟩
      vi := fun h => by omega
      le := fun d L' h1 h2 h3 => by
        have := massey (by omega) B.c0 h1 B.dc h2 B.an h3 hd
        omega }
end
end PM
end
section
set_option Elab.async false
set_option linter.all false
set_option maxRecDepth 100000
set_option maxHeartbeats 2000000
set_option exponentiation.threshold 10000
namespace PM
open PySem L2
/-- the volumes that a start says -/
inductive Stt where
  | ones | first | last | stairs
def Stt.s : Stt → String
  | .ones => "ones" | .first => "first" | .last => "last" | .stairs => "stairs"
def stV (s : Stt) (n : Nat) : List Int := match s with
  | .ones => (List.range n).map fun _ => 1
  | .first => unV n 0
  | .last => unV n (n - 1)
  | .stairs => (List.range n).map fun (k : Nat) => (1 : Int) + (k : Int)
theorem stV_len (s : Stt) (n : Nat) : (stV s n).length = n := by cases s <;> simp [stV, unV]
theorem stV_b (s : Stt) {n : Nat} (h : n ≤ 400) : ∀ v ∈ stV s n, v.natAbs < 2 ^ 64 := fun v hv => by
  cases s with
  | ones =>
    obtain ⟨_, _, rfl⟩ := List.mem_map.mp hv
    decide
  | first => exact unV_b n 0 v hv
  | last => exact unV_b n _ v hv
  | stairs =>
    obtain ⟨k, hk, rfl⟩ := List.mem_map.mp hv
    have := List.mem_range.mp hk
    have : ((1 : Int) + (k : Int)).natAbs ≤ 401 := by omega
    exact Nat.lt_of_le_of_lt this (by decide)
theorem unV_lc (n b : Nat) (a2 : Int) (hb : a2 = b) (S : Sto) (x : D) (a3 : Option D) : lcGo [] (gN 4) tYesP (eA (d1 dInt) (aCons (e2 (dEq false) (eVar 4) (eVar 2)) aNil)) ⟨[some x, some (.int n), some (.int a2), a3, none], none⟩ ((List.range n).map fun (k : Nat) => D.int k) S = .ok ((unV n b).map .int) S := by
  have eu : (unV n b).map D.int = (List.range n).map fun i => D.int (if i = b then 1 else 0) := by
    unfold unV
    rw [List.map_map]
    rfl
  rw [eu]
  refine lcGo_all (fun i : Nat => D.int i) (fun i => D.int (if i = b then 1 else 0)) (List.range n) fun i _ => ?_
  refine ⟨_, rfl, ?_⟩
  subst hb
  have e : ((i : Int) = (b : Int)) = (i = b) := propext (by omega)
  by_cases z : i = b <;> simp -implicitDefEqProofs [e, z, dInt]
theorem m_started_ok (s : Stt) {n : Nat} (h1 : 1 ≤ n) (h2 : n ≤ 400) (S : Sto) : m_started [.str s.s, .int n] S = .ok (.lst ((stV s n).map .int)) S := by
  have c1 : (n : Int) ≤ 1000000 := by omega
  have c2 : (-1000000 : Int) ≤ (n : Int) := by omega
  have c3 : n ≤ 100000 := by omega
  have c4 : (n : Int) + 1 ≤ 1000000 := by omega
  have c5 : (-1000000 : Int) ≤ (n : Int) + 1 := by omega
  have rn := rangeD_nat n
  have r1 : rangeD 1 ((n : Int) + 1) = ((List.range n).map fun (k : Nat) => (1 : Int) + (k : Int)).map D.int := by
    rw [rng1, List.map_map]
    exact List.map_congr_left fun k _ => by
      show D.int (((k + 1 : Nat)) : Int) = D.int ((1 : Int) + (k : Int))
      congr 1
      omega
  cases s with
  | ones =>
    have lc := lcGo_all (tg := gN 3) (m := eC (.int 1)) (e0 := ⟨[some (.str "ones"), some (.int n), none, none, none], none⟩) (S := S) (fun k : Nat => D.int k) (fun _ => D.int 1) (List.range n) fun v _ => ⟨_, rfl, rfl⟩
    simp -implicitDefEqProofs [m_started, b_started, Stt.s, c1, c2, c3, rn, lc, fLst, stV]
  | first =>
    have lc := unV_lc n 0 0 rfl S (.str "first") none
    simp -implicitDefEqProofs [m_started, b_started, Stt.s, c1, c2, c3, rn, lc, fLst, stV]
  | last =>
    have lc := unV_lc n (n - 1) ((n : Int) - 1) (by omega) S (.str "last") none
    simp -implicitDefEqProofs [m_started, b_started, Stt.s, c1, c2, c3, rn, lc, fLst, stV]
  | stairs =>
    simp -implicitDefEqProofs only [m_started, b_started, Stt.s, stV]
    simp -implicitDefEqProofs [dRange, c4, c5, r1]
def amT (rs : List Rd) (s : Stt) (n : Nat) : List Int := play (ups (stV s n) (hvs rs n)) (opn rs n)
def amQ (rs : List Rd) (s : Stt) (back n : Nat) : Rat := (((amT rs s n).getD (n - 1 - back) 0 : Int) : Rat) / (((2 : Int) ^ hvs rs n : Int) : Rat)
theorem m_amount_at_ok {rs : List Rd} (hl : rs.length ≤ 12) (hr : ∀ r ∈ rs, r.ok) (s : Stt) {n back : Nat} (h2 : n ≤ 400) (hb : back < n) (hj : hvs rs n ≤ 4000) (S : Sto) : m_amount_at [prog rs, .str s.s, .int back, .int n] S = .ok (fr (amQ rs s back n)) (S ++ [.dead, .dead]) := by
  have hh := fun S => m_halvings_ok (IsSeq.tup (ds := rs.map Rd.d)) (by omega) (n := n) (by omega) S
  have st := fun S => m_started_ok s (n := n) (by omega) h2 S
  have vl := stV_len s n
  have vb := stV_b s h2
  have ul := ups_len (stV s n) (hvs rs n)
  have ev := fun S => m_evened_ok (IsSeq.tup (ds := rs.map Rd.d)) hl hr (IsSeq.lst (ds := (ups (stV s n) (hvs rs n)).map .int)) (by rw [ul, vl]; omega) (by rw [ul, vl]; exact h2) S
  rw [ul, vl] at ev
  have eq : amQ rs s back n = (((amT rs s n).getD (n - 1 - back) 0 : Int) : Rat) / (((2 : Int) ^ hvs rs n : Int) : Rat) := rfl
  have et : amT rs s n = play (ups (stV s n) (hvs rs n)) (opn rs n) := rfl
  have tl : (amT rs s n).length = n := by rw [et, play_len, ul, vl]
  rw [← et] at ev
  have ai := atI_int (t := amT rs s n) (i := (n : Int) - 1 - (back : Int)) (by omega) (by omega)
  have e1 : ((n : Int) - 1 - (back : Int)).toNat = n - 1 - back := by omega
  rw [e1] at ai
  rw [eq]
  generalize (amT rs s n).getD (n - 1 - back) 0 = x at *
  generalize amT rs s n = t at *
  generalize hvs rs n = j at *
  have rd := fun S => m_reduced_ok x ((2 : Int) ^ j) (pow_pos' j) (by rw [pow_toNat]; exact Nat.pow_lt_pow_right (by decide) (by omega)) S
  have jb : (1 : Int) + (j : Int) ≤ 134217728 := by omega
  have c1 : (stV s n).length ≤ 100000 := by omega
  have lc := fun S => lcGo_all (tg := gN 6) (m := e2 dShl (eVar 6) (eVar 4)) (e0 := ⟨[some (prog rs), some (.str s.s), some (.int back), some (.int n), some (.int j), none, none], none⟩) (S := S) D.int (fun v => D.int (v * (2 : Int) ^ j)) (stV s n) fun v hm => by
    refine ⟨_, rfl, ?_⟩
    have b := bits_lt (vb v hm)
    have b2 : (Builtin.Int.intBits v : Int) + (j : Int) ≤ 134217728 := by omega
    simp -implicitDefEqProofs [b2]
  have eu : (ups (stV s n) j).map D.int = (stV s n).map fun v => D.int (v * (2 : Int) ^ j) := by
    rw [ups_eq, List.map_map]
    rfl
  rw [eu] at ev
  simp only [prog] at lc ⊢
  simp -implicitDefEqProofs [m_amount_at, b_amount_at, hh, st, c1, lc, fLst, ev, ai, rd, bits_one, jb]
theorem dNotInT_tup {a : D} {ds : List D} (S : Sto) (ha : a.fit 12 = true) (hb : (D.tup ds).fit 12 = true) : dNotInT a (.tup ds) S = .ok (.bl (!decide (a ∈ ds))) S := by
  obtain ⟨a1, a2⟩ := fit_ok ha
  obtain ⟨b1, b2⟩ := fit_ok hb
  unfold dNotInT
  simp only [gd_ap]
  rw [if_pos ⟨a2, b2⟩]
  show Out.ok _ S = _
  congr 3
  have b1 : D.pls ds = true := b1
  rw [pls_all] at b1
  rw [pys_map, List.any_map]
  rw [Bool.eq_iff_iff, decide_eq_true_iff, List.any_eq_true]
  constructor
  · rintro ⟨z, hz, h⟩
    have h : PyData.eqv z.py a.py = true := h
    rw [eqv_pl z a (List.all_eq_true.mp b1 z hz) a1] at h
    rw [← of_decide_eq_true h]
    exact hz
  · intro h
    refine ⟨a, h, ?_⟩
    show PyData.eqv a.py a.py = true
    rw [eqv_pl a a a1 a1]
    exact decide_eq_true rfl
theorem m_check_asked_ok (rs : List Rd) (s : Stt) {back : Nat} (h : back ≤ 5) (S : Sto) : m_check_asked [prog rs, .str s.s, .int back] S = .ok .non S := by
  have cp := fun S => m_check_program_ok rs S
  have c : (back : Int) ≤ 5 := by omega
  have ni : ∀ S, dNotInT (.str s.s) (.tup [.str "ones", .str "first", .str "last", .str "stairs"]) S = .ok (.bl false) S := fun S => by
    rw [dNotInT_tup S (by simp) (by simp)]
    cases s <;> simp [Stt.s]
  simp -implicitDefEqProofs [m_check_asked, b_check_asked, cp, ni, m_is_integer_int, c]
theorem m_amount_ok {rs : List Rd} (hl : rs.length ≤ 12) (hr : ∀ r ∈ rs, r.ok) (s : Stt) {n back : Nat} (h2 : n ≤ 300) (hb : back < n) (hb2 : back ≤ 5) (hj : hvs rs n ≤ 4000) (S : Sto) : m_amount [prog rs, .str s.s, .int back, .int n] S = .ok (fr (amQ rs s back n)) (S ++ [.dead, .dead]) := by
  have ca := fun S => m_check_asked_ok rs s hb2 S
  have am := fun S => m_amount_at_ok hl hr s (n := n) (by omega) hb hj S
  have c1 : (back : Int) < (n : Int) := by omega
  have c2 : (n : Int) ≤ 300 := by omega
  simp -implicitDefEqProofs [m_amount, b_amount, ca, am, m_is_integer_int, c1, c2]
end PM
end
section
set_option Elab.async false
set_option linter.all false
set_option maxRecDepth 100000
set_option maxHeartbeats 2000000
set_option exponentiation.threshold 10000
namespace PM
open PySem L2
theorem pick_back (f : Nat → D) {n k : Nat} (h : k < n) : pickL ((List.range n).map f) (some (k : Int)) none = (List.range (k + 1)).map fun i => f (k - i) := by
  have e1 : sliceBounds (some (k : Int)) none (some (-1)) ((List.range n).map f).length = ((k : Int), -1, -1) := by
    rw [List.length_map, List.length_range]
    unfold sliceBounds
    simp only [Option.getD_some]
    have c : ¬ ((-1 : Int) > 0) := by decide
    simp only [c, if_false]
    rw [if_neg (by omega)]
    refine Prod.ext ?_ rfl
    show max (-1) (min (k : Int) ((n : Int) - 1)) = k
    omega
  unfold pickL
  rw [e1]
  have e2 : sliceRange (k : Int) (-1) (-1) = (List.range (k + 1)).map fun i => k - i := by
    unfold sliceRange
    have c : ¬ ((-1 : Int) > 0) := by decide
    simp only [c, if_false]
    rw [if_pos (by omega), show ((k : Int) - -1 - -1 - 1) / (- -1) = ((k + 1 : Nat) : Int) by rw [show (- -1 : Int) = 1 by decide, Int.ediv_one]; omega, Int.toNat_natCast]
    refine List.map_congr_left fun i hi => ?_
    have := List.mem_range.mp hi
    omega
  show (sliceRange (k : Int) (-1) (-1)).filterMap _ = _
  rw [e2, List.filterMap_map]
  have e3 : ∀ i ∈ List.range (k + 1), ((fun i => ((List.range n).map f)[i]?) ∘ fun i => k - i) i = some (f (k - i)) := fun i hi => by
    have := List.mem_range.mp hi
    show ((List.range n).map f)[k - i]? = _
    rw [List.getElem?_map, List.getElem?_range (by omega)]
    rfl
  rw [HT.fm_congr e3]
  exact List.filterMap_eq_map (f := fun i => f (k - i)) ▸ rfl
theorem m_first_amounts_ok {rs : List Rd} (hl : rs.length ≤ 12) (hr : ∀ r ∈ rs, r.ok) (s : Stt) {m back : Nat} (hm : back + m ≤ 400) (hj : ∀ n, n ≤ back + m → hvs rs n ≤ 4000) (S : Sto) : ∃ T, m_first_amounts [prog rs, .str s.s, .int back, .int m] S = .ok (.lst ((List.range m).map fun k => fr (amQ rs s back (back + 1 + k)))) (S ++ T) := by
  have c1 : (m : Int) ≤ 1000000 := by omega
  have c2 : (-1000000 : Int) ≤ (m : Int) := by omega
  have c3 : m ≤ 100000 := by omega
  have rn := rangeD_nat m
  obtain ⟨ys, S', q1, q2, T, q3⟩ := lcGo_run (src := []) (tg := gN 4) (t := tYesP) (m := eA m_amount_at (aCons (eVar 0) (aCons (eVar 1) (aCons (eVar 2) (aCons (PM.e2 dAdd (PM.e2 dAdd (eVar 2) (eC (.int 1))) (eVar 4)) aNil))))) (e0 := ⟨[some (prog rs), some (.str s.s), some (.int back), some (.int m), none], none⟩)
    (fun k acc S' => acc = ((List.range k).map fun k => fr (amQ rs s back (back + 1 + k))) ∧ ∃ T, S' = S ++ T) ((List.range m).map fun (k : Nat) => D.int k) 0 [] S ⟨rfl, [], by simp⟩ (fun i d acc S2 hi hP => by
      obtain ⟨rfl, T, rfl⟩ := hP
      obtain ⟨hi2, rfl, _⟩ := get_nat hi
      have am := m_amount_at_ok hl hr s (n := back + 1 + i) (back := back) (by omega) (by omega) (hj _ (by omega)) (S ++ T)
      have ec : ((back + 1 + i : Nat) : Int) = (back : Int) + 1 + (i : Int) := by omega
      rw [ec] at am
      refine ⟨rfl, _, true, _, rfl, rfl, ?_⟩
      rw [if_pos rfl]
      refine ⟨fr (amQ rs s back (back + 1 + i)), S ++ T ++ [.dead, .dead], ?_, ?_, T ++ [.dead, .dead], by simp⟩
      · simp -implicitDefEqProofs [am]
      · rw [Nat.zero_add, List.range_succ, List.map_append]
        rfl) fun _ _ _ => rfl
  rw [List.nil_append, List.length_map, List.length_range, Nat.zero_add] at q2
  subst q2
  subst q3
  refine ⟨T, ?_⟩
  simp -implicitDefEqProofs [m_first_amounts, b_first_amounts, c1, c2, c3, rn, q1, fLst]
end PM
end
section
set_option Elab.async false
set_option linter.all false
set_option maxRecDepth 100000
namespace PM
open PySem L2
end PM
end
section
set_option Elab.async false
set_option linter.all false
set_option maxRecDepth 100000
set_option maxHeartbeats 2000000
set_option exponentiation.threshold 10000
namespace PM
open PySem L2
end PM
end
section
set_option Elab.async false
set_option linter.all false
set_option maxRecDepth 100000
set_option maxHeartbeats 2000000
set_option exponentiation.threshold 10000
namespace PM
open PySem L2
end PM
end
section
set_option Elab.async false
set_option linter.all false
set_option maxRecDepth 100000
set_option maxHeartbeats 2000000
set_option exponentiation.threshold 10000
namespace PM
open PySem L2
/-- d tells the amount q -/
structure Am (d : D) (q : Rat) : Prop where
  am : ∀ S, m_is_amount [d] S = .ok (.bl true) S
  ex : ∀ S, m_exact [d] S = .ok (fr q) S
  nn : 0 ≤ q
theorem Am.int {a : Int} (h : 0 ≤ a) : Am (.int a) (a : Rat) where
  am := fun S => by
    have e := fun S => dIs_ap [] [.inl "tuple"] (.int a) S (k := .inl "int") rfl rfl
    simp -implicitDefEqProofs [m_is_amount, b_is_amount, m_is_fraction_int, e, isK, kitP, h]
  ex := m_exact_int a
  nn := by exact_mod_cast h
theorem is_fraction_pair (a b : Int) (h : 1 ≤ b) (S : Sto) : m_is_fraction [.tup [.int a, .int b]] S = .ok (.bl true) S := by
  have e := fun S => dIs_ap [] [.inl "tuple"] (.tup [.int a, .int b]) S (k := .inl "tuple") rfl rfl
  simp -implicitDefEqProofs [m_is_fraction, b_is_fraction, e, isK, kitP, m_is_integer_int, h]
end PM
end
section
set_option Elab.async false
set_option linter.all false
set_option maxRecDepth 100000
set_option maxHeartbeats 2000000
set_option exponentiation.threshold 10000
namespace PM
open PySem L2
end PM
end
section
set_option Elab.async false
set_option linter.all false
set_option maxRecDepth 100000
set_option maxHeartbeats 2000000
set_option exponentiation.threshold 10000
namespace PM
open PySem L2
end PM
end
section
set_option Elab.async false
set_option linter.all false
set_option maxRecDepth 100000
set_option maxHeartbeats 2000000
set_option exponentiation.threshold 10000
namespace PM
open PySem L2
/-- of a size that can be reckoned with -/
def Sz (q : Rat) : Prop := q.den < 2 ^ 4000 ∧ q.num.natAbs < 2 ^ 4000
def pre (vs : List Rat) (k : Nat) : Rat := (vs.take k).sum
end PM
end
section
set_option Elab.async false
set_option linter.all false
set_option maxRecDepth 100000
set_option maxHeartbeats 2000000
set_option exponentiation.threshold 10000
namespace PM
open PySem L2
end PM
end
section
set_option linter.all false
namespace PM
def pts (v : Nat → Rat) (k : Nat) : Rat := sm k v
theorem pts_zero (v : Nat → Rat) : pts v 0 = 0 := rfl
theorem pts_succ (v : Nat → Rat) (k : Nat) : pts v (k + 1) = pts v k + v k := sm_succ k v
/-- positive areas -/
def Pos (a : Nat → Rat) : Prop := ∀ i, 0 < a i
end PM
end
section
set_option linter.all false
namespace PM
def ab (q : Rat) : Rat := if q < 0 then -q else q
/-- the first basin of a run, the one behind its last one -/
def lo (W : List Nat) : Nat → Nat
  | 0 => 0
  | i + 1 => if i + 1 ∈ W then lo W i else i + 1
end PM
end
section
set_option Elab.async false
set_option linter.all false
set_option maxRecDepth 100000
set_option maxHeartbeats 2000000
set_option exponentiation.threshold 10000
namespace PM
open PySem L2
/-- the draw's cell -/
def dr (ns : List Int) (k : Int) : Cell := .lst [.scr ns, .int k]
end PM
end
section
set_option Elab.async false
set_option linter.all false
set_option maxRecDepth 100000
set_option maxHeartbeats 2000000
set_option exponentiation.threshold 20000
namespace PM
open PySem L2
/-- a Line that stands behind so many cells -/
def lnL (n : Nat) (as : List Int) (B : Int) (ts bs : List Int) : List Cell := [.obj "Line" [("areas", .tup (as.map .int)), ("bottom", .int B), ("tops", .ptr (n + 1)), ("bottoms", .ptr (n + 2))], .lst (ts.map .int), .lst (bs.map .int)]
/-- what stands in a Line: the points P over the bottom B -/
structure LnC (n : Nat) (B : Int) (P : Nat → Rat) (ts bs : List Int) : Prop where
  tl : ts.length = n + 1
  bl : bs.length = n + 1
  B0 : 0 < B
  bp : ∀ (k : Nat) (b : Int), bs[k]? = some b → 0 < b ∧ b ∣ B
  eq : ∀ (k : Nat) (t b : Int), ts[k]? = some t → bs[k]? = some b → (t : Rat) = P k * b
def IsLn (S0 : Sto) (as : List Int) (B : Int) (P : Nat → Rat) (S : Sto) : Prop := ∃ ts bs, S = S0 ++ lnL S0.length as B ts bs ∧ LnC as.length B P ts bs
/-- a bound of points -/
def Bd (M : Nat) (n : Nat) (P : Nat → Rat) : Prop := ∀ k, k ≤ n → -((M : Int) : Rat) ≤ P k ∧ P k ≤ ((M : Int) : Rat)
theorem top_size {M : Nat} {p : Rat} {t b : Int} (hb : 0 < b) (h1 : -((M : Int) : Rat) ≤ p) (h2 : p ≤ ((M : Int) : Rat)) (e : (t : Rat) = p * b) : t.natAbs ≤ M * b.natAbs := by
  have b0 : (0 : Rat) ≤ (b : Rat) := by exact_mod_cast Int.le_of_lt hb
  have m1 := Rat.mul_le_mul_of_nonneg_right h1 b0
  have m2 := Rat.mul_le_mul_of_nonneg_right h2 b0
  rw [← e] at m1 m2
  have n1 : -((M : Int) * b) ≤ t := by
    have : ((-((M : Int) * b) : Int) : Rat) ≤ (t : Rat) := by
      push_cast
      push_cast at m1
      grind
    exact_mod_cast this
  have n2 : t ≤ (M : Int) * b := by
    have : (t : Rat) ≤ (((M : Int) * b : Int) : Rat) := by
      push_cast
      push_cast at m2
      exact m2
    exact_mod_cast this
  have : ((M * b.natAbs : Nat) : Int) = (M : Int) * b := by
    rw [Int.natCast_mul]
    congr 1
    omega
  omega
theorem g0 (S : Sto) (a b c : Cell) : (S ++ [a, b, c])[S.length]? = some a := by simp
theorem g1 (S : Sto) (a b c : Cell) : (S ++ [a, b, c])[S.length + 1]? = some b := by
  rw [List.getElem?_append_right (by omega)]
  simp
theorem g2 (S : Sto) (a b c : Cell) : (S ++ [a, b, c])[S.length + 2]? = some c := by
  rw [List.getElem?_append_right (by omega)]
  simp
theorem s0 (S : Sto) (a b c d : Cell) : (S ++ [a, b, c]).set S.length d = S ++ [d, b, c] := by simp [List.set_append]
theorem s1 (S : Sto) (a b c d : Cell) : (S ++ [a, b, c]).set (S.length + 1) d = S ++ [a, d, c] := by
  rw [List.set_append_right _ _ (by omega)]
  simp
theorem s2 (S : Sto) (a b c d : Cell) : (S ++ [a, b, c]).set (S.length + 2) d = S ++ [a, b, d] := by
  rw [List.set_append_right _ _ (by omega)]
  simp
end PM
end
section
set_option Elab.async false
set_option linter.all false
set_option maxRecDepth 100000
set_option maxHeartbeats 2000000
set_option exponentiation.threshold 20000
namespace PM
open PySem L2
theorem IsLn.ins {S0 S : Sto} {as : List Int} {B : Int} {P : Nat → Rat} (h : IsLn S0 as B P S) (m : Str) (hm : [("areas" : Str), "bottom", "tops", "bottoms"].contains m = false) : insOf S "Line" m (.ptr S0.length) = true := by
  obtain ⟨ts, bs, rfl, c⟩ := h
  unfold lnL
  rw [insOf_ptr, g0]
  simp only [List.contains_cons, List.contains_nil, Bool.or_eq_false_iff] at hm
  obtain ⟨h1, h2, h3, h4, _⟩ := hm
  simp [List.lookup_cons, h1, h2, h3, h4]
theorem IsLn.get {S0 S : Sto} {as : List Int} {B : Int} {P : Nat → Rat} (h : IsLn S0 as B P S) : S[S0.length]? = some (.obj "Line" [("areas", .tup (as.map .int)), ("bottom", .int B), ("tops", .ptr (S0.length + 1)), ("bottoms", .ptr (S0.length + 2))]) := by
  obtain ⟨ts, bs, rfl, c⟩ := h
  exact g0 _ _ _ _
theorem IsLn.pos {S0 S : Sto} {as : List Int} {B : Int} {P : Nat → Rat} (h : IsLn S0 as B P S) : 0 < B := by
  obtain ⟨ts, bs, rfl, c⟩ := h
  exact c.B0
end PM
end
section
set_option Elab.async false
set_option linter.all false
set_option maxRecDepth 100000
set_option maxHeartbeats 2000000
set_option exponentiation.threshold 20000
namespace PM
open PySem L2
end PM
end
section
set_option Elab.async false
set_option linter.all false
set_option maxRecDepth 100000
set_option maxHeartbeats 2000000
set_option exponentiation.threshold 20000
namespace PM
open PySem L2
/-- volumes over K, all together M at most -/
structure RV (n K M : Nat) (v : Nat → Rat) : Prop where
  k0 : 0 < K
  den : ∀ i, i < n → ∃ t : Int, v i * (K : Rat) = t
  nn : ∀ i, i < n → 0 ≤ v i
  tot : pts v n ≤ (M : Rat)
theorem den_dvd {q : Rat} {K : Nat} {t : Int} (h : q * (K : Rat) = t) : q.den ∣ K := by
  have e := rat_num_den q
  have hd : ((q.den : Int) : Rat) ≠ 0 := cast_ne (by have := q.den_pos; omega)
  have h2 : (q.num : Rat) * (K : Rat) = (t : Rat) * ((q.den : Int) : Rat) := by
    rw [← h]
    conv => rhs; rw [← e]
    grind
  have h3 : q.num * (K : Int) = t * (q.den : Int) := by exact_mod_cast h2
  have h4 : (q.den : Int) ∣ q.num * (K : Int) := ⟨t, by rw [h3, Int.mul_comm]⟩
  have h5 : q.den ∣ q.num.natAbs * K := by
    have := Int.natAbs_dvd_natAbs.mpr h4
    rwa [Int.natAbs_mul, Int.natAbs_natCast, Int.natAbs_natCast] at this
  exact Nat.Coprime.dvd_of_dvd_mul_left (Nat.Coprime.symm q.reduced) h5
theorem num_le {q : Rat} {M : Nat} (h1 : -(M : Rat) ≤ q) (h2 : q ≤ (M : Rat)) : q.num.natAbs ≤ M * q.den := by
  have := top_size (M := M) (p := q) (t := q.num) (b := (q.den : Int)) (by have := q.den_pos; omega) (by exact_mod_cast h1) (by exact_mod_cast h2) (by
    have e := rat_num_den q
    have hd : ((q.den : Int) : Rat) ≠ 0 := cast_ne (by have := q.den_pos; omega)
    conv => rhs; rw [← e]
    grind)
  simpa using this
/-- of a size to be reckoned with: over K, M at most -/
theorem sz_of {q : Rat} {K M : Nat} {t : Int} (k0 : 0 < K) (h : q * (K : Rat) = t) (h1 : -(M : Rat) ≤ q) (h2 : q ≤ (M : Rat)) (hs : M * K < 2 ^ 4000) (hk : K < 2 ^ 4000) : Sz q := by
  have d := Nat.le_of_dvd k0 (den_dvd h)
  have n := num_le h1 h2
  have : M * q.den ≤ M * K := Nat.mul_le_mul_left M d
  exact ⟨by omega, by omega⟩
section
variable {n K M : Nat} {v : Nat → Rat} (h : RV n K M v)
include h
theorem RV.pnn : ∀ {k}, k ≤ n → 0 ≤ pts v k
  | 0, _ => by rw [pts_zero]; exact Rat.le_refl
  | k + 1, hk => by
    rw [pts_succ]
    have := RV.pnn (k := k) (by omega)
    have := h.nn k (by omega)
    grind
theorem RV.ple {k j : Nat} (hk : k ≤ j) (hj : j ≤ n) : pts v k ≤ pts v j := by
  induction j with
  | zero => have : k = 0 := by omega
            subst this
            exact Rat.le_refl
  | succ j ih =>
    by_cases e : k = j + 1
    · subst e
      exact Rat.le_refl
    · have := ih (by omega) (by omega)
      have := h.nn j (by omega)
      rw [pts_succ]
      grind
theorem RV.pM {k : Nat} (hk : k ≤ n) : pts v k ≤ (M : Rat) := Rat.le_trans (h.ple hk (Nat.le_refl _)) h.tot
theorem RV.pden : ∀ {k}, k ≤ n → ∃ t : Int, pts v k * (K : Rat) = t
  | 0, _ => ⟨0, by rw [pts_zero]; simp⟩
  | k + 1, hk => by
    obtain ⟨t, e⟩ := RV.pden (k := k) (by omega)
    obtain ⟨s, f⟩ := h.den k (by omega)
    refine ⟨t + s, ?_⟩
    rw [pts_succ]
    push_cast
    rw [← e, ← f]
    grind
theorem RV.bd : Bd M n (pts v) := fun k hk => by
  have a := h.pnn hk
  have b := h.pM hk
  have : (0 : Rat) ≤ ((M : Int) : Rat) := by exact_mod_cast Int.natCast_nonneg M
  have c : pts v k ≤ ((M : Int) : Rat) := by exact_mod_cast b
  exact ⟨by grind, c⟩
theorem RV.vM {i : Nat} (hi : i < n) : v i ≤ (M : Rat) := by
  have a := h.pM (k := i + 1) (by omega)
  have b := h.pnn (k := i) (by omega)
  rw [pts_succ] at a
  grind
end
end PM
end
section
set_option Elab.async false
set_option linter.all false
set_option maxRecDepth 100000
set_option maxHeartbeats 2000000
set_option exponentiation.threshold 30000
namespace PM
open PySem L2
/-- not too great -/
def Sy (q : Rat) : Prop := q.den < 2 ^ 8900 ∧ q.num.natAbs < 2 ^ 20000
theorem m_plus_oy (p q : Rat) (hp : p.den < 2 ^ 8900) (hq : q.den < 2 ^ 8900) (hn : p.num.natAbs < 2 ^ 20000) (hm : q.num.natAbs < 2 ^ 20000) (S : Sto) : m_plus [fr p, fr q] S = .ok (fr (p + q)) S := by
  obtain ⟨e1, e2⟩ := rat_add_parts p q
  have p0 := p.den_pos
  have q0 := q.den_pos
  have g0 : 0 < Nat.gcd p.den q.den := Nat.gcd_pos_of_pos_left _ p0
  have gl : Nat.gcd p.den q.den ≤ p.den := Nat.le_of_dvd p0 (Nat.gcd_dvd_left _ _)
  have gl2 : (Nat.gcd p.den q.den).log2 < 9000 := lg_mono (Nat.lt_of_le_of_lt gl hp) (by decide) (by decide)
  have l1 : p.num.natAbs.log2 + (q.den / Nat.gcd p.den q.den).log2 < 1000000 := by
    have a := lg_of hn (by decide)
    have b := lg_of (Nat.lt_of_le_of_lt (Nat.div_le_self q.den (Nat.gcd p.den q.den)) hq) (by decide)
    omega
  have l2 : q.num.natAbs.log2 + (p.den / Nat.gcd p.den q.den).log2 < 1000000 := by
    have a := lg_of hm (by decide)
    have b := lg_of (Nat.lt_of_le_of_lt (Nat.div_le_self p.den (Nat.gcd p.den q.den)) hp) (by decide)
    omega
  generalize ht : p.num * ((q.den / Nat.gcd p.den q.den : Nat) : Int) + q.num * ((p.den / Nat.gcd p.den q.den : Nat) : Int) = top at e1 e2
  have r0 : 0 < Nat.gcd top.natAbs (Nat.gcd p.den q.den) := Nat.gcd_pos_of_pos_right _ g0
  have rl : Nat.gcd top.natAbs (Nat.gcd p.den q.den) ≤ p.den := Nat.le_trans (Nat.le_of_dvd g0 (Nat.gcd_dvd_right _ _)) gl
  have rl2 : (Nat.gcd top.natAbs (Nat.gcd p.den q.den)).log2 < 9000 := lg_mono (Nat.lt_of_le_of_lt rl hp) (by decide) (by decide)
  have l3 : (p.den / Nat.gcd p.den q.den).log2 + (q.den / Nat.gcd top.natAbs (Nat.gcd p.den q.den)).log2 < 1000000 := by
    have a := lg_of (Nat.lt_of_le_of_lt (Nat.div_le_self p.den (Nat.gcd p.den q.den)) hp) (by decide)
    have b := lg_of (Nat.lt_of_le_of_lt (Nat.div_le_self q.den (Nat.gcd top.natAbs (Nat.gcd p.den q.den))) hq) (by decide)
    omega
  have ce : ((q.den : Int) / (Nat.gcd p.den q.den : Int)).natAbs = q.den / Nat.gcd p.den q.den := by
    rw [← Int.natCast_ediv]
    rfl
  simp only [fr, e1, e2]
  simp at ht
  simp -implicitDefEqProofs [m_plus, b_plus, p0, q0, gl2, nad, l1, l2]
  rw [ht]
  simp -implicitDefEqProofs [p0, q0, gl2, rl2, nad, l3]
theorem m_minus_oy (p q : Rat) (hp : p.den < 2 ^ 8900) (hq : q.den < 2 ^ 8900) (hn : p.num.natAbs < 2 ^ 20000) (hm : q.num.natAbs < 2 ^ 20000) (S : Sto) : m_minus [fr p, fr q] S = .ok (fr (p - q)) S := by
  have h := m_plus_oy p (-q) hp (by simpa using hq) hn (by simpa using hm) S
  rw [← Rat.sub_eq_add_neg] at h
  have e := fr_neg q
  simp only [fr] at e h ⊢
  rw [← e] at h
  simp -implicitDefEqProofs [m_minus, b_minus, h]
theorem m_times_oy (p q : Rat) (hp : p.den < 2 ^ 8900) (hq : q.den < 2 ^ 8900) (hn : p.num.natAbs < 2 ^ 20000) (hm : q.num.natAbs < 2 ^ 20000) (S : Sto) : m_times [fr p, fr q] S = .ok (fr (p * q)) S := by
  obtain ⟨e1, e2⟩ := rat_mul_parts p q
  have p0 := p.den_pos
  have q0 := q.den_pos
  have gl : Nat.gcd p.num.natAbs q.den ≤ q.den := Nat.le_of_dvd q0 (Nat.gcd_dvd_right _ _)
  have gl2 : (Nat.gcd p.num.natAbs q.den).log2 < 9000 := lg_mono (Nat.lt_of_le_of_lt gl hq) (by decide) (by decide)
  have gr : Nat.gcd q.num.natAbs p.den ≤ p.den := Nat.le_of_dvd p0 (Nat.gcd_dvd_right _ _)
  have gr2 : (Nat.gcd q.num.natAbs p.den).log2 < 9000 := lg_mono (Nat.lt_of_le_of_lt gr hp) (by decide) (by decide)
  have l1 : (p.num / (Nat.gcd p.num.natAbs q.den : Int)).natAbs.log2 + (q.num / (Nat.gcd q.num.natAbs p.den : Int)).natAbs.log2 < 1000000 := by
    have a := lg_of (Nat.lt_of_le_of_lt (Int.natAbs_ediv_le_natAbs p.num (Nat.gcd p.num.natAbs q.den : Int)) hn) (by decide)
    have b := lg_of (Nat.lt_of_le_of_lt (Int.natAbs_ediv_le_natAbs q.num (Nat.gcd q.num.natAbs p.den : Int)) hm) (by decide)
    omega
  have l3 : (p.den / Nat.gcd q.num.natAbs p.den).log2 + (q.den / Nat.gcd p.num.natAbs q.den).log2 < 1000000 := by
    have a := lg_of (Nat.lt_of_le_of_lt (Nat.div_le_self p.den (Nat.gcd q.num.natAbs p.den)) hp) (by decide)
    have b := lg_of (Nat.lt_of_le_of_lt (Nat.div_le_self q.den (Nat.gcd p.num.natAbs q.den)) hq) (by decide)
    omega
  simp only [fr, e1, e2]
  simp -implicitDefEqProofs [m_times, b_times, p0, q0, gl2, gr2, nad, l1, l3]
end PM
end
section
set_option Elab.async false
set_option linter.all false
set_option maxRecDepth 100000
set_option maxHeartbeats 2000000
set_option exponentiation.threshold 30000
namespace PM
open PySem L2
/-- the first n of fractions, as data -/
def frL (n : Nat) (c : Nat → Rat) : List D := (List.range n).map fun i => fr (c i)
@[simp] theorem frL_len (n : Nat) (c : Nat → Rat) : (frL n c).length = n := by simp [frL]
theorem frL_get (n : Nat) (c : Nat → Rat) {i : Nat} (h : i < n) : (frL n c)[i]? = some (fr (c i)) := by
  unfold frL
  rw [List.getElem?_map, List.getElem?_range h]
  rfl
theorem frL_congr {n : Nat} {c d : Nat → Rat} (h : ∀ i, i < n → c i = d i) : frL n c = frL n d := List.map_congr_left fun i hi => by rw [h i (List.mem_range.mp hi)]
theorem frL_zip {n m : Nat} (h : n ≤ m) (c x : Nat → Rat) : zipD (frL n c) (frL m x) = (List.range n).map fun i => D.tup [fr (c i), fr (x i)] := by
  unfold zipD
  refine List.ext_getElem? fun i => ?_
  by_cases hi : i < n
  · have z : ((frL n c).zip (frL m x))[i]? = some (fr (c i), fr (x i)) := List.getElem?_zip_eq_some.mpr ⟨frL_get n c hi, frL_get m x (Nat.lt_of_lt_of_le hi h)⟩
    rw [List.getElem?_map, z, List.getElem?_map, List.getElem?_range hi]
    rfl
  · rw [List.getElem?_eq_none (by simp; omega), List.getElem?_eq_none (by simp; omega)]
theorem dot_ok {n m : Nat} (h : n ≤ m) {c x : Nat → Rat} (hc : ∀ i, i < n → Sy (c i)) (hx : ∀ i, i < n → Sy (x i)) (hp : ∀ i, i < n → Sy (c i * x i)) (ht : ∀ k, k < n → Sy (sm k fun i => c i * x i)) (S : Sto) : m_dot [.lst (frL n c), .lst (frL m x)] S = .ok (fr (sm n fun i => c i * x i)) S := by
  have zp := frL_zip h c x
  have f0 : fr 0 = .tup [.int 0, .int 1] := rfl
  generalize frL n c = A at *
  generalize frL m x = B at *
  simp -implicitDefEqProofs [m_dot, b_dot, rdS, oM, okSrc, zp]
  refine forGo_rule (G := fun o => toOut (o.andThen _) = .ok (fr (sm n fun i => c i * x i)) S) (fun k e S' => S' = S ∧ ∃ a3 a4, e = ⟨[some (.lst A), some (.lst B), some (fr (sm k fun i => c i * x i)), a3, a4], none⟩) ?_ ?_ ?_
  · exact ⟨rfl, _, _, by rw [sm_zero, f0]⟩
  · rintro k d e S' hk ⟨rfl, a3, a4, rfl⟩
    have kn := (List.getElem?_eq_some_iff.mp hk).1
    rw [List.length_map, List.length_range] at kn
    rw [List.getElem?_map, List.getElem?_range kn] at hk
    injection hk with hk
    subst hk
    refine ⟨rfl, ⟨[some (.lst A), some (.lst B), some (fr (sm k fun i => c i * x i)), some (fr (c k)), some (fr (x k))], none⟩, rfl, ?_⟩
    have tm := fun S => m_times_oy (c k) (x k) (hc k kn).1 (hx k kn).1 (hc k kn).2 (hx k kn).2 S
    have pl := fun S => m_plus_oy (sm k fun i => c i * x i) (c k * x k) (ht k kn).1 (hp k kn).1 (ht k kn).2 (hp k kn).2 S
    have e : sm (k + 1) (fun i => c i * x i) = sm k (fun i => c i * x i) + c k * x k := sm_succ k _
    rw [← e] at pl
    clear hc hx hp ht zp
    generalize fr (sm k fun i => c i * x i) = F0 at *
    generalize fr (sm (k + 1) fun i => c i * x i) = F1 at *
    generalize fr (c k * x k) = F2 at *
    generalize fr (c k) = F3 at *
    generalize fr (x k) = F4 at *
    simp -implicitDefEqProofs [tm, pl]
  · rintro e S' ⟨rfl, a3, a4, rfl⟩
    rw [List.length_map, List.length_range]
    refine ⟨rfl, ?_⟩
    simp -implicitDefEqProofs
theorem fr_of {q : Rat} {a b : Int} (hb : 0 < b) (h : (a.natAbs).Coprime b.natAbs) (e : q * (b : Rat) = a) : fr q = .tup [.int a, .int b] := by
  have : q = (a : Rat) / (b : Rat) := by
    have : (b : Rat) ≠ 0 := cast_ne (by omega)
    rw [← e]
    grind
  subst this
  obtain ⟨n, hn⟩ : ∃ n : Nat, b = (n : Int) := ⟨b.toNat, by omega⟩
  subst hn
  have h1 : ((a : Rat) / ((n : Int) : Rat)) = ⟨a, n, by omega, by simpa using h⟩ := by
    have := rat_num_den ⟨a, n, by omega, by simpa using h⟩
    exact this
  rw [h1]
  rfl
theorem inv_ok {q : Rat} (h : q ≠ 0) (S : Sto) : m_reduced_inverse [fr q] S = .ok (fr (1 / q)) S := by
  have e := rat_num_den q
  have dp := q.den_pos
  have red := q.reduced
  have n0 : q.num ≠ 0 := fun z => h (by rw [← e, z]; simp [Rat.div_def])
  have nr : (q.num : Rat) ≠ 0 := cast_ne n0
  have dr : ((q.den : Int) : Rat) ≠ 0 := cast_ne (by omega)
  by_cases c : q.num > 0
  · have f : fr (1 / q) = .tup [.int q.den, .int q.num] := fr_of c (by simpa using red.symm) (by
      generalize ((q.den : Int) : Rat) = Y at *
      generalize (q.num : Rat) = N at *
      subst e
      grind)
    rw [f]
    unfold fr
    simp -implicitDefEqProofs [m_reduced_inverse, b_reduced_inverse, c]
  · have f : fr (1 / q) = .tup [.int (-q.den), .int (-q.num)] := fr_of (by omega) (by simpa using red.symm) (by
      rw [Rat.intCast_neg, Rat.intCast_neg]
      generalize ((q.den : Int) : Rat) = Y at *
      generalize (q.num : Rat) = N at *
      subst e
      grind)
    rw [f]
    unfold fr
    simp -implicitDefEqProofs [m_reduced_inverse, b_reduced_inverse, c]
/-- behind k steps of the mending -/
def mdK (c e : Nat → Rat) (s : Nat) (p : Rat) (k i : Nat) : Rat := if s ≤ i ∧ i < s + k then c i - p * e (i - s) else c i
theorem mdK_md {c e : Nat → Rat} {s ne : Nat} {p : Rat} (he : ∀ i, ne ≤ i → e i = 0) (i : Nat) : mdK c e s p ne i = md c e s p i := by
  unfold mdK md
  by_cases h1 : s ≤ i
  · by_cases h2 : i < s + ne
    · rw [if_pos ⟨h1, h2⟩, if_pos h1]
    · rw [if_neg (by omega), if_pos h1, he (i - s) (by omega)]
      grind
  · rw [if_neg (by omega), if_neg h1]
    grind
theorem frL_set {n k : Nat} {c d : Nat → Rat} (hk : k < n) (h : ∀ i, i ≠ k → c i = d i) : (frL n c).set k (fr (d k)) = frL n d := by
  refine List.ext_getElem? fun i => ?_
  by_cases hi : i < n
  · rw [frL_get n d hi]
    by_cases e : i = k
    · rw [e, List.getElem?_set_self (by simpa using hk)]
    · rw [List.getElem?_set_ne (fun z => e z.symm), frL_get n c hi, h i e]
  · rw [List.getElem?_eq_none (by simp; omega), List.getElem?_eq_none (by simp; omega)]
theorem frL_pad {n m : Nat} {c : Nat → Rat} (hc : ∀ i, n ≤ i → c i = 0) : frL n c ++ (List.replicate m [D.tup [.int 0, .int 1]]).flatten = frL (n + m) c := by
  have f0 : fr 0 = .tup [.int 0, .int 1] := rfl
  have : (List.replicate m [D.tup [.int 0, .int 1]]).flatten = List.replicate m (.tup [.int 0, .int 1]) := by
    induction m with
    | zero => rfl
    | succ m ih => rw [List.replicate_succ, List.flatten_cons, ih, List.replicate_succ]; rfl
  rw [this]
  unfold frL
  rw [List.range_add, List.map_append, List.map_map]
  congr 1
  refine List.ext_getElem? fun i => ?_
  by_cases hi : i < m
  · rw [List.getElem?_map, List.getElem?_range hi, List.getElem?_replicate, if_pos hi]
    show _ = some (fr (c (n + i)))
    rw [hc (n + i) (by omega), f0]
  · rw [List.getElem?_eq_none (by simp; omega), List.getElem?_eq_none (by simp; omega)]
theorem mend_ok {nc ne s nr : Nat} (hr : nr = max nc (s + ne)) (hs : s ≤ 400) (h1 : nc ≤ 400) (h2 : ne ≤ 400) {c e : Nat → Rat} {p : Rat} (hc0 : ∀ i, nc ≤ i → c i = 0) (he0 : ∀ i, ne ≤ i → e i = 0) (hp : Sy p) (hc : ∀ i, i < nr → Sy (c i)) (he : ∀ i, i < ne → Sy (e i)) (hpe : ∀ i, i < ne → Sy (p * e i)) (S : Sto) : m_mend [.lst (frL nc c), .lst (frL ne e), .int s, fr p] S = .ok (.lst (frL nr (md c e s p))) (S ++ [.dead]) := by
  have pad : frL nc c ++ List.replicate (((s : Int) + (ne : Int)).toNat - nc) (D.tup [.int 0, .int 1]) = frL nr c := by
    have := frL_pad (m := ((s : Int) + (ne : Int)).toNat - nc) hc0
    have fl : (List.replicate (((s : Int) + (ne : Int)).toNat - nc) [D.tup [.int 0, .int 1]]).flatten = List.replicate (((s : Int) + (ne : Int)).toNat - nc) (D.tup [.int 0, .int 1]) := by simp
    rw [fl] at this
    rw [this]
    congr 1
    omega
  have lim1 : (List.replicate (((s : Int) + (ne : Int)).toNat - nc) (D.tup [.int 0, .int 1])).length = ((s : Int) + (ne : Int)).toNat - nc := List.length_replicate
  have nm : numD (frL ne e) = (List.range ne).map fun i : Nat => D.tup [.int (i : Nat), fr (e i)] := by
    unfold numD
    rw [frL_len]
    refine List.map_congr_left fun i hi => ?_
    rw [List.getD_eq_getElem?_getD, frL_get ne e (List.mem_range.mp hi)]
    rfl
  have c1 : (nc : Int) < 9223372036854775808 ∧ (ne : Int) < 9223372036854775808 := by omega
  have c2 : nc < 18446744073709551616 ∧ ne < 18446744073709551616 := by omega
  have c3 : -1000 ≤ (s : Int) + (ne : Int) - (nc : Int) ∧ (s : Int) + (ne : Int) - (nc : Int) ≤ 1000 ∧ (s : Int) + (ne : Int) ≤ 100000 + (nc : Int) := by omega
  have c4 : nc + (((s : Int) + (ne : Int)).toNat - nc) ≤ 100000 := by omega
  have lA : (frL nc c).length = nc := frL_len nc c
  have lB : (frL ne e).length = ne := frL_len ne e
  have m0 : frL nr c = frL nr (mdK c e s p 0) := frL_congr fun i _ => by unfold mdK; rw [if_neg (by omega)]
  rw [m0] at pad
  generalize hA : frL nc c = A at *
  generalize hB : frL ne e = B at *
  generalize hZ : List.replicate (((s : Int) + (ne : Int)).toNat - nc) (D.tup [.int 0, .int 1]) = Z at *
  simp -implicitDefEqProofs [m_mend, b_mend, lA, lB, c1, c2, c3, c4, hZ, lim1, dAddC, pad, nm, rdS, oM, okSrc]
  refine forGo_rule (G := fun o => toOut (o.andThen _) = .ok (.lst (frL nr (md c e s p))) (S ++ [.dead])) (fun k e' S' => S' = S ++ [.lst (frL nr (mdK c e s p k))] ∧ ∃ a5 a6, e' = ⟨[some (.lst A), some (.lst B), some (.int s), some (fr p), some (.ptr S.length), a5, a6], none⟩) ?_ ?_ ?_
  · exact ⟨rfl, _, _, rfl⟩
  · rintro k d e' S' hk ⟨rfl, a5, a6, rfl⟩
    have kn := (List.getElem?_eq_some_iff.mp hk).1
    rw [List.length_map, List.length_range] at kn
    rw [List.getElem?_map, List.getElem?_range kn] at hk
    injection hk with hk
    subst hk
    refine ⟨rfl, ⟨[some (.lst A), some (.lst B), some (.int s), some (fr p), some (.ptr S.length), some (.int k), some (fr (e k))], none⟩, rfl, ?_⟩
    have kr : s + k < nr := by omega
    have here : mdK c e s p k (s + k) = c (s + k) := by unfold mdK; rw [if_neg (by omega)]
    have nxt : mdK c e s p (k + 1) (s + k) = c (s + k) - p * e k := by
      unfold mdK
      rw [if_pos (by omega), show s + k - s = k by omega]
    have tm := fun S => m_times_oy p (e k) hp.1 (he k kn).1 hp.2 (he k kn).2 S
    have mi := fun S => m_minus_oy (c (s + k)) (p * e k) (hc _ kr).1 (hpe k kn).1 (hc _ kr).2 (hpe k kn).2 S
    have ge : atI (frL nr (mdK c e s p k)) ((s : Int) + (k : Int)) = some (fr (c (s + k))) := by
      have := atI_get (frL_get nr (mdK c e s p k) kr)
      rw [here] at this
      rwa [show ((s : Int) + (k : Int)) = ((s + k : Nat) : Int) by omega]
    have ix : ixN nr ((s : Int) + (k : Int)) = some (s + k) := by
      have := ixN_of (n := nr) (i := (s : Int) + (k : Int)) (by omega) (by omega)
      rw [this]
      first | rfl | (congr 1; omega) | congr 1
    have st : (frL nr (mdK c e s p k)).set (s + k) (fr (c (s + k) - p * e k)) = frL nr (mdK c e s p (k + 1)) := by
      have := frL_set (n := nr) (k := s + k) (c := mdK c e s p k) (d := mdK c e s p (k + 1)) kr fun i hi => by
        unfold mdK
        by_cases q : s ≤ i ∧ i < s + k
        · rw [if_pos q, if_pos (by omega)]
        · rw [if_neg q, if_neg (by omega)]
      rwa [nxt] at this
    have lF : (frL nr (mdK c e s p k)).length = nr := frL_len _ _
    clear hc he hpe nm pad
    generalize frL nr (mdK c e s p k) = F at *
    generalize frL nr (mdK c e s p (k + 1)) = F1 at *
    generalize fr (c (s + k) - p * e k) = G1 at *
    generalize fr (c (s + k)) = G2 at *
    generalize fr (p * e k) = G3 at *
    generalize fr (e k) = G4 at *
    generalize fr p = G5 at *
    simp -implicitDefEqProofs [tm, mi, ge, dSet, cellL, oM, putL, lF, ix, st, ap_get, ap_set, app1_set]
  · rintro e' S' ⟨rfl, a5, a6, rfl⟩
    rw [List.length_map, List.length_range]
    have fin : frL nr (mdK c e s p ne) = frL nr (md c e s p) := frL_congr fun i _ => mdK_md he0 i
    rw [fin]
    refine ⟨rfl, ?_⟩
    simp -implicitDefEqProofs [sFrz, setS, ap_get, ap_set, app1_set]
end PM
end
section
set_option Elab.async false
set_option linter.all false
set_option maxRecDepth 100000
set_option maxHeartbeats 2000000
set_option exponentiation.threshold 30000
namespace PM
open PySem L2
theorem sy_of {q : Rat} {K : Nat} {t : Int} {A B : Nat} (k0 : 0 < K) (h : q * (K : Rat) = t) (hK : K ≤ 2 ^ A) (ht : t.natAbs ≤ 2 ^ B) (hA : A < 8900) (hB : B < 20000) : Sy q := by
  have dv := den_dvd h
  have d1 := Nat.le_of_dvd k0 dv
  have e := rat_num_den q
  have d0 := q.den_pos
  obtain ⟨m, hm⟩ := dv
  have mp : 0 < m := Nat.pos_of_ne_zero fun z => by rw [z, Nat.mul_zero] at hm; omega
  have nt : q.num * (m : Int) = t := by
    have dr : ((q.den : Int) : Rat) ≠ 0 := cast_ne (by omega)
    have : (q.num : Rat) * ((m : Int) : Rat) = (t : Rat) := by
      rw [← h, hm]
      have kr : ((q.den * m : Nat) : Rat) = ((q.den : Int) : Rat) * ((m : Int) : Rat) := by
        rw [Rat.natCast_mul]
        rfl
      rw [kr]
      conv => rhs; rw [← e]
      grind
    exact_mod_cast this
  have n1 : q.num.natAbs ≤ t.natAbs := by
    rw [← nt, Int.natAbs_mul]
    exact Nat.le_mul_of_pos_right _ (by omega)
  exact ⟨Nat.lt_of_le_of_lt d1 (Nat.lt_of_le_of_lt hK (Nat.pow_lt_pow_right (by decide) hA)), Nat.lt_of_le_of_lt n1 (Nat.lt_of_le_of_lt ht (Nat.pow_lt_pow_right (by decide) hB))⟩
/-- weights over one bottom: q times 2 ^ a for each step back -/
structure Vq (a : Nat) (c : Nat → Rat) (q B : Nat) : Prop where
  q0 : 0 < q
  qB : q ≤ 2 ^ B
  en : ∀ i, ∃ t : Int, c i * ((2 ^ (a * i) * q : Nat) : Rat) = t ∧ t.natAbs ≤ 2 ^ B
/-- numbers over powers of 2 -/
def Xz (a w g n : Nat) (x : Nat → Rat) : Prop := ∀ t, t < n → ∃ y : Int, x t * ((2 ^ (a * t + w) : Nat) : Rat) = y ∧ y.natAbs ≤ 2 ^ (a * t + g)
variable {a w g n N : Nat} {x c e : Nat → Rat} {q B : Nat}
theorem p2pos (k : Nat) : 0 < 2 ^ k := Nat.two_pow_pos k
/-- one product -/
theorem prod_z (hx : Xz a w g n x) (hN : N < n) (hc : Vq a c q B) {i : Nat} (hi : i ≤ N) : ∃ t : Int, c i * x (N - i) * ((2 ^ (a * N + w) * q : Nat) : Rat) = t ∧ t.natAbs ≤ 2 ^ (B + a * N + g) := by
  obtain ⟨t, e1, b1⟩ := hc.en i
  obtain ⟨y, e2, b2⟩ := hx (N - i) (by omega)
  refine ⟨t * y, ?_, ?_⟩
  · have : 2 ^ (a * N + w) * q = (2 ^ (a * i) * q) * 2 ^ (a * (N - i) + w) := by
      have : a * N + w = a * i + (a * (N - i) + w) := by
        have : a * N = a * i + a * (N - i) := by rw [← Nat.mul_add]; congr 1; omega
        omega
      rw [this, Nat.pow_add]
      grind
    rw [this, Rat.natCast_mul, Rat.intCast_mul, ← e1, ← e2]
    grind
  · rw [Int.natAbs_mul]
    refine Nat.le_trans (Nat.mul_le_mul b1 b2) ?_
    rw [← Nat.pow_add]
    refine Nat.pow_le_pow_right (by decide) ?_
    have : a * (N - i) ≤ a * N := Nat.mul_le_mul_left a (by omega)
    omega
/-- sums of products -/
theorem sum_z (hx : Xz a w g n x) (hN : N < n) (hc : Vq a c q B) : ∀ k, k ≤ N + 1 → ∃ t : Int, (sm k fun i => c i * x (N - i)) * ((2 ^ (a * N + w) * q : Nat) : Rat) = t ∧ t.natAbs ≤ k * 2 ^ (B + a * N + g)
  | 0, _ => ⟨0, by rw [sm_zero]; simp, by simp⟩
  | k + 1, hk => by
    obtain ⟨t, e1, b1⟩ := sum_z hx hN hc k (by omega)
    obtain ⟨s, e2, b2⟩ := prod_z hx hN hc (i := k) (by omega)
    refine ⟨t + s, ?_, ?_⟩
    · rw [sm_succ, Rat.intCast_add, ← e1, ← e2]
      grind
    · have := Int.natAbs_add_le t s
      rw [Nat.succ_mul]
      omega
/-- what was missed, with the weights that missed it -/
def Mz (a w N s qe : Nat) (b : Rat) (m : Int) : Prop := m ≠ 0 ∧ b * ((2 ^ (a * (N - s) + w) * qe : Nat) : Rat) = (m : Rat) * ((2 ^ a : Nat) : Rat)
end PM
end
section
set_option Elab.async false
set_option linter.all false
set_option maxRecDepth 100000
set_option maxHeartbeats 2000000
set_option exponentiation.threshold 10000
namespace PM
open PySem L2
end PM
end
section
set_option Elab.async false
set_option linter.all false
set_option maxRecDepth 100000
set_option maxHeartbeats 2000000
set_option exponentiation.threshold 30000
namespace PM
open PySem L2
/-- how great they may grow -/
structure Fz (a w g l n : Nat) (F : Nat → Nat) : Prop where
  f0 : a ≤ F 0
  w0 : w ≤ F 0
  mono : ∀ N, F N ≤ F (N + 1)
  step : ∀ N, N < n → F N + F (N - 1) + a * N + g + l + 1 ≤ F (N + 1)
  top : ∀ N, N < n → F N + F (N - 1) + 2 * (a * N) + 2 * a + 2 * w + g + l < 8900
  l1 : n ≤ 2 ^ l
  fin : F n + a * n < 8900
/-- sizes behind N numbers -/
structure Zz (a w g l : Nat) (F : Nat → Nat) (N : Nat) (c e : Nat → Rat) (b : Rat) (s : Nat) : Prop where
  ex : ∃ (q qe : Nat) (m : Int), Vq a c q (F N) ∧ Vq a e qe (F (N - 1)) ∧ Mz a w N s qe b m ∧ m.natAbs ≤ 2 ^ (F (N - 1) + a * (N - 1) + g + l)
variable {a w g l n N : Nat} {F : Nat → Nat} {x c e : Nat → Rat} {b : Rat} {L Le s : Nat}
theorem Vq.up {q B B' : Nat} (h : Vq a c q B) (hB : B ≤ B') : Vq a c q B' := ⟨h.q0, Nat.le_trans h.qB (Nat.pow_le_pow_right (by decide) hB), fun i => by
  obtain ⟨t, e1, b1⟩ := h.en i
  exact ⟨t, e1, Nat.le_trans b1 (Nat.pow_le_pow_right (by decide) hB)⟩⟩
theorem Vq.sy {q B : Nat} (h : Vq a c q B) {i n : Nat} (hi : i ≤ n) (hB : B + a * n < 8900) : Sy (c i) := by
  obtain ⟨t, e1, b1⟩ := h.en i
  have a2 : a * i ≤ a * n := Nat.mul_le_mul_left a hi
  refine sy_of (A := a * n + B) (B := B) (Nat.mul_pos (p2pos _) h.q0) e1 ?_ b1 (by omega) (by omega)
  rw [Nat.pow_add]
  exact Nat.mul_le_mul (Nat.pow_le_pow_right (by decide) a2) h.qB
theorem Zz.start (hF : Fz a w g l n F) : Zz a w g l F 0 (fun i => if i = 0 then 1 else 0) (fun i => if i = 0 then 1 else 0) 1 0 := by
  have f0 := hF.f0
  have w0 := hF.w0
  refine ⟨1, 2 ^ a, ((2 ^ w : Nat) : Int), ⟨by decide, Nat.one_le_two_pow, fun i => ?_⟩, ⟨p2pos a, Nat.pow_le_pow_right (by decide) f0, fun i => ?_⟩, ⟨by have := p2pos w; omega, ?_⟩, ?_⟩
  · by_cases h : i = 0
    · subst h
      exact ⟨1, by simp, Nat.one_le_two_pow⟩
    · exact ⟨0, by rw [if_neg h]; simp, by simp⟩
  · by_cases h : i = 0
    · subst h
      refine ⟨((2 ^ a : Nat) : Int), ?_, ?_⟩
      · rw [if_pos rfl, Nat.mul_zero, Nat.pow_zero, Nat.one_mul, Rat.one_mul]
        rfl
      · rw [Int.natAbs_natCast]
        exact Nat.pow_le_pow_right (by decide) f0
    · exact ⟨0, by rw [if_neg h]; simp, by simp⟩
  · rw [Nat.sub_self, Nat.mul_zero, Nat.zero_add, Rat.natCast_mul, Rat.one_mul]
    rfl
  · rw [Int.natAbs_natCast]
    exact Nat.pow_le_pow_right (by decide) (by
      show w ≤ F 0 + a * 0 + g + l
      omega)
theorem Zz.zero (hF : Fz a w g l n F) (h : Zz a w g l F N c e b s) : Zz a w g l F (N + 1) c e b (s + 1) := by
  obtain ⟨q, qe, m, h1, h2, h3, h4⟩ := h.ex
  have m1 := hF.mono N
  have m2 : F (N - 1) ≤ F N := by
    by_cases z : N = 0
    · rw [z]; exact Nat.le_refl _
    · have := hF.mono (N - 1)
      rwa [show N - 1 + 1 = N by omega] at this
  refine ⟨q, qe, m, h1.up m1, h2.up m2, ⟨h3.1, ?_⟩, ?_⟩
  · rw [show N + 1 - (s + 1) = N - s by omega]
    exact h3.2
  · have := Nat.mul_le_mul_left a (show N - 1 ≤ N + 1 - 1 by omega)
    exact Nat.le_trans h4 (Nat.pow_le_pow_right (by decide) (by
      rw [show N + 1 - 1 = N by omega] at *
      omega))
end PM
end
section
set_option Elab.async false
set_option linter.all false
set_option maxRecDepth 100000
set_option maxHeartbeats 4000000
set_option exponentiation.threshold 30000
namespace PM
open PySem L2
theorem pick_end (f : Nat → D) (n : Nat) : pickL ((List.range (n + 1)).map f) none (some 0) = (List.range n).map fun i => f (n - i) := by
  have e1 : sliceBounds none (some 0) (some (-1)) ((List.range (n + 1)).map f).length = ((n : Int), 0, -1) := by
    rw [List.length_map, List.length_range]
    unfold sliceBounds
    simp only [Option.getD_some, Option.getD_none]
    have c : ¬ ((-1 : Int) > 0) := by decide
    simp only [c, if_false]
    refine Prod.ext ?_ (Prod.ext ?_ rfl)
    · show ((n + 1 : Nat) : Int) - 1 = n
      omega
    · simp
      omega
  unfold pickL
  rw [e1]
  have e2 : sliceRange (n : Int) 0 (-1) = (List.range n).map fun i => n - i := by
    unfold sliceRange
    have c : ¬ ((-1 : Int) > 0) := by decide
    simp only [c, if_false]
    by_cases z : (0 : Int) < n
    · rw [if_pos z, show ((n : Int) - 0 - -1 - 1) / (- -1) = (n : Int) by rw [show (- -1 : Int) = 1 by decide, Int.ediv_one]; omega, Int.toNat_natCast]
      refine List.map_congr_left fun i hi => ?_
      have := List.mem_range.mp hi
      omega
    · have : n = 0 := by omega
      subst this
      rw [if_neg z]
      rfl
  show (sliceRange (n : Int) 0 (-1)).filterMap _ = _
  rw [e2, List.filterMap_map]
  have e3 : ∀ i ∈ List.range n, ((fun i => ((List.range (n + 1)).map f)[i]?) ∘ fun i => n - i) i = some (f (n - i)) := fun i hi => by
    have := List.mem_range.mp hi
    show ((List.range (n + 1)).map f)[n - i]? = _
    rw [List.getElem?_map, List.getElem?_range (by omega)]
    rfl
  rw [HT.fm_congr e3]
  exact List.filterMap_eq_map (f := fun i => f (n - i)) ▸ rfl
/-- numbers, as the mathematics reads them -/
def XI (x : Nat → Rat) : Int → Rat := fun j => x j.toNat
theorem cv_dot {M N L : Nat} {c x : Nat → Rat} (dc : Dg c L) (h1 : L ≤ N) (h2 : N < M) : cv M c (XI x) N = sm (L + 1) fun i => c i * x (N - i) := by
  unfold cv
  rw [sm_ext (a := L + 1) (b := M) (by omega) fun i i1 _ => by rw [dc i (by omega)]; grind]
  refine sm_congr fun i hi => ?_
  unfold XI
  rw [show ((N : Int) - (i : Int)).toNat = N - i by omega]
theorem eq0_fr (q : Rat) (S : Sto) : dEq false (fr q) (.tup [.int 0, .int 1]) S = .ok (.bl (decide (q = 0))) S := by
  have f0 : fr 0 = .tup [.int 0, .int 1] := rfl
  rw [← f0, dEq_fit false S (by simp [fr]) (by simp [fr])]
  congr 2
  rw [Bool.false_bne, Bool.eq_iff_iff, decide_eq_true_iff, decide_eq_true_iff]
  exact fr_inj
theorem turnN {I : Env → Sto → Prop} {G : SO → Prop} {o : SO} {e : Env} {S : Sto} (h : o = .nx e S) (hI : I e S) : Turn I G o := by
  rw [h]
  exact hI
theorem turnC {I : Env → Sto → Prop} {G : SO → Prop} {o : SO} {e : Env} {S : Sto} (h : o = .ct e S) (hI : I e S) : Turn I G o := by
  rw [h]
  exact hI
variable {a w g l n : Nat} {F : Nat → Nat} {x : Nat → Rat}
end PM
end
section
set_option Elab.async false
set_option linter.all false
set_option maxRecDepth 100000
set_option maxHeartbeats 4000000
set_option exponentiation.threshold 30000
namespace PM
open PySem L2
variable {a w g l n n0 : Nat} {F : Nat → Nat} {x : Nat → Rat}
/-- the sizes of a step that misses nothing -/
theorem dot_sizes {c : Nat → Rat} {q B0 N L : Nat} (hx : Xz a w g n x) (hN : N < n) (v : Vq a c q B0) (hL : L ≤ N) (h1 : a * n + w + B0 < 8900) (h2 : B0 + a * n + g + l < 20000) (hl : n ≤ 2 ^ l) : (∀ i, i ≤ L → Sy (c i)) ∧ (∀ i, i ≤ N → Sy (x i)) ∧ (∀ i, i ≤ L → Sy (c i * x (N - i))) ∧ ∀ k, k ≤ L + 1 → Sy (sm k fun i => c i * x (N - i)) := by
  have a1 : a * N ≤ a * n := Nat.mul_le_mul_left a (by omega)
  have kq : 2 ^ (a * N + w) * q ≤ 2 ^ (a * N + w + B0) := by
    rw [Nat.pow_add 2 (a * N + w)]
    exact Nat.mul_le_mul_left _ v.qB
  have kq0 : 0 < 2 ^ (a * N + w) * q := Nat.mul_pos (p2pos _) v.q0
  refine ⟨fun i hi => v.sy (n := n) (by omega) (by omega), fun i hi => ?_, fun i hi => ?_, fun k hk => ?_⟩
  · obtain ⟨t, e1, b1⟩ := hx i (by omega)
    have a2 : a * i ≤ a * n := Nat.mul_le_mul_left a (by omega)
    exact sy_of (A := a * n + w) (B := a * i + g) (p2pos _) e1 (Nat.pow_le_pow_right (by decide) (by omega)) b1 (by omega) (by omega)
  · obtain ⟨t, e1, b1⟩ := prod_z hx hN v (i := i) (by omega)
    exact sy_of (A := a * N + w + B0) (B := B0 + a * N + g) kq0 e1 kq b1 (by omega) (by omega)
  · obtain ⟨t, e1, b1⟩ := sum_z hx hN v k (by omega)
    refine sy_of (A := a * N + w + B0) (B := B0 + a * N + g + l) kq0 e1 kq (Nat.le_trans b1 ?_) (by omega) (by omega)
    have : k * 2 ^ (B0 + a * N + g) ≤ 2 ^ l * 2 ^ (B0 + a * N + g) := Nat.mul_le_mul_right _ (by omega)
    rw [← Nat.pow_add] at this
    exact Nat.le_trans this (Nat.pow_le_pow_right (by decide) (by omega))
end PM
end
section
set_option Elab.async false
set_option linter.all false
set_option maxRecDepth 100000
set_option maxHeartbeats 4000000
set_option exponentiation.threshold 30000
namespace PM
open PySem L2
structure BS where
  c : List Rat
  e : List Rat
  b : Rat
  L : Nat
  Le : Nat
  s : Nat
def gL (l : List Rat) (i : Nat) : Rat := l.getD i 0
def mdL (c e : List Rat) (s : Nat) (p : Rat) (n : Nat) : List Rat := (List.range n).map (md (gL c) (gL e) s p)
def bs0 : BS := ⟨[1], [1], 1, 0, 0, 0⟩
def Smq (q : Rat) : Bool := decide (q.num.natAbs < 2 ^ 200) && decide (q.den < 2 ^ 200)
theorem Smq_sy {q : Rat} (h : Smq q = true) : Sy q := by
  obtain ⟨a, b⟩ := Bool.and_eq_true_iff.mp h
  exact ⟨Nat.lt_trans (of_decide_eq_true b) (Nat.pow_lt_pow_right (by decide) (by decide)), Nat.lt_trans (of_decide_eq_true a) (Nat.pow_lt_pow_right (by decide) (by decide))⟩
/-- a sum, and whether all on its way is small -/
def chkS (f : Nat → Rat) : Nat → Rat × Bool
  | 0 => (0, true)
  | k + 1 => match chkS f k with
    | (v, ok) => (v + f k, ok && Smq (f k) && Smq (v + f k))
theorem chkS_ok (f : Nat → Rat) : ∀ k, (chkS f k).1 = sm k f ∧ ((chkS f k).2 = true → (∀ j, j ≤ k → Sy (sm j f)) ∧ ∀ i, i < k → Sy (f i))
  | 0 => ⟨rfl, fun _ => ⟨fun j hj => by
      rw [show j = 0 by omega, sm_zero]
      exact ⟨by decide, by decide⟩, fun i hi => absurd hi (Nat.not_lt_zero _)⟩⟩
  | k + 1 => by
    obtain ⟨h1, h2⟩ := chkS_ok f k
    rw [sm_succ]
    have e : chkS f (k + 1) = ((chkS f k).1 + f k, (chkS f k).2 && Smq (f k) && Smq ((chkS f k).1 + f k)) := rfl
    rw [e, h1]
    refine ⟨rfl, fun h => ?_⟩
    have h : ((chkS f k).2 && Smq (f k) && Smq (sm k f + f k)) = true := h
    rw [Bool.and_eq_true_iff, Bool.and_eq_true_iff] at h
    obtain ⟨⟨a1, a2⟩, a3⟩ := h
    obtain ⟨b1, b2⟩ := h2 a1
    refine ⟨fun j hj => ?_, fun i hi => ?_⟩
    · by_cases q : j = k + 1
      · rw [q, sm_succ]
        exact Smq_sy a3
      · exact b1 j (by omega)
    · by_cases q : i = k
      · rw [q]
        exact Smq_sy a2
      · exact b2 i (by omega)
def stB (x : Nat → Rat) (k : Nat) (st : BS) : BS × Bool :=
  match chkS (fun i => gL st.c i * x (k - i)) (st.L + 1) with
  | (off, ok) =>
    if off = 0 then (⟨st.c, st.e, st.b, st.L, st.Le, st.s + 1⟩, ok && st.c.all Smq)
    else
      let p := off / st.b
      let ok2 := ok && Smq p && Smq (1 / st.b) && st.c.all Smq && st.e.all Smq && (st.e.map fun v => p * v).all Smq
      if 2 * st.L ≤ k then (⟨mdL st.c st.e (st.s + 1) p (k + 1 - st.L + 1), st.c, off, k + 1 - st.L, st.L, 0⟩, ok2)
      else (⟨mdL st.c st.e (st.s + 1) p (st.L + 1), st.e, st.b, st.L, st.Le, st.s + 1⟩, ok2)
def rnB (x : Nat → Rat) : Nat → BS × Bool
  | 0 => (bs0, true)
  | k + 1 => match rnB x k with
    | (st, ok) => match stB x k st with
      | (st', ok') => (st', ok && ok' && Smq (x k))
theorem gL_md (c e : List Rat) (s : Nat) (p : Rat) {n : Nat} (h1 : ∀ i, n ≤ i → gL c i = 0) (h2 : ∀ i, n ≤ i + s → gL e i = 0) : gL (mdL c e s p n) = md (gL c) (gL e) s p := funext fun i => by
  unfold mdL
  show ((List.range n).map (md (gL c) (gL e) s p)).getD i 0 = _
  rw [List.getD_eq_getElem?_getD, List.getElem?_map]
  by_cases q : i < n
  · rw [List.getElem?_range q]
    rfl
  · rw [List.getElem?_eq_none (by simp; omega)]
    show (0 : Rat) = gL c i - p * (if s ≤ i then gL e (i - s) else 0)
    rw [h1 i (by omega)]
    by_cases r : s ≤ i
    · rw [if_pos r, h2 (i - s) (by omega)]
      grind
    · rw [if_neg r]
      grind
theorem gL_all {l : List Rat} (h : l.all Smq = true) (i : Nat) : Sy (gL l i) := by
  unfold gL
  rw [List.getD_eq_getElem?_getD]
  cases q : l[i]? with
  | none => exact ⟨by decide, by decide⟩
  | some v => exact Smq_sy (List.all_eq_true.mp h v (List.mem_of_getElem? q))
theorem gL_map {l : List Rat} {p : Rat} (h : (l.map fun v => p * v).all Smq = true) (i : Nat) : Sy (p * gL l i) := by
  unfold gL
  rw [List.getD_eq_getElem?_getD]
  cases q : l[i]? with
  | none =>
    show Sy (p * 0)
    rw [Rat.mul_zero]
    exact ⟨by decide, by decide⟩
  | some v => exact Smq_sy (List.all_eq_true.mp h (p * v) (List.mem_map.mpr ⟨v, List.mem_of_getElem? q, rfl⟩))
section
variable {x : Nat → Rat} {k M : Nat} {st : BS}
/-- one step -/
theorem stB_ok (B : Bm M (XI x) k (gL st.c) (gL st.e) st.b st.L st.Le st.s) (hM : k + 1 < M) (ok : (stB x k st).2 = true) : (∀ i, Sy (gL st.c i)) ∧ (∀ i, i ≤ st.L → Sy (gL st.c i * x (k - i))) ∧ (∀ j, j ≤ st.L + 1 → Sy (sm j fun i => gL st.c i * x (k - i))) ∧
    (((sm (st.L + 1) fun i => gL st.c i * x (k - i)) = 0 ∧ (stB x k st).1 = ⟨st.c, st.e, st.b, st.L, st.Le, st.s + 1⟩) ∨
     ((sm (st.L + 1) fun i => gL st.c i * x (k - i)) ≠ 0 ∧ Sy (1 / st.b) ∧ Sy ((sm (st.L + 1) fun i => gL st.c i * x (k - i)) / st.b) ∧ (∀ i, Sy (gL st.e i)) ∧ (∀ i, Sy ((sm (st.L + 1) fun i => gL st.c i * x (k - i)) / st.b * gL st.e i)) ∧
      ((2 * st.L ≤ k ∧ ∃ c', (stB x k st).1 = ⟨c', st.c, sm (st.L + 1) fun i => gL st.c i * x (k - i), k + 1 - st.L, st.L, 0⟩ ∧ gL c' = md (gL st.c) (gL st.e) (st.s + 1) ((sm (st.L + 1) fun i => gL st.c i * x (k - i)) / st.b)) ∨
       (¬ 2 * st.L ≤ k ∧ ∃ c', (stB x k st).1 = ⟨c', st.e, st.b, st.L, st.Le, st.s + 1⟩ ∧ gL c' = md (gL st.c) (gL st.e) (st.s + 1) ((sm (st.L + 1) fun i => gL st.c i * x (k - i)) / st.b))))) := by
  obtain ⟨c1, c2⟩ := chkS_ok (fun i => gL st.c i * x (k - i)) (st.L + 1)
  have e : stB x k st = (if (chkS (fun i => gL st.c i * x (k - i)) (st.L + 1)).1 = 0 then ((⟨st.c, st.e, st.b, st.L, st.Le, st.s + 1⟩ : BS), (chkS (fun i => gL st.c i * x (k - i)) (st.L + 1)).2 && st.c.all Smq)
    else if 2 * st.L ≤ k then (⟨mdL st.c st.e (st.s + 1) ((chkS (fun i => gL st.c i * x (k - i)) (st.L + 1)).1 / st.b) (k + 1 - st.L + 1), st.c, (chkS (fun i => gL st.c i * x (k - i)) (st.L + 1)).1, k + 1 - st.L, st.L, 0⟩, (chkS (fun i => gL st.c i * x (k - i)) (st.L + 1)).2 && Smq ((chkS (fun i => gL st.c i * x (k - i)) (st.L + 1)).1 / st.b) && Smq (1 / st.b) && st.c.all Smq && st.e.all Smq && (st.e.map fun v => ((chkS (fun i => gL st.c i * x (k - i)) (st.L + 1)).1 / st.b) * v).all Smq)
      else (⟨mdL st.c st.e (st.s + 1) ((chkS (fun i => gL st.c i * x (k - i)) (st.L + 1)).1 / st.b) (st.L + 1), st.e, st.b, st.L, st.Le, st.s + 1⟩, (chkS (fun i => gL st.c i * x (k - i)) (st.L + 1)).2 && Smq ((chkS (fun i => gL st.c i * x (k - i)) (st.L + 1)).1 / st.b) && Smq (1 / st.b) && st.c.all Smq && st.e.all Smq && (st.e.map fun v => ((chkS (fun i => gL st.c i * x (k - i)) (st.L + 1)).1 / st.b) * v).all Smq)) := rfl
  rw [e] at ok ⊢
  clear e
  rw [c1] at ok ⊢
  generalize (chkS (fun i => gL st.c i * x (k - i)) (st.L + 1)).2 = okS at *
  have su := B.sum
  have LN := B.LN
  by_cases z : (sm (st.L + 1) fun i => gL st.c i * x (k - i)) = 0
  · rw [if_pos z] at ok
    simp only [if_pos z]
    obtain ⟨a1, a2⟩ := Bool.and_eq_true_iff.mp ok
    obtain ⟨b1, b2⟩ := c2 a1
    exact ⟨gL_all a2, fun i hi => b2 i (by omega), b1, .inl ⟨z, trivial⟩⟩
  · rw [if_neg z] at ok
    simp only [if_neg z]
    by_cases q : 2 * st.L ≤ k
    · rw [if_pos q] at ok
      simp only [if_pos q]
      have ok : (okS && Smq ((sm (st.L + 1) fun i => gL st.c i * x (k - i)) / st.b) && Smq (1 / st.b) && st.c.all Smq && st.e.all Smq && (st.e.map fun v => (sm (st.L + 1) fun i => gL st.c i * x (k - i)) / st.b * v).all Smq) = true := ok
      simp only [Bool.and_eq_true_iff] at ok
      obtain ⟨⟨⟨⟨⟨a1, a2⟩, a3⟩, a4⟩, a5⟩, a6⟩ := ok
      obtain ⟨b1, b2⟩ := c2 a1
      exact ⟨gL_all a4, fun i hi => b2 i (by omega), b1, .inr ⟨z, Smq_sy a3, Smq_sy a2, gL_all a5, gL_map a6, .inl ⟨q, _, rfl, gL_md _ _ _ _ (fun i hi => B.dc i (by omega)) fun i hi => B.de i (by omega)⟩⟩⟩
    · rw [if_neg q] at ok
      simp only [if_neg q]
      have ok : (okS && Smq ((sm (st.L + 1) fun i => gL st.c i * x (k - i)) / st.b) && Smq (1 / st.b) && st.c.all Smq && st.e.all Smq && (st.e.map fun v => (sm (st.L + 1) fun i => gL st.c i * x (k - i)) / st.b * v).all Smq) = true := ok
      simp only [Bool.and_eq_true_iff] at ok
      obtain ⟨⟨⟨⟨⟨a1, a2⟩, a3⟩, a4⟩, a5⟩, a6⟩ := ok
      obtain ⟨b1, b2⟩ := c2 a1
      exact ⟨gL_all a4, fun i hi => b2 i (by omega), b1, .inr ⟨z, Smq_sy a3, Smq_sy a2, gL_all a5, gL_map a6, .inr ⟨q, _, rfl, gL_md _ _ _ _ (fun i hi => B.dc i (by omega)) fun i hi => B.de i (by omega)⟩⟩⟩
end
theorem rnB_succ (x : Nat → Rat) (k : Nat) : rnB x (k + 1) = ((stB x k (rnB x k).1).1, (rnB x k).2 && (stB x k (rnB x k).1).2 && Smq (x k)) := rfl
theorem rnB_le (x : Nat → Rat) {n : Nat} (h : (rnB x n).2 = true) : ∀ k, k < n → (rnB x k).2 = true ∧ (stB x k (rnB x k).1).2 = true ∧ Sy (x k) := by
  induction n with
  | zero => exact fun k hk => absurd hk (Nat.not_lt_zero _)
  | succ n ih =>
    intro k hk
    rw [rnB_succ] at h
    have h : ((rnB x n).2 && (stB x n (rnB x n).1).2 && Smq (x n)) = true := h
    rw [Bool.and_eq_true_iff, Bool.and_eq_true_iff] at h
    obtain ⟨⟨a1, a2⟩, a3⟩ := h
    by_cases q : k = n
    · rw [q]
      exact ⟨a1, a2, Smq_sy a3⟩
    · exact ih a1 k (by omega)
theorem gL_one : gL [1] = fun i => if i = 0 then (1 : Rat) else 0 := funext fun i => by
  cases i with
  | zero => rfl
  | succ i => rfl
/-- the run keeps what is to be kept -/
theorem rnB_bm (x : Nat → Rat) {n M : Nat} (h : (rnB x n).2 = true) (hM : n + 1 < M + 1) : ∀ k, k ≤ n → Bm M (XI x) k (gL (rnB x k).1.c) (gL (rnB x k).1.e) (rnB x k).1.b (rnB x k).1.L (rnB x k).1.Le (rnB x k).1.s := by
  intro k
  induction k with
  | zero =>
    intro _
    show Bm M (XI x) 0 (gL [1]) (gL [1]) 1 0 0 0
    rw [gL_one]
    exact Bm.start M (XI x)
  | succ k ih =>
    intro hk
    have B := ih (by omega)
    have cd := cv_dot (x := x) (M := M) B.dc B.LN (by omega)
    rw [rnB_succ]
    show Bm M (XI x) (k + 1) (gL (stB x k (rnB x k).1).1.c) _ _ _ _ _
    have M1 : k + 1 < M := by omega
    rcases (stB_ok B M1 (rnB_le x h k (by omega)).2.1).2.2.2 with ⟨z, e⟩ | ⟨z, _, _, _, _, ⟨q, c', e, ec⟩ | ⟨q, c', e, ec⟩⟩
    · rw [e]
      exact B.zero (cd.trans z)
    · rw [e]
      show Bm M (XI x) (k + 1) (gL c') _ _ _ _ _
      rw [ec]
      have := B.grow M1 (by rw [cd]; exact z) q
      rw [cd] at this
      exact this
    · rw [e]
      show Bm M (XI x) (k + 1) (gL c') _ _ _ _ _
      rw [ec]
      have := B.keep M1 (by omega)
      rw [cd] at this
      exact this
variable {a w g l n n0 : Nat} {x : Nat → Rat}
/-- found behind N numbers, no fewer do -/
structure Fe (M : Nat) (X : Int → Rat) (N : Nat) (c : Nat → Rat) (L : Nat) : Prop where
  ex : ∃ (e : Nat → Rat) (b : Rat) (Le s : Nat), Bm M X N c e b L Le s
theorem fewest_ok3 (hn : n ≤ 400) (h0 : n0 ≤ n) {l' q0 B0 : Nat} (hx : Xz a w g n x) (ck : (rnB x n0).2 = true) (v0 : Vq a (gL (rnB x n0).1.c) q0 B0) (ev : ∀ N, An (n + 1) (XI x) (gL (rnB x n0).1.c) (rnB x n0).1.L N) (z1 : a * n + w + B0 < 8900) (z2 : B0 + a * n + g + l' < 20000) (z3 : n ≤ 2 ^ l') (S : Sto) : Fe (n + 1) (XI x) n (gL (rnB x n0).1.c) (rnB x n0).1.L ∧ ∃ (T : Sto), m_fewest_factors [.lst (frL n x)] S = .ok (.lst ((List.range (rnB x n0).1.L).map fun i => fr (0 - gL (rnB x n0).1.c ((rnB x n0).1.L - i)))) (S ++ T) := by
  have rn := rangeD_nat n
  have c1 : (n : Int) ≤ 1000000 := by omega
  have c2 : (-1000000 : Int) ≤ (n : Int) := by omega
  have lN : (frL n x).length = n := frL_len n x
  have f1 : fr 1 = .tup [.int 1, .int 1] := rfl
  have pb : ∀ k, k < n → pickL (frL n x) (some (k : Int)) none = frL (k + 1) fun i => x (k - i) := fun k hk => PM.pick_back (fun i => fr (x i)) hk
  have s0 : frL (0 + 1) (fun i => if i = 0 then (1 : Rat) else 0) = [fr 1] := rfl
  simp -implicitDefEqProofs only [m_fewest_factors, b_fewest_factors]
  generalize eN : frL n x = N at *
  simp -implicitDefEqProofs [lN, c1, c2, rn, sPar3]
  rw [← f1, ← s0]
  refine forGo_rule (G := fun y => Fe (n + 1) (XI x) n (gL (rnB x n0).1.c) (rnB x n0).1.L ∧ ∃ (T : Sto), toOut (y.andThen _) = .ok (.lst ((List.range (rnB x n0).1.L).map fun i => fr (0 - gL (rnB x n0).1.c ((rnB x n0).1.L - i)))) (S ++ T)) (fun k env S' => (∃ T, S' = S ++ T) ∧ ∃ (c e : Nat → Rat) (b : Rat) (L Le s : Nat) (a6 a7 a8 : Option D), Bm (n + 1) (XI x) k c e b L Le s ∧ ((k ≤ n0 ∧ c = gL (rnB x k).1.c ∧ e = gL (rnB x k).1.e ∧ b = (rnB x k).1.b ∧ L = (rnB x k).1.L ∧ Le = (rnB x k).1.Le ∧ s = (rnB x k).1.s) ∨ (n0 ≤ k ∧ c = gL (rnB x n0).1.c ∧ L = (rnB x n0).1.L)) ∧ env = ⟨[some (.lst N), some (.lst (frL (L + 1) c)), some (.int L), some (.lst (frL (Le + 1) e)), some (fr b), some (.int s), a6, a7, a8, none], none⟩) ?_ ?_ ?_
  · exact ⟨⟨[], by simp⟩, _, _, 1, 0, 0, 0, none, none, none, Bm.start (n + 1) (XI x), .inl ⟨Nat.zero_le _, gL_one.symm, gL_one.symm, rfl, rfl, rfl, rfl⟩, rfl⟩
  · rintro k d env S' hi ⟨⟨T, rfl⟩, c, e, b, L, Le, s, a6, a7, a8, B, Z, rfl⟩
    obtain ⟨hk, rfl, _⟩ := get_nat hi
    have pk := pb k hk
    have su := B.sum
    have LN := B.LN
    by_cases k0 : k < n0
    · have Z : c = gL (rnB x k).1.c ∧ e = gL (rnB x k).1.e ∧ b = (rnB x k).1.b ∧ L = (rnB x k).1.L ∧ Le = (rnB x k).1.Le ∧ s = (rnB x k).1.s := by
        rcases Z with ⟨_, Z⟩ | ⟨w', _⟩
        · exact Z
        · exact absurd w' (by omega)
      have nx := rnB_succ x k
      obtain ⟨_, ok, _⟩ := rnB_le x ck k k0
      have sxx : ∀ i, i ≤ k → Sy (x i) := fun i hi => (rnB_le x ck i (by omega)).2.2
      generalize hst : (rnB x k).1 = st at *
      obtain ⟨zc, ze, zb, zL, zLe, zs⟩ := Z
      have B0 := B
      rw [zc, ze, zb, zL, zLe, zs] at B0
      obtain ⟨sc, sp, ss, way⟩ := stB_ok B0 (by omega) ok
      rw [← zc, ← ze, ← zb, ← zL, ← zLe, ← zs] at way
      rw [← zc] at sc
      rw [← zc, ← zL] at sp ss
      clear B0
      have cd := cv_dot (x := x) (M := n + 1) B.dc LN (by omega)
      have dt := fun S => dot_ok (n := L + 1) (m := k + 1) (by omega) (c := c) (x := fun i => x (k - i)) (fun i hi => sc i) (fun i hi => sxx (k - i) (by omega)) (fun i hi => sp i (by omega)) (fun j hj => ss j (by omega)) S
      have e0 := fun S => eq0_fr (sm (L + 1) fun i => c i * x (k - i)) S
      refine ⟨rfl, ⟨[some (.lst N), some (.lst (frL (L + 1) c)), some (.int L), some (.lst (frL (Le + 1) e)), some (fr b), some (.int s), some (.int k), a7, a8, none], none⟩, rfl, ?_⟩
      by_cases z : (sm (L + 1) fun i => c i * x (k - i)) = 0
      · rw [decide_eq_true z] at e0
        have B' := B.zero (cd.trans z)
        have Z' : c = gL (rnB x (k + 1)).1.c ∧ e = gL (rnB x (k + 1)).1.e ∧ b = (rnB x (k + 1)).1.b ∧ L = (rnB x (k + 1)).1.L ∧ Le = (rnB x (k + 1)).1.Le ∧ s + 1 = (rnB x (k + 1)).1.s := by
          rcases way with ⟨_, w2⟩ | ⟨w1, _⟩
          · rw [nx]
            show c = gL (stB x k st).1.c ∧ e = gL (stB x k st).1.e ∧ b = (stB x k st).1.b ∧ L = (stB x k st).1.L ∧ Le = (stB x k st).1.Le ∧ s + 1 = (stB x k st).1.s
            rw [w2]
            exact ⟨zc, ze, rfl, rfl, rfl, rfl⟩
          · exact absurd z w1
        generalize fr (sm (L + 1) fun i => c i * x (k - i)) = OF at *
        refine turnC (e := ⟨[some (.lst N), some (.lst (frL (L + 1) c)), some (.int L), some (.lst (frL (Le + 1) e)), some (fr b), some (.int ((s : Int) + 1)), some (.int k), some OF, a8, none], none⟩) (S := S ++ T) ?_ ⟨⟨T, rfl⟩, c, e, b, L, Le, s + 1, _, _, _, B', .inl ⟨by omega, Z'⟩, by rw [show (((s + 1 : Nat)) : Int) = (s : Int) + 1 by omega]⟩
        clear Z sc sp ss way B B' Z' cd nx hst zc ze zb zL zLe zs ev v0 ok
        generalize frL (L + 1) c = C1 at *
        generalize frL (Le + 1) e = E1 at *
        generalize fr b = B1 at *
        simp -implicitDefEqProofs [eSlB, wL, rdL, pk, dt, e0]
      · rw [decide_eq_false z] at e0
        have iv := fun S => inv_ok B.bn S
        have sL := ss (L + 1) (Nat.le_refl _)
        obtain ⟨sb, sq, se, spe, way⟩ : Sy (1 / b) ∧ Sy ((sm (L + 1) fun i => c i * x (k - i)) / b) ∧ (∀ i, Sy (e i)) ∧ (∀ i, Sy ((sm (L + 1) fun i => c i * x (k - i)) / b * e i)) ∧ _ := by
          rcases way with ⟨w1, _⟩ | ⟨_, w1⟩
          · exact absurd w1 z
          · exact w1
        have tm := fun S => m_times_oy (sm (L + 1) fun i => c i * x (k - i)) (1 / b) sL.1 sb.1 sL.2 sb.2 S
        have dv : (sm (L + 1) fun i => c i * x (k - i)) * (1 / b) = (sm (L + 1) fun i => c i * x (k - i)) / b := by grind
        rw [dv] at tm
        have mn := fun S => mend_ok (nc := L + 1) (ne := Le + 1) (s := s + 1) (nr := max (L + 1) (s + 1 + (Le + 1))) rfl (by omega) (by omega) (by omega) (c := c) (e := e) (p := (sm (L + 1) fun i => c i * x (k - i)) / b) (fun i hi => B.dc i (by omega)) (fun i hi => B.de i (by omega)) sq (fun i hi => sc i) (fun i hi => se i) (fun i hi => spe i) S
        rw [show (((s + 1 : Nat)) : Int) = (s : Int) + 1 by omega] at mn
        have w3 : Nat.log2 2 + L.log2 < 1000000 := by
          have a1 := log2_lt64 (n := L) (by omega)
          have a2 := log2_lt64 (n := 2) (by omega)
          omega
        by_cases ww : 2 * L ≤ k
        · have nr : max (L + 1) (s + 1 + (Le + 1)) = (k + 1 - L) + 1 := by omega
          rw [nr] at mn
          have B' := B.grow (by omega) (by rw [cd]; exact z) ww
          rw [cd] at B'
          obtain ⟨c', w2, w3'⟩ : ∃ c', (stB x k st).1 = ⟨c', st.c, sm (L + 1) fun i => c i * x (k - i), k + 1 - L, L, 0⟩ ∧ gL c' = md c e (s + 1) ((sm (L + 1) fun i => c i * x (k - i)) / b) := by
            rcases way with ⟨_, w1⟩ | ⟨w1, _⟩
            · exact w1
            · exact absurd ww w1
          have Z' : md c e (s + 1) ((sm (L + 1) fun i => c i * x (k - i)) / b) = gL (rnB x (k + 1)).1.c ∧ c = gL (rnB x (k + 1)).1.e ∧ (sm (L + 1) fun i => c i * x (k - i)) = (rnB x (k + 1)).1.b ∧ k + 1 - L = (rnB x (k + 1)).1.L ∧ L = (rnB x (k + 1)).1.Le ∧ 0 = (rnB x (k + 1)).1.s := by
            rw [nx]
            show _ = gL (stB x k st).1.c ∧ c = gL (stB x k st).1.e ∧ _ = (stB x k st).1.b ∧ k + 1 - L = (stB x k st).1.L ∧ L = (stB x k st).1.Le ∧ 0 = (stB x k st).1.s
            rw [w2]
            exact ⟨w3'.symm, zc, rfl, rfl, rfl, rfl⟩
          clear w2 w3'
          have w1 : (2 : Int) * (L : Int) ≤ (k : Int) := by omega
          have w2 : (k : Int) + 1 - (L : Int) = ((k + 1 - L : Nat) : Int) := by omega
          generalize hMD : md c e (s + 1) ((sm (L + 1) fun i => c i * x (k - i)) / b) = MD at *
          refine turnN (e := ⟨[some (.lst N), some (.lst (frL (k + 1 - L + 1) MD)), some (.int ((k : Int) + 1 - (L : Int))), some (.lst (frL (L + 1) c)), some (fr (sm (L + 1) fun i => c i * x (k - i))), some (.int 0), some (.int k), some (fr (sm (L + 1) fun i => c i * x (k - i))), some (.lst (frL (k + 1 - L + 1) MD)), none], none⟩) (S := S ++ T ++ [.dead]) ?_ ⟨⟨T ++ [.dead], by simp⟩, MD, c, _, k + 1 - L, L, 0, _, _, _, B', .inl ⟨by omega, Z'⟩, by rw [← w2]; rfl⟩
          clear Z sc sp ss way sb sq se spe sL B B' Z' cd hMD nx hst zc ze zb zL zLe zs ev v0 ok
          generalize fr ((sm (L + 1) fun i => c i * x (k - i)) / b) = PD at *
          generalize fr (sm (L + 1) fun i => c i * x (k - i)) = OF at *
          generalize frL (k + 1 - L + 1) MD = C2 at *
          generalize frL (L + 1) c = C1 at *
          generalize frL (Le + 1) e = E1 at *
          generalize fr (1 / b) = B2 at *
          generalize fr b = B1 at *
          simp -implicitDefEqProofs [eSlB, wL, rdL, pk, dt, e0, iv, tm, mn, w1, ww, w3]
        · have nr : max (L + 1) (s + 1 + (Le + 1)) = L + 1 := by omega
          rw [nr] at mn
          have B' := B.keep (by omega) (by omega)
          rw [cd] at B'
          obtain ⟨c', w2, w3'⟩ : ∃ c', (stB x k st).1 = ⟨c', st.e, b, L, Le, s + 1⟩ ∧ gL c' = md c e (s + 1) ((sm (L + 1) fun i => c i * x (k - i)) / b) := by
            rcases way with ⟨w1, _⟩ | ⟨_, w1⟩
            · exact absurd w1 ww
            · exact w1
          have Z' : md c e (s + 1) ((sm (L + 1) fun i => c i * x (k - i)) / b) = gL (rnB x (k + 1)).1.c ∧ e = gL (rnB x (k + 1)).1.e ∧ b = (rnB x (k + 1)).1.b ∧ L = (rnB x (k + 1)).1.L ∧ Le = (rnB x (k + 1)).1.Le ∧ s + 1 = (rnB x (k + 1)).1.s := by
            rw [nx]
            show _ = gL (stB x k st).1.c ∧ e = gL (stB x k st).1.e ∧ _ = (stB x k st).1.b ∧ L = (stB x k st).1.L ∧ Le = (stB x k st).1.Le ∧ s + 1 = (stB x k st).1.s
            rw [w2]
            exact ⟨w3'.symm, ze, rfl, rfl, rfl, rfl⟩
          clear w2 w3'
          have w1 : ¬ (2 : Int) * (L : Int) ≤ (k : Int) := by omega
          generalize hMD : md c e (s + 1) ((sm (L + 1) fun i => c i * x (k - i)) / b) = MD at *
          refine turnN (e := ⟨[some (.lst N), some (.lst (frL (L + 1) MD)), some (.int L), some (.lst (frL (Le + 1) e)), some (fr b), some (.int ((s : Int) + 1)), some (.int k), some (fr (sm (L + 1) fun i => c i * x (k - i))), some (.lst (frL (L + 1) MD)), none], none⟩) (S := S ++ T ++ [.dead]) ?_ ⟨⟨T ++ [.dead], by simp⟩, MD, e, b, L, Le, s + 1, _, _, _, B', .inl ⟨by omega, Z'⟩, by rw [show (((s + 1 : Nat)) : Int) = (s : Int) + 1 by omega]⟩
          clear Z sc sp ss way sb sq se spe sL B B' Z' cd hMD nx hst zc ze zb zL zLe zs ev v0 ok
          generalize fr ((sm (L + 1) fun i => c i * x (k - i)) / b) = PD at *
          generalize fr (sm (L + 1) fun i => c i * x (k - i)) = OF at *
          generalize frL (L + 1) MD = C2 at *
          generalize frL (L + 1) c = C1 at *
          generalize frL (Le + 1) e = E1 at *
          generalize fr (1 / b) = B2 at *
          generalize fr b = B1 at *
          simp -implicitDefEqProofs [eSlB, wL, rdL, pk, dt, e0, iv, tm, mn, w1, ww, w3]
    · obtain ⟨zc, zL⟩ : c = gL (rnB x n0).1.c ∧ L = (rnB x n0).1.L := by
        rcases Z with ⟨w', Z⟩ | ⟨_, Z⟩
        · have : k = n0 := by omega
          rw [this] at Z
          exact ⟨Z.1, Z.2.2.2.1⟩
        · exact Z
      have v : Vq a c q0 B0 := by rw [zc]; exact v0
      obtain ⟨sc, sx, sp, st⟩ := dot_sizes (l := l') hx hk v LN z1 z2 z3
      have cd := cv_dot (x := x) (M := n + 1) B.dc LN (by omega)
      have dt := fun S => dot_ok (n := L + 1) (m := k + 1) (by omega) (c := c) (x := fun i => x (k - i)) (fun i hi => sc i (by omega)) (fun i hi => sx (k - i) (by omega)) (fun i hi => sp i (by omega)) (fun j hj => st j (by omega)) S
      have z : cv (n + 1) c (XI x) k = 0 := by
        rw [zc]
        exact ev (k + 1) k (by rw [← zL]; exact LN) (by omega)
      rw [cd] at z
      have e0 := fun S => eq0_fr (sm (L + 1) fun i => c i * x (k - i)) S
      rw [decide_eq_true z] at e0
      have B' := B.zero (cd.trans z)
      generalize fr (sm (L + 1) fun i => c i * x (k - i)) = OF at *
      refine ⟨rfl, ⟨[some (.lst N), some (.lst (frL (L + 1) c)), some (.int L), some (.lst (frL (Le + 1) e)), some (fr b), some (.int s), some (.int k), a7, a8, none], none⟩, rfl, ?_⟩
      refine turnC (e := ⟨[some (.lst N), some (.lst (frL (L + 1) c)), some (.int L), some (.lst (frL (Le + 1) e)), some (fr b), some (.int ((s : Int) + 1)), some (.int k), some OF, a8, none], none⟩) (S := S ++ T) ?_ ⟨⟨T, rfl⟩, c, e, b, L, Le, s + 1, _, _, _, B', .inr ⟨by omega, zc, zL⟩, by rw [show (((s + 1 : Nat)) : Int) = (s : Int) + 1 by omega]⟩
      clear sc sx sp st B B' Z cd v ev v0
      generalize frL (L + 1) c = C1 at *
      generalize frL (Le + 1) e = E1 at *
      generalize fr b = B1 at *
      simp -implicitDefEqProofs [eSlB, wL, rdL, pk, dt, e0]
  · rintro env S' ⟨⟨T, rfl⟩, c, e, b, L, Le, s, a6, a7, a8, B, Z, rfl⟩
    have ln : ((List.range n).map fun (k : Nat) => D.int k).length = n := by simp
    rw [ln] at B Z
    obtain ⟨zc, zL⟩ : c = gL (rnB x n0).1.c ∧ L = (rnB x n0).1.L := by
      rcases Z with ⟨w', Z⟩ | ⟨_, Z⟩
      · have : n = n0 := by omega
        rw [this] at Z
        exact ⟨by rw [← this] at Z ⊢; exact Z.1, by rw [← this] at Z ⊢; exact Z.2.2.2.1⟩
      · exact Z
    have v : Vq a c q0 B0 := by rw [zc]; exact v0
    clear Z
    rw [← zc, ← zL] at *
    refine ⟨rfl, ⟨e, b, Le, s, B⟩, T, ?_⟩
    have pe : pickL (frL (L + 1) c) none (some 0) = (List.range L).map fun i => fr (c (L - i)) := pick_end (fun i => fr (c i)) L
    have sy : ∀ i, i ≤ L → Sy (c i) := fun i hi => by
      exact v.sy (n := n) (by have := B.LN; omega) (by omega)
    have LN := B.LN
    have lc := fun (l : List (Option D)) (h9 : 9 < l.length) S => lcGo_all (tg := gN 9) (m := eA m_minus (aCons (eA dTup (aCons (eC (.int 0)) (aCons (eC (.int 1)) aNil))) (aCons (eVar 9) aNil))) (e0 := ⟨l, none⟩) (S := S) (fun i => fr (c (L - i))) (fun i => fr (0 - c (L - i))) (List.range L) fun i hi => by
      have hi := List.mem_range.mp hi
      refine ⟨⟨l.set 9 (some (fr (c (L - i)))), none⟩, rfl, ?_⟩
      have g9 : (l.set 9 (some (fr (c (L - i)))))[9]? = some (some (fr (c (L - i)))) := List.getElem?_set_self h9
      have sc := sy (L - i) (by omega)
      have mi := fun S => m_minus_oy 0 (c (L - i)) (by decide) sc.1 (by decide) sc.2 S
      have f0 : fr 0 = .tup [.int 0, .int 1] := rfl
      rw [f0] at mi
      generalize fr (c (L - i)) = F1 at *
      generalize fr (0 - c (L - i)) = F2 at *
      generalize l.set 9 (some F1) = l' at *
      simp -implicitDefEqProofs [g9, mi]
    have lcx := fun S => lc [some (.lst N), some (.lst (frL (L + 1) c)), some (.int L), some (.lst (frL (Le + 1) e)), some (fr b), some (.int s), a6, a7, a8, none] (by simp) S
    have len : ((List.range L).map fun i => fr (c (L - i))).length ≤ 100000 := by simp; omega
    have len2 : ((List.range L).map fun i => fr (0 - c (L - i))).length ≤ 100000 := by simp; omega
    clear lc sy
    generalize (List.range L).map (fun i => fr (c (L - i))) = P1 at *
    generalize (List.range L).map (fun i => fr (0 - c (L - i))) = P2 at *
    generalize frL (L + 1) c = C1 at *
    generalize frL (Le + 1) e = E1 at *
    generalize fr b = B1 at *
    simp -implicitDefEqProofs [eSlB, wL, rdL, pe, lcx, len, len2]
end PM
end
section
set_option Elab.async false
set_option linter.all false
set_option maxRecDepth 100000
set_option maxHeartbeats 2000000
set_option exponentiation.threshold 10000
namespace PM
open PySem L2
end PM
end
section
set_option Elab.async false
set_option linter.all false
set_option maxRecDepth 100000
set_option maxHeartbeats 2000000
namespace PM
open PySem L2
def HF (ps : List Pd) (f : Nat → Rat) (D : Nat) : Nat → Rat := plyF f (runD ps D)
theorem HF_on (ps : List Pd) (f : Nat → Rat) (m k : Nat) : HF ps f (m + k) = plyF (HF ps f m) (bkz ps m k) := by
  unfold HF
  rw [run_bks, plyF_app]
def HdW (ps : List Pd) (L : Nat) (f : Nat → Rat) (m : Nat) : Nat → Rat := fun i => HF ps f m (i + (m + 1 - L))
section
variable {ps : List Pd} {L s : Nat} (P : Prg ps L s) (f : Nat → Rat)
include P
theorem HdW_far {m : Nat} (hL : L ≤ m + 1) {i : Nat} (hi : L ≤ i) : HdW ps L f m i = f (i + (m + 1 - L)) := by
  unfold HdW HF
  rw [ply_out _ _ fun w hw => by have := run_mem hw; omega]
theorem win_plyH {m : Nat} (hL : L ≤ m + 1) (ws : List Int) (hw : ∀ w ∈ ws, (m : Int) + 2 ≤ w + L) (j : Nat) : plyF (HF ps f m) ws (j + (m + 1 - L)) = plyF (HdW ps L f m) (dn (m + 1 - L) ws) j := by
  have := plyF_up (m + 1 - L) (dn (m + 1 - L) ws) (HF ps f m) (fun w h => by
    obtain ⟨x, hx, rfl⟩ := List.mem_map.mp h
    have := hw x hx
    omega) j
  rw [up_dn] at this
  exact this
theorem HdW_on {m : Nat} (hL : L ≤ m + 1) (k : Nat) : HdW ps L f (m + (k + 1) * s) = fun i => plyF (HdW ps L f (m + k * s)) (dn (m + 1 - L) (bkz ps m s)) (i + s) := by
  funext i
  have e : m + (k + 1) * s = (m + k * s) + s := by rw [Nat.succ_mul]; omega
  have hL2 : L ≤ m + k * s + 1 := by omega
  have e2 : i + (m + k * s + s + 1 - L) = (i + s) + (m + k * s + 1 - L) := by omega
  have st : HdW ps L f (m + (k + 1) * s) i = plyF (HF ps f (m + k * s)) (bkz ps (m + k * s) s) ((i + s) + (m + k * s + 1 - L)) := by
    unfold HdW
    rw [e, HF_on, e2]
  rw [st, win_plyH P f hL2 _ fun w hw => by
    have := bks_mem hw
    rw [P.len] at this
    omega]
  have e3 : bkz ps (m + k * s) s = up (k * s) (bkz ps m s) := bks_per (prg_k P k) hL s
  have e4 : m + k * s + 1 - L = (m + 1 - L) + k * s := by omega
  rw [e3, e4, dn_up]
/-- the weirs behind a window of m0 on, for j more basins -/
def WLs (ps : List Pd) (L m0 j : Nat) : List Int := dn (m0 + 1 - L) (bkz ps m0 j ++ bkz (ps.map (cap (m0 + j))) (m0 + j) L)
theorem up_app (t : Nat) (a b : List Int) : up t (a ++ b) = up t a ++ up t b := List.map_append
/-- a last volume, told by a window -/
theorem x_out {m0 : Nat} (hL : L ≤ m0 + 1) {b : Nat} (hb : b < L) (k j : Nat) : plyF f (runD (ps.map (cap (m0 + k * s + j))) (m0 + k * s + j + L)) (m0 + k * s + j - b) = plyF (HdW ps L f (m0 + k * s)) (WLs ps L m0 j) (j + L - 1 - b) := by
  have hL2 : L ≤ m0 + k * s + 1 := by omega
  have e1 : plyF f (runD (ps.map (cap (m0 + k * s + j))) (m0 + k * s + j + L)) = plyF (HF ps f (m0 + k * s)) (bkz ps (m0 + k * s) j ++ bkz (ps.map (cap (m0 + k * s + j))) (m0 + k * s + j) L) := by
    rw [run_bks, cap_run P _ (Nat.le_refl _), plyF_app, plyF_app]
    congr 1
    exact HF_on ps f (m0 + k * s) j
  have e2 : m0 + k * s + j - b = (j + L - 1 - b) + (m0 + k * s + 1 - L) := by omega
  rw [e1, e2, win_plyH P f hL2 _ fun w hw => by
    rcases List.mem_append.mp hw with hw | hw
    · have := bks_mem hw
      rw [P.len] at this
      omega
    · have := bks_mem hw
      rw [List.length_map, P.len] at this
      omega]
  have e3 : bkz ps (m0 + k * s) j = up (k * s) (bkz ps m0 j) := bks_per (prg_k P k) hL j
  have e4 : bkz (ps.map (cap (m0 + k * s + j))) (m0 + k * s + j) L = up (k * s) (bkz (ps.map (cap (m0 + j))) (m0 + j) L) := by
    have := cap_per (prg_k P k) (m := m0 + j) (by omega) L
    rw [show m0 + j + k * s = m0 + k * s + j by omega] at this
    exact this
  have e5 : m0 + k * s + 1 - L = (m0 + 1 - L) + k * s := by omega
  rw [e3, e4, e5]
  unfold WLs
  rw [← up_app P, dn_up]
/-- sums of last volumes that are nothing so often are nothing always -/
theorem y_zero {m0 : Nat} (hL : L ≤ m0 + 1) {al be : Rat} (af : ∀ i, 1 ≤ i → f i = al + be * (i : Rat)) {b : Nat} (hb : b < L) (n : Nat) (c : Nat → Rat) (h0 : ∀ k, k < L + 2 → (sm n fun j => c j * plyF f (runD (ps.map (cap (m0 + k * s + j))) (m0 + k * s + j + L)) (m0 + k * s + j - b)) = 0) : ∀ k, (sm n fun j => c j * plyF f (runD (ps.map (cap (m0 + k * s + j))) (m0 + k * s + j + L)) (m0 + k * s + j - b)) = 0 := by
  have ex : ∀ k, (sm n fun j => c j * plyF f (runD (ps.map (cap (m0 + k * s + j))) (m0 + k * s + j + L)) (m0 + k * s + j - b)) = sm n fun j => c j * plyF (HdW ps L f (m0 + k * s)) (WLs ps L m0 j) (j + L - 1 - b) := fun k => sm_congr fun j _ => by rw [x_out P f hL hb]
  let g : Nat → Nat → Rat := fun k => HdW ps L f (m0 + k * s)
  have hg : ∀ k, g (k + 1) = fun i => plyF (g k) (dn (m0 + 1 - L) (bkz ps m0 s)) (i + s) := fun k => HdW_on P f hL k
  obtain ⟨K, hK, d, hd⟩ := dep (L + 2) g
  have far : ∀ k i, L ≤ i → g k i = al + be * ((i + (m0 + k * s + 1 - L) : Nat) : Rat) := fun k i hi => by
    show HdW ps L f (m0 + k * s) i = _
    rw [HdW_far P f (by omega) hi, af _ (by omega)]
  have gK : g K = fun i => sm K fun a => d a * g a i := funext fun i => by
    by_cases e : i < L + 2
    · exact hd i e
    · have h1 := hd L (by omega)
      have h2 := hd (L + 1) (by omega)
      have st : ∀ k, g k i = (1 - ((i - L : Nat) : Rat)) * g k L + ((i - L : Nat) : Rat) * g k (L + 1) := fun k => by
        rw [far k i (by omega), far k L (Nat.le_refl _), far k (L + 1) (by omega)]
        have e1 : ((i + (m0 + k * s + 1 - L) : Nat) : Rat) = ((i - L : Nat) : Rat) + ((L + (m0 + k * s + 1 - L) : Nat) : Rat) := by
          rw [← Rat.natCast_add]
          congr 1
          omega
        have e2 : ((L + 1 + (m0 + k * s + 1 - L) : Nat) : Rat) = 1 + ((L + (m0 + k * s + 1 - L) : Nat) : Rat) := by
          rw [show L + 1 + (m0 + k * s + 1 - L) = 1 + (L + (m0 + k * s + 1 - L)) by omega, Rat.natCast_add]
          rfl
        rw [e1, e2]
        grind
      rw [st K, h1, h2, ← sm_lin]
      exact sm_congr fun a _ => by rw [st a]; grind
  have rcc : ∀ t, (fun k => sm n fun j => c j * plyF (g k) (WLs ps L m0 j) (j + L - 1 - b)) (K + t) = sm K fun a => d a * (fun k => sm n fun j => c j * plyF (g k) (WLs ps L m0 j) (j + L - 1 - b)) (a + t) := fun t => by
    show (sm n fun j => c j * plyF (g (K + t)) (WLs ps L m0 j) (j + L - 1 - b)) = _
    have e1 : (sm n fun j => c j * plyF (g (K + t)) (WLs ps L m0 j) (j + L - 1 - b)) = sm n fun j => sm K fun a => c j * (d a * plyF (g (a + t)) (WLs ps L m0 j) (j + L - 1 - b)) := sm_congr fun j _ => by
      rw [comb_on hg gK t, plyF_sm, sm_mul]
    rw [e1, sm_swap]
    refine sm_congr fun a _ => ?_
    show _ = d a * sm n fun j => c j * plyF (g (a + t)) (WLs ps L m0 j) (j + L - 1 - b)
    rw [sm_mul]
    exact sm_congr fun j _ => by grind
  have := lin_fwd (y := fun k => sm n fun j => c j * plyF (g k) (WLs ps L m0 j) (j + L - 1 - b)) (d := L + 2) hK rcc (k0 := 0) fun k _ hk => by
    have := h0 k (by omega)
    rw [ex] at this
    exact this
  intro k
  rw [ex]
  exact this k (Nat.zero_le _)
end
def stF (s : Stt) (m : Nat) : Nat → Rat := match s with
  | .ones => fun _ => 1
  | .first => eF 0
  | .last => eF m
  | .stairs => fun i => 1 + (i : Rat)
/-- the volume with b others behind it, of m + 1 basins -/
def xA (rs : List Rd) (s : Stt) (b m : Nat) : Rat := plyF (stF s m) (opn rs ((m + 1 : Nat) : Int)) (m - b)
theorem getF_st (s : Stt) (m : Nat) {i : Nat} (hi : i < m + 1) : getF (ofI (stV s (m + 1))) i = stF s m i := by
  unfold getF
  rw [show (ofI (stV s (m + 1))).getD i 0 = (((stV s (m + 1)).getD i 0 : Int) : Rat) from getD_map0 _ _ _ _ _ rfl, List.getD_eq_getElem?_getD]
  cases s with
  | ones =>
    simp only [stV, stF, List.getElem?_map, List.getElem?_range hi]
    rfl
  | first =>
    simp only [stV, stF, unV, List.getElem?_map, List.getElem?_range hi, eF]
    by_cases h : i = 0 <;> simp [h]
  | last =>
    simp only [stV, stF, unV, List.getElem?_map, List.getElem?_range hi, eF, Nat.add_sub_cancel]
    by_cases h : i = m <;> simp [h]
  | stairs =>
    simp only [stV, stF, List.getElem?_map, List.getElem?_range hi]
    show ((((1 : Int) + (i : Int)) : Int) : Rat) = _
    rw [Rat.intCast_add]
    rfl
theorem amQ_xA {rs : List Rd} (hr : ∀ r ∈ rs, r.ok) (s : Stt) {b m : Nat} (hb : b ≤ m) : amQ rs s b (m + 1) = xA rs s b m := by
  have l := stV_len s (m + 1)
  have sc := lap_ups hr (stV s (m + 1)) (j := hvs rs ((m + 1 : Nat) : Int)) (k := 1) (by rw [l]; omega)
  rw [l] at sc
  have a := sc.at_ (m + 1 - 1 - b)
  have e1 : lapI (opn rs ((m + 1 : Nat) : Int)) (ups (stV s (m + 1)) (hvs rs ((m + 1 : Nat) : Int))) 1 = amT rs s (m + 1) := rfl
  have e2 : (lapQ (opn rs ((m + 1 : Nat) : Int)) (ofI (stV s (m + 1))) 1).getD (m + 1 - 1 - b) 0 = xA rs s b m := by
    show getF (plyQ (ofI (stV s (m + 1))) (opn rs ((m + 1 : Nat) : Int))) (m - b) = _
    have wi : Wi (m + 1) (opn rs ((m + 1 : Nat) : Int)) := opn_wi rs (m + 1)
    rw [getF_ply _ _ (by rw [ofI_len, l]; exact wi)]
    exact plyF_cong _ wi (fun i hi => getF_st s m hi) _ (by omega)
  rw [e1, e2] at a
  unfold amQ
  rw [a]
  have p : (((2 ^ hvs rs ((m + 1 : Nat) : Int) : Nat) : Int) : Rat) ≠ 0 := by
    intro z
    have z := Rat.intCast_eq_zero_iff.mp z
    have := Nat.two_pow_pos (hvs rs ((m + 1 : Nat) : Int))
    omega
  have q : (((2 : Int) ^ hvs rs ((m + 1 : Nat) : Int) : Int) : Rat) = (((2 ^ hvs rs ((m + 1 : Nat) : Int) : Nat) : Int) : Rat) := by
    congr 1
  rw [q, Rat.div_def, Rat.mul_assoc, Rat.mul_inv_cancel _ p, Rat.mul_one]
/-- rounds of k04 and k17 -/
def Rd.r2 : Rd → Bool
  | .right => true
  | .left => false
  | .ev a b => decide (a = 2) && (decide (b = 0) || decide (b = 1))
theorem r2_ok {r : Rd} (h : r.r2 = true) : r.ok := by
  cases r with
  | ev a b =>
    simp [Rd.r2] at h
    obtain ⟨rfl, rfl | rfl⟩ := h <;> simp [Rd.ok]
  | _ => trivial
theorem r2_left {r : Rd} (h : r.r2 = true) : r ≠ .left := by rintro rfl; cases h
theorem r2_per {r : Rd} (h : r.r2 = true) (w : Nat) : r.opens ((w + 2 : Nat) : Int) = r.opens (w : Int) := by
  cases r with
  | ev a b =>
    simp [Rd.r2] at h
    obtain ⟨rfl, rfl | rfl⟩ := h <;> simp [Rd.opens] <;> omega
  | _ => rfl
section
variable {rs : List Rd} (h2 : ∀ r ∈ rs, r.r2 = true) (hl : rs.length ≤ 3)
include h2 hl
theorem prg2 : Prg (padP rs 3) 3 2 := prg_of hl fun r hr => r2_per (h2 r hr)
theorem xA_run (s : Stt) (b m : Nat) : xA rs s b m = plyF (stF s m) (runD ((padP rs 3).map (cap m)) (m + 3)) (m - b) := by
  unfold xA
  rw [opn_run (fun r hr => r2_left (h2 r hr)) hl m (stF s m) (Nat.le_refl (m + 3))]
theorem last_per {b m : Nat} (hb : b ≤ 2) (hm : 3 ≤ m) : xA rs .last b (m + 2) = xA rs .last b m := by
  have P := prg2 h2 hl
  have := (Ed_up P (b := m) (m := m) hm (by omega) (Nat.le_refl m)).1 (m - b)
  rw [xA_run h2 hl, xA_run h2 hl]
  have e : m - b + 2 = m + 2 - b := by omega
  rw [e] at this
  exact this
theorem xA_zero (s : Stt) {b : Nat} (hb : b ≤ 2) (n : Nat) (c : Nat → Rat) (h0 : ∀ m, b ≤ m → m ≤ 12 → (sm n fun j => c j * xA rs s b (m + j)) = 0) : ∀ m, b ≤ m → (sm n fun j => c j * xA rs s b (m + j)) = 0 := by
  have P := prg2 h2 hl
  have af : s ≠ .last → ∃ f al be, (∀ m, stF s m = f) ∧ ∀ i, 1 ≤ i → f i = al + be * (i : Rat) := fun ns => by
    cases s with
    | ones => exact ⟨fun _ => 1, 1, 0, fun _ => rfl, fun i _ => by grind⟩
    | first => exact ⟨eF 0, 0, 0, fun _ => rfl, fun i hi => by unfold eF; rw [if_neg (by omega)]; grind⟩
    | last => exact absurd rfl ns
    | stairs => exact ⟨fun i => 1 + (i : Rat), 1, 1, fun _ => rfl, fun i _ => by grind⟩
  by_cases ns : s = .last
  · subst ns
    intro m
    induction m using Nat.strongRecOn with
    | _ m ih =>
      intro hm
      by_cases c1 : m ≤ 12
      · exact h0 m hm c1
      · obtain ⟨k, rfl⟩ : ∃ k, m = k + 2 := ⟨m - 2, by omega⟩
        rw [← ih k (by omega) (by omega)]
        refine sm_congr fun j _ => ?_
        rw [show k + 2 + j = (k + j) + 2 by omega, last_per h2 hl hb (by omega)]
  · obtain ⟨f, al, be, e1, e2⟩ := af ns
    intro m hm
    by_cases c1 : m ≤ 12
    · exact h0 m hm c1
    · have ex : ∀ m0 k, (sm n fun j => c j * xA rs s b (m0 + k * 2 + j)) = sm n fun j => c j * plyF f (runD ((padP rs 3).map (cap (m0 + k * 2 + j))) (m0 + k * 2 + j + 3)) (m0 + k * 2 + j - b) := fun m0 k => sm_congr fun j _ => by
        rw [xA_run h2 hl, e1]
      have hh : ∀ m0, 2 ≤ m0 → m0 ≤ 3 → ∀ k, (sm n fun j => c j * xA rs s b (m0 + k * 2 + j)) = 0 := fun m0 h1 h3 k => by
        rw [ex]
        exact y_zero P f (m0 := m0) (by omega) e2 (b := b) (by omega) n c (fun k hk => by
          rw [← ex]
          exact h0 _ (by omega) (by omega)) k
      rcases Nat.mod_two_eq_zero_or_one m with q | q
      · have := hh 2 (by omega) (by omega) ((m - 2) / 2)
        rwa [show 2 + (m - 2) / 2 * 2 = m by omega] at this
      · have := hh 3 (by omega) (by omega) ((m - 3) / 2)
        rwa [show 3 + (m - 3) / 2 * 2 = m by omega] at this
end
end PM
end
section
set_option Elab.async false
set_option linter.all false
set_option maxRecDepth 100000
set_option maxHeartbeats 2000000
set_option exponentiation.threshold 10000
namespace PM
open PySem L2
end PM
end
section
set_option Elab.async false
set_option linter.all false
set_option maxRecDepth 100000
set_option maxHeartbeats 2000000
namespace PM
open PySem L2
theorem wrs_filter {r : Rd} (h : r ≠ .left) (n : Int) : wrs r n = (rng 1 n).filter fun w => r.opens w := by
  cases r with
  | right => exact (List.filter_eq_self.mpr fun _ _ => rfl).symm
  | left => exact absurd rfl h
  | ev a b => rfl
end PM
end
section
set_option Elab.async false
set_option linter.all false
set_option maxRecDepth 100000
set_option maxHeartbeats 4000000
namespace PM
open PySem L2
/-- weirs from w on -/
def fzG (p : Int → Bool) : List Int → Int → Int → List Int
  | [], _, a => [a]
  | b :: t, w, a => match p w with
    | true => ((a + b) / 2) :: fzG p t (w + 1) ((a + b) / 2)
    | false => a :: fzG p t (w + 1) b
def fz (p : Int → Bool) (w : Int) : List Int → List Int
  | [] => []
  | a :: t => fzG p t w a
def wfr (w : Int) : Nat → List Int
  | 0 => []
  | k + 1 => w :: wfr (w + 1) k
theorem wfr_rng (n : Nat) : ∀ w : Int, wfr w n = rng w (w + n) := by
  induction n with
  | zero => intro w; unfold rng; simp [wfr]
  | succ n ih =>
    intro w
    show w :: wfr (w + 1) n = _
    rw [ih]
    unfold rng
    rw [show (w + ((n + 1 : Nat) : Int) - w).toNat = n + 1 by omega, show (w + 1 + (n : Int) - (w + 1)).toNat = n by omega, List.range_succ_eq_map, List.map_cons, List.map_map]
    congr 1
    · omega
    · refine List.map_congr_left fun k _ => ?_
      show w + 1 + (k : Int) = w + ((k + 1 : Nat) : Int)
      omega
theorem avg_at (pre : List Int) (a b : Int) (t : List Int) : avg (pre ++ a :: b :: t) ((pre.length : Int) + 1) = pre ++ ((a + b) / 2) :: ((a + b) / 2) :: t := by
  unfold avg
  rw [show ((pre.length : Int) + 1 - 1).toNat = pre.length by omega, show ((pre.length : Int) + 1).toNat = pre.length + 1 by omega]
  have g1 : (pre ++ a :: b :: t).getD pre.length 0 = a := by
    rw [List.getD_eq_getElem?_getD, List.getElem?_append_right (Nat.le_refl _), Nat.sub_self]
    rfl
  have g2 : (pre ++ a :: b :: t).getD (pre.length + 1) 0 = b := by
    rw [List.getD_eq_getElem?_getD, List.getElem?_append_right (by omega), show pre.length + 1 - pre.length = 1 by omega]
    rfl
  rw [g1, g2, List.set_append_right _ _ (Nat.le_refl _), Nat.sub_self]
  show (pre ++ (_ :: b :: t)).set _ _ = _
  rw [List.set_append_right _ _ (by omega), show pre.length + 1 - pre.length = 1 by omega]
  rfl
theorem play_fz (p : Int → Bool) : ∀ (n : Nat) (t pre : List Int) (a : Int), t.length = n → play (pre ++ a :: t) ((wfr ((pre.length : Int) + 1) n).filter p) = pre ++ fzG p t ((pre.length : Int) + 1) a := by
  intro n
  induction n with
  | zero =>
    intro t pre a h
    obtain rfl : t = [] := List.length_eq_zero_iff.mp h
    rfl
  | succ n ih =>
    intro t pre a h
    cases t with
    | nil => cases h
    | cons b t =>
      have hl : t.length = n := by simpa using h
      show play (pre ++ a :: b :: t) ((((pre.length : Int) + 1) :: wfr ((pre.length : Int) + 1 + 1) n).filter p) = pre ++ (match p ((pre.length : Int) + 1) with
        | true => ((a + b) / 2) :: fzG p t ((pre.length : Int) + 1 + 1) ((a + b) / 2)
        | false => a :: fzG p t ((pre.length : Int) + 1 + 1) b)
      have e1 : ∀ x : Int, ((pre ++ [x]).length : Int) + 1 = (pre.length : Int) + 1 + 1 := fun x => by simp
      cases q : p ((pre.length : Int) + 1) with
      | true =>
        rw [List.filter_cons_of_pos q]
        show play (avg (pre ++ a :: b :: t) ((pre.length : Int) + 1)) _ = _
        rw [avg_at]
        have := ih t (pre ++ [(a + b) / 2]) ((a + b) / 2) hl
        rw [e1, List.append_assoc, List.append_assoc] at this
        exact this
      | false =>
        rw [List.filter_cons_of_neg (by rw [q]; decide)]
        have := ih t (pre ++ [a]) b hl
        rw [e1, List.append_assoc, List.append_assoc] at this
        exact this
theorem fz_len (p : Int → Bool) : ∀ (t : List Int) (a w : Int), (fzG p t w a).length = t.length + 1
  | [], a, w => rfl
  | b :: t, a, w => by
    show (match p w with
        | true => ((a + b) / 2) :: fzG p t (w + 1) ((a + b) / 2)
        | false => a :: fzG p t (w + 1) b).length = _
    cases q : p w with
    | true => simp [fz_len p t]
    | false => simp [fz_len p t]
theorem play_wrs {r : Rd} (hr : r ≠ .left) (l : List Int) : play l (wrs r l.length) = fz r.opens 1 l := by
  rw [wrs_filter hr]
  cases l with
  | nil => rfl
  | cons a t =>
    have := play_fz r.opens t.length t [] a rfl
    have e : rng 1 (((a :: t).length : Nat) : Int) = wfr ((([] : List Int).length : Int) + 1) t.length := by
      rw [wfr_rng]
      congr 1
      simp
      omega
    rw [e]
    exact this
def plz (rs : List Rd) (l : List Int) : List Int := rs.foldl (fun l r => fz r.opens 1 l) l
theorem play_plz : ∀ (rs : List Rd) (l : List Int), (∀ r ∈ rs, r ≠ .left) → play l (opn rs l.length) = plz rs l
  | [], l, _ => rfl
  | r :: rs, l, h => by
    have e : opn (r :: rs) l.length = wrs r l.length ++ opn rs l.length := rfl
    rw [e, play_app, play_wrs (h r (List.mem_cons_self ..))]
    have ll : (fz r.opens 1 l).length = l.length := by
      cases l with
      | nil => rfl
      | cons a t => exact fz_len r.opens t a 1
    have := play_plz rs (fz r.opens 1 l) fun x hx => h x (List.mem_cons_of_mem _ hx)
    rw [ll] at this
    rw [this]
    rfl
theorem amT_plz {rs : List Rd} (h : ∀ r ∈ rs, r ≠ .left) (s : Stt) (n : Nat) : amT rs s n = plz rs (ups (stV s n) (hvs rs n)) := by
  have := play_plz rs (ups (stV s n) (hvs rs n)) h
  rw [ups_len, stV_len] at this
  exact this
end PM
end
section
set_option Elab.async false
set_option linter.all false
set_option maxRecDepth 100000
set_option maxHeartbeats 4000000
set_option exponentiation.threshold 30000
namespace PM
open PySem L2
def xAm (rs : List Rd) (s : Stt) (b : Nat) (t : Nat) : Rat := amQ rs s b (b + 1 + t)
def rowZ (rs : List Rd) (s : Stt) (m : Nat) : List Int := plz rs (ups (stV s (m + 1)) (hvs rs ((m + 1 : Nat) : Int)))
def xsR (rs : List Rd) (s : Stt) (b n : Nat) : List Rat := (List.range n).map fun t => (((rowZ rs s (b + t)).getD t 0 : Int) : Rat) / (((2 : Int) ^ hvs rs ((b + t + 1 : Nat) : Int) : Int) : Rat)
def rds : List Rd := [.right, .ev 2 1, .ev 2 0]
def prs : Nat → List (List Rd)
  | 0 => [[]]
  | k + 1 => (prs k).flatMap fun p => rds.map fun r => r :: p
def yz (x : List Rat) (c : List Rat) (L : Nat) : Bool := (List.range (21 - L)).all fun m => decide (sm (L + 1) (fun j => gL c (L - j) * gL x (m + j)) = 0)
def vqz (c : List Rat) : Bool := decide (c.length ≤ 9) && (List.range 9).all fun i => decide ((gL c i * ((2 ^ (3 * i) * 1 : Nat) : Rat)).den = 1) && decide ((gL c i * ((2 ^ (3 * i) * 1 : Nat) : Rat)).num.natAbs ≤ 2 ^ 40)
def chkB (xs : List Rat) (R : BS × Bool) : Bool := match R with
  | (st, ok) => ok && yz xs st.c st.L && vqz st.c && decide (st.L ≤ 8)
def chkA (rs : List Rd) (s : Stt) (b : Nat) : Bool := chkB (xsR rs s b 21) (rnB (gL (xsR rs s b 21)) 16)
def chkQ (rs : List Rd) : Bool := [Stt.ones, .first, .last, .stairs].all fun s => (List.range 3).all fun b => chkA rs s b
def chkP (k : Nat) : Bool := (prs k).all chkQ
theorem mem_prs : ∀ (rs : List Rd), (∀ r ∈ rs, r.r2 = true) → rs ∈ prs rs.length
  | [], _ => List.mem_singleton.mpr rfl
  | r :: rs, h => by
    refine List.mem_flatMap.mpr ⟨rs, mem_prs rs fun x hx => h x (List.mem_cons_of_mem _ hx), List.mem_map.mpr ⟨r, ?_, rfl⟩⟩
    have := h r (List.mem_cons_self ..)
    cases r with
    | right => simp [rds]
    | left => cases this
    | ev a b =>
      simp [Rd.r2] at this
      obtain ⟨rfl, rfl | rfl⟩ := this <;> simp [rds]
theorem chk_of {k : Nat} (h : chkP k = true) {rs : List Rd} (hk : rs.length = k) (h2 : ∀ r ∈ rs, r.r2 = true) (s : Stt) {b : Nat} (hb : b ≤ 2) : chkA rs s b = true := by
  subst hk
  have h := List.all_eq_true.mp h rs (mem_prs rs h2)
  have h := List.all_eq_true.mp h s (by cases s <;> simp)
  exact List.all_eq_true.mp h b (List.mem_range.mpr (by omega))
theorem sm_rev (n : Nat) (f : Nat → Rat) : sm (n + 1) f = sm (n + 1) fun i => f (n - i) := by
  have key : ∀ n (f : Nat → Rat), sm (n + 1) f = f 0 + sm n fun i => f (i + 1) := by
    intro n
    induction n with
    | zero => intro f; rw [sm_succ, sm_zero, sm_zero]; grind
    | succ n ih => intro f; rw [sm_succ, ih, sm_succ]; grind
  induction n generalizing f with
  | zero => rw [sm_succ, sm_zero, sm_succ, sm_zero]
  | succ n ih =>
    rw [key (n + 1) f, ih fun i => f (i + 1), sm_succ (n + 1) fun i => f (n + 1 - i)]
    have e1 : (sm (n + 1) fun i => f (n - i + 1)) = sm (n + 1) fun i => f (n + 1 - i) := sm_congr fun i hi => by rw [show n - i + 1 = n + 1 - i by omega]
    rw [e1, Nat.sub_self]
    grind
theorem rat_of_den {q : Rat} (h : q.den = 1) : q = (q.num : Rat) := Rat.ext (by rw [Rat.num_intCast]) (by rw [h, Rat.den_intCast])
theorem rnB_cong {x y : Nat → Rat} : ∀ n, (∀ t, t < n → x t = y t) → rnB x n = rnB y n
  | 0, _ => rfl
  | n + 1, h => by
    rw [rnB_succ, rnB_succ, rnB_cong n fun t ht => h t (by omega), h n (by omega)]
    have : stB x n (rnB y n).1 = stB y n (rnB y n).1 := by
      have c : (fun i => gL (rnB y n).1.c i * x (n - i)) = fun i => gL (rnB y n).1.c i * y (n - i) := funext fun i => by rw [h (n - i) (by omega)]
      unfold stB
      rw [c]
    rw [this]
/-- what is known of amounts -/
structure Amt (rs : List Rd) (s : Stt) (b : Nat) (c : Nat → Rat) (L : Nat) : Prop where
  l8 : L ≤ 8
  dc : Dg c L
  c0 : c 0 = 1
  vq : Vq 3 c 1 40
  zr : ∀ t, L ≤ t → (sm (L + 1) fun i => c i * xAm rs s b (t - i)) = 0
  fe : Fe 121 (XI (xAm rs s b)) 120 c L
  xz : Xz 3 9 16 120 (xAm rs s b)
  ff : ∀ S, ∃ T, m_fewest_factors [.lst (frL 120 (xAm rs s b))] S = .ok (.lst (frL L fun i => 0 - c (L - i))) (S ++ T)
section
variable {rs : List Rd} (h2 : ∀ r ∈ rs, r.r2 = true) (hl : rs.length ≤ 3)
include h2
theorem xsR_get (s : Stt) (b : Nat) {n t : Nat} (ht : t < n) : gL (xsR rs s b n) t = xAm rs s b t := by
  unfold gL xsR
  rw [List.getD_eq_getElem?_getD, List.getElem?_map, List.getElem?_range ht]
  show _ / _ = _
  unfold xAm amQ
  rw [amT_plz fun r hr => r2_left (h2 r hr)]
  unfold rowZ
  rw [show b + 1 + t - 1 - b = t by omega, show b + 1 + t = b + t + 1 by omega]
include hl
theorem xAm_xz (s : Stt) {b : Nat} (hb : b ≤ 2) : Xz 3 9 16 120 (xAm rs s b) := fun t ht => by
  have hr : ∀ r ∈ rs, r.ok := fun r h => r2_ok (h2 r h)
  have hv := hvs_le rs (n := ((b + 1 + t : Nat) : Int)) (by omega)
  have hv2 : hvs rs ((b + 1 + t : Nat) : Int) ≤ 3 * t + 9 := by
    have := Nat.mul_le_mul hl (show (((b + 1 + t : Nat) : Int)).toNat ≤ t + 3 by omega)
    omega
  have l := stV_len s (b + 1 + t)
  have sc := lap_ups hr (stV s (b + 1 + t)) (j := 3 * t + 9) (k := 1) (by rw [l]; omega)
  rw [l] at sc
  have a := sc.at_ t
  have e2 : (lapQ (opn rs ((b + 1 + t : Nat) : Int)) (ofI (stV s (b + 1 + t))) 1).getD t 0 = xAm rs s b t := by
    have := amQ_xA hr s (b := b) (m := b + t) (by omega)
    unfold xAm
    rw [show b + 1 + t = b + t + 1 by omega, this]
    show getF (plyQ (ofI (stV s (b + t + 1))) (opn rs ((b + t + 1 : Nat) : Int))) t = plyF _ _ (b + t - b)
    have wi : Wi (b + t + 1) (opn rs ((b + t + 1 : Nat) : Int)) := opn_wi rs (b + t + 1)
    rw [getF_ply _ _ (by rw [ofI_len, stV_len]; exact wi), show b + t - b = t by omega]
    exact plyF_cong _ wi (fun i hi => getF_st s (b + t) hi) _ (by omega)
  have bd := plyQ_all (fun x => 0 ≤ x ∧ x ≤ 128) (fun x y hx hy => by grind) (opn rs ((b + 1 + t : Nat) : Int)) (ofI (stV s (b + 1 + t))) (fun w hw => by
    rw [ofI_len, l]
    exact opn_in hw) (fun i => by
    have e : (ofI (stV s (b + 1 + t))).getD i 0 = (((stV s (b + 1 + t)).getD i 0 : Int) : Rat) := getD_map0 _ _ _ _ _ rfl
    rw [e, List.getD_eq_getElem?_getD]
    cases q : (stV s (b + 1 + t))[i]? with
    | none => exact ⟨by decide, by decide +kernel⟩
    | some v =>
      have hv : 0 ≤ v ∧ v ≤ 128 := by
        have m := List.mem_of_getElem? q
        cases s with
        | ones => obtain ⟨_, _, rfl⟩ := List.mem_map.mp m; decide
        | first => obtain ⟨j, _, rfl⟩ := List.mem_map.mp m; split <;> decide
        | last => obtain ⟨j, _, rfl⟩ := List.mem_map.mp m; split <;> decide
        | stairs =>
          obtain ⟨j, hj, rfl⟩ := List.mem_map.mp m
          have := List.mem_range.mp hj
          omega
      exact ⟨by exact_mod_cast hv.1, by exact_mod_cast hv.2⟩) t
  rw [show (plyQ (ofI (stV s (b + 1 + t))) (opn rs ((b + 1 + t : Nat) : Int))).getD t 0 = xAm rs s b t from e2] at bd
  rw [e2] at a
  refine ⟨_, a.symm, ?_⟩
  obtain ⟨b1, b2⟩ := bd
  have pp : (0 : Rat) < (((2 ^ (3 * t + 9) : Nat) : Int) : Rat) := by exact_mod_cast p2pos (3 * t + 9)
  have u1 : (0 : Rat) ≤ (((lapI (opn rs ((b + 1 + t : Nat) : Int)) (ups (stV s (b + 1 + t)) (3 * t + 9)) 1).getD t 0 : Int) : Rat) := by
    rw [a]
    exact Rat.mul_nonneg b1 (Rat.le_of_lt pp)
  have u2 : (((lapI (opn rs ((b + 1 + t : Nat) : Int)) (ups (stV s (b + 1 + t)) (3 * t + 9)) 1).getD t 0 : Int) : Rat) ≤ ((128 * ((2 ^ (3 * t + 9) : Nat) : Int) : Int) : Rat) := by
    rw [a, Rat.intCast_mul]
    exact Rat.mul_le_mul_of_nonneg_right b2 (Rat.le_of_lt pp)
  have v1 : (0 : Int) ≤ (lapI (opn rs ((b + 1 + t : Nat) : Int)) (ups (stV s (b + 1 + t)) (3 * t + 9)) 1).getD t 0 := by exact_mod_cast u1
  have v2 : (lapI (opn rs ((b + 1 + t : Nat) : Int)) (ups (stV s (b + 1 + t)) (3 * t + 9)) 1).getD t 0 ≤ 128 * ((2 ^ (3 * t + 9) : Nat) : Int) := by exact_mod_cast u2
  have p7 : 2 ^ (3 * t + 16) = 2 ^ (3 * t + 9) * 128 := by rw [show 3 * t + 16 = (3 * t + 9) + 7 by omega, Nat.pow_add]
  omega
theorem am_of (s : Stt) {b : Nat} (hb : b ≤ 2) (ck : chkA rs s b = true) : Amt rs s b (gL (rnB (xAm rs s b) 16).1.c) (rnB (xAm rs s b) 16).1.L := by
  unfold chkA at ck
  rw [rnB_cong (y := xAm rs s b) 16 fun t ht => xsR_get h2 s b (by omega)] at ck
  generalize hst : rnB (xAm rs s b) 16 = R at *
  obtain ⟨st, ok⟩ := R
  have ck : (ok && yz (xsR rs s b 21) st.c st.L && vqz st.c && decide (st.L ≤ 8)) = true := ck
  simp only [Bool.and_eq_true_iff, decide_eq_true_iff] at ck
  obtain ⟨⟨⟨k1, k2⟩, k3⟩, k4⟩ := ck
  have ok' : (rnB (xAm rs s b) 16).2 = true := by rw [hst]; exact k1
  have xz := xAm_xz h2 hl s hb
  have hr : ∀ r ∈ rs, r.ok := fun r h => r2_ok (h2 r h)
  have Bm0 := rnB_bm (xAm rs s b) (n := 16) (M := 121) ok' (by omega) 16 (Nat.le_refl _)
  rw [hst] at Bm0
  have vq : Vq 3 (gL st.c) 1 40 := ⟨by decide, by decide, fun i => by
    obtain ⟨q1, q2⟩ := Bool.and_eq_true_iff.mp k3
    have q1 := of_decide_eq_true q1
    by_cases c : i < 9
    · have := List.all_eq_true.mp q2 i (List.mem_range.mpr c)
      obtain ⟨r1, r2⟩ := Bool.and_eq_true_iff.mp this
      exact ⟨_, (rat_of_den (of_decide_eq_true r1)), of_decide_eq_true r2⟩
    · refine ⟨0, ?_, by simp⟩
      have : gL st.c i = 0 := by
        unfold gL
        rw [List.getD_eq_getElem?_getD, List.getElem?_eq_none (by omega)]
        rfl
      rw [this]
      simp⟩
  have xx : ∀ t, xAm rs s b t = xA rs s b (b + t) := fun t => by
    have := amQ_xA hr s (b := b) (m := b + t) (by omega)
    unfold xAm
    rw [show b + 1 + t = b + t + 1 by omega, this]
  have zr : ∀ t, st.L ≤ t → (sm (st.L + 1) fun i => gL st.c i * xAm rs s b (t - i)) = 0 := fun t ht => by
    have z := xA_zero h2 hl s hb (st.L + 1) (fun j => gL st.c (st.L - j)) (fun m m1 m2 => by
      have := List.all_eq_true.mp k2 (m - b) (List.mem_range.mpr (by omega))
      have := of_decide_eq_true this
      rw [← this]
      refine sm_congr fun j hj => ?_
      rw [xsR_get h2 s b (by omega), xx, show b + (m - b + j) = m + j by omega]) (b + (t - st.L)) (by omega)
    rw [sm_rev, ← z]
    refine sm_congr fun j hj => ?_
    show gL st.c (st.L - j) * xAm rs s b (t - (st.L - j)) = _
    rw [xx, show b + (t - (st.L - j)) = b + (t - st.L) + j by omega]
  have ev : ∀ N, An 121 (XI (xAm rs s b)) (gL st.c) st.L N := fun N j h1 _ => by
    unfold cv
    rw [sm_ext (a := st.L + 1) (b := 121) (by omega) fun i i1 _ => by rw [Bm0.dc i (show st.L < i by omega)]; grind, ← zr j h1]
    refine sm_congr fun i hi => ?_
    unfold XI
    rw [show ((j : Int) - (i : Int)).toNat = j - i by omega]
  have ff := fun S => fewest_ok3 (n := 120) (n0 := 16) (a := 3) (w := 9) (g := 16) (by omega) (by omega) (l' := 7) (q0 := 1) (B0 := 40) xz ok' (by rw [hst]; exact vq) (by rw [hst]; exact ev) (by omega) (by omega) (by decide) S
  rw [hst] at ff
  exact ⟨k4, Bm0.dc, Bm0.c0, vq, zr, (ff []).1, xz, fun S => (ff S).2⟩
end
end PM
end
section
set_option Elab.async false
set_option linter.all false
set_option maxRecDepth 100000
set_option maxHeartbeats 2000000
set_option exponentiation.threshold 10000
namespace PM
open PySem L2
theorem rep_map {α β : Type} (n : Nat) (c : β) : (List.range n).map (fun _ => c) = List.replicate n c := by
  refine List.ext_getElem (by simp) fun i h1 h2 => by simp
def rcO (fs gs : List D) : D := .obj "Recurrence" [("factors", .lst fs), ("firsts", .lst gs)]
theorem mk_Rec (fs gs : List D) (S : Sto) : mkObj false "Recurrence" m_Recurrence___init__ [.lst fs, .lst gs] S = .ok (rcO fs gs) (S ++ [.dead]) := by
  simp [mkObj_ap, m_Recurrence___init__, b_Recurrence___init__, rcO]
end PM
end
section
set_option Elab.async false
set_option linter.all false
set_option maxRecDepth 100000
set_option maxHeartbeats 4000000
set_option exponentiation.threshold 30000
namespace PM
open PySem L2
theorem frL_drop {n k : Nat} (h : k ≤ n) (z : Nat → Rat) : (frL n z).drop k = frL (n - k) fun i => z (k + i) := by
  refine List.ext_getElem? fun i => ?_
  rw [List.getElem?_drop]
  by_cases hi : i < n - k
  · rw [frL_get n z (by omega), frL_get (n - k) _ hi]
  · rw [List.getElem?_eq_none (by simp; omega), List.getElem?_eq_none (by simp; omega)]
theorem frL_take {n k : Nat} (h : k ≤ n) (z : Nat → Rat) : (frL n z).take k = frL k z := by
  refine List.ext_getElem? fun i => ?_
  by_cases hi : i < k
  · rw [List.getElem?_take_of_lt hi, frL_get n z (by omega), frL_get k z hi]
  · rw [List.getElem?_eq_none (by simp; omega), List.getElem?_eq_none (by simp; omega)]
theorem frL_succ (n : Nat) (z : Nat → Rat) : frL (n + 1) z = frL n z ++ [fr (z n)] := by
  unfold frL
  rw [List.range_succ, List.map_append]
  rfl
/-- factors f tell the numbers z from those before -/
def Tld (L many : Nat) (f z : Nat → Rat) : Prop := ∀ t, L ≤ t → t < many → z t = sm L fun i => f i * z (t - L + i)
theorem told_ok {L many : Nat} (h1 : L ≤ many) (h2 : many ≤ 400) {f z : Nat → Rat} (hz : Tld L many f z) (hf : ∀ i, i < L → Sy (f i)) (hs : ∀ t, t < many → Sy (z t)) (hp : ∀ t, L ≤ t → t < many → ∀ i, i < L → Sy (f i * z (t - L + i))) (hq : ∀ t, L ≤ t → t < many → ∀ k, k < L → Sy (sm k fun i => f i * z (t - L + i))) (S : Sto) : m_told_by [.lst (frL L f), .lst (frL L z), .int many] S = .ok (.lst (frL many z)) (S ++ [.dead]) := by
  have cu : cutD (frL L z) none (some (many : Int)) = frL L z := by
    unfold cutD HT.sIx
    simp
    rw [show min many L = L by omega, List.take_of_length_le (by rw [frL_len]; first | exact Nat.le_refl _ | (rw [if_neg (by omega)]; exact Nat.le_refl _))]
  have lf : (frL L f).length = L := frL_len L f
  have c1 : (L : Int) < 9223372036854775808 := by omega
  have c1' : L < 18446744073709551616 := by omega
  generalize hF : frL L f = Fs at *
  generalize hZ : frL L z = Zs at *
  simp -implicitDefEqProofs [m_told_by, b_told_by, eSlC, dSlC, rdL, cu]
  refine whl_rule (G := fun o => toOut (o.andThen _) = .ok (.lst (frL many z)) (S ++ [.dead])) (fun n e S' => ∃ k, n = many - k ∧ L ≤ k ∧ k ≤ many ∧ S' = S ++ [.lst (frL k z)] ∧ e = ⟨[some (.lst Fs), some (.lst Zs), some (.int many), some (.ptr S.length)], none⟩) (many - L) ⟨L, rfl, Nat.le_refl L, h1, by rw [hZ], rfl⟩ ?_
  rintro n e S' ⟨k, rfl, k1, k2, rfl, rfl⟩
  have lk : (frL k z).length = k := frL_len k z
  have c2 : (k : Int) < 9223372036854775808 := by omega
  have c2' : k < 18446744073709551616 := by omega
  have c3 : k < 100000 := by omega
  by_cases c : k < many
  · have dr : cutD (frL k z) (some ((k : Int) - (L : Int))) none = frL L fun i => z (k - L + i) := by
      rw [cutD_lo _ (by omega), show ((k : Int) - (L : Int)).toNat = k - L by omega, frL_drop (by omega)]
      congr 1
      omega
    have dt := fun S => dot_ok (n := L) (m := L) (Nat.le_refl L) (c := f) (x := fun i => z (k - L + i)) hf (fun i hi => hs _ (by omega)) (hp k k1 c) (hq k k1 c) S
    rw [← hz k k1 c, hF] at dt
    have ap := (frL_succ k z).symm
    generalize (frL L fun i => z (k - L + i)) = W at *
    generalize hK1 : frL (k + 1) z = K1 at *
    generalize hK : frL k z = K0 at *
    generalize fr (z k) = Zk at *
    refine ⟨true, S ++ [.lst K0], ?_, ?_⟩
    · simp -implicitDefEqProofs [lk, c2, c2', c]
    · refine ⟨⟨[some (.lst Fs), some (.lst Zs), some (.int many), some (.ptr S.length)], none⟩, S ++ [.lst K1], ?_, many - (k + 1), by omega, k + 1, rfl, by omega, by omega, ?_, rfl⟩
      · simp -implicitDefEqProofs [lk, lf, c1, c1', c2, c2', c3, dr, dt, dSl, rdL, eBM, dAppend, cellL, rdP, putL, ap_get, ap_set, oM, ap, app1_set]
      · rw [hK1]
  · have : k = many := by omega
    subst this
    generalize frL k z = K0 at *
    refine ⟨false, S ++ [.lst K0], ?_, ?_⟩
    · simp -implicitDefEqProofs [lk, c2, c2']
    · simp -implicitDefEqProofs [sFrz, setS, app1_set]
end PM
end
section
set_option Elab.async false
set_option linter.all false
set_option maxRecDepth 100000
set_option maxHeartbeats 2000000
set_option exponentiation.threshold 10000
namespace PM
open PySem L2
abbrev dp (p : Int × Int) : D := .tup [.int p.1, .int p.2]
def unI (n b : Nat) : List Int := (List.range n).map fun i => if i = b then 1 else 0
@[simp] theorem unI_len (n b : Nat) : (unI n b).length = n := by simp [unI]
end PM
end
section
set_option Elab.async false
set_option linter.all false
set_option maxRecDepth 100000
set_option maxHeartbeats 4000000
set_option exponentiation.threshold 30000
namespace PM
open PySem L2
/-- the volume of a basin behind laps -/
def lpv (rs : List Rd) (vs : List Int) (b k : Nat) : Rat := (lapQ (opn rs vs.length) (ofI vs) k).getD b 0
end PM
end
section
set_option Elab.async false
set_option linter.all false
set_option maxRecDepth 100000
set_option maxHeartbeats 4000000
set_option exponentiation.threshold 30000
namespace PM
open PySem L2
/-- what is given -/
structure Lp (rs : List Rd) (vs : List Int) (b : Nat) : Prop where
  hl : rs.length ≤ 2
  hr : ∀ r ∈ rs, r.ok
  h1 : 1 ≤ vs.length
  h5 : vs.length ≤ 5
  hv : ∀ v ∈ vs, 0 ≤ v ∧ v ≤ 11
  hb : b < vs.length
section
variable {rs : List Rd} {vs : List Int} {b : Nat} (h : Lp rs vs b)
include h
theorem Lp.hh : hvs rs vs.length ≤ 10 := by
  have := hvs_le rs (n := (vs.length : Int)) (by have := h.h1; omega)
  have m := Nat.mul_le_mul h.hl (show ((vs.length : Int)).toNat ≤ 5 by have := h.h5; omega)
  omega
theorem Lp.bd (k : Nat) : 0 ≤ lpv rs vs b k ∧ lpv rs vs b k ≤ 11 := by
  unfold lpv
  rw [← lapQ_rep]
  refine plyQ_all (fun x => 0 ≤ x ∧ x ≤ 11) (fun x y hx hy => by grind) _ _ (fun w hw => ?_) (fun i => ?_) b
  · obtain ⟨l, h1, h2⟩ := List.mem_flatten.mp hw
    rw [(List.mem_replicate.mp h1).2] at h2
    have := opn_in h2
    rw [ofI_len]
    exact this
  · have e : (ofI vs).getD i 0 = ((vs.getD i 0 : Int) : Rat) := getD_map0 _ _ _ _ _ rfl
    rw [e, List.getD_eq_getElem?_getD]
    cases q : vs[i]? with
    | none => exact ⟨by decide, by decide⟩
    | some v =>
      have := h.hv v (List.mem_of_getElem? q)
      exact ⟨by exact_mod_cast this.1, by exact_mod_cast this.2⟩
theorem Lp.xz (n : Nat) : Xz 10 0 4 n (lpv rs vs b) := fun k hk => by
  have sc := lap_ups h.hr vs (j := 10 * k) (k := k) (Nat.mul_le_mul_right k h.hh)
  have e := sc.at_ b
  refine ⟨_, e.symm, ?_⟩
  obtain ⟨b1, b2⟩ := h.bd k
  have pp : (0 : Rat) < (((2 ^ (10 * k) : Nat) : Int) : Rat) := by exact_mod_cast p2pos (10 * k)
  have u1 : (0 : Rat) ≤ (((lapI (opn rs vs.length) (ups vs (10 * k)) k).getD b 0 : Int) : Rat) := by
    rw [e]
    exact Rat.mul_nonneg b1 (Rat.le_of_lt pp)
  have u2 : (((lapI (opn rs vs.length) (ups vs (10 * k)) k).getD b 0 : Int) : Rat) ≤ ((11 * ((2 ^ (10 * k) : Nat) : Int) : Int) : Rat) := by
    rw [e, Rat.intCast_mul]
    exact Rat.mul_le_mul_of_nonneg_right b2 (Rat.le_of_lt pp)
  have v1 : (0 : Int) ≤ (lapI (opn rs vs.length) (ups vs (10 * k)) k).getD b 0 := by exact_mod_cast u1
  have v2 : (lapI (opn rs vs.length) (ups vs (10 * k)) k).getD b 0 ≤ 11 * ((2 ^ (10 * k) : Nat) : Int) := by exact_mod_cast u2
  rw [Nat.pow_add]
  omega
end
end PM
end
section
set_option Elab.async false
set_option linter.all false
set_option maxRecDepth 100000
set_option maxHeartbeats 2000000
set_option exponentiation.threshold 10000
namespace PM
open PySem L2
def Sm (B : Nat) (q : Rat) : Prop := q.den < 2 ^ B ∧ q.num.natAbs < 2 ^ B
theorem Sm.le {B C : Nat} {q : Rat} (h : Sm B q) (hc : B ≤ C) : Sm C q := ⟨Nat.lt_of_lt_of_le h.1 (Nat.pow_le_pow_right (by decide) hc), Nat.lt_of_lt_of_le h.2 (Nat.pow_le_pow_right (by decide) hc)⟩
end PM
end
section
set_option Elab.async false
set_option linter.all false
set_option maxRecDepth 100000
set_option maxHeartbeats 2000000
set_option exponentiation.threshold 10000
namespace PM
open PySem L2
def maxL0 (ns : List Int) : Int := match ns with
  | [] => 0
  | n :: ns => maxI n ns
/-- the off of a basin, in whole numbers -/
def offI (t : List Int) (Z : Int) (p : Int × Int) : List Int := (rng p.1 p.2).map fun i => if t.getD i.toNat 0 * (p.2 - p.1) - Z < 0 then -(t.getD i.toNat 0 * (p.2 - p.1) - Z) else t.getD i.toNat 0 * (p.2 - p.1) - Z
def mB (t : List Int) (Z : Int) (p : Int × Int) : Rat := ((maxL0 (offI t Z p) : Int) : Rat) / ((Z * (p.2 - p.1) : Int) : Rat)
end PM
end
section
set_option Elab.async false
set_option linter.all false
set_option maxRecDepth 100000
set_option maxHeartbeats 2000000
set_option exponentiation.threshold 10000
namespace PM
open PySem L2
end PM
end
section
set_option Elab.async false
set_option linter.all false
set_option maxRecDepth 100000
set_option maxHeartbeats 2000000
set_option exponentiation.threshold 10000
namespace PM
open PySem L2
end PM
end
section
set_option Elab.async false
set_option linter.all false
set_option maxRecDepth 100000
set_option maxHeartbeats 2000000
set_option exponentiation.threshold 10000
namespace PM
open PySem L2
end PM
end
section
set_option Elab.async false
set_option linter.all false
set_option maxRecDepth 100000
set_option maxHeartbeats 2000000
set_option exponentiation.threshold 20000
namespace PM
open PySem L2
end PM
end
section
set_option Elab.async false
set_option linter.all false
set_option maxRecDepth 100000
set_option maxHeartbeats 2000000
set_option exponentiation.threshold 20000
namespace PM
open PySem L2
end PM
end
section
set_option Elab.async false
set_option linter.all false
set_option maxRecDepth 100000
namespace PM
open PySem L2
end PM
end
section
set_option Elab.async false
set_option linter.all false
set_option maxRecDepth 100000
set_option maxHeartbeats 2000000
set_option exponentiation.threshold 20000
namespace PM
open PySem L2
end PM
end
section
set_option Elab.async false
set_option linter.all false
set_option maxRecDepth 100000
set_option maxHeartbeats 2000000
set_option exponentiation.threshold 20000
namespace PM
open PySem L2
theorem cutD_mid (ds : List D) {a b : Nat} (h : a ≤ b) (hb : b ≤ ds.length) : cutD ds (some (a : Int)) (some (b : Int)) = (ds.drop a).take (b - a) := by
  unfold cutD HT.sIx
  simp only
  rw [if_neg (by omega), if_neg (by omega)]
  simp only [Int.toNat_natCast]
  rw [Nat.min_eq_left (show a ≤ ds.length by omega), Nat.min_eq_left hb]
/-- parts of a row's water -/
theorem RV.part {n K M : Nat} {v : Nat → Rat} (h : RV n K M v) (hs : M * K < 2 ^ 4000) (hk : K < 2 ^ 4000) {a b : Nat} (hab : a ≤ b) (hb : b ≤ n) : Sz (pts v b - pts v a) := by
  obtain ⟨t, e⟩ := h.pden hb
  obtain ⟨s, f⟩ := h.pden (k := a) (by omega)
  have p1 := h.pM hb
  have p2 := h.pnn (k := a) (by omega)
  have p3 := h.ple hab hb
  have : (0 : Rat) ≤ (M : Rat) := by exact_mod_cast Nat.zero_le M
  exact sz_of (t := t - s) h.k0 (by push_cast; rw [← e, ← f]; grind) (by grind) (by grind) hs hk
theorem turn_of {I : Env → Sto → Prop} {G : SO → Prop} {o : SO} {e : Env} {S : Sto} (h : o = .nx e S) (hI : I e S) : Turn I G o := by
  rw [h]
  exact hI
end PM
end
section
set_option Elab.async false
set_option linter.all false
set_option maxRecDepth 100000
set_option maxHeartbeats 2000000
set_option exponentiation.threshold 40000
namespace PM
open PySem L2
end PM
end
section
set_option Elab.async false
set_option linter.all false
set_option maxRecDepth 100000
set_option maxHeartbeats 2000000
set_option exponentiation.threshold 40000
namespace PM
open PySem L2
end PM
end
section
set_option Elab.async false
set_option linter.all false
set_option maxRecDepth 100000
set_option maxHeartbeats 2000000
set_option exponentiation.threshold 40000
namespace PM
open PySem L2
/-- d tells the number q -/
structure Fq (d : D) (q : Rat) : Prop where
  fn : ∀ S, m_is_fraction [d] S = .ok (.bl true) S
  ex : ∀ S, m_exact [d] S = .ok (fr q) S
theorem Fq.int (a : Int) : Fq (.int a) (a : Rat) := ⟨fun S => m_is_fraction_int a S, m_exact_int a⟩
theorem Fq.pair {a b : Int} (hb : 1 ≤ b) (hs : b.toNat < 2 ^ 8999) : Fq (.tup [.int a, .int b]) ((a : Rat) / (b : Rat)) := ⟨fun S => is_fraction_pair a b hb S, fun S => by
  have e := fun S => dIs_ap [] [.inl "tuple"] (.tup [.int a, .int b]) S (k := .inl "tuple") rfl rfl
  have r := fun S => m_reduced_ok a b (by omega) hs S
  simp -implicitDefEqProofs [m_exact, b_exact, e, isK, kitP, r]⟩
theorem Fq.fr {q : Rat} (h : q.den < 2 ^ 8999) : Fq (PM.fr q) q := by
  have := Fq.pair (a := q.num) (b := (q.den : Int)) (by have := q.den_pos; omega) (by simpa using h)
  rw [rat_num_den] at this
  exact this
end PM
end
section
set_option Elab.async false
set_option linter.all false
set_option maxRecDepth 100000
set_option maxHeartbeats 2000000
set_option exponentiation.threshold 40000
namespace PM
open PySem L2
end PM
end
section
set_option Elab.async false
set_option linter.all false
set_option maxRecDepth 100000
set_option maxHeartbeats 2000000
set_option exponentiation.threshold 40000
namespace PM
open PySem L2
structure Dn (K M : Nat) (q : Rat) : Prop where
  k0 : 0 < K
  den : ∃ t : Int, q * (K : Rat) = t
  lo : -(M : Rat) ≤ q
  hi : q ≤ (M : Rat)
theorem Dn.add {K M K' M' : Nat} {p q : Rat} (h : Dn K M p) (g : Dn K' M' q) : Dn (K * K') (M + M') (p + q) := by
  obtain ⟨t, e⟩ := h.den
  obtain ⟨s, f⟩ := g.den
  have a1 := h.lo
  have a2 := h.hi
  have b1 := g.lo
  have b2 := g.hi
  refine ⟨Nat.mul_pos h.k0 g.k0, ⟨t * K' + s * K, ?_⟩, ?_, ?_⟩
  · push_cast
    rw [← e, ← f]
    grind
  · push_cast
    grind
  · push_cast
    grind
theorem Dn.up {K M K' M' : Nat} {q : Rat} (h : Dn K M q) (d : K ∣ K') (k0 : 0 < K') (m : M ≤ M') : Dn K' M' q := by
  obtain ⟨t, e⟩ := h.den
  obtain ⟨c, rfl⟩ := d
  have m' : (M : Rat) ≤ (M' : Rat) := by exact_mod_cast m
  have a1 := h.lo
  have a2 := h.hi
  refine ⟨k0, ⟨t * c, ?_⟩, by grind, by grind⟩
  push_cast
  rw [← e]
  grind
theorem RV.dn {n K M : Nat} {v : Nat → Rat} (h : RV n K M v) {i : Nat} (hi : i < n) : Dn K M (v i) := by
  have a := h.nn i hi
  have b := h.vM hi
  have m0 : (0 : Rat) ≤ (M : Rat) := by exact_mod_cast Nat.zero_le M
  exact ⟨h.k0, h.den i hi, by grind, b⟩
theorem Sz.zero : Sz 0 := ⟨by decide, by decide⟩
end PM
end
section
set_option Elab.async false
set_option linter.all false
set_option maxRecDepth 100000
set_option maxHeartbeats 2000000
set_option exponentiation.threshold 10000
namespace PM
open PySem L2
end PM
end
section
set_option Elab.async false
set_option linter.all false
set_option maxRecDepth 100000
set_option maxHeartbeats 2000000
namespace PM
open PySem L2
end PM
end
section
set_option Elab.async false
set_option linter.all false
set_option maxRecDepth 100000
set_option maxHeartbeats 4000000
set_option exponentiation.threshold 30000
namespace PM
open PySem L2
end PM
end
section
set_option Elab.async false
set_option linter.all false
set_option maxRecDepth 100000
set_option maxHeartbeats 2000000
set_option exponentiation.threshold 30000
namespace PM
end PM
end
section
set_option Elab.async false
set_option linter.all false
set_option maxRecDepth 100000
set_option maxHeartbeats 4000000
set_option exponentiation.threshold 30000
namespace PM
end PM
end
section
set_option Elab.async false
set_option linter.all false
set_option maxRecDepth 100000
set_option maxHeartbeats 4000000
set_option exponentiation.threshold 30000
namespace PM
open PySem L2
def exT (f : Nat → Rat) (L : Nat) (z0 : Nat → Rat) : Nat → Nat → Rat
  | 0 => fun _ => 0
  | n + 1 => fun t => if t = n then (if n < L then z0 n else sm L fun i => f i * exT f L z0 n (n - L + i)) else exT f L z0 n t
/-- z0 gone on by f -/
def exF (f : Nat → Rat) (L : Nat) (z0 : Nat → Rat) (t : Nat) : Rat := exT f L z0 (t + 1) t
theorem exT_eq (f : Nat → Rat) (L : Nat) (z0 : Nat → Rat) : ∀ n t, t < n → exT f L z0 n t = exF f L z0 t
  | 0, t, h => absurd h (Nat.not_lt_zero _)
  | n + 1, t, h => by
    by_cases q : t = n
    · rw [q]; rfl
    · show (if t = n then _ else exT f L z0 n t) = _
      rw [if_neg q]
      exact exT_eq f L z0 n t (by omega)
theorem exF_lt (f : Nat → Rat) {L : Nat} (z0 : Nat → Rat) {t : Nat} (h : t < L) : exF f L z0 t = z0 t := by
  show (if t = t then (if t < L then z0 t else _) else _) = _
  rw [if_pos rfl, if_pos h]
theorem exF_ge (f : Nat → Rat) {L : Nat} (z0 : Nat → Rat) {t : Nat} (h : L ≤ t) : exF f L z0 t = sm L fun i => f i * exF f L z0 (t - L + i) := by
  show (if t = t then (if t < L then z0 t else sm L fun i => f i * exT f L z0 t (t - L + i)) else _) = _
  rw [if_pos rfl, if_neg (by omega)]
  exact sm_congr fun i hi => by rw [exT_eq f L z0 t (t - L + i) (by omega)]
/-- factors over one bottom, first numbers over powers of 2 -/
structure Fx (a w q B D l L : Nat) (f z0 : Nat → Rat) : Prop where
  q0 : 0 < q
  qB : q ≤ 2 ^ B
  fe : ∀ i, i < L → ∃ t : Int, f i * ((2 ^ (a * (L - i)) * q : Nat) : Rat) = t ∧ t.natAbs ≤ 2 ^ B
  ze : ∀ t, t < L → ∃ y : Int, z0 t * ((2 ^ (a * t + w) : Nat) : Rat) = y ∧ y.natAbs ≤ 2 ^ D
  Ll : L ≤ 2 ^ l
variable {a w q B D l L : Nat} {f z0 : Nat → Rat}
theorem Fx.term (h : Fx a w q B D l L f z0) {t : Nat} (ht : L ≤ t) (ih : ∀ s, s < t → ∃ y : Int, exF f L z0 s * ((2 ^ (a * s + w) * q ^ (s + 1 - L) : Nat) : Rat) = y ∧ y.natAbs ≤ 2 ^ (D + (s + 1 - L) * (B + l))) {i : Nat} (hi : i < L) : ∃ y : Int, f i * exF f L z0 (t - L + i) * ((2 ^ (a * t + w) * q ^ (t + 1 - L) : Nat) : Rat) = y ∧ y.natAbs ≤ 2 ^ (B + D + (t - L) * (B + l)) := by
  obtain ⟨u, e1, b1⟩ := h.fe i hi
  obtain ⟨y, e2, b2⟩ := ih (t - L + i) (by omega)
  obtain ⟨r, hr⟩ : ∃ r, t - L = (t - L + i + 1 - L) + r := ⟨t - L - (t - L + i + 1 - L), by omega⟩
  refine ⟨u * y * ((q ^ r : Nat) : Int), ?_, ?_⟩
  · have k1 : 2 ^ (a * t + w) * q ^ (t + 1 - L) = (2 ^ (a * (L - i)) * q) * (2 ^ (a * (t - L + i) + w) * q ^ (t - L + i + 1 - L)) * q ^ r := by
      have p1 : a * t + w = a * (L - i) + (a * (t - L + i) + w) := by
        have : a * t = a * (L - i) + a * (t - L + i) := by rw [← Nat.mul_add]; congr 1; omega
        omega
      have p2 : t + 1 - L = 1 + (t - L + i + 1 - L) + r := by omega
      rw [p1, p2, Nat.pow_add, Nat.pow_add q, Nat.pow_add q, Nat.pow_one]
      grind
    rw [k1, Rat.natCast_mul, Rat.natCast_mul, Rat.intCast_mul, Rat.intCast_mul, ← e1, ← e2]
    have : (((q ^ r : Nat) : Int) : Rat) = ((q ^ r : Nat) : Rat) := rfl
    rw [this]
    grind
  · rw [Int.natAbs_mul, Int.natAbs_mul, Int.natAbs_natCast]
    have qr : q ^ r ≤ 2 ^ (B * r) := by
      rw [Nat.pow_mul]
      exact Nat.pow_le_pow_left h.qB r
    refine Nat.le_trans (Nat.mul_le_mul (Nat.mul_le_mul b1 b2) qr) ?_
    rw [← Nat.pow_add, ← Nat.pow_add]
    refine Nat.pow_le_pow_right (by decide) ?_
    have e3 : (t - L) * (B + l) = (t - L + i + 1 - L) * (B + l) + r * (B + l) := by
      rw [← Nat.add_mul, ← hr]
    have e4 : B * r ≤ r * (B + l) := by
      rw [Nat.mul_comm]
      exact Nat.mul_le_mul_left r (by omega)
    omega
theorem Fx.sums (h : Fx a w q B D l L f z0) {t : Nat} (ht : L ≤ t) (ih : ∀ s, s < t → ∃ y : Int, exF f L z0 s * ((2 ^ (a * s + w) * q ^ (s + 1 - L) : Nat) : Rat) = y ∧ y.natAbs ≤ 2 ^ (D + (s + 1 - L) * (B + l))) : ∀ k, k ≤ L → ∃ y : Int, (sm k fun i => f i * exF f L z0 (t - L + i)) * ((2 ^ (a * t + w) * q ^ (t + 1 - L) : Nat) : Rat) = y ∧ y.natAbs ≤ k * 2 ^ (B + D + (t - L) * (B + l))
  | 0, _ => ⟨0, by rw [sm_zero]; simp, by simp⟩
  | k + 1, hk => by
    obtain ⟨y, e1, b1⟩ := Fx.sums h ht ih k (by omega)
    obtain ⟨v, e2, b2⟩ := h.term ht ih (i := k) (by omega)
    refine ⟨y + v, ?_, ?_⟩
    · rw [sm_succ, Rat.intCast_add, ← e1, ← e2]
      grind
    · have := Int.natAbs_add_le y v
      rw [Nat.succ_mul]
      omega
theorem Fx.all (h : Fx a w q B D l L f z0) (t : Nat) : ∃ y : Int, exF f L z0 t * ((2 ^ (a * t + w) * q ^ (t + 1 - L) : Nat) : Rat) = y ∧ y.natAbs ≤ 2 ^ (D + (t + 1 - L) * (B + l)) := by
  induction t using Nat.strongRecOn with
  | _ t ih =>
    by_cases c : t < L
    · obtain ⟨y, e1, b1⟩ := h.ze t c
      refine ⟨y, ?_, ?_⟩
      · rw [exF_lt f z0 c, show t + 1 - L = 0 by omega, Nat.pow_zero, Nat.mul_one]
        exact e1
      · rw [show t + 1 - L = 0 by omega, Nat.zero_mul]
        exact b1
    · obtain ⟨y, e1, b1⟩ := h.sums (by omega) ih L (Nat.le_refl L)
      refine ⟨y, ?_, ?_⟩
      · rw [exF_ge f z0 (by omega)]
        exact e1
      · refine Nat.le_trans b1 (Nat.le_trans (Nat.mul_le_mul_right _ h.Ll) ?_)
        rw [← Nat.pow_add]
        refine Nat.pow_le_pow_right (by decide) ?_
        rw [show t + 1 - L = (t - L) + 1 by omega, Nat.succ_mul]
        omega
/-- all sizes that telling wants, up to many numbers -/
theorem Fx.told (h : Fx a w q B D l L f z0) {many : Nat} (h1 : L ≤ many) (h2 : many ≤ 400) (hA : a * many + w + (many + 1 - L) * B + a + B < 8900) (hD : B + D + l + (many + 1 - L) * (B + l) < 20000) (S : Sto) : m_told_by [.lst (frL L f), .lst (frL L z0), .int many] S = .ok (.lst (frL many (exF f L z0))) (S ++ [.dead]) := by
  have K0 : ∀ t, 0 < 2 ^ (a * t + w) * q ^ (t + 1 - L) := fun t => Nat.mul_pos (p2pos _) (Nat.pow_pos h.q0)
  have KB : ∀ t, t < many → 2 ^ (a * t + w) * q ^ (t + 1 - L) ≤ 2 ^ (a * many + w + (many + 1 - L) * B) := fun t ht => by
    have q1 : q ^ (t + 1 - L) ≤ 2 ^ (B * (t + 1 - L)) := by
      rw [Nat.pow_mul]
      exact Nat.pow_le_pow_left h.qB _
    refine Nat.le_trans (Nat.mul_le_mul_left _ q1) ?_
    rw [← Nat.pow_add]
    refine Nat.pow_le_pow_right (by decide) ?_
    have a1 := Nat.mul_le_mul_left a (Nat.le_of_lt ht)
    have a2 : B * (t + 1 - L) ≤ (many + 1 - L) * B := by
      rw [Nat.mul_comm]
      exact Nat.mul_le_mul_right B (by omega)
    omega
  have NB : ∀ t, t < many → D + (t + 1 - L) * (B + l) ≤ D + (many + 1 - L) * (B + l) ∧ (t - L) * (B + l) ≤ (many + 1 - L) * (B + l) := fun t ht => by
    have a1 := Nat.mul_le_mul_right (B + l) (show t + 1 - L ≤ many + 1 - L by omega)
    have a2 := Nat.mul_le_mul_right (B + l) (show t - L ≤ many + 1 - L by omega)
    omega
  have e0 : frL L z0 = frL L (exF f L z0) := frL_congr fun i hi => (exF_lt f z0 hi).symm
  rw [e0]
  refine told_ok h1 h2 (fun t ht _ => exF_ge f z0 ht) (fun i hi => ?_) (fun t ht => ?_) (fun t t1 t2 i hi => ?_) (fun t t1 t2 k hk => ?_) S
  · obtain ⟨u, e1, b1⟩ := h.fe i hi
    refine sy_of (A := a * many + B) (B := B) (Nat.mul_pos (p2pos _) h.q0) e1 ?_ b1 (by omega) (by omega)
    rw [Nat.pow_add]
    exact Nat.mul_le_mul (Nat.pow_le_pow_right (by decide) (Nat.mul_le_mul_left a (by omega))) h.qB
  · obtain ⟨y, e1, b1⟩ := h.all t
    have := NB t ht
    exact sy_of (A := a * many + w + (many + 1 - L) * B) (B := D + (t + 1 - L) * (B + l)) (K0 t) e1 (KB t ht) b1 (by omega) (by omega)
  · obtain ⟨y, e1, b1⟩ := h.term t1 (fun s _ => h.all s) hi
    have := NB t t2
    exact sy_of (A := a * many + w + (many + 1 - L) * B) (B := B + D + (t - L) * (B + l)) (K0 t) e1 (KB t t2) b1 (by omega) (by omega)
  · obtain ⟨y, e1, b1⟩ := h.sums t1 (fun s _ => h.all s) k (by omega)
    have := NB t t2
    refine sy_of (A := a * many + w + (many + 1 - L) * B) (B := l + (B + D + (t - L) * (B + l))) (K0 t) e1 (KB t t2) (Nat.le_trans b1 ?_) (by omega) (by omega)
    have := Nat.mul_le_mul_right (2 ^ (B + D + (t - L) * (B + l))) (Nat.le_trans (Nat.le_of_lt hk) h.Ll)
    rwa [← Nat.pow_add] at this
end PM
end
section
set_option Elab.async false
set_option linter.all false
set_option maxRecDepth 100000
set_option maxHeartbeats 4000000
set_option exponentiation.threshold 30000
namespace PM
open PySem L2
theorem m_is_exact_fr {q : Rat} (h : Sy q) (S : Sto) : m_is_exact [fr q] S = .ok (.bl true) S := by
  have d0 := q.den_pos
  have e := fun S => dIs_ap [] [.inl "tuple"] (fr q) S (k := .inl "tuple") rfl rfl
  have fp := fun S => is_fraction_pair q.num q.den (by omega) S
  have ex := fun S => m_exact_fr q (Nat.lt_of_lt_of_le h.1 (Nat.pow_le_pow_right (by decide) (by decide))) S
  have de := fun S => dEq_fit false (a := fr q) (b := fr q) S (by simp [fr]) (by simp [fr])
  simp only [decide_true, Bool.bne_true, Bool.not_false] at de
  have fp : ∀ S, m_is_fraction [fr q] S = .ok (.bl true) S := fp
  generalize fr q = F at *
  simp -implicitDefEqProofs [m_is_exact, b_is_exact, e, isK, kitP, fp, ex, de]
theorem eqFL (n : Nat) (c d : Nat → Rat) (S : Sto) : dEq false (.lst (frL n c)) (.lst (frL n d)) S = .ok (.bl (decide (∀ i, i < n → c i = d i))) S := by
  rw [dEq_fit false S (by unfold frL; simp [fr]) (by unfold frL; simp [fr])]
  congr 2
  rw [Bool.false_bne, Bool.eq_iff_iff, decide_eq_true_iff, decide_eq_true_iff]
  constructor
  · intro e i hi
    injection e with e
    have := congrArg (fun l : List D => l[i]?) e
    simp only [frL_get n c hi, frL_get n d hi] at this
    injection this with this
    exact fr_inj.mp this
  · intro e
    rw [frL_congr e]
end PM
end
section
set_option Elab.async false
set_option linter.all false
set_option maxRecDepth 100000
set_option maxHeartbeats 4000000
set_option exponentiation.threshold 30000
namespace PM
open PySem L2
/-- programs whose amounts may be asked -/
structure Rp (rs : List Rd) : Prop where
  hl : rs.length ≤ 6
  hr : ∀ r ∈ rs, r.ok
theorem Rp.hv {rs : List Rd} (h : Rp rs) {n : Nat} (hn : n ≤ 300) : hvs rs n ≤ 4000 := by
  by_cases z : n = 0
  · subst z
    have : ∀ rs : List Rd, hvs rs ((0 : Nat) : Int) ≤ rs.length := fun rs => by
      induction rs with
      | nil => exact Nat.zero_le _
      | cons r rs ih =>
        show hv1 _ r + hvs rs _ ≤ rs.length + 1
        have : hv1 ((0 : Nat) : Int) r ≤ 1 := by cases r <;> simp [hv1]
        omega
    have := this rs
    have := h.hl
    omega
  · have := hvs_le rs (n := (n : Int)) (by omega)
    have := Nat.mul_le_mul h.hl (show ((n : Int)).toNat ≤ 300 by omega)
    omega
section
variable {rs : List Rd} (R : Rp rs) (s : Stt) {b : Nat} (hb : b ≤ 2)
include R hb
theorem first_ams {m : Nat} (hm : m ≤ 200) : Ext m_first_amounts [prog rs, .str s.s, .int b, .int m] (.lst (frL m (xAm rs s b))) := fun S => m_first_amounts_ok (by have := R.hl; omega) R.hr s (m := m) (back := b) (by omega) (fun n hn => R.hv (by omega)) S
theorem ams_ok {m : Nat} (h1 : 1 ≤ m) (hm : m ≤ 200) : Ext m_amounts [prog rs, .str s.s, .int b, .int m] (.lst (frL m (xAm rs s b))) := fun S => by
  have ca := fun S => m_check_asked_ok rs s (back := b) (by omega) S
  have fa := (first_ams R s hb hm).eq
  have c1 : (1 : Int) ≤ (m : Int) := by omega
  have c2 : (m : Int) ≤ 300 - (b : Int) := by omega
  refine ⟨tl m_first_amounts [prog rs, .str s.s, .int b, .int m] S, ?_⟩
  simp -implicitDefEqProofs [m_amounts, b_amounts, ca, fa, m_is_integer_int, c1, c2]
theorem am_ok {n : Nat} (h1 : b < n) (hn : n ≤ 200) (S : Sto) : m_amount [prog rs, .str s.s, .int b, .int n] S = .ok (fr (xAm rs s b (n - 1 - b))) (S ++ [.dead, .dead]) := by
  have := m_amount_ok (by have := R.hl; omega) R.hr s (n := n) (back := b) (by omega) h1 (by omega) (R.hv (by omega)) S
  unfold xAm
  rwa [show b + 1 + (n - 1 - b) = n by omega]
theorem rec_ok {c : Nat → Rat} {L : Nat} (hL : L ≤ 8) (ff : ∀ S, ∃ T, m_fewest_factors [.lst (frL 120 (xAm rs s b))] S = .ok (.lst (frL L fun i => 0 - c (L - i))) (S ++ T)) : Ext m_recurrence [prog rs, .str s.s, .int b] (rcO (frL L fun i => 0 - c (L - i)) (frL L (xAm rs s b))) := fun S => by
  have ca := fun S => m_check_asked_ok rs s (back := b) (by omega) S
  have fa := (first_ams R s hb (m := 120) (by decide)).eq
  obtain ⟨T2, ff⟩ := ff (S ++ tl m_first_amounts [prog rs, .str s.s, .int b, .int 120] S)
  have tk : cutD (frL 120 (xAm rs s b)) none (some (L : Int)) = frL L (xAm rs s b) := by
    rw [cutD_hi _ (by omega), Int.toNat_natCast, frL_take (by omega)]
  have lf : (frL L fun i => 0 - c (L - i)).length = L := frL_len _ _
  have fa : ∀ S, m_first_amounts [prog rs, .str s.s, .int b, .int 120] S = .ok (.lst (frL 120 (xAm rs s b))) (S ++ tl m_first_amounts [prog rs, .str s.s, .int b, .int 120] S) := fa
  refine ⟨tl m_first_amounts [prog rs, .str s.s, .int b, .int 120] S ++ (T2 ++ [.dead]), ?_⟩
  have c2 : (L : Int) < 9223372036854775808 := by omega
  have c2' : L < 18446744073709551616 := by omega
  generalize hA : (frL L fun i => 0 - c (L - i)) = A at *
  generalize frL 120 (xAm rs s b) = X at *
  generalize frL L (xAm rs s b) = X2 at *
  generalize prog rs = P at *
  simp -implicitDefEqProofs [m_recurrence, b_recurrence, ca, fa, ff, dSl_lst, mk_Rec, tk, lf, c2, c2']
variable {a w q B G l L : Nat} {f z0 : Nat → Rat}
theorem shows_am (H : Fx a w q B G l L f z0) (hL : L ≤ 12) (hA : a * (L + 60) + w + (L + 60 + 1 - L) * B + a + B < 8900) (hD : B + G + l + (L + 60 + 1 - L) * (B + l) < 20000) (sf : ∀ i, i < L → Sy (f i)) (sz : ∀ i, i < L → Sy (z0 i)) : Ext m_Recurrence_shows [rcO (frL L f) (frL L z0), prog rs, .str s.s, .int b] (.bl (decide (∀ t, t < L + 60 → exF f L z0 t = xAm rs s b t))) := fun S => by
  have ca := fun S => m_check_asked_ok rs s (back := b) (by omega) S
  have fa := (first_ams R s hb (m := L + 60) (by omega)).eq
  have td := fun S => H.told (many := L + 60) (by omega) (by omega) hA hD S
  have de := fun S => eqFL (L + 60) (exF f L z0) (xAm rs s b) S
  have lc := fun (l : List (Option D)) (h5 : 5 < l.length) S => lcGo_all (tg := gN 5) (m := eA m_is_exact (aCons (eVar 5) aNil)) (e0 := ⟨l, none⟩) (S := S) fr (fun _ => D.bl true) ((List.range L).map f ++ (List.range L).map z0) fun x hx => by
    refine ⟨⟨l.set 5 (some (fr x)), none⟩, rfl, ?_⟩
    have g5 : (l.set 5 (some (fr x)))[5]? = some (some (fr x)) := List.getElem?_set_self h5
    have sx : Sy x := by
      rcases List.mem_append.mp hx with hx | hx
      · obtain ⟨i, hi, rfl⟩ := List.mem_map.mp hx
        exact sf i (List.mem_range.mp hi)
      · obtain ⟨i, hi, rfl⟩ := List.mem_map.mp hx
        exact sz i (List.mem_range.mp hi)
    have ie := fun S => m_is_exact_fr sx S
    generalize fr x = F at *
    generalize l.set 5 (some F) = l' at *
    simp -implicitDefEqProofs [g5, ie]
  have ap : frL L f ++ frL L z0 = ((List.range L).map f ++ (List.range L).map z0).map fr := by
    unfold frL
    rw [List.map_append, List.map_map, List.map_map]
    rfl
  rw [← ap] at lc
  have ab : asBools (((List.range L).map f ++ (List.range L).map z0).map fun _ => D.bl true) = some (((List.range L).map f ++ (List.range L).map z0).map fun _ => true) := asBools_fun _ _
  have an : (((List.range L).map f ++ (List.range L).map z0).map fun _ => true).all id = true := by simp
  have la : (((List.range L).map f ++ (List.range L).map z0).map fun _ => D.bl true).length ≤ 100000 := by simp; omega
  have lf : (frL L f).length = L := frL_len _ _
  have lz : (frL L z0).length = L := frL_len _ _
  have c1 : (L : Int) < 9223372036854775808 ∧ L < 18446744073709551616 := by omega
  have c3 : L + L ≤ 100000 := by omega
  have ms : ((L + 60 : Nat) : Int) = (L : Int) + 60 := by omega
  rw [ms] at fa td
  have da : ∀ S, dAll (.lst (((List.range L).map f ++ (List.range L).map z0).map fun _ => D.bl true)) S = .ok (.bl true) S := fun S => by
    unfold dAll
    rw [wL_ap, rdL_lst]
    simp only [ab, oM, an]
    rfl
  generalize decide (∀ t, t < L + 60 → exF f L z0 t = xAm rs s b t) = RR at *
  generalize frL (L + 60) (exF f L z0) = E1 at *
  generalize frL (L + 60) (xAm rs s b) = E2 at *
  generalize (((List.range L).map f ++ (List.range L).map z0).map fun _ => D.bl true) = BL at *
  unfold rcO
  have lcx := fun S => lc [some (.obj "Recurrence" [("factors", .lst (frL L f)), ("firsts", .lst (frL L z0))]), some (prog rs), some (.str s.s), some (.int b), none, none] (by simp) S
  clear lc ap
  generalize frL L f = A1 at *
  generalize frL L z0 = A2 at *
  generalize prog rs = P at *
  generalize htl : (fun S => tl m_first_amounts [P, .str s.s, .int b, .int ((L : Int) + 60)] S) = TL
  have fa : ∀ S, m_first_amounts [P, .str s.s, .int b, .int ((L : Int) + 60)] S = .ok (.lst E2) (S ++ TL S) := fun S => by rw [← htl]; exact fa S
  clear htl
  refine ⟨[.dead] ++ TL (S ++ [.dead]), ?_⟩
  simp -implicitDefEqProofs [m_Recurrence_shows, b_Recurrence_shows, ca, lf, lz, c1, c3, lcx, la, da, td, fa, de]
end
theorem told_few {L many : Nat} (h : many < L) (h2 : L ≤ 100) (Fs : List D) (z : Nat → Rat) (S : Sto) : m_told_by [.lst Fs, .lst (frL L z), .int many] S = .ok (.lst (frL many z)) (S ++ [.dead]) := by
  have cu : cutD (frL L z) none (some (many : Int)) = frL many z := by rw [cutD_hi _ (by omega), Int.toNat_natCast, frL_take (by omega)]
  have lk : (frL many z).length = many := frL_len many z
  have c2 : (many : Int) < 9223372036854775808 := by omega
  have c2' : many < 18446744073709551616 := by omega
  generalize hZ : frL L z = Zs at *
  simp -implicitDefEqProofs [m_told_by, b_told_by, eSlC, dSlC, rdL, cu]
  refine whl_rule (G := fun o => toOut (o.andThen _) = .ok (.lst (frL many z)) (S ++ [.dead])) (fun n e S' => S' = S ++ [.lst (frL many z)] ∧ e = ⟨[some (.lst Fs), some (.lst Zs), some (.int many), some (.ptr S.length)], none⟩) 0 ⟨rfl, rfl⟩ ?_
  rintro n e S' ⟨rfl, rfl⟩
  generalize frL many z = K0 at *
  refine ⟨false, S ++ [.lst K0], ?_, ?_⟩
  · simp -implicitDefEqProofs [lk, c2, c2']
  · simp -implicitDefEqProofs [sFrz, setS, app1_set]
theorem value_ok {a w q B G l L : Nat} {f z0 : Nat → Rat} (H : Fx a w q B G l L f z0) {k : Nat} (hk : k < 50) (hL : L ≤ 12) (hA : a * 60 + w + 60 * B + a + B < 8900) (hD : B + G + l + 60 * (B + l) < 20000) (S : Sto) : m_Recurrence_value [rcO (frL L f) (frL L z0), .int k] S = .ok (fr (exF f L z0 k)) (S ++ [.dead]) := by
  have td : ∀ S, m_told_by [.lst (frL L f), .lst (frL L z0), .int ((k + 1 : Nat) : Int)] S = .ok (.lst (frL (k + 1) (exF f L z0))) (S ++ [.dead]) := fun S => by
    by_cases c : L ≤ k + 1
    · have m1 := Nat.mul_le_mul_left a (show k + 1 ≤ 60 by omega)
      have m2 := Nat.mul_le_mul_right B (show k + 1 + 1 - L ≤ 60 by omega)
      have m3 := Nat.mul_le_mul_right (B + l) (show k + 1 + 1 - L ≤ 60 by omega)
      exact H.told c (by omega) (by omega) (by omega) S
    · rw [told_few (by omega) (by omega)]
      congr 2
      exact frL_congr fun i hi => (exF_lt f z0 (by omega)).symm
  have ai : atI (frL (k + 1) (exF f L z0)) (k : Int) = some (fr (exF f L z0 k)) := atI_get (frL_get _ _ (by omega))
  rw [show (((k + 1 : Nat)) : Int) = (k : Int) + 1 by omega] at td
  unfold rcO
  generalize frL (k + 1) (exF f L z0) = E1 at *
  generalize fr (exF f L z0 k) = V at *
  simp -implicitDefEqProofs [m_Recurrence_value, b_Recurrence_value, td, ai]
end PM
end
section
set_option Elab.async false
set_option maxRecDepth 100000
namespace PM
theorem chk0 : chkP 0 = true := by kernel_rfl
theorem chk1 : chkP 1 = true := by kernel_rfl
theorem chk2_0 : chkQ [.right, .right] = true := by kernel_rfl
theorem chk2_1 : chkQ [.ev 2 1, .right] = true := by kernel_rfl
theorem chk2_2 : chkQ [.ev 2 0, .right] = true := by kernel_rfl
theorem chk2_3 : chkQ [.right, .ev 2 1] = true := by kernel_rfl
theorem chk2_4 : chkQ [.ev 2 1, .ev 2 1] = true := by kernel_rfl
theorem chk2_5 : chkQ [.ev 2 0, .ev 2 1] = true := by kernel_rfl
theorem chk2_6 : chkQ [.right, .ev 2 0] = true := by kernel_rfl
theorem chk2_7 : chkQ [.ev 2 1, .ev 2 0] = true := by kernel_rfl
theorem chk2_8 : chkQ [.ev 2 0, .ev 2 0] = true := by kernel_rfl
theorem prs2 : prs 2 = [[.right, .right], [.ev 2 1, .right], [.ev 2 0, .right], [.right, .ev 2 1], [.ev 2 1, .ev 2 1], [.ev 2 0, .ev 2 1], [.right, .ev 2 0], [.ev 2 1, .ev 2 0], [.ev 2 0, .ev 2 0]] := rfl
theorem chk2 : chkP 2 = true := by
  unfold chkP
  rw [prs2]
  simp only [List.all_cons, List.all_nil, Bool.and_self, chk2_0, chk2_1, chk2_2, chk2_3, chk2_4, chk2_5, chk2_6, chk2_7, chk2_8]
end PM
end
section
set_option Elab.async false
set_option linter.all false
set_option maxRecDepth 100000
set_option maxHeartbeats 4000000
set_option exponentiation.threshold 30000
namespace PM
open PySem L2
theorem exF_self' {f x : Nat → Rat} {L : Nat} (h : ∀ t, L ≤ t → x t = sm L fun i => f i * x (t - L + i)) (t : Nat) : exF f L x t = x t := by
  induction t using Nat.strongRecOn with
  | _ t ih =>
    by_cases c : t < L
    · exact exF_lt f x c
    · rw [exF_ge f x (by omega), h t (by omega)]
      exact sm_congr fun i hi => by rw [ih (t - L + i) (by omega)]
section
variable {rs : List Rd} {s : Stt} {b : Nat} {c : Nat → Rat} {L : Nat} (A : Amt rs s b c L)
include A
def fnd (c : Nat → Rat) (L : Nat) : Nat → Rat := fun i => 0 - c (L - i)
theorem Amt.rcc {t : Nat} (ht : L ≤ t) : xAm rs s b t = sm L fun i => fnd c L i * xAm rs s b (t - L + i) := by
  have z := A.zr t ht
  rw [sm_rev, sm_succ, Nat.sub_self, A.c0] at z
  have e : (sm L fun i => c (L - i) * xAm rs s b (t - (L - i))) = -1 * sm L fun i => fnd c L i * xAm rs s b (t - L + i) := by
    rw [sm_mul]
    refine sm_congr fun i hi => ?_
    unfold fnd
    rw [show t - (L - i) = t - L + i by omega]
    grind
  rw [e, Nat.sub_zero] at z
  grind
theorem Amt.self (t : Nat) : exF (fnd c L) L (xAm rs s b) t = xAm rs s b t := exF_self' (f := fnd c L) (x := xAm rs s b) (L := L) (fun t ht => A.rcc (t := t) ht) t
theorem Amt.fx : Fx 3 9 1 40 40 4 L (fnd c L) (xAm rs s b) where
  q0 := by decide
  qB := by decide
  fe := fun i hi => by
    obtain ⟨t, e, bd⟩ := A.vq.en (L - i)
    refine ⟨-t, ?_, by rw [Int.natAbs_neg]; exact bd⟩
    unfold fnd
    rw [Rat.intCast_neg, ← e]
    grind
  ze := fun t ht => by
    obtain ⟨y, e, bd⟩ := A.xz t (by have := A.l8; omega)
    exact ⟨y, e, Nat.le_trans bd (Nat.pow_le_pow_right (by decide) (by have := A.l8; omega))⟩
  Ll := by have := A.l8; omega
theorem Amt.sf (i : Nat) (hi : i < L) : Sy (fnd c L i) := by
  obtain ⟨t, e, bd⟩ := A.fx.fe i hi
  exact sy_of (A := 3 * (L - i)) (B := 40) (Nat.mul_pos (p2pos _) (by decide)) e (by rw [Nat.mul_one]; exact Nat.le_refl _) bd (by have := A.l8; omega) (by decide)
theorem Amt.sx (i : Nat) (hi : i < 120) : Sy (xAm rs s b i) := by
  obtain ⟨y, e, bd⟩ := A.xz i hi
  exact sy_of (A := 3 * i + 9) (B := 3 * i + 16) (p2pos _) e (Nat.le_refl _) bd (by omega) (by omega)
end
theorem rec_am {rs : List Rd} (R : Rp rs) {ss : List Rd} {s : Stt} {b : Nat} (hb : b ≤ 2) {c : Nat → Rat} {L : Nat} (A : Amt ss s b c L) (e : xAm rs s b = xAm ss s b) : Ext m_recurrence [prog rs, .str s.s, .int b] (rcO (frL L (fnd c L)) (frL L (xAm ss s b))) := by
  have := rec_ok R s hb (c := c) A.l8 (by rw [e]; exact A.ff)
  rw [e] at this
  exact this
theorem shows_self {rs : List Rd} (R : Rp rs) {ss : List Rd} {s : Stt} {b : Nat} (hb : b ≤ 2) {c : Nat → Rat} {L : Nat} (A : Amt ss s b c L) (e : xAm rs s b = xAm ss s b) : Ext m_Recurrence_shows [rcO (frL L (fnd c L)) (frL L (xAm ss s b)), prog rs, .str s.s, .int b] (.bl true) := by
  have l8 := A.l8
  have := shows_am R s hb A.fx (by omega) (by omega) (by omega) A.sf (fun i hi => A.sx i (by omega))
  rw [decide_eq_true (fun t _ => by rw [A.self, e])] at this
  exact this
theorem value_am {ss : List Rd} {s : Stt} {b : Nat} {c : Nat → Rat} {L : Nat} (A : Amt ss s b c L) {k : Nat} (hk : k < 50) (S : Sto) : m_Recurrence_value [rcO (frL L (fnd c L)) (frL L (xAm ss s b)), .int k] S = .ok (fr (xAm ss s b k)) (S ++ [.dead]) := by
  have := value_ok A.fx hk (by have := A.l8; omega) (by omega) (by omega) S
  rwa [A.self] at this
end PM
end
section
set_option Elab.async false
set_option maxRecDepth 100000
namespace PM
theorem chk3_0 : chkQ [.right, .right, .right] = true := by kernel_rfl
theorem chk3_1 : chkQ [.ev 2 1, .right, .right] = true := by kernel_rfl
theorem chk3_2 : chkQ [.ev 2 0, .right, .right] = true := by kernel_rfl
theorem chk3_3 : chkQ [.right, .ev 2 1, .right] = true := by kernel_rfl
theorem chk3_4 : chkQ [.ev 2 1, .ev 2 1, .right] = true := by kernel_rfl
theorem chk3_5 : chkQ [.ev 2 0, .ev 2 1, .right] = true := by kernel_rfl
theorem chk3_6 : chkQ [.right, .ev 2 0, .right] = true := by kernel_rfl
theorem chk3_7 : chkQ [.ev 2 1, .ev 2 0, .right] = true := by kernel_rfl
theorem chk3_8 : chkQ [.ev 2 0, .ev 2 0, .right] = true := by kernel_rfl
theorem chk3_9 : chkQ [.right, .right, .ev 2 1] = true := by kernel_rfl
theorem chk3_10 : chkQ [.ev 2 1, .right, .ev 2 1] = true := by kernel_rfl
theorem chk3_11 : chkQ [.ev 2 0, .right, .ev 2 1] = true := by kernel_rfl
theorem chk3_12 : chkQ [.right, .ev 2 1, .ev 2 1] = true := by kernel_rfl
theorem chk3_13 : chkQ [.ev 2 1, .ev 2 1, .ev 2 1] = true := by kernel_rfl
theorem chk3_14 : chkQ [.ev 2 0, .ev 2 1, .ev 2 1] = true := by kernel_rfl
theorem chk3_15 : chkQ [.right, .ev 2 0, .ev 2 1] = true := by kernel_rfl
theorem chk3_16 : chkQ [.ev 2 1, .ev 2 0, .ev 2 1] = true := by kernel_rfl
theorem chk3_17 : chkQ [.ev 2 0, .ev 2 0, .ev 2 1] = true := by kernel_rfl
theorem chk3_18 : chkQ [.right, .right, .ev 2 0] = true := by kernel_rfl
theorem chk3_19 : chkQ [.ev 2 1, .right, .ev 2 0] = true := by kernel_rfl
theorem chk3_20 : chkQ [.ev 2 0, .right, .ev 2 0] = true := by kernel_rfl
theorem chk3_21 : chkQ [.right, .ev 2 1, .ev 2 0] = true := by kernel_rfl
theorem chk3_22 : chkQ [.ev 2 1, .ev 2 1, .ev 2 0] = true := by kernel_rfl
theorem chk3_23 : chkQ [.ev 2 0, .ev 2 1, .ev 2 0] = true := by kernel_rfl
theorem chk3_24 : chkQ [.right, .ev 2 0, .ev 2 0] = true := by kernel_rfl
theorem chk3_25 : chkQ [.ev 2 1, .ev 2 0, .ev 2 0] = true := by kernel_rfl
theorem chk3_26 : chkQ [.ev 2 0, .ev 2 0, .ev 2 0] = true := by kernel_rfl
theorem prs3 : prs 3 = [[.right, .right, .right], [.ev 2 1, .right, .right], [.ev 2 0, .right, .right], [.right, .ev 2 1, .right], [.ev 2 1, .ev 2 1, .right], [.ev 2 0, .ev 2 1, .right], [.right, .ev 2 0, .right], [.ev 2 1, .ev 2 0, .right], [.ev 2 0, .ev 2 0, .right], [.right, .right, .ev 2 1], [.ev 2 1, .right, .ev 2 1], [.ev 2 0, .right, .ev 2 1], [.right, .ev 2 1, .ev 2 1], [.ev 2 1, .ev 2 1, .ev 2 1], [.ev 2 0, .ev 2 1, .ev 2 1], [.right, .ev 2 0, .ev 2 1], [.ev 2 1, .ev 2 0, .ev 2 1], [.ev 2 0, .ev 2 0, .ev 2 1], [.right, .right, .ev 2 0], [.ev 2 1, .right, .ev 2 0], [.ev 2 0, .right, .ev 2 0], [.right, .ev 2 1, .ev 2 0], [.ev 2 1, .ev 2 1, .ev 2 0], [.ev 2 0, .ev 2 1, .ev 2 0], [.right, .ev 2 0, .ev 2 0], [.ev 2 1, .ev 2 0, .ev 2 0], [.ev 2 0, .ev 2 0, .ev 2 0]] := rfl
theorem chk3 : chkP 3 = true := by
  unfold chkP
  rw [prs3]
  simp only [List.all_cons, List.all_nil, Bool.and_self, chk3_0, chk3_1, chk3_2, chk3_3, chk3_4, chk3_5, chk3_6, chk3_7, chk3_8, chk3_9, chk3_10, chk3_11, chk3_12, chk3_13, chk3_14, chk3_15, chk3_16, chk3_17, chk3_18, chk3_19, chk3_20, chk3_21, chk3_22, chk3_23, chk3_24, chk3_25, chk3_26]
end PM
end
section
set_option Elab.async false
set_option linter.all false
set_option maxRecDepth 100000
set_option maxHeartbeats 2000000
set_option exponentiation.threshold 10000
namespace PM
open PySem L2
theorem law_unit_ok {n b : Nat} (h : n ≤ 400) (S : Sto) : m__law_unit_p [.int n, .int b] S = .ok (.lst ((unI n b).map .int)) S := by
  have c1 : (n : Int) ≤ 1000000 ∧ (-1000000 : Int) ≤ (n : Int) := by omega
  have c2 : n ≤ 100000 := by omega
  have lc := lcGo_all (tg := gN 2) (m := eIf (tOf (e2 (dEq false) (eVar 2) (eVar 1))) (eC (.int 1)) (eC (.int 0))) (e0 := ⟨[some (.int n), some (.int b), none], none⟩) (S := S) (fun i : Nat => D.int i) (fun i => D.int (if i = b then 1 else 0)) (List.range n) fun i _ => by
    refine ⟨_, rfl, ?_⟩
    have : ((i : Int) = (b : Int)) = (i = b) := propext (by omega)
    by_cases c : i = b <;> simp -implicitDefEqProofs [c, this]
  have e : rangeD 0 n = (List.range n).map fun i : Nat => D.int i := by
    unfold rangeD
    simp
  have e2 : (unI n b).map D.int = (List.range n).map fun i => D.int (if i = b then 1 else 0) := by
    unfold unI
    rw [List.map_map]
    rfl
  rw [e2]
  simp -implicitDefEqProofs [m__law_unit_p, b__law_unit_p, c1, c2, e, lc]
theorem intBits_le (i : Int) {k : Nat} (h : i.natAbs < 2 ^ k) (hk : 0 < k) : Builtin.Int.intBits i ≤ k := by
  unfold Builtin.Int.intBits
  split
  · omega
  · rename_i c
    have z : i.natAbs ≠ 0 := by
      intro z
      have : i = 0 := by omega
      exact c (by simp [this])
    have : i.natAbs.log2 < k := (Nat.log2_lt z).mpr h
    omega
/-- what the law plays, by laps -/
theorem law_done_ok {rs : List Rd} {x y : D} {vs : List Int} {L : Nat} (hx : IsSeq (((List.replicate L rs).flatten).map Rd.d) x) (hy : IsSeq (vs.map .int) y) (hr : ∀ r ∈ rs, r.ok) (hl : L * rs.length ≤ 40) (n1 : 1 ≤ vs.length) (n2 : vs.length ≤ 40) (hv : ∀ v ∈ vs, v.natAbs < 2 ^ 64) (S : Sto) :
    m__law_done [x, y] S = .ok (.tup ((lapQ (opn rs vs.length) (ofI vs) L).map fr)) (S ++ [.dead]) := by
  have fl := flat_len rs L
  have sn : ((L * rs.length : Nat) : Int) * (vs.length : Int) + 1 = ((L * rs.length * vs.length + 1 : Nat) : Int) := by push_cast; rfl
  have hsc : hvs rs vs.length * L ≤ L * rs.length * vs.length + 1 := by
    have := hvs_le rs (n := vs.length) (by omega)
    have e : ((vs.length : Int)).toNat = vs.length := by omega
    rw [e] at this
    have := Nat.mul_le_mul_right L this
    have e2 : rs.length * vs.length * L = L * rs.length * vs.length := by
      rw [Nat.mul_comm, Nat.mul_assoc]
    omega
  have sb : L * rs.length * vs.length ≤ 40 * 40 := Nat.mul_le_mul hl n2
  have lg : (L * rs.length).log2 + vs.length.log2 < 1000000 := by
    have c := Nat.log2_le_self (L * rs.length)
    have d := Nat.log2_le_self vs.length
    omega
  have sc := lap_ups hr vs (j := L * rs.length * vs.length + 1) (k := L) hsc
  have ul := ups_len vs (L * rs.length * vs.length + 1)
  have pl := fun S => law_play_ok (ts := ups vs (L * rs.length * vs.length + 1)) hx (by rw [fl]; exact hl) (flat_ok hr L) (IsSeq.lst) (by rw [ul]; exact n1) (by rw [ul]; omega) S
  rw [ul, opn_rep, lapI_rep] at pl
  have sp := sc.part
  rw [p2] at sp
  have tlen := lapI_len (opn rs vs.length) (ups vs (L * rs.length * vs.length + 1)) L
  rw [ul] at tlen
  have eu : (ups vs (L * rs.length * vs.length + 1)).map D.int = vs.map fun v => D.int (v * (2 : Int) ^ (L * rs.length * vs.length + 1)) := by
    rw [ups_eq, List.map_map]
    rfl
  rw [eu] at pl
  have sbb : L * rs.length * vs.length + 1 ≤ 1601 := by omega
  have rq := hx.rdQ
  have ln : ((((List.replicate L rs).flatten).map Rd.d).length : Int) = ((L * rs.length : Nat) : Int) := by rw [List.length_map, fl]
  have it := hx.itm
  have ln' : (((List.replicate L rs).flatten).map Rd.d).length = L * rs.length := by rw [List.length_map, fl]
  generalize ((List.replicate L rs).flatten).map Rd.d = xs at *
  generalize L * rs.length = m at *
  generalize m * vs.length + 1 = s at *
  have ib : ∀ v ∈ vs, (Builtin.Int.intBits v : Int) + (s : Int) ≤ 134217728 := fun v hm => by
    have := intBits_le v (hv v hm) (by decide)
    omega
  have i1 : Builtin.Int.intBits 1 = 1 := by decide
  have sb2 : (1 : Int) + (s : Int) ≤ 134217728 ∧ (0 : Int) ≤ (s : Int) := by omega
  have lc := fun S => lcGo_all (tg := gN 4) (m := e2 dShl (eVar 4) (eVar 2)) (e0 := ⟨[some x, some y, some (.int s), none, none], none⟩) (S := S) D.int (fun v => D.int (v * (2 : Int) ^ s)) vs fun v hm => by
    refine ⟨_, rfl, ?_⟩
    have := ib v hm
    simp -implicitDefEqProofs [this, sb2]
  have lc2 := fun S => lcGo_all (tg := gN 3) (m := eA m__law_part_p (aCons (eVar 3) (aCons (e2 dShl (eC (.int 1)) (eVar 2)) aNil))) (e0 := ⟨[some x, some y, some (.int s), none, none], none⟩) (S := S) D.int (fun t : Int => fr ((t : Rat) / (((2 : Int) ^ s : Int) : Rat))) (lapI (opn rs vs.length) (ups vs s) L) fun t _ => by
    refine ⟨_, rfl, ?_⟩
    have := law_part_p_ok t ((2 : Int) ^ s) (pow_pos' s) (by rw [pow_toNat]; exact Nat.pow_lt_pow_right (by decide) (by omega)) S
    simp -implicitDefEqProofs [this, i1, sb2]
  have c1 : vs.length ≤ 100000 := by omega
  simp -implicitDefEqProofs [m__law_done, b__law_done, m__law_scale, b__law_scale, rq, hy.rdQ, hy.itm, ln', lg, sn, oM, c1, lc, pl, tlen, lc2]
  simpa using sp
end PM
end
section
set_option Elab.async false
set_option linter.all false
set_option maxRecDepth 100000
set_option maxHeartbeats 4000000
set_option exponentiation.threshold 30000
namespace Lk04
open PySem L2 PM
/-- a fraction of so many bits -/
def Bt (P : Nat) (q : Rat) : Prop := q.den ≤ 2 ^ P ∧ q.num.natAbs ≤ 2 ^ P
theorem eqF (neg : Bool) (p q : Rat) (S : Sto) : dEq neg (fr p) (fr q) S = .ok (.bl (neg != decide (p = q))) S := by
  rw [dEq_fit neg S (by simp [fr]) (by simp [fr])]
  congr 3
  rw [Bool.eq_iff_iff, decide_eq_true_iff, decide_eq_true_iff]
  exact fr_inj
/-- the numbers go on by the factors -/
def Go (L n : Nat) (f x : Nat → Rat) : Prop := ∀ t, L ≤ t → t < n → (sm L fun i => f i * x (t - L + i)) = x t
theorem goes_ok {L n B1 B2 : Nat} {f x : Nat → Rat} (hL : L ≤ n) (hn : n ≤ 100) (hL5 : L ≤ 9) (hf : ∀ i, i < L → Bt B1 (f i)) (hx : ∀ t, t < n → Bt B2 (x t)) (hP : B1 + B2 ≤ 700) : ∃ g : Bool, (g = true ↔ Go L n f x) ∧ ∀ S, m__law_goes_on [.lst (frL L f), .lst (frL n x), .int L] S = .ok (.bl g) S := by
  obtain ⟨g, hg⟩ : ∃ g : Bool, (g = true ↔ Go L n f x) := by
    by_cases q : Go L n f x
    · exact ⟨true, by simp [q]⟩
    · exact ⟨false, by simp [q]⟩
  refine ⟨g, hg, fun S => ?_⟩
  have lf : (frL L f).length = L := frL_len _ _
  have lx : (frL n x).length = n := frL_len _ _
  have c1 : (L : Int) < 9223372036854775808 ∧ L < 18446744073709551616 := by omega
  have c2 : (n : Int) < 9223372036854775808 ∧ n < 18446744073709551616 := by omega
  have c3 : (-1000000 : Int) ≤ (L : Int) ∧ (L : Int) ≤ 1000000 ∧ (-1000000 : Int) ≤ (n : Int) ∧ (n : Int) ≤ 1000000 := by omega
  have cl : (rangeD (L : Int) (n : Int)).length ≤ 100000 := by
    rw [rangeD_rng]
    simp
    omega
  have cut : ∀ t, L ≤ t → t ≤ n → cutD (frL n x) (some ((t : Int) - (L : Int))) (some (t : Int)) = frL L fun i => x (t - L + i) := fun t h1 h2 => by
    have e := cutD_mid (frL n x) (a := t - L) (b := t) (by omega) (by rw [lx]; exact h2)
    rw [show ((t : Int) - (L : Int)) = ((t - L : Nat) : Int) by omega, e, frL_drop (by omega), frL_take (by omega)]
    congr 1
    omega
  have at_ : ∀ t, t < n → atI (frL n x) (t : Int) = some (fr (x t)) := fun t ht => atI_get (frL_get n x ht)
  generalize hF : frL L f = Fs at *
  generalize hX : frL n x = Xs at *
  simp -implicitDefEqProofs [m__law_goes_on, b__law_goes_on, lx, c1, c2, c3, cl]
  refine forGo_rule (G := fun o => toOut (o.andThen _) = .ok (.bl g) S) (fun k e S' => S' = S ∧ (∀ t, L ≤ t → t < L + k → (sm L fun i => f i * x (t - L + i)) = x t) ∧ ∃ a3 a4 a5 a6 a7 a8 a9, e = ⟨[some (.lst Fs), some (.lst Xs), some (.int L), a3, a4, a5, a6, a7, a8, a9], none⟩) ?_ ?_ ?_
  · exact ⟨rfl, fun t h1 h2 => by omega, _, _, _, _, _, _, _, rfl⟩
  · rintro k d e S' hk ⟨rfl, hall, a3, a4, a5, a6, a7, a8, a9, rfl⟩
    have kn := (List.getElem?_eq_some_iff.mp hk).1
    rw [rangeD_rng] at kn
    simp at kn
    have tn : L + k < n := by omega
    rw [rangeD_rng, List.getElem?_map] at hk
    have gi : (rng (L : Int) (n : Int))[k]? = some ((L + k : Nat) : Int) := by
      unfold rng
      rw [List.getElem?_map, List.getElem?_range (by omega)]
      simp
    rw [gi] at hk
    injection hk with hk
    subst hk
    have cu := cut (L + k) (by omega) (by omega)
    have ai := at_ (L + k) tn
    have zp := frL_zip (n := L) (m := L) (Nat.le_refl L) f (fun i => x (L + k - L + i))
    rw [hF] at zp
    refine ⟨rfl, ⟨[some (.lst Fs), some (.lst Xs), some (.int L), some (.int ((L + k : Nat) : Int)), a4, a5, a6, a7, a8, a9], none⟩, rfl, ?_⟩
    have eT : ∀ i, L + k - L + i = k + i := fun i => by omega
    simp only [eT] at cu zp
    have ms : ((L + k : Nat) : Int) = (L : Int) + (k : Int) := by omega
    rw [ms] at cu ai ⊢
    simp -implicitDefEqProofs [lf, c1, cu, dSl, rdL, zp, rdS, oM, okSrc]
    refine forGo_rule (G := fun o => Turn _ _ (o.andThen _)) (fun m e S2 => S2 = S' ∧ ∃ (top below : Int), 0 < below ∧ below.natAbs ≤ 2 ^ (m * (B1 + B2)) ∧ top.natAbs ≤ 2 ^ (m * (B1 + B2 + 1)) ∧ (top : Rat) = (sm m fun i => f i * x (k + i)) * (below : Rat) ∧ ∃ a6 a7 a8 a9, e = ⟨[some (.lst Fs), some (.lst Xs), some (.int L), some (.int ((L : Int) + (k : Int))), some (.int top), some (.int below), a6, a7, a8, a9], none⟩) ?_ ?_ ?_
    · exact ⟨rfl, 0, 1, by decide, by simp, by simp, by rw [sm_zero]; decide +kernel, _, _, _, _, rfl⟩
    · rintro m d e S2 hm ⟨rfl, top, below, b0, bB, tB, te, a6, a7, a8, a9, rfl⟩
      have mn := (List.getElem?_eq_some_iff.mp hm).1
      rw [List.length_map, List.length_range] at mn
      rw [List.getElem?_map, List.getElem?_range mn] at hm
      injection hm with hm
      subst hm
      obtain ⟨f1, f2⟩ := hf m mn
      obtain ⟨x1, x2⟩ := hx (k + m) (by omega)
      have fd0 := (f m).den_pos
      have xd0 := (x (k + m)).den_pos
      have fe := rat_num_den (f m)
      have xe := rat_num_den (x (k + m))
      have mB : m * (B1 + B2) ≤ 7000 := by
        have := Nat.mul_le_mul (show m ≤ 8 by omega) hP
        omega
      have mB1 : m * (B1 + B2 + 1) ≤ 7005 := by
        have := Nat.mul_le_mul (show m ≤ 8 by omega) (show B1 + B2 + 1 ≤ 701 by omega)
        omega
      have lg : ∀ {v P : Nat}, v ≤ 2 ^ P → P ≤ 9000 → v.log2 ≤ 9001 := fun {v P} h1 h2 => by
        have := lg_of (k := 9001) (Nat.lt_of_le_of_lt h1 (Nat.pow_lt_pow_right (by decide) (by omega))) (by decide)
        omega
      have p1 : (f m).num.natAbs * (x (k + m)).num.natAbs ≤ 2 ^ (B1 + B2) := by
        rw [Nat.pow_add]
        exact Nat.mul_le_mul f2 x2
      have p2 : (f m).den * (x (k + m)).den ≤ 2 ^ (B1 + B2) := by
        rw [Nat.pow_add]
        exact Nat.mul_le_mul f1 x1
      have l1 := lg f1 (by omega)
      have l2 := lg f2 (by omega)
      have l3 := lg x1 (by omega)
      have l4 := lg x2 (by omega)
      have l5 := lg p1 (by omega)
      have l6 := lg p2 (by omega)
      have l7 := lg bB (by omega)
      have l8 := lg tB (by omega)
      have g1 : (f m).num.natAbs.log2 + (x (k + m)).num.natAbs.log2 < 1000000 := by omega
      have g2 : (f m).den.log2 + (x (k + m)).den.log2 < 1000000 := by omega
      have g3 : top.natAbs.log2 + ((f m).den * (x (k + m)).den).log2 < 1000000 := by omega
      have g4 : ((f m).num.natAbs * (x (k + m)).num.natAbs).log2 + below.natAbs.log2 < 1000000 := by omega
      have g5 : below.natAbs.log2 + ((f m).den * (x (k + m)).den).log2 < 1000000 := by omega
      refine ⟨rfl, ⟨[some (.lst Fs), some (.lst Xs), some (.int L), some (.int ((L : Int) + (k : Int))), some (.int top), some (.int below), some (fr (f m)), some (fr (x (k + m))), a8, a9], none⟩, rfl, ?_⟩
      refine turn_of (e := ⟨[some (.lst Fs), some (.lst Xs), some (.int L), some (.int ((L : Int) + (k : Int))), some (.int (top * (((f m).den : Int) * ((x (k + m)).den : Int)) + (f m).num * (x (k + m)).num * below)), some (.int (below * (((f m).den : Int) * ((x (k + m)).den : Int)))), some (fr (f m)), some (fr (x (k + m))), some (.int ((f m).num * (x (k + m)).num)), some (.int (((f m).den : Int) * ((x (k + m)).den : Int)))], none⟩) (S := S2) ?_ ⟨rfl, _, _, ?_, ?_, ?_, ?_, _, _, _, _, rfl⟩
      · clear hf hx hall te zp cut at_ ai fe xe
        unfold fr
        generalize (f m).num = fn at *
        generalize (f m).den = fd at *
        generalize (x (k + m)).num = xn at *
        generalize (x (k + m)).den = xd at *
        simp -implicitDefEqProofs [g1, g2, g3, g4, g5, Int.natAbs_mul]
      · exact Int.mul_pos b0 (Int.mul_pos (by omega) (by omega))
      · rw [Int.natAbs_mul, Int.natAbs_mul, Int.natAbs_natCast, Int.natAbs_natCast, Nat.succ_mul, Nat.pow_add]
        exact Nat.mul_le_mul bB p2
      · have q1 := Int.natAbs_add_le (top * (((f m).den : Int) * ((x (k + m)).den : Int))) ((f m).num * (x (k + m)).num * below)
        rw [Int.natAbs_mul, Int.natAbs_mul, Int.natAbs_mul, Int.natAbs_mul, Int.natAbs_natCast, Int.natAbs_natCast] at q1
        have q2 := Nat.mul_le_mul tB p2
        have q3 := Nat.mul_le_mul p1 bB
        rw [← Nat.pow_add] at q2 q3
        have q4 : 2 ^ (B1 + B2 + m * (B1 + B2)) ≤ 2 ^ (m * (B1 + B2 + 1) + (B1 + B2)) := Nat.pow_le_pow_right (by decide) (by
          have := Nat.mul_le_mul_left m (show B1 + B2 ≤ B1 + B2 + 1 by omega)
          omega)
        have q5 : 2 ^ ((m + 1) * (B1 + B2 + 1)) = 2 ^ (m * (B1 + B2 + 1) + (B1 + B2)) + 2 ^ (m * (B1 + B2 + 1) + (B1 + B2)) := by
          rw [Nat.succ_mul, show m * (B1 + B2 + 1) + (B1 + B2 + 1) = m * (B1 + B2 + 1) + (B1 + B2) + 1 by omega, Nat.pow_succ]
          omega
        omega
      · rw [sm_succ]
        simp only [Rat.intCast_add, Rat.intCast_mul]
        rw [te]
        have r1 : (((f m).den : Int) : Rat) ≠ 0 := cast_ne (by omega)
        have r2 : (((x (k + m)).den : Int) : Rat) ≠ 0 := cast_ne (by omega)
        have e1 : (((f m).num : Int) : Rat) = f m * (((f m).den : Int) : Rat) := by
          generalize (((f m).den : Int) : Rat) = Y at *
          generalize (((f m).num : Int) : Rat) = Z at *
          rw [← fe]
          grind
        have e2 : (((x (k + m)).num : Int) : Rat) = x (k + m) * (((x (k + m)).den : Int) : Rat) := by
          generalize (((x (k + m)).den : Int) : Rat) = Y at *
          generalize (((x (k + m)).num : Int) : Rat) = Z at *
          rw [← xe]
          grind
        rw [e1, e2]
        grind
    · rintro e S2 ⟨rfl, top, below, b0, bB, tB, te, a6, a7, a8, a9, rfl⟩
      rw [List.length_map, List.length_range] at bB tB te
      refine ⟨rfl, ?_⟩
      have mB : L * (B1 + B2) ≤ 8400 := by
        have := Nat.mul_le_mul hL5 hP
        omega
      have bt : below.toNat < 2 ^ 8999 := by
        have : below.toNat ≤ 2 ^ (L * (B1 + B2)) := by omega
        exact Nat.lt_of_le_of_lt this (Nat.pow_lt_pow_right (by decide) (by omega))
      have pt := fun S => law_part_p_ok top below b0 bt S
      have br : (below : Rat) ≠ 0 := cast_ne (by omega)
      have pv : (top : Rat) / (below : Rat) = sm L fun i => f i * x (k + i) := by
        rw [te]
        grind
      rw [pv] at pt
      have de := fun S => eqF true (sm L fun i => f i * x (k + i)) (x (L + k)) S
      by_cases z : (sm L fun i => f i * x (k + i)) = x (L + k)
      · rw [decide_eq_true z] at de
        refine turn_of (e := ⟨[some (.lst Fs), some (.lst Xs), some (.int L), some (.int ((L : Int) + (k : Int))), some (.int top), some (.int below), a6, a7, a8, a9], none⟩) (S := S2) ?_ ⟨rfl, fun t h1 h2 => ?_, _, _, _, _, _, _, _, rfl⟩
        · clear hf hx hall te zp cut at_ hg
          generalize fr (sm L fun i => f i * x (k + i)) = F1 at *
          generalize fr (x (L + k)) = F2 at *
          simp -implicitDefEqProofs [pt, ai, de]
        · by_cases q : t < L + k
          · exact hall t h1 q
          · have : t = L + k := by omega
            subst this
            simp only [eT]
            exact z
      · rw [decide_eq_false z] at de
        have gf : g = false := by
          cases hgv : g with
          | false => rfl
          | true =>
            have := hg.mp hgv (L + k) (by omega) tn
            simp only [eT] at this
            exact absurd this z
        rw [gf]
        clear hf hx hall te zp cut at_ hg
        generalize fr (sm L fun i => f i * x (k + i)) = F1 at *
        generalize fr (x (L + k)) = F2 at *
        simp -implicitDefEqProofs [pt, ai, de]
  · rintro e S' ⟨rfl, hall, a3, a4, a5, a6, a7, a8, a9, rfl⟩
    have en : (rangeD (L : Int) (n : Int)).length = n - L := by
      rw [rangeD_rng]
      simp
    rw [en] at hall
    have gt : g = true := hg.mpr fun t h1 h2 => hall t h1 (by omega)
    rw [gt]
    refine ⟨rfl, ?_⟩
    simp -implicitDefEqProofs
end Lk04
end
section
set_option Elab.async false
set_option linter.all false
set_option maxRecDepth 100000
set_option maxHeartbeats 4000000
set_option exponentiation.threshold 30000
namespace Lk04
open PySem L2 PM
theorem an_fin {M k n : Nat} {x c : Nat → Rat} (hM : k < M) (h : ∀ j, k ≤ j → j < n → x j = sm k fun i => c i * x (i + (j - k))) : An M (XI x) (fun i => if i = 0 then 1 else if i ≤ k then -c (k - i) else 0) k n := fun j h1 h2 => by
  have e := h j h1 h2
  have dg : Dg (fun i => if i = 0 then (1 : Rat) else if i ≤ k then -c (k - i) else 0) k := fun i hi => by
    show (if i = 0 then (1 : Rat) else if i ≤ k then -c (k - i) else 0) = 0
    rw [if_neg (by omega), if_neg (by omega)]
  unfold cv
  rw [sm_ext (a := k + 1) (b := M) (by omega) fun i i1 _ => by rw [dg i (by omega)]; grind]
  have rev : ∀ m, m ≤ k → (sm (m + 1) fun i => (if i = 0 then (1 : Rat) else if i ≤ k then -c (k - i) else 0) * XI x ((j : Int) - (i : Int))) = x j - (sm k fun i => c i * x (i + (j - k))) + sm (k - m) fun i => c i * x (i + (j - k)) := by
    intro m
    induction m with
    | zero =>
      intro _
      rw [sm_succ, sm_zero, Nat.sub_zero]
      have : XI x ((j : Int) - ((0 : Nat) : Int)) = x j := by unfold XI; congr 1
      rw [this, if_pos rfl]
      grind
    | succ m ih =>
      intro hm
      rw [sm_succ, ih (by omega), if_neg (by omega), if_pos hm]
      have q : k - m = (k - (m + 1)) + 1 := by omega
      rw [q, sm_succ]
      have : XI x ((j : Int) - ((m + 1 : Nat) : Int)) = x (k - (m + 1) + (j - k)) := by
        unfold XI
        congr 1
        omega
      rw [this]
      grind
  rw [rev k (Nat.le_refl k), Nat.sub_self, sm_zero, e]
  grind
theorem dg_bk (k : Nat) (c : Nat → Rat) : Dg (fun i => if i = 0 then (1 : Rat) else if i ≤ k then -c (k - i) else 0) k := fun i hi => by
  show (if i = 0 then (1 : Rat) else if i ≤ k then -c (k - i) else 0) = 0
  rw [if_neg (by omega), if_neg (by omega)]
theorem sz2 {q : Rat} {K : Nat} {t : Int} {A B : Nat} (k0 : 0 < K) (h : q * (K : Rat) = t) (hK : K ≤ 2 ^ A) (ht : t.natAbs ≤ 2 ^ B) : q.den ≤ 2 ^ A ∧ q.num.natAbs ≤ 2 ^ B := by
  have dv := den_dvd h
  have d1 := Nat.le_of_dvd k0 dv
  have e := rat_num_den q
  have d0 := q.den_pos
  obtain ⟨m, hm⟩ := dv
  have mp : 0 < m := Nat.pos_of_ne_zero fun z => by rw [z, Nat.mul_zero] at hm; omega
  have nt : q.num * (m : Int) = t := by
    have dr : ((q.den : Int) : Rat) ≠ 0 := cast_ne (by omega)
    have : (q.num : Rat) * ((m : Int) : Rat) = (t : Rat) := by
      rw [← h, hm]
      have kr : ((q.den * m : Nat) : Rat) = ((q.den : Int) : Rat) * ((m : Int) : Rat) := by
        rw [Rat.natCast_mul]
        rfl
      rw [kr]
      conv => rhs; rw [← e]
      grind
    exact_mod_cast this
  have n1 : q.num.natAbs ≤ t.natAbs := by
    rw [← nt, Int.natAbs_mul]
    exact Nat.le_mul_of_pos_right _ (by omega)
  exact ⟨Nat.le_trans d1 hK, Nat.le_trans n1 ht⟩
section
variable {rs : List PM.Rd} {s : Stt} {b : Nat} {c : Nat → Rat} {L : Nat} (A : Amt rs s b c L)
include A
abbrev X (rs : List PM.Rd) (s : Stt) (b : Nat) : Nat → Rat := xAm rs s b
theorem fe' {i : Nat} (hi : i < L) : ∃ t : Int, fnd c L i * ((2 ^ (3 * (L - i)) * 1 : Nat) : Rat) = t ∧ t.natAbs ≤ 2 ^ 40 := A.fx.fe i hi
theorem x64 (t : Nat) (ht : t < 120) : ∃ y : Int, X rs s b t * ((2 ^ (3 * t + 9) : Nat) : Rat) = y ∧ y.natAbs ≤ 2 ^ (3 * t + 16) := A.xz t ht
theorem fx1 : Fx 3 12 1 41 60 4 (L - 1) (fun i => fnd c L (1 + i)) (fun i => X rs s b (1 + i)) where
  q0 := by decide
  qB := by decide
  fe := fun i hi => by
    obtain ⟨t, e, bd⟩ := fe' A (i := 1 + i) (by omega)
    rw [show L - (1 + i) = L - 1 - i by omega] at e
    exact ⟨t, e, Nat.le_trans bd (by decide)⟩
  ze := fun t ht => by
    have := A.l8
    obtain ⟨y, e, bd⟩ := x64 A (1 + t) (by omega)
    refine ⟨y, ?_, Nat.le_trans bd (Nat.pow_le_pow_right (by decide) (by omega))⟩
    rw [show 3 * t + 12 = 3 * (1 + t) + 9 by omega]
    exact e
  Ll := by have := A.l8; omega
theorem fxs : Fx 3 9 1 41 60 4 L (fnd c L) (fun i => X rs s b i + 1) where
  q0 := by decide
  qB := by decide
  fe := fun i hi => by
    obtain ⟨t, e, bd⟩ := fe' A hi
    exact ⟨t, e, Nat.le_trans bd (by decide)⟩
  ze := fun t ht => by
    have := A.l8
    obtain ⟨y, e, bd⟩ := x64 A t (by omega)
    refine ⟨y + ((2 ^ (3 * t + 9) : Nat) : Int), ?_, ?_⟩
    · rw [Rat.intCast_add, ← e]
      have : (((2 ^ (3 * t + 9) : Nat) : Int) : Rat) = ((2 ^ (3 * t + 9) : Nat) : Rat) := rfl
      rw [this]
      grind
    · have a1 := Int.natAbs_add_le y ((2 ^ (3 * t + 9) : Nat) : Int)
      rw [Int.natAbs_natCast] at a1
      have a2 : 2 ^ (3 * t + 9) ≤ 2 ^ 50 := Nat.pow_le_pow_right (by decide) (by omega)
      have a3 : 2 ^ (3 * t + 16) ≤ 2 ^ 54 := Nat.pow_le_pow_right (by decide) (by omega)
      have a4 : (2 : Nat) ^ 50 + 2 ^ 54 ≤ 2 ^ 60 := by decide
      omega
  Ll := by have := A.l8; omega
/-- a factor 0 before -/
def f0 (c : Nat → Rat) (L i : Nat) : Rat := if i = 0 then 0 else fnd c L (i - 1)
theorem fx0 : Fx 3 9 1 41 60 4 (L + 1) (f0 c L) (X rs s b) where
  q0 := by decide
  qB := by decide
  fe := fun i hi => by
    unfold f0
    by_cases w : i = 0
    · rw [if_pos w]
      exact ⟨0, by simp, by simp⟩
    · rw [if_neg w]
      obtain ⟨t, e, bd⟩ := fe' A (i := i - 1) (by omega)
      rw [show L - (i - 1) = L + 1 - i by omega] at e
      exact ⟨t, e, Nat.le_trans bd (by decide)⟩
  ze := fun t ht => by
    have := A.l8
    obtain ⟨y, e, bd⟩ := x64 A t (by omega)
    exact ⟨y, e, Nat.le_trans bd (Nat.pow_le_pow_right (by decide) (by omega))⟩
  Ll := by have := A.l8; omega
theorem go0 (t : Nat) (ht : L + 1 ≤ t) : X rs s b t = PM.sm (L + 1) fun i => f0 c L i * X rs s b (t - (L + 1) + i) := by
  show xAm rs s b t = _
  rw [A.rcc (t := t) (by omega)]
  have : ∀ k, PM.sm (k + 1) (fun i => f0 c L i * xAm rs s b (t - (L + 1) + i)) = PM.sm k fun i => fnd c L i * xAm rs s b (t - L + i) := by
    intro k
    induction k with
    | zero =>
      rw [sm_succ, sm_zero, sm_zero]
      unfold f0
      rw [if_pos rfl]
      grind
    | succ k ih =>
      rw [sm_succ, ih, sm_succ]
      unfold f0
      rw [if_neg (by omega), show k + 1 - 1 = k by omega, show t - (L + 1) + (k + 1) = t - L + k by omega]
  rw [this]
/-- the last factor spoilt -/
def fp (c : Nat → Rat) (L i : Nat) : Rat := if i = L - 1 then fnd c L i + 1 else fnd c L i
theorem fxp : Fx 3 9 1 41 60 4 L (fp c L) (X rs s b) where
  q0 := by decide
  qB := by decide
  fe := fun i hi => by
    obtain ⟨t, e, bd⟩ := fe' A hi
    unfold fp
    by_cases w : i = L - 1
    · rw [if_pos w]
      have l1 : L - i = 1 := by omega
      rw [l1] at e ⊢
      refine ⟨t + 8, ?_, ?_⟩
      · rw [Rat.intCast_add, ← e]
        have e8 : ((2 ^ (3 * 1) * 1 : Nat) : Rat) = 8 := by decide +kernel
        have e9 : (((8 : Int)) : Rat) = 8 := rfl
        rw [e8, e9]
        grind
      · have := Int.natAbs_add_le t 8
        have : (8 : Int).natAbs = 8 := rfl
        have : (2 : Nat) ^ 40 + 8 ≤ 2 ^ 41 := by decide
        omega
    · rw [if_neg w]
      exact ⟨t, e, Nat.le_trans bd (by decide)⟩
  ze := fun t ht => by
    have := A.l8
    obtain ⟨y, e, bd⟩ := x64 A t (by omega)
    exact ⟨y, e, Nat.le_trans bd (Nat.pow_le_pow_right (by decide) (by omega))⟩
  Ll := by have := A.l8; omega
theorem not1 (hL : 1 ≤ L) : ¬ ∀ t, t < L - 1 + 60 → exF (fun i => fnd c L (1 + i)) (L - 1) (fun i => X rs s b (1 + i)) t = X rs s b t := fun z => by
  have l8 := A.l8
  obtain ⟨e, bb, Le, ss, B⟩ := A.fe.ex
  have a := an_fin (M := 121) (k := L - 1) (n := L - 1 + 60) (x := X rs s b) (c := fun i => fnd c L (1 + i)) (by omega) fun j h1 h2 => by
    have e := z j h2
    rw [exF_ge _ _ h1] at e
    rw [← e]
    exact sm_congr fun i hi => by rw [z (j - (L - 1) + i) (by omega), Nat.add_comm i]
  -- what fewer factors tell for so many numbers they tell for all
  have ev : ∀ N, An 121 (XI (xAm rs s b)) c L N := fun N j h1 _ => by
    unfold cv
    rw [sm_ext (a := L + 1) (b := 121) (by omega) fun i i1 _ => by rw [A.dc i (show L < i by omega)]; grind, ← A.zr j h1]
    refine sm_congr fun i hi => ?_
    unfold XI
    rw [show ((j : Int) - (i : Int)).toNat = j - i by omega]
  have key : ∀ n, An 121 (XI (xAm rs s b)) (fun i => if i = 0 then (1 : Rat) else if i ≤ L - 1 then -fnd c L (1 + (L - 1 - i)) else 0) (L - 1) (L - 1 + 60 + n) := by
    intro n
    induction n with
    | zero => exact a
    | succ n ih =>
      intro j h1 h2
      by_cases w : j < L - 1 + 60 + n
      · exact ih j h1 w
      · have je : j = L - 1 + 60 + n := by omega
        subst je
        refine Classical.byContradiction fun ne => ?_
        have := massey (L := L - 1) (L' := L) (by omega) (if_pos rfl) A.c0 (dg_bk (L - 1) fun i => fnd c L (1 + i)) A.dc ih (ev (L - 1 + 60 + n + 1)) ne
        omega
  have := B.le _ (L - 1) (if_pos rfl) (dg_bk (L - 1) fun i => fnd c L (1 + i)) (fun j h1 h2 => key 120 j h1 (by omega))
  omega
theorem nots (hL : 1 ≤ L) : ¬ ∀ t, t < L + 60 → exF (fnd c L) L (fun i => X rs s b i + 1) t = X rs s b t := fun z => by
  have := z 0 (by omega)
  have e := exF_lt (fnd c L) (L := L) (fun i => X rs s b i + 1) (t := 0) (by omega)
  rw [e] at this
  have : X rs s b 0 + 1 = X rs s b 0 := this
  grind
theorem spoilt (hL : 1 ≤ L) (h : ∀ t, t < L + 60 → exF (fp c L) L (X rs s b) t = X rs s b t) : Go L 24 (fp c L) (X rs s b) := fun t h1 h2 => by
  have e := h t (by omega)
  rw [exF_ge _ _ h1] at e
  rw [← e]
  exact sm_congr fun i hi => by rw [h (t - L + i) (by omega)]
theorem fbt {i : Nat} (hi : i < L) : Bt 60 (fnd c L i) := by
  obtain ⟨t, e, bd⟩ := fe' A hi
  have l8 := A.l8
  exact sz2 (Nat.mul_pos (p2pos _) (by decide)) e (A := 60) (B := 60) (by rw [Nat.mul_one]; exact Nat.pow_le_pow_right (by decide) (by omega)) (Nat.le_trans bd (by decide))
theorem pbt {i : Nat} (hi : i < L) : Bt 60 (fp c L i) := by
  obtain ⟨t, e, bd⟩ := (fxp A).fe i hi
  have l8 := A.l8
  exact sz2 (Nat.mul_pos (p2pos _) (by decide)) e (A := 60) (B := 60) (by rw [Nat.mul_one]; exact Nat.pow_le_pow_right (by decide) (by omega)) (Nat.le_trans bd (by decide))
theorem xbt {t : Nat} (ht : t < 24) : Bt 100 (X rs s b t) := by
  obtain ⟨y, e, bd⟩ := x64 A t (by omega)
  exact sz2 (p2pos _) e (Nat.pow_le_pow_right (by decide) (by omega)) (Nat.le_trans bd (Nat.pow_le_pow_right (by decide) (by omega)))
theorem go1 : Go L 24 (fnd c L) (X rs s b) := fun t h1 _ => (A.rcc (t := t) h1).symm
end
end Lk04
end
section
set_option Elab.async false
set_option linter.all false
set_option maxRecDepth 100000
set_option maxHeartbeats 4000000
set_option exponentiation.threshold 30000
namespace Lk04
open PySem L2 PM
def G (o : SO) : Prop := ∃ S', toOut o = .ok (.bl true) S'
theorem Fx_sf {a w q B G l L : Nat} {f z0 : Nat → Rat} (H : Fx a w q B G l L f z0) (hA : a * L + B < 8900) (hB : B < 20000) : ∀ i, i < L → Sy (f i) := fun i hi => by
  obtain ⟨t, e, b⟩ := H.fe i hi
  refine sy_of (A := a * L + B) (B := B) (Nat.mul_pos (p2pos _) H.q0) e ?_ b hA hB
  rw [Nat.pow_add]
  exact Nat.mul_le_mul (Nat.pow_le_pow_right (by decide) (Nat.mul_le_mul_left a (by omega))) H.qB
theorem Fx_sz {a w q B G l L : Nat} {f z0 : Nat → Rat} (H : Fx a w q B G l L f z0) (hA : a * L + w < 8900) (hB : G < 20000) : ∀ i, i < L → Sy (z0 i) := fun i hi => by
  obtain ⟨t, e, b⟩ := H.ze i hi
  refine sy_of (A := a * i + w) (B := G) (p2pos _) e (Nat.le_refl _) b ?_ hB
  have := Nat.mul_le_mul_left a (Nat.le_of_lt hi)
  omega
theorem frL_cons (n : Nat) (z : Nat → Rat) : frL (n + 1) z = fr (z 0) :: frL n fun i => z (i + 1) := by
  unfold frL
  rw [List.range_succ_eq_map, List.map_cons, List.map_map]
  rfl
theorem fr_succ (q : Rat) : fr (q + 1) = .tup [.int (q.num + (q.den : Int)), .int q.den] := by
  have d0 := q.den_pos
  have e : q + 1 = Rat.mk' (q.num + q.den) q.den (by omega) (by
    have := q.reduced
    show Nat.Coprime (q.num + (q.den : Int)).natAbs q.den
    have h : Int.gcd (q.num + (q.den : Int)) (q.den : Int) = 1 := by
      rw [Int.gcd_add_self_left]
      exact this
    exact h) := by
    have e1 := rat_num_den q
    have dr : ((q.den : Int) : Rat) ≠ 0 := cast_ne (by omega)
    rw [Rat.mk_eq_divInt, Rat.divInt_eq_div, Rat.intCast_add]
    conv => lhs; rw [← e1]
    rw [Rat.div_def, Rat.div_def, Rat.add_mul, Rat.mul_inv_cancel _ dr]
  rw [e]
  rfl
theorem frL_fit (n : Nat) (f : Nat → Rat) (k : Nat) : (D.lst (frL n f)).fit (k + 2) = true := by
  rw [fit_lst]
  refine List.all_eq_true.mpr fun d h => ?_
  obtain ⟨i, _, rfl⟩ := List.mem_map.mp h
  exact fr_fit _ k
theorem is_rc (fs gs : List D) (S : Sto) : dIs ["Recurrence"] sameC [.inr "Recurrence"] (rcO fs gs) S = .ok (.bl true) S := by
  rw [dIs_ap _ _ (rcO fs gs) S (k := .inr "Recurrence") rfl rfl]
  rfl
theorem fac (fs gs : List D) (S : Sto) : dFldC ["Recurrence"] "factors" (rcO fs gs) S = .ok (.lst fs) S := by simp [rcO]
theorem fir (fs gs : List D) (S : Sto) : dFldC ["Recurrence"] "firsts" (rcO fs gs) S = .ok (.lst gs) S := by simp [rcO]
theorem ins_rec (m : String) (h : m = "shows" ∨ m = "value" ∨ m = "") (f g : List D) (S : Sto) : insOf S "Recurrence" m (rcO f g) = true := by
  rcases h with rfl | rfl | rfl <;> rfl
theorem ne_rc (n m : Nat) (f g : Nat → Rat) (S : Sto) : dEqO true "Recurrence" m_Recurrence___eq__ (rcO (frL n f) (frL m g)) (rcO (frL n f) (frL m g)) S = .ok (.bl false) S := by
  have i1 := fun S => is_rc (frL n f) (frL m g) S
  have q1 : ∀ S, dEq false (.lst (frL n f)) (.lst (frL n f)) S = .ok (.bl true) S := fun S => by
    rw [dEq_fit false S (frL_fit n f 10) (frL_fit n f 10), decide_eq_true rfl]; rfl
  have q2 : ∀ S, dEq false (.lst (frL m g)) (.lst (frL m g)) S = .ok (.bl true) S := fun S => by
    rw [dEq_fit false S (frL_fit m g 10) (frL_fit m g 10), decide_eq_true rfl]; rfl
  simp only [rcO] at i1 ⊢
  generalize frL n f = A at *
  generalize frL m g = B at *
  simp -implicitDefEqProofs [dEqO, m_Recurrence___eq__, b_Recurrence___eq__, i1, noE, q1, q2]
theorem mk_RecT (fs gs : List D) (hf : fs.length ≤ 100000) (hg : gs.length ≤ 100000) (S : Sto) : mkObj false "Recurrence" m_Recurrence___init__ [.tup fs, .tup gs] S = .ok (rcO fs gs) (S ++ [.dead]) := by
  simp [mkObj_ap, m_Recurrence___init__, b_Recurrence___init__, rcO]
section
variable {rs : List PM.Rd} (R : Rp rs) (s : Stt) {b : Nat} (hb : b ≤ 2)
include R hb
abbrev xBs : Er := ⟨"BadStart", none⟩
abbrev xBp : Er := ⟨"BadProgram", some ("place", .non)⟩
theorem b0 (S : Sto) : m_amount [prog rs, .str "all", .int b, .int 9] S = .er xBs S := by
  have cp := fun S => m_check_program_ok rs S
  have ni : ∀ S, dNotInT (.str "all") (.tup [.str "ones", .str "first", .str "last", .str "stairs"]) S = .ok (.bl true) S := fun S => by
    rw [dNotInT_tup S (by simp) (by simp)]
    simp
  generalize prog rs = P at *
  simp -implicitDefEqProofs [m_amount, b_amount, m_check_asked, b_check_asked, cp, ni]
theorem b1 (S : Sto) : m_amount [prog rs, .str s.s, .int 6, .int 9] S = .er xBs S := by
  have cp := fun S => m_check_program_ok rs S
  have ni : ∀ S, dNotInT (.str s.s) (.tup [.str "ones", .str "first", .str "last", .str "stairs"]) S = .ok (.bl false) S := fun S => by
    rw [dNotInT_tup S (by simp) (by simp)]
    cases s <;> simp [Stt.s]
  generalize prog rs = P at *
  simp -implicitDefEqProofs [m_amount, b_amount, m_check_asked, b_check_asked, cp, ni, m_is_integer_int]
theorem b2 (S : Sto) : m_amount [prog rs, .str s.s, .int b, .int b] S = .er xBs S := by
  have ca := fun S => m_check_asked_ok rs s (back := b) (by omega) S
  generalize prog rs = P at *
  simp -implicitDefEqProofs [m_amount, b_amount, ca, m_is_integer_int]
omit R hb in
theorem b3 (S : Sto) : m_amounts [.non, .str s.s, .int b, .int 3] S = .er xBp S := by
  have cp : ∀ S, m_check_program [.non] S = .er xBp S := fun S => by
    have e := fun k => dIs_ap ["Program"] [k] .non S (k := .inl "NoneType") rfl rfl
    simp -implicitDefEqProofs [m_check_program, b_check_program, dIs_ap _ _ .non _ (k := .inl "NoneType") rfl rfl, isK, kitP]
  simp -implicitDefEqProofs [m_amounts, b_amounts, m_check_asked, b_check_asked, cp]
theorem b4 (S : Sto) : m_recurrence [prog rs, .int 3, .int b] S = .er xBs S := by
  have cp := fun S => m_check_program_ok rs S
  have ni : ∀ S, dNotInT (.int 3) (.tup [.str "ones", .str "first", .str "last", .str "stairs"]) S = .ok (.bl true) S := fun S => by
    rw [dNotInT_tup S (by simp) (by simp)]
    simp
  generalize prog rs = P at *
  simp -implicitDefEqProofs [m_recurrence, b_recurrence, m_check_asked, b_check_asked, cp, ni]
end
structure Sit (rs : List PM.Rd) (s : Stt) (b : Nat) (c : Nat → Rat) (L : Nat) : Prop where
  R : Rp rs
  hb : b ≤ 2
  A : Amt rs s b c L
section
variable {rs : List PM.Rd} {s : Stt} {b : Nat} {c : Nat → Rat} {L : Nat} (H : Sit rs s b c L)
include H
abbrev E (rs : List PM.Rd) (s : Stt) (b : Nat) (c : Nat → Rat) (L : Nat) (a0 a1 a8 a9 a10 a11 a12 a13 : Option D) : PM.Env := ⟨[a0, a1, some (prog rs), some (.str s.s), some (.int b), some (.lst (frL 24 (X rs s b))), some (rcO (frL L (fnd c L)) (frL L (X rs s b))), some (.int L), a8, a9, a10, a11, a12, a13], none⟩
theorem c2_ok (a0 a1 a8 a9 a10 a11 a12 a13 : Option D) (S : Sto) : G (b_law_c2 (E rs s b c L a0 a1 a8 a9 a10 a11 a12 a13) S) := by
  have b0 := fun S => b0 H.R H.hb S
  have b1 := fun S => b1 H.R s H.hb S
  have b2 := fun S => b2 H.R s H.hb S
  have b3 := fun S => b3 s (b := b) S
  have b4 := fun S => b4 H.R H.hb S
  unfold E G
  generalize prog rs = P at *
  generalize rcO (frL L (fnd c L)) (frL L (X rs s b)) = F at *
  generalize frL 24 (X rs s b) = T at *
  have rn : rangeD 0 5 = [.int 0, .int 1, .int 2, .int 3, .int 4] := rfl
  simp -implicitDefEqProofs [b_law_c2, b_law_c1, b_law_c0, rn, forGo, sTry, b0, b1, b2, b3, b4, runHds, runHd, PM.exs0, PM.below0, dropX, grabX, clrS, eErr]
theorem c4_ok (a0 a1 a8 a9 a10 a11 a12 a13 : Option D) (S : Sto) : G (b_law_c4 (E rs s b c L a0 a1 a8 a9 a10 a11 a12 a13) S) := by
  have l8 := H.A.l8
  have fin := fun a9 S => c2_ok H a0 a1 a8 a9 a10 a11 a12 a13 S
  have fx := fx0 H.A
  have sh := (shows_am H.R s H.hb fx (by omega) (by omega) (by omega) (Fx_sf fx (by omega) (by omega)) (Fx_sz fx (by omega) (by omega))).eq
  rw [decide_eq_true (fun t _ => exF_self' (go0 H.A) t)] at sh
  have f0e : [D.tup [.int 0, .int 1]] ++ frL L (fnd c L) = frL (L + 1) (f0 c L) := by
    rw [frL_cons]
    rfl
  have tk : cutD (frL 24 (X rs s b)) none (some ((L : Int) + 1)) = frL (L + 1) (X rs s b) := by
    have := cutD_hi (frL 24 (X rs s b)) (k := (L : Int) + 1) (by omega)
    rw [this, show ((L : Int) + 1).toNat = L + 1 by omega, frL_take (by omega)]
  have mk := fun S => mk_Rec (frL (L + 1) (f0 c L)) (frL (L + 1) (X rs s b)) S
  have mk2 := fun S => mk_RecT (frL L (fnd c L)) (frL L (X rs s b)) (by simp; omega) (by simp; omega) S
  have ne := fun S => ne_rc L L (fnd c L) (X rs s b) S
  have i1 := fun S => ins_rec "shows" (.inl rfl) (frL (L + 1) (f0 c L)) (frL (L + 1) (X rs s b)) S
  have g1 := fun S => fac (frL L (fnd c L)) (frL L (X rs s b)) S
  have g2 := fun S => fir (frL L (fnd c L)) (frL L (X rs s b)) S
  have ll : (frL L (fnd c L)).length = L := frL_len _ _
  have sl := fun S => dSl_lst (frL 24 (X rs s b)) none (some ((L : Int) + 1)) S
  rw [tk] at sl
  have ad : ∀ S, dAdd (.lst [.tup [.int 0, .int 1]]) (.lst (frL L (fnd c L))) S = .ok (.lst (frL (L + 1) (f0 c L))) S := fun S => by
    rw [dAdd_ll, f0e, gd_yes (by simp [lim]; omega)]
    rfl
  unfold E at fin ⊢
  generalize rcO (frL (L + 1) (f0 c L)) (frL (L + 1) (X rs s b)) = F0 at *
  generalize rcO (frL L (fnd c L)) (frL L (X rs s b)) = F at *
  clear f0e tk
  generalize frL (L + 1) (f0 c L) = A1 at *
  generalize frL (L + 1) (X rs s b) = A2 at *
  generalize frL L (fnd c L) = A3 at *
  generalize frL L (X rs s b) = A4 at *
  generalize frL 24 (X rs s b) = T at *
  generalize prog rs = P at *
  generalize tl m_Recurrence_shows [F0, P, .str s.s, .int b] = t1 at *
  simp -implicitDefEqProofs [b_law_c4, b_law_c3, g1, g2, sl, ad, mk, mk2, ne, i1, sh, fin, -dAdd_ll]
theorem c5_ok (hL : 1 ≤ L) (a0 a1 a8 a9 a10 a11 a12 a13 : Option D) (S : Sto) : ∃ S', b_law_c5 (E rs s b c L a0 a1 a8 a9 a10 a11 a12 a13) S = .nx (E rs s b c L a0 a1 a8 a9 a10 a11 a12 a13) S' := by
  have l8 := H.A.l8
  have fx := fx1 H.A
  have sh := (shows_am H.R s H.hb fx (by omega) (by omega) (by omega) (Fx_sf fx (by omega) (by omega)) (Fx_sz fx (by omega) (by omega))).eq
  rw [decide_eq_false (not1 H.A hL)] at sh
  have d1 : cutD (frL L (fnd c L)) (some 1) none = frL (L - 1) fun i => fnd c L (1 + i) := by
    rw [cutD_lo _ (by decide), show (1 : Int).toNat = 1 from rfl, frL_drop hL]
  have d2 : cutD (frL L (X rs s b)) (some 1) none = frL (L - 1) fun i => X rs s b (1 + i) := by
    rw [cutD_lo _ (by decide), show (1 : Int).toNat = 1 from rfl, frL_drop hL]
  have s1 := fun S => dSl_lst (frL L (fnd c L)) (some 1) none S
  have s2 := fun S => dSl_lst (frL L (X rs s b)) (some 1) none S
  rw [d1] at s1
  rw [d2] at s2
  have mk := fun S => mk_Rec (frL (L - 1) fun i => fnd c L (1 + i)) (frL (L - 1) fun i => X rs s b (1 + i)) S
  have i1 := fun S => ins_rec "shows" (.inl rfl) (frL (L - 1) fun i => fnd c L (1 + i)) (frL (L - 1) fun i => X rs s b (1 + i)) S
  have g1 := fun S => fac (frL L (fnd c L)) (frL L (X rs s b)) S
  have g2 := fun S => fir (frL L (fnd c L)) (frL L (X rs s b)) S
  unfold E
  generalize rcO (frL (L - 1) fun i => fnd c L (1 + i)) (frL (L - 1) fun i => X rs s b (1 + i)) = F0 at *
  generalize rcO (frL L (fnd c L)) (frL L (X rs s b)) = F at *
  clear d1 d2
  generalize (frL (L - 1) fun i => fnd c L (1 + i)) = A1 at *
  generalize (frL (L - 1) fun i => X rs s b (1 + i)) = A2 at *
  generalize frL L (fnd c L) = A3 at *
  generalize frL L (X rs s b) = A4 at *
  generalize frL 24 (X rs s b) = T at *
  generalize prog rs = P at *
  generalize tl m_Recurrence_shows [F0, P, .str s.s, .int b] = t1 at *
  simp -implicitDefEqProofs [b_law_c5, g1, g2, s1, s2, mk, i1, sh]
theorem c6_ok (hL : 1 ≤ L) (a0 a1 a8 a9 a10 a11 a12 a13 : Option D) (S : Sto) : ∃ S', b_law_c6 (E rs s b c L a0 a1 a8 a9 a10 a11 a12 a13) S = .nx (E rs s b c L a0 a1 a8 a9 a10 a11 a12 a13) S' := by
  have l8 := H.A.l8
  have fx := fxs H.A
  have sh := (shows_am H.R s H.hb fx (by omega) (by omega) (by omega) (Fx_sf fx (by omega) (by omega)) (Fx_sz fx (by omega) (by omega))).eq
  rw [decide_eq_false (nots H.A hL)] at sh
  have mk := fun S => mk_Rec (frL L (fnd c L)) (frL L fun i => X rs s b i + 1) S
  have i1 := fun S => ins_rec "shows" (.inl rfl) (frL L (fnd c L)) (frL L fun i => X rs s b i + 1) S
  have g1 := fun S => fac (frL L (fnd c L)) (frL L (X rs s b)) S
  have g2 := fun S => fir (frL L (fnd c L)) (frL L (X rs s b)) S
  have lc := fun S => lcGo_all (tg := gN 10) (m := eA dTup (aCons (e2 dAdd (e2 dIx (eVar 10) (eC (.int 0))) (e2 dIx (eVar 10) (eC (.int 1)))) (aCons (e2 dIx (eVar 10) (eC (.int 1))) aNil))) (e0 := E rs s b c L a0 a1 a8 a9 none a11 a12 a13) (S := S) (fun i => fr (X rs s b i)) (fun i => fr (X rs s b i + 1)) (List.range L) fun i _ => by
    refine ⟨_, rfl, ?_⟩
    rw [fr_succ]
    unfold E
    generalize X rs s b i = v
    generalize rcO (frL L (fnd c L)) (frL L (X rs s b)) = F at *
    generalize frL 24 (X rs s b) = T at *
    generalize prog rs = P at *
    simp -implicitDefEqProofs [fr]
  have e1 : (List.range L).map (fun i => fr (X rs s b i)) = frL L (X rs s b) := rfl
  have e2 : (List.range L).map (fun i => fr (X rs s b i + 1)) = frL L fun i => X rs s b i + 1 := rfl
  rw [e1, e2] at lc
  have ll : (frL L (X rs s b)).length ≤ 100000 := by simp; omega
  obtain ⟨S5, c5⟩ := c5_ok H hL a0 a1 a8 a9 a10 a11 a12 a13 (S ++ [.dead] ++ tl m_Recurrence_shows [rcO (frL L (fnd c L)) (frL L fun i => X rs s b i + 1), prog rs, .str s.s, .int b] (S ++ [.dead]))
  refine ⟨S5, ?_⟩
  unfold E at lc c5 ⊢
  clear e1 e2
  generalize rcO (frL L (fnd c L)) (frL L fun i => X rs s b i + 1) = F0 at *
  generalize rcO (frL L (fnd c L)) (frL L (X rs s b)) = F at *
  generalize (frL L fun i => X rs s b i + 1) = A2 at *
  generalize frL L (fnd c L) = A3 at *
  generalize frL L (X rs s b) = A4 at *
  generalize frL 24 (X rs s b) = T at *
  generalize prog rs = P at *
  generalize tl m_Recurrence_shows [F0, P, .str s.s, .int b] = t1 at *
  simp only [List.append_assoc, List.cons_append, List.nil_append] at c5
  simp -implicitDefEqProofs [b_law_c6, g1, g2, ll, lc, mk, i1, sh, c5]
theorem c7_ok (hL : 1 ≤ L) (a0 a1 a9 a10 a11 a12 a13 : Option D) (S : Sto) : ∃ S', b_law_c7 (E rs s b c L a0 a1 (some (.lst (frL L (fp c L)))) a9 a10 a11 a12 a13) S = .nx (E rs s b c L a0 a1 (some (.lst (frL L (fp c L)))) a9 a10 a11 a12 a13) S' := by
  have l8 := H.A.l8
  have fx := fxp H.A
  have sh := (shows_am H.R s H.hb fx (by omega) (by omega) (by omega) (Fx_sf fx (by omega) (by omega)) (Fx_sz fx (by omega) (by omega))).eq
  have mk := fun S => mk_Rec (frL L (fp c L)) (frL L (X rs s b)) S
  have i1 := fun S => ins_rec "shows" (.inl rfl) (frL L (fp c L)) (frL L (X rs s b)) S
  have g2 := fun S => fir (frL L (fnd c L)) (frL L (X rs s b)) S
  obtain ⟨g, hg, go⟩ := goes_ok (L := L) (n := 24) (B1 := 60) (B2 := 100) (f := fp c L) (x := X rs s b) (by omega) (by omega) (by omega) (fun i hi => pbt H.A hi) (fun t ht => xbt H.A ht) (by omega)
  have c6 := fun S => c6_ok H hL a0 a1 (some (.lst (frL L (fp c L)))) a9 a10 a11 a12 a13 S
  have f0 : fr 0 = .tup [.int 0, .int 1] := rfl
  have lc := fun S => lcGo_all (tg := gN 13) (m := PM.e2 (dEq true) (eVar 13) (eA dTup (aCons (eC (.int 0)) (aCons (eC (.int 1)) aNil)))) (e0 := E rs s b c L a0 a1 (some (.lst (frL L (fp c L)))) a9 a10 a11 a12 none) (S := S) (fun i => fr (X rs s b i)) (fun i => D.bl (!decide (X rs s b i = 0))) (List.range 24) fun i _ => by
    refine ⟨_, rfl, ?_⟩
    have q := fun S => eqF true (X rs s b i) 0 S
    rw [f0, Bool.true_bne] at q
    unfold E
    generalize decide (X rs s b i = 0) = B at *
    generalize fr (X rs s b i) = V at *
    generalize rcO (frL L (fnd c L)) (frL L (X rs s b)) = F at *
    generalize frL 24 (X rs s b) = T at *
    generalize prog rs = P at *
    simp -implicitDefEqProofs [q]
  have e1 : (List.range 24).map (fun i => fr (X rs s b i)) = frL 24 (X rs s b) := rfl
  rw [e1] at lc
  have ab := asBools_fun (fun i => !decide (X rs s b i = 0)) (List.range 24)
  have da : ∀ S, dAny (.lst ((List.range 24).map fun i => D.bl (!decide (X rs s b i = 0)))) S = .ok (.bl (((List.range 24).map fun i => !decide (X rs s b i = 0)).any id)) S := fun S => by
    unfold dAny
    rw [wL_ap, rdL_lst]
    simp only [ab, oM]
    rfl
  have ll : (frL 24 (X rs s b)).length ≤ 100000 := by simp
  have imp : decide (∀ t, t < L + 60 → exF (fp c L) L (X rs s b) t = X rs s b t) = true → g = true := fun h => hg.mpr (spoilt H.A hL (of_decide_eq_true h))
  have sh : ∀ S, m_Recurrence_shows [rcO (frL L (fp c L)) (frL L (X rs s b)), prog rs, .str s.s, .int b] S = .ok (.bl (decide (∀ t, t < L + 60 → exF (fp c L) L (X rs s b) t = X rs s b t))) (S ++ tl m_Recurrence_shows [rcO (frL L (fp c L)) (frL L (X rs s b)), prog rs, .str s.s, .int b] S) := sh
  generalize decide (∀ t, t < L + 60 → exF (fp c L) L (X rs s b) t = X rs s b t) = Q at *
  generalize hB1 : (((List.range 24).map fun i => !decide (X rs s b i = 0)).any id) = B1 at *
  clear hB1 ab e1 hg
  generalize ((List.range 24).map fun i => D.bl (!decide (X rs s b i = 0))) = BL at *
  unfold E at lc c6 ⊢
  generalize rcO (frL L (fp c L)) (frL L (X rs s b)) = F0 at *
  generalize rcO (frL L (fnd c L)) (frL L (X rs s b)) = F at *
  generalize frL L (fp c L) = A2 at *
  generalize frL L (X rs s b) = A4 at *
  generalize frL 24 (X rs s b) = T at *
  generalize prog rs = P at *
  generalize tl m_Recurrence_shows [F0, P, .str s.s, .int b] = t1 at *
  have lb : BL.length ≤ 100000 ∨ True := .inr trivial
  cases B1 with
  | false =>
    obtain ⟨S6, c6⟩ := c6 S
    refine ⟨S6, ?_⟩
    simp -implicitDefEqProofs [b_law_c7, ll, lc, da, c6]
  | true =>
    cases Q with
    | false =>
      obtain ⟨S6, c6⟩ := c6 (S ++ [.dead] ++ t1 (S ++ [.dead]))
      refine ⟨S6, ?_⟩
      simp only [List.append_assoc, List.cons_append, List.nil_append] at c6
      simp -implicitDefEqProofs [b_law_c7, ll, lc, da, g2, mk, i1, sh, c6]
    | true =>
      obtain rfl := imp rfl
      obtain ⟨S6, c6⟩ := c6 (S ++ [.dead] ++ t1 (S ++ [.dead]))
      refine ⟨S6, ?_⟩
      simp only [List.append_assoc, List.cons_append, List.nil_append] at c6
      simp -implicitDefEqProofs [b_law_c7, ll, lc, da, g2, mk, i1, sh, go, c6]
end
end Lk04
end
section
set_option Elab.async false
set_option linter.all false
set_option maxRecDepth 100000
set_option maxHeartbeats 4000000
set_option exponentiation.threshold 30000
namespace Lk04
open PySem L2 PM
theorem lcGo_uni {α : Type} {tg : D → PM.Env → Option PM.Env} {m : PM.Env → M D} {e0 : PM.Env} (enc : α → D) (f : α → D) : ∀ (xs : List α), (∀ x ∈ xs, ∃ e1, tg (enc x) e0 = some e1 ∧ ∃ T, ∀ S, m e1 S = .ok (f x) (S ++ T)) → ∃ T, ∀ S, lcGo [] tg tYesP m e0 (xs.map enc) S = .ok (xs.map f) (S ++ T)
  | [], _ => ⟨[], fun S => by rw [List.append_nil]; rfl⟩
  | x :: xs, h => by
    obtain ⟨e1, h1, T, h2⟩ := h x (by simp)
    obtain ⟨T2, hT2⟩ := lcGo_uni enc f xs (fun y hy => h y (List.mem_cons_of_mem _ hy))
    refine ⟨T ++ T2, fun S => ?_⟩
    rw [List.map_cons]
    show (oM (tg (enc x) e0) _ : M _) S = _
    rw [h1]
    show ((m e1 S).then _) = _
    rw [h2 S]
    show ((lcGo [] tg tYesP m e0 (xs.map enc) (S ++ T)).then _) = _
    rw [hT2, List.append_assoc]
    rfl
section
variable {rs : List PM.Rd} {s : Stt} {b : Nat} {c : Nat → Rat} {L : Nat} (H : Sit rs s b c L)
include H
theorem c8_ok (a0 a1 a8 a9 a10 a11 a12 a13 : Option D) (S : Sto) : G (b_law_c8 (E rs s b c L a0 a1 a8 a9 a10 a11 a12 a13) S) := by
  have l8 := H.A.l8
  by_cases hL : 1 ≤ L
  · obtain ⟨S7, c7⟩ := c7_ok H hL a0 a1 a9 a10 a11 a12 a13 S
    have c4 := fun S => c4_ok H a0 a1 (some (.lst (frL L (fp c L)))) a9 a10 a11 a12 a13 S
    have g1 := fun S => fac (frL L (fnd c L)) (frL L (X rs s b)) S
    obtain ⟨K, rfl⟩ : ∃ K, L = K + 1 := ⟨L - 1, by omega⟩
    have e1 : frL (K + 1) (fnd c (K + 1)) = frL K (fnd c (K + 1)) ++ [fr (fnd c (K + 1) K)] := frL_succ K _
    have sl := fun S => dSl_lst (frL (K + 1) (fnd c (K + 1))) none (some (-1)) S
    have cu : cutD (frL (K + 1) (fnd c (K + 1))) none (some (-1)) = frL K (fnd c (K + 1)) := by
      have l : (frL (K + 1) (fnd c (K + 1))).length = K + 1 := frL_len _ _
      unfold cutD HT.sIx
      simp only [l]
      rw [if_pos (by decide), show (-1 + ((K + 1 : Nat) : Int)).toNat = K by omega, List.drop_zero, Nat.sub_zero, frL_take (by omega)]
    rw [cu] at sl
    have ix : ∀ S, dIx (.lst (frL (K + 1) (fnd c (K + 1)))) (.int (-1)) S = .ok (fr (fnd c (K + 1) K)) S := fun S => by
      have := atI_last (xs := frL K (fnd c (K + 1))) (a := fr (fnd c (K + 1) K))
      rw [← e1] at this
      simp -implicitDefEqProofs [this]
    have x0 : ∀ S, dIx (fr (fnd c (K + 1) K)) (.int 0) S = .ok (.int (fnd c (K + 1) K).num) S := fun S => by simp [fr]
    have x1 : ∀ S, dIx (fr (fnd c (K + 1) K)) (.int 1) S = .ok (.int (fnd c (K + 1) K).den) S := fun S => by simp [fr]
    have ad : ∀ S, dAdd (.lst (frL K (fnd c (K + 1)))) (.lst [.tup [.int ((fnd c (K + 1) K).num + ((fnd c (K + 1) K).den : Int)), .int (fnd c (K + 1) K).den]]) S = .ok (.lst (frL (K + 1) (fp c (K + 1)))) S := fun S => by
      rw [dAdd_ll, gd_yes (by simp [lim]; omega), ← fr_succ, frL_succ K (fp c (K + 1))]
      have e2 : frL K (fp c (K + 1)) = frL K (fnd c (K + 1)) := frL_congr fun i hi => by
        unfold fp
        rw [if_neg (by omega)]
      have e3 : fp c (K + 1) K = fnd c (K + 1) K + 1 := by
        unfold fp
        rw [if_pos (by omega)]
      rw [e2, e3]
      rfl
    have kp : (0 : Int) < ((K + 1 : Nat) : Int) := by omega
    unfold E at c7 c4 ⊢
    clear e1 cu
    generalize fnd c (K + 1) K = v at *
    generalize rcO (frL (K + 1) (fnd c (K + 1))) (frL (K + 1) (X rs s b)) = F at *
    generalize frL (K + 1) (fp c (K + 1)) = A2 at *
    generalize frL (K + 1) (fnd c (K + 1)) = A3 at *
    generalize frL K (fnd c (K + 1)) = A5 at *
    generalize frL 24 (X rs s b) = T at *
    generalize prog rs = P at *
    generalize ((K + 1 : Nat) : Int) = k at *
    generalize fr v = V at *
    simp -implicitDefEqProofs [b_law_c8, kp, g1, sl, ix, x0, x1, ad, c7, c4, -dAdd_ll, -dIx_ap]
  · have c4 := fun S => c4_ok H a0 a1 a8 a9 a10 a11 a12 a13 S
    have kp : ¬ (0 : Int) < (L : Int) := by omega
    have kz : L = 0 := by omega
    unfold E at c4 ⊢
    generalize rcO (frL L (fnd c L)) (frL L (X rs s b)) = F at *
    generalize frL 24 (X rs s b) = T at *
    generalize prog rs = P at *
    simp -implicitDefEqProofs [b_law_c8, kp, kz]
    subst kz
    exact c4 S
theorem c9_ok (a0 a1 a8 a9 a10 a11 a12 a13 : Option D) (S : Sto) : G (b_law_c9 (E rs s b c L a0 a1 a8 a9 a10 a11 a12 a13) S) := by
  have c8 := fun S => c8_ok H a0 a1 a8 a9 a10 a11 a12 a13 S
  have rn : rangeD 0 24 = (List.range 24).map fun (k : Nat) => D.int k := rangeD_nat 24
  have io := fun S => ins_rec "value" (.inr (.inl rfl)) (frL L (fnd c L)) (frL L (X rs s b)) S
  obtain ⟨T1, lc⟩ := lcGo_uni (tg := gN 10) (m := eMeth "Recurrence" "value" m_Recurrence_value (eVar 6) (aCons (eVar 10) aNil)) (e0 := E rs s b c L a0 a1 a8 a9 none a11 a12 a13) (fun k : Nat => D.int k) (fun k => fr (X rs s b k)) (List.range 24) fun k hk => by
    have va := fun S => value_am H.A (k := k) (by have := List.mem_range.mp hk; omega) S
    refine ⟨_, rfl, [.dead], fun S => ?_⟩
    unfold E
    generalize fr (X rs s b k) = W3 at *
    generalize rcO (frL L (fnd c L)) (frL L (X rs s b)) = RC at *
    generalize prog rs = P at *
    generalize frL 24 (X rs s b) = W4 at *
    simp -implicitDefEqProofs [io, va]
  have q : ∀ S, dEq true (.lst (frL 24 (X rs s b))) (.lst (frL 24 (X rs s b))) S = .ok (.bl false) S := fun S => by
    rw [dEq_fit true S (frL_fit _ _ 10) (frL_fit _ _ 10), decide_eq_true rfl]; rfl
  have e1 : (List.range 24).map (fun k => fr (X rs s b k)) = frL 24 (X rs s b) := rfl
  rw [e1] at lc
  clear e1
  unfold E at lc c8 ⊢
  generalize rcO (frL L (fnd c L)) (frL L (X rs s b)) = F at *
  generalize frL 24 (X rs s b) = T at *
  generalize prog rs = P at *
  simp -implicitDefEqProofs [b_law_c9, rn, lc, q, c8]
theorem c12_ok (a0 a1 a7 a8 a9 a10 a11 a12 a13 : Option D) (S : Sto) : G (b_law_c12 ⟨[a0, a1, some (prog rs), some (.str s.s), some (.int b), some (.lst (frL 24 (X rs s b))), some (rcO (frL L (fnd c L)) (frL L (X rs s b))), a7, a8, a9, a10, a11, a12, a13], none⟩ S) := by
  have l8 := H.A.l8
  have c9 := fun S => c9_ok H a0 a1 a8 a9 a10 a11 a12 a13 S
  have g1 := fun S => fac (frL L (fnd c L)) (frL L (X rs s b)) S
  have g2 := fun S => fir (frL L (fnd c L)) (frL L (X rs s b)) S
  have io := fun S => ins_rec "" (.inr (.inr rfl)) (frL L (fnd c L)) (frL L (X rs s b)) S
  have i1 := fun S => ins_rec "shows" (.inl rfl) (frL L (fnd c L)) (frL L (X rs s b)) S
  have sh := (shows_self H.R H.hb H.A rfl).eq
  obtain ⟨g, hg, go⟩ := goes_ok (L := L) (n := 24) (B1 := 60) (B2 := 100) (f := fnd c L) (x := X rs s b) (by omega) (by omega) (by omega) (fun i hi => fbt H.A hi) (fun t ht => xbt H.A ht) (by omega)
  obtain rfl := hg.mpr (go1 H.A)
  have ll : (frL L (fnd c L)).length = L := frL_len _ _
  have c1 : (L : Int) < 9223372036854775808 := by omega
  have c1' : L < 18446744073709551616 := by omega
  have tk : cutD (frL 24 (X rs s b)) none (some (L : Int)) = frL L (X rs s b) := by
    rw [cutD_hi _ (by omega), Int.toNat_natCast, frL_take (by omega)]
  have sl := fun S => dSl_lst (frL 24 (X rs s b)) none (some (L : Int)) S
  rw [tk] at sl
  have q : ∀ S, dEq true (.lst (frL L (X rs s b))) (.lst (frL L (X rs s b))) S = .ok (.bl false) S := fun S => by
    rw [dEq_fit true S (frL_fit _ _ 10) (frL_fit _ _ 10), decide_eq_true rfl]; rfl
  have ln : ∀ S, m_Recurrence___len__ [rcO (frL L (fnd c L)) (frL L (X rs s b))] S = .ok (.int L) S := fun S => by
    generalize rcO (frL L (fnd c L)) (frL L (X rs s b)) = F at *
    generalize frL L (fnd c L) = A3 at *
    simp -implicitDefEqProofs [m_Recurrence___len__, b_Recurrence___len__, g1, ll]
  have dl : ∀ S, dLenO "Recurrence" m_Recurrence___len__ [rcO (frL L (fnd c L)) (frL L (X rs s b))] S = .ok (.int L) S := fun S => by
    simp -implicitDefEqProofs [dLenO, io, ln, noE]
    omega
  unfold E at c9
  clear tk hg
  generalize rcO (frL L (fnd c L)) (frL L (X rs s b)) = F at *
  generalize frL L (fnd c L) = A3 at *
  generalize frL L (X rs s b) = A4 at *
  generalize frL 24 (X rs s b) = T at *
  generalize prog rs = P at *
  generalize tl m_Recurrence_shows [F, P, .str s.s, .int b] = t1 at *
  simp -implicitDefEqProofs [b_law_c12, b_law_c11, b_law_c10, dl, i1, sh, g1, g2, ll, sl, q, go, c9]
end
theorem c14_ok {rs : List PM.Rd} (h2 : ∀ r ∈ rs, r.r2 = true) (hl : rs.length ≤ 3) (s : Stt) {b : Nat} (hb : b ≤ 2) (a0 a1 a6 a7 a8 a9 a10 a11 a12 a13 : Option D) (S : Sto) : G (b_law_c14 ⟨[a0, a1, some (prog rs), some (.str s.s), some (.int b), some (.lst (frL 24 (X rs s b))), a6, a7, a8, a9, a10, a11, a12, a13], none⟩ S) := by
  have R : Rp rs := ⟨by omega, fun r hr => r2_ok (h2 r hr)⟩
  have ck : chkA rs s b = true := by
    rcases (by omega : rs.length = 0 ∨ rs.length = 1 ∨ rs.length = 2 ∨ rs.length = 3) with e | e | e | e
    · exact chk_of chk0 e h2 s hb
    · exact chk_of chk1 e h2 s hb
    · exact chk_of chk2 e h2 s hb
    · exact chk_of chk3 e h2 s hb
  have A := am_of h2 hl s hb ck
  generalize gL (rnB (xAm rs s b) 16).1.c = c at A
  generalize (rnB (xAm rs s b) 16).1.L = L at A
  have H : Sit rs s b c L := ⟨R, hb, A⟩
  have c12 := fun S => c12_ok H a0 a1 a7 a8 a9 a10 a11 a12 a13 S
  have r1 := (rec_am R hb A rfl).eq
  have a1' := (ams_ok R s hb (m := 24) (by decide) (by decide)).eq
  have am := fun S => am_ok R s hb (n := b + 24) (by omega) (by omega) S
  rw [show b + 24 - 1 - b = 23 by omega, show ((b + 24 : Nat) : Int) = (b : Int) + 24 by omega] at am
  have q : ∀ S, dEq true (.lst (frL 24 (X rs s b))) (.lst (frL 24 (X rs s b))) S = .ok (.bl false) S := fun S => by
    rw [dEq_fit true S (frL_fit _ _ 10) (frL_fit _ _ 10), decide_eq_true rfl]; rfl
  have q2 : ∀ S, dEq true (fr (xAm rs s b 23)) (fr (xAm rs s b 23)) S = .ok (.bl false) S := fun S => by
    rw [dEq_fit true S (fr_fit _ 11) (fr_fit _ 11), decide_eq_true rfl]; rfl
  have ix : ∀ S, dIx (.lst (frL 24 (X rs s b))) (.int (-1)) S = .ok (fr (xAm rs s b 23)) S := fun S => by
    have := atI_last (xs := frL 23 (X rs s b)) (a := fr (X rs s b 23))
    rw [← frL_succ] at this
    simp -implicitDefEqProofs [this]
  have a1' : ∀ S, m_amounts [prog rs, .str s.s, .int b, .int 24] S = .ok (.lst (frL 24 (X rs s b))) (S ++ tl m_amounts [prog rs, .str s.s, .int b, .int 24] S) := a1'
  generalize rcO (frL L (fnd c L)) (frL L (X rs s b)) = F at *
  generalize frL 24 (X rs s b) = T at *
  generalize fr (xAm rs s b 23) = V at *
  generalize tl m_amounts [prog rs, .str s.s, .int b, .int 24] = t1 at *
  generalize tl m_recurrence [prog rs, .str s.s, .int b] = t2 at *
  generalize prog rs = P at *
  simp -implicitDefEqProofs [b_law_c14, b_law_c13, a1', q, am, ix, q2, r1, c12, -dIx_ap]
theorem lap_x {rs : List PM.Rd} (hr : ∀ r ∈ rs, r.ok) (s : Stt) (b t : Nat) : (lapQ (opn rs ((b + 1 + t : Nat) : Int)) (ofI (stV s (b + 1 + t))) 1).getD t 0 = xAm rs s b t := by
  have := amQ_xA hr s (b := b) (m := b + t) (by omega)
  unfold xAm
  rw [show b + 1 + t = b + t + 1 by omega, this]
  show getF (plyQ (ofI (stV s (b + t + 1))) (opn rs ((b + t + 1 : Nat) : Int))) t = plyF _ _ (b + t - b)
  have wi : Wi (b + t + 1) (opn rs ((b + t + 1 : Nat) : Int)) := opn_wi rs (b + t + 1)
  rw [getF_ply _ _ (by rw [ofI_len, stV_len]; exact wi), show b + t - b = t by omega]
  exact plyF_cong _ wi (fun i hi => getF_st s (b + t) hi) _ (by omega)
theorem start_ok (s : Stt) {n : Nat} (n1 : 1 ≤ n) (n2 : n ≤ 100) (S : Sto) : m__law_start [.str s.s, .int n] S = .ok (.lst ((stV s n).map .int)) S := by
  have un := fun (b : Nat) S => law_unit_ok (n := n) (b := b) (by omega) S
  have u0 : ∀ S, m__law_unit_p [.int n, .int 0] S = .ok (.lst ((stV .first n).map .int)) S := fun S => un 0 S
  have u1 : ∀ S, m__law_unit_p [.int n, .int ((n : Int) - 1)] S = .ok (.lst ((stV .last n).map .int)) S := fun S => by
    have := un (n - 1) S
    rw [show ((n - 1 : Nat) : Int) = (n : Int) - 1 by omega] at this
    exact this
  have m1 : ∀ S, dMul (.lst [.int 1]) (.int n) S = .ok (.lst ((stV .ones n).map .int)) S := fun S => by
    rw [dMul_li, gd_yes (by simp [lim]; omega), Int.toNat_natCast, rep_int]
    congr 3
    show List.replicate n 1 = (List.range n).map fun _ => 1
    rw [rep_map (α := Nat)]
  have r1 : ∀ S, dRange (.int 1) (.int ((n : Int) + 1)) S = .ok (.lst ((stV .stairs n).map .int)) S := fun S => by
    rw [dRange_ap, gd_yes (by omega)]
    have : rangeD 1 ((n : Int) + 1) = (stV .stairs n).map .int := by
      unfold stV
      rw [rng1]
      rw [List.map_map]
      exact List.map_congr_left fun k _ => by
        show D.int (((k + 1 : Nat)) : Int) = D.int ((1 : Int) + (k : Int))
        congr 1
        omega
    rw [this]
    rfl
  cases s <;> simp only [Stt.s]
  · generalize (stV .ones n).map D.int = V at *
    simp -implicitDefEqProofs [m__law_start, b__law_start, m1, -dMul_li]
  · generalize (stV .first n).map D.int = V at *
    simp -implicitDefEqProofs [m__law_start, b__law_start, u0]
  · generalize (stV .last n).map D.int = V at *
    simp -implicitDefEqProofs [m__law_start, b__law_start, u1]
  · generalize (stV .stairs n).map D.int = V at *
    simp -implicitDefEqProofs [m__law_start, b__law_start, r1, -dRange_ap]
theorem c16_ok {rs : List PM.Rd} (h2 : ∀ r ∈ rs, r.r2 = true) (hl : rs.length ≤ 3) (ns : List Int) (a5 a6 a7 a8 a9 a10 a11 a12 a13 : Option D) (S : Sto) : G (b_law_c16 ⟨[some (.scr ns), some (.lst (rs.map Rd.d)), none, none, none, a5, a6, a7, a8, a9, a10, a11, a12, a13], none⟩ S) := by
  have hr : ∀ r ∈ rs, r.ok := fun r hr => r2_ok (h2 r hr)
  obtain ⟨v, v1, v2, d⟩ := draw_ok ns 1 4 (by decide) (by decide) (by decide)
  obtain ⟨b', w1, w2, d2⟩ := draw_ok ns 2 3 (by decide) (by decide) (by decide)
  obtain ⟨b, rfl⟩ := Int.eq_ofNat_of_zero_le w1
  have hb : b ≤ 2 := by omega
  have mk := fun S => mk_Program (IsSeq.lst (ds := rs.map Rd.d)) (by omega) hr S
  obtain ⟨s, hs⟩ : ∃ s : Stt, atI [D.str "ones", .str "first", .str "last", .str "stairs"] v = some (.str s.s) := by
    rcases (by omega : v = 0 ∨ v = 1 ∨ v = 2 ∨ v = 3) with rfl | rfl | rfl | rfl
    · exact ⟨.ones, by simp [Stt.s]⟩
    · exact ⟨.first, by simp [Stt.s]⟩
    · exact ⟨.last, by simp [Stt.s]⟩
    · exact ⟨.stairs, by simp [Stt.s]⟩
  have c14 := fun S => c14_ok h2 hl s hb (some (.scr ns)) (some (.lst (rs.map Rd.d))) a6 a7 a8 a9 a10 a11 a12 a13 S
  have rn : rangeD ((b : Int) + 1) ((b : Int) + 25) = (List.range 24).map fun (t : Nat) => D.int ((b + 1 + t : Nat) : Int) := by
    unfold rangeD
    rw [show ((b : Int) + 25 - ((b : Int) + 1)).toNat = 24 by omega]
    refine List.map_congr_left fun t _ => ?_
    show D.int ((b : Int) + 1 + (t : Int)) = _
    congr 1
    skip
  obtain ⟨T1, lc⟩ := lcGo_uni (tg := gN 12) (m := PM.e2 dIx (eA m__law_done (aCons (eVar 1) (aCons (eA m__law_start (aCons (eVar 3) (aCons (eVar 12) aNil))) aNil))) (PM.e2 dSub (PM.e2 dSub (eVar 12) (eC (.int 1))) (eVar 4))) (e0 := ⟨[some (.scr ns), some (.lst (rs.map Rd.d)), some (prog rs), some (.str s.s), some (.int b), a5, a6, a7, a8, a9, a10, a11, none, a13], none⟩) (fun t : Nat => D.int ((b + 1 + t : Nat) : Int)) (fun t => fr (X rs s b t)) (List.range 24) fun t ht => by
    have ht := List.mem_range.mp ht
    have st := fun S => start_ok s (n := b + 1 + t) (by omega) (by omega) S
    have dn := fun S => law_done_ok (rs := rs) (L := 1) (x := .lst (rs.map Rd.d)) (y := .lst ((stV s (b + 1 + t)).map .int)) (vs := stV s (b + 1 + t)) (by
      have : (List.replicate 1 rs).flatten = rs := by simp
      rw [this]
      exact .lst) .lst hr (by omega) (by rw [stV_len]; omega) (by rw [stV_len]; omega) (stV_b s (by omega)) S
    simp only [stV_len] at dn
    have lx := lap_x hr s b t
    have lq : (lapQ (opn rs ((b + 1 + t : Nat) : Int)) (ofI (stV s (b + 1 + t))) 1).length = b + 1 + t := by rw [lapQ_len, ofI_len, stV_len]
    have gt : (lapQ (opn rs ((b + 1 + t : Nat) : Int)) (ofI (stV s (b + 1 + t))) 1)[t]? = some (xAm rs s b t) := by
      rw [List.getD_eq_getElem?_getD] at lx
      cases q : (lapQ (opn rs ((b + 1 + t : Nat) : Int)) (ofI (stV s (b + 1 + t))) 1)[t]? with
      | none =>
        have := List.getElem?_eq_none_iff.mp q
        omega
      | some v =>
        rw [q] at lx
        rw [show v = xAm rs s b t from lx]
    have ai : atI ((lapQ (opn rs ((b + 1 + t : Nat) : Int)) (ofI (stV s (b + 1 + t))) 1).map fr) (t : Int) = some (fr (X rs s b t)) := atI_get (by rw [List.getElem?_map, gt]; rfl)
    have et : ((b + 1 + t : Nat) : Int) - 1 - (b : Int) = (t : Int) := by omega
    refine ⟨_, rfl, [.dead], fun S => ?_⟩
    clear gt lq lx
    generalize (lapQ (opn rs ((b + 1 + t : Nat) : Int)) (ofI (stV s (b + 1 + t))) 1).map fr = W at *
    generalize fr (X rs s b t) = V at *
    generalize (stV s (b + 1 + t)).map D.int = U at *
    generalize ((b + 1 + t : Nat) : Int) = n at *
    generalize prog rs = P at *
    generalize rs.map Rd.d = RS at *
    simp -implicitDefEqProofs [st, dn, et, ai]
  have e1 : (List.range 24).map (fun t => fr (X rs s b t)) = frL 24 (X rs s b) := rfl
  rw [e1] at lc
  have ln : ((List.range 24).map fun (t : Nat) => D.int ((b + 1 + t : Nat) : Int)).length ≤ 100000 := by simp
  clear e1
  have b1 : (b : Int) + 25 ≤ 1000000 := by omega
  generalize frL 24 (X rs s b) = T at *
  generalize ((List.range 24).map fun (t : Nat) => D.int ((b + 1 + t : Nat) : Int)) = R24 at *
  generalize prog rs = P at *
  generalize rs.map Rd.d = RS at *
  have b2 : (-1000000 : Int) ≤ (b : Int) + 1 := by omega
  have b3 : (b : Int) + 1 ≤ 1000000 := by omega
  have b4 : (-1000000 : Int) ≤ (b : Int) + 25 := by omega
  simp -implicitDefEqProofs [b_law_c16, b_law_c15, mk, d, d2, hs, b1, b2, b3, b4, rn, ln, lc, c14]
theorem law_true (ns : List Int) (h : ns.length ≤ 63) : ∃ S', m_law [.scr ns] [] = .ok (.bl true) S' := by
  obtain ⟨r0, S1, r1, l1, ok1⟩ := rounds_ok ns 10 3 "right" (.inl rfl) (by decide) (by decide) (by decide) (by decide) []
  have lc := fun S => lcGo_map (tg := gN 5) (t := tOrP (tOf (PM.e2 (dEq false) (PM.e2 dIx (eVar 5) (eC (.int 0))) (eC (.str "right")))) (tOf (PM.e2 dLt (PM.e2 dIx (eVar 5) (eC (.int 1))) (eC (.int 3))))) (m := eVar 5) (e0 := ⟨[some (.scr ns), none, none, none, none, none, none, none, none, none, none, none, none, none], none⟩) (S := S) Rd.d (fun r => r.r2) Rd.d r0 fun r hr => by
    obtain ⟨o1, o2⟩ := ok1 r hr
    have w : wayR "right" = .right := by unfold wayR; rw [if_neg (by decide)]
    rw [w] at o2
    refine ⟨_, rfl, ?_, fun _ => ?_⟩
    · rcases o2 with rfl | ⟨a, b, rfl⟩
      · simp -implicitDefEqProofs [Rd.d, Rd.r2]
      · obtain ⟨q1, q2, q3, q4⟩ : 2 ≤ a ∧ a ≤ 4 ∧ 0 ≤ b ∧ b < a := o1
        have e : (PM.Rd.ev a b).r2 = decide (a < 3) := by
          unfold PM.Rd.r2
          by_cases c : a = 2
          · have : b = 0 ∨ b = 1 := by omega
            rcases this with rfl | rfl <;> simp [c]
          · have : ¬ a < 3 := by omega
            simp [c, this]
        rw [e]
        simp -implicitDefEqProofs [Rd.d]
    · simp -implicitDefEqProofs
  have h2 : ∀ r ∈ r0.filter (·.r2), r.r2 = true := fun r hr => (List.mem_filter.mp hr).2
  have hl : (r0.filter (·.r2)).length ≤ 3 := by
    have := List.length_filter_le (fun r : PM.Rd => r.r2) r0
    omega
  obtain ⟨S', fin⟩ := c16_ok h2 hl ns none none none none none none none none none S1
  refine ⟨S', ?_⟩
  have lr : (r0.map Rd.d).length ≤ 100000 := by simp; omega
  clear h2 hl
  generalize (r0.filter (·.r2)).map Rd.d = RS at *
  generalize r0.map Rd.d = R0 at *
  simp -implicitDefEqProofs [m_law, b_law, r1, lr, lc, fin]
end Lk04
end
section
set_option Elab.async false
set_option linter.all false
set_option maxRecDepth 100000
set_option maxHeartbeats 4000000
namespace Lk04
open PySem PySem.Spec PyProof.Rows L2 Evl PM
open WD (pe_tyN pe_clsN cr_lcm call_lenS call_listS call_tupS call_absS call_maxS call_minS call_intS)
section
variable {P : Program} {w : World} {K : PySem.W.Frag} {mg : Str → Option Value} {base : Heap}
theorem ok_law (T : Tx P K mg) {fd : FuncData} (F : FunD K "law" "law" (defArgs s_law) (defBody s_law) (defScope s_law) [] [] (He.ga K "law") fd) : FnOk P w K mg base (L2.CX P w) 6 (He.ga K "law") fd ["script"] (lawSp K) := by
  refine law_fn (N := ["script", "rounds", "program", "start", "back", "told", "found", "size", "spoilt", "more", "number", "error", "many", "one"]) (st := s_law) (m := PM.b_law) F sc_law (by decide) rfl (fun cdv A outer s H E hr => ⟨_, by
  unfold PM.b_law PM.b_law_c16 PM.b_law_c15 PM.b_law_c14 PM.b_law_c13 PM.b_law_c12 PM.b_law_c11 PM.b_law_c10 PM.b_law_c9 PM.b_law_c8 PM.b_law_c7 PM.b_law_c6 PM.b_law_c5 PM.b_law_c4 PM.b_law_c3 PM.b_law_c2 PM.b_law_c1 PM.b_law_c0
  exact (css_cons (cs_asg (ce_lc false (own := [("told", 5)]) rfl sc_law.nd (ci_seq (ce_call (ok__law_rounds T) (hr.mono (by decide)) (by rfl) T.m__law_rounds (ca_cons (ce_var 0 rfl (by first | exact Or.inl rfl | exact Or.inr (Or.inl rfl) | exact Or.inr (Or.inr rfl))) (ca_cons ce_int (ca_cons ce_int (ca_cons ce_str ca_nil)))))) (blkOk_by (own := [("told", 5)]) (N := ["script", "rounds", "program", "start", "back", "told", "found", "size", "spoilt", "more", "number", "error", "many", "one"]) (sc := defScope s_law) (by decide +kernel)) (fun _ _ _ _ _ => (cg_name (i := 5) sc_law.nd rfl (.inl rfl))) (keep_gname (by decide)) (fun _ _ _ _ _ => (cts_one (cw_t (cw_or (ct_eq hr.units (ce_ix (ce_var 5 rfl (by first | exact Or.inl rfl | exact Or.inr (Or.inl rfl) | exact Or.inr (Or.inr rfl))) ce_int (fun _ _ => rfl)) ce_str) (cw_or1 (ct_lt (ce_ix (ce_var 5 rfl (by first | exact Or.inl rfl | exact Or.inr (Or.inl rfl) | exact Or.inr (Or.inr rfl))) ce_int (fun _ _ => rfl)) ce_int)))))) (fun _ _ _ _ _ => (ce_var 5 rfl (by first | exact Or.inl rfl | exact Or.inr (Or.inl rfl) | exact Or.inr (Or.inr rfl))))) (cg_name (i := 1) sc_law.nd rfl (.inr rfl))) (css_cons (cs_asg (ce_tup (ca_cons (ce_make false T.k_Program (ok_Program___init__ T) (hr.mono (by decide)) (by rfl) T.m_Program (ca_cons (ce_var 1 rfl (by first | exact Or.inl rfl | exact Or.inr (Or.inl rfl) | exact Or.inr (Or.inr rfl))) ca_nil)) (ca_cons (ce_ix (ce_tup (ca_cons ce_str (ca_cons ce_str (ca_cons ce_str (ca_cons ce_str ca_nil))))) (ce_call (ok__law_draw T) (hr.mono (by decide)) (by rfl) T.m__law_draw (ca_cons (ce_var 0 rfl (by first | exact Or.inl rfl | exact Or.inr (Or.inl rfl) | exact Or.inr (Or.inr rfl))) (ca_cons ce_int (ca_cons ce_int ca_nil)))) (fun _ _ => rfl)) (ca_cons (ce_call (ok__law_draw T) (hr.mono (by decide)) (by rfl) T.m__law_draw (ca_cons (ce_var 0 rfl (by first | exact Or.inl rfl | exact Or.inr (Or.inl rfl) | exact Or.inr (Or.inr rfl))) (ca_cons ce_int (ca_cons ce_int ca_nil)))) ca_nil)))) (cg_tup rfl (cgs_cons (cg_name (i := 2) sc_law.nd rfl (.inl rfl)) (cgs_cons (cg_name (i := 3) sc_law.nd rfl (.inr rfl)) (cgs_cons (cg_name (i := 4) sc_law.nd rfl (.inr rfl)) cgs_nil))))) (css_cons (cs_setLc false (i := 5) (own := [("many", 12)]) rfl sc_law.nd rfl rfl (sw_true rfl rfl rfl (by decide +kernel)) (ci_range2 (by rfl) T.z_range (ca_cons (ce_add (ce_var 4 rfl (by first | exact Or.inl rfl | exact Or.inr (Or.inl rfl) | exact Or.inr (Or.inr rfl))) ce_int) (ca_cons (ce_add (ce_var 4 rfl (by first | exact Or.inl rfl | exact Or.inr (Or.inl rfl) | exact Or.inr (Or.inr rfl))) ce_int) ca_nil))) (blkOk_by (own := [("many", 12)]) (N := ["script", "rounds", "program", "start", "back", "told", "found", "size", "spoilt", "more", "number", "error", "many", "one"]) (sc := defScope s_law) (by decide +kernel)) (fun _ _ _ _ _ => (cg_name (i := 12) sc_law.nd rfl (.inl rfl))) (keep_gname (by decide)) (fun _ _ _ _ _ => cts_nil) (fun _ _ _ _ _ => (ce_ix (ce_call (ok__law_done T) (hr.mono (by decide)) (by rfl) T.m__law_done (ca_cons (ce_var 1 rfl (by first | exact Or.inl rfl | exact Or.inr (Or.inl rfl) | exact Or.inr (Or.inr rfl))) (ca_cons (ce_call (ok__law_start T) (hr.mono (by decide)) (by rfl) T.m__law_start (ca_cons (ce_var 3 rfl (by first | exact Or.inl rfl | exact Or.inr (Or.inl rfl) | exact Or.inr (Or.inr rfl))) (ca_cons (ce_var 12 rfl (by first | exact Or.inl rfl | exact Or.inr (Or.inl rfl) | exact Or.inr (Or.inr rfl))) ca_nil))) ca_nil))) (ce_sub (ce_sub (ce_var 12 rfl (by first | exact Or.inl rfl | exact Or.inr (Or.inl rfl) | exact Or.inr (Or.inr rfl))) ce_int) (ce_var 4 rfl (by first | exact Or.inl rfl | exact Or.inr (Or.inl rfl) | exact Or.inr (Or.inr rfl)))) (fun _ _ => rfl)))) (css_cons (cs_if (cw_t (cw_or (ct_ne hr.units (ce_call (ok_amounts T) (hr.mono (by decide)) (by rfl) T.m_amounts (ca_cons (ce_var 2 rfl (by first | exact Or.inl rfl | exact Or.inr (Or.inl rfl) | exact Or.inr (Or.inr rfl))) (ca_cons (ce_var 3 rfl (by first | exact Or.inl rfl | exact Or.inr (Or.inl rfl) | exact Or.inr (Or.inr rfl))) (ca_cons (ce_var 4 rfl (by first | exact Or.inl rfl | exact Or.inr (Or.inl rfl) | exact Or.inr (Or.inr rfl))) (ca_cons ce_int ca_nil))))) (ce_var 5 rfl (by first | exact Or.inl rfl | exact Or.inr (Or.inl rfl) | exact Or.inr (Or.inr rfl)))) (cw_or1 (ct_ne hr.units (ce_call (ok_amount T) (hr.mono (by decide)) (by rfl) T.m_amount (ca_cons (ce_var 2 rfl (by first | exact Or.inl rfl | exact Or.inr (Or.inl rfl) | exact Or.inr (Or.inr rfl))) (ca_cons (ce_var 3 rfl (by first | exact Or.inl rfl | exact Or.inr (Or.inl rfl) | exact Or.inr (Or.inr rfl))) (ca_cons (ce_var 4 rfl (by first | exact Or.inl rfl | exact Or.inr (Or.inl rfl) | exact Or.inr (Or.inr rfl))) (ca_cons (ce_add (ce_var 4 rfl (by first | exact Or.inl rfl | exact Or.inr (Or.inl rfl) | exact Or.inr (Or.inr rfl))) ce_int) ca_nil))))) (ce_ix (ce_var 5 rfl (by first | exact Or.inl rfl | exact Or.inr (Or.inl rfl) | exact Or.inr (Or.inr rfl))) (ce_neg ce_int) (fun _ _ => rfl)))))) (css_one (cs_ret ce_bl)) css_nil) (css_cons (cs_asg (ce_call (ok_recurrence T) (hr.mono (by decide)) (by rfl) T.m_recurrence (ca_cons (ce_var 2 rfl (by first | exact Or.inl rfl | exact Or.inr (Or.inl rfl) | exact Or.inr (Or.inr rfl))) (ca_cons (ce_var 3 rfl (by first | exact Or.inl rfl | exact Or.inr (Or.inl rfl) | exact Or.inr (Or.inr rfl))) (ca_cons (ce_var 4 rfl (by first | exact Or.inl rfl | exact Or.inr (Or.inl rfl) | exact Or.inr (Or.inr rfl))) ca_nil)))) (cg_name (i := 6) sc_law.nd rfl (.inr rfl))) (css_cons (cs_asg (ce_lenO (ok_Recurrence___len__ T) T.x_Recurrence___len__ (hr.mono (by decide)) (by rfl) T.z_len (ca_cons (ce_var 6 rfl (by first | exact Or.inl rfl | exact Or.inr (Or.inl rfl) | exact Or.inr (Or.inr rfl))) ca_nil)) (cg_name (i := 7) sc_law.nd rfl (.inl rfl))) (css_cons (cs_if (cw_t (cw_or (ct_not (ct_val (ce_meth (ce_var 6 rfl (by first | exact Or.inl rfl | exact Or.inr (Or.inl rfl) | exact Or.inr (Or.inr rfl))) T.c_Recurrence T.x_Recurrence_shows (ok_Recurrence_shows T) (hr.mono (by decide)) (ca_cons (ce_var 2 rfl (by first | exact Or.inl rfl | exact Or.inr (Or.inl rfl) | exact Or.inr (Or.inr rfl))) (ca_cons (ce_var 3 rfl (by first | exact Or.inl rfl | exact Or.inr (Or.inl rfl) | exact Or.inr (Or.inr rfl))) (ca_cons (ce_var 4 rfl (by first | exact Or.inl rfl | exact Or.inr (Or.inl rfl) | exact Or.inr (Or.inr rfl))) ca_nil)))))) (cw_or (ct_ne hr.units (ce_callBK (fun K => rLenS K) call_lenS calls_len (by rfl) T.z_len PySem.boot_len (ca_cons (ce_fld ["Recurrence"] (fo_cons T.c_Recurrence T.n_Recurrence_factors fo_nil) (ce_var 6 rfl (by first | exact Or.inl rfl | exact Or.inr (Or.inl rfl) | exact Or.inr (Or.inr rfl))) rfl) ca_nil)) (ce_var 7 rfl (by first | exact Or.inl rfl | exact Or.inr (Or.inl rfl) | exact Or.inr (Or.inr rfl)))) (cw_or1 (ct_ne hr.units (ce_fld ["Recurrence"] (fo_cons T.c_Recurrence T.n_Recurrence_firsts fo_nil) (ce_var 6 rfl (by first | exact Or.inl rfl | exact Or.inr (Or.inl rfl) | exact Or.inr (Or.inr rfl))) rfl) (ce_sl (ce_var 5 rfl (by first | exact Or.inl rfl | exact Or.inr (Or.inl rfl) | exact Or.inr (Or.inr rfl))) co_none (co_some (ce_var 7 rfl (by first | exact Or.inl rfl | exact Or.inr (Or.inl rfl) | exact Or.inr (Or.inr rfl)))))))))) (css_one (cs_ret ce_bl)) css_nil) (css_cons (cs_if (ct_not (ct_truth (ce_call (ok__law_goes_on T) (hr.mono (by decide)) (by rfl) T.m__law_goes_on (ca_cons (ce_fld ["Recurrence"] (fo_cons T.c_Recurrence T.n_Recurrence_factors fo_nil) (ce_var 6 rfl (by first | exact Or.inl rfl | exact Or.inr (Or.inl rfl) | exact Or.inr (Or.inr rfl))) rfl) (ca_cons (ce_var 5 rfl (by first | exact Or.inl rfl | exact Or.inr (Or.inl rfl) | exact Or.inr (Or.inr rfl))) (ca_cons (ce_var 7 rfl (by first | exact Or.inl rfl | exact Or.inr (Or.inl rfl) | exact Or.inr (Or.inr rfl))) ca_nil)))))) (css_one (cs_ret ce_bl)) css_nil) (css_cons (cs_if (ct_ne hr.units (ce_lc false (own := [("number", 10)]) rfl sc_law.nd (ci_range1 (by rfl) T.z_range (ca_cons ce_int ca_nil)) (blkOk_by (own := [("number", 10)]) (N := ["script", "rounds", "program", "start", "back", "told", "found", "size", "spoilt", "more", "number", "error", "many", "one"]) (sc := defScope s_law) (by decide +kernel)) (fun _ _ _ _ _ => (cg_name (i := 10) sc_law.nd rfl (.inl rfl))) (keep_gname (by decide)) (fun _ _ _ _ _ => cts_nil) (fun _ _ _ _ _ => (ce_meth (ce_var 6 rfl (by first | exact Or.inl rfl | exact Or.inr (Or.inl rfl) | exact Or.inr (Or.inr rfl))) T.c_Recurrence T.x_Recurrence_value (ok_Recurrence_value T) (hr.mono (by decide)) (ca_cons (ce_var 10 rfl (by first | exact Or.inl rfl | exact Or.inr (Or.inl rfl) | exact Or.inr (Or.inr rfl))) ca_nil)))) (ce_var 5 rfl (by first | exact Or.inl rfl | exact Or.inr (Or.inl rfl) | exact Or.inr (Or.inr rfl)))) (css_one (cs_ret ce_bl)) css_nil) (css_cons (cs_if (ct_gt (ce_var 7 rfl (by first | exact Or.inl rfl | exact Or.inr (Or.inl rfl) | exact Or.inr (Or.inr rfl))) ce_int) (css_cons (cs_asg (ce_add (ce_sl (ce_fld ["Recurrence"] (fo_cons T.c_Recurrence T.n_Recurrence_factors fo_nil) (ce_var 6 rfl (by first | exact Or.inl rfl | exact Or.inr (Or.inl rfl) | exact Or.inr (Or.inr rfl))) rfl) co_none (co_some (ce_neg ce_int))) (ce_lst (ca_cons (ce_tup (ca_cons (ce_add (ce_ix (ce_ix (ce_fld ["Recurrence"] (fo_cons T.c_Recurrence T.n_Recurrence_factors fo_nil) (ce_var 6 rfl (by first | exact Or.inl rfl | exact Or.inr (Or.inl rfl) | exact Or.inr (Or.inr rfl))) rfl) (ce_neg ce_int) (fun _ _ => rfl)) ce_int (fun _ _ => rfl)) (ce_ix (ce_ix (ce_fld ["Recurrence"] (fo_cons T.c_Recurrence T.n_Recurrence_factors fo_nil) (ce_var 6 rfl (by first | exact Or.inl rfl | exact Or.inr (Or.inl rfl) | exact Or.inr (Or.inr rfl))) rfl) (ce_neg ce_int) (fun _ _ => rfl)) ce_int (fun _ _ => rfl))) (ca_cons (ce_ix (ce_ix (ce_fld ["Recurrence"] (fo_cons T.c_Recurrence T.n_Recurrence_factors fo_nil) (ce_var 6 rfl (by first | exact Or.inl rfl | exact Or.inr (Or.inl rfl) | exact Or.inr (Or.inr rfl))) rfl) (ce_neg ce_int) (fun _ _ => rfl)) ce_int (fun _ _ => rfl)) ca_nil))) ca_nil))) (cg_name (i := 8) sc_law.nd rfl (.inl rfl))) (css_cons (cs_if (cw_t (cw_and (ct_val (ce_callBK (fun K => rAny K) (cr_any rfl) calls_any (by rfl) T.z_any (by decide +kernel) (ca_cons (ce_lc false (own := [("one", 13)]) rfl sc_law.nd (ci_seq (ce_var 5 rfl (by first | exact Or.inl rfl | exact Or.inr (Or.inl rfl) | exact Or.inr (Or.inr rfl)))) (blkOk_by (own := [("one", 13)]) (N := ["script", "rounds", "program", "start", "back", "told", "found", "size", "spoilt", "more", "number", "error", "many", "one"]) (sc := defScope s_law) (by decide +kernel)) (fun _ _ _ _ _ => (cg_name (i := 13) sc_law.nd rfl (.inl rfl))) (keep_gname (by decide)) (fun _ _ _ _ _ => cts_nil) (fun _ _ _ _ _ => (ce_ne hr.units (ce_var 13 rfl (by first | exact Or.inl rfl | exact Or.inr (Or.inl rfl) | exact Or.inr (Or.inr rfl))) (ce_tup (ca_cons ce_int (ca_cons ce_int ca_nil)))))) ca_nil))) (cw_and (ct_val (ce_meth (ce_make false T.k_Recurrence (ok_Recurrence___init__ T) (hr.mono (by decide)) (by rfl) T.m_Recurrence (ca_cons (ce_var 8 rfl (by first | exact Or.inl rfl | exact Or.inr (Or.inl rfl) | exact Or.inr (Or.inr rfl))) (ca_cons (ce_fld ["Recurrence"] (fo_cons T.c_Recurrence T.n_Recurrence_firsts fo_nil) (ce_var 6 rfl (by first | exact Or.inl rfl | exact Or.inr (Or.inl rfl) | exact Or.inr (Or.inr rfl))) rfl) ca_nil))) T.c_Recurrence T.x_Recurrence_shows (ok_Recurrence_shows T) (hr.mono (by decide)) (ca_cons (ce_var 2 rfl (by first | exact Or.inl rfl | exact Or.inr (Or.inl rfl) | exact Or.inr (Or.inr rfl))) (ca_cons (ce_var 3 rfl (by first | exact Or.inl rfl | exact Or.inr (Or.inl rfl) | exact Or.inr (Or.inr rfl))) (ca_cons (ce_var 4 rfl (by first | exact Or.inl rfl | exact Or.inr (Or.inl rfl) | exact Or.inr (Or.inr rfl))) ca_nil))))) (cw_and1 (ct_not (ct_truth (ce_call (ok__law_goes_on T) (hr.mono (by decide)) (by rfl) T.m__law_goes_on (ca_cons (ce_var 8 rfl (by first | exact Or.inl rfl | exact Or.inr (Or.inl rfl) | exact Or.inr (Or.inr rfl))) (ca_cons (ce_var 5 rfl (by first | exact Or.inl rfl | exact Or.inr (Or.inl rfl) | exact Or.inr (Or.inr rfl))) (ca_cons (ce_var 7 rfl (by first | exact Or.inl rfl | exact Or.inr (Or.inl rfl) | exact Or.inr (Or.inr rfl))) ca_nil)))))))))) (css_one (cs_ret ce_bl)) css_nil) (css_cons (cs_if (ct_val (ce_meth (ce_make false T.k_Recurrence (ok_Recurrence___init__ T) (hr.mono (by decide)) (by rfl) T.m_Recurrence (ca_cons (ce_fld ["Recurrence"] (fo_cons T.c_Recurrence T.n_Recurrence_factors fo_nil) (ce_var 6 rfl (by first | exact Or.inl rfl | exact Or.inr (Or.inl rfl) | exact Or.inr (Or.inr rfl))) rfl) (ca_cons (ce_lc false (own := [("number", 10)]) rfl sc_law.nd (ci_seq (ce_fld ["Recurrence"] (fo_cons T.c_Recurrence T.n_Recurrence_firsts fo_nil) (ce_var 6 rfl (by first | exact Or.inl rfl | exact Or.inr (Or.inl rfl) | exact Or.inr (Or.inr rfl))) rfl)) (blkOk_by (own := [("number", 10)]) (N := ["script", "rounds", "program", "start", "back", "told", "found", "size", "spoilt", "more", "number", "error", "many", "one"]) (sc := defScope s_law) (by decide +kernel)) (fun _ _ _ _ _ => (cg_name (i := 10) sc_law.nd rfl (.inl rfl))) (keep_gname (by decide)) (fun _ _ _ _ _ => cts_nil) (fun _ _ _ _ _ => (ce_tup (ca_cons (ce_add (ce_ix (ce_var 10 rfl (by first | exact Or.inl rfl | exact Or.inr (Or.inl rfl) | exact Or.inr (Or.inr rfl))) ce_int (fun _ _ => rfl)) (ce_ix (ce_var 10 rfl (by first | exact Or.inl rfl | exact Or.inr (Or.inl rfl) | exact Or.inr (Or.inr rfl))) ce_int (fun _ _ => rfl))) (ca_cons (ce_ix (ce_var 10 rfl (by first | exact Or.inl rfl | exact Or.inr (Or.inl rfl) | exact Or.inr (Or.inr rfl))) ce_int (fun _ _ => rfl)) ca_nil))))) ca_nil))) T.c_Recurrence T.x_Recurrence_shows (ok_Recurrence_shows T) (hr.mono (by decide)) (ca_cons (ce_var 2 rfl (by first | exact Or.inl rfl | exact Or.inr (Or.inl rfl) | exact Or.inr (Or.inr rfl))) (ca_cons (ce_var 3 rfl (by first | exact Or.inl rfl | exact Or.inr (Or.inl rfl) | exact Or.inr (Or.inr rfl))) (ca_cons (ce_var 4 rfl (by first | exact Or.inl rfl | exact Or.inr (Or.inl rfl) | exact Or.inr (Or.inr rfl))) ca_nil))))) (css_one (cs_ret ce_bl)) css_nil) (css_one (cs_if (ct_val (ce_meth (ce_make false T.k_Recurrence (ok_Recurrence___init__ T) (hr.mono (by decide)) (by rfl) T.m_Recurrence (ca_cons (ce_sl (ce_fld ["Recurrence"] (fo_cons T.c_Recurrence T.n_Recurrence_factors fo_nil) (ce_var 6 rfl (by first | exact Or.inl rfl | exact Or.inr (Or.inl rfl) | exact Or.inr (Or.inr rfl))) rfl) (co_some ce_int) co_none) (ca_cons (ce_sl (ce_fld ["Recurrence"] (fo_cons T.c_Recurrence T.n_Recurrence_firsts fo_nil) (ce_var 6 rfl (by first | exact Or.inl rfl | exact Or.inr (Or.inl rfl) | exact Or.inr (Or.inr rfl))) rfl) (co_some ce_int) co_none) ca_nil))) T.c_Recurrence T.x_Recurrence_shows (ok_Recurrence_shows T) (hr.mono (by decide)) (ca_cons (ce_var 2 rfl (by first | exact Or.inl rfl | exact Or.inr (Or.inl rfl) | exact Or.inr (Or.inr rfl))) (ca_cons (ce_var 3 rfl (by first | exact Or.inl rfl | exact Or.inr (Or.inl rfl) | exact Or.inr (Or.inr rfl))) (ca_cons (ce_var 4 rfl (by first | exact Or.inl rfl | exact Or.inr (Or.inl rfl) | exact Or.inr (Or.inr rfl))) ca_nil))))) (css_one (cs_ret ce_bl)) css_nil))))) css_nil) (css_cons (cs_asg (ce_make false T.k_Recurrence (ok_Recurrence___init__ T) (hr.mono (by decide)) (by rfl) T.m_Recurrence (ca_cons (ce_add (ce_lst (ca_cons (ce_tup (ca_cons ce_int (ca_cons ce_int ca_nil))) ca_nil)) (ce_fld ["Recurrence"] (fo_cons T.c_Recurrence T.n_Recurrence_factors fo_nil) (ce_var 6 rfl (by first | exact Or.inl rfl | exact Or.inr (Or.inl rfl) | exact Or.inr (Or.inr rfl))) rfl)) (ca_cons (ce_sl (ce_var 5 rfl (by first | exact Or.inl rfl | exact Or.inr (Or.inl rfl) | exact Or.inr (Or.inr rfl))) co_none (co_some (ce_add (ce_var 7 rfl (by first | exact Or.inl rfl | exact Or.inr (Or.inl rfl) | exact Or.inr (Or.inr rfl))) ce_int))) ca_nil))) (cg_name (i := 9) sc_law.nd rfl (.inl rfl))) (css_cons (cs_if (cw_t (cw_or (ct_not (ct_val (ce_meth (ce_var 9 rfl (by first | exact Or.inl rfl | exact Or.inr (Or.inl rfl) | exact Or.inr (Or.inr rfl))) T.c_Recurrence T.x_Recurrence_shows (ok_Recurrence_shows T) (hr.mono (by decide)) (ca_cons (ce_var 2 rfl (by first | exact Or.inl rfl | exact Or.inr (Or.inl rfl) | exact Or.inr (Or.inr rfl))) (ca_cons (ce_var 3 rfl (by first | exact Or.inl rfl | exact Or.inr (Or.inl rfl) | exact Or.inr (Or.inr rfl))) (ca_cons (ce_var 4 rfl (by first | exact Or.inl rfl | exact Or.inr (Or.inl rfl) | exact Or.inr (Or.inr rfl))) ca_nil)))))) (cw_or1 (ct_neO (ok_Recurrence___eq__ T) T.x_Recurrence___eq__ T.ne_Recurrence T.ob_Recurrence (hr.mono (by decide)) (ce_make false T.k_Recurrence (ok_Recurrence___init__ T) (hr.mono (by decide)) (by rfl) T.m_Recurrence (ca_cons (ce_callTyK (fun K => WD.rTupS K) WD.call_tupS calls_tuple (by rfl) T.z_tuple (by decide +kernel) (ca_cons (ce_fld ["Recurrence"] (fo_cons T.c_Recurrence T.n_Recurrence_factors fo_nil) (ce_var 6 rfl (by first | exact Or.inl rfl | exact Or.inr (Or.inl rfl) | exact Or.inr (Or.inr rfl))) rfl) ca_nil)) (ca_cons (ce_callTyK (fun K => WD.rTupS K) WD.call_tupS calls_tuple (by rfl) T.z_tuple (by decide +kernel) (ca_cons (ce_fld ["Recurrence"] (fo_cons T.c_Recurrence T.n_Recurrence_firsts fo_nil) (ce_var 6 rfl (by first | exact Or.inl rfl | exact Or.inr (Or.inl rfl) | exact Or.inr (Or.inr rfl))) rfl) ca_nil)) ca_nil))) (ce_var 6 rfl (by first | exact Or.inl rfl | exact Or.inr (Or.inl rfl) | exact Or.inr (Or.inr rfl))))))) (css_one (cs_ret ce_bl)) css_nil) (css_cons (cs_for rfl (ci_range1 (by rfl) T.z_range (ca_cons ce_int ca_nil)) (cg_name (i := 10) sc_law.nd rfl (.inl rfl)) (css_one (cs_try_manyE T.xt rfl rfl (fun W pn xe => (css_cons (cs_if (ct_eq hr.units (ce_var 10 rfl (by first | exact Or.inl rfl | exact Or.inr (Or.inl rfl) | exact Or.inr (Or.inr rfl))) ce_int) (css_one (cs_expr (ce_call (ok_amount T) (hr.mono (by decide)) (by rfl) T.m_amount (ca_cons (ce_var 2 rfl (by first | exact Or.inl rfl | exact Or.inr (Or.inl rfl) | exact Or.inr (Or.inr rfl))) (ca_cons ce_str (ca_cons (ce_var 4 rfl (by first | exact Or.inl rfl | exact Or.inr (Or.inl rfl) | exact Or.inr (Or.inr rfl))) (ca_cons ce_int ca_nil))))))) (css_one (cs_if (ct_eq hr.units (ce_var 10 rfl (by first | exact Or.inl rfl | exact Or.inr (Or.inl rfl) | exact Or.inr (Or.inr rfl))) ce_int) (css_one (cs_expr (ce_call (ok_amount T) (hr.mono (by decide)) (by rfl) T.m_amount (ca_cons (ce_var 2 rfl (by first | exact Or.inl rfl | exact Or.inr (Or.inl rfl) | exact Or.inr (Or.inr rfl))) (ca_cons (ce_var 3 rfl (by first | exact Or.inl rfl | exact Or.inr (Or.inl rfl) | exact Or.inr (Or.inr rfl))) (ca_cons ce_int (ca_cons ce_int ca_nil))))))) (css_one (cs_if (ct_eq hr.units (ce_var 10 rfl (by first | exact Or.inl rfl | exact Or.inr (Or.inl rfl) | exact Or.inr (Or.inr rfl))) ce_int) (css_one (cs_expr (ce_call (ok_amount T) (hr.mono (by decide)) (by rfl) T.m_amount (ca_cons (ce_var 2 rfl (by first | exact Or.inl rfl | exact Or.inr (Or.inl rfl) | exact Or.inr (Or.inr rfl))) (ca_cons (ce_var 3 rfl (by first | exact Or.inl rfl | exact Or.inr (Or.inl rfl) | exact Or.inr (Or.inr rfl))) (ca_cons (ce_var 4 rfl (by first | exact Or.inl rfl | exact Or.inr (Or.inl rfl) | exact Or.inr (Or.inr rfl))) (ca_cons (ce_var 4 rfl (by first | exact Or.inl rfl | exact Or.inr (Or.inl rfl) | exact Or.inr (Or.inr rfl))) ca_nil))))))) (css_one (cs_if (ct_eq hr.units (ce_var 10 rfl (by first | exact Or.inl rfl | exact Or.inr (Or.inl rfl) | exact Or.inr (Or.inr rfl))) ce_int) (css_one (cs_expr (ce_call (ok_amounts T) (hr.mono (by decide)) (by rfl) T.m_amounts (ca_cons ce_non (ca_cons (ce_var 3 rfl (by first | exact Or.inl rfl | exact Or.inr (Or.inl rfl) | exact Or.inr (Or.inr rfl))) (ca_cons (ce_var 4 rfl (by first | exact Or.inl rfl | exact Or.inr (Or.inl rfl) | exact Or.inr (Or.inr rfl))) (ca_cons ce_int ca_nil))))))) (css_one (cs_expr (ce_call (ok_recurrence T) (hr.mono (by decide)) (by rfl) T.m_recurrence (ca_cons (ce_var 2 rfl (by first | exact Or.inl rfl | exact Or.inr (Or.inl rfl) | exact Or.inr (Or.inr rfl))) (ca_cons ce_int (ca_cons (ce_var 4 rfl (by first | exact Or.inl rfl | exact Or.inr (Or.inl rfl) | exact Or.inr (Or.inr rfl))) ca_nil))))))))))))) (css_one (cs_ret ce_bl)))) (.only (cls := "BadStart") ⟨rfl, by decide, .inl T.m_BadStart⟩ ⟨fun a oe cls d pn hz hf => (css_one (cs_if (ct_eq hr.units (ce_var 10 rfl (by first | exact Or.inl rfl | exact Or.inr (Or.inl rfl) | exact Or.inr (Or.inr rfl))) ce_int) (css_one (cs_ret ce_bl)) css_nil))⟩ (.named (cls := "BadProgram") (i := 11) sc_law.nd rfl rfl ⟨rfl, by decide, .inl T.m_BadProgram⟩ ⟨fun a oe cls d pn hz hf => (css_one (cs_if (cw_t (cw_or (ct_ne hr.units (ce_var 10 rfl (by first | exact Or.inl rfl | exact Or.inr (Or.inl rfl) | exact Or.inr (Or.inr rfl))) ce_int) (cw_or1 (ct_notN (ce_err (T.s_BadProgram T.hp T.ht) hz hf (pv 11)) ce_non)))) (css_one (cs_ret ce_bl)) css_nil))⟩ .nil))))) (css_one (cs_ret ce_bl)))))))))))))))⟩) law_true
end
end Lk04
end
section
set_option Elab.async false
set_option linter.all false
set_option maxRecDepth 100000
set_option maxHeartbeats 0
namespace Lk04
open PySem PySem.Spec PyProof.Rows L2
theorem facts {P : Program} {w : World} {K : PySem.W.Frag} {h : Heap} {mg : Str → Option Value} {f : Addr} (hp : P.main.file = fileS) (ht : (P.main.scope.names.lookup ("super" : Str)).isSome = false) (X : K.In h) (G : h.Ns mainGlobals mg) (hfa : mg ("law" : Str) = some (.ref f)) (c : SupX.SaysX fa fn xs fileS exB tabs w K) :
    ∃ fd : FuncData, (∀ (s : Shared) (v : Value), BindsTo s fd ⟨[v], []⟩ [("script", v)]) ∧ (∀ (H : Hp) (a : Addr) (ns : List Int), ns.length ≤ 63 → SqL K H a (ns.map V.int) → PM.lawSp K [.ref a] H (fun v _ => v = .bl true) fun _ _ _ => False) ∧ ∀ base : Heap, K.In base → base.Ns mainGlobals mg → FnOk P w K mg base (L2.CX P w) 6 f fd ["script"] (PM.lawSp K) := by
  have T : Tx P K mg := ⟨⟨⟨_, X, G⟩, c.s⟩, hp, ht⟩
  obtain ⟨fd, F⟩ := T.f_law
  have F' : FunD K "law" "law" (defArgs s_law) (defBody s_law) (defScope s_law) [] [] (He.ga K "law") fd := F
  have e := hfa.symm.trans T.m_law
  cases e
  have b := FunD.bindsA (ps := ["script"]) F' fun _ _ _ _ _ _ us hl => match us, hl with | [_], _ => rfl
  exact ⟨fd, fun s v => b s [v] rfl, fun H a ns hl hS => ⟨a, ns, rfl, hl, WD.rd_of T.noL hS, fun _ => rfl⟩, fun base _ _ => ok_law T F'⟩
end Lk04
open PySem PySem.W PySem.Calls PyProof.Rows
theorem PySem.Challenge.cw_weirlines_k04_whole_amounts_holds : PySem.Challenge.rw_weirlines_k04_whole_amounts.Holds := by
  w_on; o_law
  refine HandSHeadRun.head_imp (r := OpenLaw.row PySem.Challenge.rw_weirlines_k04_whole_amounts) (q := view (OpenLaw.row PySem.Challenge.rw_weirlines_k04_whole_amounts).prog [0, 58]) (H := Lk04.hk) (ob := Lk04.ob) (M := 12000) (loose := Lk04.loose) (d := HandSHeadRun.topDef (OpenLaw.row PySem.Challenge.rw_weirlines_k04_whole_amounts).prog 58) (kwd := []) Lk04.ob_eq
    Lk04.run (by kernel_rfl) (by kernel_rfl) (by kernel_rfl) (by rfl) (by first | assumption | decide +kernel) (by decide +kernel) ⟨rfl, rfl, rfl, rfl, rfl, by decide +kernel⟩ ?hw ?hc
  case hw => w_witness2
  case hc =>
    refine LamX.walk_ofTsE (l := PySem.Challenge.rw_weirlines_k04_whole_amounts) (n := 63) (k := 6) (x := "script") (CX := fun w => L2.CX PySem.Challenge.rw_weirlines_k04_whole_amounts.prog w) rfl (by decide) (by kernel_rfl) ⟨rfl, by decide, by decide⟩ ?F ?CX
    case CX =>
      intro w H s e s' z
      obtain ⟨_, _, _, _, _, _, _, _, _, _, _, _, z⟩ := z
      exact z
    case F =>
      intro w mg fa h Y G hmg0
      obtain ⟨K, KX, c⟩ := Y
      have hmg : mg ("law" : PySem.Str) = some (.ref fa) := by
        have e : (HandSHeadRun.topDef (OpenLaw.row PySem.Challenge.rw_weirlines_k04_whole_amounts).prog 58).name = ("law" : PySem.Str) := by kernel_rfl
        rw [← e]
        exact hmg0
      obtain ⟨fd, hb, hS, hF⟩ := Lk04.facts (P := PySem.Challenge.rw_weirlines_k04_whole_amounts.prog) (w := w) (by rfl) (by rfl) KX G hmg c
      exact ⟨K, KX, fd, [], PM.lawSp K, (fun p hp => nomatch hp), (fun p hp => nomatch hp), (fun p hp => nomatch hp), hb, fun H a ns hl _ _ hq => hS H a ns hl hq, fun base hK hN _ => hF base hK hN⟩
end
